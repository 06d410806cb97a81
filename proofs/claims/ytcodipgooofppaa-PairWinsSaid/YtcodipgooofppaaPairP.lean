/- What the document's put of package pair returns: a contract. -/
import Derived.Test.YtcodipgooofppaaPairG
import Derived.Test.YtcodipgooofppaaRowP
namespace Go.Proofs.Ytcodipgooofppaa.PairP
open Go Go.RowKit Byt OpsM OpsK Rise PairM PairN RowS RowB PairW PairR PairS PairG

set_option maxRecDepth 100000 in
set_option maxHeartbeats 16000000 in
theorem put_ret (A : Option Addr) (cap : Nat) (l : List Pr) (p : Pr) (w : World) (S : SlR E w A cap l) (hr : RisP l) (hl : l.length ≤ 1000000) :
    Calls Try.prog 26 #[.slice A l.length cap, .agg (pc p)] w (NewS E (putP l p) w) := by
  have Z : Below w.heap.size w (w.alloc (.cells (pc p) 26)) := below_alloc _ _
  have N : Box E (w.alloc (.cells (pc p) 26)) w.heap.size p := Box.new w p _
  have S0 := S.below Z
  have ch := fun W S => has_ret A cap l p W S
  have hcap := S.1
  by_cases hp : p ∈ l
  · rw [decide_eq_true hp] at ch
    have HP : Hid (putP l p = l) := aside (if_pos hp)
    clear hp hr S
    go_enter Try.func26, Try.ntmps26
    go_wp2_with (first | (refine wpList_load_box E rfl _ rfl _ rfl p N ?_))
    refine (ch _ S0).mono ?_
    rintro e w1 ⟨rfl, h1⟩
    have S1 := S0.below h1
    have k1 := Z.trans (h1.mono Z.size)
    clear S0 N h1 ch Z
    go_wp2_with fail
    go_ret
    rw [HP.out]
    exact ⟨A, cap, rfl, S1, k1⟩
  · rw [decide_eq_false hp] at ch
    have HAt := aside (fun (k : Nat) hk h1 h2 => put_at (k := k) hr hp hk h1 h2)
    clear hp hr S
    go_enter Try.func26, Try.ntmps26
    go_wp2_with (first | (refine wpList_load_box E rfl _ rfl _ rfl p N ?_))
    refine (ch _ S0).mono ?_
    rintro e w1 ⟨rfl, h1⟩
    have S1 := S0.below h1
    have N1 := N.below h1
    have k1 := Z.trans (h1.mono Z.size)
    clear S0 N h1 ch Z
    go_wp2
    go_loopw [6] (fun i wr => ∃ k : Nat, k ≤ l.length ∧ i = .int .i64 k ∧ Hid (∀ (i : Nat) (x : Pr), k ≤ i → l[i]? = some x → lessP p x = true) ∧ Below w1.heap.size w1 wr) (fun i _ => (intOf i).toNat)
    case atStart => exact ⟨l.length, Nat.le_refl _, rfl, aside (fun i x h hx => by rw [List.getElem?_eq_none (by omega)] at hx; cases hx), Below.refl _ _⟩
    case round =>
      obtain ⟨k, hk, rfl, HG, kb⟩ := hrel
      by_cases hk0 : 0 < k
      · obtain ⟨m, hm⟩ : ∃ m, m + 1 = k := ⟨k - 1, by omega⟩
        obtain ⟨y, hy⟩ : ∃ y, l[m]? = some y := ⟨_, List.getElem?_eq_getElem (by omega)⟩
        obtain ⟨b, off, hA, hbw, hr1⟩ := PairW.plain S1 (by omega)
        subst hA
        have HY := aside (hr1 m y hy)
        have q0 : 0 < (k : Int) := by omega
        have q1 : (m : Int) < l.length := by omega
        have q3 : ((m : Int)).toNat = m := by omega
        have hwr : IntKind.i64.wrap ((k : Int) - 1) = (m : Int) := by rw [IntKind.wrap_i64]; omega
        have cn := fun W => less_ret p y W
        have HYY := aside hy
        have HM := aside hm
        clear hm hr1 hy
        cases hz : lessP p y with
        | true =>
          have HG2 : Hid (∀ (i : Nat) (x : Pr), m ≤ i → l[i]? = some x → lessP p x = true) := aside (fun i x h hx => by
            by_cases e : i = m
            · rw [e, HYY.out] at hx
              injection hx with hx
              rw [← hx]
              exact hz
            · exact HG.out i x (by have := HM.out; omega) hx)
          rw [hz] at cn
          have HZ := aside hz
          clear hz HG S1
          go_wp2_with fail
          refine Grow.region [(0, true), (1, true), (2, true), (3, true), (4, true), (5, true), (6, false), (7, true)] (by kernel_rfl) (by kernel_rfl) rfl (by kernel_rfl) (by intro c a d v w h; cases d <;> exact h) ?_
          have kd := below_drew1 kb
          have rx := (N1.below kd).range
          have ry := range_below HY.out kd
          have hsx : w1.heap.size ≤ wr.drew.heap.size := kb.size
          generalize wr.drew = wd at kd rx ry hsx ⊢
          repeat (first | (refine RowG.reads_row E rfl rfl _ rfl _ _ rfl y ry ?_; simp only [Act.put, List.setIfInBounds_toArray, List.set_cons_succ, List.set_cons_zero]) | (refine RowG.reads_row E rfl rfl _ rfl _ _ rfl p rx ?_; simp only [Act.put, List.setIfInBounds_toArray, List.set_cons_succ, List.set_cons_zero]) | (refine Grow.reads rfl rfl ?_; go_big_quiet_step (fail); refine wpQuiet_nil ?_))
          refine Grow.acts rfl ?_
          go_wp2_with fail
          refine (cn _).mono ?_
          rintro e we ⟨rfl, he⟩
          have ke := kd.trans (he.mono kd.size)
          clear rx ry kd
          go_wp2_with fail
          refine ⟨he, ?_⟩
          clear he
          repeat (first | (refine Grow.reads rfl rfl ?_; go_big_quiet_step (fail); refine wpQuiet_nil ?_))
          refine Grow.ends ?_
          go_wp2_with fail
          go_roundw
          case rel => exact ⟨m, by omega, by go_num, HG2, ke⟩
          case measure => simp [intOf]; have := HM.out; omega
        | false =>
          have HP : Hid (putP l p = l.take k ++ p :: l.drop k) := aside (HAt.out k hk HG.out (fun x _ hx => by
            have e : k - 1 = m := by have := HM.out; omega
            rw [e, HYY.out] at hx
            injection hx with hx
            rw [← hx]
            exact hz))
          rw [hz] at cn
          clear hz HG
          go_wp2_with fail
          refine Grow.region [(0, true), (1, true), (2, true), (3, true), (4, true), (5, true), (6, false), (7, true)] (by kernel_rfl) (by kernel_rfl) rfl (by kernel_rfl) (by intro c a d v w h; cases d <;> exact h) ?_
          have kd := below_drew1 kb
          have rx := (N1.below kd).range
          have ry := range_below HY.out kd
          have hsx : w1.heap.size ≤ wr.drew.heap.size := kb.size
          generalize wr.drew = wd at kd rx ry hsx ⊢
          repeat (first | (refine RowG.reads_row E rfl rfl _ rfl _ _ rfl y ry ?_; simp only [Act.put, List.setIfInBounds_toArray, List.set_cons_succ, List.set_cons_zero]) | (refine RowG.reads_row E rfl rfl _ rfl _ _ rfl p rx ?_; simp only [Act.put, List.setIfInBounds_toArray, List.set_cons_succ, List.set_cons_zero]) | (refine Grow.reads rfl rfl ?_; go_big_quiet_step (fail); refine wpQuiet_nil ?_))
          refine Grow.acts rfl ?_
          go_wp2_with fail
          refine (cn _).mono ?_
          rintro e we ⟨rfl, he⟩
          have ke := kd.trans (he.mono kd.size)
          clear rx ry kd
          go_wp2_with fail
          refine ⟨he, ?_⟩
          clear he
          repeat (first | (refine Grow.reads rfl rfl ?_; go_big_quiet_step (fail); refine wpQuiet_nil ?_))
          refine Grow.ends ?_
          have NE := N1.below ke
          have SE := S1.below ke
          have kz := k1.trans (ke.mono k1.size)
          clear N1 S1 ke kb hwr q1 q3
          obtain ⟨A1, c1, hp1, S1⟩ := RowP.ahead SE k hk
          obtain ⟨A2, c2, hp2, S2⟩ := RowP.behind SE k hk
          have hq1 : ∀ W, (Instr.sliceAt 22 (.slice (some ⟨b, off, none⟩) l.length cap) none (some (.int .i64 k)) none).run Try.prog W = .ok (.slice A1 k c1) W := fun W => hp1 W .i64
          have hq2 : ∀ W, (Instr.sliceAt 22 (.slice (some ⟨b, off, none⟩) l.length cap) (some (.int .i64 k)) none none).run Try.prog W = .ok (.slice A2 (l.length - k) c2) W := fun W => hp2 W .i64
          have hl1 : (l.take k).length = k := by rw [List.length_take]; omega
          have hl2 : (l.drop k).length = l.length - k := by rw [List.length_drop]
          have HL1 := aside hl1
          have HL2 := aside hl2
          clear hp1 hp2 hl1 hl2
          go_wp2_with (first
            | (refine wpList_append E rfl (.const (.slice none 0 0)) (.tmp 31) rfl we.heap.size (.slice none 0 0) 0 [] rfl (World.ownsRow_nil _ _ _ _) A1 k c1 (l.take k) rfl HL1.out S1 (by omega) (Nat.le_refl _) ?_; intro v3 w3 own3 g3; rw [Nat.zero_add, List.nil_append] at own3; have k3 : Below we.heap.size we w3 := below_grown (Below.refl _ _) (Nat.le_refl _) g3 (fun q hq => by cases hq); clear g3; have b3 := NE.below k3)
            | (refine wpList_load_box E rfl _ rfl _ rfl p b3 ?_)
            | (refine RowC.wpList_build1 E (of_decide_eq_true rfl) rfl _ rfl p rfl ?_)
            | (refine wpList_append_new E rfl (.tmp 33) (.tmp 35) rfl we.heap.size v3 k (l.take k) rfl w3 p _ rfl rfl own3 (by omega) k3.size ?_; intro v4 w4 own4 h4; have k4 := k3.trans h4; clear h4 own3 k3 b3)
            | (refine wpList_append E rfl (.tmp 37) (.tmp 40) rfl we.heap.size v4 (k + 1) (l.take k ++ [p]) rfl own4 A2 (l.length - k) c2 (l.drop k) rfl HL2.out (S2.below k4) (by omega) k4.size ?_; intro v5 w5 own5 g5; have k5 := below_grown k4 k4.size g5 (fun q hq => (own4.lt q hq).1); clear g5 own4 k4))
          obtain ⟨A5, c5, e5, S5⟩ := SlR.own (own5 : w5.ownsRow we.heap.size E.T E.k v5 (k + 1 + (l.length - k)) _)
          have hlen : (putP l p).length = k + 1 + (l.length - k) := by rw [HP.out, List.length_append, List.length_cons, HL1.out, HL2.out]; omega
          have HE := aside e5
          clear e5
          go_ret
          refine ⟨A5, c5, ?_, by rw [HP.out]; simpa using S5, kz.trans (k5.mono kz.size)⟩
          rw [HP.out, HE.out]
          simp
      · have HP : Hid (putP l p = l.take k ++ p :: l.drop k) := aside (HAt.out k hk HG.out (fun x h _ => absurd h hk0))
        have q0 : ¬ (0 < (k : Int)) := by omega
        have NE := N1.below kb
        have SE := S1.below kb
        have kz := k1.trans (kb.mono k1.size)
        clear N1 S1 kb hk0 HG
        obtain ⟨A1, c1, hp1, S1⟩ := RowP.ahead SE k hk
        obtain ⟨A2, c2, hp2, S2⟩ := RowP.behind SE k hk
        have hq1 : ∀ W, (Instr.sliceAt 22 (.slice A l.length cap) none (some (.int .i64 k)) none).run Try.prog W = .ok (.slice A1 k c1) W := fun W => hp1 W .i64
        have hq2 : ∀ W, (Instr.sliceAt 22 (.slice A l.length cap) (some (.int .i64 k)) none none).run Try.prog W = .ok (.slice A2 (l.length - k) c2) W := fun W => hp2 W .i64
        have hl1 : (l.take k).length = k := by rw [List.length_take]; omega
        have hl2 : (l.drop k).length = l.length - k := by rw [List.length_drop]
        have HL1 := aside hl1
        have HL2 := aside hl2
        clear hp1 hp2 hl1 hl2
        go_wp2_with (first
          | (refine wpList_append E rfl (.const (.slice none 0 0)) (.tmp 31) rfl wr.heap.size (.slice none 0 0) 0 [] rfl (World.ownsRow_nil _ _ _ _) A1 k c1 (l.take k) rfl HL1.out S1 (by omega) (Nat.le_refl _) ?_; intro v3 w3 own3 g3; rw [Nat.zero_add, List.nil_append] at own3; have k3 : Below wr.heap.size wr w3 := below_grown (Below.refl _ _) (Nat.le_refl _) g3 (fun q hq => by cases hq); clear g3; have b3 := NE.below k3)
          | (refine wpList_load_box E rfl _ rfl _ rfl p b3 ?_)
          | (refine RowC.wpList_build1 E (of_decide_eq_true rfl) rfl _ rfl p rfl ?_)
          | (refine wpList_append_new E rfl (.tmp 33) (.tmp 35) rfl wr.heap.size v3 k (l.take k) rfl w3 p _ rfl rfl own3 (by omega) k3.size ?_; intro v4 w4 own4 h4; have k4 := k3.trans h4; clear h4 own3 k3 b3)
          | (refine wpList_append E rfl (.tmp 37) (.tmp 40) rfl wr.heap.size v4 (k + 1) (l.take k ++ [p]) rfl own4 A2 (l.length - k) c2 (l.drop k) rfl HL2.out (S2.below k4) (by omega) k4.size ?_; intro v5 w5 own5 g5; have k5 := below_grown k4 k4.size g5 (fun q hq => (own4.lt q hq).1); clear g5 own4 k4))
        obtain ⟨A5, c5, e5, S5⟩ := SlR.own (own5 : w5.ownsRow wr.heap.size E.T E.k v5 (k + 1 + (l.length - k)) _)
        have hlen : (putP l p).length = k + 1 + (l.length - k) := by rw [HP.out, List.length_append, List.length_cons, HL1.out, HL2.out]; omega
        have HE := aside e5
        clear e5
        go_ret
        refine ⟨A5, c5, ?_, by rw [HP.out]; simpa using S5, kz.trans (k5.mono kz.size)⟩
        rw [HP.out, HE.out]
        simp
end Go.Proofs.Ytcodipgooofppaa.PairP
