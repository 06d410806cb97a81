/- What the document's put of package pair returns: a contract. | What the document's Add and Del of package pair return: contracts. | Lists of texts in memory: slices that a walk reads and appends to. No condition. -/
import Derived.Test.YtnjdkjkihbgkaaaGreatPairG
import Derived.Test.YtnjdkjkihbgkaaaGreatRegHJ3
import Derived.Test.YtnjdkjkihbgkaaaGreatKeyMJ4
import Derived.Laws.Tables
namespace Go.Proofs.YtnjdkjkihbgkaaaGreat.PairP
set_option maxRecDepth 100000
open Go Go.RowKit Byt OpsM OpsK Rise PairM PairN RowS RowB PairW PairR PairS PairG

set_option maxRecDepth 100000 in
set_option maxHeartbeats 16000000 in
theorem put_ret (A : Option Addr) (cap : Nat) (l : List Pr) (p : Pr) (w : World) (S : SlR E w A cap l) (hr : RisP l) (hl : l.length ≤ 1000000) :
    Calls Tryz.prog 78 #[.slice A l.length cap, .agg (pc p)] w (NewS E (putP l p) w) := by
  have Z : Below w.heap.size w (w.alloc (.cells (pc p) 63)) := below_alloc _ _
  have N : Box E (w.alloc (.cells (pc p) 63)) w.heap.size p := Box.new w p _
  have S0 := S.below Z
  have ch := fun W S => has_ret A cap l p W S
  have hcap := S.1
  by_cases hp : p ∈ l
  · rw [decide_eq_true hp] at ch
    have HP : Hid (putP l p = l) := aside (if_pos hp)
    clear hp hr S
    go_enter Tryz.func78, Tryz.ntmps78
    go_wp2_with (first | (refine wpList_load_box E rfl _ rfl _ rfl p N ?_))
    refine (ch _ S0).mono ?_
    rintro e w1 ⟨rfl, h1⟩
    have S1 := S0.below h1
    have k1 := Z.trans (h1.mono Z.size)
    clear S0 N h1 ch Z
    go_wp2_with fail
    go_ret
    rw [HP.out]
    exact ⟨A, cap, rfl, S1, k1⟩
  · rw [decide_eq_false hp] at ch
    have HAt := aside (fun (k : Nat) hk h1 h2 => put_at (k := k) hr hp hk h1 h2)
    clear hp hr S
    go_enter Tryz.func78, Tryz.ntmps78
    go_wp2_with (first | (refine wpList_load_box E rfl _ rfl _ rfl p N ?_))
    refine (ch _ S0).mono ?_
    rintro e w1 ⟨rfl, h1⟩
    have S1 := S0.below h1
    have N1 := N.below h1
    have k1 := Z.trans (h1.mono Z.size)
    clear S0 N h1 ch Z
    go_wp2
    go_loopw [6] (fun i wr => ∃ k : Nat, k ≤ l.length ∧ i = .int .i64 k ∧ Hid (∀ (i : Nat) (x : Pr), k ≤ i → l[i]? = some x → lessP p x = true) ∧ Below w1.heap.size w1 wr) (fun i _ => (intOf i).toNat)
    case atStart => exact ⟨l.length, Nat.le_refl _, rfl, aside (fun i x h hx => by rw [List.getElem?_eq_none (by omega)] at hx; cases hx), Below.refl _ _⟩
    case round =>
      obtain ⟨k, hk, rfl, HG, kb⟩ := hrel
      by_cases hk0 : 0 < k
      · obtain ⟨m, hm⟩ : ∃ m, m + 1 = k := ⟨k - 1, by omega⟩
        obtain ⟨y, hy⟩ : ∃ y, l[m]? = some y := ⟨_, List.getElem?_eq_getElem (by omega)⟩
        obtain ⟨b, off, hA, hbw, hr1⟩ := PairW.plain S1 (by omega)
        subst hA
        have HY := aside (hr1 m y hy)
        have q0 : 0 < (k : Int) := by omega
        have q1 : (m : Int) < l.length := by omega
        have q3 : ((m : Int)).toNat = m := by omega
        have hwr : IntKind.i64.wrap ((k : Int) - 1) = (m : Int) := by rw [IntKind.wrap_i64]; omega
        have cn := fun W => less_ret p y W
        have HYY := aside hy
        have HM := aside hm
        clear hm hr1 hy
        cases hz : lessP p y with
        | true =>
          have HG2 : Hid (∀ (i : Nat) (x : Pr), m ≤ i → l[i]? = some x → lessP p x = true) := aside (fun i x h hx => by
            by_cases e : i = m
            · rw [e, HYY.out] at hx
              injection hx with hx
              rw [← hx]
              exact hz
            · exact HG.out i x (by have := HM.out; omega) hx)
          rw [hz] at cn
          have HZ := aside hz
          clear hz HG S1
          go_wp2_with fail
          refine Grow.region [(0, true), (1, true), (2, true), (3, true), (4, true), (5, true), (6, false), (7, true)] (by kernel_rfl) (by kernel_rfl) rfl (by kernel_rfl) (by intro c a d v w h; cases d <;> exact h) ?_
          have kd := below_drew1 kb
          have rx := (N1.below kd).range
          have ry := range_below HY.out kd
          have hsx : w1.heap.size ≤ wr.drew.heap.size := kb.size
          generalize wr.drew = wd at kd rx ry hsx ⊢
          repeat (first | (refine RowG.reads_row E rfl rfl _ rfl _ _ rfl y ry ?_; simp only [Act.put, List.setIfInBounds_toArray, List.set_cons_succ, List.set_cons_zero]) | (refine RowG.reads_row E rfl rfl _ rfl _ _ rfl p rx ?_; simp only [Act.put, List.setIfInBounds_toArray, List.set_cons_succ, List.set_cons_zero]) | (refine Grow.reads rfl rfl ?_; go_big_quiet_step (fail); refine wpQuiet_nil ?_))
          refine Grow.acts rfl ?_
          go_wp2_with fail
          refine (cn _).mono ?_
          rintro e we ⟨rfl, he⟩
          have ke := kd.trans (he.mono kd.size)
          clear rx ry kd
          go_wp2_with fail
          refine ⟨he, ?_⟩
          clear he
          repeat (first | (refine Grow.reads rfl rfl ?_; go_big_quiet_step (fail); refine wpQuiet_nil ?_))
          refine Grow.ends ?_
          go_wp2_with fail
          go_roundw
          case rel => exact ⟨m, by omega, by go_num, HG2, ke⟩
          case measure => simp [intOf]; have := HM.out; omega
        | false =>
          have HP : Hid (putP l p = l.take k ++ p :: l.drop k) := aside (HAt.out k hk HG.out (fun x _ hx => by
            have e : k - 1 = m := by have := HM.out; omega
            rw [e, HYY.out] at hx
            injection hx with hx
            rw [← hx]
            exact hz))
          rw [hz] at cn
          clear hz HG
          go_wp2_with fail
          refine Grow.region [(0, true), (1, true), (2, true), (3, true), (4, true), (5, true), (6, false), (7, true)] (by kernel_rfl) (by kernel_rfl) rfl (by kernel_rfl) (by intro c a d v w h; cases d <;> exact h) ?_
          have kd := below_drew1 kb
          have rx := (N1.below kd).range
          have ry := range_below HY.out kd
          have hsx : w1.heap.size ≤ wr.drew.heap.size := kb.size
          generalize wr.drew = wd at kd rx ry hsx ⊢
          repeat (first | (refine RowG.reads_row E rfl rfl _ rfl _ _ rfl y ry ?_; simp only [Act.put, List.setIfInBounds_toArray, List.set_cons_succ, List.set_cons_zero]) | (refine RowG.reads_row E rfl rfl _ rfl _ _ rfl p rx ?_; simp only [Act.put, List.setIfInBounds_toArray, List.set_cons_succ, List.set_cons_zero]) | (refine Grow.reads rfl rfl ?_; go_big_quiet_step (fail); refine wpQuiet_nil ?_))
          refine Grow.acts rfl ?_
          go_wp2_with fail
          refine (cn _).mono ?_
          rintro e we ⟨rfl, he⟩
          have ke := kd.trans (he.mono kd.size)
          clear rx ry kd
          go_wp2_with fail
          refine ⟨he, ?_⟩
          clear he
          repeat (first | (refine Grow.reads rfl rfl ?_; go_big_quiet_step (fail); refine wpQuiet_nil ?_))
          refine Grow.ends ?_
          have NE := N1.below ke
          have SE := S1.below ke
          have kz := k1.trans (ke.mono k1.size)
          clear N1 S1 ke kb hwr q1 q3
          obtain ⟨A1, c1, hp1, S1⟩ := RowP.ahead SE k hk
          obtain ⟨A2, c2, hp2, S2⟩ := RowP.behind SE k hk
          have hq1 : ∀ W, (Instr.sliceAt 24 (.slice (some ⟨b, off, none⟩) l.length cap) none (some (.int .i64 k)) none).run Tryz.prog W = .ok (.slice A1 k c1) W := fun W => hp1 W .i64
          have hq2 : ∀ W, (Instr.sliceAt 24 (.slice (some ⟨b, off, none⟩) l.length cap) (some (.int .i64 k)) none none).run Tryz.prog W = .ok (.slice A2 (l.length - k) c2) W := fun W => hp2 W .i64
          have hl1 : (l.take k).length = k := by rw [List.length_take]; omega
          have hl2 : (l.drop k).length = l.length - k := by rw [List.length_drop]
          have HL1 := aside hl1
          have HL2 := aside hl2
          clear hp1 hp2 hl1 hl2
          go_wp2_with (first
            | (refine wpList_append E rfl (.const (.slice none 0 0)) (.tmp 31) rfl we.heap.size (.slice none 0 0) 0 [] rfl (World.ownsRow_nil _ _ _ _) A1 k c1 (l.take k) rfl HL1.out S1 (by omega) (Nat.le_refl _) ?_; intro v3 w3 own3 g3; rw [Nat.zero_add, List.nil_append] at own3; have k3 : Below we.heap.size we w3 := below_grown (Below.refl _ _) (Nat.le_refl _) g3 (fun q hq => by cases hq); clear g3; have b3 := NE.below k3)
            | (refine wpList_load_box E rfl _ rfl _ rfl p b3 ?_)
            | (refine RowC.wpList_build1 E (of_decide_eq_true rfl) rfl _ rfl p rfl ?_)
            | (refine wpList_append_new E rfl (.tmp 33) (.tmp 35) rfl we.heap.size v3 k (l.take k) rfl w3 p _ rfl rfl own3 (by omega) k3.size ?_; intro v4 w4 own4 h4; have k4 := k3.trans h4; clear h4 own3 k3 b3)
            | (refine wpList_append E rfl (.tmp 37) (.tmp 40) rfl we.heap.size v4 (k + 1) (l.take k ++ [p]) rfl own4 A2 (l.length - k) c2 (l.drop k) rfl HL2.out (S2.below k4) (by omega) k4.size ?_; intro v5 w5 own5 g5; have k5 := below_grown k4 k4.size g5 (fun q hq => (own4.lt q hq).1); clear g5 own4 k4))
          obtain ⟨A5, c5, e5, S5⟩ := SlR.own (own5 : w5.ownsRow we.heap.size E.T E.k v5 (k + 1 + (l.length - k)) _)
          have hlen : (putP l p).length = k + 1 + (l.length - k) := by rw [HP.out, List.length_append, List.length_cons, HL1.out, HL2.out]; omega
          have HE := aside e5
          clear e5
          go_ret
          refine ⟨A5, c5, ?_, by rw [HP.out]; simpa using S5, kz.trans (k5.mono kz.size)⟩
          rw [HP.out, HE.out]
          simp
      · have HP : Hid (putP l p = l.take k ++ p :: l.drop k) := aside (HAt.out k hk HG.out (fun x h _ => absurd h hk0))
        have q0 : ¬ (0 < (k : Int)) := by omega
        have NE := N1.below kb
        have SE := S1.below kb
        have kz := k1.trans (kb.mono k1.size)
        clear N1 S1 kb hk0 HG
        obtain ⟨A1, c1, hp1, S1⟩ := RowP.ahead SE k hk
        obtain ⟨A2, c2, hp2, S2⟩ := RowP.behind SE k hk
        have hq1 : ∀ W, (Instr.sliceAt 24 (.slice A l.length cap) none (some (.int .i64 k)) none).run Tryz.prog W = .ok (.slice A1 k c1) W := fun W => hp1 W .i64
        have hq2 : ∀ W, (Instr.sliceAt 24 (.slice A l.length cap) (some (.int .i64 k)) none none).run Tryz.prog W = .ok (.slice A2 (l.length - k) c2) W := fun W => hp2 W .i64
        have hl1 : (l.take k).length = k := by rw [List.length_take]; omega
        have hl2 : (l.drop k).length = l.length - k := by rw [List.length_drop]
        have HL1 := aside hl1
        have HL2 := aside hl2
        clear hp1 hp2 hl1 hl2
        go_wp2_with (first
          | (refine wpList_append E rfl (.const (.slice none 0 0)) (.tmp 31) rfl wr.heap.size (.slice none 0 0) 0 [] rfl (World.ownsRow_nil _ _ _ _) A1 k c1 (l.take k) rfl HL1.out S1 (by omega) (Nat.le_refl _) ?_; intro v3 w3 own3 g3; rw [Nat.zero_add, List.nil_append] at own3; have k3 : Below wr.heap.size wr w3 := below_grown (Below.refl _ _) (Nat.le_refl _) g3 (fun q hq => by cases hq); clear g3; have b3 := NE.below k3)
          | (refine wpList_load_box E rfl _ rfl _ rfl p b3 ?_)
          | (refine RowC.wpList_build1 E (of_decide_eq_true rfl) rfl _ rfl p rfl ?_)
          | (refine wpList_append_new E rfl (.tmp 33) (.tmp 35) rfl wr.heap.size v3 k (l.take k) rfl w3 p _ rfl rfl own3 (by omega) k3.size ?_; intro v4 w4 own4 h4; have k4 := k3.trans h4; clear h4 own3 k3 b3)
          | (refine wpList_append E rfl (.tmp 37) (.tmp 40) rfl wr.heap.size v4 (k + 1) (l.take k ++ [p]) rfl own4 A2 (l.length - k) c2 (l.drop k) rfl HL2.out (S2.below k4) (by omega) k4.size ?_; intro v5 w5 own5 g5; have k5 := below_grown k4 k4.size g5 (fun q hq => (own4.lt q hq).1); clear g5 own4 k4))
        obtain ⟨A5, c5, e5, S5⟩ := SlR.own (own5 : w5.ownsRow wr.heap.size E.T E.k v5 (k + 1 + (l.length - k)) _)
        have hlen : (putP l p).length = k + 1 + (l.length - k) := by rw [HP.out, List.length_append, List.length_cons, HL1.out, HL2.out]; omega
        have HE := aside e5
        clear e5
        go_ret
        refine ⟨A5, c5, ?_, by rw [HP.out]; simpa using S5, kz.trans (k5.mono kz.size)⟩
        rw [HP.out, HE.out]
        simp
end Go.Proofs.YtnjdkjkihbgkaaaGreat.PairP
namespace Go.Proofs.YtnjdkjkihbgkaaaGreat.PairQ
set_option maxRecDepth 100000
open Go Go.RowKit Byt OpsM OpsK Rise PairM PairN RowS RowB PairW PairR PairS PairG PairP

theorem ret_val {a b : Value} (h : a = b) : Ending.returned a = .returned b := by rw [h]
theorem fits_one {p : Pr} (h : Fit p) : Fits [p] := fun x hx => by
  simp at hx
  rw [hx]
  exact h
set_option maxRecDepth 100000 in
set_option maxHeartbeats 16000000 in
theorem add_ret (A : Option Addr) (cap : Nat) (l : List Pr) (p : Pr) (w : World) (S : SlR E w A cap l) (hf : Fits l) (hp : Fit p) (hl : l.length ≤ 1000000) :
    Calls Tryz.prog 32 #[.slice A l.length cap, .agg (pc p)] w (NewS E (addP l p) w) := by
  have Z : Below w.heap.size w (w.alloc (.cells (pc p) 63)) := below_alloc _ _
  have N : Box E (w.alloc (.cells (pc p) 63)) w.heap.size p := Box.new w p _
  have S0 := S.below Z
  have cm := fun W S => may_ret A cap l W S hf
  have co := fun C W S => may_ret C 1 [p] W S (fits_one hp)
  rw [may_one] at co
  have hcap := S.1
  clear S hf hp
  obtain ⟨x, hx⟩ : ∃ x, mayP l = x := ⟨_, rfl⟩
  obtain ⟨y, hy⟩ : ∃ y, oneP p = y := ⟨_, rfl⟩
  rw [hx] at cm
  rw [hy] at co
  have HX := aside hx
  have HY := aside hy
  clear hx hy
  go_enter Tryz.func32, Tryz.ntmps32
  go_wp2_with fail
  refine (cm _ S0).mono ?_
  rintro e w1 ⟨rfl, h1⟩
  have S1 := S0.below h1
  have N1 := N.below h1
  have k1 := Z.trans (h1.mono Z.size)
  clear S0 N h1 cm Z
  go_wp2_with (first
    | (refine wpList_load_box E rfl _ rfl _ rfl p N1 ?_)
    | (refine RowC.wpList_lit1 E (of_decide_eq_true rfl) rfl _ rfl p rfl ?_; intro w2 T2 h2; have S2 := S1.below h2; have N2 := N1.below h2; have k2 := k1.trans (h2.mono k1.size); clear S1 N1 h2))
  refine (co _ _ T2).mono ?_
  rintro e w3 ⟨rfl, h3⟩
  have S3 := S2.below h3
  have N3 := N2.below h3
  have k3 := k2.trans (h3.mono k2.size)
  clear S2 N2 T2 h3 co k2 k1
  cases x with
  | false =>
    have HE : Hid (addP l p = []) := aside (add_no (.inl HX.out))
    go_wp2_with (first | go_skip)
    go_ret
    rw [HE.out]
    exact ⟨none, 0, rfl, SlR.nil E _, k3⟩
  | true =>
    cases y with
    | false =>
      have HE : Hid (addP l p = []) := aside (add_no (.inr HY.out))
      go_wp2_with (first | go_skip)
      go_ret
      rw [HE.out]
      exact ⟨none, 0, rfl, SlR.nil E _, k3⟩
    | true =>
      have HE : Hid (addP l p = putP l p) := aside (add_is HX.out HY.out)
      have cp := fun C c W S => put_ret C c l p W S (ris HX.out) hl
      go_wp2_with (first | go_skip)
      refine Grow.region [(0, true), (2, true), (1, false), (3, false), (4, true)] (by kernel_rfl) (by kernel_rfl) rfl (by kernel_rfl) (by intro c a d v w h; cases d <;> exact h) ?_
      have kd := below_drew1 k3
      have Sd := S3.below (below_drew1 (Below.refl w3.heap.size w3))
      have Nd := N3.below (below_drew1 (Below.refl w3.heap.size w3))
      generalize w3.drew = wd at kd Sd Nd ⊢
      clear S3 N3 k3
      have rp := Nd.range
      repeat (first | (refine RowG.reads_row E rfl rfl _ rfl _ _ rfl p rp ?_; simp only [Act.put, List.setIfInBounds_toArray, List.set_cons_succ, List.set_cons_zero]) | (refine Grow.reads rfl rfl ?_; go_big_quiet_step (fail); refine wpQuiet_nil ?_))
      refine Grow.acts rfl ?_
      go_wp2_with (first
        | (refine wpList_append E rfl (.const (.slice none 0 0)) (.tmp 18) rfl wd.heap.size (.slice none 0 0) 0 [] rfl (World.ownsRow_nil _ _ _ _) A l.length cap l rfl rfl Sd (by omega) (Nat.le_refl _) ?_; intro v4 w4 own4 g4; rw [Nat.zero_add, List.nil_append] at own4; have h4 : Below wd.heap.size wd w4 := below_grown (Below.refl _ _) (Nat.le_refl _) g4 (fun q hq => by cases hq); clear g4))
      refine ⟨h4, ?_⟩
      obtain ⟨A4, c4, rfl, S4⟩ := SlR.own own4
      have k4 := kd.trans (h4.mono kd.size)
      clear own4 h4 Sd Nd rp kd
      repeat (first | (refine Grow.reads rfl rfl ?_; go_big_quiet_step (fail); refine wpQuiet_nil ?_))
      refine Grow.acts rfl ?_
      go_wp2_with fail
      refine (cp _ _ _ S4).mono ?_
      rintro e w5 ⟨A5, c5, rfl, S5, h5⟩
      go_wp2_with fail
      refine ⟨h5, ?_⟩
      have k5 := k4.trans (h5.mono k4.size)
      clear h5 S4 k4 cp
      repeat (first | (refine Grow.reads rfl rfl ?_; go_big_quiet_step (fail); refine wpQuiet_nil ?_))
      refine Grow.ends ?_
      go_wp2_with fail
      go_ret
      rw [HE.out]
      exact ⟨A5, c5, rfl, S5, k5⟩

theorem filter_take {l : List Pr} {q : Pr → Bool} {j : Nat} {x : Pr} (h : l[j]? = some x) : (l.take (j + 1)).filter q = (l.take j).filter q ++ (if q x = true then [x] else []) := by
  obtain ⟨hj, rfl⟩ := List.getElem?_eq_some_iff.1 h
  rw [List.take_succ_eq_append_getElem hj, List.filter_append]
  cases hq : q l[j] <;> simp [hq]
set_option maxRecDepth 100000 in
set_option maxHeartbeats 16000000 in
theorem del_ret (A : Option Addr) (cap : Nat) (l : List Pr) (k e : ByteArray) (w : World) (S : SlR E w A cap l) (hf : Fits l) (hl : l.length ≤ 1000000) :
    Calls Tryz.prog 33 #[.slice A l.length cap, .string k, .string e] w (NewS E (delP l k e) w) := by
  have cm := fun W S => may_ret A cap l W S hf
  have hcap := S.1
  clear hf
  obtain ⟨m, hm⟩ : ∃ m, mayP l = m := ⟨_, rfl⟩
  rw [hm] at cm
  have HD : Hid (delP l k e = if m = true then l.filter (offB k e) else []) := aside (by rw [← hm]; rfl)
  clear hm
  go_enter Tryz.func33, Tryz.ntmps33
  go_wp2_with fail
  refine (cm _ S).mono ?_
  rintro x w1 ⟨rfl, k1⟩
  have S1 := S.below k1
  clear S cm
  cases m with
  | false =>
    have HE : Hid (delP l k e = []) := aside HD.out
    go_wp2
    go_loopw [8, 9] (fun v i wr => v = .slice none 0 0 ∧ i = .int .i64 0 ∧ w1 = wr) (fun _ i _ => 0)
    case atStart => exact ⟨rfl, rfl, rfl⟩
    case round =>
      obtain ⟨rfl, rfl, rfl⟩ := hrel
      by_cases h0 : 0 < l.length
      · have q0 : (0 : Int) < l.length := by omega
        clear S1
        go_wp2
        go_ret
        rw [HE.out]
        exact ⟨none, 0, rfl, SlR.nil E _, k1⟩
      · have q0 : ¬ ((0 : Int) < l.length) := by omega
        clear S1
        go_wp2_with (first | go_skip)
        go_ret
        rw [HE.out]
        exact ⟨none, 0, rfl, SlR.nil E _, k1⟩
  | true =>
    have HE : Hid (delP l k e = l.filter (offB k e)) := aside HD.out
    clear HD
    go_wp2
    go_loopw [8, 9] (fun v i wr => ∃ (j : Nat) (acc : List Pr), j ≤ l.length ∧ i = .int .i64 j ∧ acc.length ≤ j ∧ Hid (acc = (l.take j).filter (offB k e)) ∧ Hid (wr.ownsRow w1.heap.size E.T E.k v acc.length (flat E acc)) ∧ Below w1.heap.size w1 wr) (fun _ i _ => l.length - (intOf i).toNat)
    case atStart => exact ⟨0, [], Nat.zero_le _, rfl, Nat.le_refl _, aside rfl, aside (World.ownsRow_nil _ _ _ _), Below.refl _ _⟩
    case round =>
      obtain ⟨j, acc, hj, rfl, hal, HA, HO, kb⟩ := hrel
      by_cases hlt : j < l.length
      · obtain ⟨g, off, rfl, hbw, hr⟩ := PairW.plain S1 (by omega)
        obtain ⟨x, hx⟩ : ∃ x, l[j]? = some x := ⟨_, List.getElem?_eq_getElem hlt⟩
        have hr1 := range_below (hr j x hx) kb
        obtain ⟨c0, c1, c2, c3⟩ := cells hr1
        have p0 : (j : Int) < l.length := by omega
        have m0 : ((j : Int)).toNat = j := by omega
        have HF := aside (filter_take (q := offB k e) hx)
        clear hr hx S1
        have kz := kb.size
        by_cases h1 : x.key = k
        · have t1 := bne_yes h1
          have s1 := str_yes h1
          by_cases h2 : x.elem = e
          · have t2 := bne_yes h2
            have s2 := str_yes h2
            have HA2 : Hid (acc = (l.take (j + 1)).filter (offB k e)) := aside (by
              have ho : offB k e x = false := by unfold offB; simp [h1, h2]
              rw [HF.out, HA.out, ho]
              simp)
            clear h1 h2
            go_wp2_with (first | go_skip)
            go_roundw
            case rel => exact ⟨j + 1, acc, by omega, by go_num, by omega, HA2, HO, kb⟩
            case measure => simp [intOf]; omega
          · have t2 := bne_no h2
            have s2 := str_no h2
            have HA2 : Hid (acc ++ [x] = (l.take (j + 1)).filter (offB k e)) := aside (by
              have ho : offB k e x = true := by unfold offB; simp [h2]
              rw [HF.out, HA.out, ho]
              simp)
            clear h1 h2
            go_wp2_with (first
              | go_skip
              | (refine wpList_load_at E rfl _ rfl g _ rfl x hr1 ?_)
              | (refine RowC.wpList_build1 E (of_decide_eq_true rfl) rfl _ rfl x rfl ?_)
              | (refine wpList_append_new E rfl (.tmp 37) (.tmp 42) rfl w1.heap.size _ _ acc rfl wr x _ rfl rfl HO.out (by omega) kb.size ?_; intro v' w' own' h'; have k' := kb.trans h'; have HO2 := aside own'; clear own' h'))
            go_roundw
            case rel => exact ⟨j + 1, acc ++ [x], by omega, by go_num, by simp; omega, HA2, aside (by simpa using HO2.out), k'⟩
            case measure => simp [intOf]; omega
        · have t1 := bne_no h1
          have s1 := str_no h1
          have HA2 : Hid (acc ++ [x] = (l.take (j + 1)).filter (offB k e)) := aside (by
            have ho : offB k e x = true := by unfold offB; simp [h1]
            rw [HF.out, HA.out, ho]
            simp)
          clear h1
          go_wp2_with (first
            | go_skip
            | (refine wpList_load_at E rfl _ rfl g _ rfl x hr1 ?_)
            | (refine RowC.wpList_build1 E (of_decide_eq_true rfl) rfl _ rfl x rfl ?_)
            | (refine wpList_append_new E rfl (.tmp 37) (.tmp 42) rfl w1.heap.size _ _ acc rfl wr x _ rfl rfl HO.out (by omega) kb.size ?_; intro v' w' own' h'; have k' := kb.trans h'; have HO2 := aside own'; clear own' h'))
          go_roundw
          case rel => exact ⟨j + 1, acc ++ [x], by omega, by go_num, by simp; omega, HA2, aside (by simpa using HO2.out), k'⟩
          case measure => simp [intOf]; omega
      · have ej : j = l.length := by omega
        have HR : Hid (delP l k e = acc) := aside (by rw [HE.out, HA.out, ej, List.take_length])
        have q0 : ¬ ((j : Int) < l.length) := by omega
        clear S1 HA HE
        go_wp2_with (first | go_skip)
        obtain ⟨A5, c5, e5, S5⟩ := SlR.own HO.out
        have HE5 := aside e5
        clear e5
        go_ret
        rw [HR.out]
        exact ⟨A5, c5, ret_val HE5.out, S5, k1.trans (kb.mono k1.size)⟩
end Go.Proofs.YtnjdkjkihbgkaaaGreat.PairQ
namespace Go.Proofs.YtnjdkjkihbgkaaaGreat.Txt
set_option maxRecDepth 100000
open Go Go.RowKit Byt

/-- Texts as cells. -/
def ts (l : List ByteArray) : List Value := l.map Value.string
theorem ts_len (l : List ByteArray) : (ts l).length = l.length := by simp [ts]
theorem ts_append (a b : List ByteArray) : ts (a ++ b) = ts a ++ ts b := by simp [ts]
theorem ts_at {l : List ByteArray} {i : Nat} {x : ByteArray} (h : l[i]? = some x) : (ts l)[i]? = some (.string x) := by simp [ts, h]
theorem zero_str : (Tryz.prog.info? 9).map (fun i => (i.zero, i.size, i.bytes)) = some (some (.string ⟨#[]⟩), 1, 16) := by kernel_rfl
/-- The slice with address A, as long as l, and with room for cap, has these texts. -/
def SlT (w : World) (A : Option Addr) (cap : Nat) (l : List ByteArray) : Prop :=
  l.length ≤ cap ∧ cap ≤ maxLen ∧ ((A = none ∧ l = [] ∧ cap = 0) ∨ ∃ x, A = some x ∧ ∀ i v, (ts l)[i]? = some v → w.cell? (x.add i) = some v)
theorem SlT.nil (w : World) : SlT w none 0 [] := ⟨Nat.le_refl _, Nat.zero_le _, .inl ⟨rfl, rfl, rfl⟩⟩
theorem SlT.below {w w' : World} {A : Option Addr} {cap : Nat} {l : List ByteArray} (h : SlT w A cap l) (hb : Below w.heap.size w w') : SlT w' A cap l := by
  obtain ⟨h1, h2, h5⟩ := h
  refine ⟨h1, h2, ?_⟩
  rcases h5 with h5 | ⟨x, rfl, hc⟩
  · exact .inl h5
  · refine .inr ⟨x, rfl, fun i v hv => ?_⟩
    have hcell := hc i v hv
    exact (hb.cell (block_lt_of_cell hcell)).trans hcell
theorem SlT.plain {w : World} {A : Option Addr} {cap : Nat} {l : List ByteArray} (h : SlT w A cap l) (hp : 0 < l.length) :
    ∃ b off, A = some ⟨b, off, none⟩ ∧ b < w.heap.size ∧ ∀ i x, l[i]? = some x → w.cell? ⟨b, off + i, none⟩ = some (.string x) := by
  obtain ⟨h1, h2, h5⟩ := h
  rcases h5 with ⟨_, rfl, _⟩ | ⟨x, rfl, hc⟩
  · simp at hp
  · have hx : l[0]? = some l[0] := List.getElem?_eq_getElem hp
    have h0 := hc _ _ (ts_at hx)
    obtain ⟨b, off, spot⟩ := x
    have hspot : spot = none := by simpa [Addr.add] using World.cell?_spot h0
    subst hspot
    have hb := block_lt_of_cell h0
    rw [RowIn.block_add] at hb
    refine ⟨b, off, rfl, hb, fun i x hi => ?_⟩
    have := hc _ _ (ts_at hi)
    rwa [Addr.add_lit] at this
theorem SlT.own {w : World} {base n : Nat} {v : Value} {l : List ByteArray} (h : w.ownsRow base 9 1 v n (ts l)) : ∃ A cap, v = .slice A l.length cap ∧ SlT w A cap l := by
  have hn : l.length = n := by
    have := h.1
    rwa [ts_len, Nat.mul_one] at this
  rcases h.2 with ⟨rfl, rfl⟩ | ⟨g, cap, cur, rfl, hbg, hg, h1, h2, h3, h4⟩
  · have : l = [] := List.eq_nil_of_length_eq_zero hn
    subst this
    exact ⟨none, 0, rfl, SlT.nil w⟩
  · exact ⟨some ⟨g, 0, none⟩, cap, by rw [hn], by omega, h2, .inr ⟨_, rfl, fun i u hu => h.cells rfl i u hu⟩⟩
theorem cell_below {w w' : World} {b o : Nat} {v : Value} (h : w.cell? ⟨b, o, none⟩ = some v) (hb : Below w.heap.size w w') : w'.cell? ⟨b, o, none⟩ = some v := (hb.cell (block_lt_of_cell h)).trans h
/-- A cell of a row of texts of the call's own. -/
theorem own_cell {w : World} {base n g cap : Nat} {l : List ByteArray} (h : w.ownsRow base 9 1 (.slice (some ⟨g, 0, none⟩) n cap) n (ts l)) {i : Nat} {x : ByteArray} (hx : l[i]? = some x) : w.cell? ⟨g, i, none⟩ = some (.string x) := by
  have := h.cells rfl _ _ (ts_at hx)
  rwa [Addr.add_lit, Nat.zero_add] at this
theorem own_some {w : World} {base n : Nat} {v : Value} {l : List ByteArray} {x : ByteArray} (h : w.ownsRow base 9 1 v n (ts (l ++ [x]))) : ∃ q cap, v = .slice (some ⟨q, 0, none⟩) n cap := by
  rcases h.2 with ⟨_, e⟩ | ⟨g, cap, cur, rfl, _⟩
  · have e2 := h.1
    rw [ts_len, e, List.length_append] at e2
    simp at e2
  · exact ⟨g, cap, rfl⟩
/-- A new slice has these texts, and all that was there is as it was. -/
def NewT (l : List ByteArray) (w : World) (e : Ending) (w' : World) : Prop := ∃ A cap, e = .returned (.slice A l.length cap) ∧ SlT w' A cap l ∧ Below w.heap.size w w'
theorem new1 (w : World) (x : ByteArray) (t : TypeId) : ∀ j u, (ts [x])[j]? = some u → (w.alloc (.cells #[.string x] t)).cell? ((⟨w.heap.size, 0, none⟩ : Addr).add j) = some u := by
  intro j u hu
  cases j with
  | zero =>
    simp only [ts, List.map_cons, List.map_nil, List.getElem?_cons_zero, Option.some.injEq] at hu
    subst hu
    rw [Addr.add_lit, Nat.zero_add, cell_of_row _ _ 0 _ t (0, 0) (heap_alloc_new w _)]
    rfl
  | succ j => simp [ts] at hu
/-- 'append' of one text that was just laid in a block of its own. -/
theorem wpList_append_new {w : World} {ops : Array Oper} {rest : List Oper} {o : Oper} {a : Act} {Q : Exit → Act → World → Prop} (hgd : o.guard = none) (s x : Operand)
    (ho : o.op = .call { callee := .builtin .append, args := #[s, x], argTypes := #[46, 46] })
    (base : Nat) (v : Value) (n : Nat) (xs : List ByteArray) (hs : a.eval s = v) (wq : World) (y : ByteArray) (t : TypeId) (hw : w = wq.alloc (.cells #[.string y] t)) (hx : a.eval x = .slice (some ⟨wq.heap.size, 0, none⟩) 1 1)
    (hown : wq.ownsRow base 9 1 v n (ts xs)) (h63 : n ≤ 100000000) (hbase : base ≤ wq.heap.size)
    (h : ∀ v' w', w'.ownsRow base 9 1 v' (n + 1) (ts (xs ++ [y])) → Below base wq w' → wpList Tryz.prog ops Q rest (a.put o.dst v') w') : wpList Tryz.prog ops Q (o :: rest) a w := by
  subst hw
  obtain ⟨i, hi, z0, z1, z2⟩ := info_parts zero_str
  exact wpList_append_own (wq.alloc (.cells #[.string y] t)) hgd s x 46 ho base 9 i (.string ⟨#[]⟩) 1 16 Tryz.underlying46 hi z0 z1 z2 rfl (by decide) v n (ts xs) hs (hown.alloc _) ⟨wq.heap.size, 0, none⟩ 1 1 (ts [y]) hx (by simp [ts]) (new1 wq y t) (by intro u hu; simp [ts] at hu; subst hu; rfl) (by unfold maxLen; omega) (by omega) (by simp; omega)
    (fun v' w' a1 a2 _ => h v' w' (by rw [ts_append]; exact a1) (below_grown ((Below.refl _ _).alloc hbase _) (by simp; omega) a2 (fun q hq => (hown.lt q hq).1)))
end Go.Proofs.YtnjdkjkihbgkaaaGreat.Txt
