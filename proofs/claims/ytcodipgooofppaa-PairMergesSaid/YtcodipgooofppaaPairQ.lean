/- What the document's Add and Del of package pair return: contracts. -/
import Derived.Test.YtcodipgooofppaaPairP
namespace Go.Proofs.Ytcodipgooofppaa.PairQ
open Go Go.RowKit Byt OpsM OpsK Rise PairM PairN RowS RowB PairW PairR PairS PairG PairP

theorem ret_val {a b : Value} (h : a = b) : Ending.returned a = .returned b := by rw [h]
theorem fits_one {p : Pr} (h : Fit p) : Fits [p] := fun x hx => by
  simp at hx
  rw [hx]
  exact h
set_option maxRecDepth 100000 in
set_option maxHeartbeats 16000000 in
theorem add_ret (A : Option Addr) (cap : Nat) (l : List Pr) (p : Pr) (w : World) (S : SlR E w A cap l) (hf : Fits l) (hp : Fit p) (hl : l.length ≤ 1000000) :
    Calls Try.prog 14 #[.slice A l.length cap, .agg (pc p)] w (NewS E (addP l p) w) := by
  have Z : Below w.heap.size w (w.alloc (.cells (pc p) 26)) := below_alloc _ _
  have N : Box E (w.alloc (.cells (pc p) 26)) w.heap.size p := Box.new w p _
  have S0 := S.below Z
  have cm := fun W S => may_ret A cap l W S hf
  have co := fun C W S => may_ret C 1 [p] W S (fits_one hp)
  rw [may_one] at co
  have hcap := S.1
  clear S hf hp
  obtain ⟨x, hx⟩ : ∃ x, mayP l = x := ⟨_, rfl⟩
  obtain ⟨y, hy⟩ : ∃ y, oneP p = y := ⟨_, rfl⟩
  rw [hx] at cm
  rw [hy] at co
  have HX := aside hx
  have HY := aside hy
  clear hx hy
  go_enter Try.func14, Try.ntmps14
  go_wp2_with fail
  refine (cm _ S0).mono ?_
  rintro e w1 ⟨rfl, h1⟩
  have S1 := S0.below h1
  have N1 := N.below h1
  have k1 := Z.trans (h1.mono Z.size)
  clear S0 N h1 cm Z
  go_wp2_with (first
    | (refine wpList_load_box E rfl _ rfl _ rfl p N1 ?_)
    | (refine RowC.wpList_lit1 E (of_decide_eq_true rfl) rfl _ rfl p rfl ?_; intro w2 T2 h2; have S2 := S1.below h2; have N2 := N1.below h2; have k2 := k1.trans (h2.mono k1.size); clear S1 N1 h2))
  refine (co _ _ T2).mono ?_
  rintro e w3 ⟨rfl, h3⟩
  have S3 := S2.below h3
  have N3 := N2.below h3
  have k3 := k2.trans (h3.mono k2.size)
  clear S2 N2 T2 h3 co k2 k1
  cases x with
  | false =>
    have HE : Hid (addP l p = []) := aside (add_no (.inl HX.out))
    go_wp2_with (first | go_skip)
    go_ret
    rw [HE.out]
    exact ⟨none, 0, rfl, SlR.nil E _, k3⟩
  | true =>
    cases y with
    | false =>
      have HE : Hid (addP l p = []) := aside (add_no (.inr HY.out))
      go_wp2_with (first | go_skip)
      go_ret
      rw [HE.out]
      exact ⟨none, 0, rfl, SlR.nil E _, k3⟩
    | true =>
      have HE : Hid (addP l p = putP l p) := aside (add_is HX.out HY.out)
      have cp := fun C c W S => put_ret C c l p W S (ris HX.out) hl
      go_wp2_with (first | go_skip)
      refine Grow.region [(0, true), (2, true), (1, false), (3, false), (4, true)] (by kernel_rfl) (by kernel_rfl) rfl (by kernel_rfl) (by intro c a d v w h; cases d <;> exact h) ?_
      have kd := below_drew1 k3
      have Sd := S3.below (below_drew1 (Below.refl w3.heap.size w3))
      have Nd := N3.below (below_drew1 (Below.refl w3.heap.size w3))
      generalize w3.drew = wd at kd Sd Nd ⊢
      clear S3 N3 k3
      have rp := Nd.range
      repeat (first | (refine RowG.reads_row E rfl rfl _ rfl _ _ rfl p rp ?_; simp only [Act.put, List.setIfInBounds_toArray, List.set_cons_succ, List.set_cons_zero]) | (refine Grow.reads rfl rfl ?_; go_big_quiet_step (fail); refine wpQuiet_nil ?_))
      refine Grow.acts rfl ?_
      go_wp2_with (first
        | (refine wpList_append E rfl (.const (.slice none 0 0)) (.tmp 18) rfl wd.heap.size (.slice none 0 0) 0 [] rfl (World.ownsRow_nil _ _ _ _) A l.length cap l rfl rfl Sd (by omega) (Nat.le_refl _) ?_; intro v4 w4 own4 g4; rw [Nat.zero_add, List.nil_append] at own4; have h4 : Below wd.heap.size wd w4 := below_grown (Below.refl _ _) (Nat.le_refl _) g4 (fun q hq => by cases hq); clear g4))
      refine ⟨h4, ?_⟩
      obtain ⟨A4, c4, rfl, S4⟩ := SlR.own own4
      have k4 := kd.trans (h4.mono kd.size)
      clear own4 h4 Sd Nd rp kd
      repeat (first | (refine Grow.reads rfl rfl ?_; go_big_quiet_step (fail); refine wpQuiet_nil ?_))
      refine Grow.acts rfl ?_
      go_wp2_with fail
      refine (cp _ _ _ S4).mono ?_
      rintro e w5 ⟨A5, c5, rfl, S5, h5⟩
      go_wp2_with fail
      refine ⟨h5, ?_⟩
      have k5 := k4.trans (h5.mono k4.size)
      clear h5 S4 k4 cp
      repeat (first | (refine Grow.reads rfl rfl ?_; go_big_quiet_step (fail); refine wpQuiet_nil ?_))
      refine Grow.ends ?_
      go_wp2_with fail
      go_ret
      rw [HE.out]
      exact ⟨A5, c5, rfl, S5, k5⟩

theorem filter_take {l : List Pr} {q : Pr → Bool} {j : Nat} {x : Pr} (h : l[j]? = some x) : (l.take (j + 1)).filter q = (l.take j).filter q ++ (if q x = true then [x] else []) := by
  obtain ⟨hj, rfl⟩ := List.getElem?_eq_some_iff.1 h
  rw [List.take_succ_eq_append_getElem hj, List.filter_append]
  cases hq : q l[j] <;> simp [hq]
set_option maxRecDepth 100000 in
set_option maxHeartbeats 16000000 in
theorem del_ret (A : Option Addr) (cap : Nat) (l : List Pr) (k e : ByteArray) (w : World) (S : SlR E w A cap l) (hf : Fits l) (hl : l.length ≤ 1000000) :
    Calls Try.prog 16 #[.slice A l.length cap, .string k, .string e] w (NewS E (delP l k e) w) := by
  have cm := fun W S => may_ret A cap l W S hf
  have hcap := S.1
  clear hf
  obtain ⟨m, hm⟩ : ∃ m, mayP l = m := ⟨_, rfl⟩
  rw [hm] at cm
  have HD : Hid (delP l k e = if m = true then l.filter (offB k e) else []) := aside (by rw [← hm]; rfl)
  clear hm
  go_enter Try.func16, Try.ntmps16
  go_wp2_with fail
  refine (cm _ S).mono ?_
  rintro x w1 ⟨rfl, k1⟩
  have S1 := S.below k1
  clear S cm
  cases m with
  | false =>
    have HE : Hid (delP l k e = []) := aside HD.out
    go_wp2
    go_loopw [8, 9] (fun v i wr => v = .slice none 0 0 ∧ i = .int .i64 0 ∧ w1 = wr) (fun _ i _ => 0)
    case atStart => exact ⟨rfl, rfl, rfl⟩
    case round =>
      obtain ⟨rfl, rfl, rfl⟩ := hrel
      by_cases h0 : 0 < l.length
      · have q0 : (0 : Int) < l.length := by omega
        clear S1
        go_wp2
        go_ret
        rw [HE.out]
        exact ⟨none, 0, rfl, SlR.nil E _, k1⟩
      · have q0 : ¬ ((0 : Int) < l.length) := by omega
        clear S1
        go_wp2_with (first | go_skip)
        go_ret
        rw [HE.out]
        exact ⟨none, 0, rfl, SlR.nil E _, k1⟩
  | true =>
    have HE : Hid (delP l k e = l.filter (offB k e)) := aside HD.out
    clear HD
    go_wp2
    go_loopw [8, 9] (fun v i wr => ∃ (j : Nat) (acc : List Pr), j ≤ l.length ∧ i = .int .i64 j ∧ acc.length ≤ j ∧ Hid (acc = (l.take j).filter (offB k e)) ∧ Hid (wr.ownsRow w1.heap.size E.T E.k v acc.length (flat E acc)) ∧ Below w1.heap.size w1 wr) (fun _ i _ => l.length - (intOf i).toNat)
    case atStart => exact ⟨0, [], Nat.zero_le _, rfl, Nat.le_refl _, aside rfl, aside (World.ownsRow_nil _ _ _ _), Below.refl _ _⟩
    case round =>
      obtain ⟨j, acc, hj, rfl, hal, HA, HO, kb⟩ := hrel
      by_cases hlt : j < l.length
      · obtain ⟨g, off, rfl, hbw, hr⟩ := PairW.plain S1 (by omega)
        obtain ⟨x, hx⟩ : ∃ x, l[j]? = some x := ⟨_, List.getElem?_eq_getElem hlt⟩
        have hr1 := range_below (hr j x hx) kb
        obtain ⟨c0, c1, c2, c3⟩ := cells hr1
        have p0 : (j : Int) < l.length := by omega
        have m0 : ((j : Int)).toNat = j := by omega
        have HF := aside (filter_take (q := offB k e) hx)
        clear hr hx S1
        have kz := kb.size
        by_cases h1 : x.key = k
        · have t1 := bne_yes h1
          have s1 := str_yes h1
          by_cases h2 : x.elem = e
          · have t2 := bne_yes h2
            have s2 := str_yes h2
            have HA2 : Hid (acc = (l.take (j + 1)).filter (offB k e)) := aside (by
              have ho : offB k e x = false := by unfold offB; simp [h1, h2]
              rw [HF.out, HA.out, ho]
              simp)
            clear h1 h2
            go_wp2_with (first | go_skip)
            go_roundw
            case rel => exact ⟨j + 1, acc, by omega, by go_num, by omega, HA2, HO, kb⟩
            case measure => simp [intOf]; omega
          · have t2 := bne_no h2
            have s2 := str_no h2
            have HA2 : Hid (acc ++ [x] = (l.take (j + 1)).filter (offB k e)) := aside (by
              have ho : offB k e x = true := by unfold offB; simp [h2]
              rw [HF.out, HA.out, ho]
              simp)
            clear h1 h2
            go_wp2_with (first
              | go_skip
              | (refine wpList_load_at E rfl _ rfl g _ rfl x hr1 ?_)
              | (refine RowC.wpList_build1 E (of_decide_eq_true rfl) rfl _ rfl x rfl ?_)
              | (refine wpList_append_new E rfl (.tmp 37) (.tmp 42) rfl w1.heap.size _ _ acc rfl wr x _ rfl rfl HO.out (by omega) kb.size ?_; intro v' w' own' h'; have k' := kb.trans h'; have HO2 := aside own'; clear own' h'))
            go_roundw
            case rel => exact ⟨j + 1, acc ++ [x], by omega, by go_num, by simp; omega, HA2, aside (by simpa using HO2.out), k'⟩
            case measure => simp [intOf]; omega
        · have t1 := bne_no h1
          have s1 := str_no h1
          have HA2 : Hid (acc ++ [x] = (l.take (j + 1)).filter (offB k e)) := aside (by
            have ho : offB k e x = true := by unfold offB; simp [h1]
            rw [HF.out, HA.out, ho]
            simp)
          clear h1
          go_wp2_with (first
            | go_skip
            | (refine wpList_load_at E rfl _ rfl g _ rfl x hr1 ?_)
            | (refine RowC.wpList_build1 E (of_decide_eq_true rfl) rfl _ rfl x rfl ?_)
            | (refine wpList_append_new E rfl (.tmp 37) (.tmp 42) rfl w1.heap.size _ _ acc rfl wr x _ rfl rfl HO.out (by omega) kb.size ?_; intro v' w' own' h'; have k' := kb.trans h'; have HO2 := aside own'; clear own' h'))
          go_roundw
          case rel => exact ⟨j + 1, acc ++ [x], by omega, by go_num, by simp; omega, HA2, aside (by simpa using HO2.out), k'⟩
          case measure => simp [intOf]; omega
      · have ej : j = l.length := by omega
        have HR : Hid (delP l k e = acc) := aside (by rw [HE.out, HA.out, ej, List.take_length])
        have q0 : ¬ ((j : Int) < l.length) := by omega
        clear S1 HA HE
        go_wp2_with (first | go_skip)
        obtain ⟨A5, c5, e5, S5⟩ := SlR.own HO.out
        have HE5 := aside e5
        clear e5
        go_ret
        rw [HR.out]
        exact ⟨A5, c5, ret_val HE5.out, S5, k1.trans (kb.mono k1.size)⟩
end Go.Proofs.Ytcodipgooofppaa.PairQ
