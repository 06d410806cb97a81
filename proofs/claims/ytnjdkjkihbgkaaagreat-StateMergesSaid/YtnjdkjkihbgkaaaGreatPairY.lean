/- What Del and Elems of the project's package pair return: contracts. -/
import Derived.Test.YtnjdkjkihbgkaaaGreatPairOJ4
import Derived.Test.YtnjdkjkihbgkaaaGreatPairJJ3
namespace Go.Proofs.YtnjdkjkihbgkaaaGreat.PairY
set_option maxRecDepth 100000
open Go Go.RowKit Byt OpsM OpsK Rise PairM PairN RowS RowB PairW PairS PairX PairB Txt PairQ StrC

/-- A key and an element, as a pair without an event. -/
def gone (k e : ByteArray) : Pr := ⟨k, e, 0, 0⟩
theorem bare_gone (x : Pr) (k e : ByteArray) : offB k e x = false ↔ bareP x = gone k e := by
  unfold offB bareP gone
  by_cases h1 : x.key = k <;> by_cases h2 : x.elem = e <;> simp [h1, h2]
set_option maxRecDepth 100000 in
set_option maxHeartbeats 8000000 in
theorem del_ret (A : Option Addr) (cap : Nat) (l : List Pr) (k e : ByteArray) (w : World) (S : SlR E w A cap l) (hf : Fits l) (hl : l.length ≤ 200000) :
    Calls Tryz.prog 72 #[.slice A l.length cap, .string k, .string e] w (NewS E (delP l k e) w) := by
  have cm := fun W S => PairV.may_ret A cap l W S hf (by omega)
  have hcap := S.1
  obtain ⟨i, hi, z0, z1, z2⟩ := info_parts E.info
  have hmk0 := fun (W : World) => run_make_own (P := Tryz.prog) W W.heap.size 24 63 i (.agg (E.enc E.zero).toArray) 4 Tryz.underlying24 hi z0 z1 .i64 .i64 l.length (by rw [z2]; show 48 * _ ≤ _; omega) (by unfold maxLen; omega) (Nat.le_refl _)
  clear hf hi z0 z1 z2
  obtain ⟨m, hm⟩ : ∃ m, mayP l = m := ⟨_, rfl⟩
  rw [hm] at cm
  have HD : Hid (delP l k e = if m = true then l.filter (offB k e) else []) := aside (by rw [← hm]; rfl)
  clear hm
  go_enter Tryz.func72, Tryz.ntmps72
  go_wp2_with fail
  refine (cm _ S).mono ?_
  rintro x w1 ⟨rfl, k1⟩
  have S1 := S.below k1
  clear S cm
  cases m with
  | false =>
    have HE : Hid (delP l k e = []) := aside HD.out
    clear S1
    go_wp2
    go_ret
    rw [HE.out]
    exact ⟨none, 0, rfl, SlR.nil E _, k1⟩
  | true =>
    have HE : Hid (delP l k e = l.filter (offB k e)) := aside HD.out
    clear HD
    go_wp2_with (first
      | (refine wpList_store_new E rfl _ _ rfl _ _ _ rfl (gone k e) _ rfl rfl rfl rfl ?_; intro w2 bg kg gg sg; obtain ⟨w3, hmk, own3, g3⟩ := hmk0 w2))
    have HS2 := aside (S1.below kg)
    have k2 := k1.trans (kg.mono k1.size)
    have kb3 : Below w2.heap.size w2 w3 := below_grown (Below.refl _ _) (Nat.le_refl _) g3 (fun q hq => by cases hq)
    clear S1 hmk0 hmk g3 kg gg k1
    have own4 : w3.ownsRow w2.heap.size E.T 4 (.slice (some ⟨w1.heap.size + 1, 0, none⟩) 0 l.length) 0 [] := by
      rw [show w2.heap.size = w1.heap.size + 1 from sg] at own3 ⊢
      exact own3
    have HG := aside bg
    clear bg own3
    go_loopw [8, 22] (fun v i wr => ∃ (j : Nat) (acc : List Pr), j ≤ l.length ∧ i = .int .i64 j ∧ acc.length ≤ j ∧ Hid (acc = (l.take j).filter (offB k e)) ∧ Hid (wr.ownsRow w2.heap.size E.T 4 v acc.length (flat E acc)) ∧ Below w2.heap.size w2 wr) (fun _ i _ => l.length - (intOf i).toNat)
    case atStart => exact ⟨0, [], Nat.zero_le _, rfl, Nat.le_refl _, aside rfl, aside own4, kb3⟩
    case round =>
      clear own4 kb3
      obtain ⟨j, acc, hj, rfl, hle, HA, HO, kb⟩ := hrel
      have HS := aside (HS2.out.below kb)
      by_cases hlt : j < l.length
      · obtain ⟨b, off, rfl, hbw, hr⟩ := PairW.plain HS.out (by omega)
        obtain ⟨x, hx⟩ : ∃ x, l[j]? = some x := ⟨_, List.getElem?_eq_getElem hlt⟩
        have hr1 := hr j x hx
        have p0 : (j : Int) < l.length := by omega
        have m0 : ((j : Int)).toNat = j := by omega
        have HF := aside (filter_take (q := offB k e) hx)
        have cb := fun W => bare_ret x W
        have hgo := bare_gone x k e
        clear hr hx
        obtain ⟨z, hz⟩ : ∃ z, offB k e x = z := ⟨_, rfl⟩
        rw [hz] at HF hgo
        have HB2 := aside (HG.out.below kb)
        clear hz
        cases z with
        | true =>
          have HA2 : Hid (acc ++ [x] = (l.take (j + 1)).filter (offB k e)) := aside (by rw [HF.out, ← HA.out]; rfl)
          have heq : ∀ W, (Op.equalIn 10000 63 (.agg (pc (bareP x))) (.agg (E.enc (gone k e)).toArray)).run Tryz.prog W = .ok false W := equal_no (x := bareP x) (y := gone k e) (fun q => by cases hgo.2 q)
          clear HA HF hgo
          go_wp2_with (first
            | (refine wpList_load_at E rfl _ rfl b _ rfl x hr1 ?_)
            | (refine wpList_store_new E rfl _ _ rfl _ _ _ rfl x _ rfl rfl rfl rfl ?_; intro w5 bx kx gx sx))
          have k5 := kb.trans (kx.mono kb.size)
          have O5 := HO.out.kept gx (Classical.em _)
          have G5 := HB2.out.below kx
          have HX := aside bx
          clear hr1 HS HO HB2 kx gx bx
          refine Grow.region [(0, true), (2, true), (1, false), (3, true)] (by kernel_rfl) (by kernel_rfl) rfl (by kernel_rfl) (by intro c a d v w h; cases d <;> exact h) ?_
          rename World => V
          have dr := below_drew1 (Below.refl V.heap.size V)
          have kd := k5.trans (dr.mono k5.size)
          have Od : V.drew.ownsRow w2.heap.size E.T 4 _ acc.length (flat E acc) := O5.kept (grown_of_below dr none) (Classical.em _)
          have rg := (G5.below dr).range
          have rx := (HX.out.below dr).range
          have Bd := HX.out.below dr
          have hsz := kd.size
          generalize V.drew = wd at kd Od rg rx Bd hsz ⊢
          clear k5 O5 G5 HX dr
          repeat (first | (refine RowG.reads_row E rfl rfl _ rfl _ _ rfl x rx ?_; simp only [Act.put, List.setIfInBounds_toArray, List.set_cons_succ, List.set_cons_zero]) | (refine RowG.reads_row E rfl rfl _ rfl _ _ rfl (gone k e) rg ?_; simp only [Act.put, List.setIfInBounds_toArray, List.set_cons_succ, List.set_cons_zero]) | (refine Grow.reads rfl rfl ?_; go_big_quiet_step (fail); refine wpQuiet_nil ?_))
          refine Grow.acts rfl ?_
          go_wp2_with fail
          refine (cb _).mono ?_
          rintro _ w6 ⟨rfl, k6⟩
          have kd6 := kd.trans (k6.mono kd.size)
          have O6 := aside (Od.kept (grown_of_below k6 none) (Classical.em _))
          have B6 := Bd.below k6
          clear rg rx Od Bd kd cb
          go_wp2_with fail
          refine ⟨k6, ?_⟩
          repeat (refine Grow.reads rfl rfl ?_; go_big_quiet_step (fail); refine wpQuiet_nil ?_)
          refine Grow.ends ?_
          clear k6 hsz
          have hs6 := kd6.size
          go_wp2_with (first
            | (refine wpList_load_box E rfl _ rfl _ rfl x B6 ?_)
            | (refine RowC.wpList_build1 E (of_decide_eq_true rfl) rfl _ rfl x rfl ?_)
            | (refine wpList_append_new E rfl (.tmp 30) (.tmp 32) rfl w2.heap.size _ acc.length acc rfl w6 x _ rfl rfl O6.out (by omega) hs6 ?_; intro v' w7 own7 h7))
          have k7 := kd6.trans h7
          have HO7 := aside own7
          clear h7 own7 kd6
          go_roundw
          case rel => exact ⟨j + 1, acc ++ [x], by omega, by go_num, by simp; omega, HA2, aside (by rw [List.length_append]; exact HO7.out), k7⟩
          case measure => simp [intOf]; omega
        | false =>
          have HA2 : Hid (acc = (l.take (j + 1)).filter (offB k e)) := aside (by rw [HF.out, ← HA.out]; simp)
          have heq : ∀ W, (Op.equalIn 10000 63 (.agg (pc (bareP x))) (.agg (E.enc (gone k e)).toArray)).run Tryz.prog W = .ok true W := equal_yes (x := bareP x) (y := gone k e) (hgo.1 rfl)
          clear HA HF hgo
          go_wp2_with (first
            | (refine wpList_load_at E rfl _ rfl b _ rfl x hr1 ?_)
            | (refine wpList_store_new E rfl _ _ rfl _ _ _ rfl x _ rfl rfl rfl rfl ?_; intro w5 bx kx gx sx))
          have k5 := kb.trans (kx.mono kb.size)
          have O5 := HO.out.kept gx (Classical.em _)
          have G5 := HB2.out.below kx
          have HX := aside bx
          clear hr1 HS HO HB2 kx gx bx
          refine Grow.region [(0, true), (2, true), (1, false), (3, true)] (by kernel_rfl) (by kernel_rfl) rfl (by kernel_rfl) (by intro c a d v w h; cases d <;> exact h) ?_
          rename World => V
          have dr := below_drew1 (Below.refl V.heap.size V)
          have kd := k5.trans (dr.mono k5.size)
          have Od : V.drew.ownsRow w2.heap.size E.T 4 _ acc.length (flat E acc) := O5.kept (grown_of_below dr none) (Classical.em _)
          have rg := (G5.below dr).range
          have rx := (HX.out.below dr).range
          have Bd := HX.out.below dr
          have hsz := kd.size
          generalize V.drew = wd at kd Od rg rx Bd hsz ⊢
          clear k5 O5 G5 HX dr
          repeat (first | (refine RowG.reads_row E rfl rfl _ rfl _ _ rfl x rx ?_; simp only [Act.put, List.setIfInBounds_toArray, List.set_cons_succ, List.set_cons_zero]) | (refine RowG.reads_row E rfl rfl _ rfl _ _ rfl (gone k e) rg ?_; simp only [Act.put, List.setIfInBounds_toArray, List.set_cons_succ, List.set_cons_zero]) | (refine Grow.reads rfl rfl ?_; go_big_quiet_step (fail); refine wpQuiet_nil ?_))
          refine Grow.acts rfl ?_
          go_wp2_with fail
          refine (cb _).mono ?_
          rintro _ w6 ⟨rfl, k6⟩
          have kd6 := kd.trans (k6.mono kd.size)
          have O6 := aside (Od.kept (grown_of_below k6 none) (Classical.em _))
          have B6 := Bd.below k6
          clear rg rx Od Bd kd cb
          go_wp2_with fail
          refine ⟨k6, ?_⟩
          repeat (refine Grow.reads rfl rfl ?_; go_big_quiet_step (fail); refine wpQuiet_nil ?_)
          refine Grow.ends ?_
          clear k6 hsz
          have hs6 := kd6.size
          clear hs6
          go_wp2_with (first | go_skip)
          go_roundw
          case rel => exact ⟨j + 1, acc, by omega, by go_num, by omega, HA2, O6, kd6⟩
          case measure => simp [intOf]; omega
      · have HE2 : Hid (acc = delP l k e) := aside (by rw [HE.out, HA.out, List.take_of_length_le (by omega)])
        obtain ⟨A5, c5, rfl, S5⟩ := SlR.own HO.out
        clear HS HA
        go_wp2_with fail
        go_ret
        rw [← HE2.out]
        exact ⟨A5, c5, rfl, S5, k2.trans (kb.mono k2.size)⟩

theorem once_elems (k : ByteArray) : ∀ (l : List Pr) (o : Option ByteArray), once o ((l.filter fun x => decide (x.key = k)).map Pr.elem) = elemsF k o l
  | [], o => by simp [once, elemsF]
  | x :: r, o => by
    unfold elemsF
    by_cases h : x.key = k
    · rw [List.filter_cons, if_pos (by simpa using h), List.map_cons]
      unfold once
      by_cases ho : o = some x.elem
      · rw [if_pos ho, if_pos (.inr ho), once_elems k r o]
      · rw [if_neg ho, if_neg (by
          rintro (q | q)
          · exact q h
          · exact ho q), once_elems k r (some x.elem)]
    · rw [List.filter_cons, if_neg (by simpa using h), if_pos (.inl h), once_elems k r o]
/-- The elements of a key, in order, with repeats. -/
def els (k : ByteArray) (l : List Pr) : List ByteArray := (l.filter fun x => decide (x.key = k)).map Pr.elem
theorem els_yes {k : ByteArray} {l : List Pr} {j : Nat} {x : Pr} (h : l[j]? = some x) (hk : x.key = k) : els k (l.take (j + 1)) = els k (l.take j) ++ [x.elem] := by
  obtain ⟨hj, rfl⟩ := List.getElem?_eq_some_iff.1 h
  unfold els
  rw [List.take_succ_eq_append_getElem hj, List.filter_append]
  simp [hk]
theorem els_no {k : ByteArray} {l : List Pr} {j : Nat} {x : Pr} (h : l[j]? = some x) (hk : x.key ≠ k) : els k (l.take (j + 1)) = els k (l.take j) := by
  obtain ⟨hj, rfl⟩ := List.getElem?_eq_some_iff.1 h
  unfold els
  rw [List.take_succ_eq_append_getElem hj, List.filter_append]
  simp [hk]
theorem own_empty (w : World) : (w.alloc (.cells #[] 9)).ownsRow w.heap.size 9 1 (.slice (some ⟨w.heap.size, 0, none⟩) 0 0) 0 (ts []) :=
  ⟨rfl, .inr ⟨w.heap.size, 0, #[], rfl, Nat.le_refl _, heap_alloc_new w _, Nat.le_refl _, Nat.zero_le _, rfl, rfl⟩⟩
set_option maxRecDepth 100000 in
set_option maxHeartbeats 8000000 in
theorem elems_ret (A : Option Addr) (cap : Nat) (l : List Pr) (k : ByteArray) (w : World) (S : SlR E w A cap l) (hl : l.length ≤ 200000) :
    Calls Tryz.prog 19 #[.slice A l.length cap, .string k] w (NewT (elemsP l k) w) := by
  have hcap := S.1
  have own0 := own_empty w
  have k0 := below_alloc w (.cells #[] 9)
  have HL := aside (once_elems k l none)
  go_enter Tryz.func19, Tryz.ntmps19
  go_wp2
  go_loopw [5, 11] (fun v i wr => ∃ (j : Nat) (acc : List ByteArray), j ≤ l.length ∧ i = .int .i64 j ∧ acc.length ≤ j ∧ Hid (acc = els k (l.take j)) ∧ Hid (wr.ownsRow w.heap.size 9 1 v acc.length (ts acc)) ∧ Below w.heap.size w wr) (fun _ i _ => l.length - (intOf i).toNat)
  case atStart => exact ⟨0, [], Nat.zero_le _, rfl, Nat.le_refl _, aside rfl, aside own0, k0⟩
  case round =>
    clear own0 k0
    obtain ⟨j, acc, hj, rfl, hle, HA, HO, kb⟩ := hrel
    by_cases hlt : j < l.length
    · obtain ⟨b, off, rfl, hbw, hr⟩ := PairW.plain S (by omega)
      obtain ⟨x, hx⟩ : ∃ x, l[j]? = some x := ⟨_, List.getElem?_eq_getElem hlt⟩
      have hr1 := range_below (hr j x hx) kb
      have p0 : (j : Int) < l.length := by omega
      have m0 : ((j : Int)).toNat = j := by omega
      clear hr S
      by_cases hk : x.key = k
      · have HA2 := aside ((els_yes hx hk).trans (by rw [← HA.out]))
        have t0 := str_yes hk
        clear hx HA hk
        go_wp2_with (first
          | (refine wpList_load_at E rfl _ rfl b _ rfl x hr1 ?_)
          | (refine wpList_store_new E rfl _ _ rfl _ _ _ rfl x _ rfl rfl rfl rfl ?_; intro w2 bx kx gx sx; have c0 := bx.cell (j := 0) rfl; have c1 := bx.cell (j := 1) rfl; have k2 := kb.trans (kx.mono kb.size); have O2 := aside (HO.out.kept gx (Classical.em _)); have hs2 := k2.size; clear sx kx gx)
          | (refine Txt.wpList_append_new rfl (.tmp 19) (.tmp 22) rfl w.heap.size _ acc.length acc rfl w2 x.elem _ rfl rfl O2.out (by omega) hs2 ?_; intro v' w3 own3 h3))
        have k3 := k2.trans h3
        have HO3 := aside own3
        clear own3 h3
        go_roundw
        case rel => exact ⟨j + 1, acc ++ [x.elem], by omega, by go_num, by simp; omega, aside HA2.out.symm, aside (by rw [List.length_append]; exact HO3.out), k3⟩
        case measure => simp [intOf]; omega
      · have HA2 := aside ((els_no hx hk).trans (HA.out).symm)
        have t0 := str_no hk
        clear hx HA hk
        go_wp2_with (first
          | (refine wpList_load_at E rfl _ rfl b _ rfl x hr1 ?_)
          | (refine wpList_store_new E rfl _ _ rfl _ _ _ rfl x _ rfl rfl rfl rfl ?_; intro w2 bx kx gx sx; have c0 := bx.cell (j := 0) rfl; have k2 := kb.trans (kx.mono kb.size); have O2 := aside (HO.out.kept gx (Classical.em _))))
        go_roundw
        case rel => exact ⟨j + 1, acc, by omega, by go_num, by omega, aside HA2.out.symm, O2, k2⟩
        case measure => simp [intOf]; omega
    · have HE : Hid (once none acc = elemsP l k) := aside (by rw [HA.out, List.take_of_length_le (by omega)]; exact HL.out)
      have q0 : ¬ ((j : Int) < l.length) := by omega
      have cc := compact_own HO.out
      have hb := fun q hq => (HO.out.lt q hq).1
      clear S HA HO
      go_wp2_with fail
      refine cc.mono ?_
      rintro e w3 ⟨A3, c3, rfl, S3, g3⟩
      have k3 := below_grown kb kb.size g3 hb
      clear cc hb
      go_wp2_with fail
      go_ret
      rw [← HE.out]
      exact ⟨A3, c3, rfl, S3, k3⟩
end Go.Proofs.YtnjdkjkihbgkaaaGreat.PairY
