/- What the laws' Few, and the document's List, At, Ids and Find of package dag return: contracts. -/
import Derived.Test.YtechkdhehipliaaGreatDoorRowGJ8
import Derived.Test.YtechkdhehipliaaGreatDoorCmPJ3
import Derived.Test.YtechkdhehipliaaGreatDoorCmRJ3
namespace Go.Proofs.YtechkdhehipliaaGreatDoor.DgR
set_option maxRecDepth 100000
open Go Go.Sort Go.RowKit Byt IdM IdW OpsM OpsW CmM StW CmW CmX CmY DgM DgN DgW

set_option maxRecDepth 100000 in
set_option maxHeartbeats 8000000 in
theorem few_ret (A : Option Addr) (cap : Nat) (l : List Cv) (m : Int) (w : World) (S : SlK w A cap l) :
    Calls Tryz.prog 13 #[.slice A l.length cap, .int .i64 m] w fun e w' => e = .returned (.bool (fewD (coms l) m)) ∧ Below w.heap.size w w' := by
  have hmax := S.len
  obtain ⟨r, hr⟩ : ∃ r, fewD (coms l) m = r := ⟨_, rfl⟩
  have HR : Hid (r = (decide ((l.length : Int) ≤ m) && (coms l).all fewK)) := aside (by rw [← hr]; unfold fewD; rw [coms_len])
  rw [hr]
  clear hr
  by_cases hm : (l.length : Int) ≤ m
  · have hg : ¬ m < (l.length : Int) := by omega
    have HR2 : Hid (r = (coms (l.drop 0)).all fewK) := aside (by rw [HR.out, decide_eq_true hm]; rfl)
    clear HR hm
    go_enter Tryz.func13, Tryz.ntmps13
    go_wp2_with (first | go_skip)
    clear hg
    go_loopw [5] (fun i wr => ∃ k : Nat, k ≤ l.length ∧ i = .int .i64 k ∧ Hid (r = (coms (l.drop k)).all fewK) ∧ Below w.heap.size w wr) (fun i _ => l.length - (intOf i).toNat)
    case atStart => exact ⟨0, Nat.zero_le _, rfl, HR2, Below.refl _ _⟩
    case round =>
      clear HR2
      obtain ⟨k, hk, rfl, HR, kb⟩ := hrel
      by_cases hlt : k < l.length
      · obtain ⟨b, off, rfl, hbw, hrg⟩ := S.plain (by omega)
        obtain ⟨x, hx⟩ : ∃ x, l[k]? = some x := ⟨_, List.getElem?_eq_getElem hlt⟩
        have hr1 := range_on (hrg k x hx) kb
        have p0 : (k : Int) < l.length := by omega
        have m0 : ((k : Int)).toNat = k := by omega
        have hc := fun W => CmX.few_ret x W
        obtain ⟨z, hz⟩ : ∃ z, fewK x.c = z := ⟨_, rfl⟩
        have HZ : Hid (r = (z && (coms (l.drop (k + 1))).all fewK)) := aside (by rw [HR.out, drop_at hx, ← hz]; rfl)
        rw [hz] at hc
        clear hrg S hx hz HR
        go_wp2_with (first | go_skip | (refine load_at rfl _ rfl _ _ rfl x hr1 ?_))
        refine (hc _).mono ?_
        rintro e w1 ⟨rfl, k1⟩
        have b1 := kb.trans (k1.mono kb.size)
        clear k1 kb hc hr1
        cases z with
        | false =>
          go_wp2_with (first | go_skip)
          go_ret
          exact ⟨StW.ret_bool (by rw [HZ.out]; rfl), b1⟩
        | true =>
          go_wp2_with (first | go_skip)
          go_roundw
          case rel => exact ⟨k + 1, by omega, by go_num, aside (by rw [HZ.out]; rfl), b1⟩
          case measure => simp [intOf]; omega
      · have pn : ¬ (k : Int) < l.length := by omega
        have HT : Hid (r = true) := aside (by rw [HR.out, List.drop_of_length_le (by omega)]; rfl)
        clear HR S
        go_wp2_with (first | go_skip)
        go_ret
        exact ⟨StW.ret_bool HT.out.symm, kb⟩
  · have hg : m < (l.length : Int) := by omega
    have HF : Hid (r = false) := aside (by rw [HR.out, decide_eq_false hm]; rfl)
    clear HR hm
    go_enter Tryz.func13, Tryz.ntmps13
    go_wp2_with (first | go_skip)
    go_ret
    exact ⟨StW.ret_bool HF.out.symm, Below.refl _ _⟩
theorem atI_first {all : List Idn} {a : Idn} {k : Nat} (h : all[k]? = some a) (hn : ∀ j, j < k → all[j]? ≠ some a) : atI all a = k := by
  cases hq : idx all a with
  | none => exact absurd (List.mem_of_getElem? h) (idx_none.1 hq)
  | some p =>
    obtain ⟨h1, h2⟩ := idx_some hq
    have e : p = k := by
      rcases Nat.lt_trichotomy p k with hlt | e | hgt
      · exact absurd h1 (hn p hlt)
      · exact e
      · exact absurd h (h2 k hgt)
    unfold atI
    rw [hq, e]
theorem atI_none {all : List Idn} {a : Idn} (hn : ∀ j, j < all.length → all[j]? ≠ some a) : atI all a = -1 := by
  have : idx all a = none := idx_none.2 fun hm => by
    obtain ⟨j, hj⟩ := List.mem_iff_getElem?.1 hm
    exact hn j (List.getElem?_eq_some_iff.1 hj).1 hj
  unfold atI
  rw [this]
set_option maxRecDepth 100000 in
set_option maxHeartbeats 8000000 in
theorem at_ret (A : Option Addr) (cap : Nat) (l : List Idn) (x : Idn) (w : World) (S : SlI w A cap l) :
    Calls Tryz.prog 55 #[.slice A l.length cap, .agg (cs x)] w fun e w' => e = .returned (.int .i64 (atI l x)) ∧ Below w.heap.size w w' := by
  have hcap := S.1
  have hmax : l.length ≤ 9223372036854775807 := by have := S.2.1; unfold maxLen at this; omega
  obtain ⟨r, hr0⟩ : ∃ r, atI l x = r := ⟨_, rfl⟩
  rw [hr0]
  have hr := aside hr0
  clear hr0
  have B1 : IdW.Box (w.alloc (.cells (cs x) 42)) w.heap.size x := IdW.Box.new w x _
  go_enter Tryz.func55, Tryz.ntmps55
  go_wp2_with fail
  go_loopw [5] (fun i wr => ∃ k : Nat, k ≤ l.length ∧ i = .int .i64 k ∧ Hid (∀ j, j < k → l[j]? ≠ some x) ∧ IdW.Box wr w.heap.size x ∧ Below w.heap.size w wr) (fun i _ => l.length - (intOf i).toNat)
  case atStart => exact ⟨0, Nat.zero_le _, rfl, aside (fun j hj => absurd hj (Nat.not_lt_zero j)), B1, (Below.refl _ _).alloc (Nat.le_refl _) _⟩
  case round =>
    clear B1
    obtain ⟨k, hk, rfl, he, B1, kb⟩ := hrel
    by_cases hlt : k < l.length
    · obtain ⟨b, off, rfl, hbw, hrg⟩ := S.plain (by omega)
      have hr1 := IdW.range_below (hrg k hlt) kb
      obtain ⟨y, hy⟩ : ∃ y, l.getD k nought = y := ⟨_, rfl⟩
      have hyk : l[k]? = some y := by rw [← hy, List.getD_eq_getElem?_getD, List.getElem?_eq_getElem hlt]; rfl
      rw [hy] at hr1
      have HY := aside hyk
      have p0 : (k : Int) < l.length := by omega
      have m0 : ((k : Int)).toNat = k := by omega
      clear hrg S hy hyk
      have heq := fun W => IdW.equal W 9998 y x
      by_cases hyx : y = x
      · have hl : Hid (r = (k : Int)) := aside (by rw [← hr.out]; exact atI_first (by rw [HY.out, hyx]) he.out)
        simp only [hyx, decide_true] at heq
        subst hyx
        go_wp2
        refine wp_region_quiet_lit (by kernel_rfl) (by kernel_rfl) ?_
        repeat (first | (refine IdV.wpQuiet_load_id rfl _ rfl _ _ rfl y (fun _ ⟨_, e⟩ => by rw [e]; exact hr1) ?_; simp only [Act.put, List.setIfInBounds_toArray, List.set_cons_succ, List.set_cons_zero]) | (refine IdV.wpQuiet_load_id rfl _ rfl _ _ rfl y (fun _ ⟨_, e⟩ => by rw [e]; exact B1.range) ?_; simp only [Act.put, List.setIfInBounds_toArray, List.set_cons_succ, List.set_cons_zero]) | go_big_quiet_step (fail))
        refine wpQuiet_nil ?_
        rintro _ ⟨nq, rfl⟩
        go_wp2
        go_ret
        exact ⟨by rw [hl.out]; rfl, below_drew kb _⟩
      · simp only [hyx, decide_false] at heq
        go_wp2
        refine wp_region_quiet_lit (by kernel_rfl) (by kernel_rfl) ?_
        repeat (first | (refine IdV.wpQuiet_load_id rfl _ rfl _ _ rfl y (fun _ ⟨_, e⟩ => by rw [e]; exact hr1) ?_; simp only [Act.put, List.setIfInBounds_toArray, List.set_cons_succ, List.set_cons_zero]) | (refine IdV.wpQuiet_load_id rfl _ rfl _ _ rfl x (fun _ ⟨_, e⟩ => by rw [e]; exact B1.range) ?_; simp only [Act.put, List.setIfInBounds_toArray, List.set_cons_succ, List.set_cons_zero]) | go_big_quiet_step (fail))
        refine wpQuiet_nil ?_
        rintro _ ⟨nq, rfl⟩
        go_wp2
        go_roundw
        case rel =>
          refine ⟨k + 1, by omega, by go_num, aside (fun j hj => ?_), B1.drewN _, below_drew kb _⟩
          by_cases hjk : j = k
          · subst hjk
            rw [HY.out]
            exact fun e => hyx (Option.some.inj e)
          · exact he.out j (by omega)
        case measure => simp [intOf]; omega
    · have hl : Hid (r = -1) := aside (by
        rw [← hr.out]
        exact atI_none fun j hj => he.out j (by omega))
      go_wp2
      go_ret
      exact ⟨by rw [hl.out]; rfl, kb⟩
/-- Ids in a new slice are handed back. -/
def NewD (l : List Idn) (w : World) (e : Ending) (w' : World) : Prop := ∃ A cap, e = .returned (.slice A l.length cap) ∧ SlI w' A cap l ∧ Below w.heap.size w w'
theorem take_map {l : List Com} {k : Nat} {c : Com} (h : l[k]? = some c) : (l.take (k + 1)).map hashK = (l.take k).map hashK ++ [hashK c] := by
  obtain ⟨hk, e⟩ := List.getElem?_eq_some_iff.1 h
  rw [List.take_succ_eq_append_getElem hk, List.map_append, e]
  rfl
set_option maxRecDepth 100000 in
set_option maxHeartbeats 8000000 in
theorem ids_ret (A : Option Addr) (cap : Nat) (l : List Cv) (w : World) (S : SlK w A cap l) (ho : ∀ v ∈ l, CmR.Okay v.c) (hl : l.length ≤ 1000) :
    Calls Tryz.prog 16 #[.slice A l.length cap] w (NewD (idsD (coms l)) w) := by
  obtain ⟨r, hr⟩ : ∃ r, idsD (coms l) = r := ⟨_, rfl⟩
  have HR : Hid (r = if (coms (l.drop 0)).all mayK = true then (coms l).map hashK else []) := aside (by rw [← hr]; rfl)
  rw [hr]
  clear hr
  unfold NewD
  go_enter Tryz.func16, Tryz.ntmps16
  go_wp2_with (first | go_skip)
  go_loopw [3, 4] (fun o i wr => ∃ k : Nat, k ≤ l.length ∧ i = .int .i64 k ∧ Hid (r = if (coms (l.drop k)).all mayK = true then (coms l).map hashK else []) ∧ Hid (wr.ownsRow w.heap.size 42 32 o k (bv (flat (((coms l).take k).map hashK)))) ∧ Below w.heap.size w wr) (fun _ i _ => l.length - (intOf i).toNat)
  case atStart => exact ⟨0, Nat.zero_le _, rfl, HR, aside ⟨rfl, .inl ⟨rfl, rfl⟩⟩, Below.refl _ _⟩
  case round =>
    clear HR
    obtain ⟨k, hk, rfl, HR, HO, kb⟩ := hrel
    by_cases hlt : k < l.length
    · obtain ⟨b, off, rfl, hbw, hrg⟩ := S.plain (by omega)
      obtain ⟨x, hx⟩ : ∃ x, l[k]? = some x := ⟨_, List.getElem?_eq_getElem hlt⟩
      have hr1 := range_on (hrg k x hx) kb
      have p0 : (k : Int) < l.length := by omega
      have m0 : ((k : Int)).toNat = k := by omega
      have hxm := List.mem_of_getElem? hx
      have hc := hash_doc x _ ((S.each x hxm).1.below kb) (ho x hxm)
      unfold HashOut at hc
      have HT := aside (take_map (coms_at hx))
      have HD : Hid ((coms (l.drop k)).all mayK = (mayK x.c && (coms (l.drop (k + 1))).all mayK)) := aside (by rw [drop_at hx]; rfl)
      clear hrg hx hxm
      cases hm : mayK x.c with
      | false =>
        obtain ⟨y1, y2, y3⟩ := putB_no hm
        rw [y2] at hc
        have HE : Hid (r = []) := aside (by rw [HR.out, HD.out, hm]; rfl)
        clear HR HD y1 y2 y3 hm HO
        go_wp2_with (first | go_skip | (refine load_at rfl _ rfl _ _ rfl x hr1 ?_))
        refine hc.mono ?_
        rintro e w1 ⟨rfl, k1⟩
        have b1 := kb.trans (k1.mono kb.size)
        clear hc kb k1 hr1
        go_wp2_with (first | go_skip | (refine IdJ.wpList_alloc_id rfl rfl ?_) | (refine CmG.wpList_store_id rfl _ _ rfl _ nought _ rfl (hashI x.c) _ rfl rfl rfl ?_; intro w2 G2 k2 s2; have b2 := b1.trans (k2.mono b1.size)))
        go_ret
        rw [HE.out]
        exact ⟨none, 0, rfl, SlI.nil _, b2⟩
      | true =>
        obtain ⟨y1, y2, y3⟩ := putB_yes hm
        rw [y2, y3] at hc
        have HE : Hid (r = if (coms (l.drop (k + 1))).all mayK = true then (coms l).map hashK else []) := aside (by rw [HR.out, HD.out, hm, Bool.true_and])
        clear HR HD y1 y2 y3 hm
        obtain ⟨h, hh⟩ : ∃ h, hashK x.c = h := ⟨_, rfl⟩
        rw [hh] at hc HT
        clear hh
        obtain ⟨xs, hxs⟩ : ∃ xs, ((coms l).take k).map hashK = xs := ⟨_, rfl⟩
        rw [hxs] at HO HT
        clear hxs
        go_wp2_with (first | go_skip | (refine load_at rfl _ rfl _ _ rfl x hr1 ?_))
        refine hc.mono ?_
        rintro e w1 ⟨rfl, k1⟩
        have b1 := kb.trans (k1.mono kb.size)
        have O1 := aside (owns_below HO.out k1)
        clear hc kb k1 hr1 HO
        go_wp2_with (first | go_skip | (refine IdJ.wpList_alloc_id rfl rfl ?_) | (refine CmG.wpList_store_id rfl _ _ rfl _ nought _ rfl h _ rfl rfl rfl ?_; intro w2 G2 k2 s2; have b2 := b1.trans (k2.mono b1.size); have O2 := aside (owns_below O1.out k2)) | (refine wpList_load_id rfl _ rfl _ _ rfl h G2.range ?_) | (refine build_one rfl _ rfl h rfl ?_; intro w3 S3 k3; have b3 := b2.trans (k3.mono b2.size); have O3 := aside (owns_below O2.out k3)) | (refine wpList_append_ids rfl (.tmp 23) (.tmp 25) rfl w.heap.size _ k xs rfl O3.out _ 1 1 [h] rfl rfl S3 (by omega) b3.size ?_; intro v6 w6 o6 g6))
        have b6 : Below w.heap.size w w6 := below_grown b3 b3.size g6 (fun q hq => (O3.out.lt q hq).1)
        go_roundw
        case rel => exact ⟨k + 1, by omega, by go_num, HE, aside (by rw [HT.out]; exact o6), b6⟩
        case measure => simp [intOf]; omega
    · have e : k = l.length := by omega
      have HE : Hid (r = (coms l).map hashK) := aside (by rw [HR.out, List.drop_of_length_le (by omega)]; rfl)
      have HO2 := HO.out
      rw [List.take_of_length_le (by rw [coms_len]; omega)] at HO2
      have he := HE.out
      obtain ⟨R6, hR6⟩ : ∃ R, (coms l).map hashK = R := ⟨_, rfl⟩
      rw [hR6] at he HO2
      have HE2 := aside he
      clear hR6 he HE
      obtain ⟨A6, c6, rfl, S6⟩ := SlI.own HO2
      have pn : ¬ (k : Int) < l.length := by omega
      clear HR HO HO2
      go_wp2_with (first | go_skip)
      go_ret
      rw [HE2.out]
      exact ⟨A6, c6, rfl, S6, kb⟩
set_option maxRecDepth 100000 in
set_option maxHeartbeats 8000000 in
theorem list_ret (A A' : Option Addr) (cap cap' : Nat) (l m : List Cv) (w : World) (S : SlK w A cap l) (T : SlK w A' cap' m) :
    Calls Tryz.prog 20 #[.slice A l.length cap, .slice A' m.length cap'] w fun e w' => e = .returned (.bool (listB (coms l) (coms m))) ∧ Below w.heap.size w w' := by
  have hmax := S.len
  have hmax' := T.len
  obtain ⟨r, hr⟩ : ∃ r, listB (coms l) (coms m) = r := ⟨_, rfl⟩
  rw [hr]
  by_cases hlen : l.length = m.length
  · have hl0 : ((l.length : Int) != m.length) = false := by simp [hlen]
    have HR : Hid (r = listB (coms (l.drop 0)) (coms (m.drop 0))) := aside hr.symm
    have HL := aside hlen
    clear hr hlen
    go_enter Tryz.func20, Tryz.ntmps20
    go_wp2_with (first | go_skip)
    clear hl0
    go_loopw [5] (fun i wr => ∃ k : Nat, k ≤ l.length ∧ i = .int .i64 k ∧ Hid (r = listB (coms (l.drop k)) (coms (m.drop k))) ∧ Below w.heap.size w wr) (fun i _ => l.length - (intOf i).toNat)
    case atStart => exact ⟨0, Nat.zero_le _, rfl, HR, Below.refl _ _⟩
    case round =>
      clear HR
      obtain ⟨k, hk, rfl, HR, kb⟩ := hrel
      by_cases hlt : k < l.length
      · have hlt2 : k < m.length := by have := HL.out; omega
        obtain ⟨b, off, rfl, hbw, hrg⟩ := S.plain (by omega)
        obtain ⟨b', off', rfl, hbw', hrg'⟩ := T.plain (by omega)
        obtain ⟨x, hx⟩ : ∃ x, l[k]? = some x := ⟨_, List.getElem?_eq_getElem hlt⟩
        obtain ⟨y, hy⟩ : ∃ y, m[k]? = some y := ⟨_, List.getElem?_eq_getElem hlt2⟩
        have rx := range_on (hrg k x hx) kb
        have ry := range_on (hrg' k y hy) kb
        have IX := (S.each x (List.mem_of_getElem? hx)).1.below kb
        have IY := (T.each y (List.mem_of_getElem? hy)).1.below kb
        have p0 : (k : Int) < l.length := by omega
        have p1 : (k : Int) < m.length := by omega
        have m0 : ((k : Int)).toNat = k := by omega
        obtain ⟨z, hz⟩ : ∃ z, CmR.sameK x.c y.c = z := ⟨_, rfl⟩
        have HZ : Hid (r = (z && listB (coms (l.drop (k + 1))) (coms (m.drop (k + 1))))) := aside (by rw [HR.out, drop_at hx, drop_at hy, ← hz]; rfl)
        have HQ := aside hz
        clear hrg hrg' S T hx hy hz HR
        go_wp2_with (first | go_skip)
        refine Grow.region [(0, true), (1, true), (2, true), (3, true), (4, true), (5, true), (6, true), (7, true), (8, false), (9, true)] (by kernel_rfl) (by kernel_rfl) rfl (by kernel_rfl) (by intro c a d v w h; cases d <;> exact h) ?_
        rename World => V
        have kd := below_drew1 (Below.refl V.heap.size V)
        have rx' := range_on rx kd
        have ry' := range_on ry kd
        have IX' := IX.below kd
        have IY' := IY.below kd
        have kb' := kb.trans (kd.mono kb.size)
        clear rx ry IX IY kb kd
        generalize V.drew = wz at rx' ry' IX' IY' kb' ⊢
        repeat (first | (refine Grow.reads rfl rfl ?_; go_big_quiet_want; refine quiet_com _ rfl _ _ rfl x rx' ?_; go_big_quiet_on; refine wpQuiet_nil ?_; simp only [Act.put, List.setIfInBounds_toArray, List.set_cons_succ, List.set_cons_zero]) | (refine Grow.reads rfl rfl ?_; go_big_quiet_want; refine quiet_com _ rfl _ _ rfl y ry' ?_; go_big_quiet_on; refine wpQuiet_nil ?_; simp only [Act.put, List.setIfInBounds_toArray, List.set_cons_succ, List.set_cons_zero]) | (refine Grow.reads rfl rfl ?_; go_big_quiet_step (fail); refine wpQuiet_nil ?_))
        have hc := CmR.same_ret x y _ IX' IY'
        rw [HQ.out] at hc
        refine Grow.acts rfl ?_
        go_wp2_with (first | go_skip)
        refine hc.mono ?_
        rintro e w1 ⟨rfl, k1⟩
        go_wp2_with (first | go_skip)
        refine ⟨k1, ?_⟩
        have b1 := kb'.trans (k1.mono kb'.size)
        clear hc k1 kb' rx' ry' IX' IY'
        repeat (refine Grow.reads rfl rfl ?_; go_big_quiet_step (fail); refine wpQuiet_nil ?_)
        refine Grow.ends ?_
        cases z with
        | false =>
          go_wp2_with (first | go_skip)
          go_ret
          exact ⟨StW.ret_bool (by rw [HZ.out]; rfl), b1⟩
        | true =>
          go_wp2_with (first | go_skip)
          go_roundw
          case rel => exact ⟨k + 1, by omega, by go_num, aside (by rw [HZ.out]; rfl), b1⟩
          case measure => simp [intOf]; omega
      · have pn : ¬ (k : Int) < l.length := by omega
        have HT : Hid (r = true) := aside (by rw [HR.out, List.drop_of_length_le (by omega), List.drop_of_length_le (by have := HL.out; omega)]; rfl)
        clear HR S T
        go_wp2_with (first | go_skip)
        go_ret
        exact ⟨StW.ret_bool HT.out.symm, kb⟩
  · have hl0 : ((l.length : Int) != m.length) = true := by simp; omega
    have HF : Hid (r = false) := aside (by rw [← hr]; exact listB_len (by rw [coms_len, coms_len]; exact hlen))
    clear hr hlen
    go_enter Tryz.func20, Tryz.ntmps20
    go_wp2_with (first | go_skip)
    go_ret
    exact ⟨StW.ret_bool HF.out.symm, Below.refl _ _⟩
end Go.Proofs.YtechkdhehipliaaGreatDoor.DgR
