/- What the laws' Few, and the document's List, At, Ids and Find of package dag return: contracts. -/
import Derived.Test.YteojkfbnenfmkaaDoorIdBJ5
import Derived.Test.YteojkfbnenfmkaaDoorRefEJ10
namespace Go.Proofs.YteojkfbnenfmkaaDoor.DgR
set_option maxRecDepth 100000
open Go Go.Sort Go.RowKit Byt IdM IdW OpsM OpsW CmM StW CmW CmX CmY DgM DgN DgW

set_option maxRecDepth 100000 in
set_option maxHeartbeats 8000000 in
theorem few_ret (A : Option Addr) (cap : Nat) (l : List Cv) (m : Int) (w : World) (S : SlK w A cap l) :
    Calls Tryd.prog 9 #[.slice A l.length cap, .int .i64 m] w fun e w' => e = .returned (.bool (fewD (coms l) m)) ∧ Below w.heap.size w w' := by
  have hmax := S.len
  obtain ⟨r, hr⟩ : ∃ r, fewD (coms l) m = r := ⟨_, rfl⟩
  have HR : Hid (r = (decide ((l.length : Int) ≤ m) && (coms l).all fewK)) := aside (by rw [← hr]; unfold fewD; rw [coms_len])
  rw [hr]
  clear hr
  by_cases hm : (l.length : Int) ≤ m
  · have hg : ¬ m < (l.length : Int) := by omega
    have HR2 : Hid (r = (coms (l.drop 0)).all fewK) := aside (by rw [HR.out, decide_eq_true hm]; rfl)
    clear HR hm
    go_enter Tryd.func9, Tryd.ntmps9
    go_wp2_with (first | go_skip)
    clear hg
    go_loopw [5] (fun i wr => ∃ k : Nat, k ≤ l.length ∧ i = .int .i64 k ∧ Hid (r = (coms (l.drop k)).all fewK) ∧ Below w.heap.size w wr) (fun i _ => l.length - (intOf i).toNat)
    case atStart => exact ⟨0, Nat.zero_le _, rfl, HR2, Below.refl _ _⟩
    case round =>
      clear HR2
      obtain ⟨k, hk, rfl, HR, kb⟩ := hrel
      by_cases hlt : k < l.length
      · obtain ⟨b, off, rfl, hbw, hrg⟩ := S.plain (by omega)
        obtain ⟨x, hx⟩ : ∃ x, l[k]? = some x := ⟨_, List.getElem?_eq_getElem hlt⟩
        have hr1 := range_on (hrg k x hx) kb
        have p0 : (k : Int) < l.length := by omega
        have m0 : ((k : Int)).toNat = k := by omega
        have hc := fun W => CmX.few_ret x W
        obtain ⟨z, hz⟩ : ∃ z, fewK x.c = z := ⟨_, rfl⟩
        have HZ : Hid (r = (z && (coms (l.drop (k + 1))).all fewK)) := aside (by rw [HR.out, drop_at hx, ← hz]; rfl)
        rw [hz] at hc
        clear hrg S hx hz HR
        go_wp2_with (first | go_skip | (refine load_at rfl _ rfl _ _ rfl x hr1 ?_))
        refine (hc _).mono ?_
        rintro e w1 ⟨rfl, k1⟩
        have b1 := kb.trans (k1.mono kb.size)
        clear k1 kb hc hr1
        cases z with
        | false =>
          go_wp2_with (first | go_skip)
          go_ret
          exact ⟨StW.ret_bool (by rw [HZ.out]; rfl), b1⟩
        | true =>
          go_wp2_with (first | go_skip)
          go_roundw
          case rel => exact ⟨k + 1, by omega, by go_num, aside (by rw [HZ.out]; rfl), b1⟩
          case measure => simp [intOf]; omega
      · have pn : ¬ (k : Int) < l.length := by omega
        have HT : Hid (r = true) := aside (by rw [HR.out, List.drop_of_length_le (by omega)]; rfl)
        clear HR S
        go_wp2_with (first | go_skip)
        go_ret
        exact ⟨StW.ret_bool HT.out.symm, kb⟩
  · have hg : m < (l.length : Int) := by omega
    have HF : Hid (r = false) := aside (by rw [HR.out, decide_eq_false hm]; rfl)
    clear HR hm
    go_enter Tryd.func9, Tryd.ntmps9
    go_wp2_with (first | go_skip)
    go_ret
    exact ⟨StW.ret_bool HF.out.symm, Below.refl _ _⟩
/-- Ids in a new slice are handed back. -/
def NewD (l : List Idn) (w : World) (e : Ending) (w' : World) : Prop := ∃ A cap, e = .returned (.slice A l.length cap) ∧ SlI w' A cap l ∧ Below w.heap.size w w'
theorem take_map {l : List Com} {k : Nat} {c : Com} (h : l[k]? = some c) : (l.take (k + 1)).map hashK = (l.take k).map hashK ++ [hashK c] := by
  obtain ⟨hk, e⟩ := List.getElem?_eq_some_iff.1 h
  rw [List.take_succ_eq_append_getElem hk, List.map_append, e]
  rfl
set_option maxRecDepth 100000 in
set_option maxHeartbeats 8000000 in
theorem list_ret (A A' : Option Addr) (cap cap' : Nat) (l m : List Cv) (w : World) (S : SlK w A cap l) (T : SlK w A' cap' m) :
    Calls Tryd.prog 15 #[.slice A l.length cap, .slice A' m.length cap'] w fun e w' => e = .returned (.bool (listB (coms l) (coms m))) ∧ Below w.heap.size w w' := by
  have hmax := S.len
  have hmax' := T.len
  obtain ⟨r, hr⟩ : ∃ r, listB (coms l) (coms m) = r := ⟨_, rfl⟩
  rw [hr]
  by_cases hlen : l.length = m.length
  · have hl0 : ((l.length : Int) != m.length) = false := by simp [hlen]
    have HR : Hid (r = listB (coms (l.drop 0)) (coms (m.drop 0))) := aside hr.symm
    have HL := aside hlen
    clear hr hlen
    go_enter Tryd.func15, Tryd.ntmps15
    go_wp2_with (first | go_skip)
    clear hl0
    go_loopw [5] (fun i wr => ∃ k : Nat, k ≤ l.length ∧ i = .int .i64 k ∧ Hid (r = listB (coms (l.drop k)) (coms (m.drop k))) ∧ Below w.heap.size w wr) (fun i _ => l.length - (intOf i).toNat)
    case atStart => exact ⟨0, Nat.zero_le _, rfl, HR, Below.refl _ _⟩
    case round =>
      clear HR
      obtain ⟨k, hk, rfl, HR, kb⟩ := hrel
      by_cases hlt : k < l.length
      · have hlt2 : k < m.length := by have := HL.out; omega
        obtain ⟨b, off, rfl, hbw, hrg⟩ := S.plain (by omega)
        obtain ⟨b', off', rfl, hbw', hrg'⟩ := T.plain (by omega)
        obtain ⟨x, hx⟩ : ∃ x, l[k]? = some x := ⟨_, List.getElem?_eq_getElem hlt⟩
        obtain ⟨y, hy⟩ : ∃ y, m[k]? = some y := ⟨_, List.getElem?_eq_getElem hlt2⟩
        have rx := range_on (hrg k x hx) kb
        have ry := range_on (hrg' k y hy) kb
        have IX := (S.each x (List.mem_of_getElem? hx)).1.below kb
        have IY := (T.each y (List.mem_of_getElem? hy)).1.below kb
        have p0 : (k : Int) < l.length := by omega
        have p1 : (k : Int) < m.length := by omega
        have m0 : ((k : Int)).toNat = k := by omega
        obtain ⟨z, hz⟩ : ∃ z, CmR.sameK x.c y.c = z := ⟨_, rfl⟩
        have HZ : Hid (r = (z && listB (coms (l.drop (k + 1))) (coms (m.drop (k + 1))))) := aside (by rw [HR.out, drop_at hx, drop_at hy, ← hz]; rfl)
        have HQ := aside hz
        clear hrg hrg' S T hx hy hz HR
        go_wp2_with (first | go_skip)
        refine Grow.region [(0, true), (1, true), (2, true), (3, true), (4, true), (5, true), (6, true), (7, true), (8, false), (9, true)] (by kernel_rfl) (by kernel_rfl) rfl (by kernel_rfl) (by intro c a d v w h; cases d <;> exact h) ?_
        rename World => V
        have kd := below_drew1 (Below.refl V.heap.size V)
        have rx' := range_on rx kd
        have ry' := range_on ry kd
        have IX' := IX.below kd
        have IY' := IY.below kd
        have kb' := kb.trans (kd.mono kb.size)
        clear rx ry IX IY kb kd
        generalize V.drew = wz at rx' ry' IX' IY' kb' ⊢
        repeat (first | (refine Grow.reads rfl rfl ?_; go_big_quiet_want; refine quiet_com _ rfl _ _ rfl x rx' ?_; go_big_quiet_on; refine wpQuiet_nil ?_; simp only [Act.put, List.setIfInBounds_toArray, List.set_cons_succ, List.set_cons_zero]) | (refine Grow.reads rfl rfl ?_; go_big_quiet_want; refine quiet_com _ rfl _ _ rfl y ry' ?_; go_big_quiet_on; refine wpQuiet_nil ?_; simp only [Act.put, List.setIfInBounds_toArray, List.set_cons_succ, List.set_cons_zero]) | (refine Grow.reads rfl rfl ?_; go_big_quiet_step (fail); refine wpQuiet_nil ?_))
        have hc := CmR.same_ret x y _ IX' IY'
        rw [HQ.out] at hc
        refine Grow.acts rfl ?_
        go_wp2_with (first | go_skip)
        refine hc.mono ?_
        rintro e w1 ⟨rfl, k1⟩
        go_wp2_with (first | go_skip)
        refine ⟨k1, ?_⟩
        have b1 := kb'.trans (k1.mono kb'.size)
        clear hc k1 kb' rx' ry' IX' IY'
        repeat (refine Grow.reads rfl rfl ?_; go_big_quiet_step (fail); refine wpQuiet_nil ?_)
        refine Grow.ends ?_
        cases z with
        | false =>
          go_wp2_with (first | go_skip)
          go_ret
          exact ⟨StW.ret_bool (by rw [HZ.out]; rfl), b1⟩
        | true =>
          go_wp2_with (first | go_skip)
          go_roundw
          case rel => exact ⟨k + 1, by omega, by go_num, aside (by rw [HZ.out]; rfl), b1⟩
          case measure => simp [intOf]; omega
      · have pn : ¬ (k : Int) < l.length := by omega
        have HT : Hid (r = true) := aside (by rw [HR.out, List.drop_of_length_le (by omega), List.drop_of_length_le (by have := HL.out; omega)]; rfl)
        clear HR S T
        go_wp2_with (first | go_skip)
        go_ret
        exact ⟨StW.ret_bool HT.out.symm, kb⟩
  · have hl0 : ((l.length : Int) != m.length) = true := by simp; omega
    have HF : Hid (r = false) := aside (by rw [← hr]; exact listB_len (by rw [coms_len, coms_len]; exact hlen))
    clear hr hlen
    go_enter Tryd.func15, Tryd.ntmps15
    go_wp2_with (first | go_skip)
    go_ret
    exact ⟨StW.ret_bool HF.out.symm, Below.refl _ _⟩
end Go.Proofs.YteojkfbnenfmkaaDoor.DgR
