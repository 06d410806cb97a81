/- What the document's Event, May and Same of package state return: contracts. | What slices.Equal returns of two lists of counts, of registers, of pairs: contracts. -/
import Derived.Test.YtnjdkjkihbgkaaaGreatRowGJ6
import Derived.Test.YtnjdkjkihbgkaaaGreatCtrRJ2
import Derived.Test.YtnjdkjkihbgkaaaGreatRegSJ3
import Derived.Test.YtnjdkjkihbgkaaaGreatPairG
namespace Go.Proofs.YtnjdkjkihbgkaaaGreat.StR
set_option maxRecDepth 100000
open Go Go.RowKit Byt OpsM Rise RowS StM StW

set_option maxRecDepth 100000 in
set_option maxHeartbeats 4000000 in
theorem may_ret (v : Sv) (w : World) (S : In w v) (hf : Fits v.s) : Calls Tryz.prog 11 #[.agg (sc v)] w fun e w' => e = .returned (.bool (mayS v.s)) ∧ Below w.heap.size w w' := by
  have R : Cel.Box SE (w.alloc (.cells (sc v) 26)) w.heap.size v := Cel.Box.new w v _
  have kb := below_alloc w (.cells (sc v) 26)
  have S0 := S.below kb
  obtain ⟨c0, _, _⟩ := box_cells R
  have q0 := fun W T => CtrR.may_ret v.a0 v.k0 v.s.c W T hf.c
  have q1 := fun W T => RegG.may_ret v.a1 v.k1 v.s.r W T hf.r
  have q2 := fun W T => PairG.may_ret v.a2 v.k2 v.s.p W T hf.p
  obtain ⟨x, hx⟩ : ∃ x, CtrM.mayC v.s.c = x := ⟨_, rfl⟩
  obtain ⟨y, hy⟩ : ∃ y, RegM.mayR v.s.r = y := ⟨_, rfl⟩
  obtain ⟨z, hz⟩ : ∃ z, PairM.mayP v.s.p = z := ⟨_, rfl⟩
  have HR : Hid (mayS v.s = (x && (y && z))) := aside (by unfold mayS; rw [hx, hy, hz])
  rw [hx] at q0
  rw [hy] at q1
  rw [hz] at q2
  clear S hf hx hy hz
  go_enter Tryz.func11, Tryz.ntmps11
  go_wp2_with fail
  refine (q0 _ S0.c).mono ?_
  rintro e w1 ⟨rfl, k1⟩
  have R1 := R.below k1
  have S1 := S0.below k1
  have b1 := kb.trans (k1.mono kb.size)
  clear q0 c0 R S0 k1 kb
  obtain ⟨_, c1, _⟩ := box_cells R1
  go_wp2_with fail
  refine (q1 _ S1.r).mono ?_
  rintro e w2 ⟨rfl, k2⟩
  have R2 := R1.below k2
  have S2 := S1.below k2
  have b2 := b1.trans (k2.mono b1.size)
  clear q1 c1 R1 S1 k2 b1
  obtain ⟨_, _, c2⟩ := box_cells R2
  go_wp2_with fail
  refine (q2 _ S2.p).mono ?_
  rintro e w3 ⟨rfl, k3⟩
  have b3 := b2.trans (k3.mono b2.size)
  clear q2 c2 R2 S2 k3 b2
  cases x with
  | false =>
    go_wp2_with (first | go_skip)
    go_ret
    exact ⟨StW.ret_bool HR.out.symm, b3⟩
  | true =>
    cases y with
    | false =>
      go_wp2_with (first | go_skip)
      go_ret
      exact ⟨StW.ret_bool HR.out.symm, b3⟩
    | true =>
      go_wp2_with (first | go_skip)
      go_ret
      exact ⟨StW.ret_bool HR.out.symm, b3⟩

/-- Are two states the same? -/
def sameS (a b : St) : Bool := CtrS.sameB a.c b.c && (RegS.sameB a.r b.r && PairS.sameB a.p b.p)
theorem sameS_iff {a b : St} : sameS a b = true ↔ a = b := by
  unfold sameS
  rw [Bool.and_eq_true, Bool.and_eq_true, CtrS.sameB_iff, RegS.sameB_iff, PairS.sameB_iff]
  exact ⟨fun h => St_ext h.1 h.2.1 h.2.2, fun h => by rw [h]; exact ⟨rfl, rfl, rfl⟩⟩
set_option maxRecDepth 100000 in
set_option maxHeartbeats 4000000 in
theorem same_ret (u v : Sv) (w : World) (S : In w u) (T : In w v) : Calls Tryz.prog 10 #[.agg (sc u), .agg (sc v)] w fun e w' => e = .returned (.bool (sameS u.s v.s)) ∧ Below w.heap.size w w' := by
  have R : Cel.Box SE ((w.alloc (.cells (sc u) 26)).alloc (.cells (sc v) 26)) w.heap.size u := (Cel.Box.new (E := SE) w u 26).alloc _
  have Q : Cel.Box SE ((w.alloc (.cells (sc u) 26)).alloc (.cells (sc v) 26)) (w.heap.size + 1) v := by
    have z : (w.alloc (.cells (sc u) 26)).heap.size = w.heap.size + 1 := by simp
    rw [← z]
    exact Cel.Box.new _ v _
  have kb : Below w.heap.size w ((w.alloc (.cells (sc u) 26)).alloc (.cells (sc v) 26)) := ((Below.refl _ _).alloc (Nat.le_refl _) _).alloc (by simp) _
  have S0 := S.below kb
  have T0 := T.below kb
  obtain ⟨c0, _, _⟩ := box_cells R
  obtain ⟨d0, _, _⟩ := box_cells Q
  have q0 := fun W S T => CtrS.same_ret u.a0 u.k0 u.s.c v.a0 v.k0 v.s.c W S T
  have q1 := fun W S T => RegS.same_ret u.a1 u.k1 u.s.r v.a1 v.k1 v.s.r W S T
  have q2 := fun W S T => PairS.same_ret u.a2 u.k2 u.s.p v.a2 v.k2 v.s.p W S T
  obtain ⟨x, hx⟩ : ∃ x, CtrS.sameB u.s.c v.s.c = x := ⟨_, rfl⟩
  obtain ⟨y, hy⟩ : ∃ y, RegS.sameB u.s.r v.s.r = y := ⟨_, rfl⟩
  obtain ⟨z, hz⟩ : ∃ z, PairS.sameB u.s.p v.s.p = z := ⟨_, rfl⟩
  have HR : Hid (sameS u.s v.s = (x && (y && z))) := aside (by unfold sameS; rw [hx, hy, hz])
  rw [hx] at q0
  rw [hy] at q1
  rw [hz] at q2
  clear S T hx hy hz
  go_enter Tryz.func10, Tryz.ntmps10
  go_wp2_with fail
  refine (q0 _ S0.c T0.c).mono ?_
  rintro e w1 ⟨rfl, k1⟩
  have R1 := R.below k1
  have Q1 := Q.below k1
  have S1 := S0.below k1
  have T1 := T0.below k1
  have b1 := kb.trans (k1.mono kb.size)
  clear q0 c0 d0 R Q S0 T0 k1 kb
  obtain ⟨_, c1, _⟩ := box_cells R1
  obtain ⟨_, d1, _⟩ := box_cells Q1
  go_wp2_with fail
  refine (q1 _ S1.r T1.r).mono ?_
  rintro e w2 ⟨rfl, k2⟩
  have R2 := R1.below k2
  have Q2 := Q1.below k2
  have S2 := S1.below k2
  have T2 := T1.below k2
  have b2 := b1.trans (k2.mono b1.size)
  clear q1 c1 d1 R1 Q1 S1 T1 k2 b1
  obtain ⟨_, _, c2⟩ := box_cells R2
  obtain ⟨_, _, d2⟩ := box_cells Q2
  go_wp2_with fail
  refine (q2 _ S2.p T2.p).mono ?_
  rintro e w3 ⟨rfl, k3⟩
  have b3 := b2.trans (k3.mono b2.size)
  clear q2 c2 d2 R2 Q2 S2 T2 k3 b2
  cases x with
  | false =>
    go_wp2_with (first | go_skip)
    go_ret
    exact ⟨StW.ret_bool HR.out.symm, b3⟩
  | true =>
    cases y with
    | false =>
      go_wp2_with (first | go_skip)
      go_ret
      exact ⟨StW.ret_bool HR.out.symm, b3⟩
    | true =>
      go_wp2_with (first | go_skip)
      go_ret
      exact ⟨StW.ret_bool HR.out.symm, b3⟩
end Go.Proofs.YtnjdkjkihbgkaaaGreat.StR
namespace Go.Proofs.YtnjdkjkihbgkaaaGreat.StV
set_option maxRecDepth 100000
open Go Go.RowKit Byt OpsM OpsK Rise RowS

theorem ret_bool {a b : Bool} (h : a = b) : Ending.returned (.bool a) = .returned (.bool b) := by rw [h]

section
open CtrM RowS CtrW CtrS
set_option maxRecDepth 100000 in
set_option maxHeartbeats 4000000 in
theorem equal_c (A : Option Addr) (cap : Nat) (a : List Cn) (A' : Option Addr) (cap' : Nat) (b : List Cn) (w : World) (S : SlR E w A cap a) (S' : SlR E w A' cap' b) :
    Calls Tryz.prog 57 #[.slice A a.length cap, .slice A' b.length cap'] w fun e w' => e = .returned (.bool (sameB a b)) ∧ Below w.heap.size w w' := by
  have hmax : a.length ≤ 9223372036854775807 := by have := S.1; have := S.2.1; unfold maxLen at this; omega
  have hmax' : b.length ≤ 9223372036854775807 := by have := S'.1; have := S'.2.1; unfold maxLen at this; omega
  have hcap := S.1
  have hcap' := S'.1
  obtain ⟨r, hr0⟩ : ∃ r, sameB a b = r := ⟨_, rfl⟩
  rw [hr0]
  have HR0 := aside hr0
  clear hr0
  by_cases hl : a.length = b.length
  · have t0 : ((a.length : Int) != (b.length : Int)) = false := by simp; omega
    have HL := aside hl
    clear hl
    go_enter Tryz.func57, Tryz.ntmps57
    go_wp2
    clear t0
    go_loopw [13] (fun i wr => ∃ j : Nat, j ≤ a.length ∧ i = .int .i64 j ∧ Hid (r = sameB (a.drop j) (b.drop j)) ∧ Below w.heap.size w wr) (fun i _ => a.length - (intOf i).toNat)
    case atStart => exact ⟨0, Nat.zero_le _, rfl, aside HR0.out.symm, Below.refl _ _⟩
    case round =>
      obtain ⟨j, hj, rfl, HG, kb⟩ := hrel
      by_cases hlt : j < a.length
      · have hlt' : j < b.length := by have := HL.out; omega
        obtain ⟨p, off, rfl, hbw, hr⟩ := CtrW.plain S (by omega)
        obtain ⟨p', off', rfl, hbw', hr'⟩ := CtrW.plain S' (by omega)
        obtain ⟨x, hx⟩ : ∃ x, a[j]? = some x := ⟨_, List.getElem?_eq_getElem hlt⟩
        obtain ⟨y, hy⟩ : ∃ y, b[j]? = some y := ⟨_, List.getElem?_eq_getElem hlt'⟩
        obtain ⟨c0, c1⟩ := cells (range_below (hr j x hx) kb)
        obtain ⟨d0, d1⟩ := cells (range_below (hr' j y hy) kb)
        have p0 : (j : Int) < a.length := by omega
        have p1 : (j : Int) < b.length := by omega
        have m0 : ((j : Int)).toNat = j := by omega
        have HG2 := HG.out
        rw [getD_drop hx, getD_drop hy] at HG2
        have heq := fun W => equal W x y
        clear hr hr' S S' hx hy HG
        cases hs : sameN x y with
        | true =>
          have HR : Hid (r = sameB (a.drop (j + 1)) (b.drop (j + 1))) := aside (by rw [HG2, sameB, hs]; rfl)
          rw [hs] at heq
          clear HG2 hs
          go_wp2
          go_quiet (fail)
          go_wp2
          go_roundw
          case rel => exact ⟨j + 1, by omega, by go_num, HR, below_drew kb _⟩
          case measure => simp [intOf]; omega
        | false =>
          have HR : Hid (r = false) := aside (by rw [HG2, sameB, hs]; rfl)
          rw [hs] at heq
          clear HG2 hs
          go_wp2
          go_quiet (fail)
          go_wp2
          go_ret
          exact ⟨ret_bool HR.out.symm, below_drew kb _⟩
      · have HR : Hid (r = true) := aside (by
          have := HG.out
          rwa [List.drop_of_length_le (by omega), List.drop_of_length_le (by have := HL.out; omega)] at this)
        clear S S' HG
        go_wp2
        go_ret
        exact ⟨ret_bool HR.out.symm, kb⟩
  · have t0 : ((a.length : Int) != (b.length : Int)) = true := by simp; omega
    have HR : Hid (r = false) := aside (HR0.out.symm.trans (sameB_len hl))
    clear hl
    go_enter Tryz.func57, Tryz.ntmps57
    go_wp2
    go_ret
    exact ⟨ret_bool HR.out.symm, Below.refl _ _⟩
end

section
open RegM RowS RowB RegW RegS
set_option maxRecDepth 100000 in
set_option maxHeartbeats 4000000 in
theorem equal_r (A : Option Addr) (cap : Nat) (a : List Rg) (A' : Option Addr) (cap' : Nat) (b : List Rg) (w : World) (S : SlR E w A cap a) (S' : SlR E w A' cap' b) :
    Calls Tryz.prog 58 #[.slice A a.length cap, .slice A' b.length cap'] w fun e w' => e = .returned (.bool (sameB a b)) ∧ Below w.heap.size w w' := by
  have hmax : a.length ≤ 9223372036854775807 := by have := S.1; have := S.2.1; unfold maxLen at this; omega
  have hmax' : b.length ≤ 9223372036854775807 := by have := S'.1; have := S'.2.1; unfold maxLen at this; omega
  have hcap := S.1
  have hcap' := S'.1
  obtain ⟨r, hr0⟩ : ∃ r, sameB a b = r := ⟨_, rfl⟩
  rw [hr0]
  have HR0 := aside hr0
  clear hr0
  by_cases hl : a.length = b.length
  · have t0 : ((a.length : Int) != (b.length : Int)) = false := by simp; omega
    have HL := aside hl
    clear hl
    go_enter Tryz.func58, Tryz.ntmps58
    go_wp2
    clear t0
    go_loopw [13] (fun i wr => ∃ j : Nat, j ≤ a.length ∧ i = .int .i64 j ∧ Hid (r = sameB (a.drop j) (b.drop j)) ∧ Below w.heap.size w wr) (fun i _ => a.length - (intOf i).toNat)
    case atStart => exact ⟨0, Nat.zero_le _, rfl, aside HR0.out.symm, Below.refl _ _⟩
    case round =>
      obtain ⟨j, hj, rfl, HG, kb⟩ := hrel
      by_cases hlt : j < a.length
      · have hlt' : j < b.length := by have := HL.out; omega
        obtain ⟨p, off, rfl, hbw, hr⟩ := RegW.plain S (by omega)
        obtain ⟨p', off', rfl, hbw', hr'⟩ := RegW.plain S' (by omega)
        obtain ⟨x, hx⟩ : ∃ x, a[j]? = some x := ⟨_, List.getElem?_eq_getElem hlt⟩
        obtain ⟨y, hy⟩ : ∃ y, b[j]? = some y := ⟨_, List.getElem?_eq_getElem hlt'⟩
        obtain ⟨c0, c1, c2, c3, c4⟩ := cells (range_below (hr j x hx) kb)
        obtain ⟨d0, d1, d2, d3, d4⟩ := cells (range_below (hr' j y hy) kb)
        have p0 : (j : Int) < a.length := by omega
        have p1 : (j : Int) < b.length := by omega
        have m0 : ((j : Int)).toNat = j := by omega
        have HG2 := HG.out
        rw [getD_drop hx, getD_drop hy] at HG2
        have heq := fun W => equal W x y
        unfold rc at heq
        clear hr hr' S S' hx hy HG
        cases hs : sameN x y with
        | true =>
          have HR : Hid (r = sameB (a.drop (j + 1)) (b.drop (j + 1))) := aside (by rw [HG2, sameB, hs]; rfl)
          rw [hs] at heq
          clear HG2 hs
          go_wp2
          go_quiet (fail)
          go_wp2
          go_roundw
          case rel => exact ⟨j + 1, by omega, by go_num, HR, below_drew kb _⟩
          case measure => simp [intOf]; omega
        | false =>
          have HR : Hid (r = false) := aside (by rw [HG2, sameB, hs]; rfl)
          rw [hs] at heq
          clear HG2 hs
          go_wp2
          go_quiet (fail)
          go_wp2
          go_ret
          exact ⟨ret_bool HR.out.symm, below_drew kb _⟩
      · have HR : Hid (r = true) := aside (by
          have := HG.out
          rwa [List.drop_of_length_le (by omega), List.drop_of_length_le (by have := HL.out; omega)] at this)
        clear S S' HG
        go_wp2
        go_ret
        exact ⟨ret_bool HR.out.symm, kb⟩
  · have t0 : ((a.length : Int) != (b.length : Int)) = true := by simp; omega
    have HR : Hid (r = false) := aside (HR0.out.symm.trans (sameB_len hl))
    clear hl
    go_enter Tryz.func58, Tryz.ntmps58
    go_wp2
    go_ret
    exact ⟨ret_bool HR.out.symm, Below.refl _ _⟩
end

section
open PairM PairN RowS RowB PairW PairS
set_option maxRecDepth 100000 in
set_option maxHeartbeats 4000000 in
theorem equal_p (A : Option Addr) (cap : Nat) (a : List Pr) (A' : Option Addr) (cap' : Nat) (b : List Pr) (w : World) (S : SlR E w A cap a) (S' : SlR E w A' cap' b) :
    Calls Tryz.prog 59 #[.slice A a.length cap, .slice A' b.length cap'] w fun e w' => e = .returned (.bool (sameB a b)) ∧ Below w.heap.size w w' := by
  have hmax : a.length ≤ 9223372036854775807 := by have := S.1; have := S.2.1; unfold maxLen at this; omega
  have hmax' : b.length ≤ 9223372036854775807 := by have := S'.1; have := S'.2.1; unfold maxLen at this; omega
  have hcap := S.1
  have hcap' := S'.1
  obtain ⟨r, hr0⟩ : ∃ r, sameB a b = r := ⟨_, rfl⟩
  rw [hr0]
  have HR0 := aside hr0
  clear hr0
  by_cases hl : a.length = b.length
  · have t0 : ((a.length : Int) != (b.length : Int)) = false := by simp; omega
    have HL := aside hl
    clear hl
    go_enter Tryz.func59, Tryz.ntmps59
    go_wp2
    clear t0
    go_loopw [13] (fun i wr => ∃ j : Nat, j ≤ a.length ∧ i = .int .i64 j ∧ Hid (r = sameB (a.drop j) (b.drop j)) ∧ Below w.heap.size w wr) (fun i _ => a.length - (intOf i).toNat)
    case atStart => exact ⟨0, Nat.zero_le _, rfl, aside HR0.out.symm, Below.refl _ _⟩
    case round =>
      obtain ⟨j, hj, rfl, HG, kb⟩ := hrel
      by_cases hlt : j < a.length
      · have hlt' : j < b.length := by have := HL.out; omega
        obtain ⟨p, off, rfl, hbw, hr⟩ := PairW.plain S (by omega)
        obtain ⟨p', off', rfl, hbw', hr'⟩ := PairW.plain S' (by omega)
        obtain ⟨x, hx⟩ : ∃ x, a[j]? = some x := ⟨_, List.getElem?_eq_getElem hlt⟩
        obtain ⟨y, hy⟩ : ∃ y, b[j]? = some y := ⟨_, List.getElem?_eq_getElem hlt'⟩
        obtain ⟨c0, c1, c2, c3⟩ := cells (range_below (hr j x hx) kb)
        obtain ⟨d0, d1, d2, d3⟩ := cells (range_below (hr' j y hy) kb)
        have p0 : (j : Int) < a.length := by omega
        have p1 : (j : Int) < b.length := by omega
        have m0 : ((j : Int)).toNat = j := by omega
        have HG2 := HG.out
        rw [getD_drop hx, getD_drop hy] at HG2
        have heq := fun W => equal W x y
        unfold pc at heq
        clear hr hr' S S' hx hy HG
        cases hs : sameN x y with
        | true =>
          have HR : Hid (r = sameB (a.drop (j + 1)) (b.drop (j + 1))) := aside (by rw [HG2, sameB, hs]; rfl)
          rw [hs] at heq
          clear HG2 hs
          go_wp2
          go_quiet (fail)
          go_wp2
          go_roundw
          case rel => exact ⟨j + 1, by omega, by go_num, HR, below_drew kb _⟩
          case measure => simp [intOf]; omega
        | false =>
          have HR : Hid (r = false) := aside (by rw [HG2, sameB, hs]; rfl)
          rw [hs] at heq
          clear HG2 hs
          go_wp2
          go_quiet (fail)
          go_wp2
          go_ret
          exact ⟨ret_bool HR.out.symm, below_drew kb _⟩
      · have HR : Hid (r = true) := aside (by
          have := HG.out
          rwa [List.drop_of_length_le (by omega), List.drop_of_length_le (by have := HL.out; omega)] at this)
        clear S S' HG
        go_wp2
        go_ret
        exact ⟨ret_bool HR.out.symm, kb⟩
  · have t0 : ((a.length : Int) != (b.length : Int)) = true := by simp; omega
    have HR : Hid (r = false) := aside (HR0.out.symm.trans (sameB_len hl))
    clear hl
    go_enter Tryz.func59, Tryz.ntmps59
    go_wp2
    go_ret
    exact ⟨ret_bool HR.out.symm, Below.refl _ _⟩
end
end Go.Proofs.YtnjdkjkihbgkaaaGreat.StV
