/- What slices.Equal returns of two lists of counts, of registers, of pairs: contracts. -/
import Derived.Test.YtnjdkjkihbgkaaaOpsKJ6
import Derived.Test.YtnjdkjkihbgkaaaRegSJ5
namespace Go.Proofs.Ytnjdkjkihbgkaaa.StV
set_option maxRecDepth 100000
open Go Go.RowKit Byt OpsM OpsK Rise RowS

theorem ret_bool {a b : Bool} (h : a = b) : Ending.returned (.bool a) = .returned (.bool b) := by rw [h]

section
open CtrM RowS CtrW CtrS
set_option maxRecDepth 100000 in
set_option maxHeartbeats 4000000 in
theorem equal_c (A : Option Addr) (cap : Nat) (a : List Cn) (A' : Option Addr) (cap' : Nat) (b : List Cn) (w : World) (S : SlR E w A cap a) (S' : SlR E w A' cap' b) :
    Calls Try.prog 22 #[.slice A a.length cap, .slice A' b.length cap'] w fun e w' => e = .returned (.bool (sameB a b)) ∧ Below w.heap.size w w' := by
  have hmax : a.length ≤ 9223372036854775807 := by have := S.1; have := S.2.1; unfold maxLen at this; omega
  have hmax' : b.length ≤ 9223372036854775807 := by have := S'.1; have := S'.2.1; unfold maxLen at this; omega
  have hcap := S.1
  have hcap' := S'.1
  obtain ⟨r, hr0⟩ : ∃ r, sameB a b = r := ⟨_, rfl⟩
  rw [hr0]
  have HR0 := aside hr0
  clear hr0
  by_cases hl : a.length = b.length
  · have t0 : ((a.length : Int) != (b.length : Int)) = false := by simp; omega
    have HL := aside hl
    clear hl
    go_enter Try.func22, Try.ntmps22
    go_wp2
    clear t0
    go_loopw [13] (fun i wr => ∃ j : Nat, j ≤ a.length ∧ i = .int .i64 j ∧ Hid (r = sameB (a.drop j) (b.drop j)) ∧ Below w.heap.size w wr) (fun i _ => a.length - (intOf i).toNat)
    case atStart => exact ⟨0, Nat.zero_le _, rfl, aside HR0.out.symm, Below.refl _ _⟩
    case round =>
      obtain ⟨j, hj, rfl, HG, kb⟩ := hrel
      by_cases hlt : j < a.length
      · have hlt' : j < b.length := by have := HL.out; omega
        obtain ⟨p, off, rfl, hbw, hr⟩ := CtrW.plain S (by omega)
        obtain ⟨p', off', rfl, hbw', hr'⟩ := CtrW.plain S' (by omega)
        obtain ⟨x, hx⟩ : ∃ x, a[j]? = some x := ⟨_, List.getElem?_eq_getElem hlt⟩
        obtain ⟨y, hy⟩ : ∃ y, b[j]? = some y := ⟨_, List.getElem?_eq_getElem hlt'⟩
        obtain ⟨c0, c1⟩ := cells (range_below (hr j x hx) kb)
        obtain ⟨d0, d1⟩ := cells (range_below (hr' j y hy) kb)
        have p0 : (j : Int) < a.length := by omega
        have p1 : (j : Int) < b.length := by omega
        have m0 : ((j : Int)).toNat = j := by omega
        have HG2 := HG.out
        rw [getD_drop hx, getD_drop hy] at HG2
        have heq := fun W => equal W x y
        clear hr hr' S S' hx hy HG
        cases hs : sameN x y with
        | true =>
          have HR : Hid (r = sameB (a.drop (j + 1)) (b.drop (j + 1))) := aside (by rw [HG2, sameB, hs]; rfl)
          rw [hs] at heq
          clear HG2 hs
          go_wp2
          go_quiet (fail)
          go_wp2
          go_roundw
          case rel => exact ⟨j + 1, by omega, by go_num, HR, below_drew kb _⟩
          case measure => simp [intOf]; omega
        | false =>
          have HR : Hid (r = false) := aside (by rw [HG2, sameB, hs]; rfl)
          rw [hs] at heq
          clear HG2 hs
          go_wp2
          go_quiet (fail)
          go_wp2
          go_ret
          exact ⟨ret_bool HR.out.symm, below_drew kb _⟩
      · have HR : Hid (r = true) := aside (by
          have := HG.out
          rwa [List.drop_of_length_le (by omega), List.drop_of_length_le (by have := HL.out; omega)] at this)
        clear S S' HG
        go_wp2
        go_ret
        exact ⟨ret_bool HR.out.symm, kb⟩
  · have t0 : ((a.length : Int) != (b.length : Int)) = true := by simp; omega
    have HR : Hid (r = false) := aside (HR0.out.symm.trans (sameB_len hl))
    clear hl
    go_enter Try.func22, Try.ntmps22
    go_wp2
    go_ret
    exact ⟨ret_bool HR.out.symm, Below.refl _ _⟩
end

section
open RegM RowS RowB RegW RegS
set_option maxRecDepth 100000 in
set_option maxHeartbeats 4000000 in
theorem equal_r (A : Option Addr) (cap : Nat) (a : List Rg) (A' : Option Addr) (cap' : Nat) (b : List Rg) (w : World) (S : SlR E w A cap a) (S' : SlR E w A' cap' b) :
    Calls Try.prog 23 #[.slice A a.length cap, .slice A' b.length cap'] w fun e w' => e = .returned (.bool (sameB a b)) ∧ Below w.heap.size w w' := by
  have hmax : a.length ≤ 9223372036854775807 := by have := S.1; have := S.2.1; unfold maxLen at this; omega
  have hmax' : b.length ≤ 9223372036854775807 := by have := S'.1; have := S'.2.1; unfold maxLen at this; omega
  have hcap := S.1
  have hcap' := S'.1
  obtain ⟨r, hr0⟩ : ∃ r, sameB a b = r := ⟨_, rfl⟩
  rw [hr0]
  have HR0 := aside hr0
  clear hr0
  by_cases hl : a.length = b.length
  · have t0 : ((a.length : Int) != (b.length : Int)) = false := by simp; omega
    have HL := aside hl
    clear hl
    go_enter Try.func23, Try.ntmps23
    go_wp2
    clear t0
    go_loopw [13] (fun i wr => ∃ j : Nat, j ≤ a.length ∧ i = .int .i64 j ∧ Hid (r = sameB (a.drop j) (b.drop j)) ∧ Below w.heap.size w wr) (fun i _ => a.length - (intOf i).toNat)
    case atStart => exact ⟨0, Nat.zero_le _, rfl, aside HR0.out.symm, Below.refl _ _⟩
    case round =>
      obtain ⟨j, hj, rfl, HG, kb⟩ := hrel
      by_cases hlt : j < a.length
      · have hlt' : j < b.length := by have := HL.out; omega
        obtain ⟨p, off, rfl, hbw, hr⟩ := RegW.plain S (by omega)
        obtain ⟨p', off', rfl, hbw', hr'⟩ := RegW.plain S' (by omega)
        obtain ⟨x, hx⟩ : ∃ x, a[j]? = some x := ⟨_, List.getElem?_eq_getElem hlt⟩
        obtain ⟨y, hy⟩ : ∃ y, b[j]? = some y := ⟨_, List.getElem?_eq_getElem hlt'⟩
        obtain ⟨c0, c1, c2, c3, c4⟩ := cells (range_below (hr j x hx) kb)
        obtain ⟨d0, d1, d2, d3, d4⟩ := cells (range_below (hr' j y hy) kb)
        have p0 : (j : Int) < a.length := by omega
        have p1 : (j : Int) < b.length := by omega
        have m0 : ((j : Int)).toNat = j := by omega
        have HG2 := HG.out
        rw [getD_drop hx, getD_drop hy] at HG2
        have heq := fun W => equal W x y
        unfold rc at heq
        clear hr hr' S S' hx hy HG
        cases hs : sameN x y with
        | true =>
          have HR : Hid (r = sameB (a.drop (j + 1)) (b.drop (j + 1))) := aside (by rw [HG2, sameB, hs]; rfl)
          rw [hs] at heq
          clear HG2 hs
          go_wp2
          go_quiet (fail)
          go_wp2
          go_roundw
          case rel => exact ⟨j + 1, by omega, by go_num, HR, below_drew kb _⟩
          case measure => simp [intOf]; omega
        | false =>
          have HR : Hid (r = false) := aside (by rw [HG2, sameB, hs]; rfl)
          rw [hs] at heq
          clear HG2 hs
          go_wp2
          go_quiet (fail)
          go_wp2
          go_ret
          exact ⟨ret_bool HR.out.symm, below_drew kb _⟩
      · have HR : Hid (r = true) := aside (by
          have := HG.out
          rwa [List.drop_of_length_le (by omega), List.drop_of_length_le (by have := HL.out; omega)] at this)
        clear S S' HG
        go_wp2
        go_ret
        exact ⟨ret_bool HR.out.symm, kb⟩
  · have t0 : ((a.length : Int) != (b.length : Int)) = true := by simp; omega
    have HR : Hid (r = false) := aside (HR0.out.symm.trans (sameB_len hl))
    clear hl
    go_enter Try.func23, Try.ntmps23
    go_wp2
    go_ret
    exact ⟨ret_bool HR.out.symm, Below.refl _ _⟩
end

section
open PairM PairN RowS RowB PairW PairS
set_option maxRecDepth 100000 in
set_option maxHeartbeats 4000000 in
theorem equal_p (A : Option Addr) (cap : Nat) (a : List Pr) (A' : Option Addr) (cap' : Nat) (b : List Pr) (w : World) (S : SlR E w A cap a) (S' : SlR E w A' cap' b) :
    Calls Try.prog 24 #[.slice A a.length cap, .slice A' b.length cap'] w fun e w' => e = .returned (.bool (sameB a b)) ∧ Below w.heap.size w w' := by
  have hmax : a.length ≤ 9223372036854775807 := by have := S.1; have := S.2.1; unfold maxLen at this; omega
  have hmax' : b.length ≤ 9223372036854775807 := by have := S'.1; have := S'.2.1; unfold maxLen at this; omega
  have hcap := S.1
  have hcap' := S'.1
  obtain ⟨r, hr0⟩ : ∃ r, sameB a b = r := ⟨_, rfl⟩
  rw [hr0]
  have HR0 := aside hr0
  clear hr0
  by_cases hl : a.length = b.length
  · have t0 : ((a.length : Int) != (b.length : Int)) = false := by simp; omega
    have HL := aside hl
    clear hl
    go_enter Try.func24, Try.ntmps24
    go_wp2
    clear t0
    go_loopw [13] (fun i wr => ∃ j : Nat, j ≤ a.length ∧ i = .int .i64 j ∧ Hid (r = sameB (a.drop j) (b.drop j)) ∧ Below w.heap.size w wr) (fun i _ => a.length - (intOf i).toNat)
    case atStart => exact ⟨0, Nat.zero_le _, rfl, aside HR0.out.symm, Below.refl _ _⟩
    case round =>
      obtain ⟨j, hj, rfl, HG, kb⟩ := hrel
      by_cases hlt : j < a.length
      · have hlt' : j < b.length := by have := HL.out; omega
        obtain ⟨p, off, rfl, hbw, hr⟩ := PairW.plain S (by omega)
        obtain ⟨p', off', rfl, hbw', hr'⟩ := PairW.plain S' (by omega)
        obtain ⟨x, hx⟩ : ∃ x, a[j]? = some x := ⟨_, List.getElem?_eq_getElem hlt⟩
        obtain ⟨y, hy⟩ : ∃ y, b[j]? = some y := ⟨_, List.getElem?_eq_getElem hlt'⟩
        obtain ⟨c0, c1, c2, c3⟩ := cells (range_below (hr j x hx) kb)
        obtain ⟨d0, d1, d2, d3⟩ := cells (range_below (hr' j y hy) kb)
        have p0 : (j : Int) < a.length := by omega
        have p1 : (j : Int) < b.length := by omega
        have m0 : ((j : Int)).toNat = j := by omega
        have HG2 := HG.out
        rw [getD_drop hx, getD_drop hy] at HG2
        have heq := fun W => equal W x y
        unfold pc at heq
        clear hr hr' S S' hx hy HG
        cases hs : sameN x y with
        | true =>
          have HR : Hid (r = sameB (a.drop (j + 1)) (b.drop (j + 1))) := aside (by rw [HG2, sameB, hs]; rfl)
          rw [hs] at heq
          clear HG2 hs
          go_wp2
          go_quiet (fail)
          go_wp2
          go_roundw
          case rel => exact ⟨j + 1, by omega, by go_num, HR, below_drew kb _⟩
          case measure => simp [intOf]; omega
        | false =>
          have HR : Hid (r = false) := aside (by rw [HG2, sameB, hs]; rfl)
          rw [hs] at heq
          clear HG2 hs
          go_wp2
          go_quiet (fail)
          go_wp2
          go_ret
          exact ⟨ret_bool HR.out.symm, below_drew kb _⟩
      · have HR : Hid (r = true) := aside (by
          have := HG.out
          rwa [List.drop_of_length_le (by omega), List.drop_of_length_le (by have := HL.out; omega)] at this)
        clear S S' HG
        go_wp2
        go_ret
        exact ⟨ret_bool HR.out.symm, kb⟩
  · have t0 : ((a.length : Int) != (b.length : Int)) = true := by simp; omega
    have HR : Hid (r = false) := aside (HR0.out.symm.trans (sameB_len hl))
    clear hl
    go_enter Try.func24, Try.ntmps24
    go_wp2
    go_ret
    exact ⟨ret_bool HR.out.symm, Below.refl _ _⟩
end
end Go.Proofs.Ytnjdkjkihbgkaaa.StV
