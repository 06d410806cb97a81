/- Parts of slices of structs, whatever their fields. No condition. -/
import Derived.Test.YtcodipgooofppaaRowS
namespace Go.Proofs.Ytcodipgooofppaa.RowP
open Go Go.RowKit Byt RowS

variable {α : Type} (E : Enc α)
theorem size_e (w : World) : (sizeOf (Try.prog.elem E.S)).run Try.prog w = .ok E.k w := by
  obtain ⟨i, hi, z0, z1, _⟩ := info_parts E.info
  rw [E.elem]
  simp [sizeOf, typeInfo, hi, z1]
theorem under_e : Try.prog.underlying E.S = some (.slice (Try.prog.elem E.S)) := by rw [E.elem, E.slice]
theorem run_part_h (w : World) (A : Option Addr) (len cap : Nat) (k : IntKind) (j : Nat) (hj : j ≤ cap) :
    (Instr.sliceAt E.S (.slice A len cap) none (some (.int k j)) none).run Try.prog w = .ok (sliced A 0 j cap E.k) w := by
  rw [run_sliceAt_slice w _ _ _ _ _ (under_e E), run_slice_h w _ A len cap (under_e E) k j (by omega) (by omega), size_e]
  simp [Result.andThen]
theorem run_part_l (w : World) (A : Option Addr) (len cap : Nat) (k : IntKind) (i : Nat) (hi : i ≤ len) :
    (Instr.sliceAt E.S (.slice A len cap) (some (.int k i)) none none).run Try.prog w = .ok (sliced A i len cap E.k) w := by
  rw [run_sliceAt_slice w _ _ _ _ _ (under_e E), run_slice_l w _ A len cap (under_e E) k i (by omega) (by omega), size_e]
  simp [Result.andThen]
variable {E}
/-- The first ones of a slice. -/
theorem ahead {w : World} {A : Option Addr} {cap : Nat} {l : List α} (S : SlR E w A cap l) (j : Nat) (hj : j ≤ l.length) :
    ∃ A' cap', (∀ (W : World) (k : IntKind), (Instr.sliceAt E.S (.slice A l.length cap) none (some (.int k j)) none).run Try.prog W = .ok (.slice A' j cap') W) ∧ SlR E w A' cap' (l.take j) := by
  obtain ⟨A', cap', h1, h2, _⟩ := SlR.part S 0 j (Nat.zero_le _) hj
  refine ⟨A', cap', fun W k => ?_, by simpa using h2⟩
  rw [run_part_h E W A l.length cap k j (by have := S.1; omega), h1, Nat.sub_zero]
/-- The others. -/
theorem behind {w : World} {A : Option Addr} {cap : Nat} {l : List α} (S : SlR E w A cap l) (i : Nat) (hi : i ≤ l.length) :
    ∃ A' cap', (∀ (W : World) (k : IntKind), (Instr.sliceAt E.S (.slice A l.length cap) (some (.int k i)) none none).run Try.prog W = .ok (.slice A' (l.length - i) cap') W) ∧ SlR E w A' cap' (l.drop i) := by
  obtain ⟨A', cap', h1, h2, _⟩ := SlR.part S i l.length hi (Nat.le_refl _)
  refine ⟨A', cap', fun W k => ?_, ?_⟩
  · rw [run_part_l E W A l.length cap k i hi, h1]
  · rwa [List.take_of_length_le (by simp)] at h2
end Go.Proofs.Ytcodipgooofppaa.RowP
