/- rot.Word and the document's answer to it, over a slice of bytes that came in: contracts. -/
import Derived.Test.YtfndeemngimjcaaDoorRotG
import Derived.Test.YtfndeemngimjcaaDoorRowIn
namespace Go.Proofs.YtfndeemngimjcaaDoor.RotH
open Go.RowKit Go.ChangeShapes RotM RotC RotD RotG RowIn

/-- The word from a place on, and whether there is one. -/
def wordAt (zs : List Int) (len : Nat) (p : Int) : Int × Bool :=
  if p < 0 ∨ (len : Int) - 4 < p then (0, false) else (four4 (zs.getD p.toNat 0) (zs.getD (p.toNat + 1) 0) (zs.getD (p.toNat + 2) 0) (zs.getD (p.toNat + 3) 0), true)
theorem byte_at {zs : List Int} (h : ∀ n ∈ zs, (Lit.int .u8 n).wf = true) (i : Nat) : B (zs.getD i 0) := by
  have := range_u8 h i
  unfold B
  rw [List.getD_eq_getElem?_getD]
  exact this
theorem wordI {w : World} {A : Option Addr} {len cap : Nat} {zs : List Int} (h : RowIn .u8 w A len cap zs) (hl : len ≤ 100) (p : Int) (hp : -9223372036854775808 ≤ p ∧ p ≤ 9223372036854775807) :
    Calls Tryd.prog 31 #[.slice A len cap, .int .i64 p] w fun e w' => e = .returned (.tuple #[.int .u32 (wordAt zs len p).1, .bool (wordAt zs len p).2]) ∧ Below w.heap.size w w' := by
  unfold wordAt
  by_cases hc : p < 0 ∨ (len : Int) - 4 < p
  · rw [if_pos hc]
    exact (word_no A len cap p hl hp hc w).mono fun e w' ⟨he, hw⟩ => ⟨he, hw ▸ Below.refl _ _⟩
  · rw [if_neg hc]
    obtain ⟨k, rfl⟩ := Int.eq_ofNat_of_zero_le (a := p) (by omega)
    obtain ⟨b, off, rfl, hcell⟩ := h.plain (by omega)
    have hcap := h.1
    rw [Int.toNat_natCast]
    exact word_yes b off len cap k _ _ _ _ hl hcap (by omega) w (hcell k (by omega)) (hcell (k + 1) (by omega)) (hcell (k + 2) (by omega)) (hcell (k + 3) (by omega)) (byte_at h.2.2.2.1 _) (byte_at h.2.2.2.1 _) (byte_at h.2.2.2.1 _) (byte_at h.2.2.2.1 _)
theorem u32_range {a : Int} (h : (Lit.int .u32 a).wf = true) : 0 ≤ a ∧ a ≤ 4294967295 := by
  obtain ⟨x, rfl⟩ := u_of h
  exact u_range x
theorem u64_range {a : Int} (h : (Lit.int .u64 a).wf = true) : 0 ≤ a ∧ a ≤ 18446744073709551615 := by
  simpa [Lit.wf, IntKind.min, IntKind.max, IntKind.bits, IntKind.signed] using h
end Go.Proofs.YtfndeemngimjcaaDoor.RotH
