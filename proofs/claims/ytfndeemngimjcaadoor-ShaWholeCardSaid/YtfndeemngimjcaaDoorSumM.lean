/- Plain facts on a content's sum: block by block of the bytes as they are summed. No condition. -/
import Derived.Test.YtfndeemngimjcaaDoorShaD
import Derived.Test.YtfndeemngimjcaaDoorPadM
namespace Go.Proofs.YtfndeemngimjcaaDoor.SumM
open Go.RowKit RotM RotN RotC RotD ShaM ShaD RotG Small PadM

/-- Byte j of block k. -/
def blk (P : List Int) (k j : Nat) : Int := P.getD (64 * k + j) 0
/-- What k blocks make of the beginning. -/
def hsum (P : List Int) : Nat → H8
  | 0 => startS
  | k + 1 => blockS (hsum P k) (wordsOf (blk P k))

theorem padL_B {bs : List Int} (h : ∀ x ∈ bs, B x) (hl : bs.length ≤ 1099511627776) : ∀ x ∈ padL bs, B x := by
  intro x hx
  unfold padL at hx
  simp only [List.mem_append, List.mem_cons, List.mem_replicate, long8, List.not_mem_nil, or_false] at hx
  have hm : 0 ≤ (8 * (bs.length : Int)) ∧ 8 * (bs.length : Int) ≤ 18446744073709551615 := by omega
  generalize 8 * (bs.length : Int) = a at *
  unfold B
  rcases hx with hx | hx | hx | hx | hx | hx | hx | hx | hx | hx | hx
  · exact h x hx
  all_goals omega
theorem getD_B {l : List Int} (h : ∀ x ∈ l, B x) (i : Nat) : B (l.getD i 0) := by
  by_cases hi : i < l.length
  · rw [List.getD_eq_getElem?_getD, List.getElem?_eq_getElem hi]
    exact h _ (List.getElem_mem hi)
  · rw [List.getD_eq_getElem?_getD, List.getElem?_eq_none (by omega)]
    unfold B
    simp
theorem blk_B {P : List Int} (h : ∀ x ∈ P, B x) (k j : Nat) : B (blk P k j) := getD_B h _
/-- A block's cells, out of a row known whole. -/
theorem blk_at {w : World} {g : Nat} {P : List Int} (h : At w g (bv P).toArray) (k : Nat) (hk : 64 * k + 64 ≤ P.length) (i : Nat) (hi : i < 64) : w.cell? ⟨g, 64 * k + i, none⟩ = some (.int .u8 (blk P k i)) := by
  rw [h.cell, List.getElem?_toArray, bv_at _ (by omega)]
  rfl
end Go.Proofs.YtfndeemngimjcaaDoor.SumM
