/- The bytes of an id, word by word; and a slice of bytes made out of a string. -/
import Derived.Test.YtfndeemngimjcaaDoorShaA
import Derived.Laws.IdiomStrings
namespace Go.Proofs.YtfndeemngimjcaaDoor.IdAt
open Go.RowKit RotM RotN RotC RotD RotG Small ShaM PadM ShaF ShaG ShaA

theorem idL_at (h : H8) (n k j : Nat) (hk : k < n) (hj : j < 4) : (idL h n).getD (4 * k + j) 0 = (four8 (u (h.w k))).getD j 0 := by
  induction n with
  | zero => omega
  | succ n ih =>
    rw [idL_succ, List.getD_eq_getElem?_getD, List.getD_eq_getElem?_getD]
    by_cases e : k = n
    · subst e
      rw [List.getElem?_append_right (by rw [idL_length]; omega), idL_length, show 4 * k + j - 4 * k = j by omega]
    · rw [List.getElem?_append_left (by rw [idL_length]; omega), ← List.getD_eq_getElem?_getD, ← List.getD_eq_getElem?_getD]
      exact ih (by omega)

theorem id_cells {w : World} {g : Nat} {h : H8} (A : At w g (bv (idL h 8)).toArray) (k : Nat) (hk : k < 8) : ∃ b0 b1 b2 b3 : Int, B b0 ∧ B b1 ∧ B b2 ∧ B b3 ∧ four4 b0 b1 b2 b3 = u (h.w k) ∧
    w.cell? ⟨g, 4 * k, none⟩ = some (.int .u8 b0) ∧ w.cell? ⟨g, 4 * k + 1, none⟩ = some (.int .u8 b1) ∧ w.cell? ⟨g, 4 * k + 2, none⟩ = some (.int .u8 b2) ∧ w.cell? ⟨g, 4 * k + 3, none⟩ = some (.int .u8 b3) := by
  have hr := u_range (h.w k)
  have key : ∀ j, j < 4 → w.cell? ⟨g, 4 * k + j, none⟩ = some (.int .u8 ((four8 (u (h.w k))).getD j 0)) := by
    intro j hj
    rw [A.cell, List.getElem?_toArray, bv_at _ (by rw [idL_length]; omega), idL_at h 8 k j hk hj]
  refine ⟨_, _, _, _, ?_, ?_, ?_, ?_, ?_, key 0 (by omega), key 1 (by omega), key 2 (by omega), key 3 (by omega)⟩
  all_goals simp [four8, B, four4]; omega

/-- The bytes of a string as numbers. -/
def bytesL (s : ByteArray) : List Int := s.data.toList.map fun b => (b.toNat : Int)
theorem bytesL_length (s : ByteArray) : (bytesL s).length = s.size := by
  unfold bytesL
  rw [List.length_map, Array.length_toList]
  rfl
theorem bytesL_B (s : ByteArray) : ∀ x ∈ bytesL s, B x := by
  intro x hx
  simp only [bytesL, List.mem_map] at hx
  obtain ⟨b, _, rfl⟩ := hx
  have := b.toNat_lt
  unfold B
  omega
theorem bytesRow_bv (s : ByteArray) (cap : Nat) : bytesRow s cap = (bv (bytesL s ++ List.replicate (cap - s.size) 0)).toArray := by
  unfold bytesRow bytesL bv
  apply Array.ext'
  simp
theorem rowIn_bytes {w : World} {g cap : Nat} {t : TypeId} {fr : Nat × Nat} (s : ByteArray) (h : w.heap[g]? = some (.cells (bytesRow s cap) t fr)) (h1 : s.size ≤ cap) (h2 : cap ≤ maxLen) :
    RowIn.RowIn .u8 w (some ⟨g, 0, none⟩) s.size cap (bytesL s ++ List.replicate (cap - s.size) 0) := by
  rw [bytesRow_bv] at h
  have hl : (bytesL s ++ List.replicate (cap - s.size) 0).length = cap := by simp [bytesL_length]; omega
  have q := rowIn_row h (by rw [hl]; exact h2) (fun x hx => by
    simp only [List.mem_append, List.mem_replicate] at hx
    rcases hx with hx | ⟨_, rfl⟩
    · exact bytesL_B s x hx
    · unfold B; omega)
  rw [hl] at q
  exact ⟨h1, q.2.1, q.2.2.1, q.2.2.2.1, q.2.2.2.2.imp (fun ⟨a, b, c⟩ => by cases a) id⟩
theorem take_bytes (s : ByteArray) (m : Nat) : (bytesL s ++ List.replicate m 0).take s.size = bytesL s := by
  rw [← bytesL_length, List.take_left]
end Go.Proofs.YtfndeemngimjcaaDoor.IdAt
