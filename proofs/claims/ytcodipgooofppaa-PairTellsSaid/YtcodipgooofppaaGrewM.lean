/- Worlds that come of draws and new blocks alone. No condition. -/
import Derived.Test.YtcodipgooofppaaBytB
import Derived.Shelf.GgSortFunc.InsertionK
namespace Go.Proofs.Ytcodipgooofppaa.GrewM
open Go Go.Sort Go.RowKit Go.Lib

/-- Draws and new blocks alone. -/
def Grew (w w' : World) : Prop := ∃ q os, w' = grow (w.drewN q) os
theorem Grew.refl (w : World) : Grew w w := ⟨0, #[], by rw [grow_empty]; rfl⟩
theorem Grew.alloc {w w' : World} (h : Grew w w') (o : Obj) : Grew w (w'.alloc o) := by
  obtain ⟨q, os, rfl⟩ := h
  exact ⟨q, os ++ #[o], by rw [alloc_eq_grow, grow_grow]⟩
theorem drewN_grow (w : World) (os : Array Obj) (n : Nat) : (grow w os).drewN n = grow (w.drewN n) os := rfl
theorem drewN_drewN (w : World) (m n : Nat) : (w.drewN m).drewN n = w.drewN (m + n) := by unfold World.drewN; simp [Nat.add_assoc]
theorem Grew.drewN {w w' : World} (h : Grew w w') (n : Nat) : Grew w (w'.drewN n) := by
  obtain ⟨q, os, rfl⟩ := h
  exact ⟨q + n, os, by rw [drewN_grow, drewN_drewN]⟩
theorem Grew.drew {w w' : World} (h : Grew w w') : Grew w w'.drew := h.drewN 1
theorem Grew.trans {w w' w'' : World} (h : Grew w w') (h' : Grew w' w'') : Grew w w'' := by
  obtain ⟨q, os, rfl⟩ := h'
  obtain ⟨p, os', e⟩ := h.drewN q
  exact ⟨p, os' ++ os, by rw [e, grow_grow]⟩
theorem Grew.below {w w' : World} (h : Grew w w') : Below w.heap.size w w' := by
  obtain ⟨q, os, rfl⟩ := h
  refine ⟨rfl, rfl, rfl, ?_, fun k hk => Sort.heap_grow_old _ _ hk⟩
  rw [Sort.size_grow]
  exact Nat.le_add_right _ _
end Go.Proofs.Ytcodipgooofppaa.GrewM
