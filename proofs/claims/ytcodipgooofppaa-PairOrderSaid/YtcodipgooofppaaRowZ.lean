/- A row of structs sorted: what the library's words on its cells come to, whatever the fields. No condition. -/
import Derived.Test.YtcodipgooofppaaRowB
import Derived.Shelf.GgSortFunc.InsertionK
namespace Go.Proofs.Ytcodipgooofppaa.RowZ
open Go Go.Shelf Go.Sort Go.RowKit Go.Lib RowS RowB

variable {α : Type} [Inhabited α] (E : Enc α)
theorem flatK_eq (l : List α) : flatK E.enc E.k l.toArray = (flat E l).toArray := by
  refine ext_get! (by simp [flat_length]) (fun t ht => ?_)
  have ht' : t < l.length * E.k := by simpa using ht
  have hpos := E.pos
  have hi : t / E.k < l.length := (Nat.div_lt_iff_lt_mul hpos).2 ht'
  have hj : t % E.k < E.k := Nat.mod_lt _ hpos
  have hx : l[t / E.k]? = some l[t / E.k] := List.getElem?_eq_getElem hi
  have hv : (E.enc l[t / E.k])[t % E.k]? = some ((E.enc l[t / E.k])[t % E.k]'(by rw [E.len]; exact hj)) := List.getElem?_eq_getElem _
  have e := flat_at E l _ _ _ _ hx hv
  rw [show t / E.k * E.k + t % E.k = t by rw [Nat.mul_comm]; exact Nat.div_add_mod t E.k] at e
  rw [get_flatK _ _ _ t (by simpa using ht')]
  have q1 : (flat E l).toArray[t]! = (E.enc l[t / E.k])[t % E.k]'(by rw [E.len]; exact hj) := by
    rw [Array.getElem!_eq_getD, Array.getD_eq_getD_getElem?, List.getElem?_toArray, e]
    rfl
  have q2 : l.toArray[t / E.k]! = l[t / E.k] := by
    rw [Array.getElem!_eq_getD, Array.getD_eq_getD_getElem?, List.getElem?_toArray, hx]
    rfl
  rw [q1, q2, List.getElem!_eq_getElem?_getD, hv]
  rfl
theorem size_row (w : World) (blk off : Nat) (d : Array α) : (putRowK E.enc E.k w blk off d).heap.size = w.heap.size := by simp [putRowK, putRow, mapBlock]
variable {E}
omit [Inhabited α] in
theorem owns_lt {w : World} {base g cap : Nat} {l : List α} (h : w.ownsRow base E.T E.k (.slice (some ⟨g, 0, none⟩) l.length cap) l.length (flat E l)) : base ≤ g ∧ g < w.heap.size := h.lt g rfl
theorem holds_own {w : World} {base g cap : Nat} {l : List α} (h : w.ownsRow base E.T E.k (.slice (some ⟨g, 0, none⟩) l.length cap) l.length (flat E l)) : HoldsK E.enc E.k w g 0 l.toArray := by
  unfold HoldsK Holds
  rw [flatK_eq]
  intro j hj
  have hj' : j < (flat E l).length := by simpa using hj
  refine ⟨?_, by rw [Nat.zero_add]; exact h.frozenAt j⟩
  rw [Nat.zero_add, h.cellAt j (by rw [flat_length] at hj'; exact hj'), List.getElem?_eq_getElem hj']
  rw [Array.getElem!_eq_getD, Array.getD_eq_getD_getElem?, List.getElem?_toArray, List.getElem?_eq_getElem hj']
  rfl
theorem own_sorted {w : World} {base g cap : Nat} {l l' : List α} (h : w.ownsRow base E.T E.k (.slice (some ⟨g, 0, none⟩) l.length cap) l.length (flat E l)) (hl : l'.length = l.length) (n : Nat) (os : Array Obj) :
    (sortWorldK E.enc E.k w g 0 n l'.toArray os).ownsRow base E.T E.k (.slice (some ⟨g, 0, none⟩) l.length cap) l.length (flat E l') ∧ w.grownBy (sortWorldK E.enc E.k w g 0 n l'.toArray os) (some g) := by
  have hlt := (owns_lt h).2
  constructor
  · refine ⟨by rw [flat_length, hl], ?_⟩
    rcases h.2 with ⟨e, _⟩ | ⟨g', cap', cur, e, hbg, hg, h1, h2, h3, h4⟩
    · cases e
    · injection e with e1 e2 e3
      injection e1 with e1
      injection e1 with e1
      subst e1
      subst e3
      refine .inr ⟨g, cap, putCells id 0 (flat E l').toArray cur, rfl, hbg, ?_, h1, h2, by simpa [putCells] using h3, ?_⟩
      · unfold sortWorldK
        rw [Sort.heap_grow_old _ _ (by rw [size_row]; exact hlt)]
        unfold putRowK putRow mapBlock
        rw [flatK_eq]
        show (Array.modify w.heap g _)[g]? = _
        rw [Array.getElem?_modify, if_pos rfl, hg]
        rfl
      · have hc : l.length * E.k ≤ cur.size := by rw [h3]; exact Nat.mul_le_mul_right _ h1
        apply List.ext_getElem?
        intro j
        rw [List.getElem?_take]
        by_cases hj : j < l.length * E.k
        · have hj' : j < (flat E l').length := by rw [flat_length, hl]; exact hj
          rw [if_pos hj, Array.getElem?_toList, putCells, Array.getElem?_mapIdx, Array.getElem?_eq_getElem (by omega), Option.map_some, if_pos ⟨Nat.zero_le _, by simpa using hj'⟩, List.getElem?_eq_getElem hj']
          simp only [id, Nat.sub_zero]
          rw [Array.getElem!_eq_getD, Array.getD_eq_getD_getElem?, List.getElem?_toArray, List.getElem?_eq_getElem hj']
          rfl
        · rw [if_neg hj, List.getElem?_eq_none (by rw [flat_length, hl]; omega)]
  · unfold sortWorldK
    refine ⟨rfl, rfl, rfl, ?_, fun i hi hne => ?_⟩
    · rw [Sort.size_grow, size_row]
      exact Nat.le_add_right _ _
    · rw [Sort.heap_grow_old _ _ (by rw [size_row]; exact hi)]
      show (Array.modify w.heap g _)[i]? = _
      rw [Array.getElem?_modify, if_neg (fun e => hne (by rw [e]))]
end Go.Proofs.Ytcodipgooofppaa.RowZ
