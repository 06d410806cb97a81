/- Some cells of a struct, one behind the other, stored at once, whatever its fields. No condition. -/
import Derived.Test.YtcodipgooofppaaRowH
namespace Go.Proofs.Ytcodipgooofppaa.RowJ
open Go Go.RowKit Byt RowS RowB RowH

theorem setCells_block : ∀ (vs : List Value) (o : Nat) (c : List Value) (w : World) (g : Nat) (t : TypeId), w.heap[g]? = some (.cells c.toArray t (0, 0)) → (w.setCells g o vs).heap[g]? = some (.cells (setL c o vs).toArray t (0, 0))
  | [], _, _, _, _, _, h => h
  | v :: vs, o, c, w, g, t, h => by
    refine setCells_block vs (o + 1) (c.set o v) _ g t ?_
    simp only [World.setCell]
    rw [Array.getElem?_modify, if_pos rfl, h]
    simp
theorem setCells_rest : ∀ (vs : List Value) (o : Nat) (w : World) (g : Nat), (∀ B, B ≤ g → Below B w (w.setCells g o vs)) ∧ w.grownBy (w.setCells g o vs) (some g) ∧ (w.setCells g o vs).heap.size = w.heap.size
  | [], _, w, _ => ⟨fun B _ => Below.refl B w, grown_of_below (Below.refl _ _) _, rfl⟩
  | v :: vs, o, w, g => by
    obtain ⟨h1, h2, h3⟩ := setCells_rest vs (o + 1) (w.setCell ⟨g, o, none⟩ v) g
    have s1 : (w.setCell ⟨g, o, none⟩ v).heap.size = w.heap.size := by simp [World.setCell]
    have q : w.grownBy (w.setCell ⟨g, o, none⟩ v) (some g) := ⟨rfl, rfl, rfl, by rw [s1]; exact Nat.le_refl _, fun k _ hk => by
      simp only [World.setCell]
      rw [Array.getElem?_modify, if_neg (fun e => hk (by rw [← e]))]⟩
    exact ⟨fun B hB => ((Below.refl B w).setCell (p := ⟨g, o, none⟩) hB v).trans (h1 B hB), q.trans h2, h3.trans s1⟩
variable {α : Type} (E : Enc α)
/-- A store of some fields, as the walk meets it. -/
theorem wpList_store_part {ops : Array Oper} {rest : List Oper} {o : Oper} {a : Act} {w : World} {Q : Exit → Act → World → Prop} (hgd : o.guard = none) (hd : o.dst = none) (T : TypeId) (x y : Operand) (ho : o.op = .store T x y)
    (g j : Nat) (hx : a.eval x = .pointer (some ⟨g, j, none⟩)) (old : α) (hc : Box E w g old) (new : α) (cs : Array Value) (hi : (Try.prog.info? T).map (·.size) = some cs.size) (hy : a.eval y = .agg cs) (h1 : cs.all (·.oneCell') = true) (hj : j + cs.size ≤ E.k) (hset : setL (E.enc old) j cs.toList = E.enc new)
    (h : ∀ w', Box E w' g new → (∀ B, B ≤ g → Below B w w') → w.grownBy w' (some g) → w'.heap.size = w.heap.size → wpList Try.prog ops Q rest a w') : wpList Try.prog ops Q (o :: rest) a w := by
  obtain ⟨t, ht⟩ := hc
  have hth : w.there g j cs.size := fun i hi => by
    refine ⟨?_, by simp [World.frozen?, ht]⟩
    rw [cell_of_row w g (j + i) _ t (0, 0) ht, List.getElem?_toArray, List.getElem?_eq_getElem (by rw [E.len]; omega)]
    rfl
  refine wpList_store_mid hgd T x y ho g j cs hx hy hth hi h1 ?_
  rw [hd]
  obtain ⟨r1, r2, r3⟩ := setCells_rest cs.toList j w g
  exact h _ ⟨t, by rw [← hset]; exact setCells_block cs.toList j _ w g t ht⟩ r1 r2 r3
end Go.Proofs.Ytcodipgooofppaa.RowJ
