/- One field of a struct stored, whatever its fields. No condition. -/
import Derived.Test.YtcodipgooofppaaRowC
namespace Go.Proofs.Ytcodipgooofppaa.RowF
open Go Go.RowKit Byt RowS RowB

theorem run_store_one {w : World} {g j : Nat} {T : TypeId} {v : Value} {c : Array Value} {t : TypeId} (ht : w.heap[g]? = some (.cells c t (0, 0))) (hj : j < c.size) (hi : (Try.prog.info? T).map (·.size) = some 1) (hv : v.cells = #[v]) (h1 : v.oneCell' = true) :
    (Instr.storeAt T (.pointer (some ⟨g, j, none⟩)) v).run Try.prog w = .ok () (w.setCell ⟨g, j, none⟩ v) := by
  have hth : w.there g j [v].length := fun i hi => by
    have : i = 0 := by simpa using hi
    subst this
    refine ⟨?_, ?_⟩
    · rw [Nat.add_zero, cell_of_row w g j _ t (0, 0) ht, Array.getElem?_eq_getElem hj]
      rfl
    · simp [World.frozen?, ht]
  have := run_storeCells_cells (P := Try.prog) g j [v] 0 w (fun i hi => by simpa using (hth i hi).1) (fun i hi => by simpa using (hth i hi).2) (fun u hu => by simp only [List.mem_singleton] at hu; subst hu; exact h1)
  cases hq : Try.prog.info? T with
  | none => simp [hq] at hi
  | some i =>
    have hs : i.size = 1 := by simpa [hq] using hi
    simp only [Nat.add_zero] at this
    simp only [Instr.storeAt, Instr.sureAddr, Sem.run_bind, Sem.run_pure, Result.andThen_ok]
    simp [storeVar, sizeOf, typeInfo, hq, hv, hs, this]
    try rfl
variable {α : Type} (E : Enc α)
/-- A store of one field, as the walk meets it. -/
theorem wpList_store_field {ops : Array Oper} {rest : List Oper} {o : Oper} {a : Act} {w : World} {Q : Exit → Act → World → Prop} (hgd : o.guard = none) (hd : o.dst = none) (T : TypeId) (x y : Operand) (ho : o.op = .store T x y) (hi : (Try.prog.info? T).map (·.size) = some 1)
    (g j : Nat) (hx : a.eval x = .pointer (some ⟨g, j, none⟩)) (hj : j < E.k) (old : α) (hc : Box E w g old) (new : α) (v : Value) (hy : a.eval y = v) (hv : v.cells = #[v]) (h1 : v.oneCell' = true) (hset : (E.enc old).set j v = E.enc new)
    (h : ∀ w', Box E w' g new → (∀ B, B ≤ g → Below B w w') → w.grownBy w' (some g) → wpList Try.prog ops Q rest a w') : wpList Try.prog ops Q (o :: rest) a w := by
  obtain ⟨t, ht⟩ := hc
  refine wpList_plain hgd fun K hK => ?_
  have hrun := run_store_one (T := T) ht (by simp [E.len]; exact hj) hi hv h1
  unfold Oper.wp execOp
  simp only [ho, hx, hy, Sem.run_bind, hrun, Result.andThen_ok, Sem.run_pure]
  refine hK _ _ ?_
  rw [hd]
  refine h _ ⟨t, ?_⟩ (fun B hB => (Below.refl B w).setCell (p := ⟨g, j, none⟩) hB v) ⟨rfl, rfl, rfl, by simp [World.setCell], fun k _ hk => ?_⟩
  · simp only [World.setCell]
    rw [Array.getElem?_modify, if_pos rfl, ht]
    simp [hset]
  · simp only [World.setCell]
    rw [Array.getElem?_modify, if_neg (fun e => hk (by rw [← e]))]
theorem info_int : (Try.prog.info? 3).map (·.size) = some 1 := by kernel_rfl
theorem info_str : (Try.prog.info? 9).map (·.size) = some 1 := by kernel_rfl
end Go.Proofs.Ytcodipgooofppaa.RowF
