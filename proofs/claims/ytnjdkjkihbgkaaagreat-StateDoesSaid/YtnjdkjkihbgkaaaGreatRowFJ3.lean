/- One field of a struct stored, whatever its fields. No condition. | One struct stored whole into a row of the call's own; one cell stored where a block holds one. No condition. | Some cells of a struct, one behind the other, stored at once, whatever its fields. No condition. -/
import Derived.Test.YtnjdkjkihbgkaaaGreatRowBJ2
namespace Go.Proofs.YtnjdkjkihbgkaaaGreat.RowF
set_option maxRecDepth 100000
open Go Go.RowKit Byt RowS RowB

theorem run_store_one {w : World} {g j : Nat} {T : TypeId} {v : Value} {c : Array Value} {t : TypeId} (ht : w.heap[g]? = some (.cells c t (0, 0))) (hj : j < c.size) (hi : (Tryz.prog.info? T).map (·.size) = some 1) (hv : v.cells = #[v]) (h1 : v.oneCell' = true) :
    (Instr.storeAt T (.pointer (some ⟨g, j, none⟩)) v).run Tryz.prog w = .ok () (w.setCell ⟨g, j, none⟩ v) := by
  have hth : w.there g j [v].length := fun i hi => by
    have : i = 0 := by simpa using hi
    subst this
    refine ⟨?_, ?_⟩
    · rw [Nat.add_zero, cell_of_row w g j _ t (0, 0) ht, Array.getElem?_eq_getElem hj]
      rfl
    · simp [World.frozen?, ht]
  have := run_storeCells_cells (P := Tryz.prog) g j [v] 0 w (fun i hi => by simpa using (hth i hi).1) (fun i hi => by simpa using (hth i hi).2) (fun u hu => by simp only [List.mem_singleton] at hu; subst hu; exact h1)
  cases hq : Tryz.prog.info? T with
  | none => simp [hq] at hi
  | some i =>
    have hs : i.size = 1 := by simpa [hq] using hi
    simp only [Nat.add_zero] at this
    simp only [Instr.storeAt, Instr.sureAddr, Sem.run_bind, Sem.run_pure, Result.andThen_ok]
    simp [storeVar, sizeOf, typeInfo, hq, hv, hs, this]
    try rfl
variable {α : Type} (E : Enc α)
/-- A store of one field, as the walk meets it. -/
theorem wpList_store_field {ops : Array Oper} {rest : List Oper} {o : Oper} {a : Act} {w : World} {Q : Exit → Act → World → Prop} (hgd : o.guard = none) (hd : o.dst = none) (T : TypeId) (x y : Operand) (ho : o.op = .store T x y) (hi : (Tryz.prog.info? T).map (·.size) = some 1)
    (g j : Nat) (hx : a.eval x = .pointer (some ⟨g, j, none⟩)) (hj : j < E.k) (old : α) (hc : Box E w g old) (new : α) (v : Value) (hy : a.eval y = v) (hv : v.cells = #[v]) (h1 : v.oneCell' = true) (hset : (E.enc old).set j v = E.enc new)
    (h : ∀ w', Box E w' g new → (∀ B, B ≤ g → Below B w w') → w.grownBy w' (some g) → wpList Tryz.prog ops Q rest a w') : wpList Tryz.prog ops Q (o :: rest) a w := by
  obtain ⟨t, ht⟩ := hc
  refine wpList_plain hgd fun K hK => ?_
  have hrun := run_store_one (T := T) ht (by simp [E.len]; exact hj) hi hv h1
  unfold Oper.wp execOp
  simp only [ho, hx, hy, Sem.run_bind, hrun, Result.andThen_ok, Sem.run_pure]
  refine hK _ _ ?_
  rw [hd]
  refine h _ ⟨t, ?_⟩ (fun B hB => (Below.refl B w).setCell (p := ⟨g, j, none⟩) hB v) ⟨rfl, rfl, rfl, by simp [World.setCell], fun k _ hk => ?_⟩
  · simp only [World.setCell]
    rw [Array.getElem?_modify, if_pos rfl, ht]
    simp [hset]
  · simp only [World.setCell]
    rw [Array.getElem?_modify, if_neg (fun e => hk (by rw [← e]))]
theorem info_int : (Tryz.prog.info? 3).map (·.size) = some 1 := by kernel_rfl
theorem info_str : (Tryz.prog.info? 9).map (·.size) = some 1 := by kernel_rfl
end Go.Proofs.YtnjdkjkihbgkaaaGreat.RowF
namespace Go.Proofs.YtnjdkjkihbgkaaaGreat.RowH
set_option maxRecDepth 100000
open Go Go.RowKit Byt RowS RowB

/-- Values written one behind the other into a list. -/
def setL : List Value → Nat → List Value → List Value
  | xs, _, [] => xs
  | xs, o, v :: vs => setL (xs.set o v) (o + 1) vs
theorem setL_mid : ∀ (vs A B C : List Value), B.length = vs.length → setL (A ++ B ++ C) A.length vs = A ++ vs ++ C
  | [], A, B, C, h => by
    have : B = [] := List.eq_nil_of_length_eq_zero (by simpa using h)
    subst this
    simp [setL]
  | v :: vs, A, [], C, h => by simp at h
  | v :: vs, A, b :: B, C, h => by
    have e : (A ++ b :: B ++ C).set A.length v = (A ++ [v]) ++ B ++ C := by simp
    have l : (A ++ [v]).length = A.length + 1 := by simp
    rw [setL, e, ← l, setL_mid vs (A ++ [v]) B C (by simpa using h)]
    simp
theorem stored_all {base size g n cap : Nat} {e : TypeId} : ∀ (vs : List Value) (o : Nat) (xs : List Value) (w : World), w.ownsRow base e size (.slice (some ⟨g, 0, none⟩) n cap) n xs →
    (w.setCells g o vs).ownsRow base e size (.slice (some ⟨g, 0, none⟩) n cap) n (setL xs o vs) ∧ w.grownBy (w.setCells g o vs) (some g)
  | [], o, xs, w, h => ⟨h, grown_of_below (Below.refl _ _) _⟩
  | v :: vs, o, xs, w, h => by
    obtain ⟨h1, g1⟩ := h.stored o v
    obtain ⟨h2, g2⟩ := stored_all vs (o + 1) (xs.set o v) _ h1
    exact ⟨h2, g1.trans g2⟩
variable {α : Type} (E : Enc α)
theorem own_range {E : Enc α} {w : World} {base g n cap : Nat} {l : List α} (h : w.ownsRow base E.T E.k (.slice (some ⟨g, 0, none⟩) n cap) n (flat E l)) {i : Nat} {x : α} (hx : l[i]? = some x) : w.rangeAt g (i * E.k) (E.enc x) := fun j v hv => by
  have := h.cells rfl _ _ (flat_at E l i j x v hx hv)
  rw [Addr.add_lit, Nat.zero_add] at this
  exact this
/-- A struct stored over one that lies in a row of the call's own. -/
theorem wpList_store_own {ops : Array Oper} {rest : List Oper} {o : Oper} {a : Act} {w : World} {Q : Exit → Act → World → Prop} (hgd : o.guard = none) (hd : o.dst = none) (x y : Operand) (ho : o.op = .store E.T x y)
    (base g n cap : Nat) (pre post : List α) (old : α) (hown : w.ownsRow base E.T E.k (.slice (some ⟨g, 0, none⟩) n cap) n (flat E (pre ++ old :: post)))
    (off : Nat) (hoff : off = pre.length * E.k) (hx : a.eval x = .pointer (some ⟨g, off, none⟩)) (z : α) (hy : a.eval y = .agg (E.enc z).toArray)
    (h : ∀ w', w'.ownsRow base E.T E.k (.slice (some ⟨g, 0, none⟩) n cap) n (flat E (pre ++ z :: post)) → w.grownBy w' (some g) → wpList Tryz.prog ops Q rest a w') : wpList Tryz.prog ops Q (o :: rest) a w := by
  subst hoff
  have hr := own_range hown (i := pre.length) (x := old) (by simp)
  have ht : w.there g (pre.length * E.k) (E.enc z).toArray.size := fun j hj => by
    rw [List.size_toArray, E.len] at hj
    refine ⟨?_, hown.frozenAt _⟩
    have hv : (E.enc old)[j]? = some ((E.enc old)[j]'(by rw [E.len]; exact hj)) := List.getElem?_eq_getElem _
    rw [hr j _ hv]
    rfl
  refine wpList_store_mid hgd E.T x y ho g (pre.length * E.k) (E.enc z).toArray hx hy ht (E.size' z) (E.all z) ?_
  rw [hd]
  obtain ⟨h1, h2⟩ := stored_all (E.enc z) (pre.length * E.k) _ w hown
  have e : setL (flat E (pre ++ old :: post)) (pre.length * E.k) (E.enc z) = flat E (pre ++ z :: post) := by
    rw [flat_append, flat_cons, flat_append, flat_cons, ← flat_length E pre, ← List.append_assoc, ← List.append_assoc]
    exact setL_mid _ _ _ _ (by rw [E.len, E.len])
  rw [e] at h1
  exact h _ h1 h2
/-- One cell stored into a block that holds one. -/
theorem wpList_store_cell {ops : Array Oper} {rest : List Oper} {o : Oper} {a : Act} {w : World} {Q : Exit → Act → World → Prop} (hgd : o.guard = none) (hd : o.dst = none) (T : TypeId) (x y : Operand) (ho : o.op = .store T x y) (hi : (Tryz.prog.info? T).map (·.size) = some 1)
    (g : Nat) (hx : a.eval x = .pointer (some ⟨g, 0, none⟩)) (old : Value) (t : TypeId) (hc : w.heap[g]? = some (.cells #[old] t (0, 0))) (v : Value) (hy : a.eval y = v) (hv : v.cells = #[v]) (h1 : v.oneCell' = true)
    (h : ∀ w', w'.heap[g]? = some (.cells #[v] t (0, 0)) → w.grownBy w' (some g) → wpList Tryz.prog ops Q rest a w') : wpList Tryz.prog ops Q (o :: rest) a w := by
  refine wpList_plain hgd fun K hK => ?_
  have hrun := RowF.run_store_one (T := T) hc (j := 0) (by simp) hi hv h1
  unfold Oper.wp execOp
  simp only [ho, hx, hy, Sem.run_bind, hrun, Result.andThen_ok, Sem.run_pure]
  refine hK _ _ ?_
  rw [hd]
  refine h _ ?_ ⟨rfl, rfl, rfl, by simp [World.setCell], fun k _ hk => ?_⟩
  · simp only [World.setCell]
    rw [Array.getElem?_modify, if_pos rfl, hc]
    simp
  · simp only [World.setCell]
    rw [Array.getElem?_modify, if_neg (fun e => hk (by rw [← e]))]
/-- The one cell of such a block. -/
theorem cell_of_one {w : World} {g : Nat} {v : Value} {t : TypeId} (h : w.heap[g]? = some (.cells #[v] t (0, 0))) : w.cell? ⟨g, 0, none⟩ = some v := by
  rw [cell_of_row w g 0 _ t (0, 0) h]
  rfl
end Go.Proofs.YtnjdkjkihbgkaaaGreat.RowH
namespace Go.Proofs.YtnjdkjkihbgkaaaGreat.RowJ
set_option maxRecDepth 100000
open Go Go.RowKit Byt RowS RowB RowH

theorem setCells_block : ∀ (vs : List Value) (o : Nat) (c : List Value) (w : World) (g : Nat) (t : TypeId), w.heap[g]? = some (.cells c.toArray t (0, 0)) → (w.setCells g o vs).heap[g]? = some (.cells (setL c o vs).toArray t (0, 0))
  | [], _, _, _, _, _, h => h
  | v :: vs, o, c, w, g, t, h => by
    refine setCells_block vs (o + 1) (c.set o v) _ g t ?_
    simp only [World.setCell]
    rw [Array.getElem?_modify, if_pos rfl, h]
    simp
theorem setCells_rest : ∀ (vs : List Value) (o : Nat) (w : World) (g : Nat), (∀ B, B ≤ g → Below B w (w.setCells g o vs)) ∧ w.grownBy (w.setCells g o vs) (some g) ∧ (w.setCells g o vs).heap.size = w.heap.size
  | [], _, w, _ => ⟨fun B _ => Below.refl B w, grown_of_below (Below.refl _ _) _, rfl⟩
  | v :: vs, o, w, g => by
    obtain ⟨h1, h2, h3⟩ := setCells_rest vs (o + 1) (w.setCell ⟨g, o, none⟩ v) g
    have s1 : (w.setCell ⟨g, o, none⟩ v).heap.size = w.heap.size := by simp [World.setCell]
    have q : w.grownBy (w.setCell ⟨g, o, none⟩ v) (some g) := ⟨rfl, rfl, rfl, by rw [s1]; exact Nat.le_refl _, fun k _ hk => by
      simp only [World.setCell]
      rw [Array.getElem?_modify, if_neg (fun e => hk (by rw [← e]))]⟩
    exact ⟨fun B hB => ((Below.refl B w).setCell (p := ⟨g, o, none⟩) hB v).trans (h1 B hB), q.trans h2, h3.trans s1⟩
variable {α : Type} (E : Enc α)
/-- A store of some fields, as the walk meets it. -/
theorem wpList_store_part {ops : Array Oper} {rest : List Oper} {o : Oper} {a : Act} {w : World} {Q : Exit → Act → World → Prop} (hgd : o.guard = none) (hd : o.dst = none) (T : TypeId) (x y : Operand) (ho : o.op = .store T x y)
    (g j : Nat) (hx : a.eval x = .pointer (some ⟨g, j, none⟩)) (old : α) (hc : Box E w g old) (new : α) (cs : Array Value) (hi : (Tryz.prog.info? T).map (·.size) = some cs.size) (hy : a.eval y = .agg cs) (h1 : cs.all (·.oneCell') = true) (hj : j + cs.size ≤ E.k) (hset : setL (E.enc old) j cs.toList = E.enc new)
    (h : ∀ w', Box E w' g new → (∀ B, B ≤ g → Below B w w') → w.grownBy w' (some g) → w'.heap.size = w.heap.size → wpList Tryz.prog ops Q rest a w') : wpList Tryz.prog ops Q (o :: rest) a w := by
  obtain ⟨t, ht⟩ := hc
  have hth : w.there g j cs.size := fun i hi => by
    refine ⟨?_, by simp [World.frozen?, ht]⟩
    rw [cell_of_row w g (j + i) _ t (0, 0) ht, List.getElem?_toArray, List.getElem?_eq_getElem (by rw [E.len]; omega)]
    rfl
  refine wpList_store_mid hgd T x y ho g j cs hx hy hth hi h1 ?_
  rw [hd]
  obtain ⟨r1, r2, r3⟩ := setCells_rest cs.toList j w g
  exact h _ ⟨t, by rw [← hset]; exact setCells_block cs.toList j _ w g t ht⟩ r1 r2 r3
end Go.Proofs.YtnjdkjkihbgkaaaGreat.RowJ
