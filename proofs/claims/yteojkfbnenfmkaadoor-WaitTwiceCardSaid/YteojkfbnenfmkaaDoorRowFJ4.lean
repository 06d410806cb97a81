/- One field of a struct stored, whatever its fields. No condition. | One struct stored whole into a row of the call's own; one cell stored where a block holds one. No condition. | Some cells of a struct, one behind the other, stored at once, whatever its fields. No condition. | One struct in a block of its own, whatever its fields, also where the program has no slice of such: made, stored, read. No condition. -/
import Derived.Test.YteojkfbnenfmkaaDoorRowBJ2
import Derived.Test.YteojkfbnenfmkaaDoorGrow
namespace Go.Proofs.YteojkfbnenfmkaaDoor.RowF
set_option maxRecDepth 100000
open Go Go.RowKit Byt RowS RowB

theorem run_store_one {w : World} {g j : Nat} {T : TypeId} {v : Value} {c : Array Value} {t : TypeId} (ht : w.heap[g]? = some (.cells c t (0, 0))) (hj : j < c.size) (hi : (Tryd.prog.info? T).map (·.size) = some 1) (hv : v.cells = #[v]) (h1 : v.oneCell' = true) :
    (Instr.storeAt T (.pointer (some ⟨g, j, none⟩)) v).run Tryd.prog w = .ok () (w.setCell ⟨g, j, none⟩ v) := by
  have hth : w.there g j [v].length := fun i hi => by
    have : i = 0 := by simpa using hi
    subst this
    refine ⟨?_, ?_⟩
    · rw [Nat.add_zero, cell_of_row w g j _ t (0, 0) ht, Array.getElem?_eq_getElem hj]
      rfl
    · simp [World.frozen?, ht]
  have := run_storeCells_cells (P := Tryd.prog) g j [v] 0 w (fun i hi => by simpa using (hth i hi).1) (fun i hi => by simpa using (hth i hi).2) (fun u hu => by simp only [List.mem_singleton] at hu; subst hu; exact h1)
  cases hq : Tryd.prog.info? T with
  | none => simp [hq] at hi
  | some i =>
    have hs : i.size = 1 := by simpa [hq] using hi
    simp only [Nat.add_zero] at this
    simp only [Instr.storeAt, Instr.sureAddr, Sem.run_bind, Sem.run_pure, Result.andThen_ok]
    simp [storeVar, sizeOf, typeInfo, hq, hv, hs, this]
    try rfl
variable {α : Type} (E : Enc α)
end Go.Proofs.YteojkfbnenfmkaaDoor.RowF
namespace Go.Proofs.YteojkfbnenfmkaaDoor.RowH
set_option maxRecDepth 100000
open Go Go.RowKit Byt RowS RowB

/-- Values written one behind the other into a list. -/
def setL : List Value → Nat → List Value → List Value
  | xs, _, [] => xs
  | xs, o, v :: vs => setL (xs.set o v) (o + 1) vs
theorem setL_mid : ∀ (vs A B C : List Value), B.length = vs.length → setL (A ++ B ++ C) A.length vs = A ++ vs ++ C
  | [], A, B, C, h => by
    have : B = [] := List.eq_nil_of_length_eq_zero (by simpa using h)
    subst this
    simp [setL]
  | v :: vs, A, [], C, h => by simp at h
  | v :: vs, A, b :: B, C, h => by
    have e : (A ++ b :: B ++ C).set A.length v = (A ++ [v]) ++ B ++ C := by simp
    have l : (A ++ [v]).length = A.length + 1 := by simp
    rw [setL, e, ← l, setL_mid vs (A ++ [v]) B C (by simpa using h)]
    simp
theorem stored_all {base size g n cap : Nat} {e : TypeId} : ∀ (vs : List Value) (o : Nat) (xs : List Value) (w : World), w.ownsRow base e size (.slice (some ⟨g, 0, none⟩) n cap) n xs →
    (w.setCells g o vs).ownsRow base e size (.slice (some ⟨g, 0, none⟩) n cap) n (setL xs o vs) ∧ w.grownBy (w.setCells g o vs) (some g)
  | [], o, xs, w, h => ⟨h, grown_of_below (Below.refl _ _) _⟩
  | v :: vs, o, xs, w, h => by
    obtain ⟨h1, g1⟩ := h.stored o v
    obtain ⟨h2, g2⟩ := stored_all vs (o + 1) (xs.set o v) _ h1
    exact ⟨h2, g1.trans g2⟩
variable {α : Type} (E : Enc α)
theorem own_range {E : Enc α} {w : World} {base g n cap : Nat} {l : List α} (h : w.ownsRow base E.T E.k (.slice (some ⟨g, 0, none⟩) n cap) n (flat E l)) {i : Nat} {x : α} (hx : l[i]? = some x) : w.rangeAt g (i * E.k) (E.enc x) := fun j v hv => by
  have := h.cells rfl _ _ (flat_at E l i j x v hx hv)
  rw [Addr.add_lit, Nat.zero_add] at this
  exact this
/-- One cell stored into a block that holds one. -/
theorem wpList_store_cell {ops : Array Oper} {rest : List Oper} {o : Oper} {a : Act} {w : World} {Q : Exit → Act → World → Prop} (hgd : o.guard = none) (hd : o.dst = none) (T : TypeId) (x y : Operand) (ho : o.op = .store T x y) (hi : (Tryd.prog.info? T).map (·.size) = some 1)
    (g : Nat) (hx : a.eval x = .pointer (some ⟨g, 0, none⟩)) (old : Value) (t : TypeId) (hc : w.heap[g]? = some (.cells #[old] t (0, 0))) (v : Value) (hy : a.eval y = v) (hv : v.cells = #[v]) (h1 : v.oneCell' = true)
    (h : ∀ w', w'.heap[g]? = some (.cells #[v] t (0, 0)) → w.grownBy w' (some g) → wpList Tryd.prog ops Q rest a w') : wpList Tryd.prog ops Q (o :: rest) a w := by
  refine wpList_plain hgd fun K hK => ?_
  have hrun := RowF.run_store_one (T := T) hc (j := 0) (by simp) hi hv h1
  unfold Oper.wp execOp
  simp only [ho, hx, hy, Sem.run_bind, hrun, Result.andThen_ok, Sem.run_pure]
  refine hK _ _ ?_
  rw [hd]
  refine h _ ?_ ⟨rfl, rfl, rfl, by simp [World.setCell], fun k _ hk => ?_⟩
  · simp only [World.setCell]
    rw [Array.getElem?_modify, if_pos rfl, hc]
    simp
  · simp only [World.setCell]
    rw [Array.getElem?_modify, if_neg (fun e => hk (by rw [← e]))]
/-- The one cell of such a block. -/
theorem cell_of_one {w : World} {g : Nat} {v : Value} {t : TypeId} (h : w.heap[g]? = some (.cells #[v] t (0, 0))) : w.cell? ⟨g, 0, none⟩ = some v := by
  rw [cell_of_row w g 0 _ t (0, 0) h]
  rfl
end Go.Proofs.YteojkfbnenfmkaaDoor.RowH
namespace Go.Proofs.YteojkfbnenfmkaaDoor.RowJ
set_option maxRecDepth 100000
open Go Go.RowKit Byt RowS RowB RowH

variable {α : Type} (E : Enc α)
end Go.Proofs.YteojkfbnenfmkaaDoor.RowJ
namespace Go.Proofs.YteojkfbnenfmkaaDoor.Cel
set_option maxRecDepth 100000
open Go Go.Sort Go.RowKit Byt RowS RowB RowH RowJ

/-- How a struct lies in memory: its type, and the cells of each value. -/
structure Cel (α : Type) where
  T : TypeId
  k : Nat
  bytes : Nat
  d : TypeDesc
  enc : α → List Value
  zero : α
  len : ∀ x, (enc x).length = k
  one : ∀ x, ∀ v ∈ enc x, v.oneCell' = true
  pos : 0 < k
  info : (Tryd.prog.info? T).map (fun i => (i.zero, i.size, i.bytes)) = some (some (.agg (enc zero).toArray), k, bytes)
  under : Tryd.prog.underlying T = some d
  row : d.isRow = true
variable {α : Type} {E : Cel α}
theorem Cel.size (E : Cel α) (x : α) : (Tryd.prog.info? E.T).map (·.size) = some (E.enc x).length := by
  have h := E.info
  cases hq : Tryd.prog.info? E.T with
  | none => rw [hq] at h; cases h
  | some i =>
    rw [hq] at h
    simp only [Option.map_some, Option.some.injEq, Prod.mk.injEq] at h
    simp [h.2.1, E.len]
theorem Cel.size' (E : Cel α) (x : α) : (Tryd.prog.info? E.T).map (·.size) = some (E.enc x).toArray.size := by rw [List.size_toArray]; exact E.size x
theorem Cel.all (E : Cel α) (x : α) : (E.enc x).toArray.all (·.oneCell') = true := Array.all_eq_true_iff_forall_mem.2 (fun v hv => E.one x v (by simpa using hv))
/-- Block g holds the struct x. -/
def Box (E : Cel α) (w : World) (g : Nat) (x : α) : Prop := ∃ t, w.heap[g]? = some (.cells (E.enc x).toArray t (0, 0))
theorem Box.lt {w : World} {g : Nat} {x : α} (h : Box E w g x) : g < w.heap.size := by
  obtain ⟨t, ht⟩ := h
  exact (Array.getElem?_eq_some_iff.1 ht).1
theorem Box.block {w w' : World} {g B : Nat} {x : α} (h : Box E w g x) (hb : Below B w w') (hg : g < B) : Box E w' g x := by
  obtain ⟨t, ht⟩ := h
  exact ⟨t, by rw [hb.block g hg, ht]⟩
theorem Box.below {w w' : World} {g : Nat} {x : α} (h : Box E w g x) (hb : Below w.heap.size w w') : Box E w' g x := h.block hb h.lt
theorem Box.new (w : World) (x : α) (t : TypeId) : Box E (w.alloc (.cells (E.enc x).toArray t)) w.heap.size x := ⟨t, heap_alloc_new w _⟩
theorem Box.alloc {w : World} {g : Nat} {x : α} (h : Box E w g x) (o : Obj) : Box E (w.alloc o) g x := h.below ((Below.refl _ _).alloc (Nat.le_refl _) _)
theorem Box.kept {w w' : World} {g : Nat} {row : Option Nat} {x : α} (h : Box E w g x) (hg : w.grownBy w' row) (hne : some g ≠ row) : Box E w' g x := by
  obtain ⟨t, ht⟩ := h
  exact ⟨t, by rw [hg.block g (Array.getElem?_eq_some_iff.1 ht).1 hne, ht]⟩
theorem Box.range {w : World} {g : Nat} {x : α} (h : Box E w g x) : w.rangeAt g 0 (E.enc x) := fun j v hv => by
  obtain ⟨t, ht⟩ := h
  rw [Nat.zero_add, cell_of_row w g j _ t (0, 0) ht, List.getElem?_toArray]
  exact hv
theorem Box.cell {w : World} {g : Nat} {x : α} (h : Box E w g x) {j : Nat} {v : Value} (hv : (E.enc x)[j]? = some v) : w.cell? ⟨g, j, none⟩ = some v := by
  have := h.range j v hv
  rwa [Nat.zero_add] at this
/-- A struct loaded whole out of its block. -/
theorem wpList_load_box {ops : Array Oper} {rest : List Oper} {o : Oper} {a : Act} {w : World} {Q : Exit → Act → World → Prop} (E : Cel α) (hgd : o.guard = none) (x : Operand) (ho : o.op = .load E.T x)
    (g : Nat) (hx : a.eval x = .pointer (some ⟨g, 0, none⟩)) (y : α) (hb : Box E w g y) (h : wpList Tryd.prog ops Q rest (a.put o.dst (.agg (E.enc y).toArray)) w) : wpList Tryd.prog ops Q (o :: rest) a w :=
  wpList_load_mid hgd E.T x ho g 0 hx (E.enc y) _ hb.range E.under E.row (E.size y) h
/-- A struct stored whole into a block that was just made: the world behind it under a name of its own. -/
theorem wpList_store_new {ops : Array Oper} {rest : List Oper} {o : Oper} {a : Act} {w : World} {Q : Exit → Act → World → Prop} (E : Cel α) (hgd : o.guard = none) (x y : Operand) (ho : o.op = .store E.T x y)
    (w0 : World) (old : Array Value) (t : TypeId) (hw : w = w0.alloc (.cells old t)) (z : α) (g : Nat) (hx : a.eval x = .pointer (some ⟨g, 0, none⟩)) (hg : g = w0.heap.size) (hy : a.eval y = .agg (E.enc z).toArray) (hs : old.size = E.k)
    (h : ∀ w1, Box E w1 w0.heap.size z → Below w0.heap.size w0 w1 → w0.grownBy w1 none → w1.heap.size = w0.heap.size + 1 → wpList Tryd.prog ops Q rest (a.put o.dst undef) w1) : wpList Tryd.prog ops Q (o :: rest) a w := by
  subst hw
  subst hg
  refine wpList_store_row hgd E.T x y ho w0.heap.size (E.enc z).toArray hx hy t old (heap_alloc_new w0 _) (E.size' z) (by simp [E.len, hs]) (E.all z) ?_
  rw [World.setRow_alloc_new]
  exact h _ (Box.new w0 z t) ((Below.refl _ _).alloc (Nat.le_refl _) _) (World.grownBy_alloc w0 _ none) (by simp)
/-- A struct stored whole where one lies. -/
theorem wpList_store_box {ops : Array Oper} {rest : List Oper} {o : Oper} {a : Act} {w : World} {Q : Exit → Act → World → Prop} (E : Cel α) (hgd : o.guard = none) (x y : Operand) (ho : o.op = .store E.T x y)
    (g : Nat) (hx : a.eval x = .pointer (some ⟨g, 0, none⟩)) (old : α) (hb : Box E w g old) (z : α) (hy : a.eval y = .agg (E.enc z).toArray)
    (h : ∀ w1, Box E w1 g z → (∀ B, B ≤ g → Below B w w1) → w.grownBy w1 (some g) → w1.heap.size = w.heap.size → wpList Tryd.prog ops Q rest (a.put o.dst undef) w1) : wpList Tryd.prog ops Q (o :: rest) a w := by
  obtain ⟨t, ht⟩ := hb
  refine wpList_store_row hgd E.T x y ho g (E.enc z).toArray hx hy t (E.enc old).toArray ht (E.size' z) (by simp [E.len]) (E.all z) ?_
  refine h _ ⟨t, setRow_heap w g _ _ t (0, 0) ht⟩ (fun B hB => below_set w hB _) ⟨rfl, rfl, rfl, by simp [World.setRow], fun j _ hj => ?_⟩ (by simp [World.setRow])
  simp only [World.setRow]
  rw [Array.getElem?_modify, if_neg (fun e => hj (by rw [e]))]
theorem range_load (E : Cel α) {w : World} {b off : Nat} {y : α} (h : w.rangeAt b off (E.enc y)) : (Instr.loadAt E.T (.pointer (some ⟨b, off, none⟩))).run Tryd.prog w = .ok (.agg (E.enc y).toArray) w :=
  run_loadAt_mid w b off E.T (E.enc y) _ h E.under E.row (E.size y)
/-- A struct read whole in a region that draws its order. -/
theorem quiet_row (E : Cel α) {a : Act} {o : Oper} {K : Act → Prop} {w : World} (x : Operand) (ho : o.op = .load E.T x)
    (b off : Nat) (hx : a.eval x = .pointer (some ⟨b, off, none⟩)) (y : α) (hc : w.rangeAt b off (E.enc y)) (hk : K (a.put o.dst (.agg (E.enc y).toArray))) : o.quiet Tryd.prog a (fun w' => ∃ p : Regrown, w' = grow (redrawn w p.d) p.os) K := by
  refine ⟨.agg (E.enc y).toArray, fun u hu => ?_, hk⟩
  obtain ⟨p, rfl⟩ := hu
  have q := range_load E (range_below hc (below_regrown w p.d p.os))
  unfold Oper.quietAt execOp
  simp only [ho, hx, Sem.run_bind, q, Result.andThen_ok, Sem.run_pure]
  exact ⟨rfl, rfl⟩
end Go.Proofs.YteojkfbnenfmkaaDoor.Cel
