/- One struct in a block of its own, whatever its fields: made, stored, read. No condition. | Slices of structs written out in the program's text, whatever their fields. No condition. -/
import Derived.Test.YteojkfbnenfmkaaDoorRowS
import Derived.Maps.AppendAt
namespace Go.Proofs.YteojkfbnenfmkaaDoor.RowB
set_option maxRecDepth 100000
open Go Go.RowKit Byt RowS

variable {α : Type} {E : Enc α}
/-- Block g holds the struct x. -/
def Box (E : Enc α) (w : World) (g : Nat) (x : α) : Prop := ∃ t, w.heap[g]? = some (.cells (E.enc x).toArray t (0, 0))
theorem Box.lt {w : World} {g : Nat} {x : α} (h : Box E w g x) : g < w.heap.size := by
  obtain ⟨t, ht⟩ := h
  exact (Array.getElem?_eq_some_iff.1 ht).1
theorem Box.block {w w' : World} {g B : Nat} {x : α} (h : Box E w g x) (hb : Below B w w') (hg : g < B) : Box E w' g x := by
  obtain ⟨t, ht⟩ := h
  exact ⟨t, by rw [hb.block g hg, ht]⟩
theorem Box.below {w w' : World} {g : Nat} {x : α} (h : Box E w g x) (hb : Below w.heap.size w w') : Box E w' g x := h.block hb h.lt
theorem Box.new (w : World) (x : α) (t : TypeId) : Box E (w.alloc (.cells (E.enc x).toArray t)) w.heap.size x := ⟨t, heap_alloc_new w _⟩
theorem Box.alloc {w : World} {g : Nat} {x : α} (h : Box E w g x) (o : Obj) : Box E (w.alloc o) g x := h.below ((Below.refl _ _).alloc (Nat.le_refl _) _)
theorem Box.range {w : World} {g : Nat} {x : α} (h : Box E w g x) : w.rangeAt g 0 (E.enc x) := fun j v hv => by
  obtain ⟨t, ht⟩ := h
  rw [Nat.zero_add, cell_of_row w g j _ t (0, 0) ht, List.getElem?_toArray]
  exact hv
theorem Box.cell {w : World} {g : Nat} {x : α} (h : Box E w g x) {j : Nat} {v : Value} (hv : (E.enc x)[j]? = some v) : w.cell? ⟨g, j, none⟩ = some v := by
  have := h.range j v hv
  rwa [Nat.zero_add] at this
/-- A struct lies at a place. -/
def Lies (E : Enc α) (w : World) (g off : Nat) (x : α) : Prop := w.rangeAt g off (E.enc x)
theorem Lies.range {w : World} {g off : Nat} {x : α} (h : Lies E w g off x) : w.rangeAt g off (E.enc x) := h
theorem below_set {B g : Nat} (w : World) (hBg : B ≤ g) (cs : Array Value) : Below B w (w.setRow g cs) :=
  ⟨rfl, rfl, rfl, by simp [World.setRow], fun k hk => by simp only [World.setRow]; rw [Array.getElem?_modify, if_neg (by omega)]⟩
end Go.Proofs.YteojkfbnenfmkaaDoor.RowB
namespace Go.Proofs.YteojkfbnenfmkaaDoor.RowC
set_option maxRecDepth 100000
open Go Go.RowKit Byt RowS RowB

theorem fold_at : ∀ (l : List Value) (s k : Nat) (base : Array Value) (i : Nat),
    ((l.zipIdx s).foldl (fun cs (x : Value × Nat) => cs.setIfInBounds (k + x.2) x.1) base)[i]? = if k + s ≤ i ∧ i < k + s + l.length ∧ i < base.size then l[i - (k + s)]? else base[i]?
  | [], s, k, base, i => by
    rw [List.zipIdx_nil, List.foldl_nil, if_neg (by simp; omega)]
  | v :: l, s, k, base, i => by
    rw [List.zipIdx_cons, List.foldl_cons, fold_at l (s + 1) k _ i]
    simp only [Array.size_setIfInBounds, List.length_cons, Array.getElem?_setIfInBounds]
    by_cases h1 : k + (s + 1) ≤ i ∧ i < k + (s + 1) + l.length ∧ i < base.size
    · rw [if_pos h1, if_pos (by omega), show i - (k + s) = (i - (k + (s + 1))) + 1 by omega, List.getElem?_cons_succ]
    · rw [if_neg h1]
      by_cases h2 : k + s = i
      · subst h2
        by_cases h3 : k + s < base.size
        · rw [if_pos rfl, if_pos h3, if_pos (by omega), Nat.sub_self, List.getElem?_cons_zero]
        · rw [if_pos rfl, if_neg h3, if_neg (by omega), Array.getElem?_eq_none (by omega)]
      · rw [if_neg h2, if_neg (by omega)]
variable {α : Type} (E : Enc α)
theorem put_cells (pre olds : List α) (o y : α) (p : Nat) (hp : pre.length * E.k = p) :
    (E.enc y).toArray.zipIdx.foldl (fun c (x : Value × Nat) => c.setIfInBounds (p + x.2) x.1) (flat E (pre ++ o :: olds)).toArray = (flat E (pre ++ y :: olds)).toArray := by
  subst hp
  have e : (E.enc y).toArray.zipIdx.foldl (fun c (x : Value × Nat) => c.setIfInBounds (pre.length * E.k + x.2) x.1) (flat E (pre ++ o :: olds)).toArray = ((E.enc y).zipIdx 0).foldl (fun c (x : Value × Nat) => c.setIfInBounds (pre.length * E.k + x.2) x.1) (flat E (pre ++ o :: olds)).toArray := by
    rw [← Array.foldl_toList]
    simp
  rw [e]
  apply Array.ext_getElem?
  intro i
  rw [fold_at]
  have L : ∀ z : α, flat E (pre ++ z :: olds) = flat E pre ++ (E.enc z ++ flat E olds) := fun z => by rw [flat_append, flat_cons]
  have lp : (flat E pre).length = pre.length * E.k := flat_length E pre
  have lo : (flat E olds).length = olds.length * E.k := flat_length E olds
  have lz : ∀ z : α, (E.enc z).length = E.k := E.len
  simp only [Nat.add_zero, lz, List.getElem?_toArray, List.size_toArray]
  rw [L, L]
  simp only [List.length_append, lp, lz, lo]
  by_cases h1 : i < pre.length * E.k
  · rw [if_neg (by omega), List.getElem?_append_left (by omega), List.getElem?_append_left (by omega)]
  · by_cases h2 : i < pre.length * E.k + E.k
    · rw [if_pos (by omega), List.getElem?_append_right (by omega), lp, List.getElem?_append_left (by rw [lz]; omega)]
    · have key : ∀ z : α, (flat E pre ++ (E.enc z ++ flat E olds))[i]? = (flat E olds)[i - pre.length * E.k - E.k]? := fun z => by
        rw [List.getElem?_append_right (by omega), lp, List.getElem?_append_right (by rw [lz]; omega), lz]
      rw [if_neg (by omega), key, key]
theorem fill_rows : ∀ (ys pre olds : List α) (n : Nat), pre.length = n → olds.length = ys.length →
    Instr.fill (fun i => some (i * E.k, E.k)) (flat E (pre ++ olds)).toArray ((ys.zipIdx n).map fun (x : α × Nat) => (x.2, .agg (E.enc x.1).toArray)) = some (flat E (pre ++ ys)).toArray
  | [], pre, olds, n, _, ho => by
    have : olds = [] := List.eq_nil_of_length_eq_zero (by simpa using ho)
    subst this
    rfl
  | y :: ys, pre, [], n, _, ho => by simp at ho
  | y :: ys, pre, o :: olds, n, hn, ho => by
    have ih := fill_rows ys (pre ++ [y]) olds (n + 1) (by simp [hn]) (by simpa using ho)
    rw [List.append_assoc, List.append_assoc, List.singleton_append, List.singleton_append] at ih
    rw [List.zipIdx_cons, List.map_cons]
    have hl : (flat E (pre ++ o :: olds)).length = n * E.k + (E.k + olds.length * E.k) := by
      rw [flat_length, List.length_append, List.length_cons, hn, Nat.add_mul, Nat.add_mul, Nat.one_mul]
      omega
    have hc : ¬ ((decide ((Value.agg (E.enc y).toArray).cells.size ≠ E.k) || decide (n * E.k + (Value.agg (E.enc y).toArray).cells.size > (flat E (pre ++ o :: olds)).toArray.size)) = true) := by
      simp only [Value.cells, List.size_toArray, hl, E.len]
      simp
    have e := put_cells E pre olds o y (n * E.k) (by rw [hn])
    show (if ((decide ((Value.agg (E.enc y).toArray).cells.size ≠ E.k) || decide (n * E.k + (Value.agg (E.enc y).toArray).cells.size > (flat E (pre ++ o :: olds)).toArray.size)) = true) then none else Instr.fill (fun i => some (i * E.k, E.k)) ((E.enc y).toArray.zipIdx.foldl (fun c (x : Value × Nat) => c.setIfInBounds (n * E.k + x.2) x.1) (flat E (pre ++ o :: olds)).toArray) ((ys.zipIdx (n + 1)).map fun (x : α × Nat) => (x.2, .agg (E.enc x.1).toArray))) = _
    rw [if_neg hc, e]
    exact ih
theorem zeros (z : α) (n : Nat) : (Array.range (n * E.k)).map (fun i => ((E.enc z).toArray)[i % (E.enc z).toArray.size]!) = (flat E (List.replicate n z)).toArray := by
  apply Array.ext_getElem?
  intro i
  have er : (flat E (List.replicate n z)).toArray[i]? = (flat E (List.replicate n z))[i]? := List.getElem?_toArray
  rw [er]
  by_cases hi : i < n * E.k
  · have hm : i % E.k < E.k := Nat.mod_lt _ E.pos
    have hd : i / E.k < n := Nat.div_lt_of_lt_mul (by rw [Nat.mul_comm]; exact hi)
    obtain ⟨u, hv⟩ : ∃ u, (E.enc z)[i % E.k]? = some u := ⟨_, List.getElem?_eq_getElem (by rw [E.len]; exact hm)⟩
    have f := flat_at E (List.replicate n z) (i / E.k) (i % E.k) z _ (by rw [List.getElem?_replicate, if_pos hd]) hv
    rw [Nat.div_add_mod'] at f
    rw [f, Array.getElem?_map, Array.getElem?_range, if_pos hi, Option.map_some, List.size_toArray, E.len]
    congr 1
    rw [Array.getElem!_eq_getD, Array.getD_eq_getD_getElem?, List.getElem?_toArray, hv]
    rfl
  · rw [Array.getElem?_eq_none (by simp; omega), List.getElem?_eq_none (by rw [flat_length]; simp; omega)]
theorem zero_v (w : World) : (zeroValue E.T).run Tryd.prog w = .ok (.agg (E.enc E.zero).toArray) w := by
  obtain ⟨i, hi, z0, z1, _⟩ := info_parts E.info
  simp [zeroValue, typeInfo, hi, z0]
theorem size_v (w : World) : (sizeOf E.T).run Tryd.prog w = .ok E.k w := by
  obtain ⟨i, hi, z0, z1, _⟩ := info_parts E.info
  simp [sizeOf, typeInfo, hi, z1]
theorem run_build (w : World) (ys : List α) (h0 : 0 < ys.length) (h1 : ys.length ≤ 100) (hk : E.k ≤ 100) :
    (Instr.buildSlice E.S ys.length (ys.zipIdx.map fun (x : α × Nat) => (x.2, .agg (E.enc x.1).toArray)).toArray).run Tryd.prog w = .ok (.slice (some ⟨w.heap.size, 0, none⟩) ys.length ys.length) (w.alloc (.cells (flat E ys).toArray E.T)) := by
  have n0 : ys.length * E.k ≤ 100 * 100 := Nat.mul_le_mul h1 hk
  have n1 : ¬ ys.length * E.k > 2 ^ 24 := by omega
  have n2 : ¬ ys.length * E.k = 0 := by
    have := Nat.mul_pos h0 E.pos
    omega
  have f := fill_rows E ys [] (List.replicate ys.length E.zero) 0 rfl (by simp)
  rw [List.nil_append, List.nil_append] at f
  have zr := zeros E E.zero ys.length
  have zv := zero_v E
  have sv := size_v E
  unfold Instr.buildSlice
  simp only [Sem.run_bind, run_underlying E.slice, Result.andThen_ok, sv, n1, n2, if_false, Sem.run_pure, zv, Value.cells, zr, f, newRow]
  rfl
theorem run_build1 (w : World) (y : α) (hk : E.k ≤ 100) : (Instr.buildSlice E.S 1 #[(0, .agg (E.enc y).toArray)]).run Tryd.prog w = .ok (.slice (some ⟨w.heap.size, 0, none⟩) 1 1) (w.alloc (.cells (E.enc y).toArray E.T)) := by
  have := run_build E w [y] (by simp) (by simp) hk
  rw [flat_one] at this
  exact this
theorem run_build2 (w : World) (x y : α) (hk : E.k ≤ 100) : (Instr.buildSlice E.S 2 #[(0, .agg (E.enc x).toArray), (1, .agg (E.enc y).toArray)]).run Tryd.prog w = .ok (.slice (some ⟨w.heap.size, 0, none⟩) 2 2) (w.alloc (.cells (flat E [x, y]).toArray E.T)) :=
  run_build E w [x, y] (by simp) (by simp) hk
/-- One struct written out as a slice; the world behind it keeps its spelling. -/
theorem wpList_build1 {w : World} {ops : Array Oper} {rest : List Oper} {o : Oper} {a : Act} {Q : Exit → Act → World → Prop} (hk : E.k ≤ 100) (hgd : o.guard = none) (x : Operand) (ho : o.op = .buildSlice E.S 1 #[(0, x)])
    (y : α) (hx : a.eval x = .agg (E.enc y).toArray) (h : wpList Tryd.prog ops Q rest (a.put o.dst (.slice (some ⟨w.heap.size, 0, none⟩) 1 1)) (w.alloc (.cells (E.enc y).toArray E.T))) : wpList Tryd.prog ops Q (o :: rest) a w := by
  refine wpList_plain hgd fun K hK => ?_
  unfold Oper.wp execOp
  simp only [ho, List.map_toArray, List.map_cons, List.map_nil, hx, Sem.run_bind, run_build1 E _ _ hk, Result.andThen_ok, Sem.run_pure]
  exact hK _ _ h
theorem wpList_lit2 {w : World} {ops : Array Oper} {rest : List Oper} {o : Oper} {a : Act} {Q : Exit → Act → World → Prop} (hk : E.k ≤ 100) (hgd : o.guard = none) (x1 x2 : Operand) (ho : o.op = .buildSlice E.S 2 #[(0, x1), (1, x2)])
    (y1 y2 : α) (hx1 : a.eval x1 = .agg (E.enc y1).toArray) (hx2 : a.eval x2 = .agg (E.enc y2).toArray) (h : ∀ w1, SlR E w1 (some ⟨w.heap.size, 0, none⟩) 2 [y1, y2] → Below w.heap.size w w1 → wpList Tryd.prog ops Q rest (a.put o.dst (.slice (some ⟨w.heap.size, 0, none⟩) 2 2)) w1) : wpList Tryd.prog ops Q (o :: rest) a w := by
  refine wpList_plain hgd fun K hK => ?_
  unfold Oper.wp execOp
  simp only [ho, List.map_toArray, List.map_cons, List.map_nil, hx1, hx2, Sem.run_bind, run_build2 E _ _ _ hk, Result.andThen_ok, Sem.run_pure]
  exact hK _ _ (h _ (SlR.of_cells E (heap_alloc_new w _) (by simp; unfold maxLen; omega)) ((Below.refl _ _).alloc (Nat.le_refl _) _))
/-- A guarded operation that is wanted, as one without a guard. -/
theorem unguard {P : Program} {ops : Array Oper} {rest : List Oper} {o : Oper} {a : Act} {w : World} {Q : Exit → Act → World → Prop} (hw : Region.wanted o (yielded ops a.tmps) = true)
    (h : wpList P ops Q ({ o with guard := none } :: rest) a w) : wpList P ops Q (o :: rest) a w := by
  unfold wpList at h ⊢
  rw [if_pos hw]
  rw [if_pos (by simp [Region.wanted])] at h
  exact h
end Go.Proofs.YteojkfbnenfmkaaDoor.RowC
