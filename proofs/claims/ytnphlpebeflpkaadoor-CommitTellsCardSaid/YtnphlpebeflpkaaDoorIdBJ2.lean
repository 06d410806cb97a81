/- Slices of ids written out in the program's text. No condition. | One id in a box: stored, built, handed back beside a value. No condition. -/
import Derived.Test.YtnphlpebeflpkaaDoorArrEqJ2
namespace Go.Proofs.YtnphlpebeflpkaaDoor.IdB
set_option maxRecDepth 100000
open Go Go.RowKit IdM Byt IdW

theorem fold_at : ∀ (l : List Value) (s k : Nat) (base : Array Value) (i : Nat),
    ((l.zipIdx s).foldl (fun cs (x : Value × Nat) => cs.setIfInBounds (k + x.2) x.1) base)[i]? = if k + s ≤ i ∧ i < k + s + l.length ∧ i < base.size then l[i - (k + s)]? else base[i]?
  | [], s, k, base, i => by
    rw [List.zipIdx_nil, List.foldl_nil, if_neg (by simp; omega)]
  | v :: l, s, k, base, i => by
    rw [List.zipIdx_cons, List.foldl_cons, fold_at l (s + 1) k _ i]
    simp only [Array.size_setIfInBounds, List.length_cons, Array.getElem?_setIfInBounds]
    by_cases h1 : k + (s + 1) ≤ i ∧ i < k + (s + 1) + l.length ∧ i < base.size
    · rw [if_pos h1, if_pos (by omega), show i - (k + s) = (i - (k + (s + 1))) + 1 by omega, List.getElem?_cons_succ]
    · rw [if_neg h1]
      by_cases h2 : k + s = i
      · subst h2
        by_cases h3 : k + s < base.size
        · rw [if_pos rfl, if_pos h3, if_pos (by omega), Nat.sub_self, List.getElem?_cons_zero]
        · rw [if_pos rfl, if_neg h3, if_neg (by omega), Array.getElem?_eq_none (by omega)]
      · rw [if_neg h2, if_neg (by omega)]
theorem put_cells (pre olds : List Idn) (o y : Idn) (k : Nat) (hk : pre.length = k) :
    (cs y).zipIdx.foldl (fun c (x : Value × Nat) => c.setIfInBounds (k * 32 + x.2) x.1) (bv (flat (pre ++ o :: olds))).toArray = (bv (flat (pre ++ y :: olds))).toArray := by
  subst hk
  have e : (cs y).zipIdx.foldl (fun c (x : Value × Nat) => c.setIfInBounds (pre.length * 32 + x.2) x.1) (bv (flat (pre ++ o :: olds))).toArray = ((bv y.1).zipIdx 0).foldl (fun c (x : Value × Nat) => c.setIfInBounds (pre.length * 32 + x.2) x.1) (bv (flat (pre ++ o :: olds))).toArray := by
    rw [← Array.foldl_toList]
    simp [cs]
  rw [e]
  apply Array.ext_getElem?
  intro i
  rw [fold_at]
  simp only [Nat.add_zero, bv_length, Idn_len, List.getElem?_toArray, List.size_toArray, flat_length]
  have L : ∀ z : Idn, (bv (flat (pre ++ z :: olds))) = bv (flat pre) ++ (bv z.1 ++ bv (flat olds)) := fun z => by rw [flat_append, flat_cons, bv_append, bv_append]
  have lp : (bv (flat pre)).length = pre.length * 32 := by rw [bv_length, flat_length]
  have lz : ∀ z : Idn, (bv z.1).length = 32 := fun z => by rw [bv_length, Idn_len]
  simp only [List.length_append, List.length_cons]
  rw [L, L]
  by_cases h1 : i < pre.length * 32
  · rw [if_neg (by omega), List.getElem?_append_left (by omega), List.getElem?_append_left (by omega)]
  · by_cases h2 : i < pre.length * 32 + 32
    · rw [if_pos (by omega), List.getElem?_append_right (by omega), lp, List.getElem?_append_left (by rw [lz]; omega)]
    · have key : ∀ z : Idn, (bv (flat pre) ++ (bv z.1 ++ bv (flat olds)))[i]? = (bv (flat olds))[i - pre.length * 32 - 32]? := fun z => by
        rw [List.getElem?_append_right (by omega), lp, List.getElem?_append_right (by rw [lz]; omega), lz]
      rw [if_neg (by omega), key, key]
theorem fill_ids : ∀ (ys pre olds : List Idn) (k : Nat), pre.length = k → olds.length = ys.length →
    Instr.fill (fun i => some (i * 32, 32)) (bv (flat (pre ++ olds))).toArray ((ys.zipIdx k).map fun (x : Idn × Nat) => (x.2, .agg (cs x.1))) = some (bv (flat (pre ++ ys))).toArray
  | [], pre, olds, k, _, ho => by
    have : olds = [] := List.eq_nil_of_length_eq_zero (by simpa using ho)
    subst this
    rfl
  | y :: ys, pre, [], k, _, ho => by simp at ho
  | y :: ys, pre, o :: olds, k, hk, ho => by
    have ih := fill_ids ys (pre ++ [y]) olds (k + 1) (by simp [hk]) (by simpa using ho)
    rw [List.append_assoc, List.append_assoc, List.singleton_append, List.singleton_append] at ih
    rw [List.zipIdx_cons, List.map_cons]
    have hc : ¬ ((decide ((Value.agg (cs y)).cells.size ≠ 32) || decide (k * 32 + (Value.agg (cs y)).cells.size > (bv (flat (pre ++ o :: olds))).toArray.size)) = true) := by
      simp only [Value.cells, cs_size, List.size_toArray, bv_length, flat_length, List.length_append, List.length_cons]
      simp
      omega
    have e := put_cells pre olds o y k hk
    show (if ((decide ((Value.agg (cs y)).cells.size ≠ 32) || decide (k * 32 + (Value.agg (cs y)).cells.size > (bv (flat (pre ++ o :: olds))).toArray.size)) = true) then none else Instr.fill (fun i => some (i * 32, 32)) ((cs y).zipIdx.foldl (fun c (x : Value × Nat) => c.setIfInBounds (k * 32 + x.2) x.1) (bv (flat (pre ++ o :: olds))).toArray) ((ys.zipIdx (k + 1)).map fun (x : Idn × Nat) => (x.2, .agg (cs x.1)))) = _
    rw [if_neg hc, e]
    exact ih
theorem zeros (z : Idn) (n : Nat) : (Array.range (n * 32)).map (fun i => (cs z)[i % (cs z).size]!) = (bv (flat (List.replicate n z))).toArray := by
  apply Array.ext_getElem?
  intro i
  have e : (bv (flat (List.replicate n z))).toArray[i]? = (bv (flat (List.replicate n z)))[i]? := by simp
  rw [e]
  by_cases hi : i < n * 32
  · have hm : i % 32 < 32 := by omega
    have f := flat_at (List.replicate n z) (i / 32) (i % 32) (by simp; omega) hm
    rw [show i / 32 * 32 + i % 32 = i by omega] at f
    rw [bv_at _ (by rw [flat_length]; simpa using hi), f]
    have q : (List.replicate n z).getD (i / 32) nought = z := by
      rw [List.getD_eq_getElem?_getD, List.getElem?_replicate, if_pos (by omega)]
      rfl
    rw [q]
    simp only [Array.getElem?_map, Array.getElem?_range, if_pos hi, Option.map_some, cs_size]
    rw [Array.getElem!_eq_getD, Array.getD_eq_getD_getElem?, cs_at z _ hm]
    rfl
  · rw [Array.getElem?_eq_none (by simp; omega), List.getElem?_eq_none (by rw [bv_length, flat_length]; simp; omega)]
theorem zero_v (w : World) : (zeroValue 36).run Tryd.prog w = .ok (.agg (cs nought)) w := by
  obtain ⟨i, hi, z0, z1, _⟩ := info_parts zero_id
  simp [zeroValue, typeInfo, hi, z0]
theorem size_v (w : World) : (sizeOf 36).run Tryd.prog w = .ok 32 w := by
  obtain ⟨i, hi, z0, z1, _⟩ := info_parts zero_id
  simp [sizeOf, typeInfo, hi, z1]
theorem run_build (w : World) (ys : List Idn) (h0 : 0 < ys.length) (h1 : ys.length ≤ 100) :
    (Instr.buildSlice 24 ys.length (ys.zipIdx.map fun (x : Idn × Nat) => (x.2, .agg (cs x.1))).toArray).run Tryd.prog w = .ok (.slice (some ⟨w.heap.size, 0, none⟩) ys.length ys.length) (w.alloc (.cells (bv (flat ys)).toArray 36)) := by
  have n1 : ¬ ys.length * 32 > 2 ^ 24 := by omega
  have n2 : ¬ ys.length * 32 = 0 := by omega
  have f := fill_ids ys [] (List.replicate ys.length nought) 0 rfl (by simp)
  rw [List.nil_append, List.nil_append] at f
  have zr := zeros nought ys.length
  have zv := zero_v
  have sv := size_v
  generalize nought = z at f zr zv
  unfold Instr.buildSlice
  simp only [Sem.run_bind, run_underlying Tryd.underlying24, Result.andThen_ok, sv, n1, n2, if_false, Sem.run_pure, zv, Value.cells, zr, f, newRow]
  rfl
/-- One id, and three. -/
theorem run_build1 (w : World) (y : Idn) : (Instr.buildSlice 24 1 #[(0, .agg (cs y))]).run Tryd.prog w = .ok (.slice (some ⟨w.heap.size, 0, none⟩) 1 1) (w.alloc (.cells (cs y) 36)) := by
  have := run_build w [y] (by simp) (by simp)
  rw [flat_one] at this
  exact this
theorem run_build3 (w : World) (x y z : Idn) : (Instr.buildSlice 24 3 #[(0, .agg (cs x)), (1, .agg (cs y)), (2, .agg (cs z))]).run Tryd.prog w = .ok (.slice (some ⟨w.heap.size, 0, none⟩) 3 3) (w.alloc (.cells (bv (flat [x, y, z])).toArray 36)) :=
  run_build w [x, y, z] (by simp) (by simp)
theorem wpList_build1 {w : World} {ops : Array Oper} {rest : List Oper} {o : Oper} {a : Act} {Q : Exit → Act → World → Prop} (hgd : o.guard = none) (x : Operand) (ho : o.op = .buildSlice 24 1 #[(0, x)])
    (y : Idn) (hx : a.eval x = .agg (cs y)) (h : wpList Tryd.prog ops Q rest (a.put o.dst (.slice (some ⟨w.heap.size, 0, none⟩) 1 1)) (w.alloc (.cells (cs y) 36))) : wpList Tryd.prog ops Q (o :: rest) a w := by
  refine wpList_plain hgd fun K hK => ?_
  unfold Oper.wp execOp
  simp only [ho, List.map_toArray, List.map_cons, List.map_nil, hx, Sem.run_bind, run_build1, Result.andThen_ok, Sem.run_pure]
  exact hK _ _ h
end Go.Proofs.YtnphlpebeflpkaaDoor.IdB
namespace Go.Proofs.YtnphlpebeflpkaaDoor.IdJ
set_option maxRecDepth 100000
open Go Go.RowKit IdM Byt IdW IdB

theorem Box.frozen {w : World} {g : Nat} {x : Idn} (h : Box w g x) (i : Nat) : w.frozen? ⟨g, i, none⟩ = false := by
  obtain ⟨t, ht⟩ := h
  exact frozen_of_row w g i (cs x) t ht
theorem Box.put {w : World} {g : Nat} {x y : Idn} (h : Box w g x) (i : Nat) (v : Value) (e : (cs x).setIfInBounds i v = cs y) : Box (w.setCell ⟨g, i, none⟩ v) g y := by
  obtain ⟨t, ht⟩ := h
  exact ⟨t, by rw [heap_setCell_same w g i (cs x) t v ht, e]⟩
theorem Box.other {w : World} {g : Nat} {x : Idn} (h : Box w g x) {a : Addr} (ha : g ≠ a.block) (v : Value) : Box (w.setCell a v) g x := by
  obtain ⟨t, ht⟩ := h
  exact ⟨t, (heap_setCell_other w a g v ha).trans ht⟩
theorem Box.row {w : World} {g : Nat} {x : Idn} (h : Box w g x) (y : Idn) : Box (w.setRow g (cs y)) g y := by
  obtain ⟨t, ht⟩ := h
  exact ⟨t, setRow_heap w g (cs x) (cs y) t (0, 0) ht⟩
theorem below_row {B g : Nat} {w0 w : World} (hb : Below B w0 w) (hg : B ≤ g) (c : Array Value) : Below B w0 (w.setRow g c) :=
  hb.trans ⟨rfl, rfl, rfl, by simp [World.setRow], fun k hk => setRow_other w g k c (by omega)⟩
theorem below_cell {B g i : Nat} {w0 w : World} (hb : Below B w0 w) (hg : B ≤ g) (v : Value) : Below B w0 (w.setCell ⟨g, i, none⟩ v) :=
  hb.trans ⟨rfl, rfl, rfl, by simp [World.setCell], fun k hk => heap_setCell_other w ⟨g, i, none⟩ k v (by simp; omega)⟩
/-- An id stored into a box. -/
theorem wpList_store_box {ops : Array Oper} {rest : List Oper} {o : Oper} {a : Act} {w : World} {Q : Exit → Act → World → Prop} (hgd : o.guard = none) (x y : Operand) (ho : o.op = .store 36 x y)
    (g : Nat) (hx : a.eval x = .pointer (some ⟨g, 0, none⟩)) (old z : Idn) (hb : Box w g old) (hy : a.eval y = .agg (cs z))
    (h : wpList Tryd.prog ops Q rest (a.put o.dst undef) (w.setRow g (cs z))) : wpList Tryd.prog ops Q (o :: rest) a w := by
  obtain ⟨t, ht⟩ := hb
  exact wpList_store_row hgd 36 x y ho g (cs z) hx hy t (cs old) ht (info_cs z) (by rw [cs_size, cs_size]) (cs_one z) h
theorem build0 (w : World) : (Instr.build 36 #[]).run Tryd.prog w = .ok (.agg (cs nought)) w := Go.run_build w 36 _ _ (by kernel_rfl)
theorem wpList_build0 {ops : Array Oper} {rest : List Oper} {o : Oper} {a : Act} {w : World} {Q : Exit → Act → World → Prop} (hgd : o.guard = none) (ho : o.op = .build 36 #[])
    (h : wpList Tryd.prog ops Q rest (a.put o.dst (.agg (cs nought))) w) : wpList Tryd.prog ops Q (o :: rest) a w := by
  refine wpList_plain hgd fun K hK => ?_
  unfold Oper.wp execOp
  simp only [ho, List.map_toArray, List.map_nil, Sem.run_bind, build0, Result.andThen_ok, Sem.run_pure]
  exact hK _ _ h
theorem wpList_alloc_id {ops : Array Oper} {rest : List Oper} {o : Oper} {a : Act} {w : World} {Q : Exit → Act → World → Prop} (hgd : o.guard = none) (ho : o.op = .alloc 36)
    (h : wpList Tryd.prog ops Q rest (a.put o.dst (.pointer (some ⟨w.heap.size, 0, none⟩))) (w.alloc (.cells (cs nought) 36))) : wpList Tryd.prog ops Q (o :: rest) a w := by
  refine wpList_plain hgd fun K hK => ?_
  have zv := zero_v w
  unfold Oper.wp execOp
  simp only [ho, Instr.alloc, newVar, newRow, Sem.run_bind, zv, Result.andThen_ok, Sem.run_pure, Value.cells]
  exact hK _ _ h
theorem results_box {fn : Func} {p q : Tmp} (h : fn.results = #[.cell p 36, .tmp q]) (tmps : Array Value) (w : World) (g : Nat) (x : Idn) (v : Value)
    (hp : tmps.getD p undef = .pointer (some ⟨g, 0, none⟩)) (hq : tmps.getD q undef = v) (hg : Box w g x) : (results fn tmps).run Tryd.prog w = .ok (.tuple #[.agg (cs x), v]) w := by
  obtain ⟨t, ht⟩ := hg
  have hp' : tmps[p]?.getD undef = .pointer (some ⟨g, 0, none⟩) := by simpa using hp
  have hq' : tmps[q]?.getD undef = v := by simpa using hq
  simp [results, h, hp', hq', asAddr, run_loadVar_row w g t 36 (cs x) (0, 0) _ ht Tryd.underlying36 rfl (info_cs x)]
end Go.Proofs.YtnphlpebeflpkaaDoor.IdJ
