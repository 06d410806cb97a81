/- Slices of ids written out in the program's text. No condition. -/
import Derived.Test.YtbggegpbcgcknaaIdW
namespace Go.Proofs.Ytbggegpbcgcknaa.IdB
open Go Go.RowKit IdM Byt IdW

theorem fold_at : ∀ (l : List Value) (s k : Nat) (base : Array Value) (i : Nat),
    ((l.zipIdx s).foldl (fun cs (x : Value × Nat) => cs.setIfInBounds (k + x.2) x.1) base)[i]? = if k + s ≤ i ∧ i < k + s + l.length ∧ i < base.size then l[i - (k + s)]? else base[i]?
  | [], s, k, base, i => by
    rw [List.zipIdx_nil, List.foldl_nil, if_neg (by simp; omega)]
  | v :: l, s, k, base, i => by
    rw [List.zipIdx_cons, List.foldl_cons, fold_at l (s + 1) k _ i]
    simp only [Array.size_setIfInBounds, List.length_cons, Array.getElem?_setIfInBounds]
    by_cases h1 : k + (s + 1) ≤ i ∧ i < k + (s + 1) + l.length ∧ i < base.size
    · rw [if_pos h1, if_pos (by omega), show i - (k + s) = (i - (k + (s + 1))) + 1 by omega, List.getElem?_cons_succ]
    · rw [if_neg h1]
      by_cases h2 : k + s = i
      · subst h2
        by_cases h3 : k + s < base.size
        · rw [if_pos rfl, if_pos h3, if_pos (by omega), Nat.sub_self, List.getElem?_cons_zero]
        · rw [if_pos rfl, if_neg h3, if_neg (by omega), Array.getElem?_eq_none (by omega)]
      · rw [if_neg h2, if_neg (by omega)]
theorem put_cells (pre olds : List Idn) (o y : Idn) (k : Nat) (hk : pre.length = k) :
    (cs y).zipIdx.foldl (fun c (x : Value × Nat) => c.setIfInBounds (k * 32 + x.2) x.1) (bv (flat (pre ++ o :: olds))).toArray = (bv (flat (pre ++ y :: olds))).toArray := by
  subst hk
  have e : (cs y).zipIdx.foldl (fun c (x : Value × Nat) => c.setIfInBounds (pre.length * 32 + x.2) x.1) (bv (flat (pre ++ o :: olds))).toArray = ((bv y.1).zipIdx 0).foldl (fun c (x : Value × Nat) => c.setIfInBounds (pre.length * 32 + x.2) x.1) (bv (flat (pre ++ o :: olds))).toArray := by
    rw [← Array.foldl_toList]
    simp [cs]
  rw [e]
  apply Array.ext_getElem?
  intro i
  rw [fold_at]
  simp only [Nat.add_zero, bv_length, Idn_len, List.getElem?_toArray, List.size_toArray, flat_length]
  have L : ∀ z : Idn, (bv (flat (pre ++ z :: olds))) = bv (flat pre) ++ (bv z.1 ++ bv (flat olds)) := fun z => by rw [flat_append, flat_cons, bv_append, bv_append]
  have lp : (bv (flat pre)).length = pre.length * 32 := by rw [bv_length, flat_length]
  have lz : ∀ z : Idn, (bv z.1).length = 32 := fun z => by rw [bv_length, Idn_len]
  simp only [List.length_append, List.length_cons]
  rw [L, L]
  by_cases h1 : i < pre.length * 32
  · rw [if_neg (by omega), List.getElem?_append_left (by omega), List.getElem?_append_left (by omega)]
  · by_cases h2 : i < pre.length * 32 + 32
    · rw [if_pos (by omega), List.getElem?_append_right (by omega), lp, List.getElem?_append_left (by rw [lz]; omega)]
    · have key : ∀ z : Idn, (bv (flat pre) ++ (bv z.1 ++ bv (flat olds)))[i]? = (bv (flat olds))[i - pre.length * 32 - 32]? := fun z => by
        rw [List.getElem?_append_right (by omega), lp, List.getElem?_append_right (by rw [lz]; omega), lz]
      rw [if_neg (by omega), key, key]
theorem fill_ids : ∀ (ys pre olds : List Idn) (k : Nat), pre.length = k → olds.length = ys.length →
    Instr.fill (fun i => some (i * 32, 32)) (bv (flat (pre ++ olds))).toArray ((ys.zipIdx k).map fun (x : Idn × Nat) => (x.2, .agg (cs x.1))) = some (bv (flat (pre ++ ys))).toArray
  | [], pre, olds, k, _, ho => by
    have : olds = [] := List.eq_nil_of_length_eq_zero (by simpa using ho)
    subst this
    rfl
  | y :: ys, pre, [], k, _, ho => by simp at ho
  | y :: ys, pre, o :: olds, k, hk, ho => by
    have ih := fill_ids ys (pre ++ [y]) olds (k + 1) (by simp [hk]) (by simpa using ho)
    rw [List.append_assoc, List.append_assoc, List.singleton_append, List.singleton_append] at ih
    rw [List.zipIdx_cons, List.map_cons]
    have hc : ¬ ((decide ((Value.agg (cs y)).cells.size ≠ 32) || decide (k * 32 + (Value.agg (cs y)).cells.size > (bv (flat (pre ++ o :: olds))).toArray.size)) = true) := by
      simp only [Value.cells, cs_size, List.size_toArray, bv_length, flat_length, List.length_append, List.length_cons]
      simp
      omega
    have e := put_cells pre olds o y k hk
    show (if ((decide ((Value.agg (cs y)).cells.size ≠ 32) || decide (k * 32 + (Value.agg (cs y)).cells.size > (bv (flat (pre ++ o :: olds))).toArray.size)) = true) then none else Instr.fill (fun i => some (i * 32, 32)) ((cs y).zipIdx.foldl (fun c (x : Value × Nat) => c.setIfInBounds (k * 32 + x.2) x.1) (bv (flat (pre ++ o :: olds))).toArray) ((ys.zipIdx (k + 1)).map fun (x : Idn × Nat) => (x.2, .agg (cs x.1)))) = _
    rw [if_neg hc, e]
    exact ih
theorem zeros (z : Idn) (n : Nat) : (Array.range (n * 32)).map (fun i => (cs z)[i % (cs z).size]!) = (bv (flat (List.replicate n z))).toArray := by
  apply Array.ext_getElem?
  intro i
  have e : (bv (flat (List.replicate n z))).toArray[i]? = (bv (flat (List.replicate n z)))[i]? := by simp
  rw [e]
  by_cases hi : i < n * 32
  · have hm : i % 32 < 32 := by omega
    have f := flat_at (List.replicate n z) (i / 32) (i % 32) (by simp; omega) hm
    rw [show i / 32 * 32 + i % 32 = i by omega] at f
    rw [bv_at _ (by rw [flat_length]; simpa using hi), f]
    have q : (List.replicate n z).getD (i / 32) nought = z := by
      rw [List.getD_eq_getElem?_getD, List.getElem?_replicate, if_pos (by omega)]
      rfl
    rw [q]
    simp only [Array.getElem?_map, Array.getElem?_range, if_pos hi, Option.map_some, cs_size]
    rw [Array.getElem!_eq_getD, Array.getD_eq_getD_getElem?, cs_at z _ hm]
    rfl
  · rw [Array.getElem?_eq_none (by simp; omega), List.getElem?_eq_none (by rw [bv_length, flat_length]; simp; omega)]
theorem zero_v (w : World) : (zeroValue 24).run Try.prog w = .ok (.agg (cs nought)) w := by
  obtain ⟨i, hi, z0, z1, _⟩ := info_parts zero_id
  simp [zeroValue, typeInfo, hi, z0]
theorem size_v (w : World) : (sizeOf 24).run Try.prog w = .ok 32 w := by
  obtain ⟨i, hi, z0, z1, _⟩ := info_parts zero_id
  simp [sizeOf, typeInfo, hi, z1]
theorem run_build (w : World) (ys : List Idn) (h0 : 0 < ys.length) (h1 : ys.length ≤ 100) :
    (Instr.buildSlice 22 ys.length (ys.zipIdx.map fun (x : Idn × Nat) => (x.2, .agg (cs x.1))).toArray).run Try.prog w = .ok (.slice (some ⟨w.heap.size, 0, none⟩) ys.length ys.length) (w.alloc (.cells (bv (flat ys)).toArray 24)) := by
  have n1 : ¬ ys.length * 32 > 2 ^ 24 := by omega
  have n2 : ¬ ys.length * 32 = 0 := by omega
  have f := fill_ids ys [] (List.replicate ys.length nought) 0 rfl (by simp)
  rw [List.nil_append, List.nil_append] at f
  have zr := zeros nought ys.length
  have zv := zero_v
  have sv := size_v
  generalize nought = z at f zr zv
  unfold Instr.buildSlice
  simp only [Sem.run_bind, run_underlying Try.underlying22, Result.andThen_ok, sv, n1, n2, if_false, Sem.run_pure, zv, Value.cells, zr, f, newRow]
  rfl
/-- One id, and three. -/
theorem run_build1 (w : World) (y : Idn) : (Instr.buildSlice 22 1 #[(0, .agg (cs y))]).run Try.prog w = .ok (.slice (some ⟨w.heap.size, 0, none⟩) 1 1) (w.alloc (.cells (cs y) 24)) := by
  have := run_build w [y] (by simp) (by simp)
  rw [flat_one] at this
  exact this
theorem run_build3 (w : World) (x y z : Idn) : (Instr.buildSlice 22 3 #[(0, .agg (cs x)), (1, .agg (cs y)), (2, .agg (cs z))]).run Try.prog w = .ok (.slice (some ⟨w.heap.size, 0, none⟩) 3 3) (w.alloc (.cells (bv (flat [x, y, z])).toArray 24)) :=
  run_build w [x, y, z] (by simp) (by simp)
theorem wpList_build1 {w : World} {ops : Array Oper} {rest : List Oper} {o : Oper} {a : Act} {Q : Exit → Act → World → Prop} (hgd : o.guard = none) (x : Operand) (ho : o.op = .buildSlice 22 1 #[(0, x)])
    (y : Idn) (hx : a.eval x = .agg (cs y)) (h : wpList Try.prog ops Q rest (a.put o.dst (.slice (some ⟨w.heap.size, 0, none⟩) 1 1)) (w.alloc (.cells (cs y) 24))) : wpList Try.prog ops Q (o :: rest) a w := by
  refine wpList_plain hgd fun K hK => ?_
  unfold Oper.wp execOp
  simp only [ho, List.map_toArray, List.map_cons, List.map_nil, hx, Sem.run_bind, run_build1, Result.andThen_ok, Sem.run_pure]
  exact hK _ _ h
end Go.Proofs.Ytbggegpbcgcknaa.IdB
