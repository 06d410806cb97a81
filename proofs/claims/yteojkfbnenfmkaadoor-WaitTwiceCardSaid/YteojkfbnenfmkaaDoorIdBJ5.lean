/- Slices of ids written out in the program's text. No condition. | Lists of commits in memory. No condition. | Plain facts on what commits know by their places in a list, and on the order in which it is found out. No condition. | A table of who knows whom, as it is found out: what a pass over it keeps. No condition. | A table of truth values in memory, row by row: made, read, turned. No condition. -/
import Derived.Test.YteojkfbnenfmkaaDoorIdW
import Derived.Test.YteojkfbnenfmkaaDoorCmRJ6
import Derived.Test.YteojkfbnenfmkaaDoorRowBJ2
import Derived.Test.YteojkfbnenfmkaaDoorOpenIJ3
import Derived.Test.YteojkfbnenfmkaaDoorDgMJ2
import Derived.Test.YteojkfbnenfmkaaDoorRotDJ4
namespace Go.Proofs.YteojkfbnenfmkaaDoor.IdB
set_option maxRecDepth 100000
open Go Go.RowKit IdM Byt IdW

theorem fold_at : ∀ (l : List Value) (s k : Nat) (base : Array Value) (i : Nat),
    ((l.zipIdx s).foldl (fun cs (x : Value × Nat) => cs.setIfInBounds (k + x.2) x.1) base)[i]? = if k + s ≤ i ∧ i < k + s + l.length ∧ i < base.size then l[i - (k + s)]? else base[i]?
  | [], s, k, base, i => by
    rw [List.zipIdx_nil, List.foldl_nil, if_neg (by simp; omega)]
  | v :: l, s, k, base, i => by
    rw [List.zipIdx_cons, List.foldl_cons, fold_at l (s + 1) k _ i]
    simp only [Array.size_setIfInBounds, List.length_cons, Array.getElem?_setIfInBounds]
    by_cases h1 : k + (s + 1) ≤ i ∧ i < k + (s + 1) + l.length ∧ i < base.size
    · rw [if_pos h1, if_pos (by omega), show i - (k + s) = (i - (k + (s + 1))) + 1 by omega, List.getElem?_cons_succ]
    · rw [if_neg h1]
      by_cases h2 : k + s = i
      · subst h2
        by_cases h3 : k + s < base.size
        · rw [if_pos rfl, if_pos h3, if_pos (by omega), Nat.sub_self, List.getElem?_cons_zero]
        · rw [if_pos rfl, if_neg h3, if_neg (by omega), Array.getElem?_eq_none (by omega)]
      · rw [if_neg h2, if_neg (by omega)]
theorem put_cells (pre olds : List Idn) (o y : Idn) (k : Nat) (hk : pre.length = k) :
    (cs y).zipIdx.foldl (fun c (x : Value × Nat) => c.setIfInBounds (k * 32 + x.2) x.1) (bv (flat (pre ++ o :: olds))).toArray = (bv (flat (pre ++ y :: olds))).toArray := by
  subst hk
  have e : (cs y).zipIdx.foldl (fun c (x : Value × Nat) => c.setIfInBounds (pre.length * 32 + x.2) x.1) (bv (flat (pre ++ o :: olds))).toArray = ((bv y.1).zipIdx 0).foldl (fun c (x : Value × Nat) => c.setIfInBounds (pre.length * 32 + x.2) x.1) (bv (flat (pre ++ o :: olds))).toArray := by
    rw [← Array.foldl_toList]
    simp [cs]
  rw [e]
  apply Array.ext_getElem?
  intro i
  rw [fold_at]
  simp only [Nat.add_zero, bv_length, Idn_len, List.getElem?_toArray, List.size_toArray, flat_length]
  have L : ∀ z : Idn, (bv (flat (pre ++ z :: olds))) = bv (flat pre) ++ (bv z.1 ++ bv (flat olds)) := fun z => by rw [flat_append, flat_cons, bv_append, bv_append]
  have lp : (bv (flat pre)).length = pre.length * 32 := by rw [bv_length, flat_length]
  have lz : ∀ z : Idn, (bv z.1).length = 32 := fun z => by rw [bv_length, Idn_len]
  simp only [List.length_append, List.length_cons]
  rw [L, L]
  by_cases h1 : i < pre.length * 32
  · rw [if_neg (by omega), List.getElem?_append_left (by omega), List.getElem?_append_left (by omega)]
  · by_cases h2 : i < pre.length * 32 + 32
    · rw [if_pos (by omega), List.getElem?_append_right (by omega), lp, List.getElem?_append_left (by rw [lz]; omega)]
    · have key : ∀ z : Idn, (bv (flat pre) ++ (bv z.1 ++ bv (flat olds)))[i]? = (bv (flat olds))[i - pre.length * 32 - 32]? := fun z => by
        rw [List.getElem?_append_right (by omega), lp, List.getElem?_append_right (by rw [lz]; omega), lz]
      rw [if_neg (by omega), key, key]
theorem fill_ids : ∀ (ys pre olds : List Idn) (k : Nat), pre.length = k → olds.length = ys.length →
    Instr.fill (fun i => some (i * 32, 32)) (bv (flat (pre ++ olds))).toArray ((ys.zipIdx k).map fun (x : Idn × Nat) => (x.2, .agg (cs x.1))) = some (bv (flat (pre ++ ys))).toArray
  | [], pre, olds, k, _, ho => by
    have : olds = [] := List.eq_nil_of_length_eq_zero (by simpa using ho)
    subst this
    rfl
  | y :: ys, pre, [], k, _, ho => by simp at ho
  | y :: ys, pre, o :: olds, k, hk, ho => by
    have ih := fill_ids ys (pre ++ [y]) olds (k + 1) (by simp [hk]) (by simpa using ho)
    rw [List.append_assoc, List.append_assoc, List.singleton_append, List.singleton_append] at ih
    rw [List.zipIdx_cons, List.map_cons]
    have hc : ¬ ((decide ((Value.agg (cs y)).cells.size ≠ 32) || decide (k * 32 + (Value.agg (cs y)).cells.size > (bv (flat (pre ++ o :: olds))).toArray.size)) = true) := by
      simp only [Value.cells, cs_size, List.size_toArray, bv_length, flat_length, List.length_append, List.length_cons]
      simp
      omega
    have e := put_cells pre olds o y k hk
    show (if ((decide ((Value.agg (cs y)).cells.size ≠ 32) || decide (k * 32 + (Value.agg (cs y)).cells.size > (bv (flat (pre ++ o :: olds))).toArray.size)) = true) then none else Instr.fill (fun i => some (i * 32, 32)) ((cs y).zipIdx.foldl (fun c (x : Value × Nat) => c.setIfInBounds (k * 32 + x.2) x.1) (bv (flat (pre ++ o :: olds))).toArray) ((ys.zipIdx (k + 1)).map fun (x : Idn × Nat) => (x.2, .agg (cs x.1)))) = _
    rw [if_neg hc, e]
    exact ih
theorem zeros (z : Idn) (n : Nat) : (Array.range (n * 32)).map (fun i => (cs z)[i % (cs z).size]!) = (bv (flat (List.replicate n z))).toArray := by
  apply Array.ext_getElem?
  intro i
  have e : (bv (flat (List.replicate n z))).toArray[i]? = (bv (flat (List.replicate n z)))[i]? := by simp
  rw [e]
  by_cases hi : i < n * 32
  · have hm : i % 32 < 32 := by omega
    have f := flat_at (List.replicate n z) (i / 32) (i % 32) (by simp; omega) hm
    rw [show i / 32 * 32 + i % 32 = i by omega] at f
    rw [bv_at _ (by rw [flat_length]; simpa using hi), f]
    have q : (List.replicate n z).getD (i / 32) nought = z := by
      rw [List.getD_eq_getElem?_getD, List.getElem?_replicate, if_pos (by omega)]
      rfl
    rw [q]
    simp only [Array.getElem?_map, Array.getElem?_range, if_pos hi, Option.map_some, cs_size]
    rw [Array.getElem!_eq_getD, Array.getD_eq_getD_getElem?, cs_at z _ hm]
    rfl
  · rw [Array.getElem?_eq_none (by simp; omega), List.getElem?_eq_none (by rw [bv_length, flat_length]; simp; omega)]
theorem zero_v (w : World) : (zeroValue 42).run Tryd.prog w = .ok (.agg (cs nought)) w := by
  obtain ⟨i, hi, z0, z1, _⟩ := info_parts zero_id
  simp [zeroValue, typeInfo, hi, z0]
theorem size_v (w : World) : (sizeOf 42).run Tryd.prog w = .ok 32 w := by
  obtain ⟨i, hi, z0, z1, _⟩ := info_parts zero_id
  simp [sizeOf, typeInfo, hi, z1]
theorem run_build (w : World) (ys : List Idn) (h0 : 0 < ys.length) (h1 : ys.length ≤ 100) :
    (Instr.buildSlice 25 ys.length (ys.zipIdx.map fun (x : Idn × Nat) => (x.2, .agg (cs x.1))).toArray).run Tryd.prog w = .ok (.slice (some ⟨w.heap.size, 0, none⟩) ys.length ys.length) (w.alloc (.cells (bv (flat ys)).toArray 42)) := by
  have n1 : ¬ ys.length * 32 > 2 ^ 24 := by omega
  have n2 : ¬ ys.length * 32 = 0 := by omega
  have f := fill_ids ys [] (List.replicate ys.length nought) 0 rfl (by simp)
  rw [List.nil_append, List.nil_append] at f
  have zr := zeros nought ys.length
  have zv := zero_v
  have sv := size_v
  generalize nought = z at f zr zv
  unfold Instr.buildSlice
  simp only [Sem.run_bind, run_underlying Tryd.underlying25, Result.andThen_ok, sv, n1, n2, if_false, Sem.run_pure, zv, Value.cells, zr, f, newRow]
  rfl
/-- One id, and three. -/
theorem run_build1 (w : World) (y : Idn) : (Instr.buildSlice 25 1 #[(0, .agg (cs y))]).run Tryd.prog w = .ok (.slice (some ⟨w.heap.size, 0, none⟩) 1 1) (w.alloc (.cells (cs y) 42)) := by
  have := run_build w [y] (by simp) (by simp)
  rw [flat_one] at this
  exact this
theorem wpList_build1 {w : World} {ops : Array Oper} {rest : List Oper} {o : Oper} {a : Act} {Q : Exit → Act → World → Prop} (hgd : o.guard = none) (x : Operand) (ho : o.op = .buildSlice 25 1 #[(0, x)])
    (y : Idn) (hx : a.eval x = .agg (cs y)) (h : wpList Tryd.prog ops Q rest (a.put o.dst (.slice (some ⟨w.heap.size, 0, none⟩) 1 1)) (w.alloc (.cells (cs y) 42))) : wpList Tryd.prog ops Q (o :: rest) a w := by
  refine wpList_plain hgd fun K hK => ?_
  unfold Oper.wp execOp
  simp only [ho, List.map_toArray, List.map_cons, List.map_nil, hx, Sem.run_bind, run_build1, Result.andThen_ok, Sem.run_pure]
  exact hK _ _ h
end Go.Proofs.YteojkfbnenfmkaaDoor.IdB
namespace Go.Proofs.YteojkfbnenfmkaaDoor.DgW
set_option maxRecDepth 100000
open Go Go.Sort Go.ChangeShapes Go.WideShapes Go.ChangeAt Go.RowKit Byt IdM IdW OpsM OpsW RowS CmM StW CmW CmX CmY

/-- How a commit lies in a row. -/
def KE : RowS.Enc Cv where
  T := 29
  S := 22
  k := 8
  bytes := 96
  d := _
  enc v := [.int .i64 v.c.node, .int .i64 v.c.seq, .int .i64 v.c.gen, .slice v.a v.c.ps.length v.k, .int .i64 v.c.op.kind, .string v.c.op.key, .string v.c.op.elem, .int .i64 v.c.op.n]
  zero := noV
  len _ := rfl
  one c v hv := by
    simp only [List.mem_cons, List.not_mem_nil, or_false] at hv
    rcases hv with rfl | rfl | rfl | rfl | rfl | rfl | rfl | rfl <;> rfl
  pos := by omega
  small := by omega
  info := by kernel_rfl
  slice := Tryd.underlying22
  under := Tryd.underlying29
  row := rfl
/-- The slice holds these commits, whose parents lie in slices. -/
structure SlK (w : World) (A : Option Addr) (cap : Nat) (l : List Cv) : Prop where
  row : SlR KE w A cap l
  each : ∀ v ∈ l, In w v ∧ Fit v.c
theorem SlK.below {w w' : World} {A : Option Addr} {cap : Nat} {l : List Cv} (h : SlK w A cap l) (hb : Below w.heap.size w w') : SlK w' A cap l :=
  ⟨h.row.below hb, fun v hv => ⟨(h.each v hv).1.below hb, (h.each v hv).2⟩⟩
theorem SlK.nil (w : World) : SlK w none 0 [] := ⟨SlR.nil KE w, by simp⟩
def coms (l : List Cv) : List Com := l.map (·.c)
theorem coms_len (l : List Cv) : (coms l).length = l.length := List.length_map ..
theorem coms_at {l : List Cv} {i : Nat} {x : Cv} (h : l[i]? = some x) : (coms l)[i]? = some x.c := by
  unfold coms
  rw [List.getElem?_map, h]
  rfl
section
variable {H : Type} {enc : TypeId × Value → H} {W : World}
theorem open_coms {base : Nat} {v : Value} {d : DataW H} {p : List MemPlace}
    (hval : Value.okWide Tryd.prog W .any base 22 v) (h : DataW.Trod enc Tryd.prog W 0 (fun _ => true) true 22 v d p) : ∃ A cap l, v = .slice A (List.length l) cap ∧ SlK W A cap l := by
  obtain ⟨A, cap, l, e, S, hg⟩ := OpenR.open_rows KE (good := fun x => In W x ∧ Fit x.c) (by kernel_rfl) (fun fuel cs y hh => OpenK.read_com fuel cs y hh) hval h
  exact ⟨A, cap, l, e, S, hg⟩
end
/-- Are there at most so many, each with few parents and short texts? -/
def fewD (l : List Com) (m : Int) : Bool := decide ((l.length : Int) ≤ m) && l.all fewK
theorem SlK.plain {w : World} {A : Option Addr} {cap : Nat} {l : List Cv} (h : SlK w A cap l) (hp : 0 < l.length) :
    ∃ b off, A = some ⟨b, off, none⟩ ∧ b < w.heap.size ∧ ∀ i x, l[i]? = some x → w.rangeAt b (off + i * 8) (cc x).toList := h.row.plain hp
theorem SlK.len {w : World} {A : Option Addr} {cap : Nat} {l : List Cv} (h : SlK w A cap l) : l.length ≤ 9223372036854775807 := by
  have h1 := h.row.1
  have h2 := h.row.2.1
  unfold maxLen at h2
  omega
theorem range_on {w w' : World} {b off : Nat} {x : Cv} (h : w.rangeAt b off (cc x).toList) (hb : Below w.heap.size w w') : w'.rangeAt b off (cc x).toList := RowS.range_below h hb
section
variable {ops : Array Oper} {rest : List Oper} {o : Oper} {a : Act} {w : World} {Q : Exit → Act → World → Prop}
/-- A commit loaded whole out of a row, also where that is guarded, and wanted. -/
theorem load_at (hgd : o.guard = none) (x : Operand) (ho : o.op = .load 29 x)
    (b off : Nat) (hx : a.eval x = .pointer (some ⟨b, off, none⟩)) (y : Cv) (hc : w.rangeAt b off (cc y).toList) (h : wpList Tryd.prog ops Q rest (a.put o.dst (.agg (cc y))) w) : wpList Tryd.prog ops Q (o :: rest) a w :=
  RowS.wpList_load_at KE hgd x ho b off hx y hc h
end
/-- A commit read whole in a region that draws its order. -/
theorem quiet_com {a : Act} {o : Oper} {K : Act → Prop} {w : World} (x : Operand) (ho : o.op = .load 29 x)
    (b off : Nat) (hx : a.eval x = .pointer (some ⟨b, off, none⟩)) (y : Cv) (hc : w.rangeAt b off (cc y).toList) (hk : K (a.put o.dst (.agg (cc y)))) : o.quiet Tryd.prog a (fun w' => ∃ p : Regrown, w' = grow (redrawn w p.d) p.os) K :=
  RowK.quiet_row KE x ho b off hx y hc hk
theorem drop_at {α : Type} {l : List α} {i : Nat} {x : α} (h : l[i]? = some x) : l.drop i = x :: l.drop (i + 1) := by
  obtain ⟨hi, e⟩ := List.getElem?_eq_some_iff.1 h
  rw [← e]
  exact List.drop_eq_getElem_cons hi
/-- A slice of one id, made: the world behind it under a name of its own. -/
theorem build_one {w : World} {ops : Array Oper} {rest : List Oper} {o : Oper} {a : Act} {Q : Exit → Act → World → Prop} (hgd : o.guard = none) (x : Operand) (ho : o.op = .buildSlice 25 1 #[(0, x)])
    (y : Idn) (hx : a.eval x = .agg (cs y)) (h : ∀ w1, SlI w1 (some ⟨w.heap.size, 0, none⟩) 1 [y] → Below w.heap.size w w1 → wpList Tryd.prog ops Q rest (a.put o.dst (.slice (some ⟨w.heap.size, 0, none⟩) 1 1)) w1) : wpList Tryd.prog ops Q (o :: rest) a w :=
  IdB.wpList_build1 hgd x ho y hx (h _ (SlI.new1 w y _) ((Below.refl _ _).alloc (Nat.le_refl _) _))
/-- The ids of commits, if all may be. -/
def idsD (l : List Com) : List Idn := if l.all mayK = true then l.map hashK else []
/-- Are two lists of commits the same? -/
def listB : List Com → List Com → Bool
  | [], [] => true
  | a :: l, b :: m => CmR.sameK a b && listB l m
  | _, _ => false
theorem listB_iff : ∀ {l m : List Com}, listB l m = true ↔ l = m
  | [], [] => by simp [listB]
  | [], b :: m => by simp [listB]
  | a :: l, [] => by simp [listB]
  | a :: l, b :: m => by rw [listB, Bool.and_eq_true, CmR.sameK_iff, listB_iff, List.cons.injEq]
theorem listB_len {l m : List Com} (h : l.length ≠ m.length) : listB l m = false := by
  cases hb : listB l m with
  | false => rfl
  | true => exact absurd (by rw [listB_iff.1 hb]) h
end Go.Proofs.YteojkfbnenfmkaaDoor.DgW
namespace Go.Proofs.YteojkfbnenfmkaaDoor.DgN
set_option maxRecDepth 100000
open IdM CmM DgM
open Classical

section
variable {H : Com → Idn}
end
end Go.Proofs.YteojkfbnenfmkaaDoor.DgN
namespace Go.Proofs.YteojkfbnenfmkaaDoor.DgP
set_option maxRecDepth 100000
open IdM CmM DgM DgN
open Classical

section
variable (l : List Com) (all : List Idn)
end
end Go.Proofs.YteojkfbnenfmkaaDoor.DgP
namespace Go.Proofs.YteojkfbnenfmkaaDoor.DgT
set_option maxRecDepth 100000
open Go Go.Sort Go.RowKit Byt IdM IdW OpsM OpsW CmM StW CmW DgP

section
variable {ops : Array Oper} {rest : List Oper} {o : Oper} {a : Act} {w : World} {Q : Exit → Act → World → Prop}
end
end Go.Proofs.YteojkfbnenfmkaaDoor.DgT
