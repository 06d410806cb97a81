/- Lists of structs in memory, whatever their fields: slices that a walk reads, cuts and appends to. No condition. | One struct in a block of its own, whatever its fields: made, stored, read. No condition. | Slices of structs written out in the program's text, whatever their fields. No condition. -/
import Derived.Test.YtgoapaanmcmlmaaGreatDoorRowInJ3
import Derived.Deep.MidRow
import Derived.Deep.WholeRow
import Derived.Laws.Tables
import Derived.OpenShut
import Derived.Maps.AppendAt
namespace Go.Proofs.YtgoapaanmcmlmaaGreatDoor.RowS
set_option maxRecDepth 100000
open Go Go.RowKit Byt
structure Enc (α : Type) where
 T : TypeId
 S : TypeId
 k : Nat
 bytes : Nat
 d : TypeDesc
 enc : α → List Value
 zero : α
 len : ∀ x, (enc x).length = k
 one : ∀ x, ∀ v ∈ enc x, v.oneCell' = true
 pos : 0 < k
 small : bytes ≤ 100
 info : (Tryz.prog.info? T).map (fun i => (i.zero, i.size, i.bytes)) = some (some (.agg (enc zero).toArray), k, bytes)
 slice : Tryz.prog.underlying S = some (.slice T)
 under : Tryz.prog.underlying T = some d
 row : d.isRow = true
variable {α : Type} (E : Enc α)
theorem Enc.size (x : α) : (Tryz.prog.info? E.T).map (·.size) = some (E.enc x).length := by
 have h := E.info
 cases hq : Tryz.prog.info? E.T with
 | none => rw [hq] at h; cases h
 | some i =>
   rw [hq] at h
   simp only [Option.map_some, Option.some.injEq, Prod.mk.injEq] at h
   simp [h.2.1, E.len]
theorem Enc.elem : Tryz.prog.elem E.S = E.T := by simp [Program.elem, E.slice]
theorem Enc.all (x : α) : (E.enc x).toArray.all (·.oneCell') = true := Array.all_eq_true_iff_forall_mem.2 (fun v hv => E.one x v (by simpa using hv))
def flat (l : List α) : List Value := l.flatMap E.enc
theorem flat_cons (x : α) (l : List α) : flat E (x :: l) = E.enc x ++ flat E l := rfl
theorem flat_append (a b : List α) : flat E (a ++ b) = flat E a ++ flat E b := by simp [flat]
theorem flat_one (x : α) : flat E [x] = E.enc x := by simp [flat]
theorem flat_length : ∀ l : List α, (flat E l).length = l.length * E.k
 | [] => by simp [flat]
 | x :: l => by rw [flat_cons, List.length_append, E.len, flat_length l, List.length_cons, Nat.add_mul, Nat.one_mul, Nat.add_comm]
theorem flat_ones (l : List α) : ∀ v ∈ flat E l, v.oneCell' = true := by
 intro v hv
 simp only [flat, List.mem_flatMap] at hv
 obtain ⟨x, _, hx⟩ := hv
 exact E.one x v hx
theorem flat_at : ∀ (l : List α) (i j : Nat) (x : α) (v : Value), l[i]? = some x → (E.enc x)[j]? = some v → (flat E l)[i * E.k + j]? = some v
 | [], i, _, _, _, h, _ => by simp at h
 | y :: l, 0, j, x, v, h, hv => by
   obtain rfl : y = x := by simpa using h
   have hj := (List.getElem?_eq_some_iff.1 hv).1
   rw [flat_cons, Nat.zero_mul, Nat.zero_add, List.getElem?_append_left hj, hv]
 | y :: l, i + 1, j, x, v, h, hv => by
   rw [flat_cons, List.getElem?_append_right (by rw [E.len, Nat.add_mul]; omega), E.len, show (i + 1) * E.k + j - E.k = i * E.k + j by rw [Nat.add_mul]; omega]
   exact flat_at l i j x v (by simpa using h) hv
def SlR (w : World) (A : Option Addr) (cap : Nat) (l : List α) : Prop :=
 l.length ≤ cap ∧ cap ≤ maxLen ∧ ((A = none ∧ l = [] ∧ cap = 0) ∨ ∃ x, A = some x ∧ ∀ i v, (flat E l)[i]? = some v → w.cell? (x.add i) = some v)
theorem SlR.nil (w : World) : SlR E w none 0 [] := ⟨Nat.le_refl _, Nat.zero_le _, .inl ⟨rfl, rfl, rfl⟩⟩
variable {E}
theorem SlR.below {w w' : World} {A : Option Addr} {cap : Nat} {l : List α} (h : SlR E w A cap l) (hb : Below w.heap.size w w') : SlR E w' A cap l := by
 obtain ⟨h1, h2, h5⟩ := h
 refine ⟨h1, h2, ?_⟩
 rcases h5 with h5 | ⟨x, rfl, hc⟩
 · exact .inl h5
 · refine .inr ⟨x, rfl, fun i v hv => ?_⟩
   have hcell := hc i v hv
   exact (hb.cell (block_lt_of_cell hcell)).trans hcell
theorem SlR.plain {w : World} {A : Option Addr} {cap : Nat} {l : List α} (h : SlR E w A cap l) (hp : 0 < l.length) :
   ∃ b off, A = some ⟨b, off, none⟩ ∧ b < w.heap.size ∧ ∀ i x, l[i]? = some x → w.rangeAt b (off + i * E.k) (E.enc x) := by
 obtain ⟨h1, h2, h5⟩ := h
 rcases h5 with ⟨_, rfl, _⟩ | ⟨x, rfl, hc⟩
 · simp at hp
 · have hx : l[0]? = some l[0] := List.getElem?_eq_getElem hp
   have hk : (E.enc l[0])[0]? = some ((E.enc l[0])[0]'(by rw [E.len]; exact E.pos)) := List.getElem?_eq_getElem _
   have h0 := hc _ _ (flat_at E l 0 0 _ _ hx hk)
   rw [Nat.zero_mul, Nat.zero_add] at h0
   obtain ⟨b, off, spot⟩ := x
   have hspot : spot = none := by simpa [Addr.add] using World.cell?_spot h0
   subst hspot
   have hb := block_lt_of_cell h0
   rw [RowIn.block_add] at hb
   refine ⟨b, off, rfl, hb, fun i x hi j v hv => ?_⟩
   have := hc _ _ (flat_at E l i j x v hi hv)
   rw [Addr.add_lit] at this
   rw [Nat.add_assoc]
   exact this
theorem range_below {w w' : World} {b o : Nat} {cs : List Value} (h : w.rangeAt b o cs) (hb : Below w.heap.size w w') : w'.rangeAt b o cs := fun j v hv => by
 have hc := h j v hv
 exact (hb.cell (block_lt_of_cell hc)).trans hc
theorem SlR.own {w : World} {base n : Nat} {v : Value} {l : List α} (h : w.ownsRow base E.T E.k v n (flat E l)) : ∃ A cap, v = .slice A l.length cap ∧ SlR E w A cap l := by
 have hn : l.length = n := by
   have := h.1
   rw [flat_length] at this
   exact Nat.eq_of_mul_eq_mul_right E.pos this
 rcases h.2 with ⟨rfl, rfl⟩ | ⟨g, cap, cur, rfl, hbg, hg, h1, h2, h3, h4⟩
 · have : l = [] := List.eq_nil_of_length_eq_zero hn
   subst this
   exact ⟨none, 0, rfl, SlR.nil E w⟩
 · refine ⟨some ⟨g, 0, none⟩, cap, by rw [hn], by omega, h2, .inr ⟨_, rfl, fun i u hu => ?_⟩⟩
   exact h.cells rfl i u hu
theorem SlR.part {w : World} {A : Option Addr} {cap : Nat} {l : List α} (h : SlR E w A cap l) (i j : Nat) (hij : i ≤ j) (hj : j ≤ l.length) :
   ∃ A' cap', sliced A i j cap E.k = .slice A' (j - i) cap' ∧ SlR E w A' cap' ((l.drop i).take (j - i)) ∧ ((l.drop i).take (j - i)).length = j - i := by
 obtain ⟨h1, h2, h5⟩ := h
 have hl : ((l.drop i).take (j - i)).length = j - i := by simp; omega
 rcases h5 with ⟨rfl, rfl, rfl⟩ | ⟨x, rfl, hc⟩
 · simp at hj
   obtain rfl : j = 0 := hj
   obtain rfl : i = 0 := by omega
   exact ⟨none, 0, by simp [sliced], by simpa using SlR.nil E w, hl⟩
 · by_cases hci : cap = i
   · refine ⟨some x, cap - i, by simp [sliced, hci], ⟨by rw [hl]; omega, by omega, .inr ⟨x, rfl, fun m v hv => ?_⟩⟩, hl⟩
     have := (List.getElem?_eq_some_iff.1 hv).1
     rw [flat_length, hl, show j - i = 0 by omega, Nat.zero_mul] at this
     omega
   · refine ⟨some (x.add (i * E.k)), cap - i, by simp [sliced, hci], ⟨by rw [hl]; omega, by omega, .inr ⟨_, rfl, fun m v hv => ?_⟩⟩, hl⟩
     rw [Addr.add_add]
     apply hc
     have hm := (List.getElem?_eq_some_iff.1 hv).1
     rw [flat_length, hl] at hm
     have hd : flat E l = flat E (l.take i) ++ (flat E ((l.drop i).take (j - i)) ++ flat E ((l.drop i).drop (j - i))) := by
       rw [← flat_append, ← flat_append, List.take_append_drop, List.take_append_drop]
     have ht : (flat E (l.take i)).length = i * E.k := by rw [flat_length, List.length_take, Nat.min_eq_left (by omega)]
     rw [hd, List.getElem?_append_right (by rw [ht]; omega), ht, Nat.add_sub_cancel_left, List.getElem?_append_left (by rw [flat_length, hl]; exact hm)]
     exact hv
theorem wpList_load_at {ops : Array Oper} {rest : List Oper} {o : Oper} {a : Act} {w : World} {Q : Exit → Act → World → Prop} (E : Enc α) (hgd : o.guard = none) (x : Operand) (ho : o.op = .load E.T x)
   (b off : Nat) (hx : a.eval x = .pointer (some ⟨b, off, none⟩)) (y : α) (hc : w.rangeAt b off (E.enc y)) (h : wpList Tryz.prog ops Q rest (a.put o.dst (.agg (E.enc y).toArray)) w) : wpList Tryz.prog ops Q (o :: rest) a w :=
 wpList_load_mid hgd E.T x ho b off hx (E.enc y) _ hc E.under E.row (E.size y) h
theorem wpList_append {w : World} {ops : Array Oper} {rest : List Oper} {o : Oper} {a : Act} {Q : Exit → Act → World → Prop} (E : Enc α) (hgd : o.guard = none) (s x : Operand)
   (ho : o.op = .call { callee := .builtin .append, args := #[s, x], argTypes := #[E.S, E.S] })
   (base : Nat) (v : Value) (n : Nat) (xs : List α) (hs : a.eval s = v) (hown : w.ownsRow base E.T E.k v n (flat E xs))
   (A : Option Addr) (m c : Nat) (l : List α) (hx : a.eval x = .slice A m c) (hm : l.length = m) (hr : SlR E w A c l)
   (h63 : n + m ≤ 1000000000) (hbase : base ≤ w.heap.size)
   (h : ∀ v' w', w'.ownsRow base E.T E.k v' (n + m) (flat E (xs ++ l)) → w.grownBy w' v.ownBlock → wpList Tryz.prog ops Q rest (a.put o.dst v') w') : wpList Tryz.prog ops Q (o :: rest) a w := by
 obtain ⟨i, hi, z0, z1, z2⟩ := info_parts E.info
 subst hm
 obtain ⟨h1, h2, h5⟩ := hr
 rcases h5 with ⟨rfl, rfl, rfl⟩ | ⟨ad, rfl, hc⟩
 · refine wpList_append_own_none hgd s x E.S ho base E.T i E.k E.slice hi v n (flat E xs) hs hown hx (h v w ?_ (grown_of_below (Below.refl _ _) _))
   simpa using hown
 · have hb : (n + l.length) * E.bytes ≤ 140737488355328 := by
     have h3 : (n + l.length) * E.bytes ≤ 1000000000 * 100 := Nat.mul_le_mul h63 E.small
     omega
   exact wpList_append_own w hgd s x E.S ho base E.T i (.agg (E.enc E.zero).toArray) E.k E.bytes E.slice hi z0 z1 z2 (by simp [Value.cells, E.len]) E.pos v n (flat E xs) hs hown ad l.length c (flat E l) hx (flat_length E l) (fun j u hu => hc j u hu) (flat_ones E l) (by unfold maxLen; omega) hb hbase (fun v' w' a1 a2 _ => h v' w' (by rw [flat_append]; exact a1) a2)
theorem SlR.new1 (E : Enc α) (w : World) (x : α) (t : TypeId) : SlR E (w.alloc (.cells (E.enc x).toArray t)) (some ⟨w.heap.size, 0, none⟩) 1 [x] := by
 refine ⟨Nat.le_refl _, by unfold maxLen; omega, .inr ⟨_, rfl, fun i v hv => ?_⟩⟩
 rw [flat_one] at hv
 rw [Addr.add_lit, Nat.zero_add, cell_of_row _ _ i _ t (0, 0) (heap_alloc_new w _), List.getElem?_toArray]
 exact hv
end Go.Proofs.YtgoapaanmcmlmaaGreatDoor.RowS
namespace Go.Proofs.YtgoapaanmcmlmaaGreatDoor.RowB
set_option maxRecDepth 100000
open Go Go.RowKit Byt RowS
variable {α : Type} {E : Enc α}
def Box (E : Enc α) (w : World) (g : Nat) (x : α) : Prop := ∃ t, w.heap[g]? = some (.cells (E.enc x).toArray t (0, 0))
theorem Box.lt {w : World} {g : Nat} {x : α} (h : Box E w g x) : g < w.heap.size := by
 obtain ⟨t, ht⟩ := h
 exact (Array.getElem?_eq_some_iff.1 ht).1
theorem Box.block {w w' : World} {g B : Nat} {x : α} (h : Box E w g x) (hb : Below B w w') (hg : g < B) : Box E w' g x := by
 obtain ⟨t, ht⟩ := h
 exact ⟨t, by rw [hb.block g hg, ht]⟩
theorem Box.below {w w' : World} {g : Nat} {x : α} (h : Box E w g x) (hb : Below w.heap.size w w') : Box E w' g x := h.block hb h.lt
theorem Box.new (w : World) (x : α) (t : TypeId) : Box E (w.alloc (.cells (E.enc x).toArray t)) w.heap.size x := ⟨t, heap_alloc_new w _⟩
theorem Box.alloc {w : World} {g : Nat} {x : α} (h : Box E w g x) (o : Obj) : Box E (w.alloc o) g x := h.below ((Below.refl _ _).alloc (Nat.le_refl _) _)
theorem Box.range {w : World} {g : Nat} {x : α} (h : Box E w g x) : w.rangeAt g 0 (E.enc x) := fun j v hv => by
 obtain ⟨t, ht⟩ := h
 rw [Nat.zero_add, cell_of_row w g j _ t (0, 0) ht, List.getElem?_toArray]
 exact hv
theorem Box.cell {w : World} {g : Nat} {x : α} (h : Box E w g x) {j : Nat} {v : Value} (hv : (E.enc x)[j]? = some v) : w.cell? ⟨g, j, none⟩ = some v := by
 have := h.range j v hv
 rwa [Nat.zero_add] at this
def Lies (E : Enc α) (w : World) (g off : Nat) (x : α) : Prop := w.rangeAt g off (E.enc x)
theorem Lies.range {w : World} {g off : Nat} {x : α} (h : Lies E w g off x) : w.rangeAt g off (E.enc x) := h
theorem below_set {B g : Nat} (w : World) (hBg : B ≤ g) (cs : Array Value) : Below B w (w.setRow g cs) :=
 ⟨rfl, rfl, rfl, by simp [World.setRow], fun k hk => by simp only [World.setRow]; rw [Array.getElem?_modify, if_neg (by omega)]⟩
theorem wpList_append_at {w : World} {ops : Array Oper} {rest : List Oper} {o : Oper} {a : Act} {Q : Exit → Act → World → Prop} (E : Enc α) (hgd : o.guard = none) (s x : Operand)
   (ho : o.op = .call { callee := .builtin .append, args := #[s, x], argTypes := #[E.S, E.S] })
   (base : Nat) (v : Value) (n : Nat) (xs : List α) (hs : a.eval s = v) (hown : w.ownsRow base E.T E.k v n (flat E xs))
   (g : Nat) (y : α) (hx : a.eval x = .slice (some ⟨g, 0, none⟩) 1 1) (hr : Box E w g y)
   (h63 : n ≤ 100000000) (hbase : base ≤ w.heap.size)
   (h : ∀ v' w', w'.ownsRow base E.T E.k v' (n + 1) (flat E (xs ++ [y])) → w.grownBy w' v.ownBlock → (v'.ownBlock = v.ownBlock ∨ v'.ownBlock = some w.heap.size) → wpList Tryz.prog ops Q rest (a.put o.dst v') w') : wpList Tryz.prog ops Q (o :: rest) a w := by
 obtain ⟨i, hi, z0, z1, z2⟩ := info_parts E.info
 have hb : (n + 1) * E.bytes ≤ 140737488355328 := by
   have h3 : (n + 1) * E.bytes ≤ 100000001 * 100 := Nat.mul_le_mul (by omega) E.small
   omega
 refine wpList_append_own_at w hgd s x E.S ho base E.T i (.agg (E.enc E.zero).toArray) E.k E.bytes E.slice hi z0 z1 z2 (by simp [Value.cells, E.len]) E.pos v n (flat E xs) hs hown ⟨g, 0, none⟩ 1 1 (E.enc y) hx (by rw [E.len, Nat.one_mul]) (fun j u hu => ?_) (fun u hu => E.one y u hu) (by unfold maxLen; omega) hb hbase
   (fun v' w' a1 a2 _ a4 => h v' w' (by rw [flat_append, flat_one]; exact a1) a2 a4)
 rw [Addr.add_lit, Nat.zero_add]
 exact hr.cell hu
end Go.Proofs.YtgoapaanmcmlmaaGreatDoor.RowB
namespace Go.Proofs.YtgoapaanmcmlmaaGreatDoor.RowC
set_option maxRecDepth 100000
open Go Go.RowKit Byt RowS RowB
theorem fold_at : ∀ (l : List Value) (s k : Nat) (base : Array Value) (i : Nat),
   ((l.zipIdx s).foldl (fun cs (x : Value × Nat) => cs.setIfInBounds (k + x.2) x.1) base)[i]? = if k + s ≤ i ∧ i < k + s + l.length ∧ i < base.size then l[i - (k + s)]? else base[i]?
 | [], s, k, base, i => by
   rw [List.zipIdx_nil, List.foldl_nil, if_neg (by simp; omega)]
 | v :: l, s, k, base, i => by
   rw [List.zipIdx_cons, List.foldl_cons, fold_at l (s + 1) k _ i]
   simp only [Array.size_setIfInBounds, List.length_cons, Array.getElem?_setIfInBounds]
   by_cases h1 : k + (s + 1) ≤ i ∧ i < k + (s + 1) + l.length ∧ i < base.size
   · rw [if_pos h1, if_pos (by omega), show i - (k + s) = (i - (k + (s + 1))) + 1 by omega, List.getElem?_cons_succ]
   · rw [if_neg h1]
     by_cases h2 : k + s = i
     · subst h2
       by_cases h3 : k + s < base.size
       · rw [if_pos rfl, if_pos h3, if_pos (by omega), Nat.sub_self, List.getElem?_cons_zero]
       · rw [if_pos rfl, if_neg h3, if_neg (by omega), Array.getElem?_eq_none (by omega)]
     · rw [if_neg h2, if_neg (by omega)]
variable {α : Type} (E : Enc α)
theorem put_cells (pre olds : List α) (o y : α) (p : Nat) (hp : pre.length * E.k = p) :
   (E.enc y).toArray.zipIdx.foldl (fun c (x : Value × Nat) => c.setIfInBounds (p + x.2) x.1) (flat E (pre ++ o :: olds)).toArray = (flat E (pre ++ y :: olds)).toArray := by
 subst hp
 have e : (E.enc y).toArray.zipIdx.foldl (fun c (x : Value × Nat) => c.setIfInBounds (pre.length * E.k + x.2) x.1) (flat E (pre ++ o :: olds)).toArray = ((E.enc y).zipIdx 0).foldl (fun c (x : Value × Nat) => c.setIfInBounds (pre.length * E.k + x.2) x.1) (flat E (pre ++ o :: olds)).toArray := by
   rw [← Array.foldl_toList]
   simp
 rw [e]
 apply Array.ext_getElem?
 intro i
 rw [fold_at]
 have L : ∀ z : α, flat E (pre ++ z :: olds) = flat E pre ++ (E.enc z ++ flat E olds) := fun z => by rw [flat_append, flat_cons]
 have lp : (flat E pre).length = pre.length * E.k := flat_length E pre
 have lo : (flat E olds).length = olds.length * E.k := flat_length E olds
 have lz : ∀ z : α, (E.enc z).length = E.k := E.len
 simp only [Nat.add_zero, lz, List.getElem?_toArray, List.size_toArray]
 rw [L, L]
 simp only [List.length_append, lp, lz, lo]
 by_cases h1 : i < pre.length * E.k
 · rw [if_neg (by omega), List.getElem?_append_left (by omega), List.getElem?_append_left (by omega)]
 · by_cases h2 : i < pre.length * E.k + E.k
   · rw [if_pos (by omega), List.getElem?_append_right (by omega), lp, List.getElem?_append_left (by rw [lz]; omega)]
   · have key : ∀ z : α, (flat E pre ++ (E.enc z ++ flat E olds))[i]? = (flat E olds)[i - pre.length * E.k - E.k]? := fun z => by
       rw [List.getElem?_append_right (by omega), lp, List.getElem?_append_right (by rw [lz]; omega), lz]
     rw [if_neg (by omega), key, key]
theorem fill_rows : ∀ (ys pre olds : List α) (n : Nat), pre.length = n → olds.length = ys.length →
   Instr.fill (fun i => some (i * E.k, E.k)) (flat E (pre ++ olds)).toArray ((ys.zipIdx n).map fun (x : α × Nat) => (x.2, .agg (E.enc x.1).toArray)) = some (flat E (pre ++ ys)).toArray
 | [], pre, olds, n, _, ho => by
   have : olds = [] := List.eq_nil_of_length_eq_zero (by simpa using ho)
   subst this
   rfl
 | y :: ys, pre, [], n, _, ho => by simp at ho
 | y :: ys, pre, o :: olds, n, hn, ho => by
   have ih := fill_rows ys (pre ++ [y]) olds (n + 1) (by simp [hn]) (by simpa using ho)
   rw [List.append_assoc, List.append_assoc, List.singleton_append, List.singleton_append] at ih
   rw [List.zipIdx_cons, List.map_cons]
   have hl : (flat E (pre ++ o :: olds)).length = n * E.k + (E.k + olds.length * E.k) := by
     rw [flat_length, List.length_append, List.length_cons, hn, Nat.add_mul, Nat.add_mul, Nat.one_mul]
     omega
   have hc : ¬ ((decide ((Value.agg (E.enc y).toArray).cells.size ≠ E.k) || decide (n * E.k + (Value.agg (E.enc y).toArray).cells.size > (flat E (pre ++ o :: olds)).toArray.size)) = true) := by
     simp only [Value.cells, List.size_toArray, hl, E.len]
     simp
   have e := put_cells E pre olds o y (n * E.k) (by rw [hn])
   show (if ((decide ((Value.agg (E.enc y).toArray).cells.size ≠ E.k) || decide (n * E.k + (Value.agg (E.enc y).toArray).cells.size > (flat E (pre ++ o :: olds)).toArray.size)) = true) then none else Instr.fill (fun i => some (i * E.k, E.k)) ((E.enc y).toArray.zipIdx.foldl (fun c (x : Value × Nat) => c.setIfInBounds (n * E.k + x.2) x.1) (flat E (pre ++ o :: olds)).toArray) ((ys.zipIdx (n + 1)).map fun (x : α × Nat) => (x.2, .agg (E.enc x.1).toArray))) = _
   rw [if_neg hc, e]
   exact ih
theorem zeros (z : α) (n : Nat) : (Array.range (n * E.k)).map (fun i => ((E.enc z).toArray)[i % (E.enc z).toArray.size]!) = (flat E (List.replicate n z)).toArray := by
 apply Array.ext_getElem?
 intro i
 have er : (flat E (List.replicate n z)).toArray[i]? = (flat E (List.replicate n z))[i]? := List.getElem?_toArray
 rw [er]
 by_cases hi : i < n * E.k
 · have hm : i % E.k < E.k := Nat.mod_lt _ E.pos
   have hd : i / E.k < n := Nat.div_lt_of_lt_mul (by rw [Nat.mul_comm]; exact hi)
   obtain ⟨u, hv⟩ : ∃ u, (E.enc z)[i % E.k]? = some u := ⟨_, List.getElem?_eq_getElem (by rw [E.len]; exact hm)⟩
   have f := flat_at E (List.replicate n z) (i / E.k) (i % E.k) z _ (by rw [List.getElem?_replicate, if_pos hd]) hv
   rw [Nat.div_add_mod'] at f
   rw [f, Array.getElem?_map, Array.getElem?_range, if_pos hi, Option.map_some, List.size_toArray, E.len]
   congr 1
   rw [Array.getElem!_eq_getD, Array.getD_eq_getD_getElem?, List.getElem?_toArray, hv]
   rfl
 · rw [Array.getElem?_eq_none (by simp; omega), List.getElem?_eq_none (by rw [flat_length]; simp; omega)]
theorem zero_v (w : World) : (zeroValue E.T).run Tryz.prog w = .ok (.agg (E.enc E.zero).toArray) w := by
 obtain ⟨i, hi, z0, z1, _⟩ := info_parts E.info
 simp [zeroValue, typeInfo, hi, z0]
theorem size_v (w : World) : (sizeOf E.T).run Tryz.prog w = .ok E.k w := by
 obtain ⟨i, hi, z0, z1, _⟩ := info_parts E.info
 simp [sizeOf, typeInfo, hi, z1]
theorem run_build (w : World) (ys : List α) (h0 : 0 < ys.length) (h1 : ys.length ≤ 100) (hk : E.k ≤ 100) :
   (Instr.buildSlice E.S ys.length (ys.zipIdx.map fun (x : α × Nat) => (x.2, .agg (E.enc x.1).toArray)).toArray).run Tryz.prog w = .ok (.slice (some ⟨w.heap.size, 0, none⟩) ys.length ys.length) (w.alloc (.cells (flat E ys).toArray E.T)) := by
 have n0 : ys.length * E.k ≤ 100 * 100 := Nat.mul_le_mul h1 hk
 have n1 : ¬ ys.length * E.k > 2 ^ 24 := by omega
 have n2 : ¬ ys.length * E.k = 0 := by
   have := Nat.mul_pos h0 E.pos
   omega
 have f := fill_rows E ys [] (List.replicate ys.length E.zero) 0 rfl (by simp)
 rw [List.nil_append, List.nil_append] at f
 have zr := zeros E E.zero ys.length
 have zv := zero_v E
 have sv := size_v E
 unfold Instr.buildSlice
 simp only [Sem.run_bind, run_underlying E.slice, Result.andThen_ok, sv, n1, n2, if_false, Sem.run_pure, zv, Value.cells, zr, f, newRow]
 rfl
theorem run_build1 (w : World) (y : α) (hk : E.k ≤ 100) : (Instr.buildSlice E.S 1 #[(0, .agg (E.enc y).toArray)]).run Tryz.prog w = .ok (.slice (some ⟨w.heap.size, 0, none⟩) 1 1) (w.alloc (.cells (E.enc y).toArray E.T)) := by
 have := run_build E w [y] (by simp) (by simp) hk
 rw [flat_one] at this
 exact this
theorem wpList_build1 {w : World} {ops : Array Oper} {rest : List Oper} {o : Oper} {a : Act} {Q : Exit → Act → World → Prop} (hk : E.k ≤ 100) (hgd : o.guard = none) (x : Operand) (ho : o.op = .buildSlice E.S 1 #[(0, x)])
   (y : α) (hx : a.eval x = .agg (E.enc y).toArray) (h : wpList Tryz.prog ops Q rest (a.put o.dst (.slice (some ⟨w.heap.size, 0, none⟩) 1 1)) (w.alloc (.cells (E.enc y).toArray E.T))) : wpList Tryz.prog ops Q (o :: rest) a w := by
 refine wpList_plain hgd fun K hK => ?_
 unfold Oper.wp execOp
 simp only [ho, List.map_toArray, List.map_cons, List.map_nil, hx, Sem.run_bind, run_build1 E _ _ hk, Result.andThen_ok, Sem.run_pure]
 exact hK _ _ h
theorem wpList_lit1 {w : World} {ops : Array Oper} {rest : List Oper} {o : Oper} {a : Act} {Q : Exit → Act → World → Prop} (hk : E.k ≤ 100) (hgd : o.guard = none) (x : Operand) (ho : o.op = .buildSlice E.S 1 #[(0, x)])
   (y : α) (hx : a.eval x = .agg (E.enc y).toArray) (h : ∀ w1, SlR E w1 (some ⟨w.heap.size, 0, none⟩) 1 [y] → Below w.heap.size w w1 → wpList Tryz.prog ops Q rest (a.put o.dst (.slice (some ⟨w.heap.size, 0, none⟩) 1 1)) w1) : wpList Tryz.prog ops Q (o :: rest) a w :=
 wpList_build1 E hk hgd x ho y hx (h _ (SlR.new1 E w y _) ((Below.refl _ _).alloc (Nat.le_refl _) _))
theorem unguard {P : Program} {ops : Array Oper} {rest : List Oper} {o : Oper} {a : Act} {w : World} {Q : Exit → Act → World → Prop} (hw : Region.wanted o (yielded ops a.tmps) = true)
   (h : wpList P ops Q ({ o with guard := none } :: rest) a w) : wpList P ops Q (o :: rest) a w := by
 unfold wpList at h ⊢
 rw [if_pos hw]
 rw [if_pos (by simp [Region.wanted])] at h
 exact h
end Go.Proofs.YtgoapaanmcmlmaaGreatDoor.RowC
