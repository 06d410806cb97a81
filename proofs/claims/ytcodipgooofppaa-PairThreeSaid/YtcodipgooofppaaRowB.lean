/- One struct in a block of its own, whatever its fields: made, stored, read. No condition. -/
import Derived.Test.YtcodipgooofppaaRowS
import Derived.Maps.AppendAt
namespace Go.Proofs.Ytcodipgooofppaa.RowB
open Go Go.RowKit Byt RowS

variable {α : Type} {E : Enc α}
/-- Block g holds the struct x. -/
def Box (E : Enc α) (w : World) (g : Nat) (x : α) : Prop := ∃ t, w.heap[g]? = some (.cells (E.enc x).toArray t (0, 0))
theorem Box.lt {w : World} {g : Nat} {x : α} (h : Box E w g x) : g < w.heap.size := by
  obtain ⟨t, ht⟩ := h
  exact (Array.getElem?_eq_some_iff.1 ht).1
theorem Box.block {w w' : World} {g B : Nat} {x : α} (h : Box E w g x) (hb : Below B w w') (hg : g < B) : Box E w' g x := by
  obtain ⟨t, ht⟩ := h
  exact ⟨t, by rw [hb.block g hg, ht]⟩
theorem Box.below {w w' : World} {g : Nat} {x : α} (h : Box E w g x) (hb : Below w.heap.size w w') : Box E w' g x := h.block hb h.lt
theorem Box.new (w : World) (x : α) (t : TypeId) : Box E (w.alloc (.cells (E.enc x).toArray t)) w.heap.size x := ⟨t, heap_alloc_new w _⟩
theorem Box.alloc {w : World} {g : Nat} {x : α} (h : Box E w g x) (o : Obj) : Box E (w.alloc o) g x := h.below ((Below.refl _ _).alloc (Nat.le_refl _) _)
theorem Box.kept {w w' : World} {g r : Nat} {x : α} (h : Box E w g x) (hg : w.grownBy w' (some r)) (hne : g ≠ r) : Box E w' g x := by
  obtain ⟨t, ht⟩ := h
  exact ⟨t, by rw [hg.block g (Array.getElem?_eq_some_iff.1 ht).1 (fun e => hne (Option.some.inj e)), ht]⟩
theorem Box.range {w : World} {g : Nat} {x : α} (h : Box E w g x) : w.rangeAt g 0 (E.enc x) := fun j v hv => by
  obtain ⟨t, ht⟩ := h
  rw [Nat.zero_add, cell_of_row w g j _ t (0, 0) ht, List.getElem?_toArray]
  exact hv
theorem Box.cell {w : World} {g : Nat} {x : α} (h : Box E w g x) {j : Nat} {v : Value} (hv : (E.enc x)[j]? = some v) : w.cell? ⟨g, j, none⟩ = some v := by
  have := h.range j v hv
  rwa [Nat.zero_add] at this
/-- A struct lies at a place. -/
def Lies (E : Enc α) (w : World) (g off : Nat) (x : α) : Prop := w.rangeAt g off (E.enc x)
theorem Lies.below {w w' : World} {g off : Nat} {x : α} (h : Lies E w g off x) (hb : Below w.heap.size w w') : Lies E w' g off x := range_below h hb
theorem Lies.range {w : World} {g off : Nat} {x : α} (h : Lies E w g off x) : w.rangeAt g off (E.enc x) := h
/-- A struct loaded whole out of its block. -/
theorem wpList_load_box {ops : Array Oper} {rest : List Oper} {o : Oper} {a : Act} {w : World} {Q : Exit → Act → World → Prop} (E : Enc α) (hgd : o.guard = none) (x : Operand) (ho : o.op = .load E.T x)
    (g : Nat) (hx : a.eval x = .pointer (some ⟨g, 0, none⟩)) (y : α) (hb : Box E w g y) (h : wpList Try.prog ops Q rest (a.put o.dst (.agg (E.enc y).toArray)) w) : wpList Try.prog ops Q (o :: rest) a w :=
  wpList_load_at E hgd x ho g 0 hx y hb.range h
theorem below_set {B g : Nat} (w : World) (hBg : B ≤ g) (cs : Array Value) : Below B w (w.setRow g cs) :=
  ⟨rfl, rfl, rfl, by simp [World.setRow], fun k hk => by simp only [World.setRow]; rw [Array.getElem?_modify, if_neg (by omega)]⟩
/-- A struct stored whole into a block that was just made: the world behind it under a name of its own. -/
theorem wpList_store_new {ops : Array Oper} {rest : List Oper} {o : Oper} {a : Act} {w : World} {Q : Exit → Act → World → Prop} (E : Enc α) (hgd : o.guard = none) (x y : Operand) (ho : o.op = .store E.T x y)
    (w0 : World) (old : Array Value) (t : TypeId) (hw : w = w0.alloc (.cells old t)) (z : α) (g : Nat) (hx : a.eval x = .pointer (some ⟨g, 0, none⟩)) (hg : g = w0.heap.size) (hy : a.eval y = .agg (E.enc z).toArray) (hs : old.size = E.k)
    (h : ∀ w1, Box E w1 w0.heap.size z → Below w0.heap.size w0 w1 → w0.grownBy w1 none → w1.heap.size = w0.heap.size + 1 → wpList Try.prog ops Q rest (a.put o.dst undef) w1) : wpList Try.prog ops Q (o :: rest) a w := by
  subst hw
  subst hg
  refine wpList_store_row hgd E.T x y ho w0.heap.size (E.enc z).toArray hx hy t old (heap_alloc_new w0 _) (E.size' z) (by simp [E.len, hs]) (E.all z) ?_
  rw [World.setRow_alloc_new]
  exact h _ (Box.new w0 z t) ((Below.refl _ _).alloc (Nat.le_refl _) _) (World.grownBy_alloc w0 _ none) (by simp)
/-- A struct stored whole where one lies. -/
theorem wpList_store_box {ops : Array Oper} {rest : List Oper} {o : Oper} {a : Act} {w : World} {Q : Exit → Act → World → Prop} (E : Enc α) (hgd : o.guard = none) (x y : Operand) (ho : o.op = .store E.T x y)
    (g : Nat) (hx : a.eval x = .pointer (some ⟨g, 0, none⟩)) (old : α) (hb : Box E w g old) (z : α) (hy : a.eval y = .agg (E.enc z).toArray)
    (h : ∀ w1, Box E w1 g z → (∀ B, B ≤ g → Below B w w1) → w.grownBy w1 (some g) → w1.heap.size = w.heap.size → wpList Try.prog ops Q rest (a.put o.dst undef) w1) : wpList Try.prog ops Q (o :: rest) a w := by
  obtain ⟨t, ht⟩ := hb
  refine wpList_store_row hgd E.T x y ho g (E.enc z).toArray hx hy t (E.enc old).toArray ht (E.size' z) (by simp [E.len]) (E.all z) ?_
  refine h _ ⟨t, setRow_heap w g _ _ t (0, 0) ht⟩ (fun B hB => below_set w hB _) ⟨rfl, rfl, rfl, by simp [World.setRow], fun j _ hj => ?_⟩ (by simp [World.setRow])
  simp only [World.setRow]
  rw [Array.getElem?_modify, if_neg (fun e => hj (by rw [e]))]
/-- A range lies in another block than a map that grows. -/
theorem range_kept {w w' : World} {g r o : Nat} {cs : List Value} (h : w.rangeAt g o cs) (hg : w.grownBy w' (some r)) (hlt : g < w.heap.size) (hne : g ≠ r) : w'.rangeAt g o cs := fun j v hv => by
  have := h j v hv
  unfold World.cell? at this ⊢
  rw [hg.block g hlt (fun e => hne (Option.some.inj e))]
  exact this
theorem map_not_cells {w : World} {g r o : Nat} {es : Array MapEntry} {clock : Nat} {c : Value} {cs : List Value} (hm : w.heap[r]? = some (.map es clock)) (h : w.rangeAt g o (c :: cs)) : g ≠ r := by
  rintro rfl
  have := h 0 c rfl
  unfold World.cell? at this
  simp [hm] at this
/-- 'append' of a slice of structs: the row stays in its block, or goes into a new one. -/
theorem wpList_append_at {w : World} {ops : Array Oper} {rest : List Oper} {o : Oper} {a : Act} {Q : Exit → Act → World → Prop} (E : Enc α) (hgd : o.guard = none) (s x : Operand)
    (ho : o.op = .call { callee := .builtin .append, args := #[s, x], argTypes := #[E.S, E.S] })
    (base : Nat) (v : Value) (n : Nat) (xs : List α) (hs : a.eval s = v) (hown : w.ownsRow base E.T E.k v n (flat E xs))
    (g : Nat) (y : α) (hx : a.eval x = .slice (some ⟨g, 0, none⟩) 1 1) (hr : Box E w g y)
    (h63 : n ≤ 100000000) (hbase : base ≤ w.heap.size)
    (h : ∀ v' w', w'.ownsRow base E.T E.k v' (n + 1) (flat E (xs ++ [y])) → w.grownBy w' v.ownBlock → (v'.ownBlock = v.ownBlock ∨ v'.ownBlock = some w.heap.size) → wpList Try.prog ops Q rest (a.put o.dst v') w') : wpList Try.prog ops Q (o :: rest) a w := by
  obtain ⟨i, hi, z0, z1, z2⟩ := info_parts E.info
  have hb : (n + 1) * E.bytes ≤ 140737488355328 := by
    have h3 : (n + 1) * E.bytes ≤ 100000001 * 100 := Nat.mul_le_mul (by omega) E.small
    omega
  refine wpList_append_own_at w hgd s x E.S ho base E.T i (.agg (E.enc E.zero).toArray) E.k E.bytes E.slice hi z0 z1 z2 (by simp [Value.cells, E.len]) E.pos v n (flat E xs) hs hown ⟨g, 0, none⟩ 1 1 (E.enc y) hx (by rw [E.len, Nat.one_mul]) (fun j u hu => ?_) (fun u hu => E.one y u hu) (by unfold maxLen; omega) hb hbase
    (fun v' w' a1 a2 _ a4 => h v' w' (by rw [flat_append, flat_one]; exact a1) a2 a4)
  rw [Addr.add_lit, Nat.zero_add]
  exact hr.cell hu
/-- 'append' of one struct that was just laid in a block of its own. -/
theorem wpList_append_new {w : World} {ops : Array Oper} {rest : List Oper} {o : Oper} {a : Act} {Q : Exit → Act → World → Prop} (E : Enc α) (hgd : o.guard = none) (s x : Operand)
    (ho : o.op = .call { callee := .builtin .append, args := #[s, x], argTypes := #[E.S, E.S] })
    (base : Nat) (v : Value) (n : Nat) (xs : List α) (hs : a.eval s = v) (wq : World) (y : α) (t : TypeId) (hw : w = wq.alloc (.cells (E.enc y).toArray t)) (hx : a.eval x = .slice (some ⟨wq.heap.size, 0, none⟩) 1 1)
    (hown : wq.ownsRow base E.T E.k v n (flat E xs)) (h63 : n ≤ 100000000) (hbase : base ≤ wq.heap.size)
    (h : ∀ v' w', w'.ownsRow base E.T E.k v' (n + 1) (flat E (xs ++ [y])) → Below base wq w' → wpList Try.prog ops Q rest (a.put o.dst v') w') : wpList Try.prog ops Q (o :: rest) a w := by
  subst hw
  refine wpList_append_at E hgd s x ho base v n xs hs (hown.alloc _) wq.heap.size y hx (Box.new wq y t) h63 (by simp; omega) (fun v' w' a1 a2 _ => h v' w' a1 ?_)
  exact below_grown ((Below.refl _ _).alloc hbase _) (by simp; omega) a2 (fun q hq => (hown.lt q hq).1)
end Go.Proofs.Ytcodipgooofppaa.RowB
