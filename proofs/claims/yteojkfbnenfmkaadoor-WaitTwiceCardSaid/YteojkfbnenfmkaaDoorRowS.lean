/- Lists of structs in memory, whatever their fields: slices that a walk reads, cuts and appends to. No condition. -/
import Derived.Test.YteojkfbnenfmkaaDoorRowInJ3
import Derived.Deep.MidRow
import Derived.Deep.WholeRow
import Derived.Laws.Tables
import Derived.OpenShut
namespace Go.Proofs.YteojkfbnenfmkaaDoor.RowS
set_option maxRecDepth 100000
open Go Go.RowKit Byt

/-- How a struct lies in memory: its type, its slices' type, and the cells of each value. -/
structure Enc (α : Type) where
  T : TypeId
  S : TypeId
  k : Nat
  bytes : Nat
  d : TypeDesc
  enc : α → List Value
  zero : α
  len : ∀ x, (enc x).length = k
  one : ∀ x, ∀ v ∈ enc x, v.oneCell' = true
  pos : 0 < k
  small : bytes ≤ 100
  info : (Tryd.prog.info? T).map (fun i => (i.zero, i.size, i.bytes)) = some (some (.agg (enc zero).toArray), k, bytes)
  slice : Tryd.prog.underlying S = some (.slice T)
  under : Tryd.prog.underlying T = some d
  row : d.isRow = true

variable {α : Type} (E : Enc α)
theorem Enc.size (x : α) : (Tryd.prog.info? E.T).map (·.size) = some (E.enc x).length := by
  have h := E.info
  cases hq : Tryd.prog.info? E.T with
  | none => rw [hq] at h; cases h
  | some i =>
    rw [hq] at h
    simp only [Option.map_some, Option.some.injEq, Prod.mk.injEq] at h
    simp [h.2.1, E.len]
theorem Enc.elem : Tryd.prog.elem E.S = E.T := by simp [Program.elem, E.slice]
theorem Enc.all (x : α) : (E.enc x).toArray.all (·.oneCell') = true := Array.all_eq_true_iff_forall_mem.2 (fun v hv => E.one x v (by simpa using hv))

/-- The cells of a list. -/
def flat (l : List α) : List Value := l.flatMap E.enc
theorem flat_cons (x : α) (l : List α) : flat E (x :: l) = E.enc x ++ flat E l := rfl
theorem flat_append (a b : List α) : flat E (a ++ b) = flat E a ++ flat E b := by simp [flat]
theorem flat_one (x : α) : flat E [x] = E.enc x := by simp [flat]
theorem flat_length : ∀ l : List α, (flat E l).length = l.length * E.k
  | [] => by simp [flat]
  | x :: l => by rw [flat_cons, List.length_append, E.len, flat_length l, List.length_cons, Nat.add_mul, Nat.one_mul, Nat.add_comm]
theorem flat_ones (l : List α) : ∀ v ∈ flat E l, v.oneCell' = true := by
  intro v hv
  simp only [flat, List.mem_flatMap] at hv
  obtain ⟨x, _, hx⟩ := hv
  exact E.one x v hx
theorem flat_at : ∀ (l : List α) (i j : Nat) (x : α) (v : Value), l[i]? = some x → (E.enc x)[j]? = some v → (flat E l)[i * E.k + j]? = some v
  | [], i, _, _, _, h, _ => by simp at h
  | y :: l, 0, j, x, v, h, hv => by
    obtain rfl : y = x := by simpa using h
    have hj := (List.getElem?_eq_some_iff.1 hv).1
    rw [flat_cons, Nat.zero_mul, Nat.zero_add, List.getElem?_append_left hj, hv]
  | y :: l, i + 1, j, x, v, h, hv => by
    rw [flat_cons, List.getElem?_append_right (by rw [E.len, Nat.add_mul]; omega), E.len, show (i + 1) * E.k + j - E.k = i * E.k + j by rw [Nat.add_mul]; omega]
    exact flat_at l i j x v (by simpa using h) hv

/-- The slice with address A, as long as l, and with room for cap, has the values l. -/
def SlR (w : World) (A : Option Addr) (cap : Nat) (l : List α) : Prop :=
  l.length ≤ cap ∧ cap ≤ maxLen ∧ ((A = none ∧ l = [] ∧ cap = 0) ∨ ∃ x, A = some x ∧ ∀ i v, (flat E l)[i]? = some v → w.cell? (x.add i) = some v)
theorem SlR.nil (w : World) : SlR E w none 0 [] := ⟨Nat.le_refl _, Nat.zero_le _, .inl ⟨rfl, rfl, rfl⟩⟩
variable {E}
theorem SlR.below {w w' : World} {A : Option Addr} {cap : Nat} {l : List α} (h : SlR E w A cap l) (hb : Below w.heap.size w w') : SlR E w' A cap l := by
  obtain ⟨h1, h2, h5⟩ := h
  refine ⟨h1, h2, ?_⟩
  rcases h5 with h5 | ⟨x, rfl, hc⟩
  · exact .inl h5
  · refine .inr ⟨x, rfl, fun i v hv => ?_⟩
    have hcell := hc i v hv
    exact (hb.cell (block_lt_of_cell hcell)).trans hcell
/-- Where there is an element, the slice lies at a plain address. -/
theorem SlR.plain {w : World} {A : Option Addr} {cap : Nat} {l : List α} (h : SlR E w A cap l) (hp : 0 < l.length) :
    ∃ b off, A = some ⟨b, off, none⟩ ∧ b < w.heap.size ∧ ∀ i x, l[i]? = some x → w.rangeAt b (off + i * E.k) (E.enc x) := by
  obtain ⟨h1, h2, h5⟩ := h
  rcases h5 with ⟨_, rfl, _⟩ | ⟨x, rfl, hc⟩
  · simp at hp
  · have hx : l[0]? = some l[0] := List.getElem?_eq_getElem hp
    have hk : (E.enc l[0])[0]? = some ((E.enc l[0])[0]'(by rw [E.len]; exact E.pos)) := List.getElem?_eq_getElem _
    have h0 := hc _ _ (flat_at E l 0 0 _ _ hx hk)
    rw [Nat.zero_mul, Nat.zero_add] at h0
    obtain ⟨b, off, spot⟩ := x
    have hspot : spot = none := by simpa [Addr.add] using World.cell?_spot h0
    subst hspot
    have hb := block_lt_of_cell h0
    rw [RowIn.block_add] at hb
    refine ⟨b, off, rfl, hb, fun i x hi j v hv => ?_⟩
    have := hc _ _ (flat_at E l i j x v hi hv)
    rw [Addr.add_lit] at this
    rw [Nat.add_assoc]
    exact this
theorem range_below {w w' : World} {b o : Nat} {cs : List Value} (h : w.rangeAt b o cs) (hb : Below w.heap.size w w') : w'.rangeAt b o cs := fun j v hv => by
  have hc := h j v hv
  exact (hb.cell (block_lt_of_cell hc)).trans hc
theorem SlR.own {w : World} {base n : Nat} {v : Value} {l : List α} (h : w.ownsRow base E.T E.k v n (flat E l)) : ∃ A cap, v = .slice A l.length cap ∧ SlR E w A cap l := by
  have hn : l.length = n := by
    have := h.1
    rw [flat_length] at this
    exact Nat.eq_of_mul_eq_mul_right E.pos this
  rcases h.2 with ⟨rfl, rfl⟩ | ⟨g, cap, cur, rfl, hbg, hg, h1, h2, h3, h4⟩
  · have : l = [] := List.eq_nil_of_length_eq_zero hn
    subst this
    exact ⟨none, 0, rfl, SlR.nil E w⟩
  · refine ⟨some ⟨g, 0, none⟩, cap, by rw [hn], by omega, h2, .inr ⟨_, rfl, fun i u hu => ?_⟩⟩
    exact h.cells rfl i u hu
/-- A part of a slice. -/
theorem SlR.part {w : World} {A : Option Addr} {cap : Nat} {l : List α} (h : SlR E w A cap l) (i j : Nat) (hij : i ≤ j) (hj : j ≤ l.length) :
    ∃ A' cap', sliced A i j cap E.k = .slice A' (j - i) cap' ∧ SlR E w A' cap' ((l.drop i).take (j - i)) ∧ ((l.drop i).take (j - i)).length = j - i := by
  obtain ⟨h1, h2, h5⟩ := h
  have hl : ((l.drop i).take (j - i)).length = j - i := by simp; omega
  rcases h5 with ⟨rfl, rfl, rfl⟩ | ⟨x, rfl, hc⟩
  · simp at hj
    obtain rfl : j = 0 := hj
    obtain rfl : i = 0 := by omega
    exact ⟨none, 0, by simp [sliced], by simpa using SlR.nil E w, hl⟩
  · by_cases hci : cap = i
    · refine ⟨some x, cap - i, by simp [sliced, hci], ⟨by rw [hl]; omega, by omega, .inr ⟨x, rfl, fun m v hv => ?_⟩⟩, hl⟩
      have := (List.getElem?_eq_some_iff.1 hv).1
      rw [flat_length, hl, show j - i = 0 by omega, Nat.zero_mul] at this
      omega
    · refine ⟨some (x.add (i * E.k)), cap - i, by simp [sliced, hci], ⟨by rw [hl]; omega, by omega, .inr ⟨_, rfl, fun m v hv => ?_⟩⟩, hl⟩
      rw [Addr.add_add]
      apply hc
      have hm := (List.getElem?_eq_some_iff.1 hv).1
      rw [flat_length, hl] at hm
      have hd : flat E l = flat E (l.take i) ++ (flat E ((l.drop i).take (j - i)) ++ flat E ((l.drop i).drop (j - i))) := by
        rw [← flat_append, ← flat_append, List.take_append_drop, List.take_append_drop]
      have ht : (flat E (l.take i)).length = i * E.k := by rw [flat_length, List.length_take, Nat.min_eq_left (by omega)]
      rw [hd, List.getElem?_append_right (by rw [ht]; omega), ht, Nat.add_sub_cancel_left, List.getElem?_append_left (by rw [flat_length, hl]; exact hm)]
      exact hv
/-- A load of one struct out of a slice. -/
theorem wpList_load_at {ops : Array Oper} {rest : List Oper} {o : Oper} {a : Act} {w : World} {Q : Exit → Act → World → Prop} (E : Enc α) (hgd : o.guard = none) (x : Operand) (ho : o.op = .load E.T x)
    (b off : Nat) (hx : a.eval x = .pointer (some ⟨b, off, none⟩)) (y : α) (hc : w.rangeAt b off (E.enc y)) (h : wpList Tryd.prog ops Q rest (a.put o.dst (.agg (E.enc y).toArray)) w) : wpList Tryd.prog ops Q (o :: rest) a w :=
  wpList_load_mid hgd E.T x ho b off hx (E.enc y) _ hc E.under E.row (E.size y) h
/-- 'append' of a slice of structs. -/
theorem wpList_append {w : World} {ops : Array Oper} {rest : List Oper} {o : Oper} {a : Act} {Q : Exit → Act → World → Prop} (E : Enc α) (hgd : o.guard = none) (s x : Operand)
    (ho : o.op = .call { callee := .builtin .append, args := #[s, x], argTypes := #[E.S, E.S] })
    (base : Nat) (v : Value) (n : Nat) (xs : List α) (hs : a.eval s = v) (hown : w.ownsRow base E.T E.k v n (flat E xs))
    (A : Option Addr) (m c : Nat) (l : List α) (hx : a.eval x = .slice A m c) (hm : l.length = m) (hr : SlR E w A c l)
    (h63 : n + m ≤ 1000000000) (hbase : base ≤ w.heap.size)
    (h : ∀ v' w', w'.ownsRow base E.T E.k v' (n + m) (flat E (xs ++ l)) → w.grownBy w' v.ownBlock → wpList Tryd.prog ops Q rest (a.put o.dst v') w') : wpList Tryd.prog ops Q (o :: rest) a w := by
  obtain ⟨i, hi, z0, z1, z2⟩ := info_parts E.info
  subst hm
  obtain ⟨h1, h2, h5⟩ := hr
  rcases h5 with ⟨rfl, rfl, rfl⟩ | ⟨ad, rfl, hc⟩
  · refine wpList_append_own_none hgd s x E.S ho base E.T i E.k E.slice hi v n (flat E xs) hs hown hx (h v w ?_ (grown_of_below (Below.refl _ _) _))
    simpa using hown
  · have hb : (n + l.length) * E.bytes ≤ 140737488355328 := by
      have h3 : (n + l.length) * E.bytes ≤ 1000000000 * 100 := Nat.mul_le_mul h63 E.small
      omega
    exact wpList_append_own w hgd s x E.S ho base E.T i (.agg (E.enc E.zero).toArray) E.k E.bytes E.slice hi z0 z1 z2 (by simp [Value.cells, E.len]) E.pos v n (flat E xs) hs hown ad l.length c (flat E l) hx (flat_length E l) (fun j u hu => hc j u hu) (flat_ones E l) (by unfold maxLen; omega) hb hbase (fun v' w' a1 a2 _ => h v' w' (by rw [flat_append]; exact a1) a2)
/-- A block known whole, as a slice. -/
theorem SlR.of_cells (E : Enc α) {w : World} {g : Nat} {l : List α} {t : TypeId} {fr : Nat × Nat} (h : w.heap[g]? = some (.cells (flat E l).toArray t fr)) (hl : l.length ≤ maxLen) : SlR E w (some ⟨g, 0, none⟩) l.length l := by
  refine ⟨Nat.le_refl _, hl, .inr ⟨_, rfl, fun i v hv => ?_⟩⟩
  rw [Addr.add_lit, Nat.zero_add, cell_of_row w g i _ t fr h, List.getElem?_toArray]
  exact hv
end Go.Proofs.YteojkfbnenfmkaaDoor.RowS
