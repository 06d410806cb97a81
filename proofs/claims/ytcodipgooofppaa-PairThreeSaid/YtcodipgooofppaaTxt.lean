/- Lists of texts in memory: slices that a walk reads and appends to. No condition. -/
import Derived.Test.YtcodipgooofppaaBytB
import Derived.Laws.Tables
namespace Go.Proofs.Ytcodipgooofppaa.Txt
open Go Go.RowKit Byt

/-- Texts as cells. -/
def ts (l : List ByteArray) : List Value := l.map Value.string
theorem ts_len (l : List ByteArray) : (ts l).length = l.length := by simp [ts]
theorem ts_append (a b : List ByteArray) : ts (a ++ b) = ts a ++ ts b := by simp [ts]
theorem ts_at {l : List ByteArray} {i : Nat} {x : ByteArray} (h : l[i]? = some x) : (ts l)[i]? = some (.string x) := by simp [ts, h]
theorem zero_str : (Try.prog.info? 9).map (fun i => (i.zero, i.size, i.bytes)) = some (some (.string ⟨#[]⟩), 1, 16) := by kernel_rfl
/-- The slice with address A, as long as l, and with room for cap, has these texts. -/
def SlT (w : World) (A : Option Addr) (cap : Nat) (l : List ByteArray) : Prop :=
  l.length ≤ cap ∧ cap ≤ maxLen ∧ ((A = none ∧ l = [] ∧ cap = 0) ∨ ∃ x, A = some x ∧ ∀ i v, (ts l)[i]? = some v → w.cell? (x.add i) = some v)
theorem SlT.nil (w : World) : SlT w none 0 [] := ⟨Nat.le_refl _, Nat.zero_le _, .inl ⟨rfl, rfl, rfl⟩⟩
theorem SlT.below {w w' : World} {A : Option Addr} {cap : Nat} {l : List ByteArray} (h : SlT w A cap l) (hb : Below w.heap.size w w') : SlT w' A cap l := by
  obtain ⟨h1, h2, h5⟩ := h
  refine ⟨h1, h2, ?_⟩
  rcases h5 with h5 | ⟨x, rfl, hc⟩
  · exact .inl h5
  · refine .inr ⟨x, rfl, fun i v hv => ?_⟩
    have hcell := hc i v hv
    exact (hb.cell (block_lt_of_cell hcell)).trans hcell
theorem SlT.plain {w : World} {A : Option Addr} {cap : Nat} {l : List ByteArray} (h : SlT w A cap l) (hp : 0 < l.length) :
    ∃ b off, A = some ⟨b, off, none⟩ ∧ b < w.heap.size ∧ ∀ i x, l[i]? = some x → w.cell? ⟨b, off + i, none⟩ = some (.string x) := by
  obtain ⟨h1, h2, h5⟩ := h
  rcases h5 with ⟨_, rfl, _⟩ | ⟨x, rfl, hc⟩
  · simp at hp
  · have hx : l[0]? = some l[0] := List.getElem?_eq_getElem hp
    have h0 := hc _ _ (ts_at hx)
    obtain ⟨b, off, spot⟩ := x
    have hspot : spot = none := by simpa [Addr.add] using World.cell?_spot h0
    subst hspot
    have hb := block_lt_of_cell h0
    rw [RowIn.block_add] at hb
    refine ⟨b, off, rfl, hb, fun i x hi => ?_⟩
    have := hc _ _ (ts_at hi)
    rwa [Addr.add_lit] at this
theorem SlT.own {w : World} {base n : Nat} {v : Value} {l : List ByteArray} (h : w.ownsRow base 9 1 v n (ts l)) : ∃ A cap, v = .slice A l.length cap ∧ SlT w A cap l := by
  have hn : l.length = n := by
    have := h.1
    rwa [ts_len, Nat.mul_one] at this
  rcases h.2 with ⟨rfl, rfl⟩ | ⟨g, cap, cur, rfl, hbg, hg, h1, h2, h3, h4⟩
  · have : l = [] := List.eq_nil_of_length_eq_zero hn
    subst this
    exact ⟨none, 0, rfl, SlT.nil w⟩
  · exact ⟨some ⟨g, 0, none⟩, cap, by rw [hn], by omega, h2, .inr ⟨_, rfl, fun i u hu => h.cells rfl i u hu⟩⟩
theorem cell_below {w w' : World} {b o : Nat} {v : Value} (h : w.cell? ⟨b, o, none⟩ = some v) (hb : Below w.heap.size w w') : w'.cell? ⟨b, o, none⟩ = some v := (hb.cell (block_lt_of_cell h)).trans h
/-- A cell of a row of texts of the call's own. -/
theorem own_cell {w : World} {base n g cap : Nat} {l : List ByteArray} (h : w.ownsRow base 9 1 (.slice (some ⟨g, 0, none⟩) n cap) n (ts l)) {i : Nat} {x : ByteArray} (hx : l[i]? = some x) : w.cell? ⟨g, i, none⟩ = some (.string x) := by
  have := h.cells rfl _ _ (ts_at hx)
  rwa [Addr.add_lit, Nat.zero_add] at this
theorem own_some {w : World} {base n : Nat} {v : Value} {l : List ByteArray} {x : ByteArray} (h : w.ownsRow base 9 1 v n (ts (l ++ [x]))) : ∃ q cap, v = .slice (some ⟨q, 0, none⟩) n cap := by
  rcases h.2 with ⟨_, e⟩ | ⟨g, cap, cur, rfl, _⟩
  · have e2 := h.1
    rw [ts_len, e, List.length_append] at e2
    simp at e2
  · exact ⟨g, cap, rfl⟩
/-- A new slice has these texts, and all that was there is as it was. -/
def NewT (l : List ByteArray) (w : World) (e : Ending) (w' : World) : Prop := ∃ A cap, e = .returned (.slice A l.length cap) ∧ SlT w' A cap l ∧ Below w.heap.size w w'
theorem new1 (w : World) (x : ByteArray) (t : TypeId) : ∀ j u, (ts [x])[j]? = some u → (w.alloc (.cells #[.string x] t)).cell? ((⟨w.heap.size, 0, none⟩ : Addr).add j) = some u := by
  intro j u hu
  cases j with
  | zero =>
    simp only [ts, List.map_cons, List.map_nil, List.getElem?_cons_zero, Option.some.injEq] at hu
    subst hu
    rw [Addr.add_lit, Nat.zero_add, cell_of_row _ _ 0 _ t (0, 0) (heap_alloc_new w _)]
    rfl
  | succ j => simp [ts] at hu
/-- 'append' of one text that was just laid in a block of its own. -/
theorem wpList_append_new {w : World} {ops : Array Oper} {rest : List Oper} {o : Oper} {a : Act} {Q : Exit → Act → World → Prop} (hgd : o.guard = none) (s x : Operand)
    (ho : o.op = .call { callee := .builtin .append, args := #[s, x], argTypes := #[34, 34] })
    (base : Nat) (v : Value) (n : Nat) (xs : List ByteArray) (hs : a.eval s = v) (wq : World) (y : ByteArray) (t : TypeId) (hw : w = wq.alloc (.cells #[.string y] t)) (hx : a.eval x = .slice (some ⟨wq.heap.size, 0, none⟩) 1 1)
    (hown : wq.ownsRow base 9 1 v n (ts xs)) (h63 : n ≤ 100000000) (hbase : base ≤ wq.heap.size)
    (h : ∀ v' w', w'.ownsRow base 9 1 v' (n + 1) (ts (xs ++ [y])) → Below base wq w' → wpList Try.prog ops Q rest (a.put o.dst v') w') : wpList Try.prog ops Q (o :: rest) a w := by
  subst hw
  obtain ⟨i, hi, z0, z1, z2⟩ := info_parts zero_str
  exact wpList_append_own (wq.alloc (.cells #[.string y] t)) hgd s x 34 ho base 9 i (.string ⟨#[]⟩) 1 16 Try.underlying34 hi z0 z1 z2 rfl (by decide) v n (ts xs) hs (hown.alloc _) ⟨wq.heap.size, 0, none⟩ 1 1 (ts [y]) hx (by simp [ts]) (new1 wq y t) (by intro u hu; simp [ts] at hu; subst hu; rfl) (by unfold maxLen; omega) (by omega) (by simp; omega)
    (fun v' w' a1 a2 _ => h v' w' (by rw [ts_append]; exact a1) (below_grown ((Below.refl _ _).alloc hbase _) (by simp; omega) a2 (fun q hq => (hown.lt q hq).1)))
end Go.Proofs.Ytcodipgooofppaa.Txt
