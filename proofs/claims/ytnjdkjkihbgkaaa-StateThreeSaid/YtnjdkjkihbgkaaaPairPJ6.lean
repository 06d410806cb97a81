/- What the document's put of package pair returns: a contract. | What the document's Add and Del of package pair return: contracts. | Lists of texts in memory: slices that a walk reads and appends to. No condition. | What the document's Elems and Merge of package pair return: contracts. | How a reading gives pairs, and one pair, that came in. No condition. | What the laws on pairs ask of lists; two lists of texts compared. No condition. -/
import Derived.Test.YtnjdkjkihbgkaaaRegSJ5
import Derived.Test.YtnjdkjkihbgkaaaRegHJ2
import Derived.Test.YtnjdkjkihbgkaaaKeyMJ4
import Derived.Laws.Tables
import Derived.Test.YtnjdkjkihbgkaaaRowGJ3
import Derived.Test.YtnjdkjkihbgkaaaCtrPJ5
import Derived.Deep.Fields
namespace Go.Proofs.Ytnjdkjkihbgkaaa.PairP
set_option maxRecDepth 100000
open Go Go.RowKit Byt OpsM OpsK Rise PairM PairN RowS RowB PairW PairR PairS PairG

end Go.Proofs.Ytnjdkjkihbgkaaa.PairP
namespace Go.Proofs.Ytnjdkjkihbgkaaa.PairQ
set_option maxRecDepth 100000
open Go Go.RowKit Byt OpsM OpsK Rise PairM PairN RowS RowB PairW PairR PairS PairG PairP

theorem ret_val {a b : Value} (h : a = b) : Ending.returned a = .returned b := by rw [h]
theorem fits_one {p : Pr} (h : Fit p) : Fits [p] := fun x hx => by
  simp at hx
  rw [hx]
  exact h

theorem filter_take {l : List Pr} {q : Pr → Bool} {j : Nat} {x : Pr} (h : l[j]? = some x) : (l.take (j + 1)).filter q = (l.take j).filter q ++ (if q x = true then [x] else []) := by
  obtain ⟨hj, rfl⟩ := List.getElem?_eq_some_iff.1 h
  rw [List.take_succ_eq_append_getElem hj, List.filter_append]
  cases hq : q l[j] <;> simp [hq]
end Go.Proofs.Ytnjdkjkihbgkaaa.PairQ
namespace Go.Proofs.Ytnjdkjkihbgkaaa.Txt
set_option maxRecDepth 100000
open Go Go.RowKit Byt

/-- Texts as cells. -/
def ts (l : List ByteArray) : List Value := l.map Value.string
theorem ts_len (l : List ByteArray) : (ts l).length = l.length := by simp [ts]
theorem ts_append (a b : List ByteArray) : ts (a ++ b) = ts a ++ ts b := by simp [ts]
theorem ts_at {l : List ByteArray} {i : Nat} {x : ByteArray} (h : l[i]? = some x) : (ts l)[i]? = some (.string x) := by simp [ts, h]
theorem zero_str : (Try.prog.info? 9).map (fun i => (i.zero, i.size, i.bytes)) = some (some (.string ⟨#[]⟩), 1, 16) := by kernel_rfl
/-- The slice with address A, as long as l, and with room for cap, has these texts. -/
def SlT (w : World) (A : Option Addr) (cap : Nat) (l : List ByteArray) : Prop :=
  l.length ≤ cap ∧ cap ≤ maxLen ∧ ((A = none ∧ l = [] ∧ cap = 0) ∨ ∃ x, A = some x ∧ ∀ i v, (ts l)[i]? = some v → w.cell? (x.add i) = some v)
theorem SlT.nil (w : World) : SlT w none 0 [] := ⟨Nat.le_refl _, Nat.zero_le _, .inl ⟨rfl, rfl, rfl⟩⟩
theorem SlT.below {w w' : World} {A : Option Addr} {cap : Nat} {l : List ByteArray} (h : SlT w A cap l) (hb : Below w.heap.size w w') : SlT w' A cap l := by
  obtain ⟨h1, h2, h5⟩ := h
  refine ⟨h1, h2, ?_⟩
  rcases h5 with h5 | ⟨x, rfl, hc⟩
  · exact .inl h5
  · refine .inr ⟨x, rfl, fun i v hv => ?_⟩
    have hcell := hc i v hv
    exact (hb.cell (block_lt_of_cell hcell)).trans hcell
theorem SlT.plain {w : World} {A : Option Addr} {cap : Nat} {l : List ByteArray} (h : SlT w A cap l) (hp : 0 < l.length) :
    ∃ b off, A = some ⟨b, off, none⟩ ∧ b < w.heap.size ∧ ∀ i x, l[i]? = some x → w.cell? ⟨b, off + i, none⟩ = some (.string x) := by
  obtain ⟨h1, h2, h5⟩ := h
  rcases h5 with ⟨_, rfl, _⟩ | ⟨x, rfl, hc⟩
  · simp at hp
  · have hx : l[0]? = some l[0] := List.getElem?_eq_getElem hp
    have h0 := hc _ _ (ts_at hx)
    obtain ⟨b, off, spot⟩ := x
    have hspot : spot = none := by simpa [Addr.add] using World.cell?_spot h0
    subst hspot
    have hb := block_lt_of_cell h0
    rw [RowIn.block_add] at hb
    refine ⟨b, off, rfl, hb, fun i x hi => ?_⟩
    have := hc _ _ (ts_at hi)
    rwa [Addr.add_lit] at this
theorem SlT.own {w : World} {base n : Nat} {v : Value} {l : List ByteArray} (h : w.ownsRow base 9 1 v n (ts l)) : ∃ A cap, v = .slice A l.length cap ∧ SlT w A cap l := by
  have hn : l.length = n := by
    have := h.1
    rwa [ts_len, Nat.mul_one] at this
  rcases h.2 with ⟨rfl, rfl⟩ | ⟨g, cap, cur, rfl, hbg, hg, h1, h2, h3, h4⟩
  · have : l = [] := List.eq_nil_of_length_eq_zero hn
    subst this
    exact ⟨none, 0, rfl, SlT.nil w⟩
  · exact ⟨some ⟨g, 0, none⟩, cap, by rw [hn], by omega, h2, .inr ⟨_, rfl, fun i u hu => h.cells rfl i u hu⟩⟩
theorem cell_below {w w' : World} {b o : Nat} {v : Value} (h : w.cell? ⟨b, o, none⟩ = some v) (hb : Below w.heap.size w w') : w'.cell? ⟨b, o, none⟩ = some v := (hb.cell (block_lt_of_cell h)).trans h
/-- A cell of a row of texts of the call's own. -/
theorem own_cell {w : World} {base n g cap : Nat} {l : List ByteArray} (h : w.ownsRow base 9 1 (.slice (some ⟨g, 0, none⟩) n cap) n (ts l)) {i : Nat} {x : ByteArray} (hx : l[i]? = some x) : w.cell? ⟨g, i, none⟩ = some (.string x) := by
  have := h.cells rfl _ _ (ts_at hx)
  rwa [Addr.add_lit, Nat.zero_add] at this
theorem own_some {w : World} {base n : Nat} {v : Value} {l : List ByteArray} {x : ByteArray} (h : w.ownsRow base 9 1 v n (ts (l ++ [x]))) : ∃ q cap, v = .slice (some ⟨q, 0, none⟩) n cap := by
  rcases h.2 with ⟨_, e⟩ | ⟨g, cap, cur, rfl, _⟩
  · have e2 := h.1
    rw [ts_len, e, List.length_append] at e2
    simp at e2
  · exact ⟨g, cap, rfl⟩
/-- A new slice has these texts, and all that was there is as it was. -/
def NewT (l : List ByteArray) (w : World) (e : Ending) (w' : World) : Prop := ∃ A cap, e = .returned (.slice A l.length cap) ∧ SlT w' A cap l ∧ Below w.heap.size w w'
theorem new1 (w : World) (x : ByteArray) (t : TypeId) : ∀ j u, (ts [x])[j]? = some u → (w.alloc (.cells #[.string x] t)).cell? ((⟨w.heap.size, 0, none⟩ : Addr).add j) = some u := by
  intro j u hu
  cases j with
  | zero =>
    simp only [ts, List.map_cons, List.map_nil, List.getElem?_cons_zero, Option.some.injEq] at hu
    subst hu
    rw [Addr.add_lit, Nat.zero_add, cell_of_row _ _ 0 _ t (0, 0) (heap_alloc_new w _)]
    rfl
  | succ j => simp [ts] at hu
/-- 'append' of one text that was just laid in a block of its own. -/
theorem wpList_append_new {w : World} {ops : Array Oper} {rest : List Oper} {o : Oper} {a : Act} {Q : Exit → Act → World → Prop} (hgd : o.guard = none) (s x : Operand)
    (ho : o.op = .call { callee := .builtin .append, args := #[s, x], argTypes := #[100, 100] })
    (base : Nat) (v : Value) (n : Nat) (xs : List ByteArray) (hs : a.eval s = v) (wq : World) (y : ByteArray) (t : TypeId) (hw : w = wq.alloc (.cells #[.string y] t)) (hx : a.eval x = .slice (some ⟨wq.heap.size, 0, none⟩) 1 1)
    (hown : wq.ownsRow base 9 1 v n (ts xs)) (h63 : n ≤ 100000000) (hbase : base ≤ wq.heap.size)
    (h : ∀ v' w', w'.ownsRow base 9 1 v' (n + 1) (ts (xs ++ [y])) → Below base wq w' → wpList Try.prog ops Q rest (a.put o.dst v') w') : wpList Try.prog ops Q (o :: rest) a w := by
  subst hw
  obtain ⟨i, hi, z0, z1, z2⟩ := info_parts zero_str
  exact wpList_append_own (wq.alloc (.cells #[.string y] t)) hgd s x 100 ho base 9 i (.string ⟨#[]⟩) 1 16 Try.underlying100 hi z0 z1 z2 rfl (by decide) v n (ts xs) hs (hown.alloc _) ⟨wq.heap.size, 0, none⟩ 1 1 (ts [y]) hx (by simp [ts]) (new1 wq y t) (by intro u hu; simp [ts] at hu; subst hu; rfl) (by unfold maxLen; omega) (by omega) (by simp; omega)
    (fun v' w' a1 a2 _ => h v' w' (by rw [ts_append]; exact a1) (below_grown ((Below.refl _ _).alloc hbase _) (by simp; omega) a2 (fun q hq => (hown.lt q hq).1)))
end Go.Proofs.Ytnjdkjkihbgkaaa.Txt
namespace Go.Proofs.Ytnjdkjkihbgkaaa.PairU
set_option maxRecDepth 100000
open Go Go.RowKit Byt OpsM OpsK Rise PairM PairN RowS RowB PairW PairR PairS PairG PairP PairQ Txt

theorem elems_step (k : ByteArray) (o : Option ByteArray) (x : Pr) (r : List Pr) : elemsF k o (x :: r) = if x.key ≠ k ∨ o = some x.elem then elemsF k o r else x.elem :: elemsF k (some x.elem) r := rfl

theorem fromA_def (base b : List Pr) (x : Pr) : fromA base b x = (decide (x ∈ b) || !decide (x ∈ base)) := by unfold fromA; simp
theorem fromB_def (base a : List Pr) (x : Pr) : fromB base a x = (!decide (x ∈ a) && !decide (x ∈ base)) := by unfold fromB; simp


end Go.Proofs.Ytnjdkjkihbgkaaa.PairU
namespace Go.Proofs.Ytnjdkjkihbgkaaa.OpenP
set_option maxRecDepth 100000
open Go Go.Deep Go.ChangeShapes Go.WideShapes Go.ChangeAt Go.RowKit Byt PairM RowS PairW

/-- A pair that came in. -/
structure Good (c : Pr) : Prop where
  key : c.key.size ≤ maxLen
  elem : c.elem.size ≤ maxLen
  node : In64 c.node
  seq : In64 c.seq
theorem i64_of {n : Int} (h : (Lit.int .i64 n).wf = true) : In64 n := by
  unfold In64
  simpa [Lit.wf, IntKind.min, IntKind.max, IntKind.bits, IntKind.signed] using h
section
variable {H : Type} {enc : TypeId × Value → H} {W : World} {sp : Nat → Bool} {hd : Bool}
theorem read_ev {t : TypeId} {f0 f1 : Field} (hs : Try.prog.underlying t = some (.struct #[f0, f1])) (hone : oneCellFields Try.prog #[f0, f1] = true) (hC : Try.prog.cellsOf t = 2)
    (h0 : Try.prog.underlying f0.type = some (.int .i64)) (h1 : Try.prog.underlying f1.type = some (.int .i64)) (fuel : Nat) (cs : List Value) (y : DataW H × List MemPlace)
    (h : DataW.trod enc Try.prog W 0 sp hd fuel t cs = some y) : ∃ m n : Int, cs = [.int .i64 m, .int .i64 n] ∧ In64 m ∧ In64 n := by
  obtain ⟨xs, n, _, _, hl, hlen, hf⟩ := DataW.trod_struct hs h
  rw [hC] at hl
  obtain ⟨a, b, rfl⟩ : ∃ a b, cs = [a, b] := by
    match cs, hl with
    | [a, b], _ => exact ⟨a, b, rfl⟩
  obtain ⟨y0, y1, rfl⟩ : ∃ a b, xs = [a, b] := by
    match xs, hlen with
    | [a, b], _ => exact ⟨a, b, rfl⟩
  obtain ⟨o0, k0⟩ := hone_of hone 0 f0 rfl
  obtain ⟨o1, k1⟩ := hone_of hone 1 f1 rfl
  have e0 := hf 0 f0 rfl
  have e1 := hf 1 f1 rfl
  rw [o0, k0] at e0
  rw [o1, k1] at e1
  simp only [List.drop_zero, List.take_succ_cons, List.take_zero, List.drop_succ_cons, List.getElem?_cons_zero, List.getElem?_cons_succ] at e0 e1
  obtain ⟨s, q0, _, w0⟩ := DataW.trod_int h0 e0
  obtain ⟨m, q1, _, w1⟩ := DataW.trod_int h1 e1
  simp only [List.cons.injEq, and_true] at q0 q1
  subst q0 q1
  exact ⟨s, m, rfl, i64_of w0, i64_of w1⟩
theorem read_fields {t u : TypeId} {f0 f1 f3 g0 g1 : Field} (hs : Try.prog.underlying t = some (.struct #[f0, f1, f3])) (hC : Try.prog.cellsOf t = 4)
    (o0 : f0.offset = 0) (o1 : f1.offset = 1) (o3 : f3.offset = 2) (k0 : Try.prog.cellsOf f0.type = 1) (k1 : Try.prog.cellsOf f1.type = 1)
    (h0 : Try.prog.underlying f0.type = some .string) (h1 : Try.prog.underlying f1.type = some .string)
    (h3 : f3.type = u) (hu : Try.prog.underlying u = some (.struct #[g0, g1])) (hone : oneCellFields Try.prog #[g0, g1] = true) (k3 : Try.prog.cellsOf u = 2) (h4 : Try.prog.underlying g0.type = some (.int .i64)) (h5 : Try.prog.underlying g1.type = some (.int .i64))
    (fuel : Nat) (cs : List Value) (y : DataW H × List MemPlace) (h : DataW.trod enc Try.prog W 0 sp hd fuel t cs = some y) : ∃ x : Pr, cs = E.enc x ∧ Good x := by
  obtain ⟨xs, n, _, _, hl, hlen, hf⟩ := DataW.trod_struct hs h
  rw [hC] at hl
  obtain ⟨a, b, c, d, rfl⟩ : ∃ a b c d, cs = [a, b, c, d] := by
    match cs, hl with
    | [a, b, c, d], _ => exact ⟨a, b, c, d, rfl⟩
  obtain ⟨y0, y1, y3, rfl⟩ : ∃ a b c, xs = [a, b, c] := by
    match xs, hlen with
    | [a, b, c], _ => exact ⟨a, b, c, rfl⟩
  have e0 := hf 0 f0 rfl
  have e1 := hf 1 f1 rfl
  have e3 := hf 2 f3 rfl
  rw [o0, k0] at e0
  rw [o1, k1] at e1
  rw [o3, h3, k3] at e3
  simp only [List.drop_zero, List.take_succ_cons, List.take_zero, List.drop_succ_cons, List.getElem?_cons_zero, List.getElem?_cons_succ] at e0 e1 e3
  obtain ⟨s, q0, _, w0⟩ := DataW.trod_string h0 e0
  obtain ⟨v, q1, _, w1⟩ := DataW.trod_string h1 e1
  obtain ⟨m, k, q3, w3, w4⟩ := read_ev hu hone k3 h4 h5 _ _ _ e3
  simp only [List.cons.injEq, and_true] at q0 q1 q3
  obtain ⟨q3, q4⟩ := q3
  subst q0 q1 q3 q4
  exact ⟨⟨s, v, m, k⟩, rfl, ⟨w0, w1, w3, w4⟩⟩
theorem read_pair (fuel : Nat) (cs : List Value) (y : DataW H × List MemPlace)
    (h : DataW.trod enc Try.prog W 0 sp hd fuel 41 cs = some y) : ∃ x : Pr, cs = E.enc x ∧ Good x :=
  read_fields Try.underlying41 (by kernel_rfl) rfl rfl rfl (by kernel_rfl) (by kernel_rfl) Try.underlying9 Try.underlying9
    rfl Try.underlying39 (by kernel_rfl) (by kernel_rfl) Try.underlying3 Try.underlying3 fuel cs y h
theorem open_pairs {base : Nat} {v : Value} {d : DataW H} {p : List MemPlace}
    (hval : Value.okWide Try.prog W .any base 24 v) (h : DataW.Trod enc Try.prog W 0 (fun _ => true) true 24 v d p) : ∃ A cap l, v = .slice A (List.length l) cap ∧ SlR E W A cap l ∧ ∀ x ∈ l, Good x :=
  OpenR.open_rows E (by kernel_rfl) read_pair hval h
theorem open_pair {base : Nat} {v : Value} {d : DataW H} {p : List MemPlace}
    (hval : Value.okWide Try.prog W .any base 41 v) (h : DataW.Trod enc Try.prog W 0 (fun _ => true) true 41 v d p) : ∃ c : Pr, v = .agg (pc c) ∧ Good c := by
  obtain ⟨cs, rfl, hsz⟩ := okWide_struct Try.underlying41 hval
  obtain ⟨fuel, hf⟩ := h
  obtain ⟨x, hx, hg⟩ := read_pair fuel _ _ hf
  refine ⟨x, ?_, hg⟩
  have hx2 : cs.toList = E.enc x := by simpa [Value.cells] using hx
  have : cs.toList = (pc x).toList := hx2
  rw [show cs = pc x from Array.toList_inj.1 this]
end
end Go.Proofs.Ytnjdkjkihbgkaaa.OpenP
namespace Go.Proofs.Ytnjdkjkihbgkaaa.PairX
set_option maxRecDepth 100000
open Go Go.RowKit Byt OpsM Rise PairM PairN RowS RowB PairW PairS PairQ Txt

theorem max_of {l : List Pr} (h : ∀ c ∈ l, OpenP.Good c) : ∀ c ∈ l, c.key.size ≤ maxLen ∧ c.elem.size ≤ maxLen := fun c hc => ⟨(h c hc).key, (h c hc).elem⟩
theorem few_len {l : List Pr} (h : fewB l = true) : l.length ≤ 30 := by
  unfold fewB at h
  simp only [Bool.and_eq_true, decide_eq_true_eq] at h
  exact h.1
theorem few_fits {l : List Pr} (h : fewB l = true) (hg : ∀ c ∈ l, OpenP.Good c) : Fits l := by
  unfold fewB at h
  simp only [Bool.and_eq_true, decide_eq_true_eq, List.all_eq_true] at h
  intro c hc
  have h1 := h.2 c hc
  have h2 := hg c hc
  exact ⟨by omega, by omega, h2.node, h2.seq⟩
theorem one_of {c : Pr} (h : OpenP.Good c) : ∀ x ∈ [c], OpenP.Good x := fun x hx => by
  simp at hx
  rw [hx]
  exact h
theorem two_of {c d : Pr} (h : OpenP.Good c) (h2 : OpenP.Good d) : ∀ x ∈ [c, d], OpenP.Good x := fun x hx => by
  simp at hx
  rcases hx with rfl | rfl
  · exact h
  · exact h2
theorem fit_one {c : Pr} (h : fewB [c] = true) (hg : OpenP.Good c) : Fit c := few_fits h (one_of hg) c (by simp)
theorem fit_two {c d : Pr} (h : fewB [c, d] = true) (hg : OpenP.Good c) (hg2 : OpenP.Good d) : Fit c ∧ Fit d := ⟨few_fits h (two_of hg hg2) c (by simp), few_fits h (two_of hg hg2) d (by simp)⟩
theorem few_one {c : Pr} (h : fewB [c] = true) : c.key.size ≤ 100 ∧ c.elem.size ≤ 100 := by
  unfold fewB at h
  simp only [Bool.and_eq_true, decide_eq_true_eq, List.all_eq_true] at h
  exact h.2 c (by simp)
theorem few_two {c d : Pr} (h : fewB [c, d] = true) : (c.key.size ≤ 100 ∧ c.elem.size ≤ 100) ∧ (d.key.size ≤ 100 ∧ d.elem.size ≤ 100) := by
  unfold fewB at h
  simp only [Bool.and_eq_true, decide_eq_true_eq, List.all_eq_true] at h
  exact ⟨h.2 c (by simp), h.2 d (by simp)⟩
theorem add_fits {l : List Pr} {p : Pr} (hl : Fits l) (hp : Fit p) : Fits (addP l p) := by
  unfold addP
  split
  · intro x hx
    rcases (put_mem x).1 hx with rfl | h
    · exact hp
    · exact hl x h
  · intro x hx; simp at hx
theorem del_fits {l : List Pr} {k e : ByteArray} (hl : Fits l) : Fits (delP l k e) := by
  unfold delP
  split
  · intro x hx
    exact hl x (List.mem_filter.1 hx).1
  · intro x hx; simp at hx
theorem merge_fits {base a b : List Pr} (ha : Fits a) (hb : Fits b) : Fits (mergeP base a b) := by
  unfold mergeP
  split
  · intro x hx
    rw [fold_mem, fold_mem] at hx
    rcases hx with h | h | h
    · exact hb x (List.mem_filter.1 h).1
    · exact ha x (List.mem_filter.1 h).1
    · simp at h
  · intro x hx; simp at hx
theorem equal_yes {x y : Pr} (h : x = y) (w : World) : (Op.equalIn 10000 41 (.agg (E.enc x).toArray) (.agg (E.enc y).toArray)).run Try.prog w = .ok true w := by
  have := equal w x y
  rw [sameN_iff.2 h] at this
  exact this
theorem equal_no {x y : Pr} (h : x ≠ y) (w : World) : (Op.equalIn 10000 41 (.agg (E.enc x).toArray) (.agg (E.enc y).toArray)).run Try.prog w = .ok false w := by
  have := equal w x y
  cases e : sameN x y with
  | false =>
    rw [e] at this
    exact this
  | true => exact absurd (sameN_iff.1 e) h
/-- Two pairs compared. -/
theorem equal_is {x y : Pr} {b : Bool} (h : b = true ↔ x = y) (w : World) : (Op.equalIn 10000 41 (.agg (E.enc x).toArray) (.agg (E.enc y).toArray)).run Try.prog w = .ok b w := by
  cases b with
  | true => exact equal_yes (h.1 rfl) w
  | false => exact equal_no (fun e => by cases h.2 e) w
/-- One more looked at. -/
theorem in_step {b B : Bool} {l : List Pr} {k : Nat} {x y : Pr} (hy : l[k]? = some y) (h : b = (B || decide (x ∈ l.take k))) : (B || decide (x ∈ l.take (k + 1))) = (b || decide (y = x)) := by
  obtain ⟨hk, rfl⟩ := List.getElem?_eq_some_iff.1 hy
  rw [h, List.take_succ_eq_append_getElem hk, Bool.or_assoc]
  congr 1
  rw [Bool.eq_iff_iff]
  simp only [decide_eq_true_eq, Bool.or_eq_true, List.mem_append, List.mem_singleton]
  exact ⟨fun h => h.imp id Eq.symm, fun h => h.imp id Eq.symm⟩
/-- Is a text among these? -/
def inT (x : ByteArray) (l : List ByteArray) : Bool := l.any fun y => decide (y = x)
theorem inT_iff {x : ByteArray} {l : List ByteArray} : inT x l = true ↔ x ∈ l := by
  unfold inT
  rw [List.any_eq_true]
  exact ⟨fun ⟨y, h1, h2⟩ => by rw [← of_decide_eq_true h2]; exact h1, fun h => ⟨x, h, decide_eq_true rfl⟩⟩
theorem txt_step {b : Bool} {l : List ByteArray} {k : Nat} {x y : ByteArray} (hy : l[k]? = some y) (h : b = inT x (l.take k)) : inT x (l.take (k + 1)) = (b || decide (y = x)) := by
  obtain ⟨hk, rfl⟩ := List.getElem?_eq_some_iff.1 hy
  rw [h, List.take_succ_eq_append_getElem hk]
  unfold inT
  rw [List.any_append]
  simp
theorem rises_at {l : List ByteArray} (h : Rises id ltS l) {m : Nat} {v z : ByteArray} (hv : l[m]? = some v) (hz : l[m + 1]? = some z) : ltS v z = true := by
  obtain ⟨h1, rfl⟩ := List.getElem?_eq_some_iff.1 hv
  obtain ⟨h2, rfl⟩ := List.getElem?_eq_some_iff.1 hz
  exact List.pairwise_iff_getElem.1 h m (m + 1) h1 h2 (by omega)
/-- The chapter's example. -/
def ax : Pr := ⟨⟨#[97]⟩, ⟨#[120]⟩, 0, 1⟩
def ay : Pr := ⟨⟨#[97]⟩, ⟨#[120]⟩, 0, 2⟩
theorem may_x : mayP [ax] = true := by kernel_rfl
theorem may_y : mayP [ay] = true := by kernel_rfl
theorem may_xy : mayP [ax, ay] = true := by kernel_rfl
theorem one_y : oneP ay = true := by kernel_rfl
theorem less_ex : lessP ax ay = true := by kernel_rfl
theorem elems_ex : elemsP [ax, ay] ⟨#[97]⟩ = [⟨#[120]⟩] := by kernel_rfl
theorem del_ex : delP [ax] ⟨#[97]⟩ ⟨#[120]⟩ = [] := by kernel_rfl
theorem add_ex : addP [ax] ay = [ax, ay] := by kernel_rfl
theorem merge_ex : mergeP [ax] [] [ax, ay] = [ay] := by kernel_rfl
end Go.Proofs.Ytnjdkjkihbgkaaa.PairX
