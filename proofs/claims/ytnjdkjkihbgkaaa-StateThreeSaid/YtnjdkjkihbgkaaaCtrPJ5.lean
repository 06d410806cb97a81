/- What the document's put, Inc and Merge of package ctr return: contracts. | What the document's Inc and Merge of package ctr return: contracts. | How a reading gives a slice of structs that came in. No condition. | How a reading gives counts that came in. No condition. | What the laws on counts ask of lists. No condition. -/
import Derived.Test.YtnjdkjkihbgkaaaOpsKJ6
import Derived.Test.YtnjdkjkihbgkaaaStNJ2
import Derived.ProofKit
import Derived.OpenShut
import Derived.WideShapes
import Derived.Test.YtnjdkjkihbgkaaaCelJ3
import Derived.Deep.Fields
import Derived.Test.YtnjdkjkihbgkaaaCtrLJ2
namespace Go.Proofs.Ytnjdkjkihbgkaaa.CtrP
set_option maxRecDepth 100000
open Go Go.RowKit Byt OpsM OpsK Rise CtrM RowS CtrW CtrR

theorem put_step (k : ByteArray) (n : Int) (d : Bool) (x : Cn) (r : List Cn) : putC k n d (x :: r) = (if d = false ∧ ltS x.key k = false then one k n else []) ++ (if x.key = k then [] else [x]) ++ putC k n (d || !ltS x.key k) r := rfl
theorem bne_yes {a b : ByteArray} (h : a = b) : (a.toList != b.toList) = false := by rw [bne, str_yes h]; rfl
theorem bne_no {a b : ByteArray} (h : a ≠ b) : (a.toList != b.toList) = true := by rw [bne, str_no h]; rfl
theorem one_yes {k : ByteArray} {n : Int} (h : n ≠ 0) : one k n = [⟨k, n⟩] := by unfold one; rw [if_pos h]
theorem one_no {k : ByteArray} {n : Int} (h : n = 0) : one k n = [] := by unfold one; rw [if_neg (by simp [h])]

/-- A range below all rows stays behind an append. -/
theorem range_kept {w wr w1 : World} {g o n : Nat} {v : Value} {cs : List Value} {xs : List Value} {x : Obj} {T : TypeId} {k : Nat} (hg : g < w.heap.size) (h : wr.rangeAt g o cs) (HO : wr.ownsRow w.heap.size T k v n xs) (g1 : (wr.alloc x).grownBy w1 v.ownBlock) : w1.rangeAt g o cs := fun j u hu => by
  have hc := h j u hu
  have hlt := block_lt_of_cell hc
  have hc2 : (wr.alloc x).cell? ⟨g, o + j, none⟩ = some u := (((Below.refl _ wr).alloc (Nat.le_refl _) x).cell hlt).trans hc
  rw [World.cell?_of_block (g1.block g (by simp at hlt ⊢; omega) (fun e => by have := (HO.lt g e.symm).1; omega))]
  exact hc2
end Go.Proofs.Ytnjdkjkihbgkaaa.CtrP
namespace Go.Proofs.Ytnjdkjkihbgkaaa.CtrQ
set_option maxRecDepth 100000
open Go Go.RowKit Byt OpsM OpsK Rise CtrM RowS CtrW CtrR CtrP


theorem fold_next (base a b l : List Cn) (j : Nat) (x : Cn) (h : l[j]? = some x) : (l.take (j + 1)).foldl (mergeF base a b) [] = mergeF base a b ((l.take j).foldl (mergeF base a b) []) x := by
  obtain ⟨hj, rfl⟩ := List.getElem?_eq_some_iff.1 h
  rw [List.take_succ_eq_append_getElem hj, List.foldl_append]
  rfl


end Go.Proofs.Ytnjdkjkihbgkaaa.CtrQ
namespace Go.Proofs.Ytnjdkjkihbgkaaa.OpenR
set_option maxRecDepth 100000
open Go Go.ChangeShapes Go.WideShapes Go.ChangeAt Go.RowKit Byt RowS

section
variable {H : Type} {enc : TypeId × Value → H} {W : World} {base : Nat} {α : Type}
theorem list_of {p : Nat → α → Prop} : ∀ n : Nat, (∀ i, i < n → ∃ x, p i x) → ∃ l : List α, l.length = n ∧ ∀ i x, l[i]? = some x → p i x
  | 0, _ => ⟨[], rfl, fun i x hx => by simp at hx⟩
  | n + 1, h => by
    obtain ⟨l, hl, hp⟩ := list_of n (fun i hi => h i (by omega))
    obtain ⟨x, hx⟩ := h n (by omega)
    refine ⟨l ++ [x], by simp [hl], fun i y hy => ?_⟩
    by_cases hin : i < n
    · rw [List.getElem?_append_left (by omega)] at hy
      exact hp i y hy
    · rw [List.getElem?_append_right (by omega), hl] at hy
      have hi : i - n = 0 := by
        have := (List.getElem?_eq_some_iff.1 hy).1
        simpa using this
      rw [hi] at hy
      obtain rfl : x = y := by simpa using hy
      rw [show i = n by omega]
      exact hx
/-- The cell at a place of a list's cells. -/
theorem flat_split (E : Enc α) {l : List α} {i : Nat} {v : Value} (h : (flat E l)[i]? = some v) : ∃ m j x, i = m * E.k + j ∧ l[m]? = some x ∧ (E.enc x)[j]? = some v := by
  have hi := (List.getElem?_eq_some_iff.1 h).1
  rw [flat_length] at hi
  have hp := E.pos
  have hm : i / E.k < l.length := (Nat.div_lt_iff_lt_mul hp).2 hi
  have hx : l[i / E.k]? = some l[i / E.k] := List.getElem?_eq_getElem hm
  have hj : i % E.k < (E.enc l[i / E.k]).length := by rw [E.len]; exact Nat.mod_lt _ hp
  have hv : (E.enc l[i / E.k])[i % E.k]? = some ((E.enc l[i / E.k])[i % E.k]'hj) := List.getElem?_eq_getElem hj
  have e : i = i / E.k * E.k + i % E.k := by rw [Nat.mul_comm]; exact (Nat.div_add_mod i E.k).symm
  have := flat_at E l _ _ _ _ hx hv
  rw [← e, h] at this
  exact ⟨_, _, _, e, hx, by rw [hv]; exact this.symm⟩
set_option maxRecDepth 100000 in
theorem open_rows (E : Enc α) {good : α → Prop} (hC : Try.prog.cellsOf E.T = E.k)
    (hread : ∀ (fuel : Nat) (cs : List Value) (y : DataW H × List MemPlace), DataW.trod enc Try.prog W 0 (fun _ => true) true fuel E.T cs = some y → ∃ x, cs = E.enc x ∧ good x) {v : Value} {d : DataW H} {p : List MemPlace}
    (hval : Value.okWide Try.prog W .any base E.S v) (h : DataW.Trod enc Try.prog W 0 (fun _ => true) true E.S v d p) : ∃ A cap l, v = .slice A (List.length l) cap ∧ SlR E W A cap l ∧ ∀ x ∈ l, good x := by
  obtain ⟨a, len, cap, rfl⟩ := okWide_slice E.slice hval
  obtain ⟨fuel, hf⟩ := h
  rcases DataW.trod_slice E.slice hf with ⟨hcs, _⟩ | ⟨x, len', cap', elems, rest, n, _, hcs, _, _, hl, hm, hel, hcell, _, _⟩
  · simp [Value.cells] at hcs
    obtain ⟨rfl, rfl, rfl⟩ := hcs
    exact ⟨none, 0, [], rfl, SlR.nil E W, by simp⟩
  · simp [Value.cells] at hcs
    obtain ⟨rfl, rfl, rfl⟩ := hcs
    rw [hC] at hcell
    have key : ∀ i, i < len → ∃ y : α, good y ∧ ∀ j u, (E.enc y)[j]? = some u → W.cell? (x.add (i * E.k + j)) = some u := by
      intro i hi
      have hi1 := hcell i hi
      rw [List.getElem?_eq_getElem (by omega)] at hi1
      rw [Option.bind_eq_some_iff] at hi1
      obtain ⟨cl, hcl, htr⟩ := hi1
      obtain ⟨y, rfl, hy⟩ := hread _ _ _ htr
      refine ⟨y, hy, fun j u hj => ?_⟩
      obtain ⟨_, _, hg⟩ := World.cells?_some hcl
      have hjl := (List.getElem?_eq_some_iff.1 hj).1
      rw [E.len] at hjl
      have := hg j hjl
      rw [Addr.add_add, hj] at this
      exact this
    obtain ⟨l, hll, hp⟩ := list_of len key
    refine ⟨some x, cap, l, by rw [hll], ⟨by omega, hm, .inr ⟨x, rfl, fun i u hu => ?_⟩⟩, fun y hy => ?_⟩
    · obtain ⟨m, j, y, rfl, hy, hj⟩ := flat_split E hu
      exact (hp m y hy).2 j u hj
    · obtain ⟨i, hi⟩ := List.mem_iff_getElem?.1 hy
      exact (hp i y hi).1
end
end Go.Proofs.Ytnjdkjkihbgkaaa.OpenR
namespace Go.Proofs.Ytnjdkjkihbgkaaa.OpenC
set_option maxRecDepth 100000
open Go Go.Deep Go.ChangeShapes Go.WideShapes Go.ChangeAt Go.RowKit Byt CtrM RowS CtrW

/-- A count that came in. -/
def Good (c : Cn) : Prop := c.key.size ≤ maxLen ∧ -9223372036854775808 ≤ c.n ∧ c.n ≤ 9223372036854775807
theorem read_ctr {H : Type} {enc : TypeId × Value → H} {W : World} {sp : Nat → Bool} {hd : Bool} {t : TypeId} {f0 f1 : Field} (hs : Try.prog.underlying t = some (.struct #[f0, f1])) (hone : oneCellFields Try.prog #[f0, f1] = true) (hC : Try.prog.cellsOf t = 2)
    (h0 : Try.prog.underlying f0.type = some .string) (h1 : Try.prog.underlying f1.type = some (.int .i64)) (fuel : Nat) (cs : List Value) (y : DataW H × List MemPlace)
    (h : DataW.trod enc Try.prog W 0 sp hd fuel t cs = some y) : ∃ x : Cn, cs = E.enc x ∧ Good x := by
  obtain ⟨xs, n, _, _, hl, hlen, hf⟩ := DataW.trod_struct hs h
  rw [hC] at hl
  obtain ⟨a, b, rfl⟩ : ∃ a b, cs = [a, b] := by
    match cs, hl with
    | [a, b], _ => exact ⟨a, b, rfl⟩
  obtain ⟨y0, y1, rfl⟩ : ∃ a b, xs = [a, b] := by
    match xs, hlen with
    | [a, b], _ => exact ⟨a, b, rfl⟩
  obtain ⟨o0, k0⟩ := hone_of hone 0 f0 rfl
  obtain ⟨o1, k1⟩ := hone_of hone 1 f1 rfl
  have e0 := hf 0 f0 rfl
  have e1 := hf 1 f1 rfl
  rw [o0, k0] at e0
  rw [o1, k1] at e1
  simp only [List.drop_zero, List.take_succ_cons, List.take_zero, List.drop_succ_cons, List.getElem?_cons_zero, List.getElem?_cons_succ] at e0 e1
  obtain ⟨s, q0, _, w0⟩ := DataW.trod_string h0 e0
  obtain ⟨m, q1, _, w1⟩ := DataW.trod_int h1 e1
  simp only [List.cons.injEq, and_true] at q0 q1
  subst q0 q1
  have hb : -9223372036854775808 ≤ m ∧ m ≤ 9223372036854775807 := by simpa [Lit.wf, IntKind.min, IntKind.max, IntKind.bits, IntKind.signed] using w1
  exact ⟨⟨s, m⟩, rfl, w0, hb⟩
theorem open_ctrs {H : Type} {enc : TypeId × Value → H} {W : World} {base : Nat} {v : Value} {d : DataW H} {p : List MemPlace}
    (hval : Value.okWide Try.prog W .any base 22 v) (h : DataW.Trod enc Try.prog W 0 (fun _ => true) true 22 v d p) : ∃ A cap l, v = .slice A (List.length l) cap ∧ SlR E W A cap l ∧ ∀ x ∈ l, Good x :=
  OpenR.open_rows E (by kernel_rfl) (fun fuel cs y => read_ctr Try.underlying53 (by kernel_rfl) (by kernel_rfl) Try.underlying9 Try.underlying3 fuel cs y) hval h
end Go.Proofs.Ytnjdkjkihbgkaaa.OpenC
namespace Go.Proofs.Ytnjdkjkihbgkaaa.CtrX
set_option maxRecDepth 100000
open Go Go.RowKit Byt OpsM Rise CtrM RowS CtrW CtrS CtrL OpenC

theorem inl_of {l : List Cn} (h : ∀ c ∈ l, OpenC.Good c) : InL l := fun c hc => (h c hc).2
theorem max_of {l : List Cn} (h : ∀ c ∈ l, OpenC.Good c) : ∀ c ∈ l, c.key.size ≤ maxLen := fun c hc => (h c hc).1
theorem few_len {l : List Cn} (h : fewB l = true) : l.length ≤ 30 := by
  unfold fewB at h
  simp only [Bool.and_eq_true, decide_eq_true_eq] at h
  exact h.1
theorem few_fits {l : List Cn} (h : fewB l = true) (hg : InL l) : Fits l := by
  unfold fewB at h
  simp only [Bool.and_eq_true, decide_eq_true_eq, List.all_eq_true] at h
  intro c hc
  have h1 := h.2 c hc
  have h2 := hg c hc
  unfold In64 at h2
  exact ⟨by omega, h2.1, h2.2⟩
theorem may_fits {l : List Cn} (h : mayC l = true) (hg : InL l) : Fits l := by
  intro c hc
  have h1 := keyL_len (keys_ok h c hc)
  have h2 := hg c hc
  have h3 := bytesL_length c.key
  unfold In64 at h2
  exact ⟨by omega, h2.1, h2.2⟩
theorem nil_fits : Fits [] := fun c hc => by simp at hc
theorem inc_fits {l : List Cn} (k : ByteArray) (n : Int) (hg : InL l) : Fits (incC l k n) := by
  cases hm : mayC l with
  | false => rw [inc_no n (.inl hm)]; exact nil_fits
  | true =>
    cases hk : keyL (bytesL k) with
    | false => rw [inc_no n (.inr hk)]; exact nil_fits
    | true => exact may_fits (inc_may n hm hk) (inc_in k n hg)
theorem merge_all {base a b : List Cn} : (mayC base = true ∧ mayC a = true ∧ mayC b = true) ∨ mergeC base a b = [] := by
  by_cases h : mayC base = true ∧ mayC a = true ∧ mayC b = true
  · exact .inl h
  · exact .inr (by unfold mergeC; rw [if_neg h])
theorem merge_fits (base a b : List Cn) : Fits (mergeC base a b) := by
  rcases merge_all (base := base) (a := a) (b := b) with ⟨h0, h1, h2⟩ | h
  · exact may_fits (merge_may h0 h1 h2) (merge_in h0 h1 h2)
  · rw [h]; exact nil_fits
theorem inc_len (l : List Cn) (k : ByteArray) (n : Int) : (incC l k n).length ≤ l.length + 1 := by
  unfold incC
  split
  · exact putC_length _ _ _
  · simp
theorem merge_len (base a b : List Cn) : (mergeC base a b).length ≤ base.length + a.length + b.length := by
  unfold mergeC
  split
  · have := mergeF_length base a b (base ++ a ++ b) []
    unfold mergeF at this
    simp only [List.length_append, List.length_nil, Nat.zero_add] at this
    exact this
  · simp
theorem same_yes {a b : List Cn} (h : a = b) : sameB a b = true := sameB_iff.2 h
/-- The chapter's example. -/
def a1 : List Cn := [⟨⟨#[97]⟩, 1⟩]
def a3 : List Cn := [⟨⟨#[97]⟩, 3⟩]
def b5 : List Cn := [⟨⟨#[98]⟩, 5⟩]
def ab : List Cn := [⟨⟨#[97]⟩, 2⟩, ⟨⟨#[98]⟩, 5⟩]
theorem merge_ex : mergeC a1 a3 b5 = ab := by kernel_rfl
theorem may_ab : mayC ab = true := by kernel_rfl
theorem get_ab : getC ab ⟨#[98]⟩ = 5 := by kernel_rfl
theorem inc_ab : incC ab ⟨#[98]⟩ (-5) = [⟨⟨#[97]⟩, 2⟩] := by kernel_rfl
end Go.Proofs.Ytnjdkjkihbgkaaa.CtrX
