/- What the document's Put of package reg returns where it returns nothing: a contract. | What the document's Put of package reg returns: a contract. | What the document's Merge of package reg returns: a contract. | How a reading gives registers, and one register, that came in. No condition. | What the laws on registers ask of lists. No condition. -/
import Derived.Test.YtnjdkjkihbgkaaaRegSJ5
import Derived.Test.YtnjdkjkihbgkaaaRowGJ3
import Derived.Test.YtnjdkjkihbgkaaaCelJ3
import Derived.Test.YtnjdkjkihbgkaaaCtrPJ5
import Derived.Deep.Fields
namespace Go.Proofs.Ytnjdkjkihbgkaaa.RegP
set_option maxRecDepth 100000
open Go Go.RowKit Byt OpsM OpsK Rise RegM RegL RowS RegW RegR RegG

end Go.Proofs.Ytnjdkjkihbgkaaa.RegP
namespace Go.Proofs.Ytnjdkjkihbgkaaa.RegQ
set_option maxRecDepth 100000
open Go Go.RowKit Byt OpsM OpsK Rise RegM RegL RowS RowB RegW RegR RegG RegP

theorem ins_step (c : Rg) (d : Bool) (x : Rg) (l : List Rg) : ins c d (x :: l) = (if d = false ∧ ltS c.key x.key = true then [c] else []) ++ (if x.key ≠ c.key then x :: ins c (d || ltS c.key x.key) l else best c x :: ins c true l) := rfl
theorem ins_end (c : Rg) (d : Bool) : ins c d [] = if d = true then [] else [c] := by simp [ins]
theorem bne_yes {a b : ByteArray} (h : a = b) : (a.toList != b.toList) = false := by rw [bne, str_yes h]; rfl
theorem bne_no {a b : ByteArray} (h : a ≠ b) : (a.toList != b.toList) = true := by rw [bne, str_no h]; rfl
theorem owns_drew {w : World} {base n k : Nat} {T : TypeId} {v : Value} {xs : List Value} (h : w.ownsRow base T k v n xs) (m : Nat) : (w.drewN m).ownsRow base T k v n xs := h

theorem owns_drew1 {w : World} {base n k : Nat} {T : TypeId} {v : Value} {xs : List Value} (h : w.ownsRow base T k v n xs) : w.drew.ownsRow base T k v n xs := h

end Go.Proofs.Ytnjdkjkihbgkaaa.RegQ
namespace Go.Proofs.Ytnjdkjkihbgkaaa.RegU
set_option maxRecDepth 100000
open Go Go.RowKit Byt OpsM OpsK Rise RegM RegL RowS RowB RegW RegR RegG RegQ

theorem ins_sub {c : Rg} : ∀ (d : Bool) (l : List Rg) {x : Rg}, x ∈ ins c d l → x = c ∨ x ∈ l
  | d, [], x, h => by
    rw [ins_end] at h
    split at h
    · simp at h
    · simp at h; exact .inl h
  | d, y :: l, x, h => by
    rw [ins_step] at h
    rcases List.mem_append.1 h with h | h
    · split at h
      · simp at h; exact .inl h
      · simp at h
    · split at h
      · rcases List.mem_cons.1 h with h | h
        · exact .inr (by simp [h])
        · exact (ins_sub _ l h).imp id (fun h => by simp [h])
      · rcases List.mem_cons.1 h with h | h
        · rcases best_or c y with e | e
          · exact .inl (h.trans e)
          · exact .inr (by simp [h.trans e])
        · exact (ins_sub _ l h).imp id (fun h => by simp [h])
theorem put_sub {l : List Rg} {c x : Rg} (h : x ∈ putR l c) : x = c ∨ x ∈ l := by
  unfold putR at h
  split at h
  · exact ins_sub _ _ h
  · simp at h
theorem put_fits {l : List Rg} {c : Rg} (hl : Fits l) (hc : Fit c) : Fits (putR l c) := fun x hx => (put_sub hx).elim (fun e => by rw [e]; exact hc) (fun h => hl x h)
theorem fold_fits : ∀ (m l : List Rg), Fits l → Fits m → Fits (m.foldl putR l)
  | [], _, hl, _ => hl
  | c :: m, l, hl, hm => fold_fits m (putR l c) (put_fits hl (hm c (by simp))) (fun x hx => hm x (by simp [hx]))
theorem fold_take {l m : List Rg} {j : Nat} {x : Rg} (h : m[j]? = some x) : (m.take (j + 1)).foldl putR l = putR ((m.take j).foldl putR l) x := by
  obtain ⟨hj, rfl⟩ := List.getElem?_eq_some_iff.1 h
  rw [List.take_succ_eq_append_getElem hj, List.foldl_append]
  rfl


end Go.Proofs.Ytnjdkjkihbgkaaa.RegU
namespace Go.Proofs.Ytnjdkjkihbgkaaa.OpenG
set_option maxRecDepth 100000
open Go Go.Deep Go.ChangeShapes Go.WideShapes Go.ChangeAt Go.RowKit Byt RegM RowS RegW

/-- A register that came in. -/
structure Good (c : Rg) : Prop where
  key : c.key.size ≤ maxLen
  elem : c.elem.size ≤ maxLen
  gen : In64 c.gen
  node : In64 c.node
  seq : In64 c.seq
theorem i64_of {n : Int} (h : (Lit.int .i64 n).wf = true) : In64 n := by
  unfold In64
  simpa [Lit.wf, IntKind.min, IntKind.max, IntKind.bits, IntKind.signed] using h
section
variable {H : Type} {enc : TypeId × Value → H} {W : World} {sp : Nat → Bool} {hd : Bool}
theorem read_ev {t : TypeId} {f0 f1 : Field} (hs : Try.prog.underlying t = some (.struct #[f0, f1])) (hone : oneCellFields Try.prog #[f0, f1] = true) (hC : Try.prog.cellsOf t = 2)
    (h0 : Try.prog.underlying f0.type = some (.int .i64)) (h1 : Try.prog.underlying f1.type = some (.int .i64)) (fuel : Nat) (cs : List Value) (y : DataW H × List MemPlace)
    (h : DataW.trod enc Try.prog W 0 sp hd fuel t cs = some y) : ∃ m n : Int, cs = [.int .i64 m, .int .i64 n] ∧ In64 m ∧ In64 n := by
  obtain ⟨xs, n, _, _, hl, hlen, hf⟩ := DataW.trod_struct hs h
  rw [hC] at hl
  obtain ⟨a, b, rfl⟩ : ∃ a b, cs = [a, b] := by
    match cs, hl with
    | [a, b], _ => exact ⟨a, b, rfl⟩
  obtain ⟨y0, y1, rfl⟩ : ∃ a b, xs = [a, b] := by
    match xs, hlen with
    | [a, b], _ => exact ⟨a, b, rfl⟩
  obtain ⟨o0, k0⟩ := hone_of hone 0 f0 rfl
  obtain ⟨o1, k1⟩ := hone_of hone 1 f1 rfl
  have e0 := hf 0 f0 rfl
  have e1 := hf 1 f1 rfl
  rw [o0, k0] at e0
  rw [o1, k1] at e1
  simp only [List.drop_zero, List.take_succ_cons, List.take_zero, List.drop_succ_cons, List.getElem?_cons_zero, List.getElem?_cons_succ] at e0 e1
  obtain ⟨s, q0, _, w0⟩ := DataW.trod_int h0 e0
  obtain ⟨m, q1, _, w1⟩ := DataW.trod_int h1 e1
  simp only [List.cons.injEq, and_true] at q0 q1
  subst q0 q1
  exact ⟨s, m, rfl, i64_of w0, i64_of w1⟩
theorem read_fields {t u : TypeId} {f0 f1 f2 f3 g0 g1 : Field} (hs : Try.prog.underlying t = some (.struct #[f0, f1, f2, f3])) (hC : Try.prog.cellsOf t = 5)
    (o0 : f0.offset = 0) (o1 : f1.offset = 1) (o2 : f2.offset = 2) (o3 : f3.offset = 3) (k0 : Try.prog.cellsOf f0.type = 1) (k1 : Try.prog.cellsOf f1.type = 1) (k2 : Try.prog.cellsOf f2.type = 1)
    (h0 : Try.prog.underlying f0.type = some .string) (h1 : Try.prog.underlying f1.type = some .string) (h2 : Try.prog.underlying f2.type = some (.int .i64))
    (h3 : f3.type = u) (hu : Try.prog.underlying u = some (.struct #[g0, g1])) (hone : oneCellFields Try.prog #[g0, g1] = true) (k3 : Try.prog.cellsOf u = 2) (h4 : Try.prog.underlying g0.type = some (.int .i64)) (h5 : Try.prog.underlying g1.type = some (.int .i64))
    (fuel : Nat) (cs : List Value) (y : DataW H × List MemPlace) (h : DataW.trod enc Try.prog W 0 sp hd fuel t cs = some y) : ∃ x : Rg, cs = E.enc x ∧ Good x := by
  obtain ⟨xs, n, _, _, hl, hlen, hf⟩ := DataW.trod_struct hs h
  rw [hC] at hl
  obtain ⟨a, b, c, d, e, rfl⟩ : ∃ a b c d e, cs = [a, b, c, d, e] := by
    match cs, hl with
    | [a, b, c, d, e], _ => exact ⟨a, b, c, d, e, rfl⟩
  obtain ⟨y0, y1, y2, y3, rfl⟩ : ∃ a b c d, xs = [a, b, c, d] := by
    match xs, hlen with
    | [a, b, c, d], _ => exact ⟨a, b, c, d, rfl⟩
  have e0 := hf 0 f0 rfl
  have e1 := hf 1 f1 rfl
  have e2 := hf 2 f2 rfl
  have e3 := hf 3 f3 rfl
  rw [o0, k0] at e0
  rw [o1, k1] at e1
  rw [o2, k2] at e2
  rw [o3, h3, k3] at e3
  simp only [List.drop_zero, List.take_succ_cons, List.take_zero, List.drop_succ_cons, List.getElem?_cons_zero, List.getElem?_cons_succ] at e0 e1 e2 e3
  obtain ⟨s, q0, _, w0⟩ := DataW.trod_string h0 e0
  obtain ⟨v, q1, _, w1⟩ := DataW.trod_string h1 e1
  obtain ⟨g, q2, _, w2⟩ := DataW.trod_int h2 e2
  obtain ⟨m, k, q3, w3, w4⟩ := read_ev hu hone k3 h4 h5 _ _ _ e3
  simp only [List.cons.injEq, and_true] at q0 q1 q2 q3
  obtain ⟨q3, q4⟩ := q3
  subst q0 q1 q2 q3 q4
  exact ⟨⟨s, v, g, m, k⟩, rfl, ⟨w0, w1, i64_of w2, w3, w4⟩⟩
theorem read_reg (fuel : Nat) (cs : List Value) (y : DataW H × List MemPlace)
    (h : DataW.trod enc Try.prog W 0 sp hd fuel 56 cs = some y) : ∃ x : Rg, cs = E.enc x ∧ Good x :=
  read_fields Try.underlying56 (by kernel_rfl) rfl rfl rfl rfl (by kernel_rfl) (by kernel_rfl) (by kernel_rfl) Try.underlying9 Try.underlying9 Try.underlying3
    rfl Try.underlying39 (by kernel_rfl) (by kernel_rfl) Try.underlying3 Try.underlying3 fuel cs y h
theorem open_regs {base : Nat} {v : Value} {d : DataW H} {p : List MemPlace}
    (hval : Value.okWide Try.prog W .any base 23 v) (h : DataW.Trod enc Try.prog W 0 (fun _ => true) true 23 v d p) : ∃ A cap l, v = .slice A (List.length l) cap ∧ SlR E W A cap l ∧ ∀ x ∈ l, Good x :=
  OpenR.open_rows E (by kernel_rfl) read_reg hval h
theorem open_reg {base : Nat} {v : Value} {d : DataW H} {p : List MemPlace}
    (hval : Value.okWide Try.prog W .any base 56 v) (h : DataW.Trod enc Try.prog W 0 (fun _ => true) true 56 v d p) : ∃ c : Rg, v = .agg (rc c) ∧ Good c := by
  obtain ⟨cs, rfl, hsz⟩ := okWide_struct Try.underlying56 hval
  obtain ⟨fuel, hf⟩ := h
  obtain ⟨x, hx, hg⟩ := read_reg fuel _ _ hf
  refine ⟨x, ?_, hg⟩
  have hx2 : cs.toList = E.enc x := by simpa [Value.cells] using hx
  have : cs.toList = (rc x).toList := hx2
  rw [show cs = rc x from Array.toList_inj.1 this]
end
end Go.Proofs.Ytnjdkjkihbgkaaa.OpenG
namespace Go.Proofs.Ytnjdkjkihbgkaaa.RegX
set_option maxRecDepth 100000
open Go Go.RowKit Byt OpsM Rise RegM RegL RowS RowB RegW RegG RegS RegQ RegU

theorem max_of {l : List Rg} (h : ∀ c ∈ l, OpenG.Good c) : ∀ c ∈ l, c.key.size ≤ maxLen ∧ c.elem.size ≤ maxLen := fun c hc => ⟨(h c hc).key, (h c hc).elem⟩
theorem few_len {l : List Rg} (h : fewB l = true) : l.length ≤ 30 := by
  unfold fewB at h
  simp only [Bool.and_eq_true, decide_eq_true_eq] at h
  exact h.1
theorem few_fits {l : List Rg} (h : fewB l = true) (hg : ∀ c ∈ l, OpenG.Good c) : Fits l := by
  unfold fewB at h
  simp only [Bool.and_eq_true, decide_eq_true_eq, List.all_eq_true] at h
  intro c hc
  have h1 := h.2 c hc
  have h2 := hg c hc
  exact ⟨by omega, by omega, h2.gen, h2.node, h2.seq⟩
theorem one_of {c : Rg} (h : OpenG.Good c) : ∀ x ∈ [c], OpenG.Good x := fun x hx => by
  simp at hx
  rw [hx]
  exact h
theorem two_of {c d : Rg} (h : OpenG.Good c) (h2 : OpenG.Good d) : ∀ x ∈ [c, d], OpenG.Good x := fun x hx => by
  simp at hx
  rcases hx with rfl | rfl
  · exact h
  · exact h2
theorem fit_one {c : Rg} (h : fewB [c] = true) (hg : OpenG.Good c) : Fit c := few_fits h (one_of hg) c (by simp)
theorem fit_two {c d : Rg} (h : fewB [c, d] = true) (hg : OpenG.Good c) (hg2 : OpenG.Good d) : Fit c ∧ Fit d := ⟨few_fits h (two_of hg hg2) c (by simp), few_fits h (two_of hg hg2) d (by simp)⟩
theorem fits_one {c : Rg} (h : Fit c) : Fits [c] := fun x hx => by
  simp at hx
  rw [hx]
  exact h
theorem may_one {c : Rg} : mayR [c] = oneR c := by
  unfold mayR
  simp [risesB]
theorem merge_fits {a b : List Rg} (ha : Fits a) (hb : Fits b) : Fits (mergeR a b) := by
  unfold mergeR
  split
  · exact fold_fits b a ha hb
  · intro x hx; simp at hx
/-- What a key has, as a register, and whether it has one. -/
def vR (o : Option Rg) : Rg := o.getD noR
theorem gv_eq (o : Option Rg) : gv o = .tuple #[.agg (rc (vR o)), .bool o.isSome] := by cases o <;> rfl
theorem equal_yes {x y : Rg} (h : x = y) (w : World) : (Op.equalIn 10000 56 (.agg (E.enc x).toArray) (.agg (E.enc y).toArray)).run Try.prog w = .ok true w := by
  have := equal w x y
  rw [sameN_iff.2 h] at this
  exact this
theorem equal_no {x y : Rg} (h : x ≠ y) (w : World) : (Op.equalIn 10000 56 (.agg (E.enc x).toArray) (.agg (E.enc y).toArray)).run Try.prog w = .ok false w := by
  have := equal w x y
  cases e : sameN x y with
  | false =>
    rw [e] at this
    exact this
  | true => exact absurd (sameN_iff.1 e) h
/-- Two registers compared. -/
theorem equal_is {x y : Rg} {b : Bool} (h : b = true ↔ x = y) (w : World) : (Op.equalIn 10000 56 (.agg (E.enc x).toArray) (.agg (E.enc y).toArray)).run Try.prog w = .ok b w := by
  cases b with
  | true => exact equal_yes (h.1 rfl) w
  | false => exact equal_no (fun e => by cases h.2 e) w
/-- The chapter's example. -/
def ax : Rg := ⟨⟨#[97]⟩, ⟨#[120]⟩, 2, 0, 1⟩
def ay : Rg := ⟨⟨#[97]⟩, ⟨#[121]⟩, 1, 1, 1⟩
theorem merge_ex : mergeR [ay] [ax] = [ax] := by kernel_rfl
theorem newer_ex : newerB ax ay = true := by kernel_rfl
theorem may_ex : mayR [ax] = true := by kernel_rfl
theorem put_ex : putR [ax] ay = [ax] := by kernel_rfl
theorem get_ex : getR [ax] ⟨#[97]⟩ = some ax := by kernel_rfl
end Go.Proofs.Ytnjdkjkihbgkaaa.RegX
