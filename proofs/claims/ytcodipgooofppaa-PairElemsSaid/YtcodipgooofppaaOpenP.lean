/- How a reading gives pairs, and one pair, that came in. No condition. -/
import Derived.Test.YtcodipgooofppaaPairW
import Derived.Test.YtcodipgooofppaaOpenR
import Derived.Deep.Fields
namespace Go.Proofs.Ytcodipgooofppaa.OpenP
open Go Go.Deep Go.ChangeShapes Go.WideShapes Go.ChangeAt Go.RowKit Byt PairM RowS PairW

/-- A pair that came in. -/
structure Good (c : Pr) : Prop where
  key : c.key.size ≤ maxLen
  elem : c.elem.size ≤ maxLen
  node : In64 c.node
  seq : In64 c.seq
theorem i64_of {n : Int} (h : (Lit.int .i64 n).wf = true) : In64 n := by
  unfold In64
  simpa [Lit.wf, IntKind.min, IntKind.max, IntKind.bits, IntKind.signed] using h
section
variable {H : Type} {enc : TypeId × Value → H} {W : World} {sp : Nat → Bool} {hd : Bool}
theorem read_ev {t : TypeId} {f0 f1 : Field} (hs : Try.prog.underlying t = some (.struct #[f0, f1])) (hone : oneCellFields Try.prog #[f0, f1] = true) (hC : Try.prog.cellsOf t = 2)
    (h0 : Try.prog.underlying f0.type = some (.int .i64)) (h1 : Try.prog.underlying f1.type = some (.int .i64)) (fuel : Nat) (cs : List Value) (y : DataW H × List MemPlace)
    (h : DataW.trod enc Try.prog W 0 sp hd fuel t cs = some y) : ∃ m n : Int, cs = [.int .i64 m, .int .i64 n] ∧ In64 m ∧ In64 n := by
  obtain ⟨xs, n, _, _, hl, hlen, hf⟩ := DataW.trod_struct hs h
  rw [hC] at hl
  obtain ⟨a, b, rfl⟩ : ∃ a b, cs = [a, b] := by
    match cs, hl with
    | [a, b], _ => exact ⟨a, b, rfl⟩
  obtain ⟨y0, y1, rfl⟩ : ∃ a b, xs = [a, b] := by
    match xs, hlen with
    | [a, b], _ => exact ⟨a, b, rfl⟩
  obtain ⟨o0, k0⟩ := hone_of hone 0 f0 rfl
  obtain ⟨o1, k1⟩ := hone_of hone 1 f1 rfl
  have e0 := hf 0 f0 rfl
  have e1 := hf 1 f1 rfl
  rw [o0, k0] at e0
  rw [o1, k1] at e1
  simp only [List.drop_zero, List.take_succ_cons, List.take_zero, List.drop_succ_cons, List.getElem?_cons_zero, List.getElem?_cons_succ] at e0 e1
  obtain ⟨s, q0, _, w0⟩ := DataW.trod_int h0 e0
  obtain ⟨m, q1, _, w1⟩ := DataW.trod_int h1 e1
  simp only [List.cons.injEq, and_true] at q0 q1
  subst q0 q1
  exact ⟨s, m, rfl, i64_of w0, i64_of w1⟩
theorem read_fields {t u : TypeId} {f0 f1 f3 g0 g1 : Field} (hs : Try.prog.underlying t = some (.struct #[f0, f1, f3])) (hC : Try.prog.cellsOf t = 4)
    (o0 : f0.offset = 0) (o1 : f1.offset = 1) (o3 : f3.offset = 2) (k0 : Try.prog.cellsOf f0.type = 1) (k1 : Try.prog.cellsOf f1.type = 1)
    (h0 : Try.prog.underlying f0.type = some .string) (h1 : Try.prog.underlying f1.type = some .string)
    (h3 : f3.type = u) (hu : Try.prog.underlying u = some (.struct #[g0, g1])) (hone : oneCellFields Try.prog #[g0, g1] = true) (k3 : Try.prog.cellsOf u = 2) (h4 : Try.prog.underlying g0.type = some (.int .i64)) (h5 : Try.prog.underlying g1.type = some (.int .i64))
    (fuel : Nat) (cs : List Value) (y : DataW H × List MemPlace) (h : DataW.trod enc Try.prog W 0 sp hd fuel t cs = some y) : ∃ x : Pr, cs = E.enc x ∧ Good x := by
  obtain ⟨xs, n, _, _, hl, hlen, hf⟩ := DataW.trod_struct hs h
  rw [hC] at hl
  obtain ⟨a, b, c, d, rfl⟩ : ∃ a b c d, cs = [a, b, c, d] := by
    match cs, hl with
    | [a, b, c, d], _ => exact ⟨a, b, c, d, rfl⟩
  obtain ⟨y0, y1, y3, rfl⟩ : ∃ a b c, xs = [a, b, c] := by
    match xs, hlen with
    | [a, b, c], _ => exact ⟨a, b, c, rfl⟩
  have e0 := hf 0 f0 rfl
  have e1 := hf 1 f1 rfl
  have e3 := hf 2 f3 rfl
  rw [o0, k0] at e0
  rw [o1, k1] at e1
  rw [o3, h3, k3] at e3
  simp only [List.drop_zero, List.take_succ_cons, List.take_zero, List.drop_succ_cons, List.getElem?_cons_zero, List.getElem?_cons_succ] at e0 e1 e3
  obtain ⟨s, q0, _, w0⟩ := DataW.trod_string h0 e0
  obtain ⟨v, q1, _, w1⟩ := DataW.trod_string h1 e1
  obtain ⟨m, k, q3, w3, w4⟩ := read_ev hu hone k3 h4 h5 _ _ _ e3
  simp only [List.cons.injEq, and_true] at q0 q1 q3
  obtain ⟨q3, q4⟩ := q3
  subst q0 q1 q3 q4
  exact ⟨⟨s, v, m, k⟩, rfl, ⟨w0, w1, w3, w4⟩⟩
theorem read_pair (fuel : Nat) (cs : List Value) (y : DataW H × List MemPlace)
    (h : DataW.trod enc Try.prog W 0 sp hd fuel 26 cs = some y) : ∃ x : Pr, cs = E.enc x ∧ Good x :=
  read_fields Try.underlying26 (by kernel_rfl) rfl rfl rfl (by kernel_rfl) (by kernel_rfl) Try.underlying9 Try.underlying9
    rfl Try.underlying24 (by kernel_rfl) (by kernel_rfl) Try.underlying3 Try.underlying3 fuel cs y h
theorem open_pairs {base : Nat} {v : Value} {d : DataW H} {p : List MemPlace}
    (hval : Value.okWide Try.prog W .any base 22 v) (h : DataW.Trod enc Try.prog W 0 (fun _ => true) true 22 v d p) : ∃ A cap l, v = .slice A (List.length l) cap ∧ SlR E W A cap l ∧ ∀ x ∈ l, Good x :=
  OpenR.open_rows E (by kernel_rfl) read_pair hval h
theorem open_pair {base : Nat} {v : Value} {d : DataW H} {p : List MemPlace}
    (hval : Value.okWide Try.prog W .any base 26 v) (h : DataW.Trod enc Try.prog W 0 (fun _ => true) true 26 v d p) : ∃ c : Pr, v = .agg (pc c) ∧ Good c := by
  obtain ⟨cs, rfl, hsz⟩ := okWide_struct Try.underlying26 hval
  obtain ⟨fuel, hf⟩ := h
  obtain ⟨x, hx, hg⟩ := read_pair fuel _ _ hf
  refine ⟨x, ?_, hg⟩
  have hx2 : cs.toList = E.enc x := by simpa [Value.cells] using hx
  have : cs.toList = (pc x).toList := hx2
  rw [show cs = pc x from Array.toList_inj.1 this]
end
end Go.Proofs.Ytcodipgooofppaa.OpenP
