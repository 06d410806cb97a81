/- How a reading gives an operation that came in. -/
import Derived.Test.YtkjhjaeglgoepaaOpsC
import Derived.ProofKit
import Derived.OpenShut
import Derived.WideShapes
import Derived.Lib.SmallJoins
namespace Go.Proofs.Ytkjhjaeglgoepaa.OpenO
open Go Go.Deep Go.Joins Go.ChangeShapes Go.WideShapes Go.ChangeAt Go.RowKit Byt OpsM OpsW OpsC

theorem i64_of {n : Int} (h : (Lit.int .i64 n).wf = true) : I64 n := by
  unfold I64
  simpa [Lit.wf, IntKind.min, IntKind.max, IntKind.bits, IntKind.signed] using h
theorem open_op {H : Type} {enc : TypeId × Value → H} {P : Program} {t : TypeId} {W : World} {base : Nat} {f0 f1 f2 f3 : Field} (hs : P.underlying t = some (.struct #[f0, f1, f2, f3])) (hone : oneCellFields P #[f0, f1, f2, f3] = true) (hC : P.cellsOf t = 4)
    (h0 : P.underlying f0.type = some (.int .i64)) (h1 : P.underlying f1.type = some .string) (h2 : P.underlying f2.type = some .string) (h3 : P.underlying f3.type = some (.int .i64)) {v : Value} {d : DataW H} {p : List MemPlace}
    (hval : Value.okWide P W .any base t v) (h : DataW.Trod enc P W 0 (fun _ => true) true t v d p) : ∃ o : Opn, v = .agg (opc o) ∧ Fit o := by
  obtain ⟨v0, v1, v2, v3, y0, y1, y2, y3, n, rfl, _, _, e0, e1, e2, e3⟩ := open_agg4 hs hone hC hval h
  obtain ⟨a, q0, _, w0⟩ := DataW.trod_int h0 e0
  obtain ⟨b, q3, _, w3⟩ := DataW.trod_int h3 e3
  obtain ⟨s, q1, _, w1⟩ := DataW.trod_string h1 e1
  obtain ⟨u, q2, _, w2⟩ := DataW.trod_string h2 e2
  simp only [List.cons.injEq, and_true] at q0 q1 q2 q3
  subst q0 q1 q2 q3
  exact ⟨⟨a, s, u, b⟩, rfl, ⟨i64_of w0, i64_of w3, w1, w2⟩⟩
end Go.Proofs.Ytkjhjaeglgoepaa.OpenO
