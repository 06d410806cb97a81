/- How a reading gives an array of eight words that came in. -/
import Derived.Test.YtfndeemngimjcaaDoorShaM
import Derived.ProofKit
import Derived.OpenShut
import Derived.WideShapes
namespace Go.Proofs.YtfndeemngimjcaaDoor.OpenH
open Go.ChangeShapes Go.WideShapes Go.ChangeAt Go.RowKit RotM ShaM

theorem open_h8 {H : Type} {enc : TypeId × Value → H} {P : Program} {t e : TypeId} {W : World} {base : Nat} {v : Value} {d : DataW H} {p : List MemPlace}
    (ht : P.underlying t = some (.array 8 e)) (he : P.underlying e = some (.int .u32)) (hc : P.cellsOf e = 1) (hC : P.cellsOf t = 8)
    (hval : Value.okWide P W .any base t v) (h : DataW.Trod enc P W 0 (fun _ => true) true t v d p) : ∃ h : H8, v = .agg h.vals := by
  simp only [Value.okWide, ht] at hval
  obtain ⟨cs, rfl, _⟩ := hval
  obtain ⟨fuel, hf⟩ := h
  obtain ⟨xs, m, _, _, hlen, hn, hel⟩ := DataW.trod_array ht hf
  obtain ⟨l⟩ := cs
  have hl : l.length = 8 := by simpa [Value.cells, hC] using hlen
  have key : ∀ i, i < 8 → ∃ x : BitVec 32, l[i]? = some (.int .u32 (u x)) := by
    intro i hi
    have hi1 := hel i hi
    rw [List.getElem?_eq_getElem (by omega)] at hi1
    obtain ⟨n, e1, _, hw⟩ := DataW.trod_int he hi1
    obtain ⟨x, rfl⟩ := u_of hw
    refine ⟨x, ?_⟩
    rw [hc, Nat.mul_one] at e1
    have e3 := congrArg (fun l => l[0]?) e1
    simpa [Value.cells] using e3
  have hl' : ∃ a b c d e f g z, l = [a, b, c, d, e, f, g, z] := by
    match l, hl with
    | [a, b, c, d, e, f, g, z], _ => exact ⟨a, b, c, d, e, f, g, z, rfl⟩
  obtain ⟨a, b, c, d, e, f, g, z, rfl⟩ := hl'
  obtain ⟨x0, h0⟩ := key 0 (by omega)
  obtain ⟨x1, h1⟩ := key 1 (by omega)
  obtain ⟨x2, h2⟩ := key 2 (by omega)
  obtain ⟨x3, h3⟩ := key 3 (by omega)
  obtain ⟨x4, h4⟩ := key 4 (by omega)
  obtain ⟨x5, h5⟩ := key 5 (by omega)
  obtain ⟨x6, h6⟩ := key 6 (by omega)
  obtain ⟨x7, h7⟩ := key 7 (by omega)
  simp at h0 h1 h2 h3 h4 h5 h6 h7
  subst h0 h1 h2 h3 h4 h5 h6 h7
  exact ⟨⟨x0, x1, x2, x3, x4, x5, x6, x7⟩, rfl⟩
end Go.Proofs.YtfndeemngimjcaaDoor.OpenH
