/- How a reading gives an id, and a slice of ids, that came in. | How a reading gives an operation that came in. | How a reading gives a commit that came in. No condition. -/
import Derived.Test.YteojkfbnenfmkaaDoorIdW
import Derived.ProofKit
import Derived.OpenShut
import Derived.WideShapes
import Derived.Test.YteojkfbnenfmkaaDoorOpsC
import Derived.Lib.SmallJoins
import Derived.Test.YteojkfbnenfmkaaDoorEvWJ7
namespace Go.Proofs.YteojkfbnenfmkaaDoor.OpenI
set_option maxRecDepth 100000
open Go Go.ChangeShapes Go.WideShapes Go.ChangeAt Go.RowKit IdM Byt IdW

section
variable {H : Type} {enc : TypeId × Value → H} {P : Program} {t e : TypeId} {W : World} {base : Nat}
/-- Thirty-two cells that read as an array of bytes are an id's. -/
theorem cells_id (ht : P.underlying t = some (.array 32 e)) (he : P.underlying e = some (.int .u8)) (hc : P.cellsOf e = 1) (hC : P.cellsOf t = 32) {sp : Nat → Bool} {hd : Bool} {fuel : Nat} {l : List Value} {x : DataW H × List MemPlace}
    (hf : DataW.trod enc P W base sp hd fuel t l = some x) : ∃ y : Idn, l = bv y.1 := by
  obtain ⟨xs, m, _, _, hlen, hn, hel⟩ := DataW.trod_array ht hf
  rw [hC] at hlen
  have key : ∀ i, i < 32 → ∃ n : Int, l[i]? = some (.int .u8 n) ∧ 0 ≤ n ∧ n ≤ 255 := by
    intro i hi
    have hi1 := hel i hi
    rw [List.getElem?_eq_getElem (by omega)] at hi1
    obtain ⟨n, e1, _, hw⟩ := DataW.trod_int he hi1
    have hb := B_of_wf hw
    unfold B at hb
    refine ⟨n, ?_, hb⟩
    rw [hc, Nat.mul_one] at e1
    have e3 := congrArg (fun l => l[0]?) e1
    simpa using e3
  have hl : (List.map (fun i => (l[i]?).elim 0 fun v => match v with | .int _ n => n | _ => 0) (List.range 32)).length = 32 := by simp
  refine ⟨⟨List.map (fun i => (l[i]?).elim 0 fun v => match v with | .int _ n => n | _ => 0) (List.range 32), hl, fun n hn => ?_⟩, ?_⟩
  · simp only [List.mem_map, List.mem_range] at hn
    obtain ⟨i, hi, rfl⟩ := hn
    obtain ⟨n, e, hb⟩ := key i hi
    rw [e]
    exact hb
  · apply List.ext_getElem?
    intro i
    by_cases hi : i < 32
    · obtain ⟨n, e, _⟩ := key i hi
      rw [e, bv_at _ (by simpa using hi)]
      simp [List.getD_eq_getElem?_getD, hi, e]
    · rw [List.getElem?_eq_none (by omega), List.getElem?_eq_none (by rw [bv_length]; simp; omega)]
theorem open_id (ht : P.underlying t = some (.array 32 e)) (he : P.underlying e = some (.int .u8)) (hc : P.cellsOf e = 1) (hC : P.cellsOf t = 32) {v : Value} {d : DataW H} {p : List MemPlace}
    (hval : Value.okWide P W .any base t v) (h : DataW.Trod enc P W 0 (fun _ => true) true t v d p) : ∃ x : Idn, v = .agg (cs x) := by
  simp only [Value.okWide, ht] at hval
  obtain ⟨c, rfl, _⟩ := hval
  obtain ⟨fuel, hf⟩ := h
  obtain ⟨y, hy⟩ := cells_id ht he hc hC hf
  refine ⟨y, ?_⟩
  simp only [Value.cells] at hy
  rw [cs, ← hy]
theorem list_of {p : Nat → Idn → Prop} : ∀ n : Nat, (∀ i, i < n → ∃ x, p i x) → ∃ l : List Idn, l.length = n ∧ ∀ i, i < n → p i (l.getD i nought)
  | 0, _ => ⟨[], rfl, fun i hi => absurd hi (Nat.not_lt_zero i)⟩
  | n + 1, h => by
    obtain ⟨l, hl, hp⟩ := list_of n (fun i hi => h i (by omega))
    obtain ⟨x, hx⟩ := h n (by omega)
    refine ⟨l ++ [x], by simp [hl], fun i hi => ?_⟩
    rw [List.getD_eq_getElem?_getD]
    by_cases hin : i < n
    · rw [List.getElem?_append_left (by omega), ← List.getD_eq_getElem?_getD]
      exact hp i hin
    · have : i = n := by omega
      subst this
      rw [List.getElem?_append_right (by omega), hl, Nat.sub_self]
      exact hx
theorem open_ids {s : TypeId} (hs : P.underlying s = some (.slice t)) (ht : P.underlying t = some (.array 32 e)) (he : P.underlying e = some (.int .u8)) (hc : P.cellsOf e = 1) (hC : P.cellsOf t = 32) {v : Value} {d : DataW H} {p : List MemPlace}
    (hval : Value.okWide P W .any base s v) (h : DataW.Trod enc P W 0 (fun _ => true) true s v d p) : ∃ A cap l, v = .slice A (List.length l) cap ∧ SlI W A cap l := by
  obtain ⟨a, len, cap, rfl⟩ := okWide_slice hs hval
  obtain ⟨fuel, hf⟩ := h
  rcases DataW.trod_slice hs hf with ⟨hcs, _⟩ | ⟨x, len', cap', elems, rest, n, _, hcs, _, _, hl, hm, hel, hcell, _, _⟩
  · simp [Value.cells] at hcs
    obtain ⟨rfl, rfl, rfl⟩ := hcs
    exact ⟨none, 0, [], rfl, SlI.nil W⟩
  · simp [Value.cells] at hcs
    obtain ⟨rfl, rfl, rfl⟩ := hcs
    rw [hC] at hcell
    have key : ∀ i, i < len → ∃ y : Idn, ∀ j, j < 32 → W.cell? (x.add (i * 32 + j)) = some (.int .u8 (y.1.getD j 0)) := by
      intro i hi
      have hi1 := hcell i hi
      rw [List.getElem?_eq_getElem (by omega)] at hi1
      rw [Option.bind_eq_some_iff] at hi1
      obtain ⟨cl, hcl, htr⟩ := hi1
      obtain ⟨y, rfl⟩ := cells_id ht he hc hC htr
      refine ⟨y, fun j hj => ?_⟩
      obtain ⟨_, _, hg⟩ := World.cells?_some hcl
      have := hg j hj
      rw [Addr.add_add, bv_at _ (by rw [Idn_len]; exact hj)] at this
      exact this
    obtain ⟨l, hll, hp⟩ := list_of len key
    refine ⟨some x, cap, l, by rw [hll], by omega, hm, .inr ⟨x, rfl, fun i hi => ?_⟩⟩
    rw [flat_length, hll] at hi
    have f := flat_at l (i / 32) (i % 32) (by rw [hll]; omega) (by omega)
    have q := hp (i / 32) (by omega) (i % 32) (by omega)
    rw [show i / 32 * 32 + i % 32 = i by omega] at f q
    rw [q, f]
end
end Go.Proofs.YteojkfbnenfmkaaDoor.OpenI
namespace Go.Proofs.YteojkfbnenfmkaaDoor.OpenO
set_option maxRecDepth 100000
open Go Go.Deep Go.Joins Go.ChangeShapes Go.WideShapes Go.ChangeAt Go.RowKit Byt OpsM OpsW OpsC

theorem i64_of {n : Int} (h : (Lit.int .i64 n).wf = true) : I64 n := by
  unfold I64
  simpa [Lit.wf, IntKind.min, IntKind.max, IntKind.bits, IntKind.signed] using h
end Go.Proofs.YteojkfbnenfmkaaDoor.OpenO
namespace Go.Proofs.YteojkfbnenfmkaaDoor.OpenK
set_option maxRecDepth 100000
open Go Go.Deep Go.ChangeShapes Go.WideShapes Go.ChangeAt Go.RowKit IdM Byt IdW OpsM OpsW CmM StW CmW

section
variable {H : Type} {enc : TypeId × Value → H} {W : World}
theorem read_ids {P : Program} {t e s : TypeId} (hs : P.underlying s = some (.slice t)) (ht : P.underlying t = some (.array 32 e)) (he : P.underlying e = some (.int .u8)) (hc : P.cellsOf e = 1) (hC : P.cellsOf t = 32) (fuel : Nat) (cs : List Value) (y : DataW H × List MemPlace)
    (hf : DataW.trod enc P W 0 (fun _ => true) true fuel s cs = some y) : ∃ A cap l, cs = [.slice A (List.length l) cap] ∧ SlI W A cap l := by
  rcases DataW.trod_slice hs hf with ⟨rfl, _⟩ | ⟨x, len, cap, elems, rest, n, _, rfl, _, _, hl, hm, hel, hcell, _, _⟩
  · exact ⟨none, 0, [], rfl, SlI.nil W⟩
  · rw [hC] at hcell
    have key : ∀ i, i < len → ∃ y : Idn, ∀ j, j < 32 → W.cell? (x.add (i * 32 + j)) = some (.int .u8 (y.1.getD j 0)) := by
      intro i hi
      have hi1 := hcell i hi
      rw [List.getElem?_eq_getElem (by omega)] at hi1
      rw [Option.bind_eq_some_iff] at hi1
      obtain ⟨cl, hcl, htr⟩ := hi1
      obtain ⟨y, rfl⟩ := OpenI.cells_id ht he hc hC htr
      refine ⟨y, fun j hj => ?_⟩
      obtain ⟨_, _, hg⟩ := World.cells?_some hcl
      have := hg j hj
      rw [Addr.add_add, bv_at _ (by rw [Idn_len]; exact hj)] at this
      exact this
    obtain ⟨l, hll, hp⟩ := OpenI.list_of len key
    refine ⟨some x, cap, l, by rw [hll], by omega, hm, .inr ⟨x, rfl, fun i hi => ?_⟩⟩
    rw [flat_length, hll] at hi
    have f := flat_at l (i / 32) (i % 32) (by rw [hll]; omega) (by omega)
    have q := hp (i / 32) (by omega) (i % 32) (by omega)
    rw [show i / 32 * 32 + i % 32 = i by omega] at f q
    rw [q, f]
theorem read_ev {t : TypeId} {f0 f1 : Field} (hs : Tryd.prog.underlying t = some (.struct #[f0, f1])) (hC : Tryd.prog.cellsOf t = 2)
    (o0 : f0.offset = 0) (o1 : f1.offset = 1) (k0 : Tryd.prog.cellsOf f0.type = 1) (k1 : Tryd.prog.cellsOf f1.type = 1)
    (h0 : Tryd.prog.underlying f0.type = some (.int .i64)) (h1 : Tryd.prog.underlying f1.type = some (.int .i64)) (fuel : Nat) (cs : List Value) (y : DataW H × List MemPlace)
    (h : DataW.trod enc Tryd.prog W 0 (fun _ => true) true fuel t cs = some y) : ∃ m n : Int, cs = [.int .i64 m, .int .i64 n] ∧ I64 m ∧ I64 n := by
  obtain ⟨xs, n, _, _, hl, hlen, hf⟩ := DataW.trod_struct hs h
  rw [hC] at hl
  obtain ⟨a, b, rfl⟩ : ∃ a b, cs = [a, b] := by
    match cs, hl with
    | [a, b], _ => exact ⟨a, b, rfl⟩
  obtain ⟨y0, y1, rfl⟩ : ∃ a b, xs = [a, b] := by
    match xs, hlen with
    | [a, b], _ => exact ⟨a, b, rfl⟩
  have e0 := hf 0 f0 rfl
  have e1 := hf 1 f1 rfl
  rw [o0, k0] at e0
  rw [o1, k1] at e1
  simp only [List.drop_zero, List.take_succ_cons, List.take_zero, List.drop_succ_cons, List.getElem?_cons_zero, List.getElem?_cons_succ] at e0 e1
  obtain ⟨s, q0, _, w0⟩ := DataW.trod_int h0 e0
  obtain ⟨m, q1, _, w1⟩ := DataW.trod_int h1 e1
  simp only [List.cons.injEq, and_true] at q0 q1
  subst q0 q1
  exact ⟨s, m, rfl, OpenO.i64_of w0, OpenO.i64_of w1⟩
theorem read_op {t : TypeId} {f0 f1 f2 f3 : Field} (hs : Tryd.prog.underlying t = some (.struct #[f0, f1, f2, f3])) (hC : Tryd.prog.cellsOf t = 4)
    (o0 : f0.offset = 0) (o1 : f1.offset = 1) (o2 : f2.offset = 2) (o3 : f3.offset = 3) (k0 : Tryd.prog.cellsOf f0.type = 1) (k1 : Tryd.prog.cellsOf f1.type = 1) (k2 : Tryd.prog.cellsOf f2.type = 1) (k3 : Tryd.prog.cellsOf f3.type = 1)
    (h0 : Tryd.prog.underlying f0.type = some (.int .i64)) (h1 : Tryd.prog.underlying f1.type = some .string) (h2 : Tryd.prog.underlying f2.type = some .string) (h3 : Tryd.prog.underlying f3.type = some (.int .i64)) (fuel : Nat) (cs : List Value) (y : DataW H × List MemPlace)
    (h : DataW.trod enc Tryd.prog W 0 (fun _ => true) true fuel t cs = some y) : ∃ o : Opn, cs = (opc o).toList ∧ OpsC.Fit o := by
  obtain ⟨xs, n, _, _, hl, hlen, hf⟩ := DataW.trod_struct hs h
  rw [hC] at hl
  obtain ⟨a, b, c, d, rfl⟩ : ∃ a b c d, cs = [a, b, c, d] := by
    match cs, hl with
    | [a, b, c, d], _ => exact ⟨a, b, c, d, rfl⟩
  obtain ⟨y0, y1, y2, y3, rfl⟩ : ∃ a b c d, xs = [a, b, c, d] := by
    match xs, hlen with
    | [a, b, c, d], _ => exact ⟨a, b, c, d, rfl⟩
  have e0 := hf 0 f0 rfl
  have e1 := hf 1 f1 rfl
  have e2 := hf 2 f2 rfl
  have e3 := hf 3 f3 rfl
  rw [o0, k0] at e0
  rw [o1, k1] at e1
  rw [o2, k2] at e2
  rw [o3, k3] at e3
  simp only [List.drop_zero, List.take_succ_cons, List.take_zero, List.drop_succ_cons, List.getElem?_cons_zero, List.getElem?_cons_succ] at e0 e1 e2 e3
  obtain ⟨s, q0, _, w0⟩ := DataW.trod_int h0 e0
  obtain ⟨s1, q1, _, w1⟩ := DataW.trod_string h1 e1
  obtain ⟨s2, q2, _, w2⟩ := DataW.trod_string h2 e2
  obtain ⟨m, q3, _, w3⟩ := DataW.trod_int h3 e3
  simp only [List.cons.injEq, and_true] at q0 q1 q2 q3
  subst q0 q1 q2 q3
  exact ⟨⟨s, s1, s2, m⟩, rfl, ⟨OpenO.i64_of w0, OpenO.i64_of w3, w1, w2⟩⟩
theorem read_fields {t : TypeId} {f0 f1 f2 f3 : Field} (hs : Tryd.prog.underlying t = some (.struct #[f0, f1, f2, f3])) (hC : Tryd.prog.cellsOf t = 8)
    (o0 : f0.offset = 0) (o1 : f1.offset = 2) (o2 : f2.offset = 3) (o3 : f3.offset = 4) (k0 : Tryd.prog.cellsOf f0.type = 2) (k1 : Tryd.prog.cellsOf f1.type = 1) (k2 : Tryd.prog.cellsOf f2.type = 1) (k3 : Tryd.prog.cellsOf f3.type = 4)
    (t0 : f0.type = 24) (t1 : f1.type = 3) (t2 : f2.type = 25) (t3 : f3.type = 27) (fuel : Nat) (cs : List Value) (y : DataW H × List MemPlace)
    (h : DataW.trod enc Tryd.prog W 0 (fun _ => true) true fuel t cs = some y) : ∃ v : Cv, cs = CE.enc v ∧ In W v ∧ Fit v.c := by
  obtain ⟨xs, n, _, _, hl, hlen, hf⟩ := DataW.trod_struct hs h
  rw [hC] at hl
  obtain ⟨a, b, c, d, p, q, r, s, rfl⟩ : ∃ a b c d p q r s, cs = [a, b, c, d, p, q, r, s] := by
    match cs, hl with
    | [a, b, c, d, p, q, r, s], _ => exact ⟨a, b, c, d, p, q, r, s, rfl⟩
  obtain ⟨y0, y1, y2, y3, rfl⟩ : ∃ a b c d, xs = [a, b, c, d] := by
    match xs, hlen with
    | [a, b, c, d], _ => exact ⟨a, b, c, d, rfl⟩
  have e0 := hf 0 f0 rfl
  have e1 := hf 1 f1 rfl
  have e2 := hf 2 f2 rfl
  have e3 := hf 3 f3 rfl
  rw [o0, k0, t0] at e0
  rw [o1, k1, t1] at e1
  rw [o2, k2, t2] at e2
  rw [o3, k3, t3] at e3
  simp only [List.drop_zero, List.take_succ_cons, List.take_zero, List.drop_succ_cons, List.getElem?_cons_zero, List.getElem?_cons_succ] at e0 e1 e2 e3
  obtain ⟨m1, m2, q0, w0, w1⟩ := read_ev Tryd.underlying24 (by kernel_rfl) rfl rfl (by kernel_rfl) (by kernel_rfl) Tryd.underlying3 Tryd.underlying3 _ _ _ e0
  obtain ⟨g, q1, _, w2⟩ := DataW.trod_int Tryd.underlying3 e1
  obtain ⟨A, cap, l, q2, S⟩ := read_ids Tryd.underlying25 Tryd.underlying42 Tryd.underlying5 (by kernel_rfl) (by kernel_rfl) _ _ _ e2
  obtain ⟨o, q3, w3⟩ := read_op Tryd.underlying27 (by kernel_rfl) rfl rfl rfl rfl (by kernel_rfl) (by kernel_rfl) (by kernel_rfl) (by kernel_rfl) Tryd.underlying3 Tryd.underlying9 Tryd.underlying9 Tryd.underlying3 _ _ _ e3
  simp only [opc, List.cons.injEq, and_true] at q0 q1 q2 q3
  obtain ⟨rfl, rfl⟩ := q0
  obtain rfl := q1
  obtain rfl := q2
  obtain ⟨rfl, rfl, rfl, rfl⟩ := q3
  exact ⟨⟨A, cap, ⟨m1, m2, g, l, o⟩⟩, rfl, S, ⟨w0, w1, OpenO.i64_of w2, w3⟩⟩
theorem read_com (fuel : Nat) (cs : List Value) (y : DataW H × List MemPlace)
    (h : DataW.trod enc Tryd.prog W 0 (fun _ => true) true fuel 29 cs = some y) : ∃ v : Cv, cs = CE.enc v ∧ In W v ∧ Fit v.c :=
  read_fields Tryd.underlying29 (by kernel_rfl) rfl rfl rfl rfl (by kernel_rfl) (by kernel_rfl) (by kernel_rfl) (by kernel_rfl) rfl rfl rfl rfl fuel cs y h
theorem open_com {base : Nat} {v : Value} {d : DataW H} {p : List MemPlace}
    (hval : Value.okWide Tryd.prog W .any base 29 v) (h : DataW.Trod enc Tryd.prog W 0 (fun _ => true) true 29 v d p) : ∃ x : Cv, v = .agg (cc x) ∧ In W x ∧ Fit x.c := by
  obtain ⟨cs, rfl, hsz⟩ := okWide_struct Tryd.underlying29 hval
  obtain ⟨fuel, hf⟩ := h
  obtain ⟨x, hx, hi, hg⟩ := read_com fuel _ _ hf
  refine ⟨x, ?_, hi, hg⟩
  have hx2 : cs.toList = CE.enc x := by simpa [Value.cells] using hx
  have : cs.toList = (cc x).toList := hx2
  rw [show cs = cc x from Array.toList_inj.1 this]
end
end Go.Proofs.YteojkfbnenfmkaaDoor.OpenK
