/- One struct read whole inside a region that draws its order, whatever its fields. No condition. | One struct read whole inside a region that draws its order, guarded or not, whatever its fields. No condition. | How a reading gives a slice of structs that came in. No condition. | How a reading gives an id, and a slice of ids, that came in. | How a reading gives an operation that came in. -/
import Derived.Test.YtechkdhehipliaaDoorRowC
import Derived.Test.YtechkdhehipliaaDoorGrow
import Derived.Test.YtechkdhehipliaaDoorRowSJ2
import Derived.ProofKit
import Derived.OpenShut
import Derived.WideShapes
import Derived.Test.YtechkdhehipliaaDoorArrEqJ2
import Derived.Test.YtechkdhehipliaaDoorOpsC
import Derived.Lib.SmallJoins
namespace Go.Proofs.YtechkdhehipliaaDoor.RowG
set_option maxRecDepth 100000
open Go Go.RowKit Byt RowS RowB

variable {α : Type}
theorem range_load (E : Enc α) {w : World} {b off : Nat} {y : α} (h : w.rangeAt b off (E.enc y)) : (Instr.loadAt E.T (.pointer (some ⟨b, off, none⟩))).run Tryd.prog w = .ok (.agg (E.enc y).toArray) w :=
  run_loadAt_mid w b off E.T (E.enc y) _ h E.under E.row (E.size y)
theorem wpQuiet_load_row (E : Enc α) {ops : Array Oper} {C : World → Prop} {Q : Act → Prop} {a : Act} {o : Oper} {rest : List Oper} (hgd : o.guard = none) (x : Operand) (ho : o.op = .load E.T x)
    (b off : Nat) (hx : a.eval x = .pointer (some ⟨b, off, none⟩)) (y : α) (hc : ∀ w, C w → w.rangeAt b off (E.enc y)) (h : wpQuiet Tryd.prog ops C Q rest (a.put o.dst (.agg (E.enc y).toArray))) : wpQuiet Tryd.prog ops C Q (o :: rest) a := by
  refine BigFrame.wpQuiet_want (by simp [Region.wanted, hgd]) (fun K hK => ⟨.agg (E.enc y).toArray, fun w hw => ?_, hK _ h⟩)
  have q := range_load E (hc w hw)
  unfold Oper.quietAt execOp
  simp only [ho, hx, Sem.run_bind, q, Result.andThen_ok, Sem.run_pure]
  exact ⟨rfl, rfl⟩
theorem reads_row (E : Enc α) {l : List Oper} {i : Nat} {o : Oper} {r : List (Nat × Bool)} {a : Act} {w : World} {Q : Exit → Act → World → Prop} (hn : Grow.nth l i = some o) (hgd : o.guard = none) (x : Operand) (ho : o.op = .load E.T x)
    (b off : Nat) (hx : a.eval x = .pointer (some ⟨b, off, none⟩)) (y : α) (hc : w.rangeAt b off (E.enc y)) (h : Grow.Seq Tryd.prog l.toArray Q r (a.put o.dst (.agg (E.enc y).toArray)) w) : Grow.Seq Tryd.prog l.toArray Q ((i, true) :: r) a w :=
  Grow.reads hn (by unfold Grow.plain; rw [ho]) (wpQuiet_load_row E hgd x ho b off hx y (fun _ ⟨p, e⟩ => by rw [e]; exact range_below hc (below_regrown w p.d p.os)) (wpQuiet_nil h))
end Go.Proofs.YtechkdhehipliaaDoor.RowG
namespace Go.Proofs.YtechkdhehipliaaDoor.RowK
set_option maxRecDepth 100000
open Go Go.Sort Go.RowKit Byt RowS RowB RowG

variable {α : Type}
/-- As the walk meets it behind the guard. -/
theorem quiet_row (E : Enc α) {a : Act} {o : Oper} {K : Act → Prop} {w : World} (x : Operand) (ho : o.op = .load E.T x)
    (b off : Nat) (hx : a.eval x = .pointer (some ⟨b, off, none⟩)) (y : α) (hc : w.rangeAt b off (E.enc y)) (hk : K (a.put o.dst (.agg (E.enc y).toArray))) : o.quiet Tryd.prog a (fun w' => ∃ p : Regrown, w' = grow (redrawn w p.d) p.os) K := by
  refine ⟨.agg (E.enc y).toArray, fun u hu => ?_, hk⟩
  obtain ⟨p, rfl⟩ := hu
  have q := range_load E (range_below hc (below_regrown w p.d p.os))
  unfold Oper.quietAt execOp
  simp only [ho, hx, Sem.run_bind, q, Result.andThen_ok, Sem.run_pure]
  exact ⟨rfl, rfl⟩
end Go.Proofs.YtechkdhehipliaaDoor.RowK
namespace Go.Proofs.YtechkdhehipliaaDoor.OpenR
set_option maxRecDepth 100000
open Go Go.ChangeShapes Go.WideShapes Go.ChangeAt Go.RowKit Byt RowS

section
variable {H : Type} {enc : TypeId × Value → H} {W : World} {base : Nat} {α : Type}
theorem list_of {p : Nat → α → Prop} : ∀ n : Nat, (∀ i, i < n → ∃ x, p i x) → ∃ l : List α, l.length = n ∧ ∀ i x, l[i]? = some x → p i x
  | 0, _ => ⟨[], rfl, fun i x hx => by simp at hx⟩
  | n + 1, h => by
    obtain ⟨l, hl, hp⟩ := list_of n (fun i hi => h i (by omega))
    obtain ⟨x, hx⟩ := h n (by omega)
    refine ⟨l ++ [x], by simp [hl], fun i y hy => ?_⟩
    by_cases hin : i < n
    · rw [List.getElem?_append_left (by omega)] at hy
      exact hp i y hy
    · rw [List.getElem?_append_right (by omega), hl] at hy
      have hi : i - n = 0 := by
        have := (List.getElem?_eq_some_iff.1 hy).1
        simpa using this
      rw [hi] at hy
      obtain rfl : x = y := by simpa using hy
      rw [show i = n by omega]
      exact hx
/-- The cell at a place of a list's cells. -/
theorem flat_split (E : Enc α) {l : List α} {i : Nat} {v : Value} (h : (flat E l)[i]? = some v) : ∃ m j x, i = m * E.k + j ∧ l[m]? = some x ∧ (E.enc x)[j]? = some v := by
  have hi := (List.getElem?_eq_some_iff.1 h).1
  rw [flat_length] at hi
  have hp := E.pos
  have hm : i / E.k < l.length := (Nat.div_lt_iff_lt_mul hp).2 hi
  have hx : l[i / E.k]? = some l[i / E.k] := List.getElem?_eq_getElem hm
  have hj : i % E.k < (E.enc l[i / E.k]).length := by rw [E.len]; exact Nat.mod_lt _ hp
  have hv : (E.enc l[i / E.k])[i % E.k]? = some ((E.enc l[i / E.k])[i % E.k]'hj) := List.getElem?_eq_getElem hj
  have e : i = i / E.k * E.k + i % E.k := by rw [Nat.mul_comm]; exact (Nat.div_add_mod i E.k).symm
  have := flat_at E l _ _ _ _ hx hv
  rw [← e, h] at this
  exact ⟨_, _, _, e, hx, by rw [hv]; exact this.symm⟩
set_option maxRecDepth 100000 in
theorem open_rows (E : Enc α) {good : α → Prop} (hC : Tryd.prog.cellsOf E.T = E.k)
    (hread : ∀ (fuel : Nat) (cs : List Value) (y : DataW H × List MemPlace), DataW.trod enc Tryd.prog W 0 (fun _ => true) true fuel E.T cs = some y → ∃ x, cs = E.enc x ∧ good x) {v : Value} {d : DataW H} {p : List MemPlace}
    (hval : Value.okWide Tryd.prog W .any base E.S v) (h : DataW.Trod enc Tryd.prog W 0 (fun _ => true) true E.S v d p) : ∃ A cap l, v = .slice A (List.length l) cap ∧ SlR E W A cap l ∧ ∀ x ∈ l, good x := by
  obtain ⟨a, len, cap, rfl⟩ := okWide_slice E.slice hval
  obtain ⟨fuel, hf⟩ := h
  rcases DataW.trod_slice E.slice hf with ⟨hcs, _⟩ | ⟨x, len', cap', elems, rest, n, _, hcs, _, _, hl, hm, hel, hcell, _, _⟩
  · simp [Value.cells] at hcs
    obtain ⟨rfl, rfl, rfl⟩ := hcs
    exact ⟨none, 0, [], rfl, SlR.nil E W, by simp⟩
  · simp [Value.cells] at hcs
    obtain ⟨rfl, rfl, rfl⟩ := hcs
    rw [hC] at hcell
    have key : ∀ i, i < len → ∃ y : α, good y ∧ ∀ j u, (E.enc y)[j]? = some u → W.cell? (x.add (i * E.k + j)) = some u := by
      intro i hi
      have hi1 := hcell i hi
      rw [List.getElem?_eq_getElem (by omega)] at hi1
      rw [Option.bind_eq_some_iff] at hi1
      obtain ⟨cl, hcl, htr⟩ := hi1
      obtain ⟨y, rfl, hy⟩ := hread _ _ _ htr
      refine ⟨y, hy, fun j u hj => ?_⟩
      obtain ⟨_, _, hg⟩ := World.cells?_some hcl
      have hjl := (List.getElem?_eq_some_iff.1 hj).1
      rw [E.len] at hjl
      have := hg j hjl
      rw [Addr.add_add, hj] at this
      exact this
    obtain ⟨l, hll, hp⟩ := list_of len key
    refine ⟨some x, cap, l, by rw [hll], ⟨by omega, hm, .inr ⟨x, rfl, fun i u hu => ?_⟩⟩, fun y hy => ?_⟩
    · obtain ⟨m, j, y, rfl, hy, hj⟩ := flat_split E hu
      exact (hp m y hy).2 j u hj
    · obtain ⟨i, hi⟩ := List.mem_iff_getElem?.1 hy
      exact (hp i y hi).1
end
end Go.Proofs.YtechkdhehipliaaDoor.OpenR
namespace Go.Proofs.YtechkdhehipliaaDoor.OpenI
set_option maxRecDepth 100000
open Go Go.ChangeShapes Go.WideShapes Go.ChangeAt Go.RowKit IdM Byt IdW

section
variable {H : Type} {enc : TypeId × Value → H} {P : Program} {t e : TypeId} {W : World} {base : Nat}
/-- Thirty-two cells that read as an array of bytes are an id's. -/
theorem cells_id (ht : P.underlying t = some (.array 32 e)) (he : P.underlying e = some (.int .u8)) (hc : P.cellsOf e = 1) (hC : P.cellsOf t = 32) {sp : Nat → Bool} {hd : Bool} {fuel : Nat} {l : List Value} {x : DataW H × List MemPlace}
    (hf : DataW.trod enc P W base sp hd fuel t l = some x) : ∃ y : Idn, l = bv y.1 := by
  obtain ⟨xs, m, _, _, hlen, hn, hel⟩ := DataW.trod_array ht hf
  rw [hC] at hlen
  have key : ∀ i, i < 32 → ∃ n : Int, l[i]? = some (.int .u8 n) ∧ 0 ≤ n ∧ n ≤ 255 := by
    intro i hi
    have hi1 := hel i hi
    rw [List.getElem?_eq_getElem (by omega)] at hi1
    obtain ⟨n, e1, _, hw⟩ := DataW.trod_int he hi1
    have hb := B_of_wf hw
    unfold B at hb
    refine ⟨n, ?_, hb⟩
    rw [hc, Nat.mul_one] at e1
    have e3 := congrArg (fun l => l[0]?) e1
    simpa using e3
  have hl : (List.map (fun i => (l[i]?).elim 0 fun v => match v with | .int _ n => n | _ => 0) (List.range 32)).length = 32 := by simp
  refine ⟨⟨List.map (fun i => (l[i]?).elim 0 fun v => match v with | .int _ n => n | _ => 0) (List.range 32), hl, fun n hn => ?_⟩, ?_⟩
  · simp only [List.mem_map, List.mem_range] at hn
    obtain ⟨i, hi, rfl⟩ := hn
    obtain ⟨n, e, hb⟩ := key i hi
    rw [e]
    exact hb
  · apply List.ext_getElem?
    intro i
    by_cases hi : i < 32
    · obtain ⟨n, e, _⟩ := key i hi
      rw [e, bv_at _ (by simpa using hi)]
      simp [List.getD_eq_getElem?_getD, hi, e]
    · rw [List.getElem?_eq_none (by omega), List.getElem?_eq_none (by rw [bv_length]; simp; omega)]
theorem open_id (ht : P.underlying t = some (.array 32 e)) (he : P.underlying e = some (.int .u8)) (hc : P.cellsOf e = 1) (hC : P.cellsOf t = 32) {v : Value} {d : DataW H} {p : List MemPlace}
    (hval : Value.okWide P W .any base t v) (h : DataW.Trod enc P W 0 (fun _ => true) true t v d p) : ∃ x : Idn, v = .agg (cs x) := by
  simp only [Value.okWide, ht] at hval
  obtain ⟨c, rfl, _⟩ := hval
  obtain ⟨fuel, hf⟩ := h
  obtain ⟨y, hy⟩ := cells_id ht he hc hC hf
  refine ⟨y, ?_⟩
  simp only [Value.cells] at hy
  rw [cs, ← hy]
theorem list_of {p : Nat → Idn → Prop} : ∀ n : Nat, (∀ i, i < n → ∃ x, p i x) → ∃ l : List Idn, l.length = n ∧ ∀ i, i < n → p i (l.getD i nought)
  | 0, _ => ⟨[], rfl, fun i hi => absurd hi (Nat.not_lt_zero i)⟩
  | n + 1, h => by
    obtain ⟨l, hl, hp⟩ := list_of n (fun i hi => h i (by omega))
    obtain ⟨x, hx⟩ := h n (by omega)
    refine ⟨l ++ [x], by simp [hl], fun i hi => ?_⟩
    rw [List.getD_eq_getElem?_getD]
    by_cases hin : i < n
    · rw [List.getElem?_append_left (by omega), ← List.getD_eq_getElem?_getD]
      exact hp i hin
    · have : i = n := by omega
      subst this
      rw [List.getElem?_append_right (by omega), hl, Nat.sub_self]
      exact hx
theorem open_ids {s : TypeId} (hs : P.underlying s = some (.slice t)) (ht : P.underlying t = some (.array 32 e)) (he : P.underlying e = some (.int .u8)) (hc : P.cellsOf e = 1) (hC : P.cellsOf t = 32) {v : Value} {d : DataW H} {p : List MemPlace}
    (hval : Value.okWide P W .any base s v) (h : DataW.Trod enc P W 0 (fun _ => true) true s v d p) : ∃ A cap l, v = .slice A (List.length l) cap ∧ SlI W A cap l := by
  obtain ⟨a, len, cap, rfl⟩ := okWide_slice hs hval
  obtain ⟨fuel, hf⟩ := h
  rcases DataW.trod_slice hs hf with ⟨hcs, _⟩ | ⟨x, len', cap', elems, rest, n, _, hcs, _, _, hl, hm, hel, hcell, _, _⟩
  · simp [Value.cells] at hcs
    obtain ⟨rfl, rfl, rfl⟩ := hcs
    exact ⟨none, 0, [], rfl, SlI.nil W⟩
  · simp [Value.cells] at hcs
    obtain ⟨rfl, rfl, rfl⟩ := hcs
    rw [hC] at hcell
    have key : ∀ i, i < len → ∃ y : Idn, ∀ j, j < 32 → W.cell? (x.add (i * 32 + j)) = some (.int .u8 (y.1.getD j 0)) := by
      intro i hi
      have hi1 := hcell i hi
      rw [List.getElem?_eq_getElem (by omega)] at hi1
      rw [Option.bind_eq_some_iff] at hi1
      obtain ⟨cl, hcl, htr⟩ := hi1
      obtain ⟨y, rfl⟩ := cells_id ht he hc hC htr
      refine ⟨y, fun j hj => ?_⟩
      obtain ⟨_, _, hg⟩ := World.cells?_some hcl
      have := hg j hj
      rw [Addr.add_add, bv_at _ (by rw [Idn_len]; exact hj)] at this
      exact this
    obtain ⟨l, hll, hp⟩ := list_of len key
    refine ⟨some x, cap, l, by rw [hll], by omega, hm, .inr ⟨x, rfl, fun i hi => ?_⟩⟩
    rw [flat_length, hll] at hi
    have f := flat_at l (i / 32) (i % 32) (by rw [hll]; omega) (by omega)
    have q := hp (i / 32) (by omega) (i % 32) (by omega)
    rw [show i / 32 * 32 + i % 32 = i by omega] at f q
    rw [q, f]
end
end Go.Proofs.YtechkdhehipliaaDoor.OpenI
namespace Go.Proofs.YtechkdhehipliaaDoor.OpenO
set_option maxRecDepth 100000
open Go Go.Deep Go.Joins Go.ChangeShapes Go.WideShapes Go.ChangeAt Go.RowKit Byt OpsM OpsW OpsC

theorem i64_of {n : Int} (h : (Lit.int .i64 n).wf = true) : I64 n := by
  unfold I64
  simpa [Lit.wf, IntKind.min, IntKind.max, IntKind.bits, IntKind.signed] using h
theorem open_op {H : Type} {enc : TypeId × Value → H} {P : Program} {t : TypeId} {W : World} {base : Nat} {f0 f1 f2 f3 : Field} (hs : P.underlying t = some (.struct #[f0, f1, f2, f3])) (hone : oneCellFields P #[f0, f1, f2, f3] = true) (hC : P.cellsOf t = 4)
    (h0 : P.underlying f0.type = some (.int .i64)) (h1 : P.underlying f1.type = some .string) (h2 : P.underlying f2.type = some .string) (h3 : P.underlying f3.type = some (.int .i64)) {v : Value} {d : DataW H} {p : List MemPlace}
    (hval : Value.okWide P W .any base t v) (h : DataW.Trod enc P W 0 (fun _ => true) true t v d p) : ∃ o : Opn, v = .agg (opc o) ∧ Fit o := by
  obtain ⟨v0, v1, v2, v3, y0, y1, y2, y3, n, rfl, _, _, e0, e1, e2, e3⟩ := open_agg4 hs hone hC hval h
  obtain ⟨a, q0, _, w0⟩ := DataW.trod_int h0 e0
  obtain ⟨b, q3, _, w3⟩ := DataW.trod_int h3 e3
  obtain ⟨s, q1, _, w1⟩ := DataW.trod_string h1 e1
  obtain ⟨u, q2, _, w2⟩ := DataW.trod_string h2 e2
  simp only [List.cons.injEq, and_true] at q0 q1 q2 q3
  subst q0 q1 q2 q3
  exact ⟨⟨a, s, u, b⟩, rfl, ⟨i64_of w0, i64_of w3, w1, w2⟩⟩
end Go.Proofs.YtechkdhehipliaaDoor.OpenO
