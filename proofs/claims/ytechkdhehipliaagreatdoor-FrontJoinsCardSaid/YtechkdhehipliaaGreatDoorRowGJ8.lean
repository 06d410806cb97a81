/- One struct read whole inside a region that draws its order, whatever its fields. No condition. | One struct read whole inside a region that draws its order, guarded or not, whatever its fields. No condition. | How a reading gives a slice of structs that came in. No condition. | How a reading gives an id, and a slice of ids, that came in. | How a reading gives an operation that came in. | How a reading gives a commit that came in. No condition. | Lists of commits in memory. No condition. | Plain facts on what commits know by their places in a list, and on the order in which it is found out. No condition. -/
import Derived.Test.YtechkdhehipliaaGreatDoorRowSJ3
import Derived.Test.YtechkdhehipliaaGreatDoorEncMJ7
import Derived.ProofKit
import Derived.OpenShut
import Derived.WideShapes
import Derived.Test.YtechkdhehipliaaGreatDoorCmMJ3
import Derived.Test.YtechkdhehipliaaGreatDoorOpsKJ3
import Derived.Lib.SmallJoins
import Derived.Test.YtechkdhehipliaaGreatDoorRowFJ7
import Derived.Test.YtechkdhehipliaaGreatDoorRefWJ5
import Derived.Test.YtechkdhehipliaaGreatDoorCmAJ2
import Derived.Test.YtechkdhehipliaaGreatDoorRefEJ5
namespace Go.Proofs.YtechkdhehipliaaGreatDoor.RowG
set_option maxRecDepth 100000
open Go Go.RowKit Byt RowS RowB

variable {α : Type}
theorem range_load (E : Enc α) {w : World} {b off : Nat} {y : α} (h : w.rangeAt b off (E.enc y)) : (Instr.loadAt E.T (.pointer (some ⟨b, off, none⟩))).run Tryz.prog w = .ok (.agg (E.enc y).toArray) w :=
  run_loadAt_mid w b off E.T (E.enc y) _ h E.under E.row (E.size y)
theorem wpQuiet_load_row (E : Enc α) {ops : Array Oper} {C : World → Prop} {Q : Act → Prop} {a : Act} {o : Oper} {rest : List Oper} (hgd : o.guard = none) (x : Operand) (ho : o.op = .load E.T x)
    (b off : Nat) (hx : a.eval x = .pointer (some ⟨b, off, none⟩)) (y : α) (hc : ∀ w, C w → w.rangeAt b off (E.enc y)) (h : wpQuiet Tryz.prog ops C Q rest (a.put o.dst (.agg (E.enc y).toArray))) : wpQuiet Tryz.prog ops C Q (o :: rest) a := by
  refine BigFrame.wpQuiet_want (by simp [Region.wanted, hgd]) (fun K hK => ⟨.agg (E.enc y).toArray, fun w hw => ?_, hK _ h⟩)
  have q := range_load E (hc w hw)
  unfold Oper.quietAt execOp
  simp only [ho, hx, Sem.run_bind, q, Result.andThen_ok, Sem.run_pure]
  exact ⟨rfl, rfl⟩
theorem reads_row (E : Enc α) {l : List Oper} {i : Nat} {o : Oper} {r : List (Nat × Bool)} {a : Act} {w : World} {Q : Exit → Act → World → Prop} (hn : Grow.nth l i = some o) (hgd : o.guard = none) (x : Operand) (ho : o.op = .load E.T x)
    (b off : Nat) (hx : a.eval x = .pointer (some ⟨b, off, none⟩)) (y : α) (hc : w.rangeAt b off (E.enc y)) (h : Grow.Seq Tryz.prog l.toArray Q r (a.put o.dst (.agg (E.enc y).toArray)) w) : Grow.Seq Tryz.prog l.toArray Q ((i, true) :: r) a w :=
  Grow.reads hn (by unfold Grow.plain; rw [ho]) (wpQuiet_load_row E hgd x ho b off hx y (fun _ ⟨p, e⟩ => by rw [e]; exact range_below hc (below_regrown w p.d p.os)) (wpQuiet_nil h))
end Go.Proofs.YtechkdhehipliaaGreatDoor.RowG
namespace Go.Proofs.YtechkdhehipliaaGreatDoor.RowK
set_option maxRecDepth 100000
open Go Go.Sort Go.RowKit Byt RowS RowB RowG

variable {α : Type}
/-- As the walk meets it behind the guard. -/
theorem quiet_row (E : Enc α) {a : Act} {o : Oper} {K : Act → Prop} {w : World} (x : Operand) (ho : o.op = .load E.T x)
    (b off : Nat) (hx : a.eval x = .pointer (some ⟨b, off, none⟩)) (y : α) (hc : w.rangeAt b off (E.enc y)) (hk : K (a.put o.dst (.agg (E.enc y).toArray))) : o.quiet Tryz.prog a (fun w' => ∃ p : Regrown, w' = grow (redrawn w p.d) p.os) K := by
  refine ⟨.agg (E.enc y).toArray, fun u hu => ?_, hk⟩
  obtain ⟨p, rfl⟩ := hu
  have q := range_load E (range_below hc (below_regrown w p.d p.os))
  unfold Oper.quietAt execOp
  simp only [ho, hx, Sem.run_bind, q, Result.andThen_ok, Sem.run_pure]
  exact ⟨rfl, rfl⟩
end Go.Proofs.YtechkdhehipliaaGreatDoor.RowK
namespace Go.Proofs.YtechkdhehipliaaGreatDoor.OpenR
set_option maxRecDepth 100000
open Go Go.ChangeShapes Go.WideShapes Go.ChangeAt Go.RowKit Byt RowS

section
variable {H : Type} {enc : TypeId × Value → H} {W : World} {base : Nat} {α : Type}
theorem list_of {p : Nat → α → Prop} : ∀ n : Nat, (∀ i, i < n → ∃ x, p i x) → ∃ l : List α, l.length = n ∧ ∀ i x, l[i]? = some x → p i x
  | 0, _ => ⟨[], rfl, fun i x hx => by simp at hx⟩
  | n + 1, h => by
    obtain ⟨l, hl, hp⟩ := list_of n (fun i hi => h i (by omega))
    obtain ⟨x, hx⟩ := h n (by omega)
    refine ⟨l ++ [x], by simp [hl], fun i y hy => ?_⟩
    by_cases hin : i < n
    · rw [List.getElem?_append_left (by omega)] at hy
      exact hp i y hy
    · rw [List.getElem?_append_right (by omega), hl] at hy
      have hi : i - n = 0 := by
        have := (List.getElem?_eq_some_iff.1 hy).1
        simpa using this
      rw [hi] at hy
      obtain rfl : x = y := by simpa using hy
      rw [show i = n by omega]
      exact hx
/-- The cell at a place of a list's cells. -/
theorem flat_split (E : Enc α) {l : List α} {i : Nat} {v : Value} (h : (flat E l)[i]? = some v) : ∃ m j x, i = m * E.k + j ∧ l[m]? = some x ∧ (E.enc x)[j]? = some v := by
  have hi := (List.getElem?_eq_some_iff.1 h).1
  rw [flat_length] at hi
  have hp := E.pos
  have hm : i / E.k < l.length := (Nat.div_lt_iff_lt_mul hp).2 hi
  have hx : l[i / E.k]? = some l[i / E.k] := List.getElem?_eq_getElem hm
  have hj : i % E.k < (E.enc l[i / E.k]).length := by rw [E.len]; exact Nat.mod_lt _ hp
  have hv : (E.enc l[i / E.k])[i % E.k]? = some ((E.enc l[i / E.k])[i % E.k]'hj) := List.getElem?_eq_getElem hj
  have e : i = i / E.k * E.k + i % E.k := by rw [Nat.mul_comm]; exact (Nat.div_add_mod i E.k).symm
  have := flat_at E l _ _ _ _ hx hv
  rw [← e, h] at this
  exact ⟨_, _, _, e, hx, by rw [hv]; exact this.symm⟩
set_option maxRecDepth 100000 in
theorem open_rows (E : Enc α) {good : α → Prop} (hC : Tryz.prog.cellsOf E.T = E.k)
    (hread : ∀ (fuel : Nat) (cs : List Value) (y : DataW H × List MemPlace), DataW.trod enc Tryz.prog W 0 (fun _ => true) true fuel E.T cs = some y → ∃ x, cs = E.enc x ∧ good x) {v : Value} {d : DataW H} {p : List MemPlace}
    (hval : Value.okWide Tryz.prog W .any base E.S v) (h : DataW.Trod enc Tryz.prog W 0 (fun _ => true) true E.S v d p) : ∃ A cap l, v = .slice A (List.length l) cap ∧ SlR E W A cap l ∧ ∀ x ∈ l, good x := by
  obtain ⟨a, len, cap, rfl⟩ := okWide_slice E.slice hval
  obtain ⟨fuel, hf⟩ := h
  rcases DataW.trod_slice E.slice hf with ⟨hcs, _⟩ | ⟨x, len', cap', elems, rest, n, _, hcs, _, _, hl, hm, hel, hcell, _, _⟩
  · simp [Value.cells] at hcs
    obtain ⟨rfl, rfl, rfl⟩ := hcs
    exact ⟨none, 0, [], rfl, SlR.nil E W, by simp⟩
  · simp [Value.cells] at hcs
    obtain ⟨rfl, rfl, rfl⟩ := hcs
    rw [hC] at hcell
    have key : ∀ i, i < len → ∃ y : α, good y ∧ ∀ j u, (E.enc y)[j]? = some u → W.cell? (x.add (i * E.k + j)) = some u := by
      intro i hi
      have hi1 := hcell i hi
      rw [List.getElem?_eq_getElem (by omega)] at hi1
      rw [Option.bind_eq_some_iff] at hi1
      obtain ⟨cl, hcl, htr⟩ := hi1
      obtain ⟨y, rfl, hy⟩ := hread _ _ _ htr
      refine ⟨y, hy, fun j u hj => ?_⟩
      obtain ⟨_, _, hg⟩ := World.cells?_some hcl
      have hjl := (List.getElem?_eq_some_iff.1 hj).1
      rw [E.len] at hjl
      have := hg j hjl
      rw [Addr.add_add, hj] at this
      exact this
    obtain ⟨l, hll, hp⟩ := list_of len key
    refine ⟨some x, cap, l, by rw [hll], ⟨by omega, hm, .inr ⟨x, rfl, fun i u hu => ?_⟩⟩, fun y hy => ?_⟩
    · obtain ⟨m, j, y, rfl, hy, hj⟩ := flat_split E hu
      exact (hp m y hy).2 j u hj
    · obtain ⟨i, hi⟩ := List.mem_iff_getElem?.1 hy
      exact (hp i y hi).1
end
end Go.Proofs.YtechkdhehipliaaGreatDoor.OpenR
namespace Go.Proofs.YtechkdhehipliaaGreatDoor.OpenI
set_option maxRecDepth 100000
open Go Go.ChangeShapes Go.WideShapes Go.ChangeAt Go.RowKit IdM Byt IdW

section
variable {H : Type} {enc : TypeId × Value → H} {P : Program} {t e : TypeId} {W : World} {base : Nat}
/-- Thirty-two cells that read as an array of bytes are an id's. -/
theorem cells_id (ht : P.underlying t = some (.array 32 e)) (he : P.underlying e = some (.int .u8)) (hc : P.cellsOf e = 1) (hC : P.cellsOf t = 32) {sp : Nat → Bool} {hd : Bool} {fuel : Nat} {l : List Value} {x : DataW H × List MemPlace}
    (hf : DataW.trod enc P W base sp hd fuel t l = some x) : ∃ y : Idn, l = bv y.1 := by
  obtain ⟨xs, m, _, _, hlen, hn, hel⟩ := DataW.trod_array ht hf
  rw [hC] at hlen
  have key : ∀ i, i < 32 → ∃ n : Int, l[i]? = some (.int .u8 n) ∧ 0 ≤ n ∧ n ≤ 255 := by
    intro i hi
    have hi1 := hel i hi
    rw [List.getElem?_eq_getElem (by omega)] at hi1
    obtain ⟨n, e1, _, hw⟩ := DataW.trod_int he hi1
    have hb := B_of_wf hw
    unfold B at hb
    refine ⟨n, ?_, hb⟩
    rw [hc, Nat.mul_one] at e1
    have e3 := congrArg (fun l => l[0]?) e1
    simpa using e3
  have hl : (List.map (fun i => (l[i]?).elim 0 fun v => match v with | .int _ n => n | _ => 0) (List.range 32)).length = 32 := by simp
  refine ⟨⟨List.map (fun i => (l[i]?).elim 0 fun v => match v with | .int _ n => n | _ => 0) (List.range 32), hl, fun n hn => ?_⟩, ?_⟩
  · simp only [List.mem_map, List.mem_range] at hn
    obtain ⟨i, hi, rfl⟩ := hn
    obtain ⟨n, e, hb⟩ := key i hi
    rw [e]
    exact hb
  · apply List.ext_getElem?
    intro i
    by_cases hi : i < 32
    · obtain ⟨n, e, _⟩ := key i hi
      rw [e, bv_at _ (by simpa using hi)]
      simp [List.getD_eq_getElem?_getD, hi, e]
    · rw [List.getElem?_eq_none (by omega), List.getElem?_eq_none (by rw [bv_length]; simp; omega)]
theorem open_id (ht : P.underlying t = some (.array 32 e)) (he : P.underlying e = some (.int .u8)) (hc : P.cellsOf e = 1) (hC : P.cellsOf t = 32) {v : Value} {d : DataW H} {p : List MemPlace}
    (hval : Value.okWide P W .any base t v) (h : DataW.Trod enc P W 0 (fun _ => true) true t v d p) : ∃ x : Idn, v = .agg (cs x) := by
  simp only [Value.okWide, ht] at hval
  obtain ⟨c, rfl, _⟩ := hval
  obtain ⟨fuel, hf⟩ := h
  obtain ⟨y, hy⟩ := cells_id ht he hc hC hf
  refine ⟨y, ?_⟩
  simp only [Value.cells] at hy
  rw [cs, ← hy]
theorem list_of {p : Nat → Idn → Prop} : ∀ n : Nat, (∀ i, i < n → ∃ x, p i x) → ∃ l : List Idn, l.length = n ∧ ∀ i, i < n → p i (l.getD i nought)
  | 0, _ => ⟨[], rfl, fun i hi => absurd hi (Nat.not_lt_zero i)⟩
  | n + 1, h => by
    obtain ⟨l, hl, hp⟩ := list_of n (fun i hi => h i (by omega))
    obtain ⟨x, hx⟩ := h n (by omega)
    refine ⟨l ++ [x], by simp [hl], fun i hi => ?_⟩
    rw [List.getD_eq_getElem?_getD]
    by_cases hin : i < n
    · rw [List.getElem?_append_left (by omega), ← List.getD_eq_getElem?_getD]
      exact hp i hin
    · have : i = n := by omega
      subst this
      rw [List.getElem?_append_right (by omega), hl, Nat.sub_self]
      exact hx
theorem open_ids {s : TypeId} (hs : P.underlying s = some (.slice t)) (ht : P.underlying t = some (.array 32 e)) (he : P.underlying e = some (.int .u8)) (hc : P.cellsOf e = 1) (hC : P.cellsOf t = 32) {v : Value} {d : DataW H} {p : List MemPlace}
    (hval : Value.okWide P W .any base s v) (h : DataW.Trod enc P W 0 (fun _ => true) true s v d p) : ∃ A cap l, v = .slice A (List.length l) cap ∧ SlI W A cap l := by
  obtain ⟨a, len, cap, rfl⟩ := okWide_slice hs hval
  obtain ⟨fuel, hf⟩ := h
  rcases DataW.trod_slice hs hf with ⟨hcs, _⟩ | ⟨x, len', cap', elems, rest, n, _, hcs, _, _, hl, hm, hel, hcell, _, _⟩
  · simp [Value.cells] at hcs
    obtain ⟨rfl, rfl, rfl⟩ := hcs
    exact ⟨none, 0, [], rfl, SlI.nil W⟩
  · simp [Value.cells] at hcs
    obtain ⟨rfl, rfl, rfl⟩ := hcs
    rw [hC] at hcell
    have key : ∀ i, i < len → ∃ y : Idn, ∀ j, j < 32 → W.cell? (x.add (i * 32 + j)) = some (.int .u8 (y.1.getD j 0)) := by
      intro i hi
      have hi1 := hcell i hi
      rw [List.getElem?_eq_getElem (by omega)] at hi1
      rw [Option.bind_eq_some_iff] at hi1
      obtain ⟨cl, hcl, htr⟩ := hi1
      obtain ⟨y, rfl⟩ := cells_id ht he hc hC htr
      refine ⟨y, fun j hj => ?_⟩
      obtain ⟨_, _, hg⟩ := World.cells?_some hcl
      have := hg j hj
      rw [Addr.add_add, bv_at _ (by rw [Idn_len]; exact hj)] at this
      exact this
    obtain ⟨l, hll, hp⟩ := list_of len key
    refine ⟨some x, cap, l, by rw [hll], by omega, hm, .inr ⟨x, rfl, fun i hi => ?_⟩⟩
    rw [flat_length, hll] at hi
    have f := flat_at l (i / 32) (i % 32) (by rw [hll]; omega) (by omega)
    have q := hp (i / 32) (by omega) (i % 32) (by omega)
    rw [show i / 32 * 32 + i % 32 = i by omega] at f q
    rw [q, f]
end
end Go.Proofs.YtechkdhehipliaaGreatDoor.OpenI
namespace Go.Proofs.YtechkdhehipliaaGreatDoor.OpenO
set_option maxRecDepth 100000
open Go Go.Deep Go.Joins Go.ChangeShapes Go.WideShapes Go.ChangeAt Go.RowKit Byt OpsM OpsW OpsC

theorem i64_of {n : Int} (h : (Lit.int .i64 n).wf = true) : I64 n := by
  unfold I64
  simpa [Lit.wf, IntKind.min, IntKind.max, IntKind.bits, IntKind.signed] using h
theorem open_op {H : Type} {enc : TypeId × Value → H} {P : Program} {t : TypeId} {W : World} {base : Nat} {f0 f1 f2 f3 : Field} (hs : P.underlying t = some (.struct #[f0, f1, f2, f3])) (hone : oneCellFields P #[f0, f1, f2, f3] = true) (hC : P.cellsOf t = 4)
    (h0 : P.underlying f0.type = some (.int .i64)) (h1 : P.underlying f1.type = some .string) (h2 : P.underlying f2.type = some .string) (h3 : P.underlying f3.type = some (.int .i64)) {v : Value} {d : DataW H} {p : List MemPlace}
    (hval : Value.okWide P W .any base t v) (h : DataW.Trod enc P W 0 (fun _ => true) true t v d p) : ∃ o : Opn, v = .agg (opc o) ∧ Fit o := by
  obtain ⟨v0, v1, v2, v3, y0, y1, y2, y3, n, rfl, _, _, e0, e1, e2, e3⟩ := open_agg4 hs hone hC hval h
  obtain ⟨a, q0, _, w0⟩ := DataW.trod_int h0 e0
  obtain ⟨b, q3, _, w3⟩ := DataW.trod_int h3 e3
  obtain ⟨s, q1, _, w1⟩ := DataW.trod_string h1 e1
  obtain ⟨u, q2, _, w2⟩ := DataW.trod_string h2 e2
  simp only [List.cons.injEq, and_true] at q0 q1 q2 q3
  subst q0 q1 q2 q3
  exact ⟨⟨a, s, u, b⟩, rfl, ⟨i64_of w0, i64_of w3, w1, w2⟩⟩
end Go.Proofs.YtechkdhehipliaaGreatDoor.OpenO
namespace Go.Proofs.YtechkdhehipliaaGreatDoor.OpenK
set_option maxRecDepth 100000
open Go Go.Deep Go.ChangeShapes Go.WideShapes Go.ChangeAt Go.RowKit IdM Byt IdW OpsM OpsW CmM StW CmW

section
variable {H : Type} {enc : TypeId × Value → H} {W : World}
theorem read_ids {P : Program} {t e s : TypeId} (hs : P.underlying s = some (.slice t)) (ht : P.underlying t = some (.array 32 e)) (he : P.underlying e = some (.int .u8)) (hc : P.cellsOf e = 1) (hC : P.cellsOf t = 32) (fuel : Nat) (cs : List Value) (y : DataW H × List MemPlace)
    (hf : DataW.trod enc P W 0 (fun _ => true) true fuel s cs = some y) : ∃ A cap l, cs = [.slice A (List.length l) cap] ∧ SlI W A cap l := by
  rcases DataW.trod_slice hs hf with ⟨rfl, _⟩ | ⟨x, len, cap, elems, rest, n, _, rfl, _, _, hl, hm, hel, hcell, _, _⟩
  · exact ⟨none, 0, [], rfl, SlI.nil W⟩
  · rw [hC] at hcell
    have key : ∀ i, i < len → ∃ y : Idn, ∀ j, j < 32 → W.cell? (x.add (i * 32 + j)) = some (.int .u8 (y.1.getD j 0)) := by
      intro i hi
      have hi1 := hcell i hi
      rw [List.getElem?_eq_getElem (by omega)] at hi1
      rw [Option.bind_eq_some_iff] at hi1
      obtain ⟨cl, hcl, htr⟩ := hi1
      obtain ⟨y, rfl⟩ := OpenI.cells_id ht he hc hC htr
      refine ⟨y, fun j hj => ?_⟩
      obtain ⟨_, _, hg⟩ := World.cells?_some hcl
      have := hg j hj
      rw [Addr.add_add, bv_at _ (by rw [Idn_len]; exact hj)] at this
      exact this
    obtain ⟨l, hll, hp⟩ := OpenI.list_of len key
    refine ⟨some x, cap, l, by rw [hll], by omega, hm, .inr ⟨x, rfl, fun i hi => ?_⟩⟩
    rw [flat_length, hll] at hi
    have f := flat_at l (i / 32) (i % 32) (by rw [hll]; omega) (by omega)
    have q := hp (i / 32) (by omega) (i % 32) (by omega)
    rw [show i / 32 * 32 + i % 32 = i by omega] at f q
    rw [q, f]
theorem read_ev {t : TypeId} {f0 f1 : Field} (hs : Tryz.prog.underlying t = some (.struct #[f0, f1])) (hC : Tryz.prog.cellsOf t = 2)
    (o0 : f0.offset = 0) (o1 : f1.offset = 1) (k0 : Tryz.prog.cellsOf f0.type = 1) (k1 : Tryz.prog.cellsOf f1.type = 1)
    (h0 : Tryz.prog.underlying f0.type = some (.int .i64)) (h1 : Tryz.prog.underlying f1.type = some (.int .i64)) (fuel : Nat) (cs : List Value) (y : DataW H × List MemPlace)
    (h : DataW.trod enc Tryz.prog W 0 (fun _ => true) true fuel t cs = some y) : ∃ m n : Int, cs = [.int .i64 m, .int .i64 n] ∧ I64 m ∧ I64 n := by
  obtain ⟨xs, n, _, _, hl, hlen, hf⟩ := DataW.trod_struct hs h
  rw [hC] at hl
  obtain ⟨a, b, rfl⟩ : ∃ a b, cs = [a, b] := by
    match cs, hl with
    | [a, b], _ => exact ⟨a, b, rfl⟩
  obtain ⟨y0, y1, rfl⟩ : ∃ a b, xs = [a, b] := by
    match xs, hlen with
    | [a, b], _ => exact ⟨a, b, rfl⟩
  have e0 := hf 0 f0 rfl
  have e1 := hf 1 f1 rfl
  rw [o0, k0] at e0
  rw [o1, k1] at e1
  simp only [List.drop_zero, List.take_succ_cons, List.take_zero, List.drop_succ_cons, List.getElem?_cons_zero, List.getElem?_cons_succ] at e0 e1
  obtain ⟨s, q0, _, w0⟩ := DataW.trod_int h0 e0
  obtain ⟨m, q1, _, w1⟩ := DataW.trod_int h1 e1
  simp only [List.cons.injEq, and_true] at q0 q1
  subst q0 q1
  exact ⟨s, m, rfl, OpenO.i64_of w0, OpenO.i64_of w1⟩
theorem read_op {t : TypeId} {f0 f1 f2 f3 : Field} (hs : Tryz.prog.underlying t = some (.struct #[f0, f1, f2, f3])) (hC : Tryz.prog.cellsOf t = 4)
    (o0 : f0.offset = 0) (o1 : f1.offset = 1) (o2 : f2.offset = 2) (o3 : f3.offset = 3) (k0 : Tryz.prog.cellsOf f0.type = 1) (k1 : Tryz.prog.cellsOf f1.type = 1) (k2 : Tryz.prog.cellsOf f2.type = 1) (k3 : Tryz.prog.cellsOf f3.type = 1)
    (h0 : Tryz.prog.underlying f0.type = some (.int .i64)) (h1 : Tryz.prog.underlying f1.type = some .string) (h2 : Tryz.prog.underlying f2.type = some .string) (h3 : Tryz.prog.underlying f3.type = some (.int .i64)) (fuel : Nat) (cs : List Value) (y : DataW H × List MemPlace)
    (h : DataW.trod enc Tryz.prog W 0 (fun _ => true) true fuel t cs = some y) : ∃ o : Opn, cs = (opc o).toList ∧ OpsC.Fit o := by
  obtain ⟨xs, n, _, _, hl, hlen, hf⟩ := DataW.trod_struct hs h
  rw [hC] at hl
  obtain ⟨a, b, c, d, rfl⟩ : ∃ a b c d, cs = [a, b, c, d] := by
    match cs, hl with
    | [a, b, c, d], _ => exact ⟨a, b, c, d, rfl⟩
  obtain ⟨y0, y1, y2, y3, rfl⟩ : ∃ a b c d, xs = [a, b, c, d] := by
    match xs, hlen with
    | [a, b, c, d], _ => exact ⟨a, b, c, d, rfl⟩
  have e0 := hf 0 f0 rfl
  have e1 := hf 1 f1 rfl
  have e2 := hf 2 f2 rfl
  have e3 := hf 3 f3 rfl
  rw [o0, k0] at e0
  rw [o1, k1] at e1
  rw [o2, k2] at e2
  rw [o3, k3] at e3
  simp only [List.drop_zero, List.take_succ_cons, List.take_zero, List.drop_succ_cons, List.getElem?_cons_zero, List.getElem?_cons_succ] at e0 e1 e2 e3
  obtain ⟨s, q0, _, w0⟩ := DataW.trod_int h0 e0
  obtain ⟨s1, q1, _, w1⟩ := DataW.trod_string h1 e1
  obtain ⟨s2, q2, _, w2⟩ := DataW.trod_string h2 e2
  obtain ⟨m, q3, _, w3⟩ := DataW.trod_int h3 e3
  simp only [List.cons.injEq, and_true] at q0 q1 q2 q3
  subst q0 q1 q2 q3
  exact ⟨⟨s, s1, s2, m⟩, rfl, ⟨OpenO.i64_of w0, OpenO.i64_of w3, w1, w2⟩⟩
theorem read_fields {t : TypeId} {f0 f1 f2 f3 : Field} (hs : Tryz.prog.underlying t = some (.struct #[f0, f1, f2, f3])) (hC : Tryz.prog.cellsOf t = 8)
    (o0 : f0.offset = 0) (o1 : f1.offset = 2) (o2 : f2.offset = 3) (o3 : f3.offset = 4) (k0 : Tryz.prog.cellsOf f0.type = 2) (k1 : Tryz.prog.cellsOf f1.type = 1) (k2 : Tryz.prog.cellsOf f2.type = 1) (k3 : Tryz.prog.cellsOf f3.type = 4)
    (t0 : f0.type = 34) (t1 : f1.type = 3) (t2 : f2.type = 23) (t3 : f3.type = 36) (fuel : Nat) (cs : List Value) (y : DataW H × List MemPlace)
    (h : DataW.trod enc Tryz.prog W 0 (fun _ => true) true fuel t cs = some y) : ∃ v : Cv, cs = CE.enc v ∧ In W v ∧ Fit v.c := by
  obtain ⟨xs, n, _, _, hl, hlen, hf⟩ := DataW.trod_struct hs h
  rw [hC] at hl
  obtain ⟨a, b, c, d, p, q, r, s, rfl⟩ : ∃ a b c d p q r s, cs = [a, b, c, d, p, q, r, s] := by
    match cs, hl with
    | [a, b, c, d, p, q, r, s], _ => exact ⟨a, b, c, d, p, q, r, s, rfl⟩
  obtain ⟨y0, y1, y2, y3, rfl⟩ : ∃ a b c d, xs = [a, b, c, d] := by
    match xs, hlen with
    | [a, b, c, d], _ => exact ⟨a, b, c, d, rfl⟩
  have e0 := hf 0 f0 rfl
  have e1 := hf 1 f1 rfl
  have e2 := hf 2 f2 rfl
  have e3 := hf 3 f3 rfl
  rw [o0, k0, t0] at e0
  rw [o1, k1, t1] at e1
  rw [o2, k2, t2] at e2
  rw [o3, k3, t3] at e3
  simp only [List.drop_zero, List.take_succ_cons, List.take_zero, List.drop_succ_cons, List.getElem?_cons_zero, List.getElem?_cons_succ] at e0 e1 e2 e3
  obtain ⟨m1, m2, q0, w0, w1⟩ := read_ev Tryz.underlying34 (by kernel_rfl) rfl rfl (by kernel_rfl) (by kernel_rfl) Tryz.underlying3 Tryz.underlying3 _ _ _ e0
  obtain ⟨g, q1, _, w2⟩ := DataW.trod_int Tryz.underlying3 e1
  obtain ⟨A, cap, l, q2, S⟩ := read_ids Tryz.underlying23 Tryz.underlying42 Tryz.underlying5 (by kernel_rfl) (by kernel_rfl) _ _ _ e2
  obtain ⟨o, q3, w3⟩ := read_op Tryz.underlying36 (by kernel_rfl) rfl rfl rfl rfl (by kernel_rfl) (by kernel_rfl) (by kernel_rfl) (by kernel_rfl) Tryz.underlying3 Tryz.underlying9 Tryz.underlying9 Tryz.underlying3 _ _ _ e3
  simp only [opc, List.cons.injEq, and_true] at q0 q1 q2 q3
  obtain ⟨rfl, rfl⟩ := q0
  obtain rfl := q1
  obtain rfl := q2
  obtain ⟨rfl, rfl, rfl, rfl⟩ := q3
  exact ⟨⟨A, cap, ⟨m1, m2, g, l, o⟩⟩, rfl, S, ⟨w0, w1, OpenO.i64_of w2, w3⟩⟩
theorem read_com (fuel : Nat) (cs : List Value) (y : DataW H × List MemPlace)
    (h : DataW.trod enc Tryz.prog W 0 (fun _ => true) true fuel 38 cs = some y) : ∃ v : Cv, cs = CE.enc v ∧ In W v ∧ Fit v.c :=
  read_fields Tryz.underlying38 (by kernel_rfl) rfl rfl rfl rfl (by kernel_rfl) (by kernel_rfl) (by kernel_rfl) (by kernel_rfl) rfl rfl rfl rfl fuel cs y h
theorem open_com {base : Nat} {v : Value} {d : DataW H} {p : List MemPlace}
    (hval : Value.okWide Tryz.prog W .any base 38 v) (h : DataW.Trod enc Tryz.prog W 0 (fun _ => true) true 38 v d p) : ∃ x : Cv, v = .agg (cc x) ∧ In W x ∧ Fit x.c := by
  obtain ⟨cs, rfl, hsz⟩ := okWide_struct Tryz.underlying38 hval
  obtain ⟨fuel, hf⟩ := h
  obtain ⟨x, hx, hi, hg⟩ := read_com fuel _ _ hf
  refine ⟨x, ?_, hi, hg⟩
  have hx2 : cs.toList = CE.enc x := by simpa [Value.cells] using hx
  have : cs.toList = (cc x).toList := hx2
  rw [show cs = cc x from Array.toList_inj.1 this]
end
end Go.Proofs.YtechkdhehipliaaGreatDoor.OpenK
namespace Go.Proofs.YtechkdhehipliaaGreatDoor.DgW
set_option maxRecDepth 100000
open Go Go.Sort Go.ChangeShapes Go.WideShapes Go.ChangeAt Go.RowKit Byt IdM IdW OpsM OpsW RowS CmM StW CmW CmX CmY

/-- How a commit lies in a row. -/
def KE : RowS.Enc Cv where
  T := 38
  S := 22
  k := 8
  bytes := 96
  d := _
  enc v := [.int .i64 v.c.node, .int .i64 v.c.seq, .int .i64 v.c.gen, .slice v.a v.c.ps.length v.k, .int .i64 v.c.op.kind, .string v.c.op.key, .string v.c.op.elem, .int .i64 v.c.op.n]
  zero := noV
  len _ := rfl
  one c v hv := by
    simp only [List.mem_cons, List.not_mem_nil, or_false] at hv
    rcases hv with rfl | rfl | rfl | rfl | rfl | rfl | rfl | rfl <;> rfl
  pos := by omega
  small := by omega
  info := by kernel_rfl
  slice := Tryz.underlying22
  under := Tryz.underlying38
  row := rfl
/-- The slice holds these commits, whose parents lie in slices. -/
structure SlK (w : World) (A : Option Addr) (cap : Nat) (l : List Cv) : Prop where
  row : SlR KE w A cap l
  each : ∀ v ∈ l, In w v ∧ Fit v.c
theorem SlK.below {w w' : World} {A : Option Addr} {cap : Nat} {l : List Cv} (h : SlK w A cap l) (hb : Below w.heap.size w w') : SlK w' A cap l :=
  ⟨h.row.below hb, fun v hv => ⟨(h.each v hv).1.below hb, (h.each v hv).2⟩⟩
theorem SlK.nil (w : World) : SlK w none 0 [] := ⟨SlR.nil KE w, by simp⟩
def coms (l : List Cv) : List Com := l.map (·.c)
theorem coms_len (l : List Cv) : (coms l).length = l.length := List.length_map ..
theorem coms_at {l : List Cv} {i : Nat} {x : Cv} (h : l[i]? = some x) : (coms l)[i]? = some x.c := by
  unfold coms
  rw [List.getElem?_map, h]
  rfl
section
variable {H : Type} {enc : TypeId × Value → H} {W : World}
theorem open_coms {base : Nat} {v : Value} {d : DataW H} {p : List MemPlace}
    (hval : Value.okWide Tryz.prog W .any base 22 v) (h : DataW.Trod enc Tryz.prog W 0 (fun _ => true) true 22 v d p) : ∃ A cap l, v = .slice A (List.length l) cap ∧ SlK W A cap l := by
  obtain ⟨A, cap, l, e, S, hg⟩ := OpenR.open_rows KE (good := fun x => In W x ∧ Fit x.c) (by kernel_rfl) (fun fuel cs y hh => OpenK.read_com fuel cs y hh) hval h
  exact ⟨A, cap, l, e, S, hg⟩
end
/-- Are there at most so many, each with few parents and short texts? -/
def fewD (l : List Com) (m : Int) : Bool := decide ((l.length : Int) ≤ m) && l.all fewK
theorem SlK.plain {w : World} {A : Option Addr} {cap : Nat} {l : List Cv} (h : SlK w A cap l) (hp : 0 < l.length) :
    ∃ b off, A = some ⟨b, off, none⟩ ∧ b < w.heap.size ∧ ∀ i x, l[i]? = some x → w.rangeAt b (off + i * 8) (cc x).toList := h.row.plain hp
theorem SlK.len {w : World} {A : Option Addr} {cap : Nat} {l : List Cv} (h : SlK w A cap l) : l.length ≤ 9223372036854775807 := by
  have h1 := h.row.1
  have h2 := h.row.2.1
  unfold maxLen at h2
  omega
theorem range_on {w w' : World} {b off : Nat} {x : Cv} (h : w.rangeAt b off (cc x).toList) (hb : Below w.heap.size w w') : w'.rangeAt b off (cc x).toList := RowS.range_below h hb
section
variable {ops : Array Oper} {rest : List Oper} {o : Oper} {a : Act} {w : World} {Q : Exit → Act → World → Prop}
/-- A commit loaded whole out of a row, also where that is guarded, and wanted. -/
theorem load_at (hgd : o.guard = none) (x : Operand) (ho : o.op = .load 38 x)
    (b off : Nat) (hx : a.eval x = .pointer (some ⟨b, off, none⟩)) (y : Cv) (hc : w.rangeAt b off (cc y).toList) (h : wpList Tryz.prog ops Q rest (a.put o.dst (.agg (cc y))) w) : wpList Tryz.prog ops Q (o :: rest) a w :=
  RowS.wpList_load_at KE hgd x ho b off hx y hc h
end
/-- A commit read whole in a region that draws its order. -/
theorem quiet_com {a : Act} {o : Oper} {K : Act → Prop} {w : World} (x : Operand) (ho : o.op = .load 38 x)
    (b off : Nat) (hx : a.eval x = .pointer (some ⟨b, off, none⟩)) (y : Cv) (hc : w.rangeAt b off (cc y).toList) (hk : K (a.put o.dst (.agg (cc y)))) : o.quiet Tryz.prog a (fun w' => ∃ p : Regrown, w' = grow (redrawn w p.d) p.os) K :=
  RowK.quiet_row KE x ho b off hx y hc hk
theorem drop_at {α : Type} {l : List α} {i : Nat} {x : α} (h : l[i]? = some x) : l.drop i = x :: l.drop (i + 1) := by
  obtain ⟨hi, e⟩ := List.getElem?_eq_some_iff.1 h
  rw [← e]
  exact List.drop_eq_getElem_cons hi
/-- A slice of one id, made: the world behind it under a name of its own. -/
theorem build_one {w : World} {ops : Array Oper} {rest : List Oper} {o : Oper} {a : Act} {Q : Exit → Act → World → Prop} (hgd : o.guard = none) (x : Operand) (ho : o.op = .buildSlice 23 1 #[(0, x)])
    (y : Idn) (hx : a.eval x = .agg (cs y)) (h : ∀ w1, SlI w1 (some ⟨w.heap.size, 0, none⟩) 1 [y] → Below w.heap.size w w1 → wpList Tryz.prog ops Q rest (a.put o.dst (.slice (some ⟨w.heap.size, 0, none⟩) 1 1)) w1) : wpList Tryz.prog ops Q (o :: rest) a w :=
  IdB.wpList_build1 hgd x ho y hx (h _ (SlI.new1 w y _) ((Below.refl _ _).alloc (Nat.le_refl _) _))
/-- The ids of commits, if all may be. -/
def idsD (l : List Com) : List Idn := if l.all mayK = true then l.map hashK else []
/-- Are two lists of commits the same? -/
def listB : List Com → List Com → Bool
  | [], [] => true
  | a :: l, b :: m => CmR.sameK a b && listB l m
  | _, _ => false
theorem listB_iff : ∀ {l m : List Com}, listB l m = true ↔ l = m
  | [], [] => by simp [listB]
  | [], b :: m => by simp [listB]
  | a :: l, [] => by simp [listB]
  | a :: l, b :: m => by rw [listB, Bool.and_eq_true, CmR.sameK_iff, listB_iff, List.cons.injEq]
theorem listB_len {l m : List Com} (h : l.length ≠ m.length) : listB l m = false := by
  cases hb : listB l m with
  | false => rfl
  | true => exact absurd (by rw [listB_iff.1 hb]) h
end Go.Proofs.YtechkdhehipliaaGreatDoor.DgW
namespace Go.Proofs.YtechkdhehipliaaGreatDoor.DgN
set_option maxRecDepth 100000
open IdM CmM DgM
open Classical

section
variable {H : Com → Idn}
/-- Where an id stands first. -/
def idx (all : List Idn) (a : Idn) : Option Nat := all.findIdx? fun x => decide (x = a)
def atI (all : List Idn) (a : Idn) : Int := match idx all a with
  | some p => (p : Int)
  | none => -1
theorem idx_some {all : List Idn} {a : Idn} {p : Nat} (h : idx all a = some p) : all[p]? = some a ∧ ∀ j, j < p → all[j]? ≠ some a := by
  unfold idx at h
  rw [List.findIdx?_eq_some_iff_getElem] at h
  obtain ⟨h1, h2, h3⟩ := h
  refine ⟨by rw [List.getElem?_eq_getElem h1, of_decide_eq_true h2], fun j hj e => ?_⟩
  have hjl : j < all.length := by omega
  rw [List.getElem?_eq_getElem hjl] at e
  have := h3 j hj
  simp [Option.some.inj e] at this
theorem idx_lt {all : List Idn} {a : Idn} {p : Nat} (h : idx all a = some p) : p < all.length := (List.getElem?_eq_some_iff.1 (idx_some h).1).1
theorem idx_none {all : List Idn} {a : Idn} : idx all a = none ↔ a ∉ all := by
  unfold idx
  rw [List.findIdx?_eq_none_iff]
  constructor
  · intro h ha
    have := h a ha
    simp at this
  · intro h x hx
    simp only [decide_eq_false_iff_not]
    rintro rfl
    exact h hx
theorem idx_of {all : List Idn} (h : all.Nodup) {i : Nat} {a : Idn} (hi : all[i]? = some a) : idx all a = some i := by
  cases hq : idx all a with
  | none => exact absurd (List.mem_of_getElem? hi) (idx_none.1 hq)
  | some p =>
    obtain ⟨h1, _⟩ := idx_some hq
    obtain ⟨hil, e1⟩ := List.getElem?_eq_some_iff.1 hi
    obtain ⟨hpl, e2⟩ := List.getElem?_eq_some_iff.1 h1
    rw [(List.getElem_inj h).1 (e2.trans e1.symm)]
/-- By places: one has the other as a parent; one knows the other. -/
def ParI (l : List Com) (all : List Idn) (i p : Nat) : Prop := ∃ c a, l[i]? = some c ∧ a ∈ c.ps ∧ idx all a = some p
inductive KnI (l : List Com) (all : List Idn) : Nat → Nat → Prop
  | one {i p : Nat} : ParI l all i p → KnI l all i p
  | more {i p j : Nat} : ParI l all i p → KnI l all p j → KnI l all i j
theorem kni_lt {l : List Com} {all : List Idn} {i j : Nat} (h : KnI l all i j) : i < l.length ∧ j < all.length := by
  induction h with
  | one h => obtain ⟨c, a, h1, _, h3⟩ := h; exact ⟨(List.getElem?_eq_some_iff.1 h1).1, idx_lt h3⟩
  | more h _ ih => obtain ⟨c, a, h1, _, h3⟩ := h; exact ⟨(List.getElem?_eq_some_iff.1 h1).1, ih.2⟩
/-- With no id twice, by ids and by places is the same. -/
theorem kni_kn {l : List Com} {i j : Nat} (h : KnI l (l.map H) i j) : ∃ a b, (l.map H)[i]? = some a ∧ (l.map H)[j]? = some b ∧ Kn H l a b := by
  have one : ∀ {i p : Nat}, ParI l (l.map H) i p → ∃ a b, (l.map H)[i]? = some a ∧ (l.map H)[p]? = some b ∧ Par H l a b := by
    rintro i p ⟨c, b, h1, h2, h3⟩
    exact ⟨H c, b, by rw [List.getElem?_map, h1]; rfl, (idx_some h3).1, c, List.mem_of_getElem? h1, rfl, h2⟩
  induction h with
  | one h => obtain ⟨a, b, h1, h2, h3⟩ := one h; exact ⟨a, b, h1, h2, .one h3⟩
  | more h _ ih =>
    obtain ⟨a, b, h1, h2, h3⟩ := one h
    obtain ⟨b', c, h4, h5, h6⟩ := ih
    rw [h2] at h4
    obtain rfl := Option.some.inj h4
    exact ⟨a, c, h1, h5, .more h3 h6⟩
theorem kn_kni {l : List Com} (hn : (l.map H).Nodup) (hf : ∀ c ∈ l, ∀ a ∈ c.ps, a ∈ l.map H) {a b : Idn} (h : Kn H l a b) : ∀ i, (l.map H)[i]? = some a → ∃ j, (l.map H)[j]? = some b ∧ KnI l (l.map H) i j := by
  have one : ∀ {a b : Idn}, Par H l a b → ∀ i, (l.map H)[i]? = some a → ∃ j, (l.map H)[j]? = some b ∧ ParI l (l.map H) i j := by
    rintro a b ⟨c, hc, rfl, hb⟩ i hi
    cases hq : idx (l.map H) b with
    | none => exact absurd (hf c hc b hb) (idx_none.1 hq)
    | some p =>
      refine ⟨p, (idx_some hq).1, c, b, ?_, hb, hq⟩
      rw [List.getElem?_map] at hi
      cases hd : l[i]? with
      | none => rw [hd] at hi; cases hi
      | some d =>
        rw [hd] at hi
        rw [same_of hn (List.mem_of_getElem? hd) hc (Option.some.inj hi)]
  induction h with
  | one h => intro i hi; obtain ⟨j, h1, h2⟩ := one h i hi; exact ⟨j, h1, .one h2⟩
  | more h _ ih =>
    intro i hi
    obtain ⟨p, h1, h2⟩ := one h i hi
    obtain ⟨j, h3, h4⟩ := ih p h1
    exact ⟨j, h3, .more h2 h4⟩
theorem kni_iff {l : List Com} (hn : (l.map H).Nodup) (hf : ∀ c ∈ l, ∀ a ∈ c.ps, a ∈ l.map H) {i j : Nat} {a b : Idn} (hi : (l.map H)[i]? = some a) (hj : (l.map H)[j]? = some b) : KnI l (l.map H) i j ↔ Kn H l a b := by
  constructor
  · intro h
    obtain ⟨a', b', h1, h2, h3⟩ := kni_kn h
    rw [hi] at h1
    rw [hj] at h2
    rw [Option.some.inj h1, Option.some.inj h2]
    exact h3
  · intro h
    obtain ⟨j', h1, h2⟩ := kn_kni hn hf h i hi
    have e := idx_of hn h1
    rw [idx_of hn hj] at e
    rw [Option.some.inj e]
    exact h2
/-- The generation of the commit at an id's place. -/
def gI (l : List Com) (all : List Idn) (a : Idn) : Int := (((idx all a).bind fun p => l[p]?).map (·.gen)).getD 0
theorem gI_of {l : List Com} (hn : (l.map H).Nodup) {a : Idn} (ha : a ∈ l.map H) : gI l (l.map H) a = gAt H l a := by
  obtain ⟨c, hc, rfl⟩ := List.mem_map.1 ha
  obtain ⟨i, hi⟩ := List.mem_iff_getElem?.1 hc
  unfold gI
  rw [idx_of hn (i := i) (by rw [List.getElem?_map, hi]; rfl), gAt_of hn hc]
  simp [hi]
/-- Is a commit fine, by its parents; by all that stand ahead of it? -/
structure OneI (l : List Com) (all : List Idn) (c : Com) : Prop where
  found : ∀ a ∈ c.ps, a ∈ all
  apart : ∀ a ∈ c.ps, ∀ b ∈ c.ps, ∀ p q, idx all a = some p → idx all b = some q → ¬ KnI l all p q
  gen : c.gen = 1 + most (c.ps.map (gI l all))
structure FineI (l : List Com) (all : List Idn) (i : Nat) (c : Com) : Prop where
  merge : isM c = false
  one : OneI l all c
  first : ∀ a, all[i]? = some a → idx all a = some i
  ahead : ∀ j d, j < i → l[j]? = some d → c.node = d.node → c.seq ≠ d.seq ∧ (d.seq < c.seq → KnI l all i j) ∧ (c.seq < d.seq → KnI l all j i)
theorem closed_of {l : List Com} (hm : ∀ c ∈ l, mayK c = true) (h : ∀ i c, l[i]? = some c → FineI l (l.map H) i c) : Closed H l := by
  have hn : (l.map H).Nodup := by
    rw [List.nodup_iff_pairwise_ne, List.pairwise_iff_getElem]
    intro i j hi hj hij e
    have hjl : j < l.length := by rwa [List.length_map] at hj
    have h1 := (h j _ (List.getElem?_eq_getElem hjl)).first ((l.map H)[j]) (List.getElem?_eq_getElem hj)
    exact (idx_some h1).2 i hij (by rw [List.getElem?_eq_getElem hi, e])
  have hf : ∀ c ∈ l, ∀ a ∈ c.ps, a ∈ l.map H := fun c hc => by
    obtain ⟨i, hi⟩ := List.mem_iff_getElem?.1 hc
    exact (h i c hi).one.found
  have at_ : ∀ {i : Nat} {c : Com}, l[i]? = some c → (l.map H)[i]? = some (H c) := fun hi => by rw [List.getElem?_map, hi]; rfl
  refine ⟨hm, fun c hc => ?_, hn, hf, fun c hc => ?_, fun c hc a ha b hb k => ?_, fun c hc d hd hne hnode => ?_⟩
  · obtain ⟨i, hi⟩ := List.mem_iff_getElem?.1 hc
    exact (h i c hi).merge
  · obtain ⟨i, hi⟩ := List.mem_iff_getElem?.1 hc
    rw [(h i c hi).one.gen]
    congr 2
    exact List.map_congr_left fun a ha => gI_of hn (hf c hc a ha)
  · obtain ⟨i, hi⟩ := List.mem_iff_getElem?.1 hc
    obtain ⟨p, hp⟩ := List.mem_iff_getElem?.1 (hf c hc a ha)
    obtain ⟨q, hq⟩ := List.mem_iff_getElem?.1 (hf c hc b hb)
    exact (h i c hi).one.apart a ha b hb p q (idx_of hn hp) (idx_of hn hq) ((kni_iff hn hf hp hq).2 k)
  · obtain ⟨i, hi⟩ := List.mem_iff_getElem?.1 hc
    obtain ⟨j, hj⟩ := List.mem_iff_getElem?.1 hd
    have hij : i ≠ j := by
      rintro rfl
      rw [hi] at hj
      exact hne (Option.some.inj hj)
    rcases Nat.lt_or_ge j i with hlt | hge
    · obtain ⟨k1, k2, _⟩ := (h i c hi).ahead j d hlt hj hnode
      exact ⟨k1, fun hs => (kni_iff hn hf (at_ hi) (at_ hj)).1 (k2 hs)⟩
    · obtain ⟨k1, _, k3⟩ := (h j d hj).ahead i c (by omega) hi hnode.symm
      exact ⟨fun e => k1 e.symm, fun hs => (kni_iff hn hf (at_ hi) (at_ hj)).1 (k3 hs)⟩
theorem fine_of {l : List Com} (C : Closed H l) {i : Nat} {c : Com} (hi : l[i]? = some c) : FineI l (l.map H) i c := by
  have hc := List.mem_of_getElem? hi
  have at_ : ∀ {i : Nat} {c : Com}, l[i]? = some c → (l.map H)[i]? = some (H c) := fun hi => by rw [List.getElem?_map, hi]; rfl
  refine ⟨C.merge c hc, ⟨C.found c hc, fun a ha b hb p q hp hq k => ?_, ?_⟩, fun a ha => idx_of C.nodup ha, fun j d hji hj hnode => ?_⟩
  · exact C.apart c hc a ha b hb ((kni_iff C.nodup C.found (idx_some hp).1 (idx_some hq).1).1 k)
  · rw [C.gen c hc]
    congr 2
    exact List.map_congr_left fun a ha => (gI_of C.nodup (C.found c hc a ha)).symm
  · have hd := List.mem_of_getElem? hj
    have hne : c ≠ d := by
      rintro rfl
      have e1 := idx_of C.nodup (at_ hi)
      have e2 := idx_of C.nodup (at_ hj)
      rw [e1] at e2
      have := Option.some.inj e2
      omega
    obtain ⟨k1, k2⟩ := C.node c hc d hd hne hnode
    obtain ⟨_, k4⟩ := C.node d hd c hc (fun e => hne e.symm) hnode.symm
    exact ⟨k1, fun hs => (kni_iff C.nodup C.found (at_ hi) (at_ hj)).2 (k2 hs), fun hs => (kni_iff C.nodup C.found (at_ hj) (at_ hi)).2 (k4 hs)⟩
theorem closed_iff {l : List Com} (hm : ∀ c ∈ l, mayK c = true) : Closed H l ↔ ∀ i c, l[i]? = some c → FineI l (l.map H) i c :=
  ⟨fun C _ _ hi => fine_of C hi, closed_of hm⟩
/-- What is found out by and by: a table of who knows whom holds it all if it holds parents, and what these know. -/
theorem table_all {l : List Com} {all : List Idn} {K : Nat → Nat → Bool} (h1 : ∀ i p, ParI l all i p → K i p = true) (h2 : ∀ i p j, ParI l all i p → K p j = true → K i j = true) {i j : Nat} (h : KnI l all i j) : K i j = true := by
  induction h with
  | one h => exact h1 _ _ h
  | more h _ ih => exact h2 _ _ _ h ih
end
end Go.Proofs.YtechkdhehipliaaGreatDoor.DgN
