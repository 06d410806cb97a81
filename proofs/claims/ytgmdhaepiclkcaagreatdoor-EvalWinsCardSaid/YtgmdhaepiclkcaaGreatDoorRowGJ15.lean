/- One struct read whole inside a region that draws its order, whatever its fields. No condition. | One struct read whole inside a region that draws its order, guarded or not, whatever its fields. No condition. | How a reading gives a slice of structs that came in. No condition. | How a reading gives an id, and a slice of ids, that came in. | How a reading gives an operation that came in. | How a reading gives a commit that came in. No condition. | Lists of commits in memory. No condition. | Plain facts on what commits know by their places in a list, and on the order in which it is found out. No condition. | A table of who knows whom, as it is found out: what a pass over it keeps. No condition. | A table of truth values in memory, row by row: made, read, turned. No condition. | What the document's Put of package ops returns: contracts. | What the document's Put of package commit returns: a contract. | What the document's Hash of package commit returns: a contract. | What the document's Put and Hash of package commit answer, in the form in which both are told. No condition. | What the laws' Few, and the document's List, At, Ids and Find of package dag return: contracts. -/
import Derived.Test.YtgmdhaepiclkcaaGreatDoorRowBJ2
import Derived.Test.YtgmdhaepiclkcaaGreatDoorGrowJ5
import Derived.Test.YtgmdhaepiclkcaaGreatDoorOpsCJ2
import Derived.ProofKit
import Derived.OpenShut
import Derived.WideShapes
import Derived.Test.YtgmdhaepiclkcaaGreatDoorIdWJ3
import Derived.Lib.SmallJoins
import Derived.Test.YtgmdhaepiclkcaaGreatDoorRowFJ10
import Derived.Test.YtgmdhaepiclkcaaGreatDoorShaFJ15
import Derived.Test.YtgmdhaepiclkcaaGreatDoorPairMJ4
import Derived.Test.YtgmdhaepiclkcaaGreatDoorSmallJ8
import Derived.Test.YtgmdhaepiclkcaaGreatDoorIdOJ7
import Derived.Test.YtgmdhaepiclkcaaGreatDoorCmRJ6
namespace Go.Proofs.YtgmdhaepiclkcaaGreatDoor.RowG
set_option maxRecDepth 100000
open Go Go.RowKit Byt RowS RowB
variable {α : Type}
theorem range_load (E : Enc α) {w : World} {b off : Nat} {y : α} (h : w.rangeAt b off (E.enc y)) : (Instr.loadAt E.T (.pointer (some ⟨b, off, none⟩))).run Tryz.prog w = .ok (.agg (E.enc y).toArray) w :=
 run_loadAt_mid w b off E.T (E.enc y) _ h E.under E.row (E.size y)
theorem wpQuiet_load_row (E : Enc α) {ops : Array Oper} {C : World → Prop} {Q : Act → Prop} {a : Act} {o : Oper} {rest : List Oper} (hgd : o.guard = none) (x : Operand) (ho : o.op = .load E.T x)
   (b off : Nat) (hx : a.eval x = .pointer (some ⟨b, off, none⟩)) (y : α) (hc : ∀ w, C w → w.rangeAt b off (E.enc y)) (h : wpQuiet Tryz.prog ops C Q rest (a.put o.dst (.agg (E.enc y).toArray))) : wpQuiet Tryz.prog ops C Q (o :: rest) a := by
 refine BigFrame.wpQuiet_want (by simp [Region.wanted, hgd]) (fun K hK => ⟨.agg (E.enc y).toArray, fun w hw => ?_, hK _ h⟩)
 have q := range_load E (hc w hw)
 unfold Oper.quietAt execOp
 simp only [ho, hx, Sem.run_bind, q, Result.andThen_ok, Sem.run_pure]
 exact ⟨rfl, rfl⟩
theorem reads_row (E : Enc α) {l : List Oper} {i : Nat} {o : Oper} {r : List (Nat × Bool)} {a : Act} {w : World} {Q : Exit → Act → World → Prop} (hn : Grow.nth l i = some o) (hgd : o.guard = none) (x : Operand) (ho : o.op = .load E.T x)
   (b off : Nat) (hx : a.eval x = .pointer (some ⟨b, off, none⟩)) (y : α) (hc : w.rangeAt b off (E.enc y)) (h : Grow.Seq Tryz.prog l.toArray Q r (a.put o.dst (.agg (E.enc y).toArray)) w) : Grow.Seq Tryz.prog l.toArray Q ((i, true) :: r) a w :=
 Grow.reads hn (by unfold Grow.plain; rw [ho]) (wpQuiet_load_row E hgd x ho b off hx y (fun _ ⟨p, e⟩ => by rw [e]; exact range_below hc (below_regrown w p.d p.os)) (wpQuiet_nil h))
end Go.Proofs.YtgmdhaepiclkcaaGreatDoor.RowG
namespace Go.Proofs.YtgmdhaepiclkcaaGreatDoor.RowK
set_option maxRecDepth 100000
open Go Go.Sort Go.RowKit Byt RowS RowB RowG
variable {α : Type}
theorem quiet_row (E : Enc α) {a : Act} {o : Oper} {K : Act → Prop} {w : World} (x : Operand) (ho : o.op = .load E.T x)
   (b off : Nat) (hx : a.eval x = .pointer (some ⟨b, off, none⟩)) (y : α) (hc : w.rangeAt b off (E.enc y)) (hk : K (a.put o.dst (.agg (E.enc y).toArray))) : o.quiet Tryz.prog a (fun w' => ∃ p : Regrown, w' = grow (redrawn w p.d) p.os) K := by
 refine ⟨.agg (E.enc y).toArray, fun u hu => ?_, hk⟩
 obtain ⟨p, rfl⟩ := hu
 have q := range_load E (range_below hc (below_regrown w p.d p.os))
 unfold Oper.quietAt execOp
 simp only [ho, hx, Sem.run_bind, q, Result.andThen_ok, Sem.run_pure]
 exact ⟨rfl, rfl⟩
end Go.Proofs.YtgmdhaepiclkcaaGreatDoor.RowK
namespace Go.Proofs.YtgmdhaepiclkcaaGreatDoor.OpenR
set_option maxRecDepth 100000
open Go Go.ChangeShapes Go.WideShapes Go.ChangeAt Go.RowKit Byt RowS
section
variable {H : Type} {enc : TypeId × Value → H} {W : World} {base : Nat} {α : Type}
theorem list_of {p : Nat → α → Prop} : ∀ n : Nat, (∀ i, i < n → ∃ x, p i x) → ∃ l : List α, l.length = n ∧ ∀ i x, l[i]? = some x → p i x
 | 0, _ => ⟨[], rfl, fun i x hx => by simp at hx⟩
 | n + 1, h => by
   obtain ⟨l, hl, hp⟩ := list_of n (fun i hi => h i (by omega))
   obtain ⟨x, hx⟩ := h n (by omega)
   refine ⟨l ++ [x], by simp [hl], fun i y hy => ?_⟩
   by_cases hin : i < n
   · rw [List.getElem?_append_left (by omega)] at hy
     exact hp i y hy
   · rw [List.getElem?_append_right (by omega), hl] at hy
     have hi : i - n = 0 := by
       have := (List.getElem?_eq_some_iff.1 hy).1
       simpa using this
     rw [hi] at hy
     obtain rfl : x = y := by simpa using hy
     rw [show i = n by omega]
     exact hx
theorem flat_split (E : Enc α) {l : List α} {i : Nat} {v : Value} (h : (flat E l)[i]? = some v) : ∃ m j x, i = m * E.k + j ∧ l[m]? = some x ∧ (E.enc x)[j]? = some v := by
 have hi := (List.getElem?_eq_some_iff.1 h).1
 rw [flat_length] at hi
 have hp := E.pos
 have hm : i / E.k < l.length := (Nat.div_lt_iff_lt_mul hp).2 hi
 have hx : l[i / E.k]? = some l[i / E.k] := List.getElem?_eq_getElem hm
 have hj : i % E.k < (E.enc l[i / E.k]).length := by rw [E.len]; exact Nat.mod_lt _ hp
 have hv : (E.enc l[i / E.k])[i % E.k]? = some ((E.enc l[i / E.k])[i % E.k]'hj) := List.getElem?_eq_getElem hj
 have e : i = i / E.k * E.k + i % E.k := by rw [Nat.mul_comm]; exact (Nat.div_add_mod i E.k).symm
 have := flat_at E l _ _ _ _ hx hv
 rw [← e, h] at this
 exact ⟨_, _, _, e, hx, by rw [hv]; exact this.symm⟩
set_option maxRecDepth 100000 in
theorem open_rows (E : Enc α) {good : α → Prop} (hC : Tryz.prog.cellsOf E.T = E.k)
   (hread : ∀ (fuel : Nat) (cs : List Value) (y : DataW H × List MemPlace), DataW.trod enc Tryz.prog W 0 (fun _ => true) true fuel E.T cs = some y → ∃ x, cs = E.enc x ∧ good x) {v : Value} {d : DataW H} {p : List MemPlace}
   (hval : Value.okWide Tryz.prog W .any base E.S v) (h : DataW.Trod enc Tryz.prog W 0 (fun _ => true) true E.S v d p) : ∃ A cap l, v = .slice A (List.length l) cap ∧ SlR E W A cap l ∧ ∀ x ∈ l, good x := by
 obtain ⟨a, len, cap, rfl⟩ := okWide_slice E.slice hval
 obtain ⟨fuel, hf⟩ := h
 rcases DataW.trod_slice E.slice hf with ⟨hcs, _⟩ | ⟨x, len', cap', elems, rest, n, _, hcs, _, _, hl, hm, hel, hcell, _, _⟩
 · simp [Value.cells] at hcs
   obtain ⟨rfl, rfl, rfl⟩ := hcs
   exact ⟨none, 0, [], rfl, SlR.nil E W, by simp⟩
 · simp [Value.cells] at hcs
   obtain ⟨rfl, rfl, rfl⟩ := hcs
   rw [hC] at hcell
   have key : ∀ i, i < len → ∃ y : α, good y ∧ ∀ j u, (E.enc y)[j]? = some u → W.cell? (x.add (i * E.k + j)) = some u := by
     intro i hi
     have hi1 := hcell i hi
     rw [List.getElem?_eq_getElem (by omega)] at hi1
     rw [Option.bind_eq_some_iff] at hi1
     obtain ⟨cl, hcl, htr⟩ := hi1
     obtain ⟨y, rfl, hy⟩ := hread _ _ _ htr
     refine ⟨y, hy, fun j u hj => ?_⟩
     obtain ⟨_, _, hg⟩ := World.cells?_some hcl
     have hjl := (List.getElem?_eq_some_iff.1 hj).1
     rw [E.len] at hjl
     have := hg j hjl
     rw [Addr.add_add, hj] at this
     exact this
   obtain ⟨l, hll, hp⟩ := list_of len key
   refine ⟨some x, cap, l, by rw [hll], ⟨by omega, hm, .inr ⟨x, rfl, fun i u hu => ?_⟩⟩, fun y hy => ?_⟩
   · obtain ⟨m, j, y, rfl, hy, hj⟩ := flat_split E hu
     exact (hp m y hy).2 j u hj
   · obtain ⟨i, hi⟩ := List.mem_iff_getElem?.1 hy
     exact (hp i y hi).1
end
end Go.Proofs.YtgmdhaepiclkcaaGreatDoor.OpenR
namespace Go.Proofs.YtgmdhaepiclkcaaGreatDoor.OpenI
set_option maxRecDepth 100000
open Go Go.ChangeShapes Go.WideShapes Go.ChangeAt Go.RowKit IdM Byt IdW
section
variable {H : Type} {enc : TypeId × Value → H} {P : Program} {t e : TypeId} {W : World} {base : Nat}
theorem cells_id (ht : P.underlying t = some (.array 32 e)) (he : P.underlying e = some (.int .u8)) (hc : P.cellsOf e = 1) (hC : P.cellsOf t = 32) {sp : Nat → Bool} {hd : Bool} {fuel : Nat} {l : List Value} {x : DataW H × List MemPlace}
   (hf : DataW.trod enc P W base sp hd fuel t l = some x) : ∃ y : Idn, l = bv y.1 := by
 obtain ⟨xs, m, _, _, hlen, hn, hel⟩ := DataW.trod_array ht hf
 rw [hC] at hlen
 have key : ∀ i, i < 32 → ∃ n : Int, l[i]? = some (.int .u8 n) ∧ 0 ≤ n ∧ n ≤ 255 := by
   intro i hi
   have hi1 := hel i hi
   rw [List.getElem?_eq_getElem (by omega)] at hi1
   obtain ⟨n, e1, _, hw⟩ := DataW.trod_int he hi1
   have hb := B_of_wf hw
   unfold B at hb
   refine ⟨n, ?_, hb⟩
   rw [hc, Nat.mul_one] at e1
   have e3 := congrArg (fun l => l[0]?) e1
   simpa using e3
 have hl : (List.map (fun i => (l[i]?).elim 0 fun v => match v with | .int _ n => n | _ => 0) (List.range 32)).length = 32 := by simp
 refine ⟨⟨List.map (fun i => (l[i]?).elim 0 fun v => match v with | .int _ n => n | _ => 0) (List.range 32), hl, fun n hn => ?_⟩, ?_⟩
 · simp only [List.mem_map, List.mem_range] at hn
   obtain ⟨i, hi, rfl⟩ := hn
   obtain ⟨n, e, hb⟩ := key i hi
   rw [e]
   exact hb
 · apply List.ext_getElem?
   intro i
   by_cases hi : i < 32
   · obtain ⟨n, e, _⟩ := key i hi
     rw [e, bv_at _ (by simpa using hi)]
     simp [List.getD_eq_getElem?_getD, hi, e]
   · rw [List.getElem?_eq_none (by omega), List.getElem?_eq_none (by rw [bv_length]; simp; omega)]
theorem list_of {p : Nat → Idn → Prop} : ∀ n : Nat, (∀ i, i < n → ∃ x, p i x) → ∃ l : List Idn, l.length = n ∧ ∀ i, i < n → p i (l.getD i nought)
 | 0, _ => ⟨[], rfl, fun i hi => absurd hi (Nat.not_lt_zero i)⟩
 | n + 1, h => by
   obtain ⟨l, hl, hp⟩ := list_of n (fun i hi => h i (by omega))
   obtain ⟨x, hx⟩ := h n (by omega)
   refine ⟨l ++ [x], by simp [hl], fun i hi => ?_⟩
   rw [List.getD_eq_getElem?_getD]
   by_cases hin : i < n
   · rw [List.getElem?_append_left (by omega), ← List.getD_eq_getElem?_getD]
     exact hp i hin
   · have : i = n := by omega
     subst this
     rw [List.getElem?_append_right (by omega), hl, Nat.sub_self]
     exact hx
end
end Go.Proofs.YtgmdhaepiclkcaaGreatDoor.OpenI
namespace Go.Proofs.YtgmdhaepiclkcaaGreatDoor.OpenO
set_option maxRecDepth 100000
open Go Go.Deep Go.Joins Go.ChangeShapes Go.WideShapes Go.ChangeAt Go.RowKit Byt OpsM OpsW OpsC
theorem i64_of {n : Int} (h : (Lit.int .i64 n).wf = true) : I64 n := by
 unfold I64
 simpa [Lit.wf, IntKind.min, IntKind.max, IntKind.bits, IntKind.signed] using h
end Go.Proofs.YtgmdhaepiclkcaaGreatDoor.OpenO
namespace Go.Proofs.YtgmdhaepiclkcaaGreatDoor.OpenK
set_option maxRecDepth 100000
open Go Go.Deep Go.ChangeShapes Go.WideShapes Go.ChangeAt Go.RowKit IdM Byt IdW OpsM OpsW CmM StW CmW
section
variable {H : Type} {enc : TypeId × Value → H} {W : World}
theorem read_ids {P : Program} {t e s : TypeId} (hs : P.underlying s = some (.slice t)) (ht : P.underlying t = some (.array 32 e)) (he : P.underlying e = some (.int .u8)) (hc : P.cellsOf e = 1) (hC : P.cellsOf t = 32) (fuel : Nat) (cs : List Value) (y : DataW H × List MemPlace)
   (hf : DataW.trod enc P W 0 (fun _ => true) true fuel s cs = some y) : ∃ A cap l, cs = [.slice A (List.length l) cap] ∧ SlI W A cap l := by
 rcases DataW.trod_slice hs hf with ⟨rfl, _⟩ | ⟨x, len, cap, elems, rest, n, _, rfl, _, _, hl, hm, hel, hcell, _, _⟩
 · exact ⟨none, 0, [], rfl, SlI.nil W⟩
 · rw [hC] at hcell
   have key : ∀ i, i < len → ∃ y : Idn, ∀ j, j < 32 → W.cell? (x.add (i * 32 + j)) = some (.int .u8 (y.1.getD j 0)) := by
     intro i hi
     have hi1 := hcell i hi
     rw [List.getElem?_eq_getElem (by omega)] at hi1
     rw [Option.bind_eq_some_iff] at hi1
     obtain ⟨cl, hcl, htr⟩ := hi1
     obtain ⟨y, rfl⟩ := OpenI.cells_id ht he hc hC htr
     refine ⟨y, fun j hj => ?_⟩
     obtain ⟨_, _, hg⟩ := World.cells?_some hcl
     have := hg j hj
     rw [Addr.add_add, bv_at _ (by rw [Idn_len]; exact hj)] at this
     exact this
   obtain ⟨l, hll, hp⟩ := OpenI.list_of len key
   refine ⟨some x, cap, l, by rw [hll], by omega, hm, .inr ⟨x, rfl, fun i hi => ?_⟩⟩
   rw [flat_length, hll] at hi
   have f := flat_at l (i / 32) (i % 32) (by rw [hll]; omega) (by omega)
   have q := hp (i / 32) (by omega) (i % 32) (by omega)
   rw [show i / 32 * 32 + i % 32 = i by omega] at f q
   rw [q, f]
theorem read_ev {t : TypeId} {f0 f1 : Field} (hs : Tryz.prog.underlying t = some (.struct #[f0, f1])) (hC : Tryz.prog.cellsOf t = 2)
   (o0 : f0.offset = 0) (o1 : f1.offset = 1) (k0 : Tryz.prog.cellsOf f0.type = 1) (k1 : Tryz.prog.cellsOf f1.type = 1)
   (h0 : Tryz.prog.underlying f0.type = some (.int .i64)) (h1 : Tryz.prog.underlying f1.type = some (.int .i64)) (fuel : Nat) (cs : List Value) (y : DataW H × List MemPlace)
   (h : DataW.trod enc Tryz.prog W 0 (fun _ => true) true fuel t cs = some y) : ∃ m n : Int, cs = [.int .i64 m, .int .i64 n] ∧ I64 m ∧ I64 n := by
 obtain ⟨xs, n, _, _, hl, hlen, hf⟩ := DataW.trod_struct hs h
 rw [hC] at hl
 obtain ⟨a, b, rfl⟩ : ∃ a b, cs = [a, b] := by
   match cs, hl with
   | [a, b], _ => exact ⟨a, b, rfl⟩
 obtain ⟨y0, y1, rfl⟩ : ∃ a b, xs = [a, b] := by
   match xs, hlen with
   | [a, b], _ => exact ⟨a, b, rfl⟩
 have e0 := hf 0 f0 rfl
 have e1 := hf 1 f1 rfl
 rw [o0, k0] at e0
 rw [o1, k1] at e1
 simp only [List.drop_zero, List.take_succ_cons, List.take_zero, List.drop_succ_cons, List.getElem?_cons_zero, List.getElem?_cons_succ] at e0 e1
 obtain ⟨s, q0, _, w0⟩ := DataW.trod_int h0 e0
 obtain ⟨m, q1, _, w1⟩ := DataW.trod_int h1 e1
 simp only [List.cons.injEq, and_true] at q0 q1
 subst q0 q1
 exact ⟨s, m, rfl, OpenO.i64_of w0, OpenO.i64_of w1⟩
theorem read_op {t : TypeId} {f0 f1 f2 f3 : Field} (hs : Tryz.prog.underlying t = some (.struct #[f0, f1, f2, f3])) (hC : Tryz.prog.cellsOf t = 4)
   (o0 : f0.offset = 0) (o1 : f1.offset = 1) (o2 : f2.offset = 2) (o3 : f3.offset = 3) (k0 : Tryz.prog.cellsOf f0.type = 1) (k1 : Tryz.prog.cellsOf f1.type = 1) (k2 : Tryz.prog.cellsOf f2.type = 1) (k3 : Tryz.prog.cellsOf f3.type = 1)
   (h0 : Tryz.prog.underlying f0.type = some (.int .i64)) (h1 : Tryz.prog.underlying f1.type = some .string) (h2 : Tryz.prog.underlying f2.type = some .string) (h3 : Tryz.prog.underlying f3.type = some (.int .i64)) (fuel : Nat) (cs : List Value) (y : DataW H × List MemPlace)
   (h : DataW.trod enc Tryz.prog W 0 (fun _ => true) true fuel t cs = some y) : ∃ o : Opn, cs = (opc o).toList ∧ OpsC.Fit o := by
 obtain ⟨xs, n, _, _, hl, hlen, hf⟩ := DataW.trod_struct hs h
 rw [hC] at hl
 obtain ⟨a, b, c, d, rfl⟩ : ∃ a b c d, cs = [a, b, c, d] := by
   match cs, hl with
   | [a, b, c, d], _ => exact ⟨a, b, c, d, rfl⟩
 obtain ⟨y0, y1, y2, y3, rfl⟩ : ∃ a b c d, xs = [a, b, c, d] := by
   match xs, hlen with
   | [a, b, c, d], _ => exact ⟨a, b, c, d, rfl⟩
 have e0 := hf 0 f0 rfl
 have e1 := hf 1 f1 rfl
 have e2 := hf 2 f2 rfl
 have e3 := hf 3 f3 rfl
 rw [o0, k0] at e0
 rw [o1, k1] at e1
 rw [o2, k2] at e2
 rw [o3, k3] at e3
 simp only [List.drop_zero, List.take_succ_cons, List.take_zero, List.drop_succ_cons, List.getElem?_cons_zero, List.getElem?_cons_succ] at e0 e1 e2 e3
 obtain ⟨s, q0, _, w0⟩ := DataW.trod_int h0 e0
 obtain ⟨s1, q1, _, w1⟩ := DataW.trod_string h1 e1
 obtain ⟨s2, q2, _, w2⟩ := DataW.trod_string h2 e2
 obtain ⟨m, q3, _, w3⟩ := DataW.trod_int h3 e3
 simp only [List.cons.injEq, and_true] at q0 q1 q2 q3
 subst q0 q1 q2 q3
 exact ⟨⟨s, s1, s2, m⟩, rfl, ⟨OpenO.i64_of w0, OpenO.i64_of w3, w1, w2⟩⟩
theorem read_fields {t : TypeId} {f0 f1 f2 f3 : Field} (hs : Tryz.prog.underlying t = some (.struct #[f0, f1, f2, f3])) (hC : Tryz.prog.cellsOf t = 8)
   (o0 : f0.offset = 0) (o1 : f1.offset = 2) (o2 : f2.offset = 3) (o3 : f3.offset = 4) (k0 : Tryz.prog.cellsOf f0.type = 2) (k1 : Tryz.prog.cellsOf f1.type = 1) (k2 : Tryz.prog.cellsOf f2.type = 1) (k3 : Tryz.prog.cellsOf f3.type = 4)
   (t0 : f0.type = 43) (t1 : f1.type = 3) (t2 : f2.type = 23) (t3 : f3.type = 45) (fuel : Nat) (cs : List Value) (y : DataW H × List MemPlace)
   (h : DataW.trod enc Tryz.prog W 0 (fun _ => true) true fuel t cs = some y) : ∃ v : Cv, cs = CE.enc v ∧ In W v ∧ Fit v.c := by
 obtain ⟨xs, n, _, _, hl, hlen, hf⟩ := DataW.trod_struct hs h
 rw [hC] at hl
 obtain ⟨a, b, c, d, p, q, r, s, rfl⟩ : ∃ a b c d p q r s, cs = [a, b, c, d, p, q, r, s] := by
   match cs, hl with
   | [a, b, c, d, p, q, r, s], _ => exact ⟨a, b, c, d, p, q, r, s, rfl⟩
 obtain ⟨y0, y1, y2, y3, rfl⟩ : ∃ a b c d, xs = [a, b, c, d] := by
   match xs, hlen with
   | [a, b, c, d], _ => exact ⟨a, b, c, d, rfl⟩
 have e0 := hf 0 f0 rfl
 have e1 := hf 1 f1 rfl
 have e2 := hf 2 f2 rfl
 have e3 := hf 3 f3 rfl
 rw [o0, k0, t0] at e0
 rw [o1, k1, t1] at e1
 rw [o2, k2, t2] at e2
 rw [o3, k3, t3] at e3
 simp only [List.drop_zero, List.take_succ_cons, List.take_zero, List.drop_succ_cons, List.getElem?_cons_zero, List.getElem?_cons_succ] at e0 e1 e2 e3
 obtain ⟨m1, m2, q0, w0, w1⟩ := read_ev Tryz.underlying43 (by kernel_rfl) rfl rfl (by kernel_rfl) (by kernel_rfl) Tryz.underlying3 Tryz.underlying3 _ _ _ e0
 obtain ⟨g, q1, _, w2⟩ := DataW.trod_int Tryz.underlying3 e1
 obtain ⟨A, cap, l, q2, S⟩ := read_ids Tryz.underlying23 Tryz.underlying56 Tryz.underlying5 (by kernel_rfl) (by kernel_rfl) _ _ _ e2
 obtain ⟨o, q3, w3⟩ := read_op Tryz.underlying45 (by kernel_rfl) rfl rfl rfl rfl (by kernel_rfl) (by kernel_rfl) (by kernel_rfl) (by kernel_rfl) Tryz.underlying3 Tryz.underlying9 Tryz.underlying9 Tryz.underlying3 _ _ _ e3
 simp only [opc, List.cons.injEq, and_true] at q0 q1 q2 q3
 obtain ⟨rfl, rfl⟩ := q0
 obtain rfl := q1
 obtain rfl := q2
 obtain ⟨rfl, rfl, rfl, rfl⟩ := q3
 exact ⟨⟨A, cap, ⟨m1, m2, g, l, o⟩⟩, rfl, S, ⟨w0, w1, OpenO.i64_of w2, w3⟩⟩
theorem read_com (fuel : Nat) (cs : List Value) (y : DataW H × List MemPlace)
   (h : DataW.trod enc Tryz.prog W 0 (fun _ => true) true fuel 47 cs = some y) : ∃ v : Cv, cs = CE.enc v ∧ In W v ∧ Fit v.c :=
 read_fields Tryz.underlying47 (by kernel_rfl) rfl rfl rfl rfl (by kernel_rfl) (by kernel_rfl) (by kernel_rfl) (by kernel_rfl) rfl rfl rfl rfl fuel cs y h
end
end Go.Proofs.YtgmdhaepiclkcaaGreatDoor.OpenK
namespace Go.Proofs.YtgmdhaepiclkcaaGreatDoor.DgW
set_option maxRecDepth 100000
open Go Go.Sort Go.ChangeShapes Go.WideShapes Go.ChangeAt Go.RowKit Byt IdM IdW OpsM OpsW RowS CmM StW CmW CmX CmY
def KE : RowS.Enc Cv where
 T := 47
 S := 22
 k := 8
 bytes := 96
 d := _
 enc v := [.int .i64 v.c.node, .int .i64 v.c.seq, .int .i64 v.c.gen, .slice v.a v.c.ps.length v.k, .int .i64 v.c.op.kind, .string v.c.op.key, .string v.c.op.elem, .int .i64 v.c.op.n]
 zero := noV
 len _ := rfl
 one c v hv := by
   simp only [List.mem_cons, List.not_mem_nil, or_false] at hv
   rcases hv with rfl | rfl | rfl | rfl | rfl | rfl | rfl | rfl <;> rfl
 pos := by omega
 small := by omega
 info := by kernel_rfl
 slice := Tryz.underlying22
 under := Tryz.underlying47
 row := rfl
structure SlK (w : World) (A : Option Addr) (cap : Nat) (l : List Cv) : Prop where
 row : SlR KE w A cap l
 each : ∀ v ∈ l, In w v ∧ Fit v.c
theorem SlK.below {w w' : World} {A : Option Addr} {cap : Nat} {l : List Cv} (h : SlK w A cap l) (hb : Below w.heap.size w w') : SlK w' A cap l :=
 ⟨h.row.below hb, fun v hv => ⟨(h.each v hv).1.below hb, (h.each v hv).2⟩⟩
theorem SlK.nil (w : World) : SlK w none 0 [] := ⟨SlR.nil KE w, by simp⟩
def coms (l : List Cv) : List Com := l.map (·.c)
theorem coms_len (l : List Cv) : (coms l).length = l.length := List.length_map ..
theorem coms_at {l : List Cv} {i : Nat} {x : Cv} (h : l[i]? = some x) : (coms l)[i]? = some x.c := by
 unfold coms
 rw [List.getElem?_map, h]
 rfl
section
variable {H : Type} {enc : TypeId × Value → H} {W : World}
theorem open_coms {base : Nat} {v : Value} {d : DataW H} {p : List MemPlace}
   (hval : Value.okWide Tryz.prog W .any base 22 v) (h : DataW.Trod enc Tryz.prog W 0 (fun _ => true) true 22 v d p) : ∃ A cap l, v = .slice A (List.length l) cap ∧ SlK W A cap l := by
 obtain ⟨A, cap, l, e, S, hg⟩ := OpenR.open_rows KE (good := fun x => In W x ∧ Fit x.c) (by kernel_rfl) (fun fuel cs y hh => OpenK.read_com fuel cs y hh) hval h
 exact ⟨A, cap, l, e, S, hg⟩
end
def fewD (l : List Com) (m : Int) : Bool := decide ((l.length : Int) ≤ m) && l.all fewK
theorem SlK.plain {w : World} {A : Option Addr} {cap : Nat} {l : List Cv} (h : SlK w A cap l) (hp : 0 < l.length) :
   ∃ b off, A = some ⟨b, off, none⟩ ∧ b < w.heap.size ∧ ∀ i x, l[i]? = some x → w.rangeAt b (off + i * 8) (cc x).toList := h.row.plain hp
theorem SlK.len {w : World} {A : Option Addr} {cap : Nat} {l : List Cv} (h : SlK w A cap l) : l.length ≤ 9223372036854775807 := by
 have h1 := h.row.1
 have h2 := h.row.2.1
 unfold maxLen at h2
 omega
theorem range_on {w w' : World} {b off : Nat} {x : Cv} (h : w.rangeAt b off (cc x).toList) (hb : Below w.heap.size w w') : w'.rangeAt b off (cc x).toList := RowS.range_below h hb
section
variable {ops : Array Oper} {rest : List Oper} {o : Oper} {a : Act} {w : World} {Q : Exit → Act → World → Prop}
theorem load_at (hgd : o.guard = none) (x : Operand) (ho : o.op = .load 47 x)
   (b off : Nat) (hx : a.eval x = .pointer (some ⟨b, off, none⟩)) (y : Cv) (hc : w.rangeAt b off (cc y).toList) (h : wpList Tryz.prog ops Q rest (a.put o.dst (.agg (cc y))) w) : wpList Tryz.prog ops Q (o :: rest) a w :=
 RowS.wpList_load_at KE hgd x ho b off hx y hc h
end
theorem drop_at {α : Type} {l : List α} {i : Nat} {x : α} (h : l[i]? = some x) : l.drop i = x :: l.drop (i + 1) := by
 obtain ⟨hi, e⟩ := List.getElem?_eq_some_iff.1 h
 rw [← e]
 exact List.drop_eq_getElem_cons hi
theorem build_one {w : World} {ops : Array Oper} {rest : List Oper} {o : Oper} {a : Act} {Q : Exit → Act → World → Prop} (hgd : o.guard = none) (x : Operand) (ho : o.op = .buildSlice 23 1 #[(0, x)])
   (y : Idn) (hx : a.eval x = .agg (cs y)) (h : ∀ w1, SlI w1 (some ⟨w.heap.size, 0, none⟩) 1 [y] → Below w.heap.size w w1 → wpList Tryz.prog ops Q rest (a.put o.dst (.slice (some ⟨w.heap.size, 0, none⟩) 1 1)) w1) : wpList Tryz.prog ops Q (o :: rest) a w :=
 IdB.wpList_build1 hgd x ho y hx (h _ (SlI.new1 w y _) ((Below.refl _ _).alloc (Nat.le_refl _) _))
def idsD (l : List Com) : List Idn := if l.all mayK = true then l.map hashK else []
end Go.Proofs.YtgmdhaepiclkcaaGreatDoor.DgW
namespace Go.Proofs.YtgmdhaepiclkcaaGreatDoor.DgN
set_option maxRecDepth 100000
open IdM CmM DgM
open Classical
section
variable {H : Com → Idn}
def idx (all : List Idn) (a : Idn) : Option Nat := all.findIdx? fun x => decide (x = a)
def ParI (l : List Com) (all : List Idn) (i p : Nat) : Prop := ∃ c a, l[i]? = some c ∧ a ∈ c.ps ∧ idx all a = some p
inductive KnI (l : List Com) (all : List Idn) : Nat → Nat → Prop
 | one {i p : Nat} : ParI l all i p → KnI l all i p
 | more {i p j : Nat} : ParI l all i p → KnI l all p j → KnI l all i j
end
end Go.Proofs.YtgmdhaepiclkcaaGreatDoor.DgN
namespace Go.Proofs.YtgmdhaepiclkcaaGreatDoor.DgP
set_option maxRecDepth 100000
open IdM CmM DgM DgN
open Classical
def upd (K : Nat → Nat → Bool) (i j : Nat) : Nat → Nat → Bool := fun a b => if a = i ∧ b = j then true else K a b
theorem upd_at (K : Nat → Nat → Bool) (i j : Nat) : upd K i j i j = true := if_pos ⟨rfl, rfl⟩
theorem upd_le {K : Nat → Nat → Bool} {i j a b : Nat} (h : K a b = true) : upd K i j a b = true := by
 unfold upd
 split
 · rfl
 · exact h
theorem upd_or {K : Nat → Nat → Bool} {i j a b : Nat} (h : upd K i j a b = true) : (a = i ∧ b = j) ∨ K a b = true := by
 unfold upd at h
 split at h
 · rename_i hc; exact .inl hc
 · exact .inr h
def cnt (n : Nat) (K : Nat → Nat → Bool) : Nat := (List.range (n * n)).countP fun m => !K (m / n) (m % n)
theorem count_less {α : Type} {p q : α → Bool} : ∀ l : List α, (∀ x ∈ l, q x = true → p x = true) → (∃ x ∈ l, p x = true ∧ q x = false) → l.countP q < l.countP p
 | [], _, h => by obtain ⟨x, hx, _⟩ := h; simp at hx
 | y :: l, h, hx => by
   have hl : ∀ x ∈ l, q x = true → p x = true := fun x hx => h x (List.mem_cons_of_mem _ hx)
   have mono : l.countP q ≤ l.countP p := List.countP_mono_left hl
   rw [List.countP_cons, List.countP_cons]
   obtain ⟨x, hx, h1, h2⟩ := hx
   rcases List.mem_cons.1 hx with rfl | hx
   · rw [h1, h2]; simp; omega
   · have ih := count_less l hl ⟨x, hx, h1, h2⟩
     have hy := h y (by simp)
     cases hq : q y <;> cases hp : p y
     · simpa using ih
     · simp; omega
     · rw [hy hq] at hp; cases hp
     · simp; omega
theorem cnt_upd {n i j : Nat} {K : Nat → Nat → Bool} (hi : i < n) (hj : j < n) (h : K i j = false) : cnt n (upd K i j) < cnt n K := by
 refine count_less _ (fun m _ hm => ?_) ⟨i * n + j, ?_, ?_, ?_⟩
 · cases hk : K (m / n) (m % n) with
   | false => rfl
   | true => rw [upd_le hk] at hm; cases hm
 · rw [List.mem_range]
   have : (i + 1) * n ≤ n * n := Nat.mul_le_mul_right n hi
   rw [Nat.add_mul, Nat.one_mul] at this
   omega
 · have hn : 0 < n := by omega
   rw [show (i * n + j) / n = i by rw [Nat.mul_comm, Nat.mul_add_div hn, Nat.div_eq_of_lt hj, Nat.add_zero], show (i * n + j) % n = j by rw [Nat.mul_comm, Nat.mul_add_mod, Nat.mod_eq_of_lt hj], h]
   rfl
 · have hn : 0 < n := by omega
   rw [show (i * n + j) / n = i by rw [Nat.mul_comm, Nat.mul_add_div hn, Nat.div_eq_of_lt hj, Nat.add_zero], show (i * n + j) % n = j by rw [Nat.mul_comm, Nat.mul_add_mod, Nat.mod_eq_of_lt hj], upd_at]
   rfl
section
variable (l : List Com) (all : List Idn)
def Sound (K : Nat → Nat → Bool) : Prop := ∀ i j, K i j = true → KnI l all i j
structure Pass (n : Nat) (c0 : Nat) (K : Nat → Nat → Bool) (more : Bool) (done : Prop) : Prop where
 sound : Sound l all K
 less : more = true → cnt n K < c0
 same : more = false → cnt n K = c0 ∧ done
end
theorem sound_upd {l : List Com} {all : List Idn} {K : Nat → Nat → Bool} (h : Sound l all K) {i p j : Nat} (hp : ParI l all i p) (hj : j = p ∨ K p j = true) : Sound l all (upd K i j) := by
 intro a b hab
 rcases upd_or hab with ⟨rfl, rfl⟩ | hab
 · rcases hj with rfl | hj
   · exact .one hp
   · exact .more hp (h _ _ hj)
 · exact h a b hab
theorem Pass.found {l : List Com} {all : List Idn} {n c0 : Nat} {K : Nat → Nat → Bool} {more : Bool} {done done' : Prop} (h : Pass l all n c0 K more done) {i p j : Nat} (hp : ParI l all i p) (hj : j = p ∨ K p j = true) (hi : i < n) (hjn : j < n) (hk : K i j = false) : Pass l all n c0 (upd K i j) true done' := by
 refine ⟨sound_upd h.sound hp hj, fun _ => ?_, fun e => by cases e⟩
 have h1 := cnt_upd hi hjn hk
 cases hm : more with
 | true => have := h.less hm; omega
 | false => have := (h.same hm).1; omega
end Go.Proofs.YtgmdhaepiclkcaaGreatDoor.DgP
namespace Go.Proofs.YtgmdhaepiclkcaaGreatDoor.DgT
set_option maxRecDepth 100000
open Go Go.Sort Go.RowKit Byt IdM IdW OpsM OpsW CmM StW CmW DgP
def rowV (n g : Nat) : Value := .slice (some ⟨g, 0, none⟩) n n
def bits (n : Nat) (f : Nat → Bool) : Array Value := ((List.range n).map fun j => Value.bool (f j)).toArray
structure Tab (w : World) (base : Nat) (v : Value) (n : Nat) (gs : List Nat) (K : Nat → Nat → Bool) : Prop where
 row : w.ownsRow base 122 1 v gs.length (gs.map (rowV n))
 each : ∀ i g, gs[i]? = some g → base ≤ g ∧ w.heap[g]? = some (.cells (bits n (K i)) 4 (0, 0))
 nodup : gs.Nodup
theorem Tab.cell {w : World} {base n r cap : Nat} {gs : List Nat} {K : Nat → Nat → Bool} (h : Tab w base (.slice (some ⟨r, 0, none⟩) gs.length cap) n gs K) {i g : Nat} (hi : gs[i]? = some g) : w.cell? ⟨r, i, none⟩ = some (rowV n g) := by
 have hlt := (List.getElem?_eq_some_iff.1 hi).1
 rw [h.row.cellAt i (by omega), List.getElem?_map, hi]
 rfl
section
variable {ops : Array Oper} {rest : List Oper} {o : Oper} {a : Act} {w : World} {Q : Exit → Act → World → Prop}
end
end Go.Proofs.YtgmdhaepiclkcaaGreatDoor.DgT
namespace Go.Proofs.YtgmdhaepiclkcaaGreatDoor.OpsS
set_option maxRecDepth 100000
open Go Go.RowKit Go.Sort Byt OpsM OpsK OpsW OpsC EncM EncC OpsP
end Go.Proofs.YtgmdhaepiclkcaaGreatDoor.OpsS
namespace Go.Proofs.YtgmdhaepiclkcaaGreatDoor.CmP
set_option maxRecDepth 100000
open Go Go.RowKit Byt EncM EncC EncT IdM IdW OpsM OpsW CmM StW CmW CmR
end Go.Proofs.YtgmdhaepiclkcaaGreatDoor.CmP
namespace Go.Proofs.YtgmdhaepiclkcaaGreatDoor.CmH
set_option maxRecDepth 100000
open Go Go.RowKit Byt IdM IdW OpsM OpsW CmM StW CmW CmR CmP CmY
end Go.Proofs.YtgmdhaepiclkcaaGreatDoor.CmH
namespace Go.Proofs.YtgmdhaepiclkcaaGreatDoor.CmY
set_option maxRecDepth 100000
open Go Go.Sort Go.RowKit Byt IdM IdW OpsM OpsW CmM StW CmW
end Go.Proofs.YtgmdhaepiclkcaaGreatDoor.CmY
namespace Go.Proofs.YtgmdhaepiclkcaaGreatDoor.DgR
set_option maxRecDepth 100000
open Go Go.Sort Go.RowKit Byt IdM IdW OpsM OpsW CmM StW CmW CmX CmY DgM DgN DgW
set_option maxRecDepth 100000 in
set_option maxHeartbeats 8000000 in
theorem few_ret (A : Option Addr) (cap : Nat) (l : List Cv) (m : Int) (w : World) (S : SlK w A cap l) :
   Calls Tryz.prog 11 #[.slice A l.length cap, .int .i64 m] w fun e w' => e = .returned (.bool (fewD (coms l) m)) ∧ Below w.heap.size w w' := by
 have hmax := S.len
 obtain ⟨r, hr⟩ : ∃ r, fewD (coms l) m = r := ⟨_, rfl⟩
 have HR : Hid (r = (decide ((l.length : Int) ≤ m) && (coms l).all fewK)) := aside (by rw [← hr]; unfold fewD; rw [coms_len])
 rw [hr]
 clear hr
 by_cases hm : (l.length : Int) ≤ m
 · have hg : ¬ m < (l.length : Int) := by omega
   have HR2 : Hid (r = (coms (l.drop 0)).all fewK) := aside (by rw [HR.out, decide_eq_true hm]; rfl)
   clear HR hm
   go_enter Tryz.func11, Tryz.ntmps11
   go_wp2_with (first | go_skip)
   clear hg
   go_loopw [5] (fun i wr => ∃ k : Nat, k ≤ l.length ∧ i = .int .i64 k ∧ Hid (r = (coms (l.drop k)).all fewK) ∧ Below w.heap.size w wr) (fun i _ => l.length - (intOf i).toNat)
   case atStart => exact ⟨0, Nat.zero_le _, rfl, HR2, Below.refl _ _⟩
   case round =>
     clear HR2
     obtain ⟨k, hk, rfl, HR, kb⟩ := hrel
     by_cases hlt : k < l.length
     · obtain ⟨b, off, rfl, hbw, hrg⟩ := S.plain (by omega)
       obtain ⟨x, hx⟩ : ∃ x, l[k]? = some x := ⟨_, List.getElem?_eq_getElem hlt⟩
       have hr1 := range_on (hrg k x hx) kb
       have p0 : (k : Int) < l.length := by omega
       have m0 : ((k : Int)).toNat = k := by omega
       have hc := fun W => CmX.few_ret x W
       obtain ⟨z, hz⟩ : ∃ z, fewK x.c = z := ⟨_, rfl⟩
       have HZ : Hid (r = (z && (coms (l.drop (k + 1))).all fewK)) := aside (by rw [HR.out, drop_at hx, ← hz]; rfl)
       rw [hz] at hc
       clear hrg S hx hz HR
       go_wp2_with (first | go_skip | (refine load_at rfl _ rfl _ _ rfl x hr1 ?_))
       refine (hc _).mono ?_
       rintro e w1 ⟨rfl, k1⟩
       have b1 := kb.trans (k1.mono kb.size)
       clear k1 kb hc hr1
       cases z with
       | false =>
         go_wp2_with (first | go_skip)
         go_ret
         exact ⟨StW.ret_bool (by rw [HZ.out]; rfl), b1⟩
       | true =>
         go_wp2_with (first | go_skip)
         go_roundw
         case rel => exact ⟨k + 1, by omega, by go_num, aside (by rw [HZ.out]; rfl), b1⟩
         case measure => simp [intOf]; omega
     · have pn : ¬ (k : Int) < l.length := by omega
       have HT : Hid (r = true) := aside (by rw [HR.out, List.drop_of_length_le (by omega)]; rfl)
       clear HR S
       go_wp2_with (first | go_skip)
       go_ret
       exact ⟨StW.ret_bool HT.out.symm, kb⟩
 · have hg : m < (l.length : Int) := by omega
   have HF : Hid (r = false) := aside (by rw [HR.out, decide_eq_false hm]; rfl)
   clear HR hm
   go_enter Tryz.func11, Tryz.ntmps11
   go_wp2_with (first | go_skip)
   go_ret
   exact ⟨StW.ret_bool HF.out.symm, Below.refl _ _⟩
def NewD (l : List Idn) (w : World) (e : Ending) (w' : World) : Prop := ∃ A cap, e = .returned (.slice A l.length cap) ∧ SlI w' A cap l ∧ Below w.heap.size w w'
theorem take_map {l : List Com} {k : Nat} {c : Com} (h : l[k]? = some c) : (l.take (k + 1)).map hashK = (l.take k).map hashK ++ [hashK c] := by
 obtain ⟨hk, e⟩ := List.getElem?_eq_some_iff.1 h
 rw [List.take_succ_eq_append_getElem hk, List.map_append, e]
 rfl
end Go.Proofs.YtgmdhaepiclkcaaGreatDoor.DgR
