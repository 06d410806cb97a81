/- What the laws on commits ask for: few parents, and short texts: a contract. | What functions on commits answer, in one form for both ways. No condition. | One struct read whole inside a region that draws its order, whatever its fields. No condition. | One struct read whole inside a region that draws its order, guarded or not, whatever its fields. No condition. | How a reading gives a slice of structs that came in. No condition. | How a reading gives an id, and a slice of ids, that came in. | How a reading gives an operation that came in. | How a reading gives a commit that came in. No condition. -/
import Derived.Test.YteojkfbnenfmkaaGreatDoorCmR
import Derived.Test.YteojkfbnenfmkaaGreatDoorCmSJ3
import Derived.Test.YteojkfbnenfmkaaGreatDoorRowC
import Derived.Test.YteojkfbnenfmkaaGreatDoorGrowJ5
import Derived.Test.YteojkfbnenfmkaaGreatDoorRowSJ2
import Derived.ProofKit
import Derived.OpenShut
import Derived.WideShapes
import Derived.Test.YteojkfbnenfmkaaGreatDoorArrEqJ2
import Derived.Test.YteojkfbnenfmkaaGreatDoorOpsC
import Derived.Lib.SmallJoins
import Derived.Test.YteojkfbnenfmkaaGreatDoorRowFJ7
namespace Go.Proofs.YteojkfbnenfmkaaGreatDoor.CmX
set_option maxRecDepth 100000
open Go Go.RowKit Byt IdM IdW OpsM OpsW CmM StW CmW

def fewK (c : Com) : Bool := decide (c.ps.length ≤ 20) && (decide (c.op.key.size ≤ 100) && decide (c.op.elem.size ≤ 100))
theorem fewK_iff {c : Com} : fewK c = true ↔ c.ps.length ≤ 20 ∧ c.op.key.size ≤ 100 ∧ c.op.elem.size ≤ 100 := by
  unfold fewK
  simp only [Bool.and_eq_true, decide_eq_true_eq]
theorem okay {c : Com} (h : fewK c = true) (hf : Fit c) : CmR.Okay c := by
  obtain ⟨h1, h2, h3⟩ := fewK_iff.1 h
  exact ⟨hf, by omega, by omega⟩
set_option maxRecDepth 100000 in
set_option maxHeartbeats 4000000 in
theorem few_ret (v : Cv) (w : World) : Calls Tryz.prog 6 #[.agg (cc v)] w fun e w' => e = .returned (.bool (fewK v.c)) ∧ Below w.heap.size w w' := by
  have R : Cel.Box CE (w.alloc (.cells (cc v) 29)) w.heap.size v := Cel.Box.new w v _
  have kb := StW.below_alloc w (.cells (cc v) 29)
  have c3 := cell_ps R
  have c5 := cell_key R
  have c6 := cell_elem R
  obtain ⟨n, hn⟩ : ∃ n, v.c.ps.length = n := ⟨_, rfl⟩
  have hw : ¬ (n : Int) ≤ 20 ∨ ((n : Int) ≤ 20 ∧ (¬ (v.c.op.key.size : Int) ≤ 100 ∨ ((v.c.op.key.size : Int) ≤ 100 ∧ (¬ (v.c.op.elem.size : Int) ≤ 100 ∨ (v.c.op.elem.size : Int) ≤ 100)))) := by omega
  obtain ⟨r, hr⟩ : ∃ r, fewK v.c = r := ⟨_, rfl⟩
  have HR : Hid (r = (decide (n ≤ 20) && (decide (v.c.op.key.size ≤ 100) && decide (v.c.op.elem.size ≤ 100)))) := aside (by rw [← hr, ← hn]; rfl)
  rw [hr]
  rw [hn] at c3
  clear hn hr R
  rcases hw with p | ⟨p1, p | ⟨p2, p | p⟩⟩
  all_goals
    go_enter Tryz.func6, Tryz.ntmps6
    go_wp2_with (first | go_skip)
    go_ret
    exact ⟨StW.ret_bool (by rw [HR.out]; simp; omega), kb⟩
end Go.Proofs.YteojkfbnenfmkaaGreatDoor.CmX
namespace Go.Proofs.YteojkfbnenfmkaaGreatDoor.CmY
set_option maxRecDepth 100000
open Go Go.Sort Go.RowKit Byt IdM IdW OpsM OpsW CmM StW CmW

/-- A commit's id. -/
def hashK (c : Com) : Idn := CmS.sumI (putK c)
/-- The bytes, and the error's number, of Put; what Get hands back. -/
def putB (c : Com) : List Int := if mayK c = true then putK c else []
def putN (c : Com) : Int := if mayK c = true then 0 else 1
def PutOut (c : Com) (w : World) (e : Ending) (w' : World) : Prop :=
  ∃ A cap, e = .returned (.tuple #[.slice A (putB c).length cap, .int .i64 (putN c)]) ∧ Sl w' A cap (putB c) ∧ Below w.heap.size w w'
def hashI (c : Com) : Idn := if mayK c = true then hashK c else nought
def HashOut (c : Com) (w : World) (e : Ending) (w' : World) : Prop :=
  e = .returned (.tuple #[.agg (cs (hashI c)), .int .i64 (putN c)]) ∧ Below w.heap.size w w'
theorem putB_yes {c : Com} (h : mayK c = true) : putB c = putK c ∧ putN c = 0 ∧ hashI c = hashK c := by
  unfold putB putN hashI
  rw [if_pos h, if_pos h, if_pos h]
  exact ⟨rfl, rfl, rfl⟩
theorem putB_no {c : Com} (h : mayK c = false) : putB c = [] ∧ putN c = 1 ∧ hashI c = nought := by
  have h' : ¬ mayK c = true := by rw [h]; simp
  unfold putB putN hashI
  rw [if_neg h', if_neg h', if_neg h']
  exact ⟨rfl, rfl, rfl⟩
theorem putB_len (c : Com) : (putB c).length ≤ 400 := by
  cases h : mayK c with
  | false => rw [(putB_no h).1]; simp
  | true => rw [(putB_yes h).1]; exact putK_len h
end Go.Proofs.YteojkfbnenfmkaaGreatDoor.CmY
namespace Go.Proofs.YteojkfbnenfmkaaGreatDoor.RowG
set_option maxRecDepth 100000
open Go Go.RowKit Byt RowS RowB

variable {α : Type}
theorem range_load (E : Enc α) {w : World} {b off : Nat} {y : α} (h : w.rangeAt b off (E.enc y)) : (Instr.loadAt E.T (.pointer (some ⟨b, off, none⟩))).run Tryz.prog w = .ok (.agg (E.enc y).toArray) w :=
  run_loadAt_mid w b off E.T (E.enc y) _ h E.under E.row (E.size y)
end Go.Proofs.YteojkfbnenfmkaaGreatDoor.RowG
namespace Go.Proofs.YteojkfbnenfmkaaGreatDoor.RowK
set_option maxRecDepth 100000
open Go Go.Sort Go.RowKit Byt RowS RowB RowG

variable {α : Type}
/-- As the walk meets it behind the guard. -/
theorem quiet_row (E : Enc α) {a : Act} {o : Oper} {K : Act → Prop} {w : World} (x : Operand) (ho : o.op = .load E.T x)
    (b off : Nat) (hx : a.eval x = .pointer (some ⟨b, off, none⟩)) (y : α) (hc : w.rangeAt b off (E.enc y)) (hk : K (a.put o.dst (.agg (E.enc y).toArray))) : o.quiet Tryz.prog a (fun w' => ∃ p : Regrown, w' = grow (redrawn w p.d) p.os) K := by
  refine ⟨.agg (E.enc y).toArray, fun u hu => ?_, hk⟩
  obtain ⟨p, rfl⟩ := hu
  have q := range_load E (range_below hc (below_regrown w p.d p.os))
  unfold Oper.quietAt execOp
  simp only [ho, hx, Sem.run_bind, q, Result.andThen_ok, Sem.run_pure]
  exact ⟨rfl, rfl⟩
end Go.Proofs.YteojkfbnenfmkaaGreatDoor.RowK
namespace Go.Proofs.YteojkfbnenfmkaaGreatDoor.OpenR
set_option maxRecDepth 100000
open Go Go.ChangeShapes Go.WideShapes Go.ChangeAt Go.RowKit Byt RowS

section
variable {H : Type} {enc : TypeId × Value → H} {W : World} {base : Nat} {α : Type}
theorem list_of {p : Nat → α → Prop} : ∀ n : Nat, (∀ i, i < n → ∃ x, p i x) → ∃ l : List α, l.length = n ∧ ∀ i x, l[i]? = some x → p i x
  | 0, _ => ⟨[], rfl, fun i x hx => by simp at hx⟩
  | n + 1, h => by
    obtain ⟨l, hl, hp⟩ := list_of n (fun i hi => h i (by omega))
    obtain ⟨x, hx⟩ := h n (by omega)
    refine ⟨l ++ [x], by simp [hl], fun i y hy => ?_⟩
    by_cases hin : i < n
    · rw [List.getElem?_append_left (by omega)] at hy
      exact hp i y hy
    · rw [List.getElem?_append_right (by omega), hl] at hy
      have hi : i - n = 0 := by
        have := (List.getElem?_eq_some_iff.1 hy).1
        simpa using this
      rw [hi] at hy
      obtain rfl : x = y := by simpa using hy
      rw [show i = n by omega]
      exact hx
/-- The cell at a place of a list's cells. -/
theorem flat_split (E : Enc α) {l : List α} {i : Nat} {v : Value} (h : (flat E l)[i]? = some v) : ∃ m j x, i = m * E.k + j ∧ l[m]? = some x ∧ (E.enc x)[j]? = some v := by
  have hi := (List.getElem?_eq_some_iff.1 h).1
  rw [flat_length] at hi
  have hp := E.pos
  have hm : i / E.k < l.length := (Nat.div_lt_iff_lt_mul hp).2 hi
  have hx : l[i / E.k]? = some l[i / E.k] := List.getElem?_eq_getElem hm
  have hj : i % E.k < (E.enc l[i / E.k]).length := by rw [E.len]; exact Nat.mod_lt _ hp
  have hv : (E.enc l[i / E.k])[i % E.k]? = some ((E.enc l[i / E.k])[i % E.k]'hj) := List.getElem?_eq_getElem hj
  have e : i = i / E.k * E.k + i % E.k := by rw [Nat.mul_comm]; exact (Nat.div_add_mod i E.k).symm
  have := flat_at E l _ _ _ _ hx hv
  rw [← e, h] at this
  exact ⟨_, _, _, e, hx, by rw [hv]; exact this.symm⟩
set_option maxRecDepth 100000 in
theorem open_rows (E : Enc α) {good : α → Prop} (hC : Tryz.prog.cellsOf E.T = E.k)
    (hread : ∀ (fuel : Nat) (cs : List Value) (y : DataW H × List MemPlace), DataW.trod enc Tryz.prog W 0 (fun _ => true) true fuel E.T cs = some y → ∃ x, cs = E.enc x ∧ good x) {v : Value} {d : DataW H} {p : List MemPlace}
    (hval : Value.okWide Tryz.prog W .any base E.S v) (h : DataW.Trod enc Tryz.prog W 0 (fun _ => true) true E.S v d p) : ∃ A cap l, v = .slice A (List.length l) cap ∧ SlR E W A cap l ∧ ∀ x ∈ l, good x := by
  obtain ⟨a, len, cap, rfl⟩ := okWide_slice E.slice hval
  obtain ⟨fuel, hf⟩ := h
  rcases DataW.trod_slice E.slice hf with ⟨hcs, _⟩ | ⟨x, len', cap', elems, rest, n, _, hcs, _, _, hl, hm, hel, hcell, _, _⟩
  · simp [Value.cells] at hcs
    obtain ⟨rfl, rfl, rfl⟩ := hcs
    exact ⟨none, 0, [], rfl, SlR.nil E W, by simp⟩
  · simp [Value.cells] at hcs
    obtain ⟨rfl, rfl, rfl⟩ := hcs
    rw [hC] at hcell
    have key : ∀ i, i < len → ∃ y : α, good y ∧ ∀ j u, (E.enc y)[j]? = some u → W.cell? (x.add (i * E.k + j)) = some u := by
      intro i hi
      have hi1 := hcell i hi
      rw [List.getElem?_eq_getElem (by omega)] at hi1
      rw [Option.bind_eq_some_iff] at hi1
      obtain ⟨cl, hcl, htr⟩ := hi1
      obtain ⟨y, rfl, hy⟩ := hread _ _ _ htr
      refine ⟨y, hy, fun j u hj => ?_⟩
      obtain ⟨_, _, hg⟩ := World.cells?_some hcl
      have hjl := (List.getElem?_eq_some_iff.1 hj).1
      rw [E.len] at hjl
      have := hg j hjl
      rw [Addr.add_add, hj] at this
      exact this
    obtain ⟨l, hll, hp⟩ := list_of len key
    refine ⟨some x, cap, l, by rw [hll], ⟨by omega, hm, .inr ⟨x, rfl, fun i u hu => ?_⟩⟩, fun y hy => ?_⟩
    · obtain ⟨m, j, y, rfl, hy, hj⟩ := flat_split E hu
      exact (hp m y hy).2 j u hj
    · obtain ⟨i, hi⟩ := List.mem_iff_getElem?.1 hy
      exact (hp i y hi).1
end
end Go.Proofs.YteojkfbnenfmkaaGreatDoor.OpenR
namespace Go.Proofs.YteojkfbnenfmkaaGreatDoor.OpenI
set_option maxRecDepth 100000
open Go Go.ChangeShapes Go.WideShapes Go.ChangeAt Go.RowKit IdM Byt IdW

section
variable {H : Type} {enc : TypeId × Value → H} {P : Program} {t e : TypeId} {W : World} {base : Nat}
/-- Thirty-two cells that read as an array of bytes are an id's. -/
theorem cells_id (ht : P.underlying t = some (.array 32 e)) (he : P.underlying e = some (.int .u8)) (hc : P.cellsOf e = 1) (hC : P.cellsOf t = 32) {sp : Nat → Bool} {hd : Bool} {fuel : Nat} {l : List Value} {x : DataW H × List MemPlace}
    (hf : DataW.trod enc P W base sp hd fuel t l = some x) : ∃ y : Idn, l = bv y.1 := by
  obtain ⟨xs, m, _, _, hlen, hn, hel⟩ := DataW.trod_array ht hf
  rw [hC] at hlen
  have key : ∀ i, i < 32 → ∃ n : Int, l[i]? = some (.int .u8 n) ∧ 0 ≤ n ∧ n ≤ 255 := by
    intro i hi
    have hi1 := hel i hi
    rw [List.getElem?_eq_getElem (by omega)] at hi1
    obtain ⟨n, e1, _, hw⟩ := DataW.trod_int he hi1
    have hb := B_of_wf hw
    unfold B at hb
    refine ⟨n, ?_, hb⟩
    rw [hc, Nat.mul_one] at e1
    have e3 := congrArg (fun l => l[0]?) e1
    simpa using e3
  have hl : (List.map (fun i => (l[i]?).elim 0 fun v => match v with | .int _ n => n | _ => 0) (List.range 32)).length = 32 := by simp
  refine ⟨⟨List.map (fun i => (l[i]?).elim 0 fun v => match v with | .int _ n => n | _ => 0) (List.range 32), hl, fun n hn => ?_⟩, ?_⟩
  · simp only [List.mem_map, List.mem_range] at hn
    obtain ⟨i, hi, rfl⟩ := hn
    obtain ⟨n, e, hb⟩ := key i hi
    rw [e]
    exact hb
  · apply List.ext_getElem?
    intro i
    by_cases hi : i < 32
    · obtain ⟨n, e, _⟩ := key i hi
      rw [e, bv_at _ (by simpa using hi)]
      simp [List.getD_eq_getElem?_getD, hi, e]
    · rw [List.getElem?_eq_none (by omega), List.getElem?_eq_none (by rw [bv_length]; simp; omega)]
theorem list_of {p : Nat → Idn → Prop} : ∀ n : Nat, (∀ i, i < n → ∃ x, p i x) → ∃ l : List Idn, l.length = n ∧ ∀ i, i < n → p i (l.getD i nought)
  | 0, _ => ⟨[], rfl, fun i hi => absurd hi (Nat.not_lt_zero i)⟩
  | n + 1, h => by
    obtain ⟨l, hl, hp⟩ := list_of n (fun i hi => h i (by omega))
    obtain ⟨x, hx⟩ := h n (by omega)
    refine ⟨l ++ [x], by simp [hl], fun i hi => ?_⟩
    rw [List.getD_eq_getElem?_getD]
    by_cases hin : i < n
    · rw [List.getElem?_append_left (by omega), ← List.getD_eq_getElem?_getD]
      exact hp i hin
    · have : i = n := by omega
      subst this
      rw [List.getElem?_append_right (by omega), hl, Nat.sub_self]
      exact hx
theorem open_ids {s : TypeId} (hs : P.underlying s = some (.slice t)) (ht : P.underlying t = some (.array 32 e)) (he : P.underlying e = some (.int .u8)) (hc : P.cellsOf e = 1) (hC : P.cellsOf t = 32) {v : Value} {d : DataW H} {p : List MemPlace}
    (hval : Value.okWide P W .any base s v) (h : DataW.Trod enc P W 0 (fun _ => true) true s v d p) : ∃ A cap l, v = .slice A (List.length l) cap ∧ SlI W A cap l := by
  obtain ⟨a, len, cap, rfl⟩ := okWide_slice hs hval
  obtain ⟨fuel, hf⟩ := h
  rcases DataW.trod_slice hs hf with ⟨hcs, _⟩ | ⟨x, len', cap', elems, rest, n, _, hcs, _, _, hl, hm, hel, hcell, _, _⟩
  · simp [Value.cells] at hcs
    obtain ⟨rfl, rfl, rfl⟩ := hcs
    exact ⟨none, 0, [], rfl, SlI.nil W⟩
  · simp [Value.cells] at hcs
    obtain ⟨rfl, rfl, rfl⟩ := hcs
    rw [hC] at hcell
    have key : ∀ i, i < len → ∃ y : Idn, ∀ j, j < 32 → W.cell? (x.add (i * 32 + j)) = some (.int .u8 (y.1.getD j 0)) := by
      intro i hi
      have hi1 := hcell i hi
      rw [List.getElem?_eq_getElem (by omega)] at hi1
      rw [Option.bind_eq_some_iff] at hi1
      obtain ⟨cl, hcl, htr⟩ := hi1
      obtain ⟨y, rfl⟩ := cells_id ht he hc hC htr
      refine ⟨y, fun j hj => ?_⟩
      obtain ⟨_, _, hg⟩ := World.cells?_some hcl
      have := hg j hj
      rw [Addr.add_add, bv_at _ (by rw [Idn_len]; exact hj)] at this
      exact this
    obtain ⟨l, hll, hp⟩ := list_of len key
    refine ⟨some x, cap, l, by rw [hll], by omega, hm, .inr ⟨x, rfl, fun i hi => ?_⟩⟩
    rw [flat_length, hll] at hi
    have f := flat_at l (i / 32) (i % 32) (by rw [hll]; omega) (by omega)
    have q := hp (i / 32) (by omega) (i % 32) (by omega)
    rw [show i / 32 * 32 + i % 32 = i by omega] at f q
    rw [q, f]
end
end Go.Proofs.YteojkfbnenfmkaaGreatDoor.OpenI
namespace Go.Proofs.YteojkfbnenfmkaaGreatDoor.OpenO
set_option maxRecDepth 100000
open Go Go.Deep Go.Joins Go.ChangeShapes Go.WideShapes Go.ChangeAt Go.RowKit Byt OpsM OpsW OpsC

theorem i64_of {n : Int} (h : (Lit.int .i64 n).wf = true) : I64 n := by
  unfold I64
  simpa [Lit.wf, IntKind.min, IntKind.max, IntKind.bits, IntKind.signed] using h
end Go.Proofs.YteojkfbnenfmkaaGreatDoor.OpenO
namespace Go.Proofs.YteojkfbnenfmkaaGreatDoor.OpenK
set_option maxRecDepth 100000
open Go Go.Deep Go.ChangeShapes Go.WideShapes Go.ChangeAt Go.RowKit IdM Byt IdW OpsM OpsW CmM StW CmW

section
variable {H : Type} {enc : TypeId × Value → H} {W : World}
theorem read_ids {P : Program} {t e s : TypeId} (hs : P.underlying s = some (.slice t)) (ht : P.underlying t = some (.array 32 e)) (he : P.underlying e = some (.int .u8)) (hc : P.cellsOf e = 1) (hC : P.cellsOf t = 32) (fuel : Nat) (cs : List Value) (y : DataW H × List MemPlace)
    (hf : DataW.trod enc P W 0 (fun _ => true) true fuel s cs = some y) : ∃ A cap l, cs = [.slice A (List.length l) cap] ∧ SlI W A cap l := by
  rcases DataW.trod_slice hs hf with ⟨rfl, _⟩ | ⟨x, len, cap, elems, rest, n, _, rfl, _, _, hl, hm, hel, hcell, _, _⟩
  · exact ⟨none, 0, [], rfl, SlI.nil W⟩
  · rw [hC] at hcell
    have key : ∀ i, i < len → ∃ y : Idn, ∀ j, j < 32 → W.cell? (x.add (i * 32 + j)) = some (.int .u8 (y.1.getD j 0)) := by
      intro i hi
      have hi1 := hcell i hi
      rw [List.getElem?_eq_getElem (by omega)] at hi1
      rw [Option.bind_eq_some_iff] at hi1
      obtain ⟨cl, hcl, htr⟩ := hi1
      obtain ⟨y, rfl⟩ := OpenI.cells_id ht he hc hC htr
      refine ⟨y, fun j hj => ?_⟩
      obtain ⟨_, _, hg⟩ := World.cells?_some hcl
      have := hg j hj
      rw [Addr.add_add, bv_at _ (by rw [Idn_len]; exact hj)] at this
      exact this
    obtain ⟨l, hll, hp⟩ := OpenI.list_of len key
    refine ⟨some x, cap, l, by rw [hll], by omega, hm, .inr ⟨x, rfl, fun i hi => ?_⟩⟩
    rw [flat_length, hll] at hi
    have f := flat_at l (i / 32) (i % 32) (by rw [hll]; omega) (by omega)
    have q := hp (i / 32) (by omega) (i % 32) (by omega)
    rw [show i / 32 * 32 + i % 32 = i by omega] at f q
    rw [q, f]
theorem read_ev {t : TypeId} {f0 f1 : Field} (hs : Tryz.prog.underlying t = some (.struct #[f0, f1])) (hC : Tryz.prog.cellsOf t = 2)
    (o0 : f0.offset = 0) (o1 : f1.offset = 1) (k0 : Tryz.prog.cellsOf f0.type = 1) (k1 : Tryz.prog.cellsOf f1.type = 1)
    (h0 : Tryz.prog.underlying f0.type = some (.int .i64)) (h1 : Tryz.prog.underlying f1.type = some (.int .i64)) (fuel : Nat) (cs : List Value) (y : DataW H × List MemPlace)
    (h : DataW.trod enc Tryz.prog W 0 (fun _ => true) true fuel t cs = some y) : ∃ m n : Int, cs = [.int .i64 m, .int .i64 n] ∧ I64 m ∧ I64 n := by
  obtain ⟨xs, n, _, _, hl, hlen, hf⟩ := DataW.trod_struct hs h
  rw [hC] at hl
  obtain ⟨a, b, rfl⟩ : ∃ a b, cs = [a, b] := by
    match cs, hl with
    | [a, b], _ => exact ⟨a, b, rfl⟩
  obtain ⟨y0, y1, rfl⟩ : ∃ a b, xs = [a, b] := by
    match xs, hlen with
    | [a, b], _ => exact ⟨a, b, rfl⟩
  have e0 := hf 0 f0 rfl
  have e1 := hf 1 f1 rfl
  rw [o0, k0] at e0
  rw [o1, k1] at e1
  simp only [List.drop_zero, List.take_succ_cons, List.take_zero, List.drop_succ_cons, List.getElem?_cons_zero, List.getElem?_cons_succ] at e0 e1
  obtain ⟨s, q0, _, w0⟩ := DataW.trod_int h0 e0
  obtain ⟨m, q1, _, w1⟩ := DataW.trod_int h1 e1
  simp only [List.cons.injEq, and_true] at q0 q1
  subst q0 q1
  exact ⟨s, m, rfl, OpenO.i64_of w0, OpenO.i64_of w1⟩
theorem read_op {t : TypeId} {f0 f1 f2 f3 : Field} (hs : Tryz.prog.underlying t = some (.struct #[f0, f1, f2, f3])) (hC : Tryz.prog.cellsOf t = 4)
    (o0 : f0.offset = 0) (o1 : f1.offset = 1) (o2 : f2.offset = 2) (o3 : f3.offset = 3) (k0 : Tryz.prog.cellsOf f0.type = 1) (k1 : Tryz.prog.cellsOf f1.type = 1) (k2 : Tryz.prog.cellsOf f2.type = 1) (k3 : Tryz.prog.cellsOf f3.type = 1)
    (h0 : Tryz.prog.underlying f0.type = some (.int .i64)) (h1 : Tryz.prog.underlying f1.type = some .string) (h2 : Tryz.prog.underlying f2.type = some .string) (h3 : Tryz.prog.underlying f3.type = some (.int .i64)) (fuel : Nat) (cs : List Value) (y : DataW H × List MemPlace)
    (h : DataW.trod enc Tryz.prog W 0 (fun _ => true) true fuel t cs = some y) : ∃ o : Opn, cs = (opc o).toList ∧ OpsC.Fit o := by
  obtain ⟨xs, n, _, _, hl, hlen, hf⟩ := DataW.trod_struct hs h
  rw [hC] at hl
  obtain ⟨a, b, c, d, rfl⟩ : ∃ a b c d, cs = [a, b, c, d] := by
    match cs, hl with
    | [a, b, c, d], _ => exact ⟨a, b, c, d, rfl⟩
  obtain ⟨y0, y1, y2, y3, rfl⟩ : ∃ a b c d, xs = [a, b, c, d] := by
    match xs, hlen with
    | [a, b, c, d], _ => exact ⟨a, b, c, d, rfl⟩
  have e0 := hf 0 f0 rfl
  have e1 := hf 1 f1 rfl
  have e2 := hf 2 f2 rfl
  have e3 := hf 3 f3 rfl
  rw [o0, k0] at e0
  rw [o1, k1] at e1
  rw [o2, k2] at e2
  rw [o3, k3] at e3
  simp only [List.drop_zero, List.take_succ_cons, List.take_zero, List.drop_succ_cons, List.getElem?_cons_zero, List.getElem?_cons_succ] at e0 e1 e2 e3
  obtain ⟨s, q0, _, w0⟩ := DataW.trod_int h0 e0
  obtain ⟨s1, q1, _, w1⟩ := DataW.trod_string h1 e1
  obtain ⟨s2, q2, _, w2⟩ := DataW.trod_string h2 e2
  obtain ⟨m, q3, _, w3⟩ := DataW.trod_int h3 e3
  simp only [List.cons.injEq, and_true] at q0 q1 q2 q3
  subst q0 q1 q2 q3
  exact ⟨⟨s, s1, s2, m⟩, rfl, ⟨OpenO.i64_of w0, OpenO.i64_of w3, w1, w2⟩⟩
theorem read_fields {t : TypeId} {f0 f1 f2 f3 : Field} (hs : Tryz.prog.underlying t = some (.struct #[f0, f1, f2, f3])) (hC : Tryz.prog.cellsOf t = 8)
    (o0 : f0.offset = 0) (o1 : f1.offset = 2) (o2 : f2.offset = 3) (o3 : f3.offset = 4) (k0 : Tryz.prog.cellsOf f0.type = 2) (k1 : Tryz.prog.cellsOf f1.type = 1) (k2 : Tryz.prog.cellsOf f2.type = 1) (k3 : Tryz.prog.cellsOf f3.type = 4)
    (t0 : f0.type = 24) (t1 : f1.type = 3) (t2 : f2.type = 25) (t3 : f3.type = 27) (fuel : Nat) (cs : List Value) (y : DataW H × List MemPlace)
    (h : DataW.trod enc Tryz.prog W 0 (fun _ => true) true fuel t cs = some y) : ∃ v : Cv, cs = CE.enc v ∧ In W v ∧ Fit v.c := by
  obtain ⟨xs, n, _, _, hl, hlen, hf⟩ := DataW.trod_struct hs h
  rw [hC] at hl
  obtain ⟨a, b, c, d, p, q, r, s, rfl⟩ : ∃ a b c d p q r s, cs = [a, b, c, d, p, q, r, s] := by
    match cs, hl with
    | [a, b, c, d, p, q, r, s], _ => exact ⟨a, b, c, d, p, q, r, s, rfl⟩
  obtain ⟨y0, y1, y2, y3, rfl⟩ : ∃ a b c d, xs = [a, b, c, d] := by
    match xs, hlen with
    | [a, b, c, d], _ => exact ⟨a, b, c, d, rfl⟩
  have e0 := hf 0 f0 rfl
  have e1 := hf 1 f1 rfl
  have e2 := hf 2 f2 rfl
  have e3 := hf 3 f3 rfl
  rw [o0, k0, t0] at e0
  rw [o1, k1, t1] at e1
  rw [o2, k2, t2] at e2
  rw [o3, k3, t3] at e3
  simp only [List.drop_zero, List.take_succ_cons, List.take_zero, List.drop_succ_cons, List.getElem?_cons_zero, List.getElem?_cons_succ] at e0 e1 e2 e3
  obtain ⟨m1, m2, q0, w0, w1⟩ := read_ev Tryz.underlying24 (by kernel_rfl) rfl rfl (by kernel_rfl) (by kernel_rfl) Tryz.underlying3 Tryz.underlying3 _ _ _ e0
  obtain ⟨g, q1, _, w2⟩ := DataW.trod_int Tryz.underlying3 e1
  obtain ⟨A, cap, l, q2, S⟩ := read_ids Tryz.underlying25 Tryz.underlying43 Tryz.underlying5 (by kernel_rfl) (by kernel_rfl) _ _ _ e2
  obtain ⟨o, q3, w3⟩ := read_op Tryz.underlying27 (by kernel_rfl) rfl rfl rfl rfl (by kernel_rfl) (by kernel_rfl) (by kernel_rfl) (by kernel_rfl) Tryz.underlying3 Tryz.underlying9 Tryz.underlying9 Tryz.underlying3 _ _ _ e3
  simp only [opc, List.cons.injEq, and_true] at q0 q1 q2 q3
  obtain ⟨rfl, rfl⟩ := q0
  obtain rfl := q1
  obtain rfl := q2
  obtain ⟨rfl, rfl, rfl, rfl⟩ := q3
  exact ⟨⟨A, cap, ⟨m1, m2, g, l, o⟩⟩, rfl, S, ⟨w0, w1, OpenO.i64_of w2, w3⟩⟩
theorem read_com (fuel : Nat) (cs : List Value) (y : DataW H × List MemPlace)
    (h : DataW.trod enc Tryz.prog W 0 (fun _ => true) true fuel 29 cs = some y) : ∃ v : Cv, cs = CE.enc v ∧ In W v ∧ Fit v.c :=
  read_fields Tryz.underlying29 (by kernel_rfl) rfl rfl rfl rfl (by kernel_rfl) (by kernel_rfl) (by kernel_rfl) (by kernel_rfl) rfl rfl rfl rfl fuel cs y h
theorem open_com {base : Nat} {v : Value} {d : DataW H} {p : List MemPlace}
    (hval : Value.okWide Tryz.prog W .any base 29 v) (h : DataW.Trod enc Tryz.prog W 0 (fun _ => true) true 29 v d p) : ∃ x : Cv, v = .agg (cc x) ∧ In W x ∧ Fit x.c := by
  obtain ⟨cs, rfl, hsz⟩ := okWide_struct Tryz.underlying29 hval
  obtain ⟨fuel, hf⟩ := h
  obtain ⟨x, hx, hi, hg⟩ := read_com fuel _ _ hf
  refine ⟨x, ?_, hi, hg⟩
  have hx2 : cs.toList = CE.enc x := by simpa [Value.cells] using hx
  have : cs.toList = (cc x).toList := hx2
  rw [show cs = cc x from Array.toList_inj.1 this]
end
end Go.Proofs.YteojkfbnenfmkaaGreatDoor.OpenK
