/- What the document's May, Merge and Same of package commit return: contracts. | What the laws on commits ask for: few parents, and short texts: a contract. | What functions on commits answer, in one form for both ways. No condition. | One struct read whole inside a region that draws its order, whatever its fields. No condition. | One struct read whole inside a region that draws its order, guarded or not, whatever its fields. No condition. | How a reading gives a slice of structs that came in. No condition. -/
import Derived.Test.YteojkfbnenfmkaaDoorEvWJ7
import Derived.Test.YteojkfbnenfmkaaDoorIdV
import Derived.Test.YteojkfbnenfmkaaDoorCmSJ2
import Derived.Test.YteojkfbnenfmkaaDoorRowBJ2
import Derived.Test.YteojkfbnenfmkaaDoorGrow
import Derived.Test.YteojkfbnenfmkaaDoorRowS
import Derived.ProofKit
import Derived.OpenShut
import Derived.WideShapes
namespace Go.Proofs.YteojkfbnenfmkaaDoor.CmR
set_option maxRecDepth 100000
open Go Go.RowKit Byt IdM IdW OpsM OpsW CmM StW CmW

/-- Are two commits the same? -/
def sameK (a b : Com) : Bool := decide (a.ps = b.ps) && (sameE a.node a.seq b.node b.seq && (decide (a.gen = b.gen) && OpsE.sameB a.op b.op))
theorem sameK_iff {a b : Com} : sameK a b = true ↔ a = b := by
  unfold sameK
  rw [Bool.and_eq_true, Bool.and_eq_true, Bool.and_eq_true, decide_eq_true_eq, decide_eq_true_eq, sameE_iff, OpsE.sameB_iff]
  exact ⟨fun h => Com_ext h.2.1.1 h.2.1.2 h.2.2.1 h.1 h.2.2.2, fun h => by rw [h]; exact ⟨rfl, ⟨rfl, rfl⟩, rfl, rfl⟩⟩
set_option maxRecDepth 100000 in
set_option maxHeartbeats 8000000 in
theorem same_ret (u v : Cv) (w : World) (S : In w u) (T : In w v) :
    Calls Tryd.prog 31 #[.agg (cc u), .agg (cc v)] w fun e w' => e = .returned (.bool (sameK u.c v.c)) ∧ Below w.heap.size w w' := by
  have R : Cel.Box CE ((w.alloc (.cells (cc u) 29)).alloc (.cells (cc v) 29)) w.heap.size u := (Cel.Box.new (E := CE) w u 29).alloc _
  have Q : Cel.Box CE ((w.alloc (.cells (cc u) 29)).alloc (.cells (cc v) 29)) (w.heap.size + 1) v := by
    have z : (w.alloc (.cells (cc u) 29)).heap.size = w.heap.size + 1 := by simp
    rw [← z]
    exact Cel.Box.new _ v _
  have kb : Below w.heap.size w ((w.alloc (.cells (cc u) 29)).alloc (.cells (cc v) 29)) := ((Below.refl _ _).alloc (Nat.le_refl _) _).alloc (by simp) _
  have S0 := S.below kb
  have T0 := T.below kb
  have c0 := cell_ps R
  have d0 := cell_ps Q
  have q0 := fun W S T => IdV.same_ret u.a v.a u.k v.k u.c.ps v.c.ps W S T
  have q1 := fun W => equal_ev 9998 W u.c.node u.c.seq v.c.node v.c.seq
  have q2 := fun W => OpsE.equal W u.c.op v.c.op
  obtain ⟨x, hx⟩ : ∃ x, decide (u.c.ps = v.c.ps) = x := ⟨_, rfl⟩
  obtain ⟨y, hy⟩ : ∃ y, sameE u.c.node u.c.seq v.c.node v.c.seq = y := ⟨_, rfl⟩
  obtain ⟨z, hz⟩ : ∃ z, OpsE.sameB u.c.op v.c.op = z := ⟨_, rfl⟩
  obtain ⟨b, hb⟩ : ∃ b, (u.c.gen == v.c.gen) = b := ⟨_, rfl⟩
  have HR : Hid (sameK u.c v.c = (x && (y && (b && z)))) := aside (by
    unfold sameK
    rw [hx, hy, hz, ← hb]
    congr 3)
  simp only [hx] at q0
  rw [hy] at q1
  rw [hz] at q2
  clear S T hx hy hz
  go_enter Tryd.func31, Tryd.ntmps31
  go_wp2_with fail
  refine (q0 _ S0 T0).mono ?_
  rintro e w1 ⟨rfl, k1⟩
  have R1 := R.below k1
  have Q1 := Q.below k1
  have b1 := kb.trans (k1.mono kb.size)
  clear q0 c0 d0 R Q S0 T0 k1 kb
  have c2 := cell_gen R1
  have d2 := cell_gen Q1
  have hxy : x = false ∨ x = true ∧ y = false ∨ x = true ∧ y = true ∧ b = false ∨ x = true ∧ y = true ∧ b = true := by cases x <;> cases y <;> cases b <;> simp
  rcases hxy with rfl | ⟨rfl, rfl⟩ | ⟨rfl, rfl, rfl⟩ | ⟨rfl, rfl, rfl⟩
  all_goals
    go_wp2_with (first | go_skip | (refine gkev _ rfl _ rfl u R1 rfl ?_) | (refine gkev _ rfl _ rfl v Q1 rfl ?_) | (refine gkop _ rfl _ rfl u R1 rfl ?_) | (refine gkop _ rfl _ rfl v Q1 rfl ?_))
    go_ret
    exact ⟨StW.ret_bool (by rw [HR.out]; rfl), b1⟩
end Go.Proofs.YteojkfbnenfmkaaDoor.CmR
namespace Go.Proofs.YteojkfbnenfmkaaDoor.CmX
set_option maxRecDepth 100000
open Go Go.RowKit Byt IdM IdW OpsM OpsW CmM StW CmW

def fewK (c : Com) : Bool := decide (c.ps.length ≤ 20) && (decide (c.op.key.size ≤ 100) && decide (c.op.elem.size ≤ 100))
theorem fewK_iff {c : Com} : fewK c = true ↔ c.ps.length ≤ 20 ∧ c.op.key.size ≤ 100 ∧ c.op.elem.size ≤ 100 := by
  unfold fewK
  simp only [Bool.and_eq_true, decide_eq_true_eq]
set_option maxRecDepth 100000 in
set_option maxHeartbeats 4000000 in
theorem few_ret (v : Cv) (w : World) : Calls Tryd.prog 10 #[.agg (cc v)] w fun e w' => e = .returned (.bool (fewK v.c)) ∧ Below w.heap.size w w' := by
  have R : Cel.Box CE (w.alloc (.cells (cc v) 29)) w.heap.size v := Cel.Box.new w v _
  have kb := StW.below_alloc w (.cells (cc v) 29)
  have c3 := cell_ps R
  have c5 := cell_key R
  have c6 := cell_elem R
  obtain ⟨n, hn⟩ : ∃ n, v.c.ps.length = n := ⟨_, rfl⟩
  have hw : ¬ (n : Int) ≤ 20 ∨ ((n : Int) ≤ 20 ∧ (¬ (v.c.op.key.size : Int) ≤ 100 ∨ ((v.c.op.key.size : Int) ≤ 100 ∧ (¬ (v.c.op.elem.size : Int) ≤ 100 ∨ (v.c.op.elem.size : Int) ≤ 100)))) := by omega
  obtain ⟨r, hr⟩ : ∃ r, fewK v.c = r := ⟨_, rfl⟩
  have HR : Hid (r = (decide (n ≤ 20) && (decide (v.c.op.key.size ≤ 100) && decide (v.c.op.elem.size ≤ 100)))) := aside (by rw [← hr, ← hn]; rfl)
  rw [hr]
  rw [hn] at c3
  clear hn hr R
  rcases hw with p | ⟨p1, p | ⟨p2, p | p⟩⟩
  all_goals
    go_enter Tryd.func10, Tryd.ntmps10
    go_wp2_with (first | go_skip)
    go_ret
    exact ⟨StW.ret_bool (by rw [HR.out]; simp; omega), kb⟩
end Go.Proofs.YteojkfbnenfmkaaDoor.CmX
namespace Go.Proofs.YteojkfbnenfmkaaDoor.CmY
set_option maxRecDepth 100000
open Go Go.Sort Go.RowKit Byt IdM IdW OpsM OpsW CmM StW CmW

/-- A commit's id. -/
def hashK (c : Com) : Idn := CmS.sumI (putK c)
/-- The bytes, and the error's number, of Put; what Get hands back. -/
def putB (c : Com) : List Int := if mayK c = true then putK c else []
def putN (c : Com) : Int := if mayK c = true then 0 else 1
def PutOut (c : Com) (w : World) (e : Ending) (w' : World) : Prop :=
  ∃ A cap, e = .returned (.tuple #[.slice A (putB c).length cap, .int .i64 (putN c)]) ∧ Sl w' A cap (putB c) ∧ Below w.heap.size w w'
def hashI (c : Com) : Idn := if mayK c = true then hashK c else nought
def HashOut (c : Com) (w : World) (e : Ending) (w' : World) : Prop :=
  e = .returned (.tuple #[.agg (cs (hashI c)), .int .i64 (putN c)]) ∧ Below w.heap.size w w'
theorem putB_yes {c : Com} (h : mayK c = true) : putB c = putK c ∧ putN c = 0 ∧ hashI c = hashK c := by
  unfold putB putN hashI
  rw [if_pos h, if_pos h, if_pos h]
  exact ⟨rfl, rfl, rfl⟩
theorem putB_no {c : Com} (h : mayK c = false) : putB c = [] ∧ putN c = 1 ∧ hashI c = nought := by
  have h' : ¬ mayK c = true := by rw [h]; simp
  unfold putB putN hashI
  rw [if_neg h', if_neg h', if_neg h']
  exact ⟨rfl, rfl, rfl⟩
theorem putB_len (c : Com) : (putB c).length ≤ 400 := by
  cases h : mayK c with
  | false => rw [(putB_no h).1]; simp
  | true => rw [(putB_yes h).1]; exact putK_len h
end Go.Proofs.YteojkfbnenfmkaaDoor.CmY
namespace Go.Proofs.YteojkfbnenfmkaaDoor.RowG
set_option maxRecDepth 100000
open Go Go.RowKit Byt RowS RowB

variable {α : Type}
theorem range_load (E : Enc α) {w : World} {b off : Nat} {y : α} (h : w.rangeAt b off (E.enc y)) : (Instr.loadAt E.T (.pointer (some ⟨b, off, none⟩))).run Tryd.prog w = .ok (.agg (E.enc y).toArray) w :=
  run_loadAt_mid w b off E.T (E.enc y) _ h E.under E.row (E.size y)
end Go.Proofs.YteojkfbnenfmkaaDoor.RowG
namespace Go.Proofs.YteojkfbnenfmkaaDoor.RowK
set_option maxRecDepth 100000
open Go Go.Sort Go.RowKit Byt RowS RowB RowG

variable {α : Type}
/-- As the walk meets it behind the guard. -/
theorem quiet_row (E : Enc α) {a : Act} {o : Oper} {K : Act → Prop} {w : World} (x : Operand) (ho : o.op = .load E.T x)
    (b off : Nat) (hx : a.eval x = .pointer (some ⟨b, off, none⟩)) (y : α) (hc : w.rangeAt b off (E.enc y)) (hk : K (a.put o.dst (.agg (E.enc y).toArray))) : o.quiet Tryd.prog a (fun w' => ∃ p : Regrown, w' = grow (redrawn w p.d) p.os) K := by
  refine ⟨.agg (E.enc y).toArray, fun u hu => ?_, hk⟩
  obtain ⟨p, rfl⟩ := hu
  have q := range_load E (range_below hc (below_regrown w p.d p.os))
  unfold Oper.quietAt execOp
  simp only [ho, hx, Sem.run_bind, q, Result.andThen_ok, Sem.run_pure]
  exact ⟨rfl, rfl⟩
end Go.Proofs.YteojkfbnenfmkaaDoor.RowK
namespace Go.Proofs.YteojkfbnenfmkaaDoor.OpenR
set_option maxRecDepth 100000
open Go Go.ChangeShapes Go.WideShapes Go.ChangeAt Go.RowKit Byt RowS

section
variable {H : Type} {enc : TypeId × Value → H} {W : World} {base : Nat} {α : Type}
theorem list_of {p : Nat → α → Prop} : ∀ n : Nat, (∀ i, i < n → ∃ x, p i x) → ∃ l : List α, l.length = n ∧ ∀ i x, l[i]? = some x → p i x
  | 0, _ => ⟨[], rfl, fun i x hx => by simp at hx⟩
  | n + 1, h => by
    obtain ⟨l, hl, hp⟩ := list_of n (fun i hi => h i (by omega))
    obtain ⟨x, hx⟩ := h n (by omega)
    refine ⟨l ++ [x], by simp [hl], fun i y hy => ?_⟩
    by_cases hin : i < n
    · rw [List.getElem?_append_left (by omega)] at hy
      exact hp i y hy
    · rw [List.getElem?_append_right (by omega), hl] at hy
      have hi : i - n = 0 := by
        have := (List.getElem?_eq_some_iff.1 hy).1
        simpa using this
      rw [hi] at hy
      obtain rfl : x = y := by simpa using hy
      rw [show i = n by omega]
      exact hx
/-- The cell at a place of a list's cells. -/
theorem flat_split (E : Enc α) {l : List α} {i : Nat} {v : Value} (h : (flat E l)[i]? = some v) : ∃ m j x, i = m * E.k + j ∧ l[m]? = some x ∧ (E.enc x)[j]? = some v := by
  have hi := (List.getElem?_eq_some_iff.1 h).1
  rw [flat_length] at hi
  have hp := E.pos
  have hm : i / E.k < l.length := (Nat.div_lt_iff_lt_mul hp).2 hi
  have hx : l[i / E.k]? = some l[i / E.k] := List.getElem?_eq_getElem hm
  have hj : i % E.k < (E.enc l[i / E.k]).length := by rw [E.len]; exact Nat.mod_lt _ hp
  have hv : (E.enc l[i / E.k])[i % E.k]? = some ((E.enc l[i / E.k])[i % E.k]'hj) := List.getElem?_eq_getElem hj
  have e : i = i / E.k * E.k + i % E.k := by rw [Nat.mul_comm]; exact (Nat.div_add_mod i E.k).symm
  have := flat_at E l _ _ _ _ hx hv
  rw [← e, h] at this
  exact ⟨_, _, _, e, hx, by rw [hv]; exact this.symm⟩
set_option maxRecDepth 100000 in
theorem open_rows (E : Enc α) {good : α → Prop} (hC : Tryd.prog.cellsOf E.T = E.k)
    (hread : ∀ (fuel : Nat) (cs : List Value) (y : DataW H × List MemPlace), DataW.trod enc Tryd.prog W 0 (fun _ => true) true fuel E.T cs = some y → ∃ x, cs = E.enc x ∧ good x) {v : Value} {d : DataW H} {p : List MemPlace}
    (hval : Value.okWide Tryd.prog W .any base E.S v) (h : DataW.Trod enc Tryd.prog W 0 (fun _ => true) true E.S v d p) : ∃ A cap l, v = .slice A (List.length l) cap ∧ SlR E W A cap l ∧ ∀ x ∈ l, good x := by
  obtain ⟨a, len, cap, rfl⟩ := okWide_slice E.slice hval
  obtain ⟨fuel, hf⟩ := h
  rcases DataW.trod_slice E.slice hf with ⟨hcs, _⟩ | ⟨x, len', cap', elems, rest, n, _, hcs, _, _, hl, hm, hel, hcell, _, _⟩
  · simp [Value.cells] at hcs
    obtain ⟨rfl, rfl, rfl⟩ := hcs
    exact ⟨none, 0, [], rfl, SlR.nil E W, by simp⟩
  · simp [Value.cells] at hcs
    obtain ⟨rfl, rfl, rfl⟩ := hcs
    rw [hC] at hcell
    have key : ∀ i, i < len → ∃ y : α, good y ∧ ∀ j u, (E.enc y)[j]? = some u → W.cell? (x.add (i * E.k + j)) = some u := by
      intro i hi
      have hi1 := hcell i hi
      rw [List.getElem?_eq_getElem (by omega)] at hi1
      rw [Option.bind_eq_some_iff] at hi1
      obtain ⟨cl, hcl, htr⟩ := hi1
      obtain ⟨y, rfl, hy⟩ := hread _ _ _ htr
      refine ⟨y, hy, fun j u hj => ?_⟩
      obtain ⟨_, _, hg⟩ := World.cells?_some hcl
      have hjl := (List.getElem?_eq_some_iff.1 hj).1
      rw [E.len] at hjl
      have := hg j hjl
      rw [Addr.add_add, hj] at this
      exact this
    obtain ⟨l, hll, hp⟩ := list_of len key
    refine ⟨some x, cap, l, by rw [hll], ⟨by omega, hm, .inr ⟨x, rfl, fun i u hu => ?_⟩⟩, fun y hy => ?_⟩
    · obtain ⟨m, j, y, rfl, hy, hj⟩ := flat_split E hu
      exact (hp m y hy).2 j u hj
    · obtain ⟨i, hi⟩ := List.mem_iff_getElem?.1 hy
      exact (hp i y hi).1
end
end Go.Proofs.YteojkfbnenfmkaaDoor.OpenR
