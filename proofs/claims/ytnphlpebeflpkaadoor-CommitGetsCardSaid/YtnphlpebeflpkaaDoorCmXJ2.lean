/- What the laws on commits ask for: few parents, and short texts: a contract. | What functions on commits answer, in one form for both ways; the document's Put, and Get, in this form. No condition. -/
import Derived.Test.YtnphlpebeflpkaaDoorCmRJ2
import Derived.Test.YtnphlpebeflpkaaDoorCmSJ2
import Derived.Test.YtnphlpebeflpkaaDoorCmG
namespace Go.Proofs.YtnphlpebeflpkaaDoor.CmX
set_option maxRecDepth 100000
open Go Go.RowKit Byt IdM IdW OpsM OpsW CmM StW CmW

def fewK (c : Com) : Bool := decide (c.ps.length ≤ 20) && (decide (c.op.key.size ≤ 100) && decide (c.op.elem.size ≤ 100))
theorem fewK_iff {c : Com} : fewK c = true ↔ c.ps.length ≤ 20 ∧ c.op.key.size ≤ 100 ∧ c.op.elem.size ≤ 100 := by
  unfold fewK
  simp only [Bool.and_eq_true, decide_eq_true_eq]
theorem okay {c : Com} (h : fewK c = true) (hf : Fit c) : CmR.Okay c := by
  obtain ⟨h1, h2, h3⟩ := fewK_iff.1 h
  exact ⟨hf, by omega, by omega⟩
set_option maxRecDepth 100000 in
set_option maxHeartbeats 4000000 in
theorem few_ret (v : Cv) (w : World) : Calls Tryd.prog 10 #[.agg (cc v)] w fun e w' => e = .returned (.bool (fewK v.c)) ∧ Below w.heap.size w w' := by
  have R : Cel.Box CE (w.alloc (.cells (cc v) 28)) w.heap.size v := Cel.Box.new w v _
  have kb := StW.below_alloc w (.cells (cc v) 28)
  have c3 := cell_ps R
  have c5 := cell_key R
  have c6 := cell_elem R
  obtain ⟨n, hn⟩ : ∃ n, v.c.ps.length = n := ⟨_, rfl⟩
  have hw : ¬ (n : Int) ≤ 20 ∨ ((n : Int) ≤ 20 ∧ (¬ (v.c.op.key.size : Int) ≤ 100 ∨ ((v.c.op.key.size : Int) ≤ 100 ∧ (¬ (v.c.op.elem.size : Int) ≤ 100 ∨ (v.c.op.elem.size : Int) ≤ 100)))) := by omega
  obtain ⟨r, hr⟩ : ∃ r, fewK v.c = r := ⟨_, rfl⟩
  have HR : Hid (r = (decide (n ≤ 20) && (decide (v.c.op.key.size ≤ 100) && decide (v.c.op.elem.size ≤ 100)))) := aside (by rw [← hr, ← hn]; rfl)
  rw [hr]
  rw [hn] at c3
  clear hn hr R
  rcases hw with p | ⟨p1, p | ⟨p2, p | p⟩⟩
  all_goals
    go_enter Tryd.func10, Tryd.ntmps10
    go_wp2_with (first | go_skip)
    go_ret
    exact ⟨StW.ret_bool (by rw [HR.out]; simp; omega), kb⟩
end Go.Proofs.YtnphlpebeflpkaaDoor.CmX
namespace Go.Proofs.YtnphlpebeflpkaaDoor.CmY
set_option maxRecDepth 100000
open Go Go.Sort Go.RowKit Byt IdM IdW OpsM OpsW CmM StW CmW

/-- An id loaded whole, also where that is guarded, and wanted. -/
theorem gid {ops : Array Oper} {rest : List Oper} {o : Oper} {a : Act} {w : World} {Q : Exit → Act → World → Prop} (x : Operand) (ho : o.op = .load 36 x)
    (b off : Nat) (hx : a.eval x = .pointer (some ⟨b, off, none⟩)) (y : Idn) (hc : w.rangeAt b off (bv y.1)) (hw : Region.wanted o (yielded ops a.tmps) = true) (h : wpList Tryd.prog ops Q rest (a.put o.dst (.agg (cs y))) w) : wpList Tryd.prog ops Q (o :: rest) a w :=
  RowC.unguard hw (wpList_load_id rfl x ho b off hx y hc h)
/-- An operation read whole in a region that draws its order. -/
theorem quiet_op {a : Act} {o : Oper} {K : Act → Prop} {w : World} (x : Operand) (ho : o.op = .load 26 x)
    (b off : Nat) (hx : a.eval x = .pointer (some ⟨b, off, none⟩)) (y : Opn) (hc : w.rangeAt b off (opc y).toList) (hk : K (a.put o.dst (.agg (opc y)))) : o.quiet Tryd.prog a (fun w' => ∃ p : Regrown, w' = grow (redrawn w p.d) p.os) K := by
  refine ⟨.agg (opc y), fun u hu => ?_, hk⟩
  obtain ⟨p, rfl⟩ := hu
  have hr : (grow (redrawn w p.d) p.os).rangeAt b off (opc y).toList := fun j v hv => ((below_regrown w p.d p.os).cell (block_lt_of_cell (hc j v hv))).trans (hc j v hv)
  have q := run_loadAt_mid _ b off 26 (opc y).toList _ hr Tryd.underlying26 rfl (info_opl y)
  unfold Oper.quietAt execOp
  simp only [ho, hx, Sem.run_bind, q, Result.andThen_ok, Sem.run_pure]
  exact ⟨rfl, rfl⟩
/-- The bytes, and the error's number, of Put; what Get hands back. -/
def putB (c : Com) : List Int := if mayK c = true then putK c else []
def putN (c : Com) : Int := if mayK c = true then 0 else 1
def PutOut (c : Com) (w : World) (e : Ending) (w' : World) : Prop :=
  ∃ A cap, e = .returned (.tuple #[.slice A (putB c).length cap, .int .i64 (putN c)]) ∧ Sl w' A cap (putB c) ∧ Below w.heap.size w w'
def hashI (c : Com) : Idn := if mayK c = true then CmH.hashK c else nought
def HashOut (c : Com) (w : World) (e : Ending) (w' : World) : Prop :=
  e = .returned (.tuple #[.agg (cs (hashI c)), .int .i64 (putN c)]) ∧ Below w.heap.size w w'
def gotC (q : Option (Com × List Int)) : Com := (q.map (·.1)).getD noK
def gotR (q : Option (Com × List Int)) : List Int := (q.map (·.2)).getD []
def gotN (q : Option (Com × List Int)) : Int := if q.isSome = true then 0 else 2
def GetAll (q : Option (Com × List Int)) (w : World) (e : Ending) (w' : World) : Prop :=
  ∃ v A k, e = .returned (.tuple #[.agg (cc v), .slice A (gotR q).length k, .int .i64 (gotN q)]) ∧ v.c = gotC q ∧ In w' v ∧ Sl w' A k (gotR q) ∧ Below w.heap.size w w'
theorem putB_yes {c : Com} (h : mayK c = true) : putB c = putK c ∧ putN c = 0 ∧ hashI c = CmH.hashK c := by
  unfold putB putN hashI
  rw [if_pos h, if_pos h, if_pos h]
  exact ⟨rfl, rfl, rfl⟩
theorem putB_no {c : Com} (h : mayK c = false) : putB c = [] ∧ putN c = 1 ∧ hashI c = nought := by
  have h' : ¬ mayK c = true := by rw [h]; simp
  unfold putB putN hashI
  rw [if_neg h', if_neg h', if_neg h']
  exact ⟨rfl, rfl, rfl⟩
theorem putB_len (c : Com) : (putB c).length ≤ 400 := by
  cases h : mayK c with
  | false => rw [(putB_no h).1]; simp
  | true => rw [(putB_yes h).1]; exact putK_len h
theorem putB_B (c : Com) : ∀ x ∈ putB c, B x := by
  cases h : mayK c with
  | false => rw [(putB_no h).1]; simp
  | true => rw [(putB_yes h).1]; exact putK_B c
theorem put_doc (v : Cv) (w : World) (S : In w v) (ho : CmR.Okay v.c) : Calls Tryd.prog 12 #[.agg (cc v)] w (PutOut v.c w) := by
  cases h : mayK v.c with
  | false =>
    refine (CmP.put_no v w S ho h).mono ?_
    rintro e w' ⟨rfl, k⟩
    obtain ⟨h1, h2, _⟩ := putB_no h
    refine ⟨none, 0, by rw [h1, h2]; rfl, by rw [h1]; exact Sl.nil w', k⟩
  | true =>
    refine (CmP.put_yes v w S ho h).mono ?_
    rintro e w' ⟨x, rfl, own, k⟩
    obtain ⟨h1, h2, _⟩ := putB_yes h
    obtain ⟨A, cap, rfl, S'⟩ := Sl.own own (putK_B _)
    exact ⟨A, cap, by rw [h1, h2], by rw [h1]; exact S', k⟩
theorem hash_doc (v : Cv) (w : World) (S : In w v) (ho : CmR.Okay v.c) : Calls Tryd.prog 14 #[.agg (cc v)] w (HashOut v.c w) := CmH.hash_ret v w S ho
theorem get_doc (A : Option Addr) (cap : Nat) (bs : List Int) (w : World) (S : Sl w A cap bs) (hl : bs.length ≤ 1099511627776) :
    Calls Tryd.prog 22 #[.slice A bs.length cap] w (GetAll (getK bs) w) := by
  refine (CmG.get_ret A cap bs w S hl).mono ?_
  rintro e w' ⟨k, h⟩
  cases hq : getK bs with
  | none =>
    rw [hq] at h
    exact ⟨noV, none, 0, h, rfl, In.none w', Sl.nil w', k⟩
  | some p =>
    obtain ⟨c, r⟩ := p
    rw [hq] at h
    obtain ⟨v, A', c', h1, h2, h3, h4⟩ := h
    exact ⟨v, A', c', h1, h2, h3, h4, k⟩
end Go.Proofs.YtnphlpebeflpkaaDoor.CmY
