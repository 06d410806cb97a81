/- OpsGets returns true for every input: the operation that any bytes begin with, or that they begin with none, is what the document says. No condition. -/
import Derived.Test.YtkjhjaeglgoepaaOpsA
import Derived.Test.YtkjhjaeglgoepaaOpsS
import Derived.Test.YtkjhjaeglgoepaaOpsT
import Derived.Test.YtkjhjaeglgoepaaOpenO
import Derived.ShutString
import Derived.ChangeOld
namespace Go.Proofs.Ytkjhjaeglgoepaa.opsGets
open Go Go.ChangeShapes Go.WideShapes Go.ChangeAt Go.RowKit Go.Sort Byt OpsM OpsK OpsW OpsC OpsP OpsH OpsE OpsA

set_option maxRecDepth 100000 in
set_option maxHeartbeats 8000000 in
theorem out (A : Option Addr) (len cap : Nat) (w : World) (hm : len ≤ 9223372036854775807) (h : 200 < len) :
    Calls Try.prog 4 #[.slice A len cap] w fun e w' => e = .returned (.bool true) ∧ Below w.heap.size w w' := by
  go_enter Try.func4, Try.ntmps4
  go_wp2_with fail
  refine (awake _).mono ?_
  rintro e w1 ⟨rfl, h1⟩
  go_wp2_with fail
  go_ret
  exact ⟨rfl, h1⟩

set_option maxRecDepth 100000 in
set_option maxHeartbeats 8000000 in
theorem isNone (A : Option Addr) (len cap : Nat) (bs : List Int) (w : World) (hS : Sl w A cap bs) (hl : bs.length = len) (hlen : len ≤ 200) (hq : getO bs = none) :
    Calls Try.prog 4 #[.slice A len cap] w fun e w' => e = .returned (.bool true) ∧ Below w.heap.size w w' := by
  have c1 := fun W S => get A len cap bs W S hl (by omega)
  have c2 := fun W S => OpsT.get A len cap bs W S hl (by omega)
  unfold GetOut at c1 c2
  rw [hq] at c1 c2
  simp only at c1 c2
  have heq := equal_yes noOp
  clear hq
  go_enter Try.func4, Try.ntmps4
  go_wp2_with fail
  refine (awake _).mono ?_
  rintro e w1 ⟨rfl, h1⟩
  go_wp2_with fail
  refine (c1 _ (hS.below h1)).mono ?_
  clear c1
  rintro e w2 ⟨h2, rfl⟩
  have k2 : Below w.heap.size w w2 := h1.trans (h2.mono h1.size)
  have R2 := OpAt.new w2 noOp 23
  have hs2 := k2.size
  clear h1 h2
  go_wp2_with (refine wpList_store_op rfl rfl _ _ rfl _ rfl noOp R2 noOp rfl ?_; intro w3 R3 b3 g3)
  have k3 : Below w.heap.size w w3 := (k2.alloc hs2 _).trans (b3 _ hs2)
  clear R2 k2 b3 g3
  refine (c2 _ (hS.below k3)).mono ?_
  clear c2
  rintro e w4 ⟨h4, rfl⟩
  have k4 : Below w.heap.size w w4 := k3.trans (h4.mono k3.size)
  have R4 := (R3.below h4).alloc (.cells (opc noOp) 23)
  have hlt := (R3.below h4).lt
  have R5 := OpAt.new w4 noOp 23
  have hs4 := k4.size
  clear k3 R3 h4
  go_wp2_with (first | (refine wpList_store_op rfl rfl _ _ rfl _ rfl noOp R5 noOp rfl ?_; intro w5 R6 b5 g5; have R7 := R4.kept g5 (by omega); have k5 : Below w.heap.size w w5 := (k4.alloc hs4 _).trans (b5 _ hs4); have q1 := (Sl.nil w5).conv (len := 0) rfl) | (refine wpList_load_op rfl _ rfl _ rfl noOp R7 ?_) | (refine wpList_load_op rfl _ rfl _ rfl noOp R6 ?_))
  go_ret
  exact ⟨rfl, k5⟩

set_option maxRecDepth 100000 in
set_option maxHeartbeats 8000000 in
theorem isSome (A : Option Addr) (len cap : Nat) (bs : List Int) (w : World) (hS : Sl w A cap bs) (hl : bs.length = len) (hlen : len ≤ 200) (o : Opn) (r : List Int) (hq : getO bs = some (o, r)) :
    Calls Try.prog 4 #[.slice A len cap] w fun e w' => e = .returned (.bool true) ∧ Below w.heap.size w w' := by
  have c1 := fun W S => get A len cap bs W S hl (by omega)
  have c2 := fun W S => OpsT.get A len cap bs W S hl (by omega)
  unfold GetOut at c1 c2
  rw [hq] at c1 c2
  simp only at c1 c2
  have heq := equal_yes o
  clear hq
  go_enter Try.func4, Try.ntmps4
  go_wp2_with fail
  refine (awake _).mono ?_
  rintro e w1 ⟨rfl, h1⟩
  go_wp2_with fail
  refine (c1 _ (hS.below h1)).mono ?_
  clear c1
  rintro e w2 ⟨h2, A2, c2', rfl, S2⟩
  have k2 : Below w.heap.size w w2 := h1.trans (h2.mono h1.size)
  have R2 := OpAt.new w2 noOp 23
  have hs2 := k2.size
  clear h1 h2
  go_wp2_with (refine wpList_store_op rfl rfl _ _ rfl _ rfl noOp R2 o rfl ?_; intro w3 R3 b3 g3)
  have k3 : Below w.heap.size w w3 := (k2.alloc hs2 _).trans (b3 _ hs2)
  have S3 := Sl.kept (S2.below (below_alloc w2 (.cells (opc noOp) 23))) R2 g3
  clear S2
  clear R2 k2 b3 g3
  refine (c2 _ (hS.below k3)).mono ?_
  clear c2
  rintro e w4 ⟨h4, A4, c4', rfl, S4⟩
  have k4 : Below w.heap.size w w4 := k3.trans (h4.mono k3.size)
  have R4 := (R3.below h4).alloc (.cells (opc noOp) 23)
  have hlt := (R3.below h4).lt
  have S3b := (S3.below h4).below (below_alloc w4 (.cells (opc noOp) 23))
  have S4b := S4.below (below_alloc w4 (.cells (opc noOp) 23))
  clear S3 S4
  have R5 := OpAt.new w4 noOp 23
  have hs4 := k4.size
  clear k3 R3 h4
  go_wp2_with (first | (refine wpList_store_op rfl rfl _ _ rfl _ rfl noOp R5 o rfl ?_; intro w5 R6 b5 g5; have R7 := R4.kept g5 (by omega); have k5 : Below w.heap.size w w5 := (k4.alloc hs4 _).trans (b5 _ hs4); have q1 := (Sl.kept S3b R5 g5).conv rfl; have q2 := (Sl.kept S4b R5 g5).conv rfl) | (refine wpList_load_op rfl _ rfl _ rfl o R7 ?_) | (refine wpList_load_op rfl _ rfl _ rfl o R6 ?_))
  go_ret
  exact ⟨rfl, k5⟩

theorem walk (a0 : Option Addr) (len0 cap0 : Nat) (z0 : List Int) (w : World) (w0 : RowIn.RowIn .u8 w a0 len0 cap0 z0) :
    Calls Try.prog 4 #[.slice a0 len0 cap0] w fun e w' => e = .returned (.bool true) ∧ Below w.heap.size w w' := by
  obtain ⟨hS, hl⟩ := Sl.of_row w0
  by_cases h : 200 < len0
  · exact out a0 len0 cap0 w (by have := w0.1; have := w0.2.1; unfold maxLen at this; omega) h
  · cases hq : getO (z0.take len0) with
    | none => exact isNone a0 len0 cap0 _ w hS hl (by omega) hq
    | some p =>
      obtain ⟨o, r⟩ := p
      exact isSome a0 len0 cap0 _ w hS hl (by omega) o r hq

theorem own : ownKnob Try.prog.godebug = none := by kernel_rfl
theorem laidOut : laidOutB Try.prog = true := by kernel_rfl
set_option linter.unusedVariables false in
set_option maxRecDepth 100000 in
theorem lifted (os : Os) (started : os.Started) (H : Type) (enc : TypeId × Value → H) :
    ReturnsInHanded {} Try.checked os 4 .any (Rows.opsGetsSpec.pre6 enc Try.prog Try.f4 Rows.opsGetsRow.domain false) (Rows.opsGetsSpec.post enc Try.prog Try.f4 false true false false) := by
  refine returnsInHanded_of_change (C := Try.checked) own started (by kernel_rfl) Try.func4
    (ChangeSpec.witness6 (enc := enc) (C := Try.checked) false ⟨#[], #[.slice none 0 0], []⟩ 8 (by kernel_rfl) (by kernel_rfl) (by kernel_rfl) (by kernel_rfl)) ?_
  intro W base args ds gs before hval0 hW hcnd _
  have hval : ∀ (j : Nat) t v, Try.f4.params[j]? = some t → args[j]? = some v → Value.okWide Try.prog W .any base t v := hval0
  have hW' := hW
  obtain ⟨p, q, hA0, hV, rfl, hfz, hnd⟩ := hW
  have hA : DataW.TrodAll enc Try.prog W 0 (fun _ => true) true Try.f4.params.toList args.toList ds p := hA0
  rw [Try.params4] at hA hval
  obtain ⟨v0, vs0, d0, ds0, p0, q0, hargs, rfl, rfl, h0, r0⟩ := trodAll_cons hA
  obtain ⟨rfl, rfl, rfl⟩ := trodAll_nil r0
  obtain rfl : args = #[v0] := by cases args; simp_all
  obtain ⟨rfl, rfl⟩ := trodVars_none hV
  have k0 := h0
  have lt0 : ∀ x ∈ p0, x.block < W.heap.size := by obtain ⟨m, hm⟩ := k0; exact DataW.trod_lt m _ _ _ hm
  obtain ⟨a0, len0, cap0, z0, rfl, w0⟩ := RowIn.open_row Try.underlying26 Try.underlying5 (by kernel_rfl) (hval 0 26 v0 rfl rfl) h0
  clear hA0 hval0
  refine (walk a0 len0 cap0 z0 W w0).mono fun e W' ⟨he, bel⟩ => ?_
  subst he
  exact ⟨_, rfl, _, _, _, [], _, [], hW', trodAll_mk1 (shut_bool Try.underlying4 _), (trodAll_cons_mk (Below.trod laidOut (by kernel_rfl) (of_decide_eq_true (by kernel_rfl)) k0 bel lt0) trodAll_mk0), rfl, bel.frame _, fun h => by cases h⟩

theorem over : Rows.opsGetsRow.holds Try.pinned (OpenSpec.ofChange Rows.opsGetsSpec) :=
  OpenClaim.holds_of_wide 4 Try.f4 rfl rfl rfl rfl rfl rfl rfl ⟨rfl, rfl, rfl, rfl, rfl⟩ rfl rfl rfl rfl rfl (by kernel_rfl) Try.func4 (by kernel_rfl)
    (of_decide_eq_true (by kernel_rfl)) (by unfold Func.isWrapper; first | (rw [if_pos (by decide +kernel)]; kernel_rfl) | (rw [if_neg (by decide +kernel)]; exact ⟨rfl, rfl⟩))
    (fun os started H enc _ => lifted os started H enc)

theorem proved : Rows.OpsGetsSaid := over
end Go.Proofs.Ytkjhjaeglgoepaa.opsGets
