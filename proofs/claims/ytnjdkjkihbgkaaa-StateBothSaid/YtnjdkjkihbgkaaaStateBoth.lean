/- StateBoth returns true for every input: two operations, of two events, on either side, merged, are as one behind the other, unless one takes away what the other one adds. No condition. -/
import Derived.Test.YtnjdkjkihbgkaaaStTJ3
import Derived.Test.YtnjdkjkihbgkaaaOpenSJ6
import Derived.Test.YtnjdkjkihbgkaaaRegSJ5
import Derived.ShutString
import Derived.ChangeOld
namespace Go.Proofs.Ytnjdkjkihbgkaaa.stateBoth
set_option maxRecDepth 100000
open Go Go.Sort Go.ChangeShapes Go.WideShapes Go.ChangeAt Go.RowKit Byt OpsM OpsW Rise RowS StM StN StW StX StY StA
open StR (sameS sameS_iff)

theorem in6 : CtrL.In64 6 := ⟨by decide, by decide⟩
theorem in7 : CtrL.In64 7 := ⟨by decide, by decide⟩
theorem in1 : CtrL.In64 1 := ⟨by decide, by decide⟩
theorem ev_at {w : World} {g o : Nat} {c : PairM.Pr} (h : w.rangeAt g o (PairW.E.enc c)) : w.rangeAt g (o + 2) (EE.enc ⟨c.node, c.seq⟩) := fun j v hv => by
  match j, hv with
  | 0, hv => exact h 2 v hv
  | 1, hv => exact h 3 v hv

set_option maxRecDepth 100000 in
set_option maxHeartbeats 16000000 in
theorem out (a0 : Sv) (a1 : Opn) (a2 : Opn) (a3 : Int) (w : World) (w0 : In w a0) (g0 : OpenS.Good a0.s) (_w1 : OpsC.Fit a1) (_w2 : OpsC.Fit a2) (_w3 : (Lit.int .i64 a3).wf = true) (b0 : Bool) (x0 : fewS a0.s = b0) (h : b0 = false ∨ (b0 = true ∧ a3 < 1) ∨ (b0 = true ∧ 1 ≤ a3 ∧ 1000000 < a3)) :
    Calls Try.prog 4 #[.agg (sc a0), .agg (opc a1), .agg (opc a2), .int .i64 a3] w fun e w' => e = .returned (.bool true) ∧ Below w.heap.size w w' := by
  rcases h with rfl | ⟨rfl, h1⟩ | ⟨rfl, h1, h2⟩
  all_goals
    have B0 : Cel.Box SE (w.alloc (.cells (sc a0) 26)) (w.heap.size) a0 := by exact Cel.Box.new (E := SE) w a0 _
    have k0 := StW.below_alloc w (.cells (sc a0) 26)
    have w0' := w0.below k0
    clear w0
    have w0 := w0'
    clear w0'
    have kb := k0
    clear k0
    have z1 : (w.alloc (.cells (sc a0) 26)).heap.size = w.heap.size + 1 := by simp
    have B1 : OpAt ((w.alloc (.cells (sc a0) 26)).alloc (.cells (opc a1) 37)) (w.heap.size + 1) a1 := by rw [← z1]; exact OpAt.new (w.alloc (.cells (sc a0) 26)) a1 _
    have k1 := StW.below_alloc (w.alloc (.cells (sc a0) 26)) (.cells (opc a1) 37)
    have w0' := w0.below k1
    clear w0
    have w0 := w0'
    clear w0'
    have B0' := B0.below k1
    clear B0
    have B0 := B0'
    clear B0'
    have kb' := kb.trans (k1.mono kb.size)
    clear kb k1
    have kb := kb'
    clear kb'
    have z2 : ((w.alloc (.cells (sc a0) 26)).alloc (.cells (opc a1) 37)).heap.size = w.heap.size + 2 := by simp
    have B2 : OpAt (((w.alloc (.cells (sc a0) 26)).alloc (.cells (opc a1) 37)).alloc (.cells (opc a2) 37)) (w.heap.size + 2) a2 := by rw [← z2]; exact OpAt.new ((w.alloc (.cells (sc a0) 26)).alloc (.cells (opc a1) 37)) a2 _
    have k2 := StW.below_alloc ((w.alloc (.cells (sc a0) 26)).alloc (.cells (opc a1) 37)) (.cells (opc a2) 37)
    have w0' := w0.below k2
    clear w0
    have w0 := w0'
    clear w0'
    have B0' := B0.below k2
    clear B0
    have B0 := B0'
    clear B0'
    have B1' := B1.below k2
    clear B1
    have B1 := B1'
    clear B1'
    have kb' := kb.trans (k2.mono kb.size)
    clear kb k2
    have kb := kb'
    clear kb'
    go_enter Try.func4, Try.ntmps4
    go_wp2_with fail
    refine (awake _).mono ?_
    rintro e W1 ⟨rfl, k1⟩
    have hb : w.heap.size + 3 ≤ W1.heap.size := Nat.le_trans (by first | (simp; done) | (simp; omega)) k1.size
    clear z1 z2
    have w0' := w0.below k1
    clear w0
    have w0 := w0'
    clear w0'
    have B0' := B0.below k1
    clear B0
    have B0 := B0'
    clear B0'
    have B1' := B1.below k1
    clear B1
    have B1 := B1'
    clear B1'
    have B2' := B2.below k1
    clear B2
    have B2 := B2'
    clear B2'
    have kb' := kb.trans (k1.mono kb.size)
    clear kb k1
    have kb := kb'
    clear kb'
    go_wp2_with (first | go_skip | (refine CelG.gload SE _ rfl _ rfl a0 B0 rfl ?_) | (refine CelG.gop _ rfl _ rfl a1 B1 rfl ?_) | (refine CelG.gop _ rfl _ rfl a2 B2 rfl ?_))
    have hc := few_ret a0 _ w0 g0
    rw [x0] at hc
    refine hc.mono ?_
    clear hc
    rintro e W2 ⟨rfl, k2⟩
    have w0' := w0.below k2
    clear w0
    have w0 := w0'
    clear w0'
    have B0' := B0.below k2
    clear B0
    have B0 := B0'
    clear B0'
    have B1' := B1.below k2
    clear B1
    have B1 := B1'
    clear B1'
    have B2' := B2.below k2
    clear B2
    have B2 := B2'
    clear B2'
    have kb' := kb.trans (k2.mono kb.size)
    clear kb k2
    have kb := kb'
    clear kb'
    go_wp2_with (first | go_skip | (refine CelG.gload SE _ rfl _ rfl a0 B0 rfl ?_) | (refine CelG.gop _ rfl _ rfl a1 B1 rfl ?_) | (refine CelG.gop _ rfl _ rfl a2 B2 rfl ?_))
    go_ret
    exact ⟨by first | rfl | simp, kb⟩

set_option maxRecDepth 100000 in
set_option maxHeartbeats 16000000 in
theorem outk0 (a0 : Sv) (a1 : Opn) (a2 : Opn) (a3 : Int) (w : World) (w0 : In w a0) (g0 : OpenS.Good a0.s) (_w1 : OpsC.Fit a1) (_w2 : OpsC.Fit a2) (_w3 : (Lit.int .i64 a3).wf = true) (x0 : fewS a0.s = true) (h1 : 1 ≤ a3) (h2 : a3 ≤ 1000000) (hk1 : a1.kind = 3) :
    Calls Try.prog 4 #[.agg (sc a0), .agg (opc a1), .agg (opc a2), .int .i64 a3] w fun e w' => e = .returned (.bool true) ∧ Below w.heap.size w w' := by
  have B0 : Cel.Box SE (w.alloc (.cells (sc a0) 26)) (w.heap.size) a0 := by exact Cel.Box.new (E := SE) w a0 _
  have k0 := StW.below_alloc w (.cells (sc a0) 26)
  have w0' := w0.below k0
  clear w0
  have w0 := w0'
  clear w0'
  have kb := k0
  clear k0
  have z1 : (w.alloc (.cells (sc a0) 26)).heap.size = w.heap.size + 1 := by simp
  have B1 : OpAt ((w.alloc (.cells (sc a0) 26)).alloc (.cells (opc a1) 37)) (w.heap.size + 1) a1 := by rw [← z1]; exact OpAt.new (w.alloc (.cells (sc a0) 26)) a1 _
  have k1 := StW.below_alloc (w.alloc (.cells (sc a0) 26)) (.cells (opc a1) 37)
  have w0' := w0.below k1
  clear w0
  have w0 := w0'
  clear w0'
  have B0' := B0.below k1
  clear B0
  have B0 := B0'
  clear B0'
  have kb' := kb.trans (k1.mono kb.size)
  clear kb k1
  have kb := kb'
  clear kb'
  have z2 : ((w.alloc (.cells (sc a0) 26)).alloc (.cells (opc a1) 37)).heap.size = w.heap.size + 2 := by simp
  have B2 : OpAt (((w.alloc (.cells (sc a0) 26)).alloc (.cells (opc a1) 37)).alloc (.cells (opc a2) 37)) (w.heap.size + 2) a2 := by rw [← z2]; exact OpAt.new ((w.alloc (.cells (sc a0) 26)).alloc (.cells (opc a1) 37)) a2 _
  have k2 := StW.below_alloc ((w.alloc (.cells (sc a0) 26)).alloc (.cells (opc a1) 37)) (.cells (opc a2) 37)
  have w0' := w0.below k2
  clear w0
  have w0 := w0'
  clear w0'
  have B0' := B0.below k2
  clear B0
  have B0 := B0'
  clear B0'
  have B1' := B1.below k2
  clear B1
  have B1 := B1'
  clear B1'
  have kb' := kb.trans (k2.mono kb.size)
  clear kb k2
  have kb := kb'
  clear kb'
  go_enter Try.func4, Try.ntmps4
  go_wp2_with fail
  refine (awake _).mono ?_
  rintro e W1 ⟨rfl, k1⟩
  have hb : w.heap.size + 3 ≤ W1.heap.size := Nat.le_trans (by first | (simp; done) | (simp; omega)) k1.size
  clear z1 z2
  have w0' := w0.below k1
  clear w0
  have w0 := w0'
  clear w0'
  have B0' := B0.below k1
  clear B0
  have B0 := B0'
  clear B0'
  have B1' := B1.below k1
  clear B1
  have B1 := B1'
  clear B1'
  have B2' := B2.below k1
  clear B2
  have B2 := B2'
  clear B2'
  have kb' := kb.trans (k1.mono kb.size)
  clear kb k1
  have kb := kb'
  clear kb'
  go_wp2_with (first | go_skip | (refine CelG.gload SE _ rfl _ rfl a0 B0 rfl ?_) | (refine CelG.gop _ rfl _ rfl a1 B1 rfl ?_) | (refine CelG.gop _ rfl _ rfl a2 B2 rfl ?_))
  have hc := few_ret a0 _ w0 g0
  rw [x0] at hc
  refine hc.mono ?_
  clear hc
  rintro e W2 ⟨rfl, k2⟩
  have w0' := w0.below k2
  clear w0
  have w0 := w0'
  clear w0'
  have B0' := B0.below k2
  clear B0
  have B0 := B0'
  clear B0'
  have B1' := B1.below k2
  clear B1
  have B1 := B1'
  clear B1'
  have B2' := B2.below k2
  clear B2
  have B2 := B2'
  clear B2'
  have kb' := kb.trans (k2.mono kb.size)
  clear kb k2
  have kb := kb'
  clear kb'
  have ck1 := B1.kind
  have ck2 := B2.kind
  rw [hk1] at ck1
  go_wp2_with (first | go_skip | (refine CelG.gload SE _ rfl _ rfl a0 B0 rfl ?_) | (refine CelG.gop _ rfl _ rfl a1 B1 rfl ?_) | (refine CelG.gop _ rfl _ rfl a2 B2 rfl ?_))
  go_ret
  exact ⟨by first | rfl | simp, kb⟩

set_option maxRecDepth 100000 in
set_option maxHeartbeats 16000000 in
theorem outk1 (a0 : Sv) (a1 : Opn) (a2 : Opn) (a3 : Int) (w : World) (w0 : In w a0) (g0 : OpenS.Good a0.s) (_w1 : OpsC.Fit a1) (_w2 : OpsC.Fit a2) (_w3 : (Lit.int .i64 a3).wf = true) (x0 : fewS a0.s = true) (h1 : 1 ≤ a3) (h2 : a3 ≤ 1000000) (hk1 : a1.kind ≠ 3) (hk2 : a2.kind = 3) :
    Calls Try.prog 4 #[.agg (sc a0), .agg (opc a1), .agg (opc a2), .int .i64 a3] w fun e w' => e = .returned (.bool true) ∧ Below w.heap.size w w' := by
  have B0 : Cel.Box SE (w.alloc (.cells (sc a0) 26)) (w.heap.size) a0 := by exact Cel.Box.new (E := SE) w a0 _
  have k0 := StW.below_alloc w (.cells (sc a0) 26)
  have w0' := w0.below k0
  clear w0
  have w0 := w0'
  clear w0'
  have kb := k0
  clear k0
  have z1 : (w.alloc (.cells (sc a0) 26)).heap.size = w.heap.size + 1 := by simp
  have B1 : OpAt ((w.alloc (.cells (sc a0) 26)).alloc (.cells (opc a1) 37)) (w.heap.size + 1) a1 := by rw [← z1]; exact OpAt.new (w.alloc (.cells (sc a0) 26)) a1 _
  have k1 := StW.below_alloc (w.alloc (.cells (sc a0) 26)) (.cells (opc a1) 37)
  have w0' := w0.below k1
  clear w0
  have w0 := w0'
  clear w0'
  have B0' := B0.below k1
  clear B0
  have B0 := B0'
  clear B0'
  have kb' := kb.trans (k1.mono kb.size)
  clear kb k1
  have kb := kb'
  clear kb'
  have z2 : ((w.alloc (.cells (sc a0) 26)).alloc (.cells (opc a1) 37)).heap.size = w.heap.size + 2 := by simp
  have B2 : OpAt (((w.alloc (.cells (sc a0) 26)).alloc (.cells (opc a1) 37)).alloc (.cells (opc a2) 37)) (w.heap.size + 2) a2 := by rw [← z2]; exact OpAt.new ((w.alloc (.cells (sc a0) 26)).alloc (.cells (opc a1) 37)) a2 _
  have k2 := StW.below_alloc ((w.alloc (.cells (sc a0) 26)).alloc (.cells (opc a1) 37)) (.cells (opc a2) 37)
  have w0' := w0.below k2
  clear w0
  have w0 := w0'
  clear w0'
  have B0' := B0.below k2
  clear B0
  have B0 := B0'
  clear B0'
  have B1' := B1.below k2
  clear B1
  have B1 := B1'
  clear B1'
  have kb' := kb.trans (k2.mono kb.size)
  clear kb k2
  have kb := kb'
  clear kb'
  go_enter Try.func4, Try.ntmps4
  go_wp2_with fail
  refine (awake _).mono ?_
  rintro e W1 ⟨rfl, k1⟩
  have hb : w.heap.size + 3 ≤ W1.heap.size := Nat.le_trans (by first | (simp; done) | (simp; omega)) k1.size
  clear z1 z2
  have w0' := w0.below k1
  clear w0
  have w0 := w0'
  clear w0'
  have B0' := B0.below k1
  clear B0
  have B0 := B0'
  clear B0'
  have B1' := B1.below k1
  clear B1
  have B1 := B1'
  clear B1'
  have B2' := B2.below k1
  clear B2
  have B2 := B2'
  clear B2'
  have kb' := kb.trans (k1.mono kb.size)
  clear kb k1
  have kb := kb'
  clear kb'
  go_wp2_with (first | go_skip | (refine CelG.gload SE _ rfl _ rfl a0 B0 rfl ?_) | (refine CelG.gop _ rfl _ rfl a1 B1 rfl ?_) | (refine CelG.gop _ rfl _ rfl a2 B2 rfl ?_))
  have hc := few_ret a0 _ w0 g0
  rw [x0] at hc
  refine hc.mono ?_
  clear hc
  rintro e W2 ⟨rfl, k2⟩
  have w0' := w0.below k2
  clear w0
  have w0 := w0'
  clear w0'
  have B0' := B0.below k2
  clear B0
  have B0 := B0'
  clear B0'
  have B1' := B1.below k2
  clear B1
  have B1 := B1'
  clear B1'
  have B2' := B2.below k2
  clear B2
  have B2 := B2'
  clear B2'
  have kb' := kb.trans (k2.mono kb.size)
  clear kb k2
  have kb := kb'
  clear kb'
  have ck1 := B1.kind
  have ck2 := B2.kind
  rw [hk2] at ck2
  have dk1 : (a1.kind == 3) = false := beq_eq_false_iff_ne.2 hk1
  go_wp2_with (first | go_skip | (refine CelG.gload SE _ rfl _ rfl a0 B0 rfl ?_) | (refine CelG.gop _ rfl _ rfl a1 B1 rfl ?_) | (refine CelG.gop _ rfl _ rfl a2 B2 rfl ?_))
  go_ret
  exact ⟨by first | rfl | simp, kb⟩

set_option maxRecDepth 100000 in
set_option maxHeartbeats 32000000 in
theorem no1 (a0 : Sv) (a1 : Opn) (a2 : Opn) (a3 : Int) (w : World) (w0 : In w a0) (g0 : OpenS.Good a0.s) (w1 : OpsC.Fit a1) (w2 : OpsC.Fit a2) (_w3 : (Lit.int .i64 a3).wf = true) (x0 : fewS a0.s = true) (h1 : 1 ≤ a3) (h2 : a3 ≤ 1000000) (hk1 : a1.kind ≠ 3) (hk2 : a2.kind ≠ 3) (e1 : doS a0.s a1 6 1 a3 = none) (D : Option St) (e2 : doS a0.s a2 7 1 a3 = D) :
    Calls Try.prog 4 #[.agg (sc a0), .agg (opc a1), .agg (opc a2), .int .i64 a3] w fun e w' => e = .returned (.bool true) ∧ Below w.heap.size w w' := by
  have f0 := fits x0 g0
  have y0 := (few_len x0).le (show 30 ≤ 1000 by omega)
  have PL := aside (few_len x0).p
  have h64 : CtrL.In64 a3 := ⟨by omega, by omega⟩
  have X0 := aside x0
  have E1 := aside e1
  have E2 := aside e2
  clear x0 e1 e2
  obtain ⟨er, hER⟩ : ∃ e : Int, (if D.isSome then (0 : Int) else 1) = e := ⟨_, rfl⟩
  have ER := aside hER
  clear hER
  have B0 : Cel.Box SE (w.alloc (.cells (sc a0) 26)) (w.heap.size) a0 := by exact Cel.Box.new (E := SE) w a0 _
  have k0 := StW.below_alloc w (.cells (sc a0) 26)
  have w0' := w0.below k0
  clear w0
  have w0 := w0'
  clear w0'
  have kb := k0
  clear k0
  have z1 : (w.alloc (.cells (sc a0) 26)).heap.size = w.heap.size + 1 := by simp
  have B1 : OpAt ((w.alloc (.cells (sc a0) 26)).alloc (.cells (opc a1) 37)) (w.heap.size + 1) a1 := by rw [← z1]; exact OpAt.new (w.alloc (.cells (sc a0) 26)) a1 _
  have k1 := StW.below_alloc (w.alloc (.cells (sc a0) 26)) (.cells (opc a1) 37)
  have w0' := w0.below k1
  clear w0
  have w0 := w0'
  clear w0'
  have B0' := B0.below k1
  clear B0
  have B0 := B0'
  clear B0'
  have kb' := kb.trans (k1.mono kb.size)
  clear kb k1
  have kb := kb'
  clear kb'
  have z2 : ((w.alloc (.cells (sc a0) 26)).alloc (.cells (opc a1) 37)).heap.size = w.heap.size + 2 := by simp
  have B2 : OpAt (((w.alloc (.cells (sc a0) 26)).alloc (.cells (opc a1) 37)).alloc (.cells (opc a2) 37)) (w.heap.size + 2) a2 := by rw [← z2]; exact OpAt.new ((w.alloc (.cells (sc a0) 26)).alloc (.cells (opc a1) 37)) a2 _
  have k2 := StW.below_alloc ((w.alloc (.cells (sc a0) 26)).alloc (.cells (opc a1) 37)) (.cells (opc a2) 37)
  have w0' := w0.below k2
  clear w0
  have w0 := w0'
  clear w0'
  have B0' := B0.below k2
  clear B0
  have B0 := B0'
  clear B0'
  have B1' := B1.below k2
  clear B1
  have B1 := B1'
  clear B1'
  have kb' := kb.trans (k2.mono kb.size)
  clear kb k2
  have kb := kb'
  clear kb'
  go_enter Try.func4, Try.ntmps4
  go_wp2_with fail
  refine (awake _).mono ?_
  rintro e W1 ⟨rfl, k1⟩
  have hb : w.heap.size + 3 ≤ W1.heap.size := Nat.le_trans (by first | (simp; done) | (simp; omega)) k1.size
  clear z1 z2
  have w0' := w0.below k1
  clear w0
  have w0 := w0'
  clear w0'
  have B0' := B0.below k1
  clear B0
  have B0 := B0'
  clear B0'
  have B1' := B1.below k1
  clear B1
  have B1 := B1'
  clear B1'
  have B2' := B2.below k1
  clear B2
  have B2 := B2'
  clear B2'
  have kb' := kb.trans (k1.mono kb.size)
  clear kb k1
  have kb := kb'
  clear kb'
  go_wp2_with (first | go_skip | (refine CelG.gload SE _ rfl _ rfl a0 B0 rfl ?_) | (refine CelG.gop _ rfl _ rfl a1 B1 rfl ?_) | (refine CelG.gop _ rfl _ rfl a2 B2 rfl ?_))
  have hc := few_ret a0 _ w0 g0
  rw [X0.out] at hc
  refine hc.mono ?_
  clear hc
  rintro e W2 ⟨rfl, k2⟩
  have w0' := w0.below k2
  clear w0
  have w0 := w0'
  clear w0'
  have B0' := B0.below k2
  clear B0
  have B0 := B0'
  clear B0'
  have B1' := B1.below k2
  clear B1
  have B1 := B1'
  clear B1'
  have B2' := B2.below k2
  clear B2
  have B2 := B2'
  clear B2'
  have kb' := kb.trans (k2.mono kb.size)
  clear kb k2
  have kb := kb'
  clear kb'
  have ck1 := B1.kind
  have ck2 := B2.kind
  have dk1 : (a1.kind == 3) = false := beq_eq_false_iff_ne.2 hk1
  have dk2 : (a2.kind == 3) = false := beq_eq_false_iff_ne.2 hk2
  have dl1 : decide (a3 < 1) = false := decide_eq_false (by omega)
  have dl2 : decide (1000000 < a3) = false := decide_eq_false (by omega)
  go_wp2_with (first | go_skip | (refine CelG.gload SE _ rfl _ rfl a0 B0 rfl ?_) | (refine CelG.gop _ rfl _ rfl a1 B1 rfl ?_) | (refine CelG.gop _ rfl _ rfl a2 B2 rfl ?_) | (refine Cel.wpList_store_new EE rfl _ _ rfl _ _ _ rfl ⟨6, 1⟩ _ rfl rfl rfl rfl ?_; intro W3 V1 k3 g3 s3; clear g3 s3; have w0' := w0.below k3; clear w0; have w0 := w0'; clear w0'; have B0' := B0.below k3; clear B0; have B0 := B0'; clear B0'; have B1' := B1.below k3; clear B1; have B1 := B1'; clear B1'; have B2' := B2.below k3; clear B2; have B2 := B2'; clear B2'; have kb' := kb.trans (k3.mono kb.size); clear kb k3; have kb := kb'; clear kb'; clear ck1 ck2) | (refine CelG.gload EE _ rfl _ rfl ⟨6, 1⟩ V1 rfl ?_) | (refine Cel.wpList_store_new EE rfl _ _ rfl _ _ _ rfl ⟨7, 1⟩ _ rfl rfl rfl rfl ?_; intro W4 V2 k4 g4 s4; clear g4 s4; have w0' := w0.below k4; clear w0; have w0 := w0'; clear w0'; have B0' := B0.below k4; clear B0; have B0 := B0'; clear B0'; have B1' := B1.below k4; clear B1; have B1 := B1'; clear B1'; have B2' := B2.below k4; clear B2; have B2 := B2'; clear B2'; have V1' := V1.below k4; clear V1; have V1 := V1'; clear V1'; have kb' := kb.trans (k4.mono kb.size); clear kb k4; have kb := kb'; clear kb') | (refine CelG.gload EE _ rfl _ rfl ⟨7, 1⟩ V2 rfl ?_))
  go_loopw [13] (fun i wr => ∃ j : Nat, j ≤ a0.s.p.length ∧ i = .int .i64 j ∧ Hid (∀ x ∈ a0.s.p.take j, ¬ (x.node = 6 ∧ x.seq = 1) ∧ ¬ (x.node = 7 ∧ x.seq = 1)) ∧ Below W4.heap.size W4 wr) (fun i _ => a0.s.p.length - (intOf i).toNat)
  case atStart => exact ⟨0, Nat.zero_le _, rfl, aside (by simp), Below.refl _ _⟩
  case round =>
    obtain ⟨j, hj, rfl, HG, kr⟩ := hrel
    have w0' := w0.below kr; clear w0; have w0 := w0'; clear w0'
    have B0' := B0.below kr; clear B0; have B0 := B0'; clear B0'
    have B1' := B1.below kr; clear B1; have B1 := B1'; clear B1'
    have B2' := B2.below kr; clear B2; have B2 := B2'; clear B2'
    have V1' := V1.below kr; clear V1; have V1 := V1'; clear V1'
    have V2' := V2.below kr; clear V2; have V2 := V2'; clear V2'
    have kb' := kb.trans (kr.mono kb.size); clear kb; have kb := kb'; clear kb'
    have pc := (box_cells B0).2.2
    have hcap := w0.p.1
    have hmax : a0.s.p.length ≤ 30 := PL.out
    by_cases hlt : j < a0.s.p.length
    · obtain ⟨g, off, hA, hbw, hr⟩ := PairW.plain w0.p (by omega)
      obtain ⟨x, hx⟩ : ∃ x, a0.s.p[j]? = some x := ⟨_, List.getElem?_eq_getElem hlt⟩
      have p0 : (j : Int) < a0.s.p.length := by omega
      have m0 : ((j : Int)).toNat = j := by omega
      have HR := ev_at (hr j x hx)
      have hq6 : ∀ W, (Op.equalIn 10000 39 (.agg #[.int .i64 x.node, .int .i64 x.seq]) (.agg #[.int .i64 6, .int .i64 1])).run Try.prog W = .ok (decide (x.node = 6) && decide (x.seq = 1)) W := fun W => PairS.equal_ev 9998 W x.node x.seq 6 1
      have hq7 : ∀ W, (Op.equalIn 10000 39 (.agg #[.int .i64 x.node, .int .i64 x.seq]) (.agg #[.int .i64 7, .int .i64 1])).run Try.prog W = .ok (decide (x.node = 7) && decide (x.seq = 1)) W := fun W => PairS.equal_ev 9998 W x.node x.seq 7 1
      have hst : Hid (∀ b6 b7 : Bool, (decide (x.node = 6) && decide (x.seq = 1)) = b6 → (decide (x.node = 7) && decide (x.seq = 1)) = b7 → b6 = false → b7 = false → ∀ y ∈ a0.s.p.take (j + 1), ¬ (y.node = 6 ∧ y.seq = 1) ∧ ¬ (y.node = 7 ∧ y.seq = 1)) := aside (by
        rintro _ _ rfl rfl h6 h7 y hy
        obtain ⟨hj2, rfl⟩ := List.getElem?_eq_some_iff.1 hx
        rw [List.take_succ_eq_append_getElem hj2, List.mem_append, List.mem_singleton] at hy
        rcases hy with hy | rfl
        · exact HG.out y hy
        · simpa using And.intro h6 h7)
      obtain ⟨b6, hb6⟩ : ∃ b, (decide (x.node = 6) && decide (x.seq = 1)) = b := ⟨_, rfl⟩
      obtain ⟨b7, hb7⟩ : ∃ b, (decide (x.node = 7) && decide (x.seq = 1)) = b := ⟨_, rfl⟩
      rw [hb6] at hq6
      rw [hb7] at hq7
      have HT : Hid (b6 = false → b7 = false → ∀ y ∈ a0.s.p.take (j + 1), ¬ (y.node = 6 ∧ y.seq = 1) ∧ ¬ (y.node = 7 ∧ y.seq = 1)) := aside (hst.out b6 b7 hb6 hb7)
      rw [hA] at pc
      clear hr hx hb6 hb7 hst HG
      cases b6
      · cases b7
        · have HG2 := aside (HT.out rfl rfl); clear HT
          go_wp2_with (first | go_skip | (refine CelG.gload SE _ rfl _ rfl a0 B0 rfl ?_) | (refine CelG.gop _ rfl _ rfl a1 B1 rfl ?_) | (refine CelG.gop _ rfl _ rfl a2 B2 rfl ?_) | (refine CelG.gload EE _ rfl _ rfl ⟨6, 1⟩ V1 rfl ?_) | (refine CelG.gload EE _ rfl _ rfl ⟨7, 1⟩ V2 rfl ?_))
          refine Grow.region [(0, true), (1, true), (2, true), (3, true), (4, true), (5, true), (6, true), (7, true), (8, true), (9, true), (10, true), (11, true), (12, true), (13, true), (14, true), (15, true), (16, true), (17, true)] (by kernel_rfl) (by kernel_rfl) rfl (by kernel_rfl) (by intro c a d v w h; cases d <;> exact h) ?_
          rename World => V5
          have k5 := below_drew1 (Below.refl V5.heap.size V5)
          have HR' := range_below HR k5; clear HR; have HR := HR'; clear HR'
          have w0' := w0.below k5
          clear w0
          have w0 := w0'
          clear w0'
          have B0' := B0.below k5
          clear B0
          have B0 := B0'
          clear B0'
          have B1' := B1.below k5
          clear B1
          have B1 := B1'
          clear B1'
          have B2' := B2.below k5
          clear B2
          have B2 := B2'
          clear B2'
          have V1' := V1.below k5
          clear V1
          have V1 := V1'
          clear V1'
          have V2' := V2.below k5
          clear V2
          have V2 := V2'
          clear V2'
          have kb' := kb.trans (k5.mono kb.size)
          clear kb k5
          have kb := kb'
          clear kb'
          have kr' := kr.trans (below_drew1 (Below.refl V5.heap.size V5) |>.mono kr.size); clear kr; have kr := kr'; clear kr'
          generalize V5.drew = W5 at w0 B0 B1 B2 V1 V2 HR kr kb ⊢
          have rc := Grow.grown (w := W5) (fun y hy => (box_cells (B0.below hy)).2.2)
          rw [hA] at rc
          clear pc
          repeat (first | (refine Grow.reads rfl rfl ?_; go_big_quiet_want; refine StC.quiet_ev _ rfl _ _ rfl ⟨x.node, x.seq⟩ HR ?_; go_big_quiet_on; refine wpQuiet_nil ?_; simp only [Act.put, List.setIfInBounds_toArray, List.set_cons_succ, List.set_cons_zero]) | (refine Grow.reads rfl rfl ?_; go_big_quiet_want; refine StC.quiet_ev _ rfl _ _ rfl ⟨6, 1⟩ V1.range ?_; go_big_quiet_on; refine wpQuiet_nil ?_; simp only [Act.put, List.setIfInBounds_toArray, List.set_cons_succ, List.set_cons_zero]) | (refine Grow.reads rfl rfl ?_; go_big_quiet_want; refine StC.quiet_ev _ rfl _ _ rfl ⟨7, 1⟩ V2.range ?_; go_big_quiet_on; refine wpQuiet_nil ?_; simp only [Act.put, List.setIfInBounds_toArray, List.set_cons_succ, List.set_cons_zero]) | (refine Grow.reads rfl rfl ?_; go_big_quiet_step (fail); refine wpQuiet_nil ?_))
          refine Grow.ends ?_
          go_wp2_with (first | go_skip)
          go_roundw
          case rel => exact ⟨j + 1, by omega, by go_num, HG2, kr⟩
          case measure => simp [intOf]; omega
        · clear HT
          go_wp2_with (first | go_skip | (refine CelG.gload SE _ rfl _ rfl a0 B0 rfl ?_) | (refine CelG.gop _ rfl _ rfl a1 B1 rfl ?_) | (refine CelG.gop _ rfl _ rfl a2 B2 rfl ?_) | (refine CelG.gload EE _ rfl _ rfl ⟨6, 1⟩ V1 rfl ?_) | (refine CelG.gload EE _ rfl _ rfl ⟨7, 1⟩ V2 rfl ?_))
          refine Grow.region [(0, true), (1, true), (2, true), (3, true), (4, true), (5, true), (6, true), (7, true), (8, true), (9, true), (10, true), (11, true), (12, true), (13, true), (14, true), (15, true), (16, true), (17, true)] (by kernel_rfl) (by kernel_rfl) rfl (by kernel_rfl) (by intro c a d v w h; cases d <;> exact h) ?_
          rename World => V6
          have k6 := below_drew1 (Below.refl V6.heap.size V6)
          have HR' := range_below HR k6; clear HR; have HR := HR'; clear HR'
          have w0' := w0.below k6
          clear w0
          have w0 := w0'
          clear w0'
          have B0' := B0.below k6
          clear B0
          have B0 := B0'
          clear B0'
          have B1' := B1.below k6
          clear B1
          have B1 := B1'
          clear B1'
          have B2' := B2.below k6
          clear B2
          have B2 := B2'
          clear B2'
          have V1' := V1.below k6
          clear V1
          have V1 := V1'
          clear V1'
          have V2' := V2.below k6
          clear V2
          have V2 := V2'
          clear V2'
          have kb' := kb.trans (k6.mono kb.size)
          clear kb k6
          have kb := kb'
          clear kb'
          have kr' := kr.trans (below_drew1 (Below.refl V6.heap.size V6) |>.mono kr.size); clear kr; have kr := kr'; clear kr'
          generalize V6.drew = W6 at w0 B0 B1 B2 V1 V2 HR kr kb ⊢
          have rc := Grow.grown (w := W6) (fun y hy => (box_cells (B0.below hy)).2.2)
          rw [hA] at rc
          clear pc
          repeat (first | (refine Grow.reads rfl rfl ?_; go_big_quiet_want; refine StC.quiet_ev _ rfl _ _ rfl ⟨x.node, x.seq⟩ HR ?_; go_big_quiet_on; refine wpQuiet_nil ?_; simp only [Act.put, List.setIfInBounds_toArray, List.set_cons_succ, List.set_cons_zero]) | (refine Grow.reads rfl rfl ?_; go_big_quiet_want; refine StC.quiet_ev _ rfl _ _ rfl ⟨6, 1⟩ V1.range ?_; go_big_quiet_on; refine wpQuiet_nil ?_; simp only [Act.put, List.setIfInBounds_toArray, List.set_cons_succ, List.set_cons_zero]) | (refine Grow.reads rfl rfl ?_; go_big_quiet_want; refine StC.quiet_ev _ rfl _ _ rfl ⟨7, 1⟩ V2.range ?_; go_big_quiet_on; refine wpQuiet_nil ?_; simp only [Act.put, List.setIfInBounds_toArray, List.set_cons_succ, List.set_cons_zero]) | (refine Grow.reads rfl rfl ?_; go_big_quiet_step (fail); refine wpQuiet_nil ?_))
          refine Grow.ends ?_
          go_wp2_with (first | go_skip)
          go_ret
          exact ⟨by first | rfl | simp, kb⟩
      · clear HT
        go_wp2_with (first | go_skip | (refine CelG.gload SE _ rfl _ rfl a0 B0 rfl ?_) | (refine CelG.gop _ rfl _ rfl a1 B1 rfl ?_) | (refine CelG.gop _ rfl _ rfl a2 B2 rfl ?_) | (refine CelG.gload EE _ rfl _ rfl ⟨6, 1⟩ V1 rfl ?_) | (refine CelG.gload EE _ rfl _ rfl ⟨7, 1⟩ V2 rfl ?_))
        refine Grow.region [(0, true), (1, true), (2, true), (3, true), (4, true), (5, true), (6, true), (7, true), (8, true), (9, true), (10, true), (11, true), (12, true), (13, true), (14, true), (15, true), (16, true), (17, true)] (by kernel_rfl) (by kernel_rfl) rfl (by kernel_rfl) (by intro c a d v w h; cases d <;> exact h) ?_
        rename World => V7
        have k7 := below_drew1 (Below.refl V7.heap.size V7)
        have HR' := range_below HR k7; clear HR; have HR := HR'; clear HR'
        have w0' := w0.below k7
        clear w0
        have w0 := w0'
        clear w0'
        have B0' := B0.below k7
        clear B0
        have B0 := B0'
        clear B0'
        have B1' := B1.below k7
        clear B1
        have B1 := B1'
        clear B1'
        have B2' := B2.below k7
        clear B2
        have B2 := B2'
        clear B2'
        have V1' := V1.below k7
        clear V1
        have V1 := V1'
        clear V1'
        have V2' := V2.below k7
        clear V2
        have V2 := V2'
        clear V2'
        have kb' := kb.trans (k7.mono kb.size)
        clear kb k7
        have kb := kb'
        clear kb'
        have kr' := kr.trans (below_drew1 (Below.refl V7.heap.size V7) |>.mono kr.size); clear kr; have kr := kr'; clear kr'
        generalize V7.drew = W7 at w0 B0 B1 B2 V1 V2 HR kr kb ⊢
        have rc := Grow.grown (w := W7) (fun y hy => (box_cells (B0.below hy)).2.2)
        rw [hA] at rc
        clear pc
        repeat (first | (refine Grow.reads rfl rfl ?_; go_big_quiet_want; refine StC.quiet_ev _ rfl _ _ rfl ⟨x.node, x.seq⟩ HR ?_; go_big_quiet_on; refine wpQuiet_nil ?_; simp only [Act.put, List.setIfInBounds_toArray, List.set_cons_succ, List.set_cons_zero]) | (refine Grow.reads rfl rfl ?_; go_big_quiet_want; refine StC.quiet_ev _ rfl _ _ rfl ⟨6, 1⟩ V1.range ?_; go_big_quiet_on; refine wpQuiet_nil ?_; simp only [Act.put, List.setIfInBounds_toArray, List.set_cons_succ, List.set_cons_zero]) | (refine Grow.reads rfl rfl ?_; go_big_quiet_want; refine StC.quiet_ev _ rfl _ _ rfl ⟨7, 1⟩ V2.range ?_; go_big_quiet_on; refine wpQuiet_nil ?_; simp only [Act.put, List.setIfInBounds_toArray, List.set_cons_succ, List.set_cons_zero]) | (refine Grow.reads rfl rfl ?_; go_big_quiet_step (fail); refine wpQuiet_nil ?_))
        refine Grow.ends ?_
        go_wp2_with (first | go_skip)
        go_ret
        exact ⟨by first | rfl | simp, kb⟩
    · have HN : Hid (∀ x ∈ a0.s.p, ¬ (x.node = 6 ∧ x.seq = 1) ∧ ¬ (x.node = 7 ∧ x.seq = 1)) := aside (by
        have := HG.out
        rwa [List.take_of_length_le (by omega)] at this)
      clear HG kr
      go_wp2_with (first | go_skip | (refine CelG.gload SE _ rfl _ rfl a0 B0 rfl ?_) | (refine CelG.gop _ rfl _ rfl a1 B1 rfl ?_) | (refine CelG.gop _ rfl _ rfl a2 B2 rfl ?_) | (refine CelG.gload EE _ rfl _ rfl ⟨6, 1⟩ V1 rfl ?_) | (refine CelG.gload EE _ rfl _ rfl ⟨7, 1⟩ V2 rfl ?_))
      have hc := StK.do_ret a0 a1 ⟨6, 1⟩ a3 _ w0 f0 y0 w1 h64 in6 in1
      rw [E1.out] at hc
      refine hc.mono ?_
      clear hc
      rintro e W8 ⟨vP, rfl, hP, SP, k8⟩
      have hP : vP.s = noS := hP
      have w0' := w0.below k8
      clear w0
      have w0 := w0'
      clear w0'
      have B0' := B0.below k8
      clear B0
      have B0 := B0'
      clear B0'
      have B1' := B1.below k8
      clear B1
      have B1 := B1'
      clear B1'
      have B2' := B2.below k8
      clear B2
      have B2 := B2'
      clear B2'
      have V1' := V1.below k8
      clear V1
      have V1 := V1'
      clear V1'
      have V2' := V2.below k8
      clear V2
      have V2 := V2'
      clear V2'
      have kb' := kb.trans (k8.mono kb.size)
      clear kb k8
      have kb := kb'
      clear kb'
      go_wp2_with (first | go_skip | (refine CelG.gload SE _ rfl _ rfl a0 B0 rfl ?_) | (refine CelG.gop _ rfl _ rfl a1 B1 rfl ?_) | (refine CelG.gop _ rfl _ rfl a2 B2 rfl ?_) | (refine CelG.gload EE _ rfl _ rfl ⟨6, 1⟩ V1 rfl ?_) | (refine CelG.gload EE _ rfl _ rfl ⟨7, 1⟩ V2 rfl ?_) | (refine Cel.wpList_store_new SE rfl _ _ rfl _ _ _ rfl vP _ rfl rfl rfl rfl ?_; intro W9 BP k9 g9 s9; clear g9 s9; have w0' := w0.below k9; clear w0; have w0 := w0'; clear w0'; have B0' := B0.below k9; clear B0; have B0 := B0'; clear B0'; have B1' := B1.below k9; clear B1; have B1 := B1'; clear B1'; have B2' := B2.below k9; clear B2; have B2 := B2'; clear B2'; have V1' := V1.below k9; clear V1; have V1 := V1'; clear V1'; have V2' := V2.below k9; clear V2; have V2 := V2'; clear V2'; have SP' := SP.below k9; clear SP; have SP := SP'; clear SP'; have kb' := kb.trans (k9.mono kb.size); clear kb k9; have kb := kb'; clear kb') | (refine CelG.gload SE _ rfl _ rfl vP BP rfl ?_))
      have hc := StK.do_ret a0 a2 ⟨7, 1⟩ a3 _ w0 f0 y0 w2 h64 in7 in1
      rw [E2.out] at hc
      refine hc.mono ?_
      clear hc
      rintro e W10 ⟨vQ, rfl, hQ, SQ, k10⟩
      have hQ : vQ.s = D.getD noS := hQ
      rw [ER.out]
      have w0' := w0.below k10
      clear w0
      have w0 := w0'
      clear w0'
      have B0' := B0.below k10
      clear B0
      have B0 := B0'
      clear B0'
      have B1' := B1.below k10
      clear B1
      have B1 := B1'
      clear B1'
      have B2' := B2.below k10
      clear B2
      have B2 := B2'
      clear B2'
      have V1' := V1.below k10
      clear V1
      have V1 := V1'
      clear V1'
      have V2' := V2.below k10
      clear V2
      have V2 := V2'
      clear V2'
      have SP' := SP.below k10
      clear SP
      have SP := SP'
      clear SP'
      have BP' := BP.below k10
      clear BP
      have BP := BP'
      clear BP'
      have kb' := kb.trans (k10.mono kb.size)
      clear kb k10
      have kb := kb'
      clear kb'
      go_wp2_with (first | go_skip | (refine CelG.gload SE _ rfl _ rfl a0 B0 rfl ?_) | (refine CelG.gop _ rfl _ rfl a1 B1 rfl ?_) | (refine CelG.gop _ rfl _ rfl a2 B2 rfl ?_) | (refine CelG.gload EE _ rfl _ rfl ⟨6, 1⟩ V1 rfl ?_) | (refine CelG.gload EE _ rfl _ rfl ⟨7, 1⟩ V2 rfl ?_) | (refine CelG.gload SE _ rfl _ rfl vP BP rfl ?_) | (refine Cel.wpList_store_new SE rfl _ _ rfl _ _ _ rfl vQ _ rfl rfl rfl rfl ?_; intro W11 BQ k11 g11 s11; clear g11 s11; have w0' := w0.below k11; clear w0; have w0 := w0'; clear w0'; have B0' := B0.below k11; clear B0; have B0 := B0'; clear B0'; have B1' := B1.below k11; clear B1; have B1 := B1'; clear B1'; have B2' := B2.below k11; clear B2; have B2 := B2'; clear B2'; have V1' := V1.below k11; clear V1; have V1 := V1'; clear V1'; have V2' := V2.below k11; clear V2; have V2 := V2'; clear V2'; have SP' := SP.below k11; clear SP; have SP := SP'; clear SP'; have BP' := BP.below k11; clear BP; have BP := BP'; clear BP'; have SQ' := SQ.below k11; clear SQ; have SQ := SQ'; clear SQ'; have kb' := kb.trans (k11.mono kb.size); clear kb k11; have kb := kb'; clear kb') | (refine CelG.gload SE _ rfl _ rfl vQ BQ rfl ?_))
      go_ret
      exact ⟨by first | rfl | simp, kb⟩

set_option maxRecDepth 100000 in
set_option maxHeartbeats 32000000 in
theorem no2 (a0 : Sv) (a1 : Opn) (a2 : Opn) (a3 : Int) (w : World) (w0 : In w a0) (g0 : OpenS.Good a0.s) (w1 : OpsC.Fit a1) (w2 : OpsC.Fit a2) (_w3 : (Lit.int .i64 a3).wf = true) (x0 : fewS a0.s = true) (h1 : 1 ≤ a3) (h2 : a3 ≤ 1000000) (hk1 : a1.kind ≠ 3) (hk2 : a2.kind ≠ 3) (X : St) (e1 : doS a0.s a1 6 1 a3 = some X) (e2 : doS a0.s a2 7 1 a3 = none) :
    Calls Try.prog 4 #[.agg (sc a0), .agg (opc a1), .agg (opc a2), .int .i64 a3] w fun e w' => e = .returned (.bool true) ∧ Below w.heap.size w w' := by
  have f0 := fits x0 g0
  have y0 := (few_len x0).le (show 30 ≤ 1000 by omega)
  have PL := aside (few_len x0).p
  have h64 : CtrL.In64 a3 := ⟨by omega, by omega⟩
  have X0 := aside x0
  have E1 := aside e1
  have E2 := aside e2
  clear x0 e1 e2
  have B0 : Cel.Box SE (w.alloc (.cells (sc a0) 26)) (w.heap.size) a0 := by exact Cel.Box.new (E := SE) w a0 _
  have k0 := StW.below_alloc w (.cells (sc a0) 26)
  have w0' := w0.below k0
  clear w0
  have w0 := w0'
  clear w0'
  have kb := k0
  clear k0
  have z1 : (w.alloc (.cells (sc a0) 26)).heap.size = w.heap.size + 1 := by simp
  have B1 : OpAt ((w.alloc (.cells (sc a0) 26)).alloc (.cells (opc a1) 37)) (w.heap.size + 1) a1 := by rw [← z1]; exact OpAt.new (w.alloc (.cells (sc a0) 26)) a1 _
  have k1 := StW.below_alloc (w.alloc (.cells (sc a0) 26)) (.cells (opc a1) 37)
  have w0' := w0.below k1
  clear w0
  have w0 := w0'
  clear w0'
  have B0' := B0.below k1
  clear B0
  have B0 := B0'
  clear B0'
  have kb' := kb.trans (k1.mono kb.size)
  clear kb k1
  have kb := kb'
  clear kb'
  have z2 : ((w.alloc (.cells (sc a0) 26)).alloc (.cells (opc a1) 37)).heap.size = w.heap.size + 2 := by simp
  have B2 : OpAt (((w.alloc (.cells (sc a0) 26)).alloc (.cells (opc a1) 37)).alloc (.cells (opc a2) 37)) (w.heap.size + 2) a2 := by rw [← z2]; exact OpAt.new ((w.alloc (.cells (sc a0) 26)).alloc (.cells (opc a1) 37)) a2 _
  have k2 := StW.below_alloc ((w.alloc (.cells (sc a0) 26)).alloc (.cells (opc a1) 37)) (.cells (opc a2) 37)
  have w0' := w0.below k2
  clear w0
  have w0 := w0'
  clear w0'
  have B0' := B0.below k2
  clear B0
  have B0 := B0'
  clear B0'
  have B1' := B1.below k2
  clear B1
  have B1 := B1'
  clear B1'
  have kb' := kb.trans (k2.mono kb.size)
  clear kb k2
  have kb := kb'
  clear kb'
  go_enter Try.func4, Try.ntmps4
  go_wp2_with fail
  refine (awake _).mono ?_
  rintro e W1 ⟨rfl, k1⟩
  have hb : w.heap.size + 3 ≤ W1.heap.size := Nat.le_trans (by first | (simp; done) | (simp; omega)) k1.size
  clear z1 z2
  have w0' := w0.below k1
  clear w0
  have w0 := w0'
  clear w0'
  have B0' := B0.below k1
  clear B0
  have B0 := B0'
  clear B0'
  have B1' := B1.below k1
  clear B1
  have B1 := B1'
  clear B1'
  have B2' := B2.below k1
  clear B2
  have B2 := B2'
  clear B2'
  have kb' := kb.trans (k1.mono kb.size)
  clear kb k1
  have kb := kb'
  clear kb'
  go_wp2_with (first | go_skip | (refine CelG.gload SE _ rfl _ rfl a0 B0 rfl ?_) | (refine CelG.gop _ rfl _ rfl a1 B1 rfl ?_) | (refine CelG.gop _ rfl _ rfl a2 B2 rfl ?_))
  have hc := few_ret a0 _ w0 g0
  rw [X0.out] at hc
  refine hc.mono ?_
  clear hc
  rintro e W2 ⟨rfl, k2⟩
  have w0' := w0.below k2
  clear w0
  have w0 := w0'
  clear w0'
  have B0' := B0.below k2
  clear B0
  have B0 := B0'
  clear B0'
  have B1' := B1.below k2
  clear B1
  have B1 := B1'
  clear B1'
  have B2' := B2.below k2
  clear B2
  have B2 := B2'
  clear B2'
  have kb' := kb.trans (k2.mono kb.size)
  clear kb k2
  have kb := kb'
  clear kb'
  have ck1 := B1.kind
  have ck2 := B2.kind
  have dk1 : (a1.kind == 3) = false := beq_eq_false_iff_ne.2 hk1
  have dk2 : (a2.kind == 3) = false := beq_eq_false_iff_ne.2 hk2
  have dl1 : decide (a3 < 1) = false := decide_eq_false (by omega)
  have dl2 : decide (1000000 < a3) = false := decide_eq_false (by omega)
  go_wp2_with (first | go_skip | (refine CelG.gload SE _ rfl _ rfl a0 B0 rfl ?_) | (refine CelG.gop _ rfl _ rfl a1 B1 rfl ?_) | (refine CelG.gop _ rfl _ rfl a2 B2 rfl ?_) | (refine Cel.wpList_store_new EE rfl _ _ rfl _ _ _ rfl ⟨6, 1⟩ _ rfl rfl rfl rfl ?_; intro W3 V1 k3 g3 s3; clear g3 s3; have w0' := w0.below k3; clear w0; have w0 := w0'; clear w0'; have B0' := B0.below k3; clear B0; have B0 := B0'; clear B0'; have B1' := B1.below k3; clear B1; have B1 := B1'; clear B1'; have B2' := B2.below k3; clear B2; have B2 := B2'; clear B2'; have kb' := kb.trans (k3.mono kb.size); clear kb k3; have kb := kb'; clear kb'; clear ck1 ck2) | (refine CelG.gload EE _ rfl _ rfl ⟨6, 1⟩ V1 rfl ?_) | (refine Cel.wpList_store_new EE rfl _ _ rfl _ _ _ rfl ⟨7, 1⟩ _ rfl rfl rfl rfl ?_; intro W4 V2 k4 g4 s4; clear g4 s4; have w0' := w0.below k4; clear w0; have w0 := w0'; clear w0'; have B0' := B0.below k4; clear B0; have B0 := B0'; clear B0'; have B1' := B1.below k4; clear B1; have B1 := B1'; clear B1'; have B2' := B2.below k4; clear B2; have B2 := B2'; clear B2'; have V1' := V1.below k4; clear V1; have V1 := V1'; clear V1'; have kb' := kb.trans (k4.mono kb.size); clear kb k4; have kb := kb'; clear kb') | (refine CelG.gload EE _ rfl _ rfl ⟨7, 1⟩ V2 rfl ?_))
  go_loopw [13] (fun i wr => ∃ j : Nat, j ≤ a0.s.p.length ∧ i = .int .i64 j ∧ Hid (∀ x ∈ a0.s.p.take j, ¬ (x.node = 6 ∧ x.seq = 1) ∧ ¬ (x.node = 7 ∧ x.seq = 1)) ∧ Below W4.heap.size W4 wr) (fun i _ => a0.s.p.length - (intOf i).toNat)
  case atStart => exact ⟨0, Nat.zero_le _, rfl, aside (by simp), Below.refl _ _⟩
  case round =>
    obtain ⟨j, hj, rfl, HG, kr⟩ := hrel
    have w0' := w0.below kr; clear w0; have w0 := w0'; clear w0'
    have B0' := B0.below kr; clear B0; have B0 := B0'; clear B0'
    have B1' := B1.below kr; clear B1; have B1 := B1'; clear B1'
    have B2' := B2.below kr; clear B2; have B2 := B2'; clear B2'
    have V1' := V1.below kr; clear V1; have V1 := V1'; clear V1'
    have V2' := V2.below kr; clear V2; have V2 := V2'; clear V2'
    have kb' := kb.trans (kr.mono kb.size); clear kb; have kb := kb'; clear kb'
    have pc := (box_cells B0).2.2
    have hcap := w0.p.1
    have hmax : a0.s.p.length ≤ 30 := PL.out
    by_cases hlt : j < a0.s.p.length
    · obtain ⟨g, off, hA, hbw, hr⟩ := PairW.plain w0.p (by omega)
      obtain ⟨x, hx⟩ : ∃ x, a0.s.p[j]? = some x := ⟨_, List.getElem?_eq_getElem hlt⟩
      have p0 : (j : Int) < a0.s.p.length := by omega
      have m0 : ((j : Int)).toNat = j := by omega
      have HR := ev_at (hr j x hx)
      have hq6 : ∀ W, (Op.equalIn 10000 39 (.agg #[.int .i64 x.node, .int .i64 x.seq]) (.agg #[.int .i64 6, .int .i64 1])).run Try.prog W = .ok (decide (x.node = 6) && decide (x.seq = 1)) W := fun W => PairS.equal_ev 9998 W x.node x.seq 6 1
      have hq7 : ∀ W, (Op.equalIn 10000 39 (.agg #[.int .i64 x.node, .int .i64 x.seq]) (.agg #[.int .i64 7, .int .i64 1])).run Try.prog W = .ok (decide (x.node = 7) && decide (x.seq = 1)) W := fun W => PairS.equal_ev 9998 W x.node x.seq 7 1
      have hst : Hid (∀ b6 b7 : Bool, (decide (x.node = 6) && decide (x.seq = 1)) = b6 → (decide (x.node = 7) && decide (x.seq = 1)) = b7 → b6 = false → b7 = false → ∀ y ∈ a0.s.p.take (j + 1), ¬ (y.node = 6 ∧ y.seq = 1) ∧ ¬ (y.node = 7 ∧ y.seq = 1)) := aside (by
        rintro _ _ rfl rfl h6 h7 y hy
        obtain ⟨hj2, rfl⟩ := List.getElem?_eq_some_iff.1 hx
        rw [List.take_succ_eq_append_getElem hj2, List.mem_append, List.mem_singleton] at hy
        rcases hy with hy | rfl
        · exact HG.out y hy
        · simpa using And.intro h6 h7)
      obtain ⟨b6, hb6⟩ : ∃ b, (decide (x.node = 6) && decide (x.seq = 1)) = b := ⟨_, rfl⟩
      obtain ⟨b7, hb7⟩ : ∃ b, (decide (x.node = 7) && decide (x.seq = 1)) = b := ⟨_, rfl⟩
      rw [hb6] at hq6
      rw [hb7] at hq7
      have HT : Hid (b6 = false → b7 = false → ∀ y ∈ a0.s.p.take (j + 1), ¬ (y.node = 6 ∧ y.seq = 1) ∧ ¬ (y.node = 7 ∧ y.seq = 1)) := aside (hst.out b6 b7 hb6 hb7)
      rw [hA] at pc
      clear hr hx hb6 hb7 hst HG
      cases b6
      · cases b7
        · have HG2 := aside (HT.out rfl rfl); clear HT
          go_wp2_with (first | go_skip | (refine CelG.gload SE _ rfl _ rfl a0 B0 rfl ?_) | (refine CelG.gop _ rfl _ rfl a1 B1 rfl ?_) | (refine CelG.gop _ rfl _ rfl a2 B2 rfl ?_) | (refine CelG.gload EE _ rfl _ rfl ⟨6, 1⟩ V1 rfl ?_) | (refine CelG.gload EE _ rfl _ rfl ⟨7, 1⟩ V2 rfl ?_))
          refine Grow.region [(0, true), (1, true), (2, true), (3, true), (4, true), (5, true), (6, true), (7, true), (8, true), (9, true), (10, true), (11, true), (12, true), (13, true), (14, true), (15, true), (16, true), (17, true)] (by kernel_rfl) (by kernel_rfl) rfl (by kernel_rfl) (by intro c a d v w h; cases d <;> exact h) ?_
          rename World => V5
          have k5 := below_drew1 (Below.refl V5.heap.size V5)
          have HR' := range_below HR k5; clear HR; have HR := HR'; clear HR'
          have w0' := w0.below k5
          clear w0
          have w0 := w0'
          clear w0'
          have B0' := B0.below k5
          clear B0
          have B0 := B0'
          clear B0'
          have B1' := B1.below k5
          clear B1
          have B1 := B1'
          clear B1'
          have B2' := B2.below k5
          clear B2
          have B2 := B2'
          clear B2'
          have V1' := V1.below k5
          clear V1
          have V1 := V1'
          clear V1'
          have V2' := V2.below k5
          clear V2
          have V2 := V2'
          clear V2'
          have kb' := kb.trans (k5.mono kb.size)
          clear kb k5
          have kb := kb'
          clear kb'
          have kr' := kr.trans (below_drew1 (Below.refl V5.heap.size V5) |>.mono kr.size); clear kr; have kr := kr'; clear kr'
          generalize V5.drew = W5 at w0 B0 B1 B2 V1 V2 HR kr kb ⊢
          have rc := Grow.grown (w := W5) (fun y hy => (box_cells (B0.below hy)).2.2)
          rw [hA] at rc
          clear pc
          repeat (first | (refine Grow.reads rfl rfl ?_; go_big_quiet_want; refine StC.quiet_ev _ rfl _ _ rfl ⟨x.node, x.seq⟩ HR ?_; go_big_quiet_on; refine wpQuiet_nil ?_; simp only [Act.put, List.setIfInBounds_toArray, List.set_cons_succ, List.set_cons_zero]) | (refine Grow.reads rfl rfl ?_; go_big_quiet_want; refine StC.quiet_ev _ rfl _ _ rfl ⟨6, 1⟩ V1.range ?_; go_big_quiet_on; refine wpQuiet_nil ?_; simp only [Act.put, List.setIfInBounds_toArray, List.set_cons_succ, List.set_cons_zero]) | (refine Grow.reads rfl rfl ?_; go_big_quiet_want; refine StC.quiet_ev _ rfl _ _ rfl ⟨7, 1⟩ V2.range ?_; go_big_quiet_on; refine wpQuiet_nil ?_; simp only [Act.put, List.setIfInBounds_toArray, List.set_cons_succ, List.set_cons_zero]) | (refine Grow.reads rfl rfl ?_; go_big_quiet_step (fail); refine wpQuiet_nil ?_))
          refine Grow.ends ?_
          go_wp2_with (first | go_skip)
          go_roundw
          case rel => exact ⟨j + 1, by omega, by go_num, HG2, kr⟩
          case measure => simp [intOf]; omega
        · clear HT
          go_wp2_with (first | go_skip | (refine CelG.gload SE _ rfl _ rfl a0 B0 rfl ?_) | (refine CelG.gop _ rfl _ rfl a1 B1 rfl ?_) | (refine CelG.gop _ rfl _ rfl a2 B2 rfl ?_) | (refine CelG.gload EE _ rfl _ rfl ⟨6, 1⟩ V1 rfl ?_) | (refine CelG.gload EE _ rfl _ rfl ⟨7, 1⟩ V2 rfl ?_))
          refine Grow.region [(0, true), (1, true), (2, true), (3, true), (4, true), (5, true), (6, true), (7, true), (8, true), (9, true), (10, true), (11, true), (12, true), (13, true), (14, true), (15, true), (16, true), (17, true)] (by kernel_rfl) (by kernel_rfl) rfl (by kernel_rfl) (by intro c a d v w h; cases d <;> exact h) ?_
          rename World => V6
          have k6 := below_drew1 (Below.refl V6.heap.size V6)
          have HR' := range_below HR k6; clear HR; have HR := HR'; clear HR'
          have w0' := w0.below k6
          clear w0
          have w0 := w0'
          clear w0'
          have B0' := B0.below k6
          clear B0
          have B0 := B0'
          clear B0'
          have B1' := B1.below k6
          clear B1
          have B1 := B1'
          clear B1'
          have B2' := B2.below k6
          clear B2
          have B2 := B2'
          clear B2'
          have V1' := V1.below k6
          clear V1
          have V1 := V1'
          clear V1'
          have V2' := V2.below k6
          clear V2
          have V2 := V2'
          clear V2'
          have kb' := kb.trans (k6.mono kb.size)
          clear kb k6
          have kb := kb'
          clear kb'
          have kr' := kr.trans (below_drew1 (Below.refl V6.heap.size V6) |>.mono kr.size); clear kr; have kr := kr'; clear kr'
          generalize V6.drew = W6 at w0 B0 B1 B2 V1 V2 HR kr kb ⊢
          have rc := Grow.grown (w := W6) (fun y hy => (box_cells (B0.below hy)).2.2)
          rw [hA] at rc
          clear pc
          repeat (first | (refine Grow.reads rfl rfl ?_; go_big_quiet_want; refine StC.quiet_ev _ rfl _ _ rfl ⟨x.node, x.seq⟩ HR ?_; go_big_quiet_on; refine wpQuiet_nil ?_; simp only [Act.put, List.setIfInBounds_toArray, List.set_cons_succ, List.set_cons_zero]) | (refine Grow.reads rfl rfl ?_; go_big_quiet_want; refine StC.quiet_ev _ rfl _ _ rfl ⟨6, 1⟩ V1.range ?_; go_big_quiet_on; refine wpQuiet_nil ?_; simp only [Act.put, List.setIfInBounds_toArray, List.set_cons_succ, List.set_cons_zero]) | (refine Grow.reads rfl rfl ?_; go_big_quiet_want; refine StC.quiet_ev _ rfl _ _ rfl ⟨7, 1⟩ V2.range ?_; go_big_quiet_on; refine wpQuiet_nil ?_; simp only [Act.put, List.setIfInBounds_toArray, List.set_cons_succ, List.set_cons_zero]) | (refine Grow.reads rfl rfl ?_; go_big_quiet_step (fail); refine wpQuiet_nil ?_))
          refine Grow.ends ?_
          go_wp2_with (first | go_skip)
          go_ret
          exact ⟨by first | rfl | simp, kb⟩
      · clear HT
        go_wp2_with (first | go_skip | (refine CelG.gload SE _ rfl _ rfl a0 B0 rfl ?_) | (refine CelG.gop _ rfl _ rfl a1 B1 rfl ?_) | (refine CelG.gop _ rfl _ rfl a2 B2 rfl ?_) | (refine CelG.gload EE _ rfl _ rfl ⟨6, 1⟩ V1 rfl ?_) | (refine CelG.gload EE _ rfl _ rfl ⟨7, 1⟩ V2 rfl ?_))
        refine Grow.region [(0, true), (1, true), (2, true), (3, true), (4, true), (5, true), (6, true), (7, true), (8, true), (9, true), (10, true), (11, true), (12, true), (13, true), (14, true), (15, true), (16, true), (17, true)] (by kernel_rfl) (by kernel_rfl) rfl (by kernel_rfl) (by intro c a d v w h; cases d <;> exact h) ?_
        rename World => V7
        have k7 := below_drew1 (Below.refl V7.heap.size V7)
        have HR' := range_below HR k7; clear HR; have HR := HR'; clear HR'
        have w0' := w0.below k7
        clear w0
        have w0 := w0'
        clear w0'
        have B0' := B0.below k7
        clear B0
        have B0 := B0'
        clear B0'
        have B1' := B1.below k7
        clear B1
        have B1 := B1'
        clear B1'
        have B2' := B2.below k7
        clear B2
        have B2 := B2'
        clear B2'
        have V1' := V1.below k7
        clear V1
        have V1 := V1'
        clear V1'
        have V2' := V2.below k7
        clear V2
        have V2 := V2'
        clear V2'
        have kb' := kb.trans (k7.mono kb.size)
        clear kb k7
        have kb := kb'
        clear kb'
        have kr' := kr.trans (below_drew1 (Below.refl V7.heap.size V7) |>.mono kr.size); clear kr; have kr := kr'; clear kr'
        generalize V7.drew = W7 at w0 B0 B1 B2 V1 V2 HR kr kb ⊢
        have rc := Grow.grown (w := W7) (fun y hy => (box_cells (B0.below hy)).2.2)
        rw [hA] at rc
        clear pc
        repeat (first | (refine Grow.reads rfl rfl ?_; go_big_quiet_want; refine StC.quiet_ev _ rfl _ _ rfl ⟨x.node, x.seq⟩ HR ?_; go_big_quiet_on; refine wpQuiet_nil ?_; simp only [Act.put, List.setIfInBounds_toArray, List.set_cons_succ, List.set_cons_zero]) | (refine Grow.reads rfl rfl ?_; go_big_quiet_want; refine StC.quiet_ev _ rfl _ _ rfl ⟨6, 1⟩ V1.range ?_; go_big_quiet_on; refine wpQuiet_nil ?_; simp only [Act.put, List.setIfInBounds_toArray, List.set_cons_succ, List.set_cons_zero]) | (refine Grow.reads rfl rfl ?_; go_big_quiet_want; refine StC.quiet_ev _ rfl _ _ rfl ⟨7, 1⟩ V2.range ?_; go_big_quiet_on; refine wpQuiet_nil ?_; simp only [Act.put, List.setIfInBounds_toArray, List.set_cons_succ, List.set_cons_zero]) | (refine Grow.reads rfl rfl ?_; go_big_quiet_step (fail); refine wpQuiet_nil ?_))
        refine Grow.ends ?_
        go_wp2_with (first | go_skip)
        go_ret
        exact ⟨by first | rfl | simp, kb⟩
    · have HN : Hid (∀ x ∈ a0.s.p, ¬ (x.node = 6 ∧ x.seq = 1) ∧ ¬ (x.node = 7 ∧ x.seq = 1)) := aside (by
        have := HG.out
        rwa [List.take_of_length_le (by omega)] at this)
      clear HG kr
      go_wp2_with (first | go_skip | (refine CelG.gload SE _ rfl _ rfl a0 B0 rfl ?_) | (refine CelG.gop _ rfl _ rfl a1 B1 rfl ?_) | (refine CelG.gop _ rfl _ rfl a2 B2 rfl ?_) | (refine CelG.gload EE _ rfl _ rfl ⟨6, 1⟩ V1 rfl ?_) | (refine CelG.gload EE _ rfl _ rfl ⟨7, 1⟩ V2 rfl ?_))
      have hc := StK.do_ret a0 a1 ⟨6, 1⟩ a3 _ w0 f0 y0 w1 h64 in6 in1
      rw [E1.out] at hc
      refine hc.mono ?_
      clear hc
      rintro e W8 ⟨vP, rfl, hP, SP, k8⟩
      have hP : vP.s = X := hP
      have w0' := w0.below k8
      clear w0
      have w0 := w0'
      clear w0'
      have B0' := B0.below k8
      clear B0
      have B0 := B0'
      clear B0'
      have B1' := B1.below k8
      clear B1
      have B1 := B1'
      clear B1'
      have B2' := B2.below k8
      clear B2
      have B2 := B2'
      clear B2'
      have V1' := V1.below k8
      clear V1
      have V1 := V1'
      clear V1'
      have V2' := V2.below k8
      clear V2
      have V2 := V2'
      clear V2'
      have kb' := kb.trans (k8.mono kb.size)
      clear kb k8
      have kb := kb'
      clear kb'
      go_wp2_with (first | go_skip | (refine CelG.gload SE _ rfl _ rfl a0 B0 rfl ?_) | (refine CelG.gop _ rfl _ rfl a1 B1 rfl ?_) | (refine CelG.gop _ rfl _ rfl a2 B2 rfl ?_) | (refine CelG.gload EE _ rfl _ rfl ⟨6, 1⟩ V1 rfl ?_) | (refine CelG.gload EE _ rfl _ rfl ⟨7, 1⟩ V2 rfl ?_) | (refine Cel.wpList_store_new SE rfl _ _ rfl _ _ _ rfl vP _ rfl rfl rfl rfl ?_; intro W9 BP k9 g9 s9; clear g9 s9; have w0' := w0.below k9; clear w0; have w0 := w0'; clear w0'; have B0' := B0.below k9; clear B0; have B0 := B0'; clear B0'; have B1' := B1.below k9; clear B1; have B1 := B1'; clear B1'; have B2' := B2.below k9; clear B2; have B2 := B2'; clear B2'; have V1' := V1.below k9; clear V1; have V1 := V1'; clear V1'; have V2' := V2.below k9; clear V2; have V2 := V2'; clear V2'; have SP' := SP.below k9; clear SP; have SP := SP'; clear SP'; have kb' := kb.trans (k9.mono kb.size); clear kb k9; have kb := kb'; clear kb') | (refine CelG.gload SE _ rfl _ rfl vP BP rfl ?_))
      have hc := StK.do_ret a0 a2 ⟨7, 1⟩ a3 _ w0 f0 y0 w2 h64 in7 in1
      rw [E2.out] at hc
      refine hc.mono ?_
      clear hc
      rintro e W10 ⟨vQ, rfl, hQ, SQ, k10⟩
      have hQ : vQ.s = noS := hQ
      have w0' := w0.below k10
      clear w0
      have w0 := w0'
      clear w0'
      have B0' := B0.below k10
      clear B0
      have B0 := B0'
      clear B0'
      have B1' := B1.below k10
      clear B1
      have B1 := B1'
      clear B1'
      have B2' := B2.below k10
      clear B2
      have B2 := B2'
      clear B2'
      have V1' := V1.below k10
      clear V1
      have V1 := V1'
      clear V1'
      have V2' := V2.below k10
      clear V2
      have V2 := V2'
      clear V2'
      have SP' := SP.below k10
      clear SP
      have SP := SP'
      clear SP'
      have BP' := BP.below k10
      clear BP
      have BP := BP'
      clear BP'
      have kb' := kb.trans (k10.mono kb.size)
      clear kb k10
      have kb := kb'
      clear kb'
      go_wp2_with (first | go_skip | (refine CelG.gload SE _ rfl _ rfl a0 B0 rfl ?_) | (refine CelG.gop _ rfl _ rfl a1 B1 rfl ?_) | (refine CelG.gop _ rfl _ rfl a2 B2 rfl ?_) | (refine CelG.gload EE _ rfl _ rfl ⟨6, 1⟩ V1 rfl ?_) | (refine CelG.gload EE _ rfl _ rfl ⟨7, 1⟩ V2 rfl ?_) | (refine CelG.gload SE _ rfl _ rfl vP BP rfl ?_) | (refine Cel.wpList_store_new SE rfl _ _ rfl _ _ _ rfl vQ _ rfl rfl rfl rfl ?_; intro W11 BQ k11 g11 s11; clear g11 s11; have w0' := w0.below k11; clear w0; have w0 := w0'; clear w0'; have B0' := B0.below k11; clear B0; have B0 := B0'; clear B0'; have B1' := B1.below k11; clear B1; have B1 := B1'; clear B1'; have B2' := B2.below k11; clear B2; have B2 := B2'; clear B2'; have V1' := V1.below k11; clear V1; have V1 := V1'; clear V1'; have V2' := V2.below k11; clear V2; have V2 := V2'; clear V2'; have SP' := SP.below k11; clear SP; have SP := SP'; clear SP'; have BP' := BP.below k11; clear BP; have BP := BP'; clear BP'; have SQ' := SQ.below k11; clear SQ; have SQ := SQ'; clear SQ'; have kb' := kb.trans (k11.mono kb.size); clear kb k11; have kb := kb'; clear kb') | (refine CelG.gload SE _ rfl _ rfl vQ BQ rfl ?_))
      go_ret
      exact ⟨by first | rfl | simp, kb⟩

set_option maxRecDepth 100000 in
set_option maxHeartbeats 32000000 in
theorem yes (a0 : Sv) (a1 : Opn) (a2 : Opn) (a3 : Int) (w : World) (w0 : In w a0) (g0 : OpenS.Good a0.s) (w1 : OpsC.Fit a1) (w2 : OpsC.Fit a2) (_w3 : (Lit.int .i64 a3).wf = true) (x0 : fewS a0.s = true) (h1 : 1 ≤ a3) (h2 : a3 ≤ 1000000) (hk1 : a1.kind ≠ 3) (hk2 : a2.kind ≠ 3) (X Y : St) (e1 : doS a0.s a1 6 1 a3 = some X) (e2 : doS a0.s a2 7 1 a3 = some Y) (qX : Fits X) (qY : Fits Y) (rX : Len 1000 X) (rY : Len 1000 Y) (M : St) (H3 : (∀ x ∈ a0.s.p, ¬ (x.node = 6 ∧ x.seq = 1) ∧ ¬ (x.node = 7 ∧ x.seq = 1)) → mergeS a0.s X Y = some M ∧ doS X a2 7 1 a3 = some M ∧ doS Y a1 6 1 a3 = some M) :
    Calls Try.prog 4 #[.agg (sc a0), .agg (opc a1), .agg (opc a2), .int .i64 a3] w fun e w' => e = .returned (.bool true) ∧ Below w.heap.size w w' := by
  have f0 := fits x0 g0
  have y0 := (few_len x0).le (show 30 ≤ 1000 by omega)
  have PL := aside (few_len x0).p
  have h64 : CtrL.In64 a3 := ⟨by omega, by omega⟩
  have X0 := aside x0
  have E1 := aside e1
  have E2 := aside e2
  clear x0 e1 e2
  have HH := aside H3
  clear H3
  have B0 : Cel.Box SE (w.alloc (.cells (sc a0) 26)) (w.heap.size) a0 := by exact Cel.Box.new (E := SE) w a0 _
  have k0 := StW.below_alloc w (.cells (sc a0) 26)
  have w0' := w0.below k0
  clear w0
  have w0 := w0'
  clear w0'
  have kb := k0
  clear k0
  have z1 : (w.alloc (.cells (sc a0) 26)).heap.size = w.heap.size + 1 := by simp
  have B1 : OpAt ((w.alloc (.cells (sc a0) 26)).alloc (.cells (opc a1) 37)) (w.heap.size + 1) a1 := by rw [← z1]; exact OpAt.new (w.alloc (.cells (sc a0) 26)) a1 _
  have k1 := StW.below_alloc (w.alloc (.cells (sc a0) 26)) (.cells (opc a1) 37)
  have w0' := w0.below k1
  clear w0
  have w0 := w0'
  clear w0'
  have B0' := B0.below k1
  clear B0
  have B0 := B0'
  clear B0'
  have kb' := kb.trans (k1.mono kb.size)
  clear kb k1
  have kb := kb'
  clear kb'
  have z2 : ((w.alloc (.cells (sc a0) 26)).alloc (.cells (opc a1) 37)).heap.size = w.heap.size + 2 := by simp
  have B2 : OpAt (((w.alloc (.cells (sc a0) 26)).alloc (.cells (opc a1) 37)).alloc (.cells (opc a2) 37)) (w.heap.size + 2) a2 := by rw [← z2]; exact OpAt.new ((w.alloc (.cells (sc a0) 26)).alloc (.cells (opc a1) 37)) a2 _
  have k2 := StW.below_alloc ((w.alloc (.cells (sc a0) 26)).alloc (.cells (opc a1) 37)) (.cells (opc a2) 37)
  have w0' := w0.below k2
  clear w0
  have w0 := w0'
  clear w0'
  have B0' := B0.below k2
  clear B0
  have B0 := B0'
  clear B0'
  have B1' := B1.below k2
  clear B1
  have B1 := B1'
  clear B1'
  have kb' := kb.trans (k2.mono kb.size)
  clear kb k2
  have kb := kb'
  clear kb'
  go_enter Try.func4, Try.ntmps4
  go_wp2_with fail
  refine (awake _).mono ?_
  rintro e W1 ⟨rfl, k1⟩
  have hb : w.heap.size + 3 ≤ W1.heap.size := Nat.le_trans (by first | (simp; done) | (simp; omega)) k1.size
  clear z1 z2
  have w0' := w0.below k1
  clear w0
  have w0 := w0'
  clear w0'
  have B0' := B0.below k1
  clear B0
  have B0 := B0'
  clear B0'
  have B1' := B1.below k1
  clear B1
  have B1 := B1'
  clear B1'
  have B2' := B2.below k1
  clear B2
  have B2 := B2'
  clear B2'
  have kb' := kb.trans (k1.mono kb.size)
  clear kb k1
  have kb := kb'
  clear kb'
  go_wp2_with (first | go_skip | (refine CelG.gload SE _ rfl _ rfl a0 B0 rfl ?_) | (refine CelG.gop _ rfl _ rfl a1 B1 rfl ?_) | (refine CelG.gop _ rfl _ rfl a2 B2 rfl ?_))
  have hc := few_ret a0 _ w0 g0
  rw [X0.out] at hc
  refine hc.mono ?_
  clear hc
  rintro e W2 ⟨rfl, k2⟩
  have w0' := w0.below k2
  clear w0
  have w0 := w0'
  clear w0'
  have B0' := B0.below k2
  clear B0
  have B0 := B0'
  clear B0'
  have B1' := B1.below k2
  clear B1
  have B1 := B1'
  clear B1'
  have B2' := B2.below k2
  clear B2
  have B2 := B2'
  clear B2'
  have kb' := kb.trans (k2.mono kb.size)
  clear kb k2
  have kb := kb'
  clear kb'
  have ck1 := B1.kind
  have ck2 := B2.kind
  have dk1 : (a1.kind == 3) = false := beq_eq_false_iff_ne.2 hk1
  have dk2 : (a2.kind == 3) = false := beq_eq_false_iff_ne.2 hk2
  have dl1 : decide (a3 < 1) = false := decide_eq_false (by omega)
  have dl2 : decide (1000000 < a3) = false := decide_eq_false (by omega)
  go_wp2_with (first | go_skip | (refine CelG.gload SE _ rfl _ rfl a0 B0 rfl ?_) | (refine CelG.gop _ rfl _ rfl a1 B1 rfl ?_) | (refine CelG.gop _ rfl _ rfl a2 B2 rfl ?_) | (refine Cel.wpList_store_new EE rfl _ _ rfl _ _ _ rfl ⟨6, 1⟩ _ rfl rfl rfl rfl ?_; intro W3 V1 k3 g3 s3; clear g3 s3; have w0' := w0.below k3; clear w0; have w0 := w0'; clear w0'; have B0' := B0.below k3; clear B0; have B0 := B0'; clear B0'; have B1' := B1.below k3; clear B1; have B1 := B1'; clear B1'; have B2' := B2.below k3; clear B2; have B2 := B2'; clear B2'; have kb' := kb.trans (k3.mono kb.size); clear kb k3; have kb := kb'; clear kb'; clear ck1 ck2) | (refine CelG.gload EE _ rfl _ rfl ⟨6, 1⟩ V1 rfl ?_) | (refine Cel.wpList_store_new EE rfl _ _ rfl _ _ _ rfl ⟨7, 1⟩ _ rfl rfl rfl rfl ?_; intro W4 V2 k4 g4 s4; clear g4 s4; have w0' := w0.below k4; clear w0; have w0 := w0'; clear w0'; have B0' := B0.below k4; clear B0; have B0 := B0'; clear B0'; have B1' := B1.below k4; clear B1; have B1 := B1'; clear B1'; have B2' := B2.below k4; clear B2; have B2 := B2'; clear B2'; have V1' := V1.below k4; clear V1; have V1 := V1'; clear V1'; have kb' := kb.trans (k4.mono kb.size); clear kb k4; have kb := kb'; clear kb') | (refine CelG.gload EE _ rfl _ rfl ⟨7, 1⟩ V2 rfl ?_))
  go_loopw [13] (fun i wr => ∃ j : Nat, j ≤ a0.s.p.length ∧ i = .int .i64 j ∧ Hid (∀ x ∈ a0.s.p.take j, ¬ (x.node = 6 ∧ x.seq = 1) ∧ ¬ (x.node = 7 ∧ x.seq = 1)) ∧ Below W4.heap.size W4 wr) (fun i _ => a0.s.p.length - (intOf i).toNat)
  case atStart => exact ⟨0, Nat.zero_le _, rfl, aside (by simp), Below.refl _ _⟩
  case round =>
    obtain ⟨j, hj, rfl, HG, kr⟩ := hrel
    have w0' := w0.below kr; clear w0; have w0 := w0'; clear w0'
    have B0' := B0.below kr; clear B0; have B0 := B0'; clear B0'
    have B1' := B1.below kr; clear B1; have B1 := B1'; clear B1'
    have B2' := B2.below kr; clear B2; have B2 := B2'; clear B2'
    have V1' := V1.below kr; clear V1; have V1 := V1'; clear V1'
    have V2' := V2.below kr; clear V2; have V2 := V2'; clear V2'
    have kb' := kb.trans (kr.mono kb.size); clear kb; have kb := kb'; clear kb'
    have pc := (box_cells B0).2.2
    have hcap := w0.p.1
    have hmax : a0.s.p.length ≤ 30 := PL.out
    by_cases hlt : j < a0.s.p.length
    · obtain ⟨g, off, hA, hbw, hr⟩ := PairW.plain w0.p (by omega)
      obtain ⟨x, hx⟩ : ∃ x, a0.s.p[j]? = some x := ⟨_, List.getElem?_eq_getElem hlt⟩
      have p0 : (j : Int) < a0.s.p.length := by omega
      have m0 : ((j : Int)).toNat = j := by omega
      have HR := ev_at (hr j x hx)
      have hq6 : ∀ W, (Op.equalIn 10000 39 (.agg #[.int .i64 x.node, .int .i64 x.seq]) (.agg #[.int .i64 6, .int .i64 1])).run Try.prog W = .ok (decide (x.node = 6) && decide (x.seq = 1)) W := fun W => PairS.equal_ev 9998 W x.node x.seq 6 1
      have hq7 : ∀ W, (Op.equalIn 10000 39 (.agg #[.int .i64 x.node, .int .i64 x.seq]) (.agg #[.int .i64 7, .int .i64 1])).run Try.prog W = .ok (decide (x.node = 7) && decide (x.seq = 1)) W := fun W => PairS.equal_ev 9998 W x.node x.seq 7 1
      have hst : Hid (∀ b6 b7 : Bool, (decide (x.node = 6) && decide (x.seq = 1)) = b6 → (decide (x.node = 7) && decide (x.seq = 1)) = b7 → b6 = false → b7 = false → ∀ y ∈ a0.s.p.take (j + 1), ¬ (y.node = 6 ∧ y.seq = 1) ∧ ¬ (y.node = 7 ∧ y.seq = 1)) := aside (by
        rintro _ _ rfl rfl h6 h7 y hy
        obtain ⟨hj2, rfl⟩ := List.getElem?_eq_some_iff.1 hx
        rw [List.take_succ_eq_append_getElem hj2, List.mem_append, List.mem_singleton] at hy
        rcases hy with hy | rfl
        · exact HG.out y hy
        · simpa using And.intro h6 h7)
      obtain ⟨b6, hb6⟩ : ∃ b, (decide (x.node = 6) && decide (x.seq = 1)) = b := ⟨_, rfl⟩
      obtain ⟨b7, hb7⟩ : ∃ b, (decide (x.node = 7) && decide (x.seq = 1)) = b := ⟨_, rfl⟩
      rw [hb6] at hq6
      rw [hb7] at hq7
      have HT : Hid (b6 = false → b7 = false → ∀ y ∈ a0.s.p.take (j + 1), ¬ (y.node = 6 ∧ y.seq = 1) ∧ ¬ (y.node = 7 ∧ y.seq = 1)) := aside (hst.out b6 b7 hb6 hb7)
      rw [hA] at pc
      clear hr hx hb6 hb7 hst HG
      cases b6
      · cases b7
        · have HG2 := aside (HT.out rfl rfl); clear HT
          go_wp2_with (first | go_skip | (refine CelG.gload SE _ rfl _ rfl a0 B0 rfl ?_) | (refine CelG.gop _ rfl _ rfl a1 B1 rfl ?_) | (refine CelG.gop _ rfl _ rfl a2 B2 rfl ?_) | (refine CelG.gload EE _ rfl _ rfl ⟨6, 1⟩ V1 rfl ?_) | (refine CelG.gload EE _ rfl _ rfl ⟨7, 1⟩ V2 rfl ?_))
          refine Grow.region [(0, true), (1, true), (2, true), (3, true), (4, true), (5, true), (6, true), (7, true), (8, true), (9, true), (10, true), (11, true), (12, true), (13, true), (14, true), (15, true), (16, true), (17, true)] (by kernel_rfl) (by kernel_rfl) rfl (by kernel_rfl) (by intro c a d v w h; cases d <;> exact h) ?_
          rename World => V5
          have k5 := below_drew1 (Below.refl V5.heap.size V5)
          have HR' := range_below HR k5; clear HR; have HR := HR'; clear HR'
          have w0' := w0.below k5
          clear w0
          have w0 := w0'
          clear w0'
          have B0' := B0.below k5
          clear B0
          have B0 := B0'
          clear B0'
          have B1' := B1.below k5
          clear B1
          have B1 := B1'
          clear B1'
          have B2' := B2.below k5
          clear B2
          have B2 := B2'
          clear B2'
          have V1' := V1.below k5
          clear V1
          have V1 := V1'
          clear V1'
          have V2' := V2.below k5
          clear V2
          have V2 := V2'
          clear V2'
          have kb' := kb.trans (k5.mono kb.size)
          clear kb k5
          have kb := kb'
          clear kb'
          have kr' := kr.trans (below_drew1 (Below.refl V5.heap.size V5) |>.mono kr.size); clear kr; have kr := kr'; clear kr'
          generalize V5.drew = W5 at w0 B0 B1 B2 V1 V2 HR kr kb ⊢
          have rc := Grow.grown (w := W5) (fun y hy => (box_cells (B0.below hy)).2.2)
          rw [hA] at rc
          clear pc
          repeat (first | (refine Grow.reads rfl rfl ?_; go_big_quiet_want; refine StC.quiet_ev _ rfl _ _ rfl ⟨x.node, x.seq⟩ HR ?_; go_big_quiet_on; refine wpQuiet_nil ?_; simp only [Act.put, List.setIfInBounds_toArray, List.set_cons_succ, List.set_cons_zero]) | (refine Grow.reads rfl rfl ?_; go_big_quiet_want; refine StC.quiet_ev _ rfl _ _ rfl ⟨6, 1⟩ V1.range ?_; go_big_quiet_on; refine wpQuiet_nil ?_; simp only [Act.put, List.setIfInBounds_toArray, List.set_cons_succ, List.set_cons_zero]) | (refine Grow.reads rfl rfl ?_; go_big_quiet_want; refine StC.quiet_ev _ rfl _ _ rfl ⟨7, 1⟩ V2.range ?_; go_big_quiet_on; refine wpQuiet_nil ?_; simp only [Act.put, List.setIfInBounds_toArray, List.set_cons_succ, List.set_cons_zero]) | (refine Grow.reads rfl rfl ?_; go_big_quiet_step (fail); refine wpQuiet_nil ?_))
          refine Grow.ends ?_
          go_wp2_with (first | go_skip)
          go_roundw
          case rel => exact ⟨j + 1, by omega, by go_num, HG2, kr⟩
          case measure => simp [intOf]; omega
        · clear HT
          go_wp2_with (first | go_skip | (refine CelG.gload SE _ rfl _ rfl a0 B0 rfl ?_) | (refine CelG.gop _ rfl _ rfl a1 B1 rfl ?_) | (refine CelG.gop _ rfl _ rfl a2 B2 rfl ?_) | (refine CelG.gload EE _ rfl _ rfl ⟨6, 1⟩ V1 rfl ?_) | (refine CelG.gload EE _ rfl _ rfl ⟨7, 1⟩ V2 rfl ?_))
          refine Grow.region [(0, true), (1, true), (2, true), (3, true), (4, true), (5, true), (6, true), (7, true), (8, true), (9, true), (10, true), (11, true), (12, true), (13, true), (14, true), (15, true), (16, true), (17, true)] (by kernel_rfl) (by kernel_rfl) rfl (by kernel_rfl) (by intro c a d v w h; cases d <;> exact h) ?_
          rename World => V6
          have k6 := below_drew1 (Below.refl V6.heap.size V6)
          have HR' := range_below HR k6; clear HR; have HR := HR'; clear HR'
          have w0' := w0.below k6
          clear w0
          have w0 := w0'
          clear w0'
          have B0' := B0.below k6
          clear B0
          have B0 := B0'
          clear B0'
          have B1' := B1.below k6
          clear B1
          have B1 := B1'
          clear B1'
          have B2' := B2.below k6
          clear B2
          have B2 := B2'
          clear B2'
          have V1' := V1.below k6
          clear V1
          have V1 := V1'
          clear V1'
          have V2' := V2.below k6
          clear V2
          have V2 := V2'
          clear V2'
          have kb' := kb.trans (k6.mono kb.size)
          clear kb k6
          have kb := kb'
          clear kb'
          have kr' := kr.trans (below_drew1 (Below.refl V6.heap.size V6) |>.mono kr.size); clear kr; have kr := kr'; clear kr'
          generalize V6.drew = W6 at w0 B0 B1 B2 V1 V2 HR kr kb ⊢
          have rc := Grow.grown (w := W6) (fun y hy => (box_cells (B0.below hy)).2.2)
          rw [hA] at rc
          clear pc
          repeat (first | (refine Grow.reads rfl rfl ?_; go_big_quiet_want; refine StC.quiet_ev _ rfl _ _ rfl ⟨x.node, x.seq⟩ HR ?_; go_big_quiet_on; refine wpQuiet_nil ?_; simp only [Act.put, List.setIfInBounds_toArray, List.set_cons_succ, List.set_cons_zero]) | (refine Grow.reads rfl rfl ?_; go_big_quiet_want; refine StC.quiet_ev _ rfl _ _ rfl ⟨6, 1⟩ V1.range ?_; go_big_quiet_on; refine wpQuiet_nil ?_; simp only [Act.put, List.setIfInBounds_toArray, List.set_cons_succ, List.set_cons_zero]) | (refine Grow.reads rfl rfl ?_; go_big_quiet_want; refine StC.quiet_ev _ rfl _ _ rfl ⟨7, 1⟩ V2.range ?_; go_big_quiet_on; refine wpQuiet_nil ?_; simp only [Act.put, List.setIfInBounds_toArray, List.set_cons_succ, List.set_cons_zero]) | (refine Grow.reads rfl rfl ?_; go_big_quiet_step (fail); refine wpQuiet_nil ?_))
          refine Grow.ends ?_
          go_wp2_with (first | go_skip)
          go_ret
          exact ⟨by first | rfl | simp, kb⟩
      · clear HT
        go_wp2_with (first | go_skip | (refine CelG.gload SE _ rfl _ rfl a0 B0 rfl ?_) | (refine CelG.gop _ rfl _ rfl a1 B1 rfl ?_) | (refine CelG.gop _ rfl _ rfl a2 B2 rfl ?_) | (refine CelG.gload EE _ rfl _ rfl ⟨6, 1⟩ V1 rfl ?_) | (refine CelG.gload EE _ rfl _ rfl ⟨7, 1⟩ V2 rfl ?_))
        refine Grow.region [(0, true), (1, true), (2, true), (3, true), (4, true), (5, true), (6, true), (7, true), (8, true), (9, true), (10, true), (11, true), (12, true), (13, true), (14, true), (15, true), (16, true), (17, true)] (by kernel_rfl) (by kernel_rfl) rfl (by kernel_rfl) (by intro c a d v w h; cases d <;> exact h) ?_
        rename World => V7
        have k7 := below_drew1 (Below.refl V7.heap.size V7)
        have HR' := range_below HR k7; clear HR; have HR := HR'; clear HR'
        have w0' := w0.below k7
        clear w0
        have w0 := w0'
        clear w0'
        have B0' := B0.below k7
        clear B0
        have B0 := B0'
        clear B0'
        have B1' := B1.below k7
        clear B1
        have B1 := B1'
        clear B1'
        have B2' := B2.below k7
        clear B2
        have B2 := B2'
        clear B2'
        have V1' := V1.below k7
        clear V1
        have V1 := V1'
        clear V1'
        have V2' := V2.below k7
        clear V2
        have V2 := V2'
        clear V2'
        have kb' := kb.trans (k7.mono kb.size)
        clear kb k7
        have kb := kb'
        clear kb'
        have kr' := kr.trans (below_drew1 (Below.refl V7.heap.size V7) |>.mono kr.size); clear kr; have kr := kr'; clear kr'
        generalize V7.drew = W7 at w0 B0 B1 B2 V1 V2 HR kr kb ⊢
        have rc := Grow.grown (w := W7) (fun y hy => (box_cells (B0.below hy)).2.2)
        rw [hA] at rc
        clear pc
        repeat (first | (refine Grow.reads rfl rfl ?_; go_big_quiet_want; refine StC.quiet_ev _ rfl _ _ rfl ⟨x.node, x.seq⟩ HR ?_; go_big_quiet_on; refine wpQuiet_nil ?_; simp only [Act.put, List.setIfInBounds_toArray, List.set_cons_succ, List.set_cons_zero]) | (refine Grow.reads rfl rfl ?_; go_big_quiet_want; refine StC.quiet_ev _ rfl _ _ rfl ⟨6, 1⟩ V1.range ?_; go_big_quiet_on; refine wpQuiet_nil ?_; simp only [Act.put, List.setIfInBounds_toArray, List.set_cons_succ, List.set_cons_zero]) | (refine Grow.reads rfl rfl ?_; go_big_quiet_want; refine StC.quiet_ev _ rfl _ _ rfl ⟨7, 1⟩ V2.range ?_; go_big_quiet_on; refine wpQuiet_nil ?_; simp only [Act.put, List.setIfInBounds_toArray, List.set_cons_succ, List.set_cons_zero]) | (refine Grow.reads rfl rfl ?_; go_big_quiet_step (fail); refine wpQuiet_nil ?_))
        refine Grow.ends ?_
        go_wp2_with (first | go_skip)
        go_ret
        exact ⟨by first | rfl | simp, kb⟩
    · have HN : Hid (∀ x ∈ a0.s.p, ¬ (x.node = 6 ∧ x.seq = 1) ∧ ¬ (x.node = 7 ∧ x.seq = 1)) := aside (by
        have := HG.out
        rwa [List.take_of_length_le (by omega)] at this)
      clear HG kr
      have E3 := aside (HH.out HN.out).1
      have E4 := aside (HH.out HN.out).2.1
      have E5 := aside (HH.out HN.out).2.2
      clear HH HN
      go_wp2_with (first | go_skip | (refine CelG.gload SE _ rfl _ rfl a0 B0 rfl ?_) | (refine CelG.gop _ rfl _ rfl a1 B1 rfl ?_) | (refine CelG.gop _ rfl _ rfl a2 B2 rfl ?_) | (refine CelG.gload EE _ rfl _ rfl ⟨6, 1⟩ V1 rfl ?_) | (refine CelG.gload EE _ rfl _ rfl ⟨7, 1⟩ V2 rfl ?_))
      have hc := StK.do_ret a0 a1 ⟨6, 1⟩ a3 _ w0 f0 y0 w1 h64 in6 in1
      rw [E1.out] at hc
      refine hc.mono ?_
      clear hc
      rintro e W8 ⟨vP, rfl, hP, SP, k8⟩
      have hP : vP.s = X := hP
      have w0' := w0.below k8
      clear w0
      have w0 := w0'
      clear w0'
      have B0' := B0.below k8
      clear B0
      have B0 := B0'
      clear B0'
      have B1' := B1.below k8
      clear B1
      have B1 := B1'
      clear B1'
      have B2' := B2.below k8
      clear B2
      have B2 := B2'
      clear B2'
      have V1' := V1.below k8
      clear V1
      have V1 := V1'
      clear V1'
      have V2' := V2.below k8
      clear V2
      have V2 := V2'
      clear V2'
      have kb' := kb.trans (k8.mono kb.size)
      clear kb k8
      have kb := kb'
      clear kb'
      go_wp2_with (first | go_skip | (refine CelG.gload SE _ rfl _ rfl a0 B0 rfl ?_) | (refine CelG.gop _ rfl _ rfl a1 B1 rfl ?_) | (refine CelG.gop _ rfl _ rfl a2 B2 rfl ?_) | (refine CelG.gload EE _ rfl _ rfl ⟨6, 1⟩ V1 rfl ?_) | (refine CelG.gload EE _ rfl _ rfl ⟨7, 1⟩ V2 rfl ?_) | (refine Cel.wpList_store_new SE rfl _ _ rfl _ _ _ rfl vP _ rfl rfl rfl rfl ?_; intro W9 BP k9 g9 s9; clear g9 s9; have w0' := w0.below k9; clear w0; have w0 := w0'; clear w0'; have B0' := B0.below k9; clear B0; have B0 := B0'; clear B0'; have B1' := B1.below k9; clear B1; have B1 := B1'; clear B1'; have B2' := B2.below k9; clear B2; have B2 := B2'; clear B2'; have V1' := V1.below k9; clear V1; have V1 := V1'; clear V1'; have V2' := V2.below k9; clear V2; have V2 := V2'; clear V2'; have SP' := SP.below k9; clear SP; have SP := SP'; clear SP'; have kb' := kb.trans (k9.mono kb.size); clear kb k9; have kb := kb'; clear kb') | (refine CelG.gload SE _ rfl _ rfl vP BP rfl ?_))
      have hc := StK.do_ret a0 a2 ⟨7, 1⟩ a3 _ w0 f0 y0 w2 h64 in7 in1
      rw [E2.out] at hc
      refine hc.mono ?_
      clear hc
      rintro e W10 ⟨vQ, rfl, hQ, SQ, k10⟩
      have hQ : vQ.s = Y := hQ
      have w0' := w0.below k10
      clear w0
      have w0 := w0'
      clear w0'
      have B0' := B0.below k10
      clear B0
      have B0 := B0'
      clear B0'
      have B1' := B1.below k10
      clear B1
      have B1 := B1'
      clear B1'
      have B2' := B2.below k10
      clear B2
      have B2 := B2'
      clear B2'
      have V1' := V1.below k10
      clear V1
      have V1 := V1'
      clear V1'
      have V2' := V2.below k10
      clear V2
      have V2 := V2'
      clear V2'
      have SP' := SP.below k10
      clear SP
      have SP := SP'
      clear SP'
      have BP' := BP.below k10
      clear BP
      have BP := BP'
      clear BP'
      have kb' := kb.trans (k10.mono kb.size)
      clear kb k10
      have kb := kb'
      clear kb'
      go_wp2_with (first | go_skip | (refine CelG.gload SE _ rfl _ rfl a0 B0 rfl ?_) | (refine CelG.gop _ rfl _ rfl a1 B1 rfl ?_) | (refine CelG.gop _ rfl _ rfl a2 B2 rfl ?_) | (refine CelG.gload EE _ rfl _ rfl ⟨6, 1⟩ V1 rfl ?_) | (refine CelG.gload EE _ rfl _ rfl ⟨7, 1⟩ V2 rfl ?_) | (refine CelG.gload SE _ rfl _ rfl vP BP rfl ?_) | (refine Cel.wpList_store_new SE rfl _ _ rfl _ _ _ rfl vQ _ rfl rfl rfl rfl ?_; intro W11 BQ k11 g11 s11; clear g11 s11; have w0' := w0.below k11; clear w0; have w0 := w0'; clear w0'; have B0' := B0.below k11; clear B0; have B0 := B0'; clear B0'; have B1' := B1.below k11; clear B1; have B1 := B1'; clear B1'; have B2' := B2.below k11; clear B2; have B2 := B2'; clear B2'; have V1' := V1.below k11; clear V1; have V1 := V1'; clear V1'; have V2' := V2.below k11; clear V2; have V2 := V2'; clear V2'; have SP' := SP.below k11; clear SP; have SP := SP'; clear SP'; have BP' := BP.below k11; clear BP; have BP := BP'; clear BP'; have SQ' := SQ.below k11; clear SQ; have SQ := SQ'; clear SQ'; have kb' := kb.trans (k11.mono kb.size); clear kb k11; have kb := kb'; clear kb') | (refine CelG.gload SE _ rfl _ rfl vQ BQ rfl ?_))
      have hc := StL.merge_ret a0 vP vQ _ w0 SP SQ f0 (by rw [hP]; exact qX) (by rw [hQ]; exact qY) y0 (by rw [hP]; exact rX) (by rw [hQ]; exact rY)
      rw [hP] at hc
      rw [hQ] at hc
      rw [E3.out] at hc
      refine hc.mono ?_
      clear hc
      rintro e W12 ⟨vR, rfl, hR, SR, k12⟩
      have hR : vR.s = M := hR
      have w0' := w0.below k12
      clear w0
      have w0 := w0'
      clear w0'
      have B0' := B0.below k12
      clear B0
      have B0 := B0'
      clear B0'
      have B1' := B1.below k12
      clear B1
      have B1 := B1'
      clear B1'
      have B2' := B2.below k12
      clear B2
      have B2 := B2'
      clear B2'
      have V1' := V1.below k12
      clear V1
      have V1 := V1'
      clear V1'
      have V2' := V2.below k12
      clear V2
      have V2 := V2'
      clear V2'
      have SP' := SP.below k12
      clear SP
      have SP := SP'
      clear SP'
      have BP' := BP.below k12
      clear BP
      have BP := BP'
      clear BP'
      have SQ' := SQ.below k12
      clear SQ
      have SQ := SQ'
      clear SQ'
      have BQ' := BQ.below k12
      clear BQ
      have BQ := BQ'
      clear BQ'
      have kb' := kb.trans (k12.mono kb.size)
      clear kb k12
      have kb := kb'
      clear kb'
      go_wp2_with (first | go_skip | (refine CelG.gload SE _ rfl _ rfl a0 B0 rfl ?_) | (refine CelG.gop _ rfl _ rfl a1 B1 rfl ?_) | (refine CelG.gop _ rfl _ rfl a2 B2 rfl ?_) | (refine CelG.gload EE _ rfl _ rfl ⟨6, 1⟩ V1 rfl ?_) | (refine CelG.gload EE _ rfl _ rfl ⟨7, 1⟩ V2 rfl ?_) | (refine CelG.gload SE _ rfl _ rfl vP BP rfl ?_) | (refine CelG.gload SE _ rfl _ rfl vQ BQ rfl ?_) | (refine Cel.wpList_store_new SE rfl _ _ rfl _ _ _ rfl vR _ rfl rfl rfl rfl ?_; intro W13 BR k13 g13 s13; clear g13 s13; have w0' := w0.below k13; clear w0; have w0 := w0'; clear w0'; have B0' := B0.below k13; clear B0; have B0 := B0'; clear B0'; have B1' := B1.below k13; clear B1; have B1 := B1'; clear B1'; have B2' := B2.below k13; clear B2; have B2 := B2'; clear B2'; have V1' := V1.below k13; clear V1; have V1 := V1'; clear V1'; have V2' := V2.below k13; clear V2; have V2 := V2'; clear V2'; have SP' := SP.below k13; clear SP; have SP := SP'; clear SP'; have BP' := BP.below k13; clear BP; have BP := BP'; clear BP'; have SQ' := SQ.below k13; clear SQ; have SQ := SQ'; clear SQ'; have BQ' := BQ.below k13; clear BQ; have BQ := BQ'; clear BQ'; have SR' := SR.below k13; clear SR; have SR := SR'; clear SR'; have kb' := kb.trans (k13.mono kb.size); clear kb k13; have kb := kb'; clear kb') | (refine CelG.gload SE _ rfl _ rfl vR BR rfl ?_))
      have hc := StK.do_ret vP a2 ⟨7, 1⟩ a3 _ SP (by rw [hP]; exact qX) (by rw [hP]; exact rX) w2 h64 in7 in1
      rw [hP] at hc
      rw [E4.out] at hc
      refine hc.mono ?_
      clear hc
      rintro e W14 ⟨vT, rfl, hT, ST, k14⟩
      have hT : vT.s = M := hT
      have w0' := w0.below k14
      clear w0
      have w0 := w0'
      clear w0'
      have B0' := B0.below k14
      clear B0
      have B0 := B0'
      clear B0'
      have B1' := B1.below k14
      clear B1
      have B1 := B1'
      clear B1'
      have B2' := B2.below k14
      clear B2
      have B2 := B2'
      clear B2'
      have V1' := V1.below k14
      clear V1
      have V1 := V1'
      clear V1'
      have V2' := V2.below k14
      clear V2
      have V2 := V2'
      clear V2'
      have SP' := SP.below k14
      clear SP
      have SP := SP'
      clear SP'
      have BP' := BP.below k14
      clear BP
      have BP := BP'
      clear BP'
      have SQ' := SQ.below k14
      clear SQ
      have SQ := SQ'
      clear SQ'
      have BQ' := BQ.below k14
      clear BQ
      have BQ := BQ'
      clear BQ'
      have SR' := SR.below k14
      clear SR
      have SR := SR'
      clear SR'
      have BR' := BR.below k14
      clear BR
      have BR := BR'
      clear BR'
      have kb' := kb.trans (k14.mono kb.size)
      clear kb k14
      have kb := kb'
      clear kb'
      go_wp2_with (first | go_skip | (refine CelG.gload SE _ rfl _ rfl a0 B0 rfl ?_) | (refine CelG.gop _ rfl _ rfl a1 B1 rfl ?_) | (refine CelG.gop _ rfl _ rfl a2 B2 rfl ?_) | (refine CelG.gload EE _ rfl _ rfl ⟨6, 1⟩ V1 rfl ?_) | (refine CelG.gload EE _ rfl _ rfl ⟨7, 1⟩ V2 rfl ?_) | (refine CelG.gload SE _ rfl _ rfl vP BP rfl ?_) | (refine CelG.gload SE _ rfl _ rfl vQ BQ rfl ?_) | (refine CelG.gload SE _ rfl _ rfl vR BR rfl ?_) | (refine Cel.wpList_store_new SE rfl _ _ rfl _ _ _ rfl vT _ rfl rfl rfl rfl ?_; intro W15 BT k15 g15 s15; clear g15 s15; have w0' := w0.below k15; clear w0; have w0 := w0'; clear w0'; have B0' := B0.below k15; clear B0; have B0 := B0'; clear B0'; have B1' := B1.below k15; clear B1; have B1 := B1'; clear B1'; have B2' := B2.below k15; clear B2; have B2 := B2'; clear B2'; have V1' := V1.below k15; clear V1; have V1 := V1'; clear V1'; have V2' := V2.below k15; clear V2; have V2 := V2'; clear V2'; have SP' := SP.below k15; clear SP; have SP := SP'; clear SP'; have BP' := BP.below k15; clear BP; have BP := BP'; clear BP'; have SQ' := SQ.below k15; clear SQ; have SQ := SQ'; clear SQ'; have BQ' := BQ.below k15; clear BQ; have BQ := BQ'; clear BQ'; have SR' := SR.below k15; clear SR; have SR := SR'; clear SR'; have BR' := BR.below k15; clear BR; have BR := BR'; clear BR'; have ST' := ST.below k15; clear ST; have ST := ST'; clear ST'; have kb' := kb.trans (k15.mono kb.size); clear kb k15; have kb := kb'; clear kb') | (refine CelG.gload SE _ rfl _ rfl vT BT rfl ?_))
      have hc := StK.do_ret vQ a1 ⟨6, 1⟩ a3 _ SQ (by rw [hQ]; exact qY) (by rw [hQ]; exact rY) w1 h64 in6 in1
      rw [hQ] at hc
      rw [E5.out] at hc
      refine hc.mono ?_
      clear hc
      rintro e W16 ⟨vU, rfl, hU, SU, k16⟩
      have hU : vU.s = M := hU
      have w0' := w0.below k16
      clear w0
      have w0 := w0'
      clear w0'
      have B0' := B0.below k16
      clear B0
      have B0 := B0'
      clear B0'
      have B1' := B1.below k16
      clear B1
      have B1 := B1'
      clear B1'
      have B2' := B2.below k16
      clear B2
      have B2 := B2'
      clear B2'
      have V1' := V1.below k16
      clear V1
      have V1 := V1'
      clear V1'
      have V2' := V2.below k16
      clear V2
      have V2 := V2'
      clear V2'
      have SP' := SP.below k16
      clear SP
      have SP := SP'
      clear SP'
      have BP' := BP.below k16
      clear BP
      have BP := BP'
      clear BP'
      have SQ' := SQ.below k16
      clear SQ
      have SQ := SQ'
      clear SQ'
      have BQ' := BQ.below k16
      clear BQ
      have BQ := BQ'
      clear BQ'
      have SR' := SR.below k16
      clear SR
      have SR := SR'
      clear SR'
      have BR' := BR.below k16
      clear BR
      have BR := BR'
      clear BR'
      have ST' := ST.below k16
      clear ST
      have ST := ST'
      clear ST'
      have BT' := BT.below k16
      clear BT
      have BT := BT'
      clear BT'
      have kb' := kb.trans (k16.mono kb.size)
      clear kb k16
      have kb := kb'
      clear kb'
      go_wp2_with (first | go_skip | (refine CelG.gload SE _ rfl _ rfl a0 B0 rfl ?_) | (refine CelG.gop _ rfl _ rfl a1 B1 rfl ?_) | (refine CelG.gop _ rfl _ rfl a2 B2 rfl ?_) | (refine CelG.gload EE _ rfl _ rfl ⟨6, 1⟩ V1 rfl ?_) | (refine CelG.gload EE _ rfl _ rfl ⟨7, 1⟩ V2 rfl ?_) | (refine CelG.gload SE _ rfl _ rfl vP BP rfl ?_) | (refine CelG.gload SE _ rfl _ rfl vQ BQ rfl ?_) | (refine CelG.gload SE _ rfl _ rfl vR BR rfl ?_) | (refine CelG.gload SE _ rfl _ rfl vT BT rfl ?_) | (refine Cel.wpList_store_new SE rfl _ _ rfl _ _ _ rfl vU _ rfl rfl rfl rfl ?_; intro W17 BU k17 g17 s17; clear g17 s17; have w0' := w0.below k17; clear w0; have w0 := w0'; clear w0'; have B0' := B0.below k17; clear B0; have B0 := B0'; clear B0'; have B1' := B1.below k17; clear B1; have B1 := B1'; clear B1'; have B2' := B2.below k17; clear B2; have B2 := B2'; clear B2'; have V1' := V1.below k17; clear V1; have V1 := V1'; clear V1'; have V2' := V2.below k17; clear V2; have V2 := V2'; clear V2'; have SP' := SP.below k17; clear SP; have SP := SP'; clear SP'; have BP' := BP.below k17; clear BP; have BP := BP'; clear BP'; have SQ' := SQ.below k17; clear SQ; have SQ := SQ'; clear SQ'; have BQ' := BQ.below k17; clear BQ; have BQ := BQ'; clear BQ'; have SR' := SR.below k17; clear SR; have SR := SR'; clear SR'; have BR' := BR.below k17; clear BR; have BR := BR'; clear BR'; have ST' := ST.below k17; clear ST; have ST := ST'; clear ST'; have BT' := BT.below k17; clear BT; have BT := BT'; clear BT'; have SU' := SU.below k17; clear SU; have SU := SU'; clear SU'; have kb' := kb.trans (k17.mono kb.size); clear kb k17; have kb := kb'; clear kb') | (refine CelG.gload SE _ rfl _ rfl vU BU rfl ?_))
      have hc := StE.same_ret vR vT _ SR ST
      rw [hR] at hc
      rw [hT] at hc
      rw [sameS_iff.2 rfl] at hc
      refine hc.mono ?_
      clear hc
      rintro e W18 ⟨rfl, k18⟩
      have w0' := w0.below k18
      clear w0
      have w0 := w0'
      clear w0'
      have B0' := B0.below k18
      clear B0
      have B0 := B0'
      clear B0'
      have B1' := B1.below k18
      clear B1
      have B1 := B1'
      clear B1'
      have B2' := B2.below k18
      clear B2
      have B2 := B2'
      clear B2'
      have V1' := V1.below k18
      clear V1
      have V1 := V1'
      clear V1'
      have V2' := V2.below k18
      clear V2
      have V2 := V2'
      clear V2'
      have SP' := SP.below k18
      clear SP
      have SP := SP'
      clear SP'
      have BP' := BP.below k18
      clear BP
      have BP := BP'
      clear BP'
      have SQ' := SQ.below k18
      clear SQ
      have SQ := SQ'
      clear SQ'
      have BQ' := BQ.below k18
      clear BQ
      have BQ := BQ'
      clear BQ'
      have SR' := SR.below k18
      clear SR
      have SR := SR'
      clear SR'
      have BR' := BR.below k18
      clear BR
      have BR := BR'
      clear BR'
      have ST' := ST.below k18
      clear ST
      have ST := ST'
      clear ST'
      have BT' := BT.below k18
      clear BT
      have BT := BT'
      clear BT'
      have SU' := SU.below k18
      clear SU
      have SU := SU'
      clear SU'
      have BU' := BU.below k18
      clear BU
      have BU := BU'
      clear BU'
      have kb' := kb.trans (k18.mono kb.size)
      clear kb k18
      have kb := kb'
      clear kb'
      go_wp2_with (first | go_skip | (refine CelG.gload SE _ rfl _ rfl a0 B0 rfl ?_) | (refine CelG.gop _ rfl _ rfl a1 B1 rfl ?_) | (refine CelG.gop _ rfl _ rfl a2 B2 rfl ?_) | (refine CelG.gload EE _ rfl _ rfl ⟨6, 1⟩ V1 rfl ?_) | (refine CelG.gload EE _ rfl _ rfl ⟨7, 1⟩ V2 rfl ?_) | (refine CelG.gload SE _ rfl _ rfl vP BP rfl ?_) | (refine CelG.gload SE _ rfl _ rfl vQ BQ rfl ?_) | (refine CelG.gload SE _ rfl _ rfl vR BR rfl ?_) | (refine CelG.gload SE _ rfl _ rfl vT BT rfl ?_) | (refine CelG.gload SE _ rfl _ rfl vU BU rfl ?_))
      have hc := StE.same_ret vR vU _ SR SU
      rw [hR] at hc
      rw [hU] at hc
      rw [sameS_iff.2 rfl] at hc
      refine hc.mono ?_
      clear hc
      rintro e W19 ⟨rfl, k19⟩
      have w0' := w0.below k19
      clear w0
      have w0 := w0'
      clear w0'
      have B0' := B0.below k19
      clear B0
      have B0 := B0'
      clear B0'
      have B1' := B1.below k19
      clear B1
      have B1 := B1'
      clear B1'
      have B2' := B2.below k19
      clear B2
      have B2 := B2'
      clear B2'
      have V1' := V1.below k19
      clear V1
      have V1 := V1'
      clear V1'
      have V2' := V2.below k19
      clear V2
      have V2 := V2'
      clear V2'
      have SP' := SP.below k19
      clear SP
      have SP := SP'
      clear SP'
      have BP' := BP.below k19
      clear BP
      have BP := BP'
      clear BP'
      have SQ' := SQ.below k19
      clear SQ
      have SQ := SQ'
      clear SQ'
      have BQ' := BQ.below k19
      clear BQ
      have BQ := BQ'
      clear BQ'
      have SR' := SR.below k19
      clear SR
      have SR := SR'
      clear SR'
      have BR' := BR.below k19
      clear BR
      have BR := BR'
      clear BR'
      have ST' := ST.below k19
      clear ST
      have ST := ST'
      clear ST'
      have BT' := BT.below k19
      clear BT
      have BT := BT'
      clear BT'
      have SU' := SU.below k19
      clear SU
      have SU := SU'
      clear SU'
      have BU' := BU.below k19
      clear BU
      have BU := BU'
      clear BU'
      have kb' := kb.trans (k19.mono kb.size)
      clear kb k19
      have kb := kb'
      clear kb'
      go_wp2_with (first | go_skip | (refine CelG.gload SE _ rfl _ rfl a0 B0 rfl ?_) | (refine CelG.gop _ rfl _ rfl a1 B1 rfl ?_) | (refine CelG.gop _ rfl _ rfl a2 B2 rfl ?_) | (refine CelG.gload EE _ rfl _ rfl ⟨6, 1⟩ V1 rfl ?_) | (refine CelG.gload EE _ rfl _ rfl ⟨7, 1⟩ V2 rfl ?_) | (refine CelG.gload SE _ rfl _ rfl vP BP rfl ?_) | (refine CelG.gload SE _ rfl _ rfl vQ BQ rfl ?_) | (refine CelG.gload SE _ rfl _ rfl vR BR rfl ?_) | (refine CelG.gload SE _ rfl _ rfl vT BT rfl ?_) | (refine CelG.gload SE _ rfl _ rfl vU BU rfl ?_))
      go_ret
      exact ⟨by first | rfl | simp, kb⟩

theorem walk (a0 : Sv) (a1 : Opn) (a2 : Opn) (a3 : Int) (w : World) (w0 : In w a0) (g0 : OpenS.Good a0.s) (w1 : OpsC.Fit a1) (w2 : OpsC.Fit a2) (w3 : (Lit.int .i64 a3).wf = true) :
    Calls Try.prog 4 #[.agg (sc a0), .agg (opc a1), .agg (opc a2), .int .i64 a3] w fun e w' => e = .returned (.bool true) ∧ Below w.heap.size w w' := by
  cases x0 : fewS a0.s with
  | false => exact out a0 a1 a2 a3 w w0 g0 w1 w2 w3 _ x0 (.inl rfl)
  | true =>
    by_cases h1 : 1 ≤ a3
    · by_cases h2 : a3 ≤ 1000000
      · by_cases hk1 : a1.kind = 3
        · exact outk0 a0 a1 a2 a3 w w0 g0 w1 w2 w3 x0 h1 h2 hk1
        · by_cases hk2 : a2.kind = 3
          · exact outk1 a0 a1 a2 a3 w w0 g0 w1 w2 w3 x0 h1 h2 hk1 hk2
          · have h64 : CtrL.In64 a3 := ⟨by omega, by omega⟩
            cases c1 : okD a0.s a1 6 1 a3 with
            | false => exact no1 a0 a1 a2 a3 w w0 g0 w1 w2 w3 x0 h1 h2 hk1 hk2 (do_nil c1) _ rfl
            | true =>
              cases c2 : okD a0.s a2 7 1 a3 with
              | false => exact no2 a0 a1 a2 a3 w w0 g0 w1 w2 w3 x0 h1 h2 hk1 hk2 _ (do_some c1) (do_nil c2)
              | true =>
                have f0 := fits x0 g0
                have l0 := few_len x0
                refine yes a0 a1 a2 a3 w w0 g0 w1 w2 w3 x0 h1 h2 hk1 hk2 _ _ (do_some c1) (do_some c2) (step_fits f0 c1 in6 in1 h64) (step_fits f0 c2 in7 in1 h64) ((step_len l0 a1 6 1 a3).le (show 30 + 1 ≤ 1000 by omega)) ((step_len l0 a2 7 1 a3).le (show 30 + 1 ≤ 1000 by omega)) (joinS a0.s (stepS a0.s a1 6 1 a3) (stepS a0.s a2 7 1 a3)) fun hm => ?_
                obtain ⟨m0, o1, v1, _⟩ := okD_iff.1 c1
                obtain ⟨_, o2, v2, gg⟩ := okD_iff.1 c2
                have mX := step_may c1
                have mY := step_may c2
                refine ⟨merge_some m0 mX mY, ?_, ?_⟩
                · rw [do_some (okD_iff.2 ⟨mX, o2, v2, gg⟩), both c1 c2 (in_of f0) hk1 hk2 (fun x hx => (hm x hx).1) (fun x hx => (hm x hx).2)]
                · rw [do_some (okD_iff.2 ⟨mY, o1, v1, gg⟩), join_turn m0 mX mY, both c2 c1 (in_of f0) hk2 hk1 (fun x hx => (hm x hx).2) (fun x hx => (hm x hx).1)]
      · exact out a0 a1 a2 a3 w w0 g0 w1 w2 w3 _ x0 (.inr (.inr ⟨rfl, h1, by omega⟩))
    · exact out a0 a1 a2 a3 w w0 g0 w1 w2 w3 _ x0 (.inr (.inl ⟨rfl, by omega⟩))

theorem own : ownKnob Try.prog.godebug = none := by kernel_rfl
theorem laidOut : laidOutB Try.prog = true := by kernel_rfl
set_option linter.unusedVariables false in
set_option maxRecDepth 100000 in
theorem lifted (os : Os) (started : os.Started) (H : Type) (enc : TypeId × Value → H) :
    ReturnsInHanded {} Try.checked os 4 .any (Rows.stateBothSpec.pre6 enc Try.prog Try.f4 Rows.stateBothRow.domain false) (Rows.stateBothSpec.post enc Try.prog Try.f4 false true false false) := by
  refine returnsInHanded_of_change (C := Try.checked) own started (by kernel_rfl) Try.func4
    (ChangeSpec.witness6 (enc := enc) (C := Try.checked) false ⟨#[], #[.agg #[.slice none 0 0, .slice none 0 0, .slice none 0 0], .agg #[.int .i64 0, .string ByteArray.empty, .string ByteArray.empty, .int .i64 0], .agg #[.int .i64 0, .string ByteArray.empty, .string ByteArray.empty, .int .i64 0], .int .i64 0], []⟩ 8 (by kernel_rfl) (by kernel_rfl) (by kernel_rfl) (by kernel_rfl)) ?_
  intro W base args ds gs before hval0 hW hcnd _
  have hval : ∀ (j : Nat) t v, Try.f4.params[j]? = some t → args[j]? = some v → Value.okWide Try.prog W .any base t v := hval0
  have hW' := hW
  obtain ⟨p, q, hA0, hV, rfl, hfz, hnd⟩ := hW
  have hA : DataW.TrodAll enc Try.prog W 0 (fun _ => true) true Try.f4.params.toList args.toList ds p := hA0
  rw [Try.params4] at hA hval
  obtain ⟨v0, vs0, d0, ds0, p0, q0, hargs, rfl, rfl, h0, r0⟩ := trodAll_cons hA
  obtain ⟨v1, vs1, d1, ds1, p1, q1, rfl, rfl, rfl, h1, r1⟩ := trodAll_cons r0
  obtain ⟨v2, vs2, d2, ds2, p2, q2, rfl, rfl, rfl, h2, r2⟩ := trodAll_cons r1
  obtain ⟨v3, vs3, d3, ds3, p3, q3, rfl, rfl, rfl, h3, r3⟩ := trodAll_cons r2
  obtain ⟨rfl, rfl, rfl⟩ := trodAll_nil r3
  obtain rfl : args = #[v0, v1, v2, v3] := by cases args; simp_all
  obtain ⟨rfl, rfl⟩ := trodVars_none hV
  have k0 := h0
  have lt0 : ∀ x ∈ p0, x.block < W.heap.size := by obtain ⟨m, hm⟩ := k0; exact DataW.trod_lt m _ _ _ hm
  obtain ⟨a0, rfl, w0, g0⟩ := OpenS.open_state (hval 0 26 v0 rfl rfl) h0
  have k1 := h1
  have lt1 : ∀ x ∈ p1, x.block < W.heap.size := by obtain ⟨m, hm⟩ := k1; exact DataW.trod_lt m _ _ _ hm
  obtain ⟨a1, rfl, w1⟩ := OpenO.open_op Try.underlying37 (by kernel_rfl) (by kernel_rfl) Try.underlying3 Try.underlying9 Try.underlying9 Try.underlying3 (hval 1 37 v1 rfl rfl) h1
  have k2 := h2
  have lt2 : ∀ x ∈ p2, x.block < W.heap.size := by obtain ⟨m, hm⟩ := k2; exact DataW.trod_lt m _ _ _ hm
  obtain ⟨a2, rfl, w2⟩ := OpenO.open_op Try.underlying37 (by kernel_rfl) (by kernel_rfl) Try.underlying3 Try.underlying9 Try.underlying9 Try.underlying3 (hval 2 37 v2 rfl rfl) h2
  obtain ⟨a3, rfl, rfl, rfl, w3⟩ := open_int Try.underlying3 (hval 3 3 v3 rfl rfl) h3
  clear hA0 hval0
  refine (walk a0 a1 a2 a3 W w0 g0 w1 w2 w3).mono fun e W' ⟨he, bel⟩ => ?_
  subst he
  exact ⟨_, rfl, _, _, _, [], _, [], hW', trodAll_mk1 (shut_bool Try.underlying4 _), (trodAll_cons_mk (Below.trod laidOut (by kernel_rfl) (of_decide_eq_true (by kernel_rfl)) k0 bel lt0) (trodAll_cons_mk (Below.trod laidOut (by kernel_rfl) (of_decide_eq_true (by kernel_rfl)) k1 bel lt1) (trodAll_cons_mk (Below.trod laidOut (by kernel_rfl) (of_decide_eq_true (by kernel_rfl)) k2 bel lt2) (trodAll_cons_mk (shut_int Try.underlying3 w3) trodAll_mk0)))), rfl, bel.frame _, fun h => by cases h⟩

theorem over : Rows.stateBothRow.holds Try.pinned (OpenSpec.ofChange Rows.stateBothSpec) :=
  OpenClaim.holds_of_wide 4 Try.f4 rfl rfl rfl rfl rfl rfl rfl ⟨rfl, rfl, rfl, rfl, rfl⟩ rfl rfl rfl rfl rfl (by kernel_rfl) Try.func4 (by kernel_rfl)
    (of_decide_eq_true (by kernel_rfl)) (by unfold Func.isWrapper; first | (rw [if_pos (by decide +kernel)]; kernel_rfl) | (rw [if_neg (by decide +kernel)]; exact ⟨rfl, rfl⟩))
    (fun os started H enc _ => lifted os started H enc)

theorem proved : Rows.StateBothSaid := over
end Go.Proofs.Ytnjdkjkihbgkaaa.stateBoth
