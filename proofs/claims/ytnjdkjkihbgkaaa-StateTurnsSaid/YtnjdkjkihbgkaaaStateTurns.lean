/- StateTurns returns true for every input: what is merged may be, and does not hang on which one is which; with the base as one of both it is the other one, but for the registers; states that may be are the same just if their bytes are. No condition. -/
import Derived.Test.YtnjdkjkihbgkaaaStTJ3
import Derived.Test.YtnjdkjkihbgkaaaOpenSJ6
import Derived.ShutString
import Derived.ChangeOld
namespace Go.Proofs.Ytnjdkjkihbgkaaa.stateTurns
set_option maxRecDepth 100000
open Go Go.Sort Go.ChangeShapes Go.WideShapes Go.ChangeAt Go.RowKit Byt OpsM OpsW Rise RowS StM StN StW StX StY StA
open StR (sameS sameS_iff)

theorem put_B (s : St) : ∀ x ∈ putS s, B x := by
  have : putS s = (EncM.numL s.c.length ++ allC s.c) ++ ((EncM.numL s.r.length ++ allR s.r) ++ (EncM.numL s.p.length ++ allP s.p)) := by simp [putS, List.append_assoc]
  rw [this]
  exact StT.app_B (StT.C_B _) (StT.app_B (StT.R_B _) (StT.P_B _))

set_option maxRecDepth 100000 in
set_option maxHeartbeats 16000000 in
theorem out (a0 : Sv) (a1 : Sv) (a2 : Sv) (w : World) (w0 : In w a0) (g0 : OpenS.Good a0.s) (w1 : In w a1) (g1 : OpenS.Good a1.s) (w2 : In w a2) (g2 : OpenS.Good a2.s) (b0 : Bool) (b1 : Bool) (b2 : Bool) (x0 : fewS a0.s = b0) (x1 : fewS a1.s = b1) (x2 : fewS a2.s = b2) (h : (b0 = false) ∨ (b0 = true ∧ b1 = false) ∨ (b0 = true ∧ b1 = true ∧ b2 = false)) :
    Calls Try.prog 3 #[.agg (sc a0), .agg (sc a1), .agg (sc a2)] w fun e w' => e = .returned (.bool true) ∧ Below w.heap.size w w' := by
  rcases h with rfl | ⟨rfl, rfl⟩ | ⟨rfl, rfl, rfl⟩
  all_goals
    have B0 : Cel.Box SE (w.alloc (.cells (sc a0) 26)) (w.heap.size) a0 := by exact Cel.Box.new (E := SE) w a0 _
    have k0 := StW.below_alloc w (.cells (sc a0) 26)
    have w0' := w0.below k0
    clear w0
    have w0 := w0'
    clear w0'
    have w1' := w1.below k0
    clear w1
    have w1 := w1'
    clear w1'
    have w2' := w2.below k0
    clear w2
    have w2 := w2'
    clear w2'
    have kb := k0
    clear k0
    have z1 : (w.alloc (.cells (sc a0) 26)).heap.size = w.heap.size + 1 := by simp
    have B1 : Cel.Box SE ((w.alloc (.cells (sc a0) 26)).alloc (.cells (sc a1) 26)) (w.heap.size + 1) a1 := by rw [← z1]; exact Cel.Box.new (E := SE) (w.alloc (.cells (sc a0) 26)) a1 _
    have k1 := StW.below_alloc (w.alloc (.cells (sc a0) 26)) (.cells (sc a1) 26)
    have w0' := w0.below k1
    clear w0
    have w0 := w0'
    clear w0'
    have w1' := w1.below k1
    clear w1
    have w1 := w1'
    clear w1'
    have w2' := w2.below k1
    clear w2
    have w2 := w2'
    clear w2'
    have B0' := B0.below k1
    clear B0
    have B0 := B0'
    clear B0'
    have kb' := kb.trans (k1.mono kb.size)
    clear kb k1
    have kb := kb'
    clear kb'
    have z2 : ((w.alloc (.cells (sc a0) 26)).alloc (.cells (sc a1) 26)).heap.size = w.heap.size + 2 := by simp
    have B2 : Cel.Box SE (((w.alloc (.cells (sc a0) 26)).alloc (.cells (sc a1) 26)).alloc (.cells (sc a2) 26)) (w.heap.size + 2) a2 := by rw [← z2]; exact Cel.Box.new (E := SE) ((w.alloc (.cells (sc a0) 26)).alloc (.cells (sc a1) 26)) a2 _
    have k2 := StW.below_alloc ((w.alloc (.cells (sc a0) 26)).alloc (.cells (sc a1) 26)) (.cells (sc a2) 26)
    have w0' := w0.below k2
    clear w0
    have w0 := w0'
    clear w0'
    have w1' := w1.below k2
    clear w1
    have w1 := w1'
    clear w1'
    have w2' := w2.below k2
    clear w2
    have w2 := w2'
    clear w2'
    have B0' := B0.below k2
    clear B0
    have B0 := B0'
    clear B0'
    have B1' := B1.below k2
    clear B1
    have B1 := B1'
    clear B1'
    have kb' := kb.trans (k2.mono kb.size)
    clear kb k2
    have kb := kb'
    clear kb'
    go_enter Try.func3, Try.ntmps3
    go_wp2_with fail
    refine (awake _).mono ?_
    rintro e W1 ⟨rfl, k1⟩
    have hb : w.heap.size + 3 ≤ W1.heap.size := Nat.le_trans (by first | (simp; done) | (simp; omega)) k1.size
    clear z1 z2
    have w0' := w0.below k1
    clear w0
    have w0 := w0'
    clear w0'
    have w1' := w1.below k1
    clear w1
    have w1 := w1'
    clear w1'
    have w2' := w2.below k1
    clear w2
    have w2 := w2'
    clear w2'
    have B0' := B0.below k1
    clear B0
    have B0 := B0'
    clear B0'
    have B1' := B1.below k1
    clear B1
    have B1 := B1'
    clear B1'
    have B2' := B2.below k1
    clear B2
    have B2 := B2'
    clear B2'
    have kb' := kb.trans (k1.mono kb.size)
    clear kb k1
    have kb := kb'
    clear kb'
    go_wp2_with (first | go_skip | (refine CelG.gload SE _ rfl _ rfl a0 B0 rfl ?_) | (refine CelG.gload SE _ rfl _ rfl a1 B1 rfl ?_) | (refine CelG.gload SE _ rfl _ rfl a2 B2 rfl ?_))
    have hc := few_ret a0 _ w0 g0
    rw [x0] at hc
    refine hc.mono ?_
    clear hc
    rintro e W2 ⟨rfl, k2⟩
    have w0' := w0.below k2
    clear w0
    have w0 := w0'
    clear w0'
    have w1' := w1.below k2
    clear w1
    have w1 := w1'
    clear w1'
    have w2' := w2.below k2
    clear w2
    have w2 := w2'
    clear w2'
    have B0' := B0.below k2
    clear B0
    have B0 := B0'
    clear B0'
    have B1' := B1.below k2
    clear B1
    have B1 := B1'
    clear B1'
    have B2' := B2.below k2
    clear B2
    have B2 := B2'
    clear B2'
    have kb' := kb.trans (k2.mono kb.size)
    clear kb k2
    have kb := kb'
    clear kb'
    go_wp2_with (first | go_skip | (refine CelG.gload SE _ rfl _ rfl a0 B0 rfl ?_) | (refine CelG.gload SE _ rfl _ rfl a1 B1 rfl ?_) | (refine CelG.gload SE _ rfl _ rfl a2 B2 rfl ?_))
    have hc := few_ret a1 _ w1 g1
    rw [x1] at hc
    refine hc.mono ?_
    clear hc
    rintro e W3 ⟨rfl, k3⟩
    have w0' := w0.below k3
    clear w0
    have w0 := w0'
    clear w0'
    have w1' := w1.below k3
    clear w1
    have w1 := w1'
    clear w1'
    have w2' := w2.below k3
    clear w2
    have w2 := w2'
    clear w2'
    have B0' := B0.below k3
    clear B0
    have B0 := B0'
    clear B0'
    have B1' := B1.below k3
    clear B1
    have B1 := B1'
    clear B1'
    have B2' := B2.below k3
    clear B2
    have B2 := B2'
    clear B2'
    have kb' := kb.trans (k3.mono kb.size)
    clear kb k3
    have kb := kb'
    clear kb'
    go_wp2_with (first | go_skip | (refine CelG.gload SE _ rfl _ rfl a0 B0 rfl ?_) | (refine CelG.gload SE _ rfl _ rfl a1 B1 rfl ?_) | (refine CelG.gload SE _ rfl _ rfl a2 B2 rfl ?_))
    have hc := few_ret a2 _ w2 g2
    rw [x2] at hc
    refine hc.mono ?_
    clear hc
    rintro e W4 ⟨rfl, k4⟩
    have w0' := w0.below k4
    clear w0
    have w0 := w0'
    clear w0'
    have w1' := w1.below k4
    clear w1
    have w1 := w1'
    clear w1'
    have w2' := w2.below k4
    clear w2
    have w2 := w2'
    clear w2'
    have B0' := B0.below k4
    clear B0
    have B0 := B0'
    clear B0'
    have B1' := B1.below k4
    clear B1
    have B1 := B1'
    clear B1'
    have B2' := B2.below k4
    clear B2
    have B2 := B2'
    clear B2'
    have kb' := kb.trans (k4.mono kb.size)
    clear kb k4
    have kb := kb'
    clear kb'
    go_wp2_with (first | go_skip | (refine CelG.gload SE _ rfl _ rfl a0 B0 rfl ?_) | (refine CelG.gload SE _ rfl _ rfl a1 B1 rfl ?_) | (refine CelG.gload SE _ rfl _ rfl a2 B2 rfl ?_))
    go_ret
    exact ⟨by first | rfl | simp, kb⟩

set_option maxRecDepth 100000 in
set_option maxHeartbeats 16000000 in
theorem outm0 (a0 : Sv) (a1 : Sv) (a2 : Sv) (w : World) (w0 : In w a0) (g0 : OpenS.Good a0.s) (w1 : In w a1) (g1 : OpenS.Good a1.s) (w2 : In w a2) (g2 : OpenS.Good a2.s) (x0 : fewS a0.s = true) (x1 : fewS a1.s = true) (x2 : fewS a2.s = true) (m0 : mayS a0.s = false) :
    Calls Try.prog 3 #[.agg (sc a0), .agg (sc a1), .agg (sc a2)] w fun e w' => e = .returned (.bool true) ∧ Below w.heap.size w w' := by
  have y0 := (few_len x0).le (show 30 ≤ 1000 by omega)
  have f0 := fits x0 g0
  have X0 := aside x0
  have y1 := (few_len x1).le (show 30 ≤ 1000 by omega)
  have f1 := fits x1 g1
  have X1 := aside x1
  have y2 := (few_len x2).le (show 30 ≤ 1000 by omega)
  have f2 := fits x2 g2
  have X2 := aside x2
  have M0 := aside m0
  clear x0 x1 x2 m0
  have B0 : Cel.Box SE (w.alloc (.cells (sc a0) 26)) (w.heap.size) a0 := by exact Cel.Box.new (E := SE) w a0 _
  have k0 := StW.below_alloc w (.cells (sc a0) 26)
  have w0' := w0.below k0
  clear w0
  have w0 := w0'
  clear w0'
  have w1' := w1.below k0
  clear w1
  have w1 := w1'
  clear w1'
  have w2' := w2.below k0
  clear w2
  have w2 := w2'
  clear w2'
  have kb := k0
  clear k0
  have z1 : (w.alloc (.cells (sc a0) 26)).heap.size = w.heap.size + 1 := by simp
  have B1 : Cel.Box SE ((w.alloc (.cells (sc a0) 26)).alloc (.cells (sc a1) 26)) (w.heap.size + 1) a1 := by rw [← z1]; exact Cel.Box.new (E := SE) (w.alloc (.cells (sc a0) 26)) a1 _
  have k1 := StW.below_alloc (w.alloc (.cells (sc a0) 26)) (.cells (sc a1) 26)
  have w0' := w0.below k1
  clear w0
  have w0 := w0'
  clear w0'
  have w1' := w1.below k1
  clear w1
  have w1 := w1'
  clear w1'
  have w2' := w2.below k1
  clear w2
  have w2 := w2'
  clear w2'
  have B0' := B0.below k1
  clear B0
  have B0 := B0'
  clear B0'
  have kb' := kb.trans (k1.mono kb.size)
  clear kb k1
  have kb := kb'
  clear kb'
  have z2 : ((w.alloc (.cells (sc a0) 26)).alloc (.cells (sc a1) 26)).heap.size = w.heap.size + 2 := by simp
  have B2 : Cel.Box SE (((w.alloc (.cells (sc a0) 26)).alloc (.cells (sc a1) 26)).alloc (.cells (sc a2) 26)) (w.heap.size + 2) a2 := by rw [← z2]; exact Cel.Box.new (E := SE) ((w.alloc (.cells (sc a0) 26)).alloc (.cells (sc a1) 26)) a2 _
  have k2 := StW.below_alloc ((w.alloc (.cells (sc a0) 26)).alloc (.cells (sc a1) 26)) (.cells (sc a2) 26)
  have w0' := w0.below k2
  clear w0
  have w0 := w0'
  clear w0'
  have w1' := w1.below k2
  clear w1
  have w1 := w1'
  clear w1'
  have w2' := w2.below k2
  clear w2
  have w2 := w2'
  clear w2'
  have B0' := B0.below k2
  clear B0
  have B0 := B0'
  clear B0'
  have B1' := B1.below k2
  clear B1
  have B1 := B1'
  clear B1'
  have kb' := kb.trans (k2.mono kb.size)
  clear kb k2
  have kb := kb'
  clear kb'
  go_enter Try.func3, Try.ntmps3
  go_wp2_with fail
  refine (awake _).mono ?_
  rintro e W1 ⟨rfl, k1⟩
  have hb : w.heap.size + 3 ≤ W1.heap.size := Nat.le_trans (by first | (simp; done) | (simp; omega)) k1.size
  clear z1 z2
  have w0' := w0.below k1
  clear w0
  have w0 := w0'
  clear w0'
  have w1' := w1.below k1
  clear w1
  have w1 := w1'
  clear w1'
  have w2' := w2.below k1
  clear w2
  have w2 := w2'
  clear w2'
  have B0' := B0.below k1
  clear B0
  have B0 := B0'
  clear B0'
  have B1' := B1.below k1
  clear B1
  have B1 := B1'
  clear B1'
  have B2' := B2.below k1
  clear B2
  have B2 := B2'
  clear B2'
  have kb' := kb.trans (k1.mono kb.size)
  clear kb k1
  have kb := kb'
  clear kb'
  go_wp2_with (first | go_skip | (refine CelG.gload SE _ rfl _ rfl a0 B0 rfl ?_) | (refine CelG.gload SE _ rfl _ rfl a1 B1 rfl ?_) | (refine CelG.gload SE _ rfl _ rfl a2 B2 rfl ?_))
  have hc := few_ret a0 _ w0 g0
  rw [X0.out] at hc
  refine hc.mono ?_
  clear hc
  rintro e W2 ⟨rfl, k2⟩
  have w0' := w0.below k2
  clear w0
  have w0 := w0'
  clear w0'
  have w1' := w1.below k2
  clear w1
  have w1 := w1'
  clear w1'
  have w2' := w2.below k2
  clear w2
  have w2 := w2'
  clear w2'
  have B0' := B0.below k2
  clear B0
  have B0 := B0'
  clear B0'
  have B1' := B1.below k2
  clear B1
  have B1 := B1'
  clear B1'
  have B2' := B2.below k2
  clear B2
  have B2 := B2'
  clear B2'
  have kb' := kb.trans (k2.mono kb.size)
  clear kb k2
  have kb := kb'
  clear kb'
  go_wp2_with (first | go_skip | (refine CelG.gload SE _ rfl _ rfl a0 B0 rfl ?_) | (refine CelG.gload SE _ rfl _ rfl a1 B1 rfl ?_) | (refine CelG.gload SE _ rfl _ rfl a2 B2 rfl ?_))
  have hc := few_ret a1 _ w1 g1
  rw [X1.out] at hc
  refine hc.mono ?_
  clear hc
  rintro e W3 ⟨rfl, k3⟩
  have w0' := w0.below k3
  clear w0
  have w0 := w0'
  clear w0'
  have w1' := w1.below k3
  clear w1
  have w1 := w1'
  clear w1'
  have w2' := w2.below k3
  clear w2
  have w2 := w2'
  clear w2'
  have B0' := B0.below k3
  clear B0
  have B0 := B0'
  clear B0'
  have B1' := B1.below k3
  clear B1
  have B1 := B1'
  clear B1'
  have B2' := B2.below k3
  clear B2
  have B2 := B2'
  clear B2'
  have kb' := kb.trans (k3.mono kb.size)
  clear kb k3
  have kb := kb'
  clear kb'
  go_wp2_with (first | go_skip | (refine CelG.gload SE _ rfl _ rfl a0 B0 rfl ?_) | (refine CelG.gload SE _ rfl _ rfl a1 B1 rfl ?_) | (refine CelG.gload SE _ rfl _ rfl a2 B2 rfl ?_))
  have hc := few_ret a2 _ w2 g2
  rw [X2.out] at hc
  refine hc.mono ?_
  clear hc
  rintro e W4 ⟨rfl, k4⟩
  have w0' := w0.below k4
  clear w0
  have w0 := w0'
  clear w0'
  have w1' := w1.below k4
  clear w1
  have w1 := w1'
  clear w1'
  have w2' := w2.below k4
  clear w2
  have w2 := w2'
  clear w2'
  have B0' := B0.below k4
  clear B0
  have B0 := B0'
  clear B0'
  have B1' := B1.below k4
  clear B1
  have B1 := B1'
  clear B1'
  have B2' := B2.below k4
  clear B2
  have B2 := B2'
  clear B2'
  have kb' := kb.trans (k4.mono kb.size)
  clear kb k4
  have kb := kb'
  clear kb'
  go_wp2_with (first | go_skip | (refine CelG.gload SE _ rfl _ rfl a0 B0 rfl ?_) | (refine CelG.gload SE _ rfl _ rfl a1 B1 rfl ?_) | (refine CelG.gload SE _ rfl _ rfl a2 B2 rfl ?_))
  have hc := StE.may_ret a0 _ w0 f0 y0
  rw [M0.out] at hc
  refine hc.mono ?_
  clear hc
  rintro e W5 ⟨rfl, k5⟩
  have w0' := w0.below k5
  clear w0
  have w0 := w0'
  clear w0'
  have w1' := w1.below k5
  clear w1
  have w1 := w1'
  clear w1'
  have w2' := w2.below k5
  clear w2
  have w2 := w2'
  clear w2'
  have B0' := B0.below k5
  clear B0
  have B0 := B0'
  clear B0'
  have B1' := B1.below k5
  clear B1
  have B1 := B1'
  clear B1'
  have B2' := B2.below k5
  clear B2
  have B2 := B2'
  clear B2'
  have kb' := kb.trans (k5.mono kb.size)
  clear kb k5
  have kb := kb'
  clear kb'
  go_wp2_with (first | go_skip | (refine CelG.gload SE _ rfl _ rfl a0 B0 rfl ?_) | (refine CelG.gload SE _ rfl _ rfl a1 B1 rfl ?_) | (refine CelG.gload SE _ rfl _ rfl a2 B2 rfl ?_))
  go_ret
  exact ⟨by first | rfl | simp, kb⟩

set_option maxRecDepth 100000 in
set_option maxHeartbeats 16000000 in
theorem outm1 (a0 : Sv) (a1 : Sv) (a2 : Sv) (w : World) (w0 : In w a0) (g0 : OpenS.Good a0.s) (w1 : In w a1) (g1 : OpenS.Good a1.s) (w2 : In w a2) (g2 : OpenS.Good a2.s) (x0 : fewS a0.s = true) (x1 : fewS a1.s = true) (x2 : fewS a2.s = true) (m0 : mayS a0.s = true) (m1 : mayS a1.s = false) :
    Calls Try.prog 3 #[.agg (sc a0), .agg (sc a1), .agg (sc a2)] w fun e w' => e = .returned (.bool true) ∧ Below w.heap.size w w' := by
  have y0 := (few_len x0).le (show 30 ≤ 1000 by omega)
  have f0 := fits x0 g0
  have X0 := aside x0
  have y1 := (few_len x1).le (show 30 ≤ 1000 by omega)
  have f1 := fits x1 g1
  have X1 := aside x1
  have y2 := (few_len x2).le (show 30 ≤ 1000 by omega)
  have f2 := fits x2 g2
  have X2 := aside x2
  have M0 := aside m0
  have M1 := aside m1
  clear x0 x1 x2 m0 m1
  have B0 : Cel.Box SE (w.alloc (.cells (sc a0) 26)) (w.heap.size) a0 := by exact Cel.Box.new (E := SE) w a0 _
  have k0 := StW.below_alloc w (.cells (sc a0) 26)
  have w0' := w0.below k0
  clear w0
  have w0 := w0'
  clear w0'
  have w1' := w1.below k0
  clear w1
  have w1 := w1'
  clear w1'
  have w2' := w2.below k0
  clear w2
  have w2 := w2'
  clear w2'
  have kb := k0
  clear k0
  have z1 : (w.alloc (.cells (sc a0) 26)).heap.size = w.heap.size + 1 := by simp
  have B1 : Cel.Box SE ((w.alloc (.cells (sc a0) 26)).alloc (.cells (sc a1) 26)) (w.heap.size + 1) a1 := by rw [← z1]; exact Cel.Box.new (E := SE) (w.alloc (.cells (sc a0) 26)) a1 _
  have k1 := StW.below_alloc (w.alloc (.cells (sc a0) 26)) (.cells (sc a1) 26)
  have w0' := w0.below k1
  clear w0
  have w0 := w0'
  clear w0'
  have w1' := w1.below k1
  clear w1
  have w1 := w1'
  clear w1'
  have w2' := w2.below k1
  clear w2
  have w2 := w2'
  clear w2'
  have B0' := B0.below k1
  clear B0
  have B0 := B0'
  clear B0'
  have kb' := kb.trans (k1.mono kb.size)
  clear kb k1
  have kb := kb'
  clear kb'
  have z2 : ((w.alloc (.cells (sc a0) 26)).alloc (.cells (sc a1) 26)).heap.size = w.heap.size + 2 := by simp
  have B2 : Cel.Box SE (((w.alloc (.cells (sc a0) 26)).alloc (.cells (sc a1) 26)).alloc (.cells (sc a2) 26)) (w.heap.size + 2) a2 := by rw [← z2]; exact Cel.Box.new (E := SE) ((w.alloc (.cells (sc a0) 26)).alloc (.cells (sc a1) 26)) a2 _
  have k2 := StW.below_alloc ((w.alloc (.cells (sc a0) 26)).alloc (.cells (sc a1) 26)) (.cells (sc a2) 26)
  have w0' := w0.below k2
  clear w0
  have w0 := w0'
  clear w0'
  have w1' := w1.below k2
  clear w1
  have w1 := w1'
  clear w1'
  have w2' := w2.below k2
  clear w2
  have w2 := w2'
  clear w2'
  have B0' := B0.below k2
  clear B0
  have B0 := B0'
  clear B0'
  have B1' := B1.below k2
  clear B1
  have B1 := B1'
  clear B1'
  have kb' := kb.trans (k2.mono kb.size)
  clear kb k2
  have kb := kb'
  clear kb'
  go_enter Try.func3, Try.ntmps3
  go_wp2_with fail
  refine (awake _).mono ?_
  rintro e W1 ⟨rfl, k1⟩
  have hb : w.heap.size + 3 ≤ W1.heap.size := Nat.le_trans (by first | (simp; done) | (simp; omega)) k1.size
  clear z1 z2
  have w0' := w0.below k1
  clear w0
  have w0 := w0'
  clear w0'
  have w1' := w1.below k1
  clear w1
  have w1 := w1'
  clear w1'
  have w2' := w2.below k1
  clear w2
  have w2 := w2'
  clear w2'
  have B0' := B0.below k1
  clear B0
  have B0 := B0'
  clear B0'
  have B1' := B1.below k1
  clear B1
  have B1 := B1'
  clear B1'
  have B2' := B2.below k1
  clear B2
  have B2 := B2'
  clear B2'
  have kb' := kb.trans (k1.mono kb.size)
  clear kb k1
  have kb := kb'
  clear kb'
  go_wp2_with (first | go_skip | (refine CelG.gload SE _ rfl _ rfl a0 B0 rfl ?_) | (refine CelG.gload SE _ rfl _ rfl a1 B1 rfl ?_) | (refine CelG.gload SE _ rfl _ rfl a2 B2 rfl ?_))
  have hc := few_ret a0 _ w0 g0
  rw [X0.out] at hc
  refine hc.mono ?_
  clear hc
  rintro e W2 ⟨rfl, k2⟩
  have w0' := w0.below k2
  clear w0
  have w0 := w0'
  clear w0'
  have w1' := w1.below k2
  clear w1
  have w1 := w1'
  clear w1'
  have w2' := w2.below k2
  clear w2
  have w2 := w2'
  clear w2'
  have B0' := B0.below k2
  clear B0
  have B0 := B0'
  clear B0'
  have B1' := B1.below k2
  clear B1
  have B1 := B1'
  clear B1'
  have B2' := B2.below k2
  clear B2
  have B2 := B2'
  clear B2'
  have kb' := kb.trans (k2.mono kb.size)
  clear kb k2
  have kb := kb'
  clear kb'
  go_wp2_with (first | go_skip | (refine CelG.gload SE _ rfl _ rfl a0 B0 rfl ?_) | (refine CelG.gload SE _ rfl _ rfl a1 B1 rfl ?_) | (refine CelG.gload SE _ rfl _ rfl a2 B2 rfl ?_))
  have hc := few_ret a1 _ w1 g1
  rw [X1.out] at hc
  refine hc.mono ?_
  clear hc
  rintro e W3 ⟨rfl, k3⟩
  have w0' := w0.below k3
  clear w0
  have w0 := w0'
  clear w0'
  have w1' := w1.below k3
  clear w1
  have w1 := w1'
  clear w1'
  have w2' := w2.below k3
  clear w2
  have w2 := w2'
  clear w2'
  have B0' := B0.below k3
  clear B0
  have B0 := B0'
  clear B0'
  have B1' := B1.below k3
  clear B1
  have B1 := B1'
  clear B1'
  have B2' := B2.below k3
  clear B2
  have B2 := B2'
  clear B2'
  have kb' := kb.trans (k3.mono kb.size)
  clear kb k3
  have kb := kb'
  clear kb'
  go_wp2_with (first | go_skip | (refine CelG.gload SE _ rfl _ rfl a0 B0 rfl ?_) | (refine CelG.gload SE _ rfl _ rfl a1 B1 rfl ?_) | (refine CelG.gload SE _ rfl _ rfl a2 B2 rfl ?_))
  have hc := few_ret a2 _ w2 g2
  rw [X2.out] at hc
  refine hc.mono ?_
  clear hc
  rintro e W4 ⟨rfl, k4⟩
  have w0' := w0.below k4
  clear w0
  have w0 := w0'
  clear w0'
  have w1' := w1.below k4
  clear w1
  have w1 := w1'
  clear w1'
  have w2' := w2.below k4
  clear w2
  have w2 := w2'
  clear w2'
  have B0' := B0.below k4
  clear B0
  have B0 := B0'
  clear B0'
  have B1' := B1.below k4
  clear B1
  have B1 := B1'
  clear B1'
  have B2' := B2.below k4
  clear B2
  have B2 := B2'
  clear B2'
  have kb' := kb.trans (k4.mono kb.size)
  clear kb k4
  have kb := kb'
  clear kb'
  go_wp2_with (first | go_skip | (refine CelG.gload SE _ rfl _ rfl a0 B0 rfl ?_) | (refine CelG.gload SE _ rfl _ rfl a1 B1 rfl ?_) | (refine CelG.gload SE _ rfl _ rfl a2 B2 rfl ?_))
  have hc := StE.may_ret a0 _ w0 f0 y0
  rw [M0.out] at hc
  refine hc.mono ?_
  clear hc
  rintro e W5 ⟨rfl, k5⟩
  have w0' := w0.below k5
  clear w0
  have w0 := w0'
  clear w0'
  have w1' := w1.below k5
  clear w1
  have w1 := w1'
  clear w1'
  have w2' := w2.below k5
  clear w2
  have w2 := w2'
  clear w2'
  have B0' := B0.below k5
  clear B0
  have B0 := B0'
  clear B0'
  have B1' := B1.below k5
  clear B1
  have B1 := B1'
  clear B1'
  have B2' := B2.below k5
  clear B2
  have B2 := B2'
  clear B2'
  have kb' := kb.trans (k5.mono kb.size)
  clear kb k5
  have kb := kb'
  clear kb'
  go_wp2_with (first | go_skip | (refine CelG.gload SE _ rfl _ rfl a0 B0 rfl ?_) | (refine CelG.gload SE _ rfl _ rfl a1 B1 rfl ?_) | (refine CelG.gload SE _ rfl _ rfl a2 B2 rfl ?_))
  have hc := StE.may_ret a1 _ w1 f1 y1
  rw [M1.out] at hc
  refine hc.mono ?_
  clear hc
  rintro e W6 ⟨rfl, k6⟩
  have w0' := w0.below k6
  clear w0
  have w0 := w0'
  clear w0'
  have w1' := w1.below k6
  clear w1
  have w1 := w1'
  clear w1'
  have w2' := w2.below k6
  clear w2
  have w2 := w2'
  clear w2'
  have B0' := B0.below k6
  clear B0
  have B0 := B0'
  clear B0'
  have B1' := B1.below k6
  clear B1
  have B1 := B1'
  clear B1'
  have B2' := B2.below k6
  clear B2
  have B2 := B2'
  clear B2'
  have kb' := kb.trans (k6.mono kb.size)
  clear kb k6
  have kb := kb'
  clear kb'
  go_wp2_with (first | go_skip | (refine CelG.gload SE _ rfl _ rfl a0 B0 rfl ?_) | (refine CelG.gload SE _ rfl _ rfl a1 B1 rfl ?_) | (refine CelG.gload SE _ rfl _ rfl a2 B2 rfl ?_))
  go_ret
  exact ⟨by first | rfl | simp, kb⟩

set_option maxRecDepth 100000 in
set_option maxHeartbeats 16000000 in
theorem outm2 (a0 : Sv) (a1 : Sv) (a2 : Sv) (w : World) (w0 : In w a0) (g0 : OpenS.Good a0.s) (w1 : In w a1) (g1 : OpenS.Good a1.s) (w2 : In w a2) (g2 : OpenS.Good a2.s) (x0 : fewS a0.s = true) (x1 : fewS a1.s = true) (x2 : fewS a2.s = true) (m0 : mayS a0.s = true) (m1 : mayS a1.s = true) (m2 : mayS a2.s = false) :
    Calls Try.prog 3 #[.agg (sc a0), .agg (sc a1), .agg (sc a2)] w fun e w' => e = .returned (.bool true) ∧ Below w.heap.size w w' := by
  have y0 := (few_len x0).le (show 30 ≤ 1000 by omega)
  have f0 := fits x0 g0
  have X0 := aside x0
  have y1 := (few_len x1).le (show 30 ≤ 1000 by omega)
  have f1 := fits x1 g1
  have X1 := aside x1
  have y2 := (few_len x2).le (show 30 ≤ 1000 by omega)
  have f2 := fits x2 g2
  have X2 := aside x2
  have M0 := aside m0
  have M1 := aside m1
  have M2 := aside m2
  clear x0 x1 x2 m0 m1 m2
  have B0 : Cel.Box SE (w.alloc (.cells (sc a0) 26)) (w.heap.size) a0 := by exact Cel.Box.new (E := SE) w a0 _
  have k0 := StW.below_alloc w (.cells (sc a0) 26)
  have w0' := w0.below k0
  clear w0
  have w0 := w0'
  clear w0'
  have w1' := w1.below k0
  clear w1
  have w1 := w1'
  clear w1'
  have w2' := w2.below k0
  clear w2
  have w2 := w2'
  clear w2'
  have kb := k0
  clear k0
  have z1 : (w.alloc (.cells (sc a0) 26)).heap.size = w.heap.size + 1 := by simp
  have B1 : Cel.Box SE ((w.alloc (.cells (sc a0) 26)).alloc (.cells (sc a1) 26)) (w.heap.size + 1) a1 := by rw [← z1]; exact Cel.Box.new (E := SE) (w.alloc (.cells (sc a0) 26)) a1 _
  have k1 := StW.below_alloc (w.alloc (.cells (sc a0) 26)) (.cells (sc a1) 26)
  have w0' := w0.below k1
  clear w0
  have w0 := w0'
  clear w0'
  have w1' := w1.below k1
  clear w1
  have w1 := w1'
  clear w1'
  have w2' := w2.below k1
  clear w2
  have w2 := w2'
  clear w2'
  have B0' := B0.below k1
  clear B0
  have B0 := B0'
  clear B0'
  have kb' := kb.trans (k1.mono kb.size)
  clear kb k1
  have kb := kb'
  clear kb'
  have z2 : ((w.alloc (.cells (sc a0) 26)).alloc (.cells (sc a1) 26)).heap.size = w.heap.size + 2 := by simp
  have B2 : Cel.Box SE (((w.alloc (.cells (sc a0) 26)).alloc (.cells (sc a1) 26)).alloc (.cells (sc a2) 26)) (w.heap.size + 2) a2 := by rw [← z2]; exact Cel.Box.new (E := SE) ((w.alloc (.cells (sc a0) 26)).alloc (.cells (sc a1) 26)) a2 _
  have k2 := StW.below_alloc ((w.alloc (.cells (sc a0) 26)).alloc (.cells (sc a1) 26)) (.cells (sc a2) 26)
  have w0' := w0.below k2
  clear w0
  have w0 := w0'
  clear w0'
  have w1' := w1.below k2
  clear w1
  have w1 := w1'
  clear w1'
  have w2' := w2.below k2
  clear w2
  have w2 := w2'
  clear w2'
  have B0' := B0.below k2
  clear B0
  have B0 := B0'
  clear B0'
  have B1' := B1.below k2
  clear B1
  have B1 := B1'
  clear B1'
  have kb' := kb.trans (k2.mono kb.size)
  clear kb k2
  have kb := kb'
  clear kb'
  go_enter Try.func3, Try.ntmps3
  go_wp2_with fail
  refine (awake _).mono ?_
  rintro e W1 ⟨rfl, k1⟩
  have hb : w.heap.size + 3 ≤ W1.heap.size := Nat.le_trans (by first | (simp; done) | (simp; omega)) k1.size
  clear z1 z2
  have w0' := w0.below k1
  clear w0
  have w0 := w0'
  clear w0'
  have w1' := w1.below k1
  clear w1
  have w1 := w1'
  clear w1'
  have w2' := w2.below k1
  clear w2
  have w2 := w2'
  clear w2'
  have B0' := B0.below k1
  clear B0
  have B0 := B0'
  clear B0'
  have B1' := B1.below k1
  clear B1
  have B1 := B1'
  clear B1'
  have B2' := B2.below k1
  clear B2
  have B2 := B2'
  clear B2'
  have kb' := kb.trans (k1.mono kb.size)
  clear kb k1
  have kb := kb'
  clear kb'
  go_wp2_with (first | go_skip | (refine CelG.gload SE _ rfl _ rfl a0 B0 rfl ?_) | (refine CelG.gload SE _ rfl _ rfl a1 B1 rfl ?_) | (refine CelG.gload SE _ rfl _ rfl a2 B2 rfl ?_))
  have hc := few_ret a0 _ w0 g0
  rw [X0.out] at hc
  refine hc.mono ?_
  clear hc
  rintro e W2 ⟨rfl, k2⟩
  have w0' := w0.below k2
  clear w0
  have w0 := w0'
  clear w0'
  have w1' := w1.below k2
  clear w1
  have w1 := w1'
  clear w1'
  have w2' := w2.below k2
  clear w2
  have w2 := w2'
  clear w2'
  have B0' := B0.below k2
  clear B0
  have B0 := B0'
  clear B0'
  have B1' := B1.below k2
  clear B1
  have B1 := B1'
  clear B1'
  have B2' := B2.below k2
  clear B2
  have B2 := B2'
  clear B2'
  have kb' := kb.trans (k2.mono kb.size)
  clear kb k2
  have kb := kb'
  clear kb'
  go_wp2_with (first | go_skip | (refine CelG.gload SE _ rfl _ rfl a0 B0 rfl ?_) | (refine CelG.gload SE _ rfl _ rfl a1 B1 rfl ?_) | (refine CelG.gload SE _ rfl _ rfl a2 B2 rfl ?_))
  have hc := few_ret a1 _ w1 g1
  rw [X1.out] at hc
  refine hc.mono ?_
  clear hc
  rintro e W3 ⟨rfl, k3⟩
  have w0' := w0.below k3
  clear w0
  have w0 := w0'
  clear w0'
  have w1' := w1.below k3
  clear w1
  have w1 := w1'
  clear w1'
  have w2' := w2.below k3
  clear w2
  have w2 := w2'
  clear w2'
  have B0' := B0.below k3
  clear B0
  have B0 := B0'
  clear B0'
  have B1' := B1.below k3
  clear B1
  have B1 := B1'
  clear B1'
  have B2' := B2.below k3
  clear B2
  have B2 := B2'
  clear B2'
  have kb' := kb.trans (k3.mono kb.size)
  clear kb k3
  have kb := kb'
  clear kb'
  go_wp2_with (first | go_skip | (refine CelG.gload SE _ rfl _ rfl a0 B0 rfl ?_) | (refine CelG.gload SE _ rfl _ rfl a1 B1 rfl ?_) | (refine CelG.gload SE _ rfl _ rfl a2 B2 rfl ?_))
  have hc := few_ret a2 _ w2 g2
  rw [X2.out] at hc
  refine hc.mono ?_
  clear hc
  rintro e W4 ⟨rfl, k4⟩
  have w0' := w0.below k4
  clear w0
  have w0 := w0'
  clear w0'
  have w1' := w1.below k4
  clear w1
  have w1 := w1'
  clear w1'
  have w2' := w2.below k4
  clear w2
  have w2 := w2'
  clear w2'
  have B0' := B0.below k4
  clear B0
  have B0 := B0'
  clear B0'
  have B1' := B1.below k4
  clear B1
  have B1 := B1'
  clear B1'
  have B2' := B2.below k4
  clear B2
  have B2 := B2'
  clear B2'
  have kb' := kb.trans (k4.mono kb.size)
  clear kb k4
  have kb := kb'
  clear kb'
  go_wp2_with (first | go_skip | (refine CelG.gload SE _ rfl _ rfl a0 B0 rfl ?_) | (refine CelG.gload SE _ rfl _ rfl a1 B1 rfl ?_) | (refine CelG.gload SE _ rfl _ rfl a2 B2 rfl ?_))
  have hc := StE.may_ret a0 _ w0 f0 y0
  rw [M0.out] at hc
  refine hc.mono ?_
  clear hc
  rintro e W5 ⟨rfl, k5⟩
  have w0' := w0.below k5
  clear w0
  have w0 := w0'
  clear w0'
  have w1' := w1.below k5
  clear w1
  have w1 := w1'
  clear w1'
  have w2' := w2.below k5
  clear w2
  have w2 := w2'
  clear w2'
  have B0' := B0.below k5
  clear B0
  have B0 := B0'
  clear B0'
  have B1' := B1.below k5
  clear B1
  have B1 := B1'
  clear B1'
  have B2' := B2.below k5
  clear B2
  have B2 := B2'
  clear B2'
  have kb' := kb.trans (k5.mono kb.size)
  clear kb k5
  have kb := kb'
  clear kb'
  go_wp2_with (first | go_skip | (refine CelG.gload SE _ rfl _ rfl a0 B0 rfl ?_) | (refine CelG.gload SE _ rfl _ rfl a1 B1 rfl ?_) | (refine CelG.gload SE _ rfl _ rfl a2 B2 rfl ?_))
  have hc := StE.may_ret a1 _ w1 f1 y1
  rw [M1.out] at hc
  refine hc.mono ?_
  clear hc
  rintro e W6 ⟨rfl, k6⟩
  have w0' := w0.below k6
  clear w0
  have w0 := w0'
  clear w0'
  have w1' := w1.below k6
  clear w1
  have w1 := w1'
  clear w1'
  have w2' := w2.below k6
  clear w2
  have w2 := w2'
  clear w2'
  have B0' := B0.below k6
  clear B0
  have B0 := B0'
  clear B0'
  have B1' := B1.below k6
  clear B1
  have B1 := B1'
  clear B1'
  have B2' := B2.below k6
  clear B2
  have B2 := B2'
  clear B2'
  have kb' := kb.trans (k6.mono kb.size)
  clear kb k6
  have kb := kb'
  clear kb'
  go_wp2_with (first | go_skip | (refine CelG.gload SE _ rfl _ rfl a0 B0 rfl ?_) | (refine CelG.gload SE _ rfl _ rfl a1 B1 rfl ?_) | (refine CelG.gload SE _ rfl _ rfl a2 B2 rfl ?_))
  have hc := StE.may_ret a2 _ w2 f2 y2
  rw [M2.out] at hc
  refine hc.mono ?_
  clear hc
  rintro e W7 ⟨rfl, k7⟩
  have w0' := w0.below k7
  clear w0
  have w0 := w0'
  clear w0'
  have w1' := w1.below k7
  clear w1
  have w1 := w1'
  clear w1'
  have w2' := w2.below k7
  clear w2
  have w2 := w2'
  clear w2'
  have B0' := B0.below k7
  clear B0
  have B0 := B0'
  clear B0'
  have B1' := B1.below k7
  clear B1
  have B1 := B1'
  clear B1'
  have B2' := B2.below k7
  clear B2
  have B2 := B2'
  clear B2'
  have kb' := kb.trans (k7.mono kb.size)
  clear kb k7
  have kb := kb'
  clear kb'
  go_wp2_with (first | go_skip | (refine CelG.gload SE _ rfl _ rfl a0 B0 rfl ?_) | (refine CelG.gload SE _ rfl _ rfl a1 B1 rfl ?_) | (refine CelG.gload SE _ rfl _ rfl a2 B2 rfl ?_))
  go_ret
  exact ⟨by first | rfl | simp, kb⟩

set_option maxRecDepth 100000 in
set_option maxHeartbeats 32000000 in
theorem within (a0 : Sv) (a1 : Sv) (a2 : Sv) (w : World) (w0 : In w a0) (g0 : OpenS.Good a0.s) (w1 : In w a1) (g1 : OpenS.Good a1.s) (w2 : In w a2) (g2 : OpenS.Good a2.s) (x0 : fewS a0.s = true) (x1 : fewS a1.s = true) (x2 : fewS a2.s = true) (m0 : mayS a0.s = true) (m1 : mayS a1.s = true) (m2 : mayS a2.s = true) :
    Calls Try.prog 3 #[.agg (sc a0), .agg (sc a1), .agg (sc a2)] w fun e w' => e = .returned (.bool true) ∧ Below w.heap.size w w' := by
  have y0 := (few_len x0).le (show 30 ≤ 1000 by omega)
  have f0 := fits x0 g0
  have X0 := aside x0
  have y1 := (few_len x1).le (show 30 ≤ 1000 by omega)
  have f1 := fits x1 g1
  have X1 := aside x1
  have y2 := (few_len x2).le (show 30 ≤ 1000 by omega)
  have f2 := fits x2 g2
  have X2 := aside x2
  have e1 := merge_some m0 m1 m2
  have e2 := merge_some m0 m2 m1
  rw [← join_turn m0 m1 m2] at e2
  have e3 := merge_some m0 m0 m2
  obtain ⟨j1, j2⟩ := join_one m0 m2 (in_of f2)
  have r1 := ((join_len (few_len x0) (few_len x1) (few_len x2))).le (show 30 + 30 + 30 ≤ 1000 by omega)
  have q1 := join_fits a0.s f1 f2
  have mj := join_may m0 m1 m2
  have h1 := short x1 g1
  have h2 := short x2 g2
  obtain ⟨X, hX⟩ : ∃ l, joinS a0.s a1.s a2.s = l := ⟨_, rfl⟩
  obtain ⟨Z, hZ⟩ : ∃ l, joinS a0.s a0.s a2.s = l := ⟨_, rfl⟩
  rw [hX] at r1 q1 e1 e2 mj
  rw [hZ] at e3 j1 j2
  obtain ⟨b, hbb⟩ : ∃ b, sameS a1.s a2.s = b := ⟨_, rfl⟩
  have hp : ((strOf (putS a1.s)).toList == (strOf (putS a2.s)).toList) = b := by
    rw [strOf_beq (put_B _) (put_B _), ← hbb]
    cases hq : sameS a1.s a2.s with
    | true => exact decide_eq_true ((put_iff h1 h2).2 (sameS_iff.1 hq))
    | false => exact decide_eq_false fun h => by rw [sameS_iff.2 ((put_iff h1 h2).1 h)] at hq; cases hq
  have hbeq : (b == b) = true := beq_self_eq_true b
  have E1 := aside e1
  have E2 := aside e2
  have E3 := aside e3
  have J1 := aside j1
  have J2 := aside j2
  have MJ := aside mj
  have HB := aside hbb
  have Q1 := aside q1
  have R1 := aside r1
  have M0 := aside m0
  have M1 := aside m1
  have M2 := aside m2
  clear x0 m0 x1 m1 x2 m2 e1 e2 e3 hX hZ j1 j2 mj hbb q1 r1
  have B0 : Cel.Box SE (w.alloc (.cells (sc a0) 26)) (w.heap.size) a0 := by exact Cel.Box.new (E := SE) w a0 _
  have k0 := StW.below_alloc w (.cells (sc a0) 26)
  have w0' := w0.below k0
  clear w0
  have w0 := w0'
  clear w0'
  have w1' := w1.below k0
  clear w1
  have w1 := w1'
  clear w1'
  have w2' := w2.below k0
  clear w2
  have w2 := w2'
  clear w2'
  have kb := k0
  clear k0
  have z1 : (w.alloc (.cells (sc a0) 26)).heap.size = w.heap.size + 1 := by simp
  have B1 : Cel.Box SE ((w.alloc (.cells (sc a0) 26)).alloc (.cells (sc a1) 26)) (w.heap.size + 1) a1 := by rw [← z1]; exact Cel.Box.new (E := SE) (w.alloc (.cells (sc a0) 26)) a1 _
  have k1 := StW.below_alloc (w.alloc (.cells (sc a0) 26)) (.cells (sc a1) 26)
  have w0' := w0.below k1
  clear w0
  have w0 := w0'
  clear w0'
  have w1' := w1.below k1
  clear w1
  have w1 := w1'
  clear w1'
  have w2' := w2.below k1
  clear w2
  have w2 := w2'
  clear w2'
  have B0' := B0.below k1
  clear B0
  have B0 := B0'
  clear B0'
  have kb' := kb.trans (k1.mono kb.size)
  clear kb k1
  have kb := kb'
  clear kb'
  have z2 : ((w.alloc (.cells (sc a0) 26)).alloc (.cells (sc a1) 26)).heap.size = w.heap.size + 2 := by simp
  have B2 : Cel.Box SE (((w.alloc (.cells (sc a0) 26)).alloc (.cells (sc a1) 26)).alloc (.cells (sc a2) 26)) (w.heap.size + 2) a2 := by rw [← z2]; exact Cel.Box.new (E := SE) ((w.alloc (.cells (sc a0) 26)).alloc (.cells (sc a1) 26)) a2 _
  have k2 := StW.below_alloc ((w.alloc (.cells (sc a0) 26)).alloc (.cells (sc a1) 26)) (.cells (sc a2) 26)
  have w0' := w0.below k2
  clear w0
  have w0 := w0'
  clear w0'
  have w1' := w1.below k2
  clear w1
  have w1 := w1'
  clear w1'
  have w2' := w2.below k2
  clear w2
  have w2 := w2'
  clear w2'
  have B0' := B0.below k2
  clear B0
  have B0 := B0'
  clear B0'
  have B1' := B1.below k2
  clear B1
  have B1 := B1'
  clear B1'
  have kb' := kb.trans (k2.mono kb.size)
  clear kb k2
  have kb := kb'
  clear kb'
  go_enter Try.func3, Try.ntmps3
  go_wp2_with fail
  refine (awake _).mono ?_
  rintro e W1 ⟨rfl, k1⟩
  have hb : w.heap.size + 3 ≤ W1.heap.size := Nat.le_trans (by first | (simp; done) | (simp; omega)) k1.size
  clear z1 z2
  have w0' := w0.below k1
  clear w0
  have w0 := w0'
  clear w0'
  have w1' := w1.below k1
  clear w1
  have w1 := w1'
  clear w1'
  have w2' := w2.below k1
  clear w2
  have w2 := w2'
  clear w2'
  have B0' := B0.below k1
  clear B0
  have B0 := B0'
  clear B0'
  have B1' := B1.below k1
  clear B1
  have B1 := B1'
  clear B1'
  have B2' := B2.below k1
  clear B2
  have B2 := B2'
  clear B2'
  have kb' := kb.trans (k1.mono kb.size)
  clear kb k1
  have kb := kb'
  clear kb'
  go_wp2_with (first | go_skip | (refine CelG.gload SE _ rfl _ rfl a0 B0 rfl ?_) | (refine CelG.gload SE _ rfl _ rfl a1 B1 rfl ?_) | (refine CelG.gload SE _ rfl _ rfl a2 B2 rfl ?_))
  have hc := few_ret a0 _ w0 g0
  rw [X0.out] at hc
  refine hc.mono ?_
  clear hc
  rintro e W2 ⟨rfl, k2⟩
  have w0' := w0.below k2
  clear w0
  have w0 := w0'
  clear w0'
  have w1' := w1.below k2
  clear w1
  have w1 := w1'
  clear w1'
  have w2' := w2.below k2
  clear w2
  have w2 := w2'
  clear w2'
  have B0' := B0.below k2
  clear B0
  have B0 := B0'
  clear B0'
  have B1' := B1.below k2
  clear B1
  have B1 := B1'
  clear B1'
  have B2' := B2.below k2
  clear B2
  have B2 := B2'
  clear B2'
  have kb' := kb.trans (k2.mono kb.size)
  clear kb k2
  have kb := kb'
  clear kb'
  go_wp2_with (first | go_skip | (refine CelG.gload SE _ rfl _ rfl a0 B0 rfl ?_) | (refine CelG.gload SE _ rfl _ rfl a1 B1 rfl ?_) | (refine CelG.gload SE _ rfl _ rfl a2 B2 rfl ?_))
  have hc := few_ret a1 _ w1 g1
  rw [X1.out] at hc
  refine hc.mono ?_
  clear hc
  rintro e W3 ⟨rfl, k3⟩
  have w0' := w0.below k3
  clear w0
  have w0 := w0'
  clear w0'
  have w1' := w1.below k3
  clear w1
  have w1 := w1'
  clear w1'
  have w2' := w2.below k3
  clear w2
  have w2 := w2'
  clear w2'
  have B0' := B0.below k3
  clear B0
  have B0 := B0'
  clear B0'
  have B1' := B1.below k3
  clear B1
  have B1 := B1'
  clear B1'
  have B2' := B2.below k3
  clear B2
  have B2 := B2'
  clear B2'
  have kb' := kb.trans (k3.mono kb.size)
  clear kb k3
  have kb := kb'
  clear kb'
  go_wp2_with (first | go_skip | (refine CelG.gload SE _ rfl _ rfl a0 B0 rfl ?_) | (refine CelG.gload SE _ rfl _ rfl a1 B1 rfl ?_) | (refine CelG.gload SE _ rfl _ rfl a2 B2 rfl ?_))
  have hc := few_ret a2 _ w2 g2
  rw [X2.out] at hc
  refine hc.mono ?_
  clear hc
  rintro e W4 ⟨rfl, k4⟩
  have w0' := w0.below k4
  clear w0
  have w0 := w0'
  clear w0'
  have w1' := w1.below k4
  clear w1
  have w1 := w1'
  clear w1'
  have w2' := w2.below k4
  clear w2
  have w2 := w2'
  clear w2'
  have B0' := B0.below k4
  clear B0
  have B0 := B0'
  clear B0'
  have B1' := B1.below k4
  clear B1
  have B1 := B1'
  clear B1'
  have B2' := B2.below k4
  clear B2
  have B2 := B2'
  clear B2'
  have kb' := kb.trans (k4.mono kb.size)
  clear kb k4
  have kb := kb'
  clear kb'
  go_wp2_with (first | go_skip | (refine CelG.gload SE _ rfl _ rfl a0 B0 rfl ?_) | (refine CelG.gload SE _ rfl _ rfl a1 B1 rfl ?_) | (refine CelG.gload SE _ rfl _ rfl a2 B2 rfl ?_))
  have hc := StE.may_ret a0 _ w0 f0 y0
  rw [M0.out] at hc
  refine hc.mono ?_
  clear hc
  rintro e W5 ⟨rfl, k5⟩
  have w0' := w0.below k5
  clear w0
  have w0 := w0'
  clear w0'
  have w1' := w1.below k5
  clear w1
  have w1 := w1'
  clear w1'
  have w2' := w2.below k5
  clear w2
  have w2 := w2'
  clear w2'
  have B0' := B0.below k5
  clear B0
  have B0 := B0'
  clear B0'
  have B1' := B1.below k5
  clear B1
  have B1 := B1'
  clear B1'
  have B2' := B2.below k5
  clear B2
  have B2 := B2'
  clear B2'
  have kb' := kb.trans (k5.mono kb.size)
  clear kb k5
  have kb := kb'
  clear kb'
  go_wp2_with (first | go_skip | (refine CelG.gload SE _ rfl _ rfl a0 B0 rfl ?_) | (refine CelG.gload SE _ rfl _ rfl a1 B1 rfl ?_) | (refine CelG.gload SE _ rfl _ rfl a2 B2 rfl ?_))
  have hc := StE.may_ret a1 _ w1 f1 y1
  rw [M1.out] at hc
  refine hc.mono ?_
  clear hc
  rintro e W6 ⟨rfl, k6⟩
  have w0' := w0.below k6
  clear w0
  have w0 := w0'
  clear w0'
  have w1' := w1.below k6
  clear w1
  have w1 := w1'
  clear w1'
  have w2' := w2.below k6
  clear w2
  have w2 := w2'
  clear w2'
  have B0' := B0.below k6
  clear B0
  have B0 := B0'
  clear B0'
  have B1' := B1.below k6
  clear B1
  have B1 := B1'
  clear B1'
  have B2' := B2.below k6
  clear B2
  have B2 := B2'
  clear B2'
  have kb' := kb.trans (k6.mono kb.size)
  clear kb k6
  have kb := kb'
  clear kb'
  go_wp2_with (first | go_skip | (refine CelG.gload SE _ rfl _ rfl a0 B0 rfl ?_) | (refine CelG.gload SE _ rfl _ rfl a1 B1 rfl ?_) | (refine CelG.gload SE _ rfl _ rfl a2 B2 rfl ?_))
  have hc := StE.may_ret a2 _ w2 f2 y2
  rw [M2.out] at hc
  refine hc.mono ?_
  clear hc
  rintro e W7 ⟨rfl, k7⟩
  have w0' := w0.below k7
  clear w0
  have w0 := w0'
  clear w0'
  have w1' := w1.below k7
  clear w1
  have w1 := w1'
  clear w1'
  have w2' := w2.below k7
  clear w2
  have w2 := w2'
  clear w2'
  have B0' := B0.below k7
  clear B0
  have B0 := B0'
  clear B0'
  have B1' := B1.below k7
  clear B1
  have B1 := B1'
  clear B1'
  have B2' := B2.below k7
  clear B2
  have B2 := B2'
  clear B2'
  have kb' := kb.trans (k7.mono kb.size)
  clear kb k7
  have kb := kb'
  clear kb'
  go_wp2_with (first | go_skip | (refine CelG.gload SE _ rfl _ rfl a0 B0 rfl ?_) | (refine CelG.gload SE _ rfl _ rfl a1 B1 rfl ?_) | (refine CelG.gload SE _ rfl _ rfl a2 B2 rfl ?_))
  have hc := StL.merge_ret a0 a1 a2 _ w0 w1 w2 f0 f1 f2 y0 y1 y2
  rw [E1.out] at hc
  refine hc.mono ?_
  clear hc
  rintro e W8 ⟨vP, rfl, hP, SP, k8⟩
  have hP : vP.s = X := hP
  have w0' := w0.below k8
  clear w0
  have w0 := w0'
  clear w0'
  have w1' := w1.below k8
  clear w1
  have w1 := w1'
  clear w1'
  have w2' := w2.below k8
  clear w2
  have w2 := w2'
  clear w2'
  have B0' := B0.below k8
  clear B0
  have B0 := B0'
  clear B0'
  have B1' := B1.below k8
  clear B1
  have B1 := B1'
  clear B1'
  have B2' := B2.below k8
  clear B2
  have B2 := B2'
  clear B2'
  have kb' := kb.trans (k8.mono kb.size)
  clear kb k8
  have kb := kb'
  clear kb'
  go_wp2_with (first | go_skip | (refine CelG.gload SE _ rfl _ rfl a0 B0 rfl ?_) | (refine CelG.gload SE _ rfl _ rfl a1 B1 rfl ?_) | (refine CelG.gload SE _ rfl _ rfl a2 B2 rfl ?_) | (refine Cel.wpList_store_new SE rfl _ _ rfl _ _ _ rfl vP _ rfl rfl rfl rfl ?_; intro W9 BP k9 g9 s9; clear g9 s9; have w0' := w0.below k9; clear w0; have w0 := w0'; clear w0'; have w1' := w1.below k9; clear w1; have w1 := w1'; clear w1'; have w2' := w2.below k9; clear w2; have w2 := w2'; clear w2'; have B0' := B0.below k9; clear B0; have B0 := B0'; clear B0'; have B1' := B1.below k9; clear B1; have B1 := B1'; clear B1'; have B2' := B2.below k9; clear B2; have B2 := B2'; clear B2'; have SP' := SP.below k9; clear SP; have SP := SP'; clear SP'; have kb' := kb.trans (k9.mono kb.size); clear kb k9; have kb := kb'; clear kb') | (refine CelG.gload SE _ rfl _ rfl vP BP rfl ?_))
  have hc := StL.merge_ret a0 a2 a1 _ w0 w2 w1 f0 f2 f1 y0 y2 y1
  rw [E2.out] at hc
  refine hc.mono ?_
  clear hc
  rintro e W10 ⟨vQ, rfl, hQ, SQ, k10⟩
  have hQ : vQ.s = X := hQ
  have w0' := w0.below k10
  clear w0
  have w0 := w0'
  clear w0'
  have w1' := w1.below k10
  clear w1
  have w1 := w1'
  clear w1'
  have w2' := w2.below k10
  clear w2
  have w2 := w2'
  clear w2'
  have B0' := B0.below k10
  clear B0
  have B0 := B0'
  clear B0'
  have B1' := B1.below k10
  clear B1
  have B1 := B1'
  clear B1'
  have B2' := B2.below k10
  clear B2
  have B2 := B2'
  clear B2'
  have SP' := SP.below k10
  clear SP
  have SP := SP'
  clear SP'
  have BP' := BP.below k10
  clear BP
  have BP := BP'
  clear BP'
  have kb' := kb.trans (k10.mono kb.size)
  clear kb k10
  have kb := kb'
  clear kb'
  go_wp2_with (first | go_skip | (refine CelG.gload SE _ rfl _ rfl a0 B0 rfl ?_) | (refine CelG.gload SE _ rfl _ rfl a1 B1 rfl ?_) | (refine CelG.gload SE _ rfl _ rfl a2 B2 rfl ?_) | (refine CelG.gload SE _ rfl _ rfl vP BP rfl ?_) | (refine Cel.wpList_store_new SE rfl _ _ rfl _ _ _ rfl vQ _ rfl rfl rfl rfl ?_; intro W11 BQ k11 g11 s11; clear g11 s11; have w0' := w0.below k11; clear w0; have w0 := w0'; clear w0'; have w1' := w1.below k11; clear w1; have w1 := w1'; clear w1'; have w2' := w2.below k11; clear w2; have w2 := w2'; clear w2'; have B0' := B0.below k11; clear B0; have B0 := B0'; clear B0'; have B1' := B1.below k11; clear B1; have B1 := B1'; clear B1'; have B2' := B2.below k11; clear B2; have B2 := B2'; clear B2'; have SP' := SP.below k11; clear SP; have SP := SP'; clear SP'; have BP' := BP.below k11; clear BP; have BP := BP'; clear BP'; have SQ' := SQ.below k11; clear SQ; have SQ := SQ'; clear SQ'; have kb' := kb.trans (k11.mono kb.size); clear kb k11; have kb := kb'; clear kb') | (refine CelG.gload SE _ rfl _ rfl vQ BQ rfl ?_))
  have hc := StL.merge_ret a0 a0 a2 _ w0 w0 w2 f0 f0 f2 y0 y0 y2
  rw [E3.out] at hc
  refine hc.mono ?_
  clear hc
  rintro e W12 ⟨vR, rfl, hR, SR, k12⟩
  have hR : vR.s = Z := hR
  have w0' := w0.below k12
  clear w0
  have w0 := w0'
  clear w0'
  have w1' := w1.below k12
  clear w1
  have w1 := w1'
  clear w1'
  have w2' := w2.below k12
  clear w2
  have w2 := w2'
  clear w2'
  have B0' := B0.below k12
  clear B0
  have B0 := B0'
  clear B0'
  have B1' := B1.below k12
  clear B1
  have B1 := B1'
  clear B1'
  have B2' := B2.below k12
  clear B2
  have B2 := B2'
  clear B2'
  have SP' := SP.below k12
  clear SP
  have SP := SP'
  clear SP'
  have BP' := BP.below k12
  clear BP
  have BP := BP'
  clear BP'
  have SQ' := SQ.below k12
  clear SQ
  have SQ := SQ'
  clear SQ'
  have BQ' := BQ.below k12
  clear BQ
  have BQ := BQ'
  clear BQ'
  have kb' := kb.trans (k12.mono kb.size)
  clear kb k12
  have kb := kb'
  clear kb'
  have ltB0 := B0.lt
  have ltB1 := B1.lt
  have ltB2 := B2.lt
  have ltBP := BP.lt
  have ltBQ := BQ.lt
  go_wp2_with (first | go_skip | (refine CelG.gload SE _ rfl _ rfl a0 B0 rfl ?_) | (refine CelG.gload SE _ rfl _ rfl a1 B1 rfl ?_) | (refine CelG.gload SE _ rfl _ rfl a2 B2 rfl ?_) | (refine CelG.gload SE _ rfl _ rfl vP BP rfl ?_) | (refine CelG.gload SE _ rfl _ rfl vQ BQ rfl ?_) | (refine Cel.wpList_store_field SE rfl rfl 23 _ _ rfl StC.info_r (W12.heap.size) 1 rfl (of_decide_eq_true rfl) vR BR (⟨vR.a0, vR.k0, a2.a1, a2.k1, vR.a2, vR.k2, ⟨vR.s.c, a2.s.r, vR.s.p⟩⟩ : Sv) _ rfl rfl rfl rfl ?_; intro U13 B' f13 g13 s13; have w0' := w0.kept BR g13; have w1' := w1.kept BR g13; have w2' := w2.kept BR g13; have SP' := SP.kept BR g13; have SQ' := SQ.kept BR g13; have SR' := SR.kept BR g13; have B0' := B0.kept g13 (fun e => by injection e; omega); have B1' := B1.kept g13 (fun e => by injection e; omega); have B2' := B2.kept g13 (fun e => by injection e; omega); have BP' := BP.kept g13 (fun e => by injection e; omega); have BQ' := BQ.kept g13 (fun e => by injection e; omega); have kb' := kb.trans (f13 _ (by omega)); clear kb BR w0 w1 w2 SP SQ SR B0 B1 B2 BP BQ; have BR := B'; have kb := kb'; clear B' kb'; have w0 := w0'; clear w0'; have w1 := w1'; clear w1'; have w2 := w2'; clear w2'; have SP := SP'; clear SP'; have SQ := SQ'; clear SQ'; have SR := SR'; clear SR'; have B0 := B0'; clear B0'; have B1 := B1'; clear B1'; have B2 := B2'; clear B2'; have BP := BP'; clear BP'; have BQ := BQ'; clear BQ'; have IN : In U13 (⟨vR.a0, vR.k0, a2.a1, a2.k1, vR.a2, vR.k2, ⟨vR.s.c, a2.s.r, vR.s.p⟩⟩ : Sv) := ⟨SR.c, w2.r, SR.p⟩; have hN : (⟨vR.a0, vR.k0, a2.a1, a2.k1, vR.a2, vR.k2, ⟨vR.s.c, a2.s.r, vR.s.p⟩⟩ : Sv).s = a2.s := St_ext (by rw [← J1.out, ← hR]) rfl (by rw [← J2.out, ← hR]); generalize (⟨vR.a0, vR.k0, a2.a1, a2.k1, vR.a2, vR.k2, ⟨vR.s.c, a2.s.r, vR.s.p⟩⟩ : Sv) = vN at BR IN hN; clear f13 g13 s13 SR bc0 bc1 bc2) | (refine CelG.gload SE _ rfl _ rfl vN BR rfl ?_) | (refine Cel.wpList_store_new SE rfl _ _ rfl _ _ _ rfl vR _ rfl rfl rfl rfl ?_; intro W14 BR k14 g14 s14; clear g14 s14; have w0' := w0.below k14; clear w0; have w0 := w0'; clear w0'; have w1' := w1.below k14; clear w1; have w1 := w1'; clear w1'; have w2' := w2.below k14; clear w2; have w2 := w2'; clear w2'; have B0' := B0.below k14; clear B0; have B0 := B0'; clear B0'; have B1' := B1.below k14; clear B1; have B1 := B1'; clear B1'; have B2' := B2.below k14; clear B2; have B2 := B2'; clear B2'; have SP' := SP.below k14; clear SP; have SP := SP'; clear SP'; have BP' := BP.below k14; clear BP; have BP := BP'; clear BP'; have SQ' := SQ.below k14; clear SQ; have SQ := SQ'; clear SQ'; have BQ' := BQ.below k14; clear BQ; have BQ := BQ'; clear BQ'; have SR' := SR.below k14; clear SR; have SR := SR'; clear SR'; have kb' := kb.trans (k14.mono kb.size); clear kb k14; have kb := kb'; clear kb'; obtain ⟨bc0, bc1, bc2⟩ := box_cells B2) | (refine CelG.gload SE _ rfl _ rfl vR BR rfl ?_))
  clear ltB0 ltB1 ltB2 ltBP ltBQ
  go_wp2_with (first | go_skip | (refine CelG.gload SE _ rfl _ rfl a0 B0 rfl ?_) | (refine CelG.gload SE _ rfl _ rfl a1 B1 rfl ?_) | (refine CelG.gload SE _ rfl _ rfl a2 B2 rfl ?_) | (refine CelG.gload SE _ rfl _ rfl vP BP rfl ?_) | (refine CelG.gload SE _ rfl _ rfl vQ BQ rfl ?_) | (refine CelG.gload SE _ rfl _ rfl vN BR rfl ?_))
  have hc := StE.may_ret vP _ SP (by rw [hP]; exact Q1.out) (by rw [hP]; exact R1.out)
  rw [hP] at hc
  rw [MJ.out] at hc
  refine hc.mono ?_
  clear hc
  rintro e W15 ⟨rfl, k15⟩
  have w0' := w0.below k15
  clear w0
  have w0 := w0'
  clear w0'
  have w1' := w1.below k15
  clear w1
  have w1 := w1'
  clear w1'
  have w2' := w2.below k15
  clear w2
  have w2 := w2'
  clear w2'
  have B0' := B0.below k15
  clear B0
  have B0 := B0'
  clear B0'
  have B1' := B1.below k15
  clear B1
  have B1 := B1'
  clear B1'
  have B2' := B2.below k15
  clear B2
  have B2 := B2'
  clear B2'
  have SP' := SP.below k15
  clear SP
  have SP := SP'
  clear SP'
  have BP' := BP.below k15
  clear BP
  have BP := BP'
  clear BP'
  have SQ' := SQ.below k15
  clear SQ
  have SQ := SQ'
  clear SQ'
  have BQ' := BQ.below k15
  clear BQ
  have BQ := BQ'
  clear BQ'
  have BR' := BR.below k15
  clear BR
  have BR := BR'
  clear BR'
  have IN' := IN.below k15
  clear IN
  have IN := IN'
  clear IN'
  have kb' := kb.trans (k15.mono kb.size)
  clear kb k15
  have kb := kb'
  clear kb'
  go_wp2_with (first | go_skip | (refine CelG.gload SE _ rfl _ rfl a0 B0 rfl ?_) | (refine CelG.gload SE _ rfl _ rfl a1 B1 rfl ?_) | (refine CelG.gload SE _ rfl _ rfl a2 B2 rfl ?_) | (refine CelG.gload SE _ rfl _ rfl vP BP rfl ?_) | (refine CelG.gload SE _ rfl _ rfl vQ BQ rfl ?_) | (refine CelG.gload SE _ rfl _ rfl vN BR rfl ?_))
  have hc := StE.same_ret vP vQ _ SP SQ
  rw [hP] at hc
  rw [hQ] at hc
  rw [sameS_iff.2 rfl] at hc
  refine hc.mono ?_
  clear hc
  rintro e W16 ⟨rfl, k16⟩
  have w0' := w0.below k16
  clear w0
  have w0 := w0'
  clear w0'
  have w1' := w1.below k16
  clear w1
  have w1 := w1'
  clear w1'
  have w2' := w2.below k16
  clear w2
  have w2 := w2'
  clear w2'
  have B0' := B0.below k16
  clear B0
  have B0 := B0'
  clear B0'
  have B1' := B1.below k16
  clear B1
  have B1 := B1'
  clear B1'
  have B2' := B2.below k16
  clear B2
  have B2 := B2'
  clear B2'
  have SP' := SP.below k16
  clear SP
  have SP := SP'
  clear SP'
  have BP' := BP.below k16
  clear BP
  have BP := BP'
  clear BP'
  have SQ' := SQ.below k16
  clear SQ
  have SQ := SQ'
  clear SQ'
  have BQ' := BQ.below k16
  clear BQ
  have BQ := BQ'
  clear BQ'
  have BR' := BR.below k16
  clear BR
  have BR := BR'
  clear BR'
  have IN' := IN.below k16
  clear IN
  have IN := IN'
  clear IN'
  have kb' := kb.trans (k16.mono kb.size)
  clear kb k16
  have kb := kb'
  clear kb'
  go_wp2_with (first | go_skip | (refine CelG.gload SE _ rfl _ rfl a0 B0 rfl ?_) | (refine CelG.gload SE _ rfl _ rfl a1 B1 rfl ?_) | (refine CelG.gload SE _ rfl _ rfl a2 B2 rfl ?_) | (refine CelG.gload SE _ rfl _ rfl vP BP rfl ?_) | (refine CelG.gload SE _ rfl _ rfl vQ BQ rfl ?_) | (refine CelG.gload SE _ rfl _ rfl vN BR rfl ?_))
  have hc := StE.same_ret vN a2 _ IN w2
  rw [hN] at hc
  rw [sameS_iff.2 rfl] at hc
  refine hc.mono ?_
  clear hc
  rintro e W17 ⟨rfl, k17⟩
  have w0' := w0.below k17
  clear w0
  have w0 := w0'
  clear w0'
  have w1' := w1.below k17
  clear w1
  have w1 := w1'
  clear w1'
  have w2' := w2.below k17
  clear w2
  have w2 := w2'
  clear w2'
  have B0' := B0.below k17
  clear B0
  have B0 := B0'
  clear B0'
  have B1' := B1.below k17
  clear B1
  have B1 := B1'
  clear B1'
  have B2' := B2.below k17
  clear B2
  have B2 := B2'
  clear B2'
  have SP' := SP.below k17
  clear SP
  have SP := SP'
  clear SP'
  have BP' := BP.below k17
  clear BP
  have BP := BP'
  clear BP'
  have SQ' := SQ.below k17
  clear SQ
  have SQ := SQ'
  clear SQ'
  have BQ' := BQ.below k17
  clear BQ
  have BQ := BQ'
  clear BQ'
  have BR' := BR.below k17
  clear BR
  have BR := BR'
  clear BR'
  have IN' := IN.below k17
  clear IN
  have IN := IN'
  clear IN'
  have kb' := kb.trans (k17.mono kb.size)
  clear kb k17
  have kb := kb'
  clear kb'
  clear BR IN SP SQ BP BQ
  go_wp2_with (first | go_skip | (refine CelG.gload SE _ rfl _ rfl a0 B0 rfl ?_) | (refine CelG.gload SE _ rfl _ rfl a1 B1 rfl ?_) | (refine CelG.gload SE _ rfl _ rfl a2 B2 rfl ?_))
  refine Grow.region [(0, true), (1, true), (3, true), (6, true), (2, false), (4, false), (5, true), (7, false), (8, true), (9, true), (10, true), (11, true)] (by kernel_rfl) (by kernel_rfl) rfl (by kernel_rfl) (by intro c a d v w h; cases d <;> exact h) ?_
  rename World => V18
  have k18 := below_drew1 (Below.refl V18.heap.size V18)
  have w0' := w0.below k18
  clear w0
  have w0 := w0'
  clear w0'
  have w1' := w1.below k18
  clear w1
  have w1 := w1'
  clear w1'
  have w2' := w2.below k18
  clear w2
  have w2 := w2'
  clear w2'
  have B0' := B0.below k18
  clear B0
  have B0 := B0'
  clear B0'
  have B1' := B1.below k18
  clear B1
  have B1 := B1'
  clear B1'
  have B2' := B2.below k18
  clear B2
  have B2 := B2'
  clear B2'
  have kb' := kb.trans (k18.mono kb.size)
  clear kb k18
  have kb := kb'
  clear kb'
  generalize V18.drew = W18 at w0 w1 w2 B0 B1 B2 kb ⊢
  repeat (first | (refine Grow.reads rfl rfl ?_; go_big_quiet_want; refine Cel.quiet_row SE _ rfl _ _ rfl a0 B0.range ?_; go_big_quiet_on; refine wpQuiet_nil ?_; simp only [Act.put, List.setIfInBounds_toArray, List.set_cons_succ, List.set_cons_zero]) | (refine Grow.reads rfl rfl ?_; go_big_quiet_want; refine Cel.quiet_row SE _ rfl _ _ rfl a1 B1.range ?_; go_big_quiet_on; refine wpQuiet_nil ?_; simp only [Act.put, List.setIfInBounds_toArray, List.set_cons_succ, List.set_cons_zero]) | (refine Grow.reads rfl rfl ?_; go_big_quiet_want; refine Cel.quiet_row SE _ rfl _ _ rfl a2 B2.range ?_; go_big_quiet_on; refine wpQuiet_nil ?_; simp only [Act.put, List.setIfInBounds_toArray, List.set_cons_succ, List.set_cons_zero]) | (refine Grow.reads rfl rfl ?_; go_big_quiet_step (fail); refine wpQuiet_nil ?_))
  refine Grow.acts rfl ?_
  go_wp2_with (first | go_skip | (refine CelG.gload SE _ rfl _ rfl a0 B0 rfl ?_) | (refine CelG.gload SE _ rfl _ rfl a1 B1 rfl ?_) | (refine CelG.gload SE _ rfl _ rfl a2 B2 rfl ?_))
  have hc := StE.same_ret a1 a2 _ w1 w2
  rw [HB.out] at hc
  refine hc.mono ?_
  clear hc
  rintro e W19 ⟨rfl, k19⟩
  go_wp2_with fail
  have kk := k19
  refine ⟨kk, ?_⟩
  clear kk
  have w0' := w0.below k19
  clear w0
  have w0 := w0'
  clear w0'
  have w1' := w1.below k19
  clear w1
  have w1 := w1'
  clear w1'
  have w2' := w2.below k19
  clear w2
  have w2 := w2'
  clear w2'
  have B0' := B0.below k19
  clear B0
  have B0 := B0'
  clear B0'
  have B1' := B1.below k19
  clear B1
  have B1 := B1'
  clear B1'
  have B2' := B2.below k19
  clear B2
  have B2 := B2'
  clear B2'
  have kb' := kb.trans (k19.mono kb.size)
  clear kb k19
  have kb := kb'
  clear kb'
  repeat (first | (refine Grow.reads rfl rfl ?_; go_big_quiet_want; refine Cel.quiet_row SE _ rfl _ _ rfl a0 B0.range ?_; go_big_quiet_on; refine wpQuiet_nil ?_; simp only [Act.put, List.setIfInBounds_toArray, List.set_cons_succ, List.set_cons_zero]) | (refine Grow.reads rfl rfl ?_; go_big_quiet_want; refine Cel.quiet_row SE _ rfl _ _ rfl a1 B1.range ?_; go_big_quiet_on; refine wpQuiet_nil ?_; simp only [Act.put, List.setIfInBounds_toArray, List.set_cons_succ, List.set_cons_zero]) | (refine Grow.reads rfl rfl ?_; go_big_quiet_want; refine Cel.quiet_row SE _ rfl _ _ rfl a2 B2.range ?_; go_big_quiet_on; refine wpQuiet_nil ?_; simp only [Act.put, List.setIfInBounds_toArray, List.set_cons_succ, List.set_cons_zero]) | (refine Grow.reads rfl rfl ?_; go_big_quiet_step (fail); refine wpQuiet_nil ?_))
  refine Grow.acts rfl ?_
  go_wp2_with (first | go_skip | (refine CelG.gload SE _ rfl _ rfl a0 B0 rfl ?_) | (refine CelG.gload SE _ rfl _ rfl a1 B1 rfl ?_) | (refine CelG.gload SE _ rfl _ rfl a2 B2 rfl ?_))
  have hc := StT.put_is a1 _ w1 h1
  refine hc.mono ?_
  clear hc
  rintro e W20 ⟨vA, rfl, ownA, k20⟩
  go_wp2_with fail
  have kk := k20
  refine ⟨kk, ?_⟩
  clear kk
  obtain ⟨AA, CA, rfl, SA⟩ := Sl.own ownA (put_B _)
  clear ownA
  have w0' := w0.below k20
  clear w0
  have w0 := w0'
  clear w0'
  have w1' := w1.below k20
  clear w1
  have w1 := w1'
  clear w1'
  have w2' := w2.below k20
  clear w2
  have w2 := w2'
  clear w2'
  have B0' := B0.below k20
  clear B0
  have B0 := B0'
  clear B0'
  have B1' := B1.below k20
  clear B1
  have B1 := B1'
  clear B1'
  have B2' := B2.below k20
  clear B2
  have B2 := B2'
  clear B2'
  have kb' := kb.trans (k20.mono kb.size)
  clear kb k20
  have kb := kb'
  clear kb'
  have qA := fun d os => (SA.below (below_regrown _ d os)).conv rfl
  repeat (first | (refine Grow.reads rfl rfl ?_; go_big_quiet_want; refine Cel.quiet_row SE _ rfl _ _ rfl a0 B0.range ?_; go_big_quiet_on; refine wpQuiet_nil ?_; simp only [Act.put, List.setIfInBounds_toArray, List.set_cons_succ, List.set_cons_zero]) | (refine Grow.reads rfl rfl ?_; go_big_quiet_want; refine Cel.quiet_row SE _ rfl _ _ rfl a1 B1.range ?_; go_big_quiet_on; refine wpQuiet_nil ?_; simp only [Act.put, List.setIfInBounds_toArray, List.set_cons_succ, List.set_cons_zero]) | (refine Grow.reads rfl rfl ?_; go_big_quiet_want; refine Cel.quiet_row SE _ rfl _ _ rfl a2 B2.range ?_; go_big_quiet_on; refine wpQuiet_nil ?_; simp only [Act.put, List.setIfInBounds_toArray, List.set_cons_succ, List.set_cons_zero]) | (refine Grow.reads rfl rfl ?_; go_big_quiet_step (fail); refine wpQuiet_nil ?_))
  refine Grow.acts rfl ?_
  go_wp2_with (first | go_skip | (refine CelG.gload SE _ rfl _ rfl a0 B0 rfl ?_) | (refine CelG.gload SE _ rfl _ rfl a1 B1 rfl ?_) | (refine CelG.gload SE _ rfl _ rfl a2 B2 rfl ?_))
  have hc := StT.put_is a2 _ w2 h2
  refine hc.mono ?_
  clear hc
  rintro e W21 ⟨vC, rfl, ownC, k21⟩
  go_wp2_with fail
  have kk := k21
  refine ⟨kk, ?_⟩
  clear kk
  obtain ⟨AC, CC, rfl, SC⟩ := Sl.own ownC (put_B _)
  clear ownC
  have w0' := w0.below k21
  clear w0
  have w0 := w0'
  clear w0'
  have w1' := w1.below k21
  clear w1
  have w1 := w1'
  clear w1'
  have w2' := w2.below k21
  clear w2
  have w2 := w2'
  clear w2'
  have B0' := B0.below k21
  clear B0
  have B0 := B0'
  clear B0'
  have B1' := B1.below k21
  clear B1
  have B1 := B1'
  clear B1'
  have B2' := B2.below k21
  clear B2
  have B2 := B2'
  clear B2'
  have SA' := SA.below k21
  clear SA
  have SA := SA'
  clear SA'
  have kb' := kb.trans (k21.mono kb.size)
  clear kb k21
  have kb := kb'
  clear kb'
  have qC := fun d os => (SC.below (below_regrown _ d os)).conv rfl
  repeat (first | (refine Grow.reads rfl rfl ?_; go_big_quiet_want; refine Cel.quiet_row SE _ rfl _ _ rfl a0 B0.range ?_; go_big_quiet_on; refine wpQuiet_nil ?_; simp only [Act.put, List.setIfInBounds_toArray, List.set_cons_succ, List.set_cons_zero]) | (refine Grow.reads rfl rfl ?_; go_big_quiet_want; refine Cel.quiet_row SE _ rfl _ _ rfl a1 B1.range ?_; go_big_quiet_on; refine wpQuiet_nil ?_; simp only [Act.put, List.setIfInBounds_toArray, List.set_cons_succ, List.set_cons_zero]) | (refine Grow.reads rfl rfl ?_; go_big_quiet_want; refine Cel.quiet_row SE _ rfl _ _ rfl a2 B2.range ?_; go_big_quiet_on; refine wpQuiet_nil ?_; simp only [Act.put, List.setIfInBounds_toArray, List.set_cons_succ, List.set_cons_zero]) | (refine Grow.reads rfl rfl ?_; go_big_quiet_step (fail); refine wpQuiet_nil ?_))
  refine Grow.ends ?_
  go_wp2_with (first | go_skip | (refine CelG.gload SE _ rfl _ rfl a0 B0 rfl ?_) | (refine CelG.gload SE _ rfl _ rfl a1 B1 rfl ?_) | (refine CelG.gload SE _ rfl _ rfl a2 B2 rfl ?_))
  go_ret
  exact ⟨by first | rfl | simp, kb⟩

theorem walk (a0 : Sv) (a1 : Sv) (a2 : Sv) (w : World) (w0 : In w a0) (g0 : OpenS.Good a0.s) (w1 : In w a1) (g1 : OpenS.Good a1.s) (w2 : In w a2) (g2 : OpenS.Good a2.s) :
    Calls Try.prog 3 #[.agg (sc a0), .agg (sc a1), .agg (sc a2)] w fun e w' => e = .returned (.bool true) ∧ Below w.heap.size w w' := by
  cases x0 : fewS a0.s with
  | false => exact out a0 a1 a2 w w0 g0 w1 g1 w2 g2 _ _ _ x0 rfl rfl (.inl rfl)
  | true =>
    cases x1 : fewS a1.s with
    | false => exact out a0 a1 a2 w w0 g0 w1 g1 w2 g2 _ _ _ x0 x1 rfl (.inr (.inl ⟨rfl, rfl⟩))
    | true =>
      cases x2 : fewS a2.s with
      | false => exact out a0 a1 a2 w w0 g0 w1 g1 w2 g2 _ _ _ x0 x1 x2 (.inr (.inr (⟨rfl, rfl, rfl⟩)))
      | true =>
        cases m0 : mayS a0.s with
        | false => exact outm0 a0 a1 a2 w w0 g0 w1 g1 w2 g2 x0 x1 x2 m0
        | true =>
          cases m1 : mayS a1.s with
          | false => exact outm1 a0 a1 a2 w w0 g0 w1 g1 w2 g2 x0 x1 x2 m0 m1
          | true =>
            cases m2 : mayS a2.s with
            | false => exact outm2 a0 a1 a2 w w0 g0 w1 g1 w2 g2 x0 x1 x2 m0 m1 m2
            | true =>
              exact within a0 a1 a2 w w0 g0 w1 g1 w2 g2 x0 x1 x2 m0 m1 m2

theorem own : ownKnob Try.prog.godebug = none := by kernel_rfl
theorem laidOut : laidOutB Try.prog = true := by kernel_rfl
set_option linter.unusedVariables false in
set_option maxRecDepth 100000 in
theorem lifted (os : Os) (started : os.Started) (H : Type) (enc : TypeId × Value → H) :
    ReturnsInHanded {} Try.checked os 3 .any (Rows.stateTurnsSpec.pre6 enc Try.prog Try.f3 Rows.stateTurnsRow.domain false) (Rows.stateTurnsSpec.post enc Try.prog Try.f3 false true false false) := by
  refine returnsInHanded_of_change (C := Try.checked) own started (by kernel_rfl) Try.func3
    (ChangeSpec.witness6 (enc := enc) (C := Try.checked) false ⟨#[], #[.agg #[.slice none 0 0, .slice none 0 0, .slice none 0 0], .agg #[.slice none 0 0, .slice none 0 0, .slice none 0 0], .agg #[.slice none 0 0, .slice none 0 0, .slice none 0 0]], []⟩ 8 (by kernel_rfl) (by kernel_rfl) (by kernel_rfl) (by kernel_rfl)) ?_
  intro W base args ds gs before hval0 hW hcnd _
  have hval : ∀ (j : Nat) t v, Try.f3.params[j]? = some t → args[j]? = some v → Value.okWide Try.prog W .any base t v := hval0
  have hW' := hW
  obtain ⟨p, q, hA0, hV, rfl, hfz, hnd⟩ := hW
  have hA : DataW.TrodAll enc Try.prog W 0 (fun _ => true) true Try.f3.params.toList args.toList ds p := hA0
  rw [Try.params3] at hA hval
  obtain ⟨v0, vs0, d0, ds0, p0, q0, hargs, rfl, rfl, h0, r0⟩ := trodAll_cons hA
  obtain ⟨v1, vs1, d1, ds1, p1, q1, rfl, rfl, rfl, h1, r1⟩ := trodAll_cons r0
  obtain ⟨v2, vs2, d2, ds2, p2, q2, rfl, rfl, rfl, h2, r2⟩ := trodAll_cons r1
  obtain ⟨rfl, rfl, rfl⟩ := trodAll_nil r2
  obtain rfl : args = #[v0, v1, v2] := by cases args; simp_all
  obtain ⟨rfl, rfl⟩ := trodVars_none hV
  have k0 := h0
  have lt0 : ∀ x ∈ p0, x.block < W.heap.size := by obtain ⟨m, hm⟩ := k0; exact DataW.trod_lt m _ _ _ hm
  obtain ⟨a0, rfl, w0, g0⟩ := OpenS.open_state (hval 0 26 v0 rfl rfl) h0
  have k1 := h1
  have lt1 : ∀ x ∈ p1, x.block < W.heap.size := by obtain ⟨m, hm⟩ := k1; exact DataW.trod_lt m _ _ _ hm
  obtain ⟨a1, rfl, w1, g1⟩ := OpenS.open_state (hval 1 26 v1 rfl rfl) h1
  have k2 := h2
  have lt2 : ∀ x ∈ p2, x.block < W.heap.size := by obtain ⟨m, hm⟩ := k2; exact DataW.trod_lt m _ _ _ hm
  obtain ⟨a2, rfl, w2, g2⟩ := OpenS.open_state (hval 2 26 v2 rfl rfl) h2
  clear hA0 hval0
  refine (walk a0 a1 a2 W w0 g0 w1 g1 w2 g2).mono fun e W' ⟨he, bel⟩ => ?_
  subst he
  exact ⟨_, rfl, _, _, _, [], _, [], hW', trodAll_mk1 (shut_bool Try.underlying4 _), (trodAll_cons_mk (Below.trod laidOut (by kernel_rfl) (of_decide_eq_true (by kernel_rfl)) k0 bel lt0) (trodAll_cons_mk (Below.trod laidOut (by kernel_rfl) (of_decide_eq_true (by kernel_rfl)) k1 bel lt1) (trodAll_cons_mk (Below.trod laidOut (by kernel_rfl) (of_decide_eq_true (by kernel_rfl)) k2 bel lt2) trodAll_mk0))), rfl, bel.frame _, fun h => by cases h⟩

theorem over : Rows.stateTurnsRow.holds Try.pinned (OpenSpec.ofChange Rows.stateTurnsSpec) :=
  OpenClaim.holds_of_wide 3 Try.f3 rfl rfl rfl rfl rfl rfl rfl ⟨rfl, rfl, rfl, rfl, rfl⟩ rfl rfl rfl rfl rfl (by kernel_rfl) Try.func3 (by kernel_rfl)
    (of_decide_eq_true (by kernel_rfl)) (by unfold Func.isWrapper; first | (rw [if_pos (by decide +kernel)]; kernel_rfl) | (rw [if_neg (by decide +kernel)]; exact ⟨rfl, rfl⟩))
    (fun os started H enc _ => lifted os started H enc)

theorem proved : Rows.StateTurnsSaid := over
end Go.Proofs.Ytnjdkjkihbgkaaa.stateTurns
