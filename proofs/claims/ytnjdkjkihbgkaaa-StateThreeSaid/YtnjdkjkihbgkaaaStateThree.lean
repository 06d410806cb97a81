/- StateThree returns true for every input: of three states that come from one it does not matter which two are merged first; merged with itself, from itself, a state is itself. No condition. -/
import Derived.Test.YtnjdkjkihbgkaaaStTJ3
import Derived.Test.YtnjdkjkihbgkaaaOpenSJ6
import Derived.ShutString
import Derived.ChangeOld
namespace Go.Proofs.Ytnjdkjkihbgkaaa.stateThree
set_option maxRecDepth 100000
open Go Go.Sort Go.ChangeShapes Go.WideShapes Go.ChangeAt Go.RowKit Byt OpsM OpsW Rise RowS StM StN StW StX StY StA
open StR (sameS sameS_iff)

set_option maxRecDepth 100000 in
set_option maxHeartbeats 16000000 in
theorem out (a0 : Sv) (a1 : Sv) (a2 : Sv) (a3 : Sv) (w : World) (w0 : In w a0) (g0 : OpenS.Good a0.s) (w1 : In w a1) (g1 : OpenS.Good a1.s) (w2 : In w a2) (g2 : OpenS.Good a2.s) (w3 : In w a3) (g3 : OpenS.Good a3.s) (b0 : Bool) (b1 : Bool) (b2 : Bool) (b3 : Bool) (x0 : fewS a0.s = b0) (x1 : fewS a1.s = b1) (x2 : fewS a2.s = b2) (x3 : fewS a3.s = b3) (h : (b0 = false) ∨ (b0 = true ∧ b1 = false) ∨ (b0 = true ∧ b1 = true ∧ b2 = false) ∨ (b0 = true ∧ b1 = true ∧ b2 = true ∧ b3 = false)) :
    Calls Try.prog 5 #[.agg (sc a0), .agg (sc a1), .agg (sc a2), .agg (sc a3)] w fun e w' => e = .returned (.bool true) ∧ Below w.heap.size w w' := by
  rcases h with rfl | ⟨rfl, rfl⟩ | ⟨rfl, rfl, rfl⟩ | ⟨rfl, rfl, rfl, rfl⟩
  all_goals
    have B0 : Cel.Box SE (w.alloc (.cells (sc a0) 26)) (w.heap.size) a0 := by exact Cel.Box.new (E := SE) w a0 _
    have k0 := StW.below_alloc w (.cells (sc a0) 26)
    have w0' := w0.below k0
    clear w0
    have w0 := w0'
    clear w0'
    have w1' := w1.below k0
    clear w1
    have w1 := w1'
    clear w1'
    have w2' := w2.below k0
    clear w2
    have w2 := w2'
    clear w2'
    have w3' := w3.below k0
    clear w3
    have w3 := w3'
    clear w3'
    have kb := k0
    clear k0
    have z1 : (w.alloc (.cells (sc a0) 26)).heap.size = w.heap.size + 1 := by simp
    have B1 : Cel.Box SE ((w.alloc (.cells (sc a0) 26)).alloc (.cells (sc a1) 26)) (w.heap.size + 1) a1 := by rw [← z1]; exact Cel.Box.new (E := SE) (w.alloc (.cells (sc a0) 26)) a1 _
    have k1 := StW.below_alloc (w.alloc (.cells (sc a0) 26)) (.cells (sc a1) 26)
    have w0' := w0.below k1
    clear w0
    have w0 := w0'
    clear w0'
    have w1' := w1.below k1
    clear w1
    have w1 := w1'
    clear w1'
    have w2' := w2.below k1
    clear w2
    have w2 := w2'
    clear w2'
    have w3' := w3.below k1
    clear w3
    have w3 := w3'
    clear w3'
    have B0' := B0.below k1
    clear B0
    have B0 := B0'
    clear B0'
    have kb' := kb.trans (k1.mono kb.size)
    clear kb k1
    have kb := kb'
    clear kb'
    have z2 : ((w.alloc (.cells (sc a0) 26)).alloc (.cells (sc a1) 26)).heap.size = w.heap.size + 2 := by simp
    have B2 : Cel.Box SE (((w.alloc (.cells (sc a0) 26)).alloc (.cells (sc a1) 26)).alloc (.cells (sc a2) 26)) (w.heap.size + 2) a2 := by rw [← z2]; exact Cel.Box.new (E := SE) ((w.alloc (.cells (sc a0) 26)).alloc (.cells (sc a1) 26)) a2 _
    have k2 := StW.below_alloc ((w.alloc (.cells (sc a0) 26)).alloc (.cells (sc a1) 26)) (.cells (sc a2) 26)
    have w0' := w0.below k2
    clear w0
    have w0 := w0'
    clear w0'
    have w1' := w1.below k2
    clear w1
    have w1 := w1'
    clear w1'
    have w2' := w2.below k2
    clear w2
    have w2 := w2'
    clear w2'
    have w3' := w3.below k2
    clear w3
    have w3 := w3'
    clear w3'
    have B0' := B0.below k2
    clear B0
    have B0 := B0'
    clear B0'
    have B1' := B1.below k2
    clear B1
    have B1 := B1'
    clear B1'
    have kb' := kb.trans (k2.mono kb.size)
    clear kb k2
    have kb := kb'
    clear kb'
    have z3 : (((w.alloc (.cells (sc a0) 26)).alloc (.cells (sc a1) 26)).alloc (.cells (sc a2) 26)).heap.size = w.heap.size + 3 := by simp
    have B3 : Cel.Box SE ((((w.alloc (.cells (sc a0) 26)).alloc (.cells (sc a1) 26)).alloc (.cells (sc a2) 26)).alloc (.cells (sc a3) 26)) (w.heap.size + 3) a3 := by rw [← z3]; exact Cel.Box.new (E := SE) (((w.alloc (.cells (sc a0) 26)).alloc (.cells (sc a1) 26)).alloc (.cells (sc a2) 26)) a3 _
    have k3 := StW.below_alloc (((w.alloc (.cells (sc a0) 26)).alloc (.cells (sc a1) 26)).alloc (.cells (sc a2) 26)) (.cells (sc a3) 26)
    have w0' := w0.below k3
    clear w0
    have w0 := w0'
    clear w0'
    have w1' := w1.below k3
    clear w1
    have w1 := w1'
    clear w1'
    have w2' := w2.below k3
    clear w2
    have w2 := w2'
    clear w2'
    have w3' := w3.below k3
    clear w3
    have w3 := w3'
    clear w3'
    have B0' := B0.below k3
    clear B0
    have B0 := B0'
    clear B0'
    have B1' := B1.below k3
    clear B1
    have B1 := B1'
    clear B1'
    have B2' := B2.below k3
    clear B2
    have B2 := B2'
    clear B2'
    have kb' := kb.trans (k3.mono kb.size)
    clear kb k3
    have kb := kb'
    clear kb'
    go_enter Try.func5, Try.ntmps5
    go_wp2_with fail
    refine (awake _).mono ?_
    rintro e W1 ⟨rfl, k1⟩
    have hb : w.heap.size + 4 ≤ W1.heap.size := Nat.le_trans (by first | (simp; done) | (simp; omega)) k1.size
    clear z1 z2 z3
    have w0' := w0.below k1
    clear w0
    have w0 := w0'
    clear w0'
    have w1' := w1.below k1
    clear w1
    have w1 := w1'
    clear w1'
    have w2' := w2.below k1
    clear w2
    have w2 := w2'
    clear w2'
    have w3' := w3.below k1
    clear w3
    have w3 := w3'
    clear w3'
    have B0' := B0.below k1
    clear B0
    have B0 := B0'
    clear B0'
    have B1' := B1.below k1
    clear B1
    have B1 := B1'
    clear B1'
    have B2' := B2.below k1
    clear B2
    have B2 := B2'
    clear B2'
    have B3' := B3.below k1
    clear B3
    have B3 := B3'
    clear B3'
    have kb' := kb.trans (k1.mono kb.size)
    clear kb k1
    have kb := kb'
    clear kb'
    go_wp2_with (first | go_skip | (refine CelG.gload SE _ rfl _ rfl a0 B0 rfl ?_) | (refine CelG.gload SE _ rfl _ rfl a1 B1 rfl ?_) | (refine CelG.gload SE _ rfl _ rfl a2 B2 rfl ?_) | (refine CelG.gload SE _ rfl _ rfl a3 B3 rfl ?_))
    have hc := few_ret a0 _ w0 g0
    rw [x0] at hc
    refine hc.mono ?_
    clear hc
    rintro e W2 ⟨rfl, k2⟩
    have w0' := w0.below k2
    clear w0
    have w0 := w0'
    clear w0'
    have w1' := w1.below k2
    clear w1
    have w1 := w1'
    clear w1'
    have w2' := w2.below k2
    clear w2
    have w2 := w2'
    clear w2'
    have w3' := w3.below k2
    clear w3
    have w3 := w3'
    clear w3'
    have B0' := B0.below k2
    clear B0
    have B0 := B0'
    clear B0'
    have B1' := B1.below k2
    clear B1
    have B1 := B1'
    clear B1'
    have B2' := B2.below k2
    clear B2
    have B2 := B2'
    clear B2'
    have B3' := B3.below k2
    clear B3
    have B3 := B3'
    clear B3'
    have kb' := kb.trans (k2.mono kb.size)
    clear kb k2
    have kb := kb'
    clear kb'
    go_wp2_with (first | go_skip | (refine CelG.gload SE _ rfl _ rfl a0 B0 rfl ?_) | (refine CelG.gload SE _ rfl _ rfl a1 B1 rfl ?_) | (refine CelG.gload SE _ rfl _ rfl a2 B2 rfl ?_) | (refine CelG.gload SE _ rfl _ rfl a3 B3 rfl ?_))
    have hc := few_ret a1 _ w1 g1
    rw [x1] at hc
    refine hc.mono ?_
    clear hc
    rintro e W3 ⟨rfl, k3⟩
    have w0' := w0.below k3
    clear w0
    have w0 := w0'
    clear w0'
    have w1' := w1.below k3
    clear w1
    have w1 := w1'
    clear w1'
    have w2' := w2.below k3
    clear w2
    have w2 := w2'
    clear w2'
    have w3' := w3.below k3
    clear w3
    have w3 := w3'
    clear w3'
    have B0' := B0.below k3
    clear B0
    have B0 := B0'
    clear B0'
    have B1' := B1.below k3
    clear B1
    have B1 := B1'
    clear B1'
    have B2' := B2.below k3
    clear B2
    have B2 := B2'
    clear B2'
    have B3' := B3.below k3
    clear B3
    have B3 := B3'
    clear B3'
    have kb' := kb.trans (k3.mono kb.size)
    clear kb k3
    have kb := kb'
    clear kb'
    go_wp2_with (first | go_skip | (refine CelG.gload SE _ rfl _ rfl a0 B0 rfl ?_) | (refine CelG.gload SE _ rfl _ rfl a1 B1 rfl ?_) | (refine CelG.gload SE _ rfl _ rfl a2 B2 rfl ?_) | (refine CelG.gload SE _ rfl _ rfl a3 B3 rfl ?_))
    have hc := few_ret a2 _ w2 g2
    rw [x2] at hc
    refine hc.mono ?_
    clear hc
    rintro e W4 ⟨rfl, k4⟩
    have w0' := w0.below k4
    clear w0
    have w0 := w0'
    clear w0'
    have w1' := w1.below k4
    clear w1
    have w1 := w1'
    clear w1'
    have w2' := w2.below k4
    clear w2
    have w2 := w2'
    clear w2'
    have w3' := w3.below k4
    clear w3
    have w3 := w3'
    clear w3'
    have B0' := B0.below k4
    clear B0
    have B0 := B0'
    clear B0'
    have B1' := B1.below k4
    clear B1
    have B1 := B1'
    clear B1'
    have B2' := B2.below k4
    clear B2
    have B2 := B2'
    clear B2'
    have B3' := B3.below k4
    clear B3
    have B3 := B3'
    clear B3'
    have kb' := kb.trans (k4.mono kb.size)
    clear kb k4
    have kb := kb'
    clear kb'
    go_wp2_with (first | go_skip | (refine CelG.gload SE _ rfl _ rfl a0 B0 rfl ?_) | (refine CelG.gload SE _ rfl _ rfl a1 B1 rfl ?_) | (refine CelG.gload SE _ rfl _ rfl a2 B2 rfl ?_) | (refine CelG.gload SE _ rfl _ rfl a3 B3 rfl ?_))
    have hc := few_ret a3 _ w3 g3
    rw [x3] at hc
    refine hc.mono ?_
    clear hc
    rintro e W5 ⟨rfl, k5⟩
    have w0' := w0.below k5
    clear w0
    have w0 := w0'
    clear w0'
    have w1' := w1.below k5
    clear w1
    have w1 := w1'
    clear w1'
    have w2' := w2.below k5
    clear w2
    have w2 := w2'
    clear w2'
    have w3' := w3.below k5
    clear w3
    have w3 := w3'
    clear w3'
    have B0' := B0.below k5
    clear B0
    have B0 := B0'
    clear B0'
    have B1' := B1.below k5
    clear B1
    have B1 := B1'
    clear B1'
    have B2' := B2.below k5
    clear B2
    have B2 := B2'
    clear B2'
    have B3' := B3.below k5
    clear B3
    have B3 := B3'
    clear B3'
    have kb' := kb.trans (k5.mono kb.size)
    clear kb k5
    have kb := kb'
    clear kb'
    go_wp2_with (first | go_skip | (refine CelG.gload SE _ rfl _ rfl a0 B0 rfl ?_) | (refine CelG.gload SE _ rfl _ rfl a1 B1 rfl ?_) | (refine CelG.gload SE _ rfl _ rfl a2 B2 rfl ?_) | (refine CelG.gload SE _ rfl _ rfl a3 B3 rfl ?_))
    go_ret
    exact ⟨by first | rfl | simp, kb⟩

set_option maxRecDepth 100000 in
set_option maxHeartbeats 16000000 in
theorem outm0 (a0 : Sv) (a1 : Sv) (a2 : Sv) (a3 : Sv) (w : World) (w0 : In w a0) (g0 : OpenS.Good a0.s) (w1 : In w a1) (g1 : OpenS.Good a1.s) (w2 : In w a2) (g2 : OpenS.Good a2.s) (w3 : In w a3) (g3 : OpenS.Good a3.s) (x0 : fewS a0.s = true) (x1 : fewS a1.s = true) (x2 : fewS a2.s = true) (x3 : fewS a3.s = true) (m0 : mayS a0.s = false) :
    Calls Try.prog 5 #[.agg (sc a0), .agg (sc a1), .agg (sc a2), .agg (sc a3)] w fun e w' => e = .returned (.bool true) ∧ Below w.heap.size w w' := by
  have y0 := (few_len x0).le (show 30 ≤ 1000 by omega)
  have f0 := fits x0 g0
  have X0 := aside x0
  have y1 := (few_len x1).le (show 30 ≤ 1000 by omega)
  have f1 := fits x1 g1
  have X1 := aside x1
  have y2 := (few_len x2).le (show 30 ≤ 1000 by omega)
  have f2 := fits x2 g2
  have X2 := aside x2
  have y3 := (few_len x3).le (show 30 ≤ 1000 by omega)
  have f3 := fits x3 g3
  have X3 := aside x3
  have M0 := aside m0
  clear x0 x1 x2 x3 m0
  have B0 : Cel.Box SE (w.alloc (.cells (sc a0) 26)) (w.heap.size) a0 := by exact Cel.Box.new (E := SE) w a0 _
  have k0 := StW.below_alloc w (.cells (sc a0) 26)
  have w0' := w0.below k0
  clear w0
  have w0 := w0'
  clear w0'
  have w1' := w1.below k0
  clear w1
  have w1 := w1'
  clear w1'
  have w2' := w2.below k0
  clear w2
  have w2 := w2'
  clear w2'
  have w3' := w3.below k0
  clear w3
  have w3 := w3'
  clear w3'
  have kb := k0
  clear k0
  have z1 : (w.alloc (.cells (sc a0) 26)).heap.size = w.heap.size + 1 := by simp
  have B1 : Cel.Box SE ((w.alloc (.cells (sc a0) 26)).alloc (.cells (sc a1) 26)) (w.heap.size + 1) a1 := by rw [← z1]; exact Cel.Box.new (E := SE) (w.alloc (.cells (sc a0) 26)) a1 _
  have k1 := StW.below_alloc (w.alloc (.cells (sc a0) 26)) (.cells (sc a1) 26)
  have w0' := w0.below k1
  clear w0
  have w0 := w0'
  clear w0'
  have w1' := w1.below k1
  clear w1
  have w1 := w1'
  clear w1'
  have w2' := w2.below k1
  clear w2
  have w2 := w2'
  clear w2'
  have w3' := w3.below k1
  clear w3
  have w3 := w3'
  clear w3'
  have B0' := B0.below k1
  clear B0
  have B0 := B0'
  clear B0'
  have kb' := kb.trans (k1.mono kb.size)
  clear kb k1
  have kb := kb'
  clear kb'
  have z2 : ((w.alloc (.cells (sc a0) 26)).alloc (.cells (sc a1) 26)).heap.size = w.heap.size + 2 := by simp
  have B2 : Cel.Box SE (((w.alloc (.cells (sc a0) 26)).alloc (.cells (sc a1) 26)).alloc (.cells (sc a2) 26)) (w.heap.size + 2) a2 := by rw [← z2]; exact Cel.Box.new (E := SE) ((w.alloc (.cells (sc a0) 26)).alloc (.cells (sc a1) 26)) a2 _
  have k2 := StW.below_alloc ((w.alloc (.cells (sc a0) 26)).alloc (.cells (sc a1) 26)) (.cells (sc a2) 26)
  have w0' := w0.below k2
  clear w0
  have w0 := w0'
  clear w0'
  have w1' := w1.below k2
  clear w1
  have w1 := w1'
  clear w1'
  have w2' := w2.below k2
  clear w2
  have w2 := w2'
  clear w2'
  have w3' := w3.below k2
  clear w3
  have w3 := w3'
  clear w3'
  have B0' := B0.below k2
  clear B0
  have B0 := B0'
  clear B0'
  have B1' := B1.below k2
  clear B1
  have B1 := B1'
  clear B1'
  have kb' := kb.trans (k2.mono kb.size)
  clear kb k2
  have kb := kb'
  clear kb'
  have z3 : (((w.alloc (.cells (sc a0) 26)).alloc (.cells (sc a1) 26)).alloc (.cells (sc a2) 26)).heap.size = w.heap.size + 3 := by simp
  have B3 : Cel.Box SE ((((w.alloc (.cells (sc a0) 26)).alloc (.cells (sc a1) 26)).alloc (.cells (sc a2) 26)).alloc (.cells (sc a3) 26)) (w.heap.size + 3) a3 := by rw [← z3]; exact Cel.Box.new (E := SE) (((w.alloc (.cells (sc a0) 26)).alloc (.cells (sc a1) 26)).alloc (.cells (sc a2) 26)) a3 _
  have k3 := StW.below_alloc (((w.alloc (.cells (sc a0) 26)).alloc (.cells (sc a1) 26)).alloc (.cells (sc a2) 26)) (.cells (sc a3) 26)
  have w0' := w0.below k3
  clear w0
  have w0 := w0'
  clear w0'
  have w1' := w1.below k3
  clear w1
  have w1 := w1'
  clear w1'
  have w2' := w2.below k3
  clear w2
  have w2 := w2'
  clear w2'
  have w3' := w3.below k3
  clear w3
  have w3 := w3'
  clear w3'
  have B0' := B0.below k3
  clear B0
  have B0 := B0'
  clear B0'
  have B1' := B1.below k3
  clear B1
  have B1 := B1'
  clear B1'
  have B2' := B2.below k3
  clear B2
  have B2 := B2'
  clear B2'
  have kb' := kb.trans (k3.mono kb.size)
  clear kb k3
  have kb := kb'
  clear kb'
  go_enter Try.func5, Try.ntmps5
  go_wp2_with fail
  refine (awake _).mono ?_
  rintro e W1 ⟨rfl, k1⟩
  have hb : w.heap.size + 4 ≤ W1.heap.size := Nat.le_trans (by first | (simp; done) | (simp; omega)) k1.size
  clear z1 z2 z3
  have w0' := w0.below k1
  clear w0
  have w0 := w0'
  clear w0'
  have w1' := w1.below k1
  clear w1
  have w1 := w1'
  clear w1'
  have w2' := w2.below k1
  clear w2
  have w2 := w2'
  clear w2'
  have w3' := w3.below k1
  clear w3
  have w3 := w3'
  clear w3'
  have B0' := B0.below k1
  clear B0
  have B0 := B0'
  clear B0'
  have B1' := B1.below k1
  clear B1
  have B1 := B1'
  clear B1'
  have B2' := B2.below k1
  clear B2
  have B2 := B2'
  clear B2'
  have B3' := B3.below k1
  clear B3
  have B3 := B3'
  clear B3'
  have kb' := kb.trans (k1.mono kb.size)
  clear kb k1
  have kb := kb'
  clear kb'
  go_wp2_with (first | go_skip | (refine CelG.gload SE _ rfl _ rfl a0 B0 rfl ?_) | (refine CelG.gload SE _ rfl _ rfl a1 B1 rfl ?_) | (refine CelG.gload SE _ rfl _ rfl a2 B2 rfl ?_) | (refine CelG.gload SE _ rfl _ rfl a3 B3 rfl ?_))
  have hc := few_ret a0 _ w0 g0
  rw [X0.out] at hc
  refine hc.mono ?_
  clear hc
  rintro e W2 ⟨rfl, k2⟩
  have w0' := w0.below k2
  clear w0
  have w0 := w0'
  clear w0'
  have w1' := w1.below k2
  clear w1
  have w1 := w1'
  clear w1'
  have w2' := w2.below k2
  clear w2
  have w2 := w2'
  clear w2'
  have w3' := w3.below k2
  clear w3
  have w3 := w3'
  clear w3'
  have B0' := B0.below k2
  clear B0
  have B0 := B0'
  clear B0'
  have B1' := B1.below k2
  clear B1
  have B1 := B1'
  clear B1'
  have B2' := B2.below k2
  clear B2
  have B2 := B2'
  clear B2'
  have B3' := B3.below k2
  clear B3
  have B3 := B3'
  clear B3'
  have kb' := kb.trans (k2.mono kb.size)
  clear kb k2
  have kb := kb'
  clear kb'
  go_wp2_with (first | go_skip | (refine CelG.gload SE _ rfl _ rfl a0 B0 rfl ?_) | (refine CelG.gload SE _ rfl _ rfl a1 B1 rfl ?_) | (refine CelG.gload SE _ rfl _ rfl a2 B2 rfl ?_) | (refine CelG.gload SE _ rfl _ rfl a3 B3 rfl ?_))
  have hc := few_ret a1 _ w1 g1
  rw [X1.out] at hc
  refine hc.mono ?_
  clear hc
  rintro e W3 ⟨rfl, k3⟩
  have w0' := w0.below k3
  clear w0
  have w0 := w0'
  clear w0'
  have w1' := w1.below k3
  clear w1
  have w1 := w1'
  clear w1'
  have w2' := w2.below k3
  clear w2
  have w2 := w2'
  clear w2'
  have w3' := w3.below k3
  clear w3
  have w3 := w3'
  clear w3'
  have B0' := B0.below k3
  clear B0
  have B0 := B0'
  clear B0'
  have B1' := B1.below k3
  clear B1
  have B1 := B1'
  clear B1'
  have B2' := B2.below k3
  clear B2
  have B2 := B2'
  clear B2'
  have B3' := B3.below k3
  clear B3
  have B3 := B3'
  clear B3'
  have kb' := kb.trans (k3.mono kb.size)
  clear kb k3
  have kb := kb'
  clear kb'
  go_wp2_with (first | go_skip | (refine CelG.gload SE _ rfl _ rfl a0 B0 rfl ?_) | (refine CelG.gload SE _ rfl _ rfl a1 B1 rfl ?_) | (refine CelG.gload SE _ rfl _ rfl a2 B2 rfl ?_) | (refine CelG.gload SE _ rfl _ rfl a3 B3 rfl ?_))
  have hc := few_ret a2 _ w2 g2
  rw [X2.out] at hc
  refine hc.mono ?_
  clear hc
  rintro e W4 ⟨rfl, k4⟩
  have w0' := w0.below k4
  clear w0
  have w0 := w0'
  clear w0'
  have w1' := w1.below k4
  clear w1
  have w1 := w1'
  clear w1'
  have w2' := w2.below k4
  clear w2
  have w2 := w2'
  clear w2'
  have w3' := w3.below k4
  clear w3
  have w3 := w3'
  clear w3'
  have B0' := B0.below k4
  clear B0
  have B0 := B0'
  clear B0'
  have B1' := B1.below k4
  clear B1
  have B1 := B1'
  clear B1'
  have B2' := B2.below k4
  clear B2
  have B2 := B2'
  clear B2'
  have B3' := B3.below k4
  clear B3
  have B3 := B3'
  clear B3'
  have kb' := kb.trans (k4.mono kb.size)
  clear kb k4
  have kb := kb'
  clear kb'
  go_wp2_with (first | go_skip | (refine CelG.gload SE _ rfl _ rfl a0 B0 rfl ?_) | (refine CelG.gload SE _ rfl _ rfl a1 B1 rfl ?_) | (refine CelG.gload SE _ rfl _ rfl a2 B2 rfl ?_) | (refine CelG.gload SE _ rfl _ rfl a3 B3 rfl ?_))
  have hc := few_ret a3 _ w3 g3
  rw [X3.out] at hc
  refine hc.mono ?_
  clear hc
  rintro e W5 ⟨rfl, k5⟩
  have w0' := w0.below k5
  clear w0
  have w0 := w0'
  clear w0'
  have w1' := w1.below k5
  clear w1
  have w1 := w1'
  clear w1'
  have w2' := w2.below k5
  clear w2
  have w2 := w2'
  clear w2'
  have w3' := w3.below k5
  clear w3
  have w3 := w3'
  clear w3'
  have B0' := B0.below k5
  clear B0
  have B0 := B0'
  clear B0'
  have B1' := B1.below k5
  clear B1
  have B1 := B1'
  clear B1'
  have B2' := B2.below k5
  clear B2
  have B2 := B2'
  clear B2'
  have B3' := B3.below k5
  clear B3
  have B3 := B3'
  clear B3'
  have kb' := kb.trans (k5.mono kb.size)
  clear kb k5
  have kb := kb'
  clear kb'
  go_wp2_with (first | go_skip | (refine CelG.gload SE _ rfl _ rfl a0 B0 rfl ?_) | (refine CelG.gload SE _ rfl _ rfl a1 B1 rfl ?_) | (refine CelG.gload SE _ rfl _ rfl a2 B2 rfl ?_) | (refine CelG.gload SE _ rfl _ rfl a3 B3 rfl ?_))
  have hc := StE.may_ret a0 _ w0 f0 y0
  rw [M0.out] at hc
  refine hc.mono ?_
  clear hc
  rintro e W6 ⟨rfl, k6⟩
  have w0' := w0.below k6
  clear w0
  have w0 := w0'
  clear w0'
  have w1' := w1.below k6
  clear w1
  have w1 := w1'
  clear w1'
  have w2' := w2.below k6
  clear w2
  have w2 := w2'
  clear w2'
  have w3' := w3.below k6
  clear w3
  have w3 := w3'
  clear w3'
  have B0' := B0.below k6
  clear B0
  have B0 := B0'
  clear B0'
  have B1' := B1.below k6
  clear B1
  have B1 := B1'
  clear B1'
  have B2' := B2.below k6
  clear B2
  have B2 := B2'
  clear B2'
  have B3' := B3.below k6
  clear B3
  have B3 := B3'
  clear B3'
  have kb' := kb.trans (k6.mono kb.size)
  clear kb k6
  have kb := kb'
  clear kb'
  go_wp2_with (first | go_skip | (refine CelG.gload SE _ rfl _ rfl a0 B0 rfl ?_) | (refine CelG.gload SE _ rfl _ rfl a1 B1 rfl ?_) | (refine CelG.gload SE _ rfl _ rfl a2 B2 rfl ?_) | (refine CelG.gload SE _ rfl _ rfl a3 B3 rfl ?_))
  go_ret
  exact ⟨by first | rfl | simp, kb⟩

set_option maxRecDepth 100000 in
set_option maxHeartbeats 16000000 in
theorem outm1 (a0 : Sv) (a1 : Sv) (a2 : Sv) (a3 : Sv) (w : World) (w0 : In w a0) (g0 : OpenS.Good a0.s) (w1 : In w a1) (g1 : OpenS.Good a1.s) (w2 : In w a2) (g2 : OpenS.Good a2.s) (w3 : In w a3) (g3 : OpenS.Good a3.s) (x0 : fewS a0.s = true) (x1 : fewS a1.s = true) (x2 : fewS a2.s = true) (x3 : fewS a3.s = true) (m0 : mayS a0.s = true) (m1 : mayS a1.s = false) :
    Calls Try.prog 5 #[.agg (sc a0), .agg (sc a1), .agg (sc a2), .agg (sc a3)] w fun e w' => e = .returned (.bool true) ∧ Below w.heap.size w w' := by
  have y0 := (few_len x0).le (show 30 ≤ 1000 by omega)
  have f0 := fits x0 g0
  have X0 := aside x0
  have y1 := (few_len x1).le (show 30 ≤ 1000 by omega)
  have f1 := fits x1 g1
  have X1 := aside x1
  have y2 := (few_len x2).le (show 30 ≤ 1000 by omega)
  have f2 := fits x2 g2
  have X2 := aside x2
  have y3 := (few_len x3).le (show 30 ≤ 1000 by omega)
  have f3 := fits x3 g3
  have X3 := aside x3
  have M0 := aside m0
  have M1 := aside m1
  clear x0 x1 x2 x3 m0 m1
  have B0 : Cel.Box SE (w.alloc (.cells (sc a0) 26)) (w.heap.size) a0 := by exact Cel.Box.new (E := SE) w a0 _
  have k0 := StW.below_alloc w (.cells (sc a0) 26)
  have w0' := w0.below k0
  clear w0
  have w0 := w0'
  clear w0'
  have w1' := w1.below k0
  clear w1
  have w1 := w1'
  clear w1'
  have w2' := w2.below k0
  clear w2
  have w2 := w2'
  clear w2'
  have w3' := w3.below k0
  clear w3
  have w3 := w3'
  clear w3'
  have kb := k0
  clear k0
  have z1 : (w.alloc (.cells (sc a0) 26)).heap.size = w.heap.size + 1 := by simp
  have B1 : Cel.Box SE ((w.alloc (.cells (sc a0) 26)).alloc (.cells (sc a1) 26)) (w.heap.size + 1) a1 := by rw [← z1]; exact Cel.Box.new (E := SE) (w.alloc (.cells (sc a0) 26)) a1 _
  have k1 := StW.below_alloc (w.alloc (.cells (sc a0) 26)) (.cells (sc a1) 26)
  have w0' := w0.below k1
  clear w0
  have w0 := w0'
  clear w0'
  have w1' := w1.below k1
  clear w1
  have w1 := w1'
  clear w1'
  have w2' := w2.below k1
  clear w2
  have w2 := w2'
  clear w2'
  have w3' := w3.below k1
  clear w3
  have w3 := w3'
  clear w3'
  have B0' := B0.below k1
  clear B0
  have B0 := B0'
  clear B0'
  have kb' := kb.trans (k1.mono kb.size)
  clear kb k1
  have kb := kb'
  clear kb'
  have z2 : ((w.alloc (.cells (sc a0) 26)).alloc (.cells (sc a1) 26)).heap.size = w.heap.size + 2 := by simp
  have B2 : Cel.Box SE (((w.alloc (.cells (sc a0) 26)).alloc (.cells (sc a1) 26)).alloc (.cells (sc a2) 26)) (w.heap.size + 2) a2 := by rw [← z2]; exact Cel.Box.new (E := SE) ((w.alloc (.cells (sc a0) 26)).alloc (.cells (sc a1) 26)) a2 _
  have k2 := StW.below_alloc ((w.alloc (.cells (sc a0) 26)).alloc (.cells (sc a1) 26)) (.cells (sc a2) 26)
  have w0' := w0.below k2
  clear w0
  have w0 := w0'
  clear w0'
  have w1' := w1.below k2
  clear w1
  have w1 := w1'
  clear w1'
  have w2' := w2.below k2
  clear w2
  have w2 := w2'
  clear w2'
  have w3' := w3.below k2
  clear w3
  have w3 := w3'
  clear w3'
  have B0' := B0.below k2
  clear B0
  have B0 := B0'
  clear B0'
  have B1' := B1.below k2
  clear B1
  have B1 := B1'
  clear B1'
  have kb' := kb.trans (k2.mono kb.size)
  clear kb k2
  have kb := kb'
  clear kb'
  have z3 : (((w.alloc (.cells (sc a0) 26)).alloc (.cells (sc a1) 26)).alloc (.cells (sc a2) 26)).heap.size = w.heap.size + 3 := by simp
  have B3 : Cel.Box SE ((((w.alloc (.cells (sc a0) 26)).alloc (.cells (sc a1) 26)).alloc (.cells (sc a2) 26)).alloc (.cells (sc a3) 26)) (w.heap.size + 3) a3 := by rw [← z3]; exact Cel.Box.new (E := SE) (((w.alloc (.cells (sc a0) 26)).alloc (.cells (sc a1) 26)).alloc (.cells (sc a2) 26)) a3 _
  have k3 := StW.below_alloc (((w.alloc (.cells (sc a0) 26)).alloc (.cells (sc a1) 26)).alloc (.cells (sc a2) 26)) (.cells (sc a3) 26)
  have w0' := w0.below k3
  clear w0
  have w0 := w0'
  clear w0'
  have w1' := w1.below k3
  clear w1
  have w1 := w1'
  clear w1'
  have w2' := w2.below k3
  clear w2
  have w2 := w2'
  clear w2'
  have w3' := w3.below k3
  clear w3
  have w3 := w3'
  clear w3'
  have B0' := B0.below k3
  clear B0
  have B0 := B0'
  clear B0'
  have B1' := B1.below k3
  clear B1
  have B1 := B1'
  clear B1'
  have B2' := B2.below k3
  clear B2
  have B2 := B2'
  clear B2'
  have kb' := kb.trans (k3.mono kb.size)
  clear kb k3
  have kb := kb'
  clear kb'
  go_enter Try.func5, Try.ntmps5
  go_wp2_with fail
  refine (awake _).mono ?_
  rintro e W1 ⟨rfl, k1⟩
  have hb : w.heap.size + 4 ≤ W1.heap.size := Nat.le_trans (by first | (simp; done) | (simp; omega)) k1.size
  clear z1 z2 z3
  have w0' := w0.below k1
  clear w0
  have w0 := w0'
  clear w0'
  have w1' := w1.below k1
  clear w1
  have w1 := w1'
  clear w1'
  have w2' := w2.below k1
  clear w2
  have w2 := w2'
  clear w2'
  have w3' := w3.below k1
  clear w3
  have w3 := w3'
  clear w3'
  have B0' := B0.below k1
  clear B0
  have B0 := B0'
  clear B0'
  have B1' := B1.below k1
  clear B1
  have B1 := B1'
  clear B1'
  have B2' := B2.below k1
  clear B2
  have B2 := B2'
  clear B2'
  have B3' := B3.below k1
  clear B3
  have B3 := B3'
  clear B3'
  have kb' := kb.trans (k1.mono kb.size)
  clear kb k1
  have kb := kb'
  clear kb'
  go_wp2_with (first | go_skip | (refine CelG.gload SE _ rfl _ rfl a0 B0 rfl ?_) | (refine CelG.gload SE _ rfl _ rfl a1 B1 rfl ?_) | (refine CelG.gload SE _ rfl _ rfl a2 B2 rfl ?_) | (refine CelG.gload SE _ rfl _ rfl a3 B3 rfl ?_))
  have hc := few_ret a0 _ w0 g0
  rw [X0.out] at hc
  refine hc.mono ?_
  clear hc
  rintro e W2 ⟨rfl, k2⟩
  have w0' := w0.below k2
  clear w0
  have w0 := w0'
  clear w0'
  have w1' := w1.below k2
  clear w1
  have w1 := w1'
  clear w1'
  have w2' := w2.below k2
  clear w2
  have w2 := w2'
  clear w2'
  have w3' := w3.below k2
  clear w3
  have w3 := w3'
  clear w3'
  have B0' := B0.below k2
  clear B0
  have B0 := B0'
  clear B0'
  have B1' := B1.below k2
  clear B1
  have B1 := B1'
  clear B1'
  have B2' := B2.below k2
  clear B2
  have B2 := B2'
  clear B2'
  have B3' := B3.below k2
  clear B3
  have B3 := B3'
  clear B3'
  have kb' := kb.trans (k2.mono kb.size)
  clear kb k2
  have kb := kb'
  clear kb'
  go_wp2_with (first | go_skip | (refine CelG.gload SE _ rfl _ rfl a0 B0 rfl ?_) | (refine CelG.gload SE _ rfl _ rfl a1 B1 rfl ?_) | (refine CelG.gload SE _ rfl _ rfl a2 B2 rfl ?_) | (refine CelG.gload SE _ rfl _ rfl a3 B3 rfl ?_))
  have hc := few_ret a1 _ w1 g1
  rw [X1.out] at hc
  refine hc.mono ?_
  clear hc
  rintro e W3 ⟨rfl, k3⟩
  have w0' := w0.below k3
  clear w0
  have w0 := w0'
  clear w0'
  have w1' := w1.below k3
  clear w1
  have w1 := w1'
  clear w1'
  have w2' := w2.below k3
  clear w2
  have w2 := w2'
  clear w2'
  have w3' := w3.below k3
  clear w3
  have w3 := w3'
  clear w3'
  have B0' := B0.below k3
  clear B0
  have B0 := B0'
  clear B0'
  have B1' := B1.below k3
  clear B1
  have B1 := B1'
  clear B1'
  have B2' := B2.below k3
  clear B2
  have B2 := B2'
  clear B2'
  have B3' := B3.below k3
  clear B3
  have B3 := B3'
  clear B3'
  have kb' := kb.trans (k3.mono kb.size)
  clear kb k3
  have kb := kb'
  clear kb'
  go_wp2_with (first | go_skip | (refine CelG.gload SE _ rfl _ rfl a0 B0 rfl ?_) | (refine CelG.gload SE _ rfl _ rfl a1 B1 rfl ?_) | (refine CelG.gload SE _ rfl _ rfl a2 B2 rfl ?_) | (refine CelG.gload SE _ rfl _ rfl a3 B3 rfl ?_))
  have hc := few_ret a2 _ w2 g2
  rw [X2.out] at hc
  refine hc.mono ?_
  clear hc
  rintro e W4 ⟨rfl, k4⟩
  have w0' := w0.below k4
  clear w0
  have w0 := w0'
  clear w0'
  have w1' := w1.below k4
  clear w1
  have w1 := w1'
  clear w1'
  have w2' := w2.below k4
  clear w2
  have w2 := w2'
  clear w2'
  have w3' := w3.below k4
  clear w3
  have w3 := w3'
  clear w3'
  have B0' := B0.below k4
  clear B0
  have B0 := B0'
  clear B0'
  have B1' := B1.below k4
  clear B1
  have B1 := B1'
  clear B1'
  have B2' := B2.below k4
  clear B2
  have B2 := B2'
  clear B2'
  have B3' := B3.below k4
  clear B3
  have B3 := B3'
  clear B3'
  have kb' := kb.trans (k4.mono kb.size)
  clear kb k4
  have kb := kb'
  clear kb'
  go_wp2_with (first | go_skip | (refine CelG.gload SE _ rfl _ rfl a0 B0 rfl ?_) | (refine CelG.gload SE _ rfl _ rfl a1 B1 rfl ?_) | (refine CelG.gload SE _ rfl _ rfl a2 B2 rfl ?_) | (refine CelG.gload SE _ rfl _ rfl a3 B3 rfl ?_))
  have hc := few_ret a3 _ w3 g3
  rw [X3.out] at hc
  refine hc.mono ?_
  clear hc
  rintro e W5 ⟨rfl, k5⟩
  have w0' := w0.below k5
  clear w0
  have w0 := w0'
  clear w0'
  have w1' := w1.below k5
  clear w1
  have w1 := w1'
  clear w1'
  have w2' := w2.below k5
  clear w2
  have w2 := w2'
  clear w2'
  have w3' := w3.below k5
  clear w3
  have w3 := w3'
  clear w3'
  have B0' := B0.below k5
  clear B0
  have B0 := B0'
  clear B0'
  have B1' := B1.below k5
  clear B1
  have B1 := B1'
  clear B1'
  have B2' := B2.below k5
  clear B2
  have B2 := B2'
  clear B2'
  have B3' := B3.below k5
  clear B3
  have B3 := B3'
  clear B3'
  have kb' := kb.trans (k5.mono kb.size)
  clear kb k5
  have kb := kb'
  clear kb'
  go_wp2_with (first | go_skip | (refine CelG.gload SE _ rfl _ rfl a0 B0 rfl ?_) | (refine CelG.gload SE _ rfl _ rfl a1 B1 rfl ?_) | (refine CelG.gload SE _ rfl _ rfl a2 B2 rfl ?_) | (refine CelG.gload SE _ rfl _ rfl a3 B3 rfl ?_))
  have hc := StE.may_ret a0 _ w0 f0 y0
  rw [M0.out] at hc
  refine hc.mono ?_
  clear hc
  rintro e W6 ⟨rfl, k6⟩
  have w0' := w0.below k6
  clear w0
  have w0 := w0'
  clear w0'
  have w1' := w1.below k6
  clear w1
  have w1 := w1'
  clear w1'
  have w2' := w2.below k6
  clear w2
  have w2 := w2'
  clear w2'
  have w3' := w3.below k6
  clear w3
  have w3 := w3'
  clear w3'
  have B0' := B0.below k6
  clear B0
  have B0 := B0'
  clear B0'
  have B1' := B1.below k6
  clear B1
  have B1 := B1'
  clear B1'
  have B2' := B2.below k6
  clear B2
  have B2 := B2'
  clear B2'
  have B3' := B3.below k6
  clear B3
  have B3 := B3'
  clear B3'
  have kb' := kb.trans (k6.mono kb.size)
  clear kb k6
  have kb := kb'
  clear kb'
  go_wp2_with (first | go_skip | (refine CelG.gload SE _ rfl _ rfl a0 B0 rfl ?_) | (refine CelG.gload SE _ rfl _ rfl a1 B1 rfl ?_) | (refine CelG.gload SE _ rfl _ rfl a2 B2 rfl ?_) | (refine CelG.gload SE _ rfl _ rfl a3 B3 rfl ?_))
  have hc := StE.may_ret a1 _ w1 f1 y1
  rw [M1.out] at hc
  refine hc.mono ?_
  clear hc
  rintro e W7 ⟨rfl, k7⟩
  have w0' := w0.below k7
  clear w0
  have w0 := w0'
  clear w0'
  have w1' := w1.below k7
  clear w1
  have w1 := w1'
  clear w1'
  have w2' := w2.below k7
  clear w2
  have w2 := w2'
  clear w2'
  have w3' := w3.below k7
  clear w3
  have w3 := w3'
  clear w3'
  have B0' := B0.below k7
  clear B0
  have B0 := B0'
  clear B0'
  have B1' := B1.below k7
  clear B1
  have B1 := B1'
  clear B1'
  have B2' := B2.below k7
  clear B2
  have B2 := B2'
  clear B2'
  have B3' := B3.below k7
  clear B3
  have B3 := B3'
  clear B3'
  have kb' := kb.trans (k7.mono kb.size)
  clear kb k7
  have kb := kb'
  clear kb'
  go_wp2_with (first | go_skip | (refine CelG.gload SE _ rfl _ rfl a0 B0 rfl ?_) | (refine CelG.gload SE _ rfl _ rfl a1 B1 rfl ?_) | (refine CelG.gload SE _ rfl _ rfl a2 B2 rfl ?_) | (refine CelG.gload SE _ rfl _ rfl a3 B3 rfl ?_))
  go_ret
  exact ⟨by first | rfl | simp, kb⟩

set_option maxRecDepth 100000 in
set_option maxHeartbeats 16000000 in
theorem outm2 (a0 : Sv) (a1 : Sv) (a2 : Sv) (a3 : Sv) (w : World) (w0 : In w a0) (g0 : OpenS.Good a0.s) (w1 : In w a1) (g1 : OpenS.Good a1.s) (w2 : In w a2) (g2 : OpenS.Good a2.s) (w3 : In w a3) (g3 : OpenS.Good a3.s) (x0 : fewS a0.s = true) (x1 : fewS a1.s = true) (x2 : fewS a2.s = true) (x3 : fewS a3.s = true) (m0 : mayS a0.s = true) (m1 : mayS a1.s = true) (m2 : mayS a2.s = false) :
    Calls Try.prog 5 #[.agg (sc a0), .agg (sc a1), .agg (sc a2), .agg (sc a3)] w fun e w' => e = .returned (.bool true) ∧ Below w.heap.size w w' := by
  have y0 := (few_len x0).le (show 30 ≤ 1000 by omega)
  have f0 := fits x0 g0
  have X0 := aside x0
  have y1 := (few_len x1).le (show 30 ≤ 1000 by omega)
  have f1 := fits x1 g1
  have X1 := aside x1
  have y2 := (few_len x2).le (show 30 ≤ 1000 by omega)
  have f2 := fits x2 g2
  have X2 := aside x2
  have y3 := (few_len x3).le (show 30 ≤ 1000 by omega)
  have f3 := fits x3 g3
  have X3 := aside x3
  have M0 := aside m0
  have M1 := aside m1
  have M2 := aside m2
  clear x0 x1 x2 x3 m0 m1 m2
  have B0 : Cel.Box SE (w.alloc (.cells (sc a0) 26)) (w.heap.size) a0 := by exact Cel.Box.new (E := SE) w a0 _
  have k0 := StW.below_alloc w (.cells (sc a0) 26)
  have w0' := w0.below k0
  clear w0
  have w0 := w0'
  clear w0'
  have w1' := w1.below k0
  clear w1
  have w1 := w1'
  clear w1'
  have w2' := w2.below k0
  clear w2
  have w2 := w2'
  clear w2'
  have w3' := w3.below k0
  clear w3
  have w3 := w3'
  clear w3'
  have kb := k0
  clear k0
  have z1 : (w.alloc (.cells (sc a0) 26)).heap.size = w.heap.size + 1 := by simp
  have B1 : Cel.Box SE ((w.alloc (.cells (sc a0) 26)).alloc (.cells (sc a1) 26)) (w.heap.size + 1) a1 := by rw [← z1]; exact Cel.Box.new (E := SE) (w.alloc (.cells (sc a0) 26)) a1 _
  have k1 := StW.below_alloc (w.alloc (.cells (sc a0) 26)) (.cells (sc a1) 26)
  have w0' := w0.below k1
  clear w0
  have w0 := w0'
  clear w0'
  have w1' := w1.below k1
  clear w1
  have w1 := w1'
  clear w1'
  have w2' := w2.below k1
  clear w2
  have w2 := w2'
  clear w2'
  have w3' := w3.below k1
  clear w3
  have w3 := w3'
  clear w3'
  have B0' := B0.below k1
  clear B0
  have B0 := B0'
  clear B0'
  have kb' := kb.trans (k1.mono kb.size)
  clear kb k1
  have kb := kb'
  clear kb'
  have z2 : ((w.alloc (.cells (sc a0) 26)).alloc (.cells (sc a1) 26)).heap.size = w.heap.size + 2 := by simp
  have B2 : Cel.Box SE (((w.alloc (.cells (sc a0) 26)).alloc (.cells (sc a1) 26)).alloc (.cells (sc a2) 26)) (w.heap.size + 2) a2 := by rw [← z2]; exact Cel.Box.new (E := SE) ((w.alloc (.cells (sc a0) 26)).alloc (.cells (sc a1) 26)) a2 _
  have k2 := StW.below_alloc ((w.alloc (.cells (sc a0) 26)).alloc (.cells (sc a1) 26)) (.cells (sc a2) 26)
  have w0' := w0.below k2
  clear w0
  have w0 := w0'
  clear w0'
  have w1' := w1.below k2
  clear w1
  have w1 := w1'
  clear w1'
  have w2' := w2.below k2
  clear w2
  have w2 := w2'
  clear w2'
  have w3' := w3.below k2
  clear w3
  have w3 := w3'
  clear w3'
  have B0' := B0.below k2
  clear B0
  have B0 := B0'
  clear B0'
  have B1' := B1.below k2
  clear B1
  have B1 := B1'
  clear B1'
  have kb' := kb.trans (k2.mono kb.size)
  clear kb k2
  have kb := kb'
  clear kb'
  have z3 : (((w.alloc (.cells (sc a0) 26)).alloc (.cells (sc a1) 26)).alloc (.cells (sc a2) 26)).heap.size = w.heap.size + 3 := by simp
  have B3 : Cel.Box SE ((((w.alloc (.cells (sc a0) 26)).alloc (.cells (sc a1) 26)).alloc (.cells (sc a2) 26)).alloc (.cells (sc a3) 26)) (w.heap.size + 3) a3 := by rw [← z3]; exact Cel.Box.new (E := SE) (((w.alloc (.cells (sc a0) 26)).alloc (.cells (sc a1) 26)).alloc (.cells (sc a2) 26)) a3 _
  have k3 := StW.below_alloc (((w.alloc (.cells (sc a0) 26)).alloc (.cells (sc a1) 26)).alloc (.cells (sc a2) 26)) (.cells (sc a3) 26)
  have w0' := w0.below k3
  clear w0
  have w0 := w0'
  clear w0'
  have w1' := w1.below k3
  clear w1
  have w1 := w1'
  clear w1'
  have w2' := w2.below k3
  clear w2
  have w2 := w2'
  clear w2'
  have w3' := w3.below k3
  clear w3
  have w3 := w3'
  clear w3'
  have B0' := B0.below k3
  clear B0
  have B0 := B0'
  clear B0'
  have B1' := B1.below k3
  clear B1
  have B1 := B1'
  clear B1'
  have B2' := B2.below k3
  clear B2
  have B2 := B2'
  clear B2'
  have kb' := kb.trans (k3.mono kb.size)
  clear kb k3
  have kb := kb'
  clear kb'
  go_enter Try.func5, Try.ntmps5
  go_wp2_with fail
  refine (awake _).mono ?_
  rintro e W1 ⟨rfl, k1⟩
  have hb : w.heap.size + 4 ≤ W1.heap.size := Nat.le_trans (by first | (simp; done) | (simp; omega)) k1.size
  clear z1 z2 z3
  have w0' := w0.below k1
  clear w0
  have w0 := w0'
  clear w0'
  have w1' := w1.below k1
  clear w1
  have w1 := w1'
  clear w1'
  have w2' := w2.below k1
  clear w2
  have w2 := w2'
  clear w2'
  have w3' := w3.below k1
  clear w3
  have w3 := w3'
  clear w3'
  have B0' := B0.below k1
  clear B0
  have B0 := B0'
  clear B0'
  have B1' := B1.below k1
  clear B1
  have B1 := B1'
  clear B1'
  have B2' := B2.below k1
  clear B2
  have B2 := B2'
  clear B2'
  have B3' := B3.below k1
  clear B3
  have B3 := B3'
  clear B3'
  have kb' := kb.trans (k1.mono kb.size)
  clear kb k1
  have kb := kb'
  clear kb'
  go_wp2_with (first | go_skip | (refine CelG.gload SE _ rfl _ rfl a0 B0 rfl ?_) | (refine CelG.gload SE _ rfl _ rfl a1 B1 rfl ?_) | (refine CelG.gload SE _ rfl _ rfl a2 B2 rfl ?_) | (refine CelG.gload SE _ rfl _ rfl a3 B3 rfl ?_))
  have hc := few_ret a0 _ w0 g0
  rw [X0.out] at hc
  refine hc.mono ?_
  clear hc
  rintro e W2 ⟨rfl, k2⟩
  have w0' := w0.below k2
  clear w0
  have w0 := w0'
  clear w0'
  have w1' := w1.below k2
  clear w1
  have w1 := w1'
  clear w1'
  have w2' := w2.below k2
  clear w2
  have w2 := w2'
  clear w2'
  have w3' := w3.below k2
  clear w3
  have w3 := w3'
  clear w3'
  have B0' := B0.below k2
  clear B0
  have B0 := B0'
  clear B0'
  have B1' := B1.below k2
  clear B1
  have B1 := B1'
  clear B1'
  have B2' := B2.below k2
  clear B2
  have B2 := B2'
  clear B2'
  have B3' := B3.below k2
  clear B3
  have B3 := B3'
  clear B3'
  have kb' := kb.trans (k2.mono kb.size)
  clear kb k2
  have kb := kb'
  clear kb'
  go_wp2_with (first | go_skip | (refine CelG.gload SE _ rfl _ rfl a0 B0 rfl ?_) | (refine CelG.gload SE _ rfl _ rfl a1 B1 rfl ?_) | (refine CelG.gload SE _ rfl _ rfl a2 B2 rfl ?_) | (refine CelG.gload SE _ rfl _ rfl a3 B3 rfl ?_))
  have hc := few_ret a1 _ w1 g1
  rw [X1.out] at hc
  refine hc.mono ?_
  clear hc
  rintro e W3 ⟨rfl, k3⟩
  have w0' := w0.below k3
  clear w0
  have w0 := w0'
  clear w0'
  have w1' := w1.below k3
  clear w1
  have w1 := w1'
  clear w1'
  have w2' := w2.below k3
  clear w2
  have w2 := w2'
  clear w2'
  have w3' := w3.below k3
  clear w3
  have w3 := w3'
  clear w3'
  have B0' := B0.below k3
  clear B0
  have B0 := B0'
  clear B0'
  have B1' := B1.below k3
  clear B1
  have B1 := B1'
  clear B1'
  have B2' := B2.below k3
  clear B2
  have B2 := B2'
  clear B2'
  have B3' := B3.below k3
  clear B3
  have B3 := B3'
  clear B3'
  have kb' := kb.trans (k3.mono kb.size)
  clear kb k3
  have kb := kb'
  clear kb'
  go_wp2_with (first | go_skip | (refine CelG.gload SE _ rfl _ rfl a0 B0 rfl ?_) | (refine CelG.gload SE _ rfl _ rfl a1 B1 rfl ?_) | (refine CelG.gload SE _ rfl _ rfl a2 B2 rfl ?_) | (refine CelG.gload SE _ rfl _ rfl a3 B3 rfl ?_))
  have hc := few_ret a2 _ w2 g2
  rw [X2.out] at hc
  refine hc.mono ?_
  clear hc
  rintro e W4 ⟨rfl, k4⟩
  have w0' := w0.below k4
  clear w0
  have w0 := w0'
  clear w0'
  have w1' := w1.below k4
  clear w1
  have w1 := w1'
  clear w1'
  have w2' := w2.below k4
  clear w2
  have w2 := w2'
  clear w2'
  have w3' := w3.below k4
  clear w3
  have w3 := w3'
  clear w3'
  have B0' := B0.below k4
  clear B0
  have B0 := B0'
  clear B0'
  have B1' := B1.below k4
  clear B1
  have B1 := B1'
  clear B1'
  have B2' := B2.below k4
  clear B2
  have B2 := B2'
  clear B2'
  have B3' := B3.below k4
  clear B3
  have B3 := B3'
  clear B3'
  have kb' := kb.trans (k4.mono kb.size)
  clear kb k4
  have kb := kb'
  clear kb'
  go_wp2_with (first | go_skip | (refine CelG.gload SE _ rfl _ rfl a0 B0 rfl ?_) | (refine CelG.gload SE _ rfl _ rfl a1 B1 rfl ?_) | (refine CelG.gload SE _ rfl _ rfl a2 B2 rfl ?_) | (refine CelG.gload SE _ rfl _ rfl a3 B3 rfl ?_))
  have hc := few_ret a3 _ w3 g3
  rw [X3.out] at hc
  refine hc.mono ?_
  clear hc
  rintro e W5 ⟨rfl, k5⟩
  have w0' := w0.below k5
  clear w0
  have w0 := w0'
  clear w0'
  have w1' := w1.below k5
  clear w1
  have w1 := w1'
  clear w1'
  have w2' := w2.below k5
  clear w2
  have w2 := w2'
  clear w2'
  have w3' := w3.below k5
  clear w3
  have w3 := w3'
  clear w3'
  have B0' := B0.below k5
  clear B0
  have B0 := B0'
  clear B0'
  have B1' := B1.below k5
  clear B1
  have B1 := B1'
  clear B1'
  have B2' := B2.below k5
  clear B2
  have B2 := B2'
  clear B2'
  have B3' := B3.below k5
  clear B3
  have B3 := B3'
  clear B3'
  have kb' := kb.trans (k5.mono kb.size)
  clear kb k5
  have kb := kb'
  clear kb'
  go_wp2_with (first | go_skip | (refine CelG.gload SE _ rfl _ rfl a0 B0 rfl ?_) | (refine CelG.gload SE _ rfl _ rfl a1 B1 rfl ?_) | (refine CelG.gload SE _ rfl _ rfl a2 B2 rfl ?_) | (refine CelG.gload SE _ rfl _ rfl a3 B3 rfl ?_))
  have hc := StE.may_ret a0 _ w0 f0 y0
  rw [M0.out] at hc
  refine hc.mono ?_
  clear hc
  rintro e W6 ⟨rfl, k6⟩
  have w0' := w0.below k6
  clear w0
  have w0 := w0'
  clear w0'
  have w1' := w1.below k6
  clear w1
  have w1 := w1'
  clear w1'
  have w2' := w2.below k6
  clear w2
  have w2 := w2'
  clear w2'
  have w3' := w3.below k6
  clear w3
  have w3 := w3'
  clear w3'
  have B0' := B0.below k6
  clear B0
  have B0 := B0'
  clear B0'
  have B1' := B1.below k6
  clear B1
  have B1 := B1'
  clear B1'
  have B2' := B2.below k6
  clear B2
  have B2 := B2'
  clear B2'
  have B3' := B3.below k6
  clear B3
  have B3 := B3'
  clear B3'
  have kb' := kb.trans (k6.mono kb.size)
  clear kb k6
  have kb := kb'
  clear kb'
  go_wp2_with (first | go_skip | (refine CelG.gload SE _ rfl _ rfl a0 B0 rfl ?_) | (refine CelG.gload SE _ rfl _ rfl a1 B1 rfl ?_) | (refine CelG.gload SE _ rfl _ rfl a2 B2 rfl ?_) | (refine CelG.gload SE _ rfl _ rfl a3 B3 rfl ?_))
  have hc := StE.may_ret a1 _ w1 f1 y1
  rw [M1.out] at hc
  refine hc.mono ?_
  clear hc
  rintro e W7 ⟨rfl, k7⟩
  have w0' := w0.below k7
  clear w0
  have w0 := w0'
  clear w0'
  have w1' := w1.below k7
  clear w1
  have w1 := w1'
  clear w1'
  have w2' := w2.below k7
  clear w2
  have w2 := w2'
  clear w2'
  have w3' := w3.below k7
  clear w3
  have w3 := w3'
  clear w3'
  have B0' := B0.below k7
  clear B0
  have B0 := B0'
  clear B0'
  have B1' := B1.below k7
  clear B1
  have B1 := B1'
  clear B1'
  have B2' := B2.below k7
  clear B2
  have B2 := B2'
  clear B2'
  have B3' := B3.below k7
  clear B3
  have B3 := B3'
  clear B3'
  have kb' := kb.trans (k7.mono kb.size)
  clear kb k7
  have kb := kb'
  clear kb'
  go_wp2_with (first | go_skip | (refine CelG.gload SE _ rfl _ rfl a0 B0 rfl ?_) | (refine CelG.gload SE _ rfl _ rfl a1 B1 rfl ?_) | (refine CelG.gload SE _ rfl _ rfl a2 B2 rfl ?_) | (refine CelG.gload SE _ rfl _ rfl a3 B3 rfl ?_))
  have hc := StE.may_ret a2 _ w2 f2 y2
  rw [M2.out] at hc
  refine hc.mono ?_
  clear hc
  rintro e W8 ⟨rfl, k8⟩
  have w0' := w0.below k8
  clear w0
  have w0 := w0'
  clear w0'
  have w1' := w1.below k8
  clear w1
  have w1 := w1'
  clear w1'
  have w2' := w2.below k8
  clear w2
  have w2 := w2'
  clear w2'
  have w3' := w3.below k8
  clear w3
  have w3 := w3'
  clear w3'
  have B0' := B0.below k8
  clear B0
  have B0 := B0'
  clear B0'
  have B1' := B1.below k8
  clear B1
  have B1 := B1'
  clear B1'
  have B2' := B2.below k8
  clear B2
  have B2 := B2'
  clear B2'
  have B3' := B3.below k8
  clear B3
  have B3 := B3'
  clear B3'
  have kb' := kb.trans (k8.mono kb.size)
  clear kb k8
  have kb := kb'
  clear kb'
  go_wp2_with (first | go_skip | (refine CelG.gload SE _ rfl _ rfl a0 B0 rfl ?_) | (refine CelG.gload SE _ rfl _ rfl a1 B1 rfl ?_) | (refine CelG.gload SE _ rfl _ rfl a2 B2 rfl ?_) | (refine CelG.gload SE _ rfl _ rfl a3 B3 rfl ?_))
  go_ret
  exact ⟨by first | rfl | simp, kb⟩

set_option maxRecDepth 100000 in
set_option maxHeartbeats 16000000 in
theorem outm3 (a0 : Sv) (a1 : Sv) (a2 : Sv) (a3 : Sv) (w : World) (w0 : In w a0) (g0 : OpenS.Good a0.s) (w1 : In w a1) (g1 : OpenS.Good a1.s) (w2 : In w a2) (g2 : OpenS.Good a2.s) (w3 : In w a3) (g3 : OpenS.Good a3.s) (x0 : fewS a0.s = true) (x1 : fewS a1.s = true) (x2 : fewS a2.s = true) (x3 : fewS a3.s = true) (m0 : mayS a0.s = true) (m1 : mayS a1.s = true) (m2 : mayS a2.s = true) (m3 : mayS a3.s = false) :
    Calls Try.prog 5 #[.agg (sc a0), .agg (sc a1), .agg (sc a2), .agg (sc a3)] w fun e w' => e = .returned (.bool true) ∧ Below w.heap.size w w' := by
  have y0 := (few_len x0).le (show 30 ≤ 1000 by omega)
  have f0 := fits x0 g0
  have X0 := aside x0
  have y1 := (few_len x1).le (show 30 ≤ 1000 by omega)
  have f1 := fits x1 g1
  have X1 := aside x1
  have y2 := (few_len x2).le (show 30 ≤ 1000 by omega)
  have f2 := fits x2 g2
  have X2 := aside x2
  have y3 := (few_len x3).le (show 30 ≤ 1000 by omega)
  have f3 := fits x3 g3
  have X3 := aside x3
  have M0 := aside m0
  have M1 := aside m1
  have M2 := aside m2
  have M3 := aside m3
  clear x0 x1 x2 x3 m0 m1 m2 m3
  have B0 : Cel.Box SE (w.alloc (.cells (sc a0) 26)) (w.heap.size) a0 := by exact Cel.Box.new (E := SE) w a0 _
  have k0 := StW.below_alloc w (.cells (sc a0) 26)
  have w0' := w0.below k0
  clear w0
  have w0 := w0'
  clear w0'
  have w1' := w1.below k0
  clear w1
  have w1 := w1'
  clear w1'
  have w2' := w2.below k0
  clear w2
  have w2 := w2'
  clear w2'
  have w3' := w3.below k0
  clear w3
  have w3 := w3'
  clear w3'
  have kb := k0
  clear k0
  have z1 : (w.alloc (.cells (sc a0) 26)).heap.size = w.heap.size + 1 := by simp
  have B1 : Cel.Box SE ((w.alloc (.cells (sc a0) 26)).alloc (.cells (sc a1) 26)) (w.heap.size + 1) a1 := by rw [← z1]; exact Cel.Box.new (E := SE) (w.alloc (.cells (sc a0) 26)) a1 _
  have k1 := StW.below_alloc (w.alloc (.cells (sc a0) 26)) (.cells (sc a1) 26)
  have w0' := w0.below k1
  clear w0
  have w0 := w0'
  clear w0'
  have w1' := w1.below k1
  clear w1
  have w1 := w1'
  clear w1'
  have w2' := w2.below k1
  clear w2
  have w2 := w2'
  clear w2'
  have w3' := w3.below k1
  clear w3
  have w3 := w3'
  clear w3'
  have B0' := B0.below k1
  clear B0
  have B0 := B0'
  clear B0'
  have kb' := kb.trans (k1.mono kb.size)
  clear kb k1
  have kb := kb'
  clear kb'
  have z2 : ((w.alloc (.cells (sc a0) 26)).alloc (.cells (sc a1) 26)).heap.size = w.heap.size + 2 := by simp
  have B2 : Cel.Box SE (((w.alloc (.cells (sc a0) 26)).alloc (.cells (sc a1) 26)).alloc (.cells (sc a2) 26)) (w.heap.size + 2) a2 := by rw [← z2]; exact Cel.Box.new (E := SE) ((w.alloc (.cells (sc a0) 26)).alloc (.cells (sc a1) 26)) a2 _
  have k2 := StW.below_alloc ((w.alloc (.cells (sc a0) 26)).alloc (.cells (sc a1) 26)) (.cells (sc a2) 26)
  have w0' := w0.below k2
  clear w0
  have w0 := w0'
  clear w0'
  have w1' := w1.below k2
  clear w1
  have w1 := w1'
  clear w1'
  have w2' := w2.below k2
  clear w2
  have w2 := w2'
  clear w2'
  have w3' := w3.below k2
  clear w3
  have w3 := w3'
  clear w3'
  have B0' := B0.below k2
  clear B0
  have B0 := B0'
  clear B0'
  have B1' := B1.below k2
  clear B1
  have B1 := B1'
  clear B1'
  have kb' := kb.trans (k2.mono kb.size)
  clear kb k2
  have kb := kb'
  clear kb'
  have z3 : (((w.alloc (.cells (sc a0) 26)).alloc (.cells (sc a1) 26)).alloc (.cells (sc a2) 26)).heap.size = w.heap.size + 3 := by simp
  have B3 : Cel.Box SE ((((w.alloc (.cells (sc a0) 26)).alloc (.cells (sc a1) 26)).alloc (.cells (sc a2) 26)).alloc (.cells (sc a3) 26)) (w.heap.size + 3) a3 := by rw [← z3]; exact Cel.Box.new (E := SE) (((w.alloc (.cells (sc a0) 26)).alloc (.cells (sc a1) 26)).alloc (.cells (sc a2) 26)) a3 _
  have k3 := StW.below_alloc (((w.alloc (.cells (sc a0) 26)).alloc (.cells (sc a1) 26)).alloc (.cells (sc a2) 26)) (.cells (sc a3) 26)
  have w0' := w0.below k3
  clear w0
  have w0 := w0'
  clear w0'
  have w1' := w1.below k3
  clear w1
  have w1 := w1'
  clear w1'
  have w2' := w2.below k3
  clear w2
  have w2 := w2'
  clear w2'
  have w3' := w3.below k3
  clear w3
  have w3 := w3'
  clear w3'
  have B0' := B0.below k3
  clear B0
  have B0 := B0'
  clear B0'
  have B1' := B1.below k3
  clear B1
  have B1 := B1'
  clear B1'
  have B2' := B2.below k3
  clear B2
  have B2 := B2'
  clear B2'
  have kb' := kb.trans (k3.mono kb.size)
  clear kb k3
  have kb := kb'
  clear kb'
  go_enter Try.func5, Try.ntmps5
  go_wp2_with fail
  refine (awake _).mono ?_
  rintro e W1 ⟨rfl, k1⟩
  have hb : w.heap.size + 4 ≤ W1.heap.size := Nat.le_trans (by first | (simp; done) | (simp; omega)) k1.size
  clear z1 z2 z3
  have w0' := w0.below k1
  clear w0
  have w0 := w0'
  clear w0'
  have w1' := w1.below k1
  clear w1
  have w1 := w1'
  clear w1'
  have w2' := w2.below k1
  clear w2
  have w2 := w2'
  clear w2'
  have w3' := w3.below k1
  clear w3
  have w3 := w3'
  clear w3'
  have B0' := B0.below k1
  clear B0
  have B0 := B0'
  clear B0'
  have B1' := B1.below k1
  clear B1
  have B1 := B1'
  clear B1'
  have B2' := B2.below k1
  clear B2
  have B2 := B2'
  clear B2'
  have B3' := B3.below k1
  clear B3
  have B3 := B3'
  clear B3'
  have kb' := kb.trans (k1.mono kb.size)
  clear kb k1
  have kb := kb'
  clear kb'
  go_wp2_with (first | go_skip | (refine CelG.gload SE _ rfl _ rfl a0 B0 rfl ?_) | (refine CelG.gload SE _ rfl _ rfl a1 B1 rfl ?_) | (refine CelG.gload SE _ rfl _ rfl a2 B2 rfl ?_) | (refine CelG.gload SE _ rfl _ rfl a3 B3 rfl ?_))
  have hc := few_ret a0 _ w0 g0
  rw [X0.out] at hc
  refine hc.mono ?_
  clear hc
  rintro e W2 ⟨rfl, k2⟩
  have w0' := w0.below k2
  clear w0
  have w0 := w0'
  clear w0'
  have w1' := w1.below k2
  clear w1
  have w1 := w1'
  clear w1'
  have w2' := w2.below k2
  clear w2
  have w2 := w2'
  clear w2'
  have w3' := w3.below k2
  clear w3
  have w3 := w3'
  clear w3'
  have B0' := B0.below k2
  clear B0
  have B0 := B0'
  clear B0'
  have B1' := B1.below k2
  clear B1
  have B1 := B1'
  clear B1'
  have B2' := B2.below k2
  clear B2
  have B2 := B2'
  clear B2'
  have B3' := B3.below k2
  clear B3
  have B3 := B3'
  clear B3'
  have kb' := kb.trans (k2.mono kb.size)
  clear kb k2
  have kb := kb'
  clear kb'
  go_wp2_with (first | go_skip | (refine CelG.gload SE _ rfl _ rfl a0 B0 rfl ?_) | (refine CelG.gload SE _ rfl _ rfl a1 B1 rfl ?_) | (refine CelG.gload SE _ rfl _ rfl a2 B2 rfl ?_) | (refine CelG.gload SE _ rfl _ rfl a3 B3 rfl ?_))
  have hc := few_ret a1 _ w1 g1
  rw [X1.out] at hc
  refine hc.mono ?_
  clear hc
  rintro e W3 ⟨rfl, k3⟩
  have w0' := w0.below k3
  clear w0
  have w0 := w0'
  clear w0'
  have w1' := w1.below k3
  clear w1
  have w1 := w1'
  clear w1'
  have w2' := w2.below k3
  clear w2
  have w2 := w2'
  clear w2'
  have w3' := w3.below k3
  clear w3
  have w3 := w3'
  clear w3'
  have B0' := B0.below k3
  clear B0
  have B0 := B0'
  clear B0'
  have B1' := B1.below k3
  clear B1
  have B1 := B1'
  clear B1'
  have B2' := B2.below k3
  clear B2
  have B2 := B2'
  clear B2'
  have B3' := B3.below k3
  clear B3
  have B3 := B3'
  clear B3'
  have kb' := kb.trans (k3.mono kb.size)
  clear kb k3
  have kb := kb'
  clear kb'
  go_wp2_with (first | go_skip | (refine CelG.gload SE _ rfl _ rfl a0 B0 rfl ?_) | (refine CelG.gload SE _ rfl _ rfl a1 B1 rfl ?_) | (refine CelG.gload SE _ rfl _ rfl a2 B2 rfl ?_) | (refine CelG.gload SE _ rfl _ rfl a3 B3 rfl ?_))
  have hc := few_ret a2 _ w2 g2
  rw [X2.out] at hc
  refine hc.mono ?_
  clear hc
  rintro e W4 ⟨rfl, k4⟩
  have w0' := w0.below k4
  clear w0
  have w0 := w0'
  clear w0'
  have w1' := w1.below k4
  clear w1
  have w1 := w1'
  clear w1'
  have w2' := w2.below k4
  clear w2
  have w2 := w2'
  clear w2'
  have w3' := w3.below k4
  clear w3
  have w3 := w3'
  clear w3'
  have B0' := B0.below k4
  clear B0
  have B0 := B0'
  clear B0'
  have B1' := B1.below k4
  clear B1
  have B1 := B1'
  clear B1'
  have B2' := B2.below k4
  clear B2
  have B2 := B2'
  clear B2'
  have B3' := B3.below k4
  clear B3
  have B3 := B3'
  clear B3'
  have kb' := kb.trans (k4.mono kb.size)
  clear kb k4
  have kb := kb'
  clear kb'
  go_wp2_with (first | go_skip | (refine CelG.gload SE _ rfl _ rfl a0 B0 rfl ?_) | (refine CelG.gload SE _ rfl _ rfl a1 B1 rfl ?_) | (refine CelG.gload SE _ rfl _ rfl a2 B2 rfl ?_) | (refine CelG.gload SE _ rfl _ rfl a3 B3 rfl ?_))
  have hc := few_ret a3 _ w3 g3
  rw [X3.out] at hc
  refine hc.mono ?_
  clear hc
  rintro e W5 ⟨rfl, k5⟩
  have w0' := w0.below k5
  clear w0
  have w0 := w0'
  clear w0'
  have w1' := w1.below k5
  clear w1
  have w1 := w1'
  clear w1'
  have w2' := w2.below k5
  clear w2
  have w2 := w2'
  clear w2'
  have w3' := w3.below k5
  clear w3
  have w3 := w3'
  clear w3'
  have B0' := B0.below k5
  clear B0
  have B0 := B0'
  clear B0'
  have B1' := B1.below k5
  clear B1
  have B1 := B1'
  clear B1'
  have B2' := B2.below k5
  clear B2
  have B2 := B2'
  clear B2'
  have B3' := B3.below k5
  clear B3
  have B3 := B3'
  clear B3'
  have kb' := kb.trans (k5.mono kb.size)
  clear kb k5
  have kb := kb'
  clear kb'
  go_wp2_with (first | go_skip | (refine CelG.gload SE _ rfl _ rfl a0 B0 rfl ?_) | (refine CelG.gload SE _ rfl _ rfl a1 B1 rfl ?_) | (refine CelG.gload SE _ rfl _ rfl a2 B2 rfl ?_) | (refine CelG.gload SE _ rfl _ rfl a3 B3 rfl ?_))
  have hc := StE.may_ret a0 _ w0 f0 y0
  rw [M0.out] at hc
  refine hc.mono ?_
  clear hc
  rintro e W6 ⟨rfl, k6⟩
  have w0' := w0.below k6
  clear w0
  have w0 := w0'
  clear w0'
  have w1' := w1.below k6
  clear w1
  have w1 := w1'
  clear w1'
  have w2' := w2.below k6
  clear w2
  have w2 := w2'
  clear w2'
  have w3' := w3.below k6
  clear w3
  have w3 := w3'
  clear w3'
  have B0' := B0.below k6
  clear B0
  have B0 := B0'
  clear B0'
  have B1' := B1.below k6
  clear B1
  have B1 := B1'
  clear B1'
  have B2' := B2.below k6
  clear B2
  have B2 := B2'
  clear B2'
  have B3' := B3.below k6
  clear B3
  have B3 := B3'
  clear B3'
  have kb' := kb.trans (k6.mono kb.size)
  clear kb k6
  have kb := kb'
  clear kb'
  go_wp2_with (first | go_skip | (refine CelG.gload SE _ rfl _ rfl a0 B0 rfl ?_) | (refine CelG.gload SE _ rfl _ rfl a1 B1 rfl ?_) | (refine CelG.gload SE _ rfl _ rfl a2 B2 rfl ?_) | (refine CelG.gload SE _ rfl _ rfl a3 B3 rfl ?_))
  have hc := StE.may_ret a1 _ w1 f1 y1
  rw [M1.out] at hc
  refine hc.mono ?_
  clear hc
  rintro e W7 ⟨rfl, k7⟩
  have w0' := w0.below k7
  clear w0
  have w0 := w0'
  clear w0'
  have w1' := w1.below k7
  clear w1
  have w1 := w1'
  clear w1'
  have w2' := w2.below k7
  clear w2
  have w2 := w2'
  clear w2'
  have w3' := w3.below k7
  clear w3
  have w3 := w3'
  clear w3'
  have B0' := B0.below k7
  clear B0
  have B0 := B0'
  clear B0'
  have B1' := B1.below k7
  clear B1
  have B1 := B1'
  clear B1'
  have B2' := B2.below k7
  clear B2
  have B2 := B2'
  clear B2'
  have B3' := B3.below k7
  clear B3
  have B3 := B3'
  clear B3'
  have kb' := kb.trans (k7.mono kb.size)
  clear kb k7
  have kb := kb'
  clear kb'
  go_wp2_with (first | go_skip | (refine CelG.gload SE _ rfl _ rfl a0 B0 rfl ?_) | (refine CelG.gload SE _ rfl _ rfl a1 B1 rfl ?_) | (refine CelG.gload SE _ rfl _ rfl a2 B2 rfl ?_) | (refine CelG.gload SE _ rfl _ rfl a3 B3 rfl ?_))
  have hc := StE.may_ret a2 _ w2 f2 y2
  rw [M2.out] at hc
  refine hc.mono ?_
  clear hc
  rintro e W8 ⟨rfl, k8⟩
  have w0' := w0.below k8
  clear w0
  have w0 := w0'
  clear w0'
  have w1' := w1.below k8
  clear w1
  have w1 := w1'
  clear w1'
  have w2' := w2.below k8
  clear w2
  have w2 := w2'
  clear w2'
  have w3' := w3.below k8
  clear w3
  have w3 := w3'
  clear w3'
  have B0' := B0.below k8
  clear B0
  have B0 := B0'
  clear B0'
  have B1' := B1.below k8
  clear B1
  have B1 := B1'
  clear B1'
  have B2' := B2.below k8
  clear B2
  have B2 := B2'
  clear B2'
  have B3' := B3.below k8
  clear B3
  have B3 := B3'
  clear B3'
  have kb' := kb.trans (k8.mono kb.size)
  clear kb k8
  have kb := kb'
  clear kb'
  go_wp2_with (first | go_skip | (refine CelG.gload SE _ rfl _ rfl a0 B0 rfl ?_) | (refine CelG.gload SE _ rfl _ rfl a1 B1 rfl ?_) | (refine CelG.gload SE _ rfl _ rfl a2 B2 rfl ?_) | (refine CelG.gload SE _ rfl _ rfl a3 B3 rfl ?_))
  have hc := StE.may_ret a3 _ w3 f3 y3
  rw [M3.out] at hc
  refine hc.mono ?_
  clear hc
  rintro e W9 ⟨rfl, k9⟩
  have w0' := w0.below k9
  clear w0
  have w0 := w0'
  clear w0'
  have w1' := w1.below k9
  clear w1
  have w1 := w1'
  clear w1'
  have w2' := w2.below k9
  clear w2
  have w2 := w2'
  clear w2'
  have w3' := w3.below k9
  clear w3
  have w3 := w3'
  clear w3'
  have B0' := B0.below k9
  clear B0
  have B0 := B0'
  clear B0'
  have B1' := B1.below k9
  clear B1
  have B1 := B1'
  clear B1'
  have B2' := B2.below k9
  clear B2
  have B2 := B2'
  clear B2'
  have B3' := B3.below k9
  clear B3
  have B3 := B3'
  clear B3'
  have kb' := kb.trans (k9.mono kb.size)
  clear kb k9
  have kb := kb'
  clear kb'
  go_wp2_with (first | go_skip | (refine CelG.gload SE _ rfl _ rfl a0 B0 rfl ?_) | (refine CelG.gload SE _ rfl _ rfl a1 B1 rfl ?_) | (refine CelG.gload SE _ rfl _ rfl a2 B2 rfl ?_) | (refine CelG.gload SE _ rfl _ rfl a3 B3 rfl ?_))
  go_ret
  exact ⟨by first | rfl | simp, kb⟩

set_option maxRecDepth 100000 in
set_option maxHeartbeats 32000000 in
theorem within (a0 : Sv) (a1 : Sv) (a2 : Sv) (a3 : Sv) (w : World) (w0 : In w a0) (g0 : OpenS.Good a0.s) (w1 : In w a1) (g1 : OpenS.Good a1.s) (w2 : In w a2) (g2 : OpenS.Good a2.s) (w3 : In w a3) (g3 : OpenS.Good a3.s) (x0 : fewS a0.s = true) (x1 : fewS a1.s = true) (x2 : fewS a2.s = true) (x3 : fewS a3.s = true) (m0 : mayS a0.s = true) (m1 : mayS a1.s = true) (m2 : mayS a2.s = true) (m3 : mayS a3.s = true) :
    Calls Try.prog 5 #[.agg (sc a0), .agg (sc a1), .agg (sc a2), .agg (sc a3)] w fun e w' => e = .returned (.bool true) ∧ Below w.heap.size w w' := by
  have y0 := (few_len x0).le (show 30 ≤ 1000 by omega)
  have f0 := fits x0 g0
  have X0 := aside x0
  have y1 := (few_len x1).le (show 30 ≤ 1000 by omega)
  have f1 := fits x1 g1
  have X1 := aside x1
  have y2 := (few_len x2).le (show 30 ≤ 1000 by omega)
  have f2 := fits x2 g2
  have X2 := aside x2
  have y3 := (few_len x3).le (show 30 ≤ 1000 by omega)
  have f3 := fits x3 g3
  have X3 := aside x3
  have e1 := merge_some m0 m1 m2
  have e2 := merge_some m0 m2 m3
  have e3 := merge_some m0 (join_may m0 m1 m2) m3
  have e4 := merge_some m0 m1 (join_may m0 m2 m3)
  have e5 := merge_some m1 m1 m1
  rw [join_three m0 m1 m2 m3] at e3
  rw [join_self m1 (in_of f1)] at e5
  have r1 := ((join_len (few_len x0) (few_len x1) (few_len x2))).le (show 30 + 30 + 30 ≤ 1000 by omega)
  have r2 := ((join_len (few_len x0) (few_len x2) (few_len x3))).le (show 30 + 30 + 30 ≤ 1000 by omega)
  have q1 := join_fits a0.s f1 f2
  have q2 := join_fits a0.s f2 f3
  obtain ⟨X, hX⟩ : ∃ l, joinS a0.s a1.s a2.s = l := ⟨_, rfl⟩
  obtain ⟨Y, hY⟩ : ∃ l, joinS a0.s a2.s a3.s = l := ⟨_, rfl⟩
  rw [hX] at r1 q1 e1 e3
  rw [hY] at r2 q2 e2 e3 e4
  obtain ⟨Z, hZ⟩ : ∃ l, joinS a0.s a1.s Y = l := ⟨_, rfl⟩
  rw [hZ] at e3 e4
  have E1 := aside e1
  have E2 := aside e2
  have E3 := aside e3
  have E4 := aside e4
  have E5 := aside e5
  have M0 := aside m0
  have M1 := aside m1
  have M2 := aside m2
  have M3 := aside m3
  clear x0 m0 x1 m1 x2 m2 x3 m3 e1 e2 e3 e4 e5 hX hY hZ
  have B0 : Cel.Box SE (w.alloc (.cells (sc a0) 26)) (w.heap.size) a0 := by exact Cel.Box.new (E := SE) w a0 _
  have k0 := StW.below_alloc w (.cells (sc a0) 26)
  have w0' := w0.below k0
  clear w0
  have w0 := w0'
  clear w0'
  have w1' := w1.below k0
  clear w1
  have w1 := w1'
  clear w1'
  have w2' := w2.below k0
  clear w2
  have w2 := w2'
  clear w2'
  have w3' := w3.below k0
  clear w3
  have w3 := w3'
  clear w3'
  have kb := k0
  clear k0
  have z1 : (w.alloc (.cells (sc a0) 26)).heap.size = w.heap.size + 1 := by simp
  have B1 : Cel.Box SE ((w.alloc (.cells (sc a0) 26)).alloc (.cells (sc a1) 26)) (w.heap.size + 1) a1 := by rw [← z1]; exact Cel.Box.new (E := SE) (w.alloc (.cells (sc a0) 26)) a1 _
  have k1 := StW.below_alloc (w.alloc (.cells (sc a0) 26)) (.cells (sc a1) 26)
  have w0' := w0.below k1
  clear w0
  have w0 := w0'
  clear w0'
  have w1' := w1.below k1
  clear w1
  have w1 := w1'
  clear w1'
  have w2' := w2.below k1
  clear w2
  have w2 := w2'
  clear w2'
  have w3' := w3.below k1
  clear w3
  have w3 := w3'
  clear w3'
  have B0' := B0.below k1
  clear B0
  have B0 := B0'
  clear B0'
  have kb' := kb.trans (k1.mono kb.size)
  clear kb k1
  have kb := kb'
  clear kb'
  have z2 : ((w.alloc (.cells (sc a0) 26)).alloc (.cells (sc a1) 26)).heap.size = w.heap.size + 2 := by simp
  have B2 : Cel.Box SE (((w.alloc (.cells (sc a0) 26)).alloc (.cells (sc a1) 26)).alloc (.cells (sc a2) 26)) (w.heap.size + 2) a2 := by rw [← z2]; exact Cel.Box.new (E := SE) ((w.alloc (.cells (sc a0) 26)).alloc (.cells (sc a1) 26)) a2 _
  have k2 := StW.below_alloc ((w.alloc (.cells (sc a0) 26)).alloc (.cells (sc a1) 26)) (.cells (sc a2) 26)
  have w0' := w0.below k2
  clear w0
  have w0 := w0'
  clear w0'
  have w1' := w1.below k2
  clear w1
  have w1 := w1'
  clear w1'
  have w2' := w2.below k2
  clear w2
  have w2 := w2'
  clear w2'
  have w3' := w3.below k2
  clear w3
  have w3 := w3'
  clear w3'
  have B0' := B0.below k2
  clear B0
  have B0 := B0'
  clear B0'
  have B1' := B1.below k2
  clear B1
  have B1 := B1'
  clear B1'
  have kb' := kb.trans (k2.mono kb.size)
  clear kb k2
  have kb := kb'
  clear kb'
  have z3 : (((w.alloc (.cells (sc a0) 26)).alloc (.cells (sc a1) 26)).alloc (.cells (sc a2) 26)).heap.size = w.heap.size + 3 := by simp
  have B3 : Cel.Box SE ((((w.alloc (.cells (sc a0) 26)).alloc (.cells (sc a1) 26)).alloc (.cells (sc a2) 26)).alloc (.cells (sc a3) 26)) (w.heap.size + 3) a3 := by rw [← z3]; exact Cel.Box.new (E := SE) (((w.alloc (.cells (sc a0) 26)).alloc (.cells (sc a1) 26)).alloc (.cells (sc a2) 26)) a3 _
  have k3 := StW.below_alloc (((w.alloc (.cells (sc a0) 26)).alloc (.cells (sc a1) 26)).alloc (.cells (sc a2) 26)) (.cells (sc a3) 26)
  have w0' := w0.below k3
  clear w0
  have w0 := w0'
  clear w0'
  have w1' := w1.below k3
  clear w1
  have w1 := w1'
  clear w1'
  have w2' := w2.below k3
  clear w2
  have w2 := w2'
  clear w2'
  have w3' := w3.below k3
  clear w3
  have w3 := w3'
  clear w3'
  have B0' := B0.below k3
  clear B0
  have B0 := B0'
  clear B0'
  have B1' := B1.below k3
  clear B1
  have B1 := B1'
  clear B1'
  have B2' := B2.below k3
  clear B2
  have B2 := B2'
  clear B2'
  have kb' := kb.trans (k3.mono kb.size)
  clear kb k3
  have kb := kb'
  clear kb'
  go_enter Try.func5, Try.ntmps5
  go_wp2_with fail
  refine (awake _).mono ?_
  rintro e W1 ⟨rfl, k1⟩
  have hb : w.heap.size + 4 ≤ W1.heap.size := Nat.le_trans (by first | (simp; done) | (simp; omega)) k1.size
  clear z1 z2 z3
  have w0' := w0.below k1
  clear w0
  have w0 := w0'
  clear w0'
  have w1' := w1.below k1
  clear w1
  have w1 := w1'
  clear w1'
  have w2' := w2.below k1
  clear w2
  have w2 := w2'
  clear w2'
  have w3' := w3.below k1
  clear w3
  have w3 := w3'
  clear w3'
  have B0' := B0.below k1
  clear B0
  have B0 := B0'
  clear B0'
  have B1' := B1.below k1
  clear B1
  have B1 := B1'
  clear B1'
  have B2' := B2.below k1
  clear B2
  have B2 := B2'
  clear B2'
  have B3' := B3.below k1
  clear B3
  have B3 := B3'
  clear B3'
  have kb' := kb.trans (k1.mono kb.size)
  clear kb k1
  have kb := kb'
  clear kb'
  go_wp2_with (first | go_skip | (refine CelG.gload SE _ rfl _ rfl a0 B0 rfl ?_) | (refine CelG.gload SE _ rfl _ rfl a1 B1 rfl ?_) | (refine CelG.gload SE _ rfl _ rfl a2 B2 rfl ?_) | (refine CelG.gload SE _ rfl _ rfl a3 B3 rfl ?_))
  have hc := few_ret a0 _ w0 g0
  rw [X0.out] at hc
  refine hc.mono ?_
  clear hc
  rintro e W2 ⟨rfl, k2⟩
  have w0' := w0.below k2
  clear w0
  have w0 := w0'
  clear w0'
  have w1' := w1.below k2
  clear w1
  have w1 := w1'
  clear w1'
  have w2' := w2.below k2
  clear w2
  have w2 := w2'
  clear w2'
  have w3' := w3.below k2
  clear w3
  have w3 := w3'
  clear w3'
  have B0' := B0.below k2
  clear B0
  have B0 := B0'
  clear B0'
  have B1' := B1.below k2
  clear B1
  have B1 := B1'
  clear B1'
  have B2' := B2.below k2
  clear B2
  have B2 := B2'
  clear B2'
  have B3' := B3.below k2
  clear B3
  have B3 := B3'
  clear B3'
  have kb' := kb.trans (k2.mono kb.size)
  clear kb k2
  have kb := kb'
  clear kb'
  go_wp2_with (first | go_skip | (refine CelG.gload SE _ rfl _ rfl a0 B0 rfl ?_) | (refine CelG.gload SE _ rfl _ rfl a1 B1 rfl ?_) | (refine CelG.gload SE _ rfl _ rfl a2 B2 rfl ?_) | (refine CelG.gload SE _ rfl _ rfl a3 B3 rfl ?_))
  have hc := few_ret a1 _ w1 g1
  rw [X1.out] at hc
  refine hc.mono ?_
  clear hc
  rintro e W3 ⟨rfl, k3⟩
  have w0' := w0.below k3
  clear w0
  have w0 := w0'
  clear w0'
  have w1' := w1.below k3
  clear w1
  have w1 := w1'
  clear w1'
  have w2' := w2.below k3
  clear w2
  have w2 := w2'
  clear w2'
  have w3' := w3.below k3
  clear w3
  have w3 := w3'
  clear w3'
  have B0' := B0.below k3
  clear B0
  have B0 := B0'
  clear B0'
  have B1' := B1.below k3
  clear B1
  have B1 := B1'
  clear B1'
  have B2' := B2.below k3
  clear B2
  have B2 := B2'
  clear B2'
  have B3' := B3.below k3
  clear B3
  have B3 := B3'
  clear B3'
  have kb' := kb.trans (k3.mono kb.size)
  clear kb k3
  have kb := kb'
  clear kb'
  go_wp2_with (first | go_skip | (refine CelG.gload SE _ rfl _ rfl a0 B0 rfl ?_) | (refine CelG.gload SE _ rfl _ rfl a1 B1 rfl ?_) | (refine CelG.gload SE _ rfl _ rfl a2 B2 rfl ?_) | (refine CelG.gload SE _ rfl _ rfl a3 B3 rfl ?_))
  have hc := few_ret a2 _ w2 g2
  rw [X2.out] at hc
  refine hc.mono ?_
  clear hc
  rintro e W4 ⟨rfl, k4⟩
  have w0' := w0.below k4
  clear w0
  have w0 := w0'
  clear w0'
  have w1' := w1.below k4
  clear w1
  have w1 := w1'
  clear w1'
  have w2' := w2.below k4
  clear w2
  have w2 := w2'
  clear w2'
  have w3' := w3.below k4
  clear w3
  have w3 := w3'
  clear w3'
  have B0' := B0.below k4
  clear B0
  have B0 := B0'
  clear B0'
  have B1' := B1.below k4
  clear B1
  have B1 := B1'
  clear B1'
  have B2' := B2.below k4
  clear B2
  have B2 := B2'
  clear B2'
  have B3' := B3.below k4
  clear B3
  have B3 := B3'
  clear B3'
  have kb' := kb.trans (k4.mono kb.size)
  clear kb k4
  have kb := kb'
  clear kb'
  go_wp2_with (first | go_skip | (refine CelG.gload SE _ rfl _ rfl a0 B0 rfl ?_) | (refine CelG.gload SE _ rfl _ rfl a1 B1 rfl ?_) | (refine CelG.gload SE _ rfl _ rfl a2 B2 rfl ?_) | (refine CelG.gload SE _ rfl _ rfl a3 B3 rfl ?_))
  have hc := few_ret a3 _ w3 g3
  rw [X3.out] at hc
  refine hc.mono ?_
  clear hc
  rintro e W5 ⟨rfl, k5⟩
  have w0' := w0.below k5
  clear w0
  have w0 := w0'
  clear w0'
  have w1' := w1.below k5
  clear w1
  have w1 := w1'
  clear w1'
  have w2' := w2.below k5
  clear w2
  have w2 := w2'
  clear w2'
  have w3' := w3.below k5
  clear w3
  have w3 := w3'
  clear w3'
  have B0' := B0.below k5
  clear B0
  have B0 := B0'
  clear B0'
  have B1' := B1.below k5
  clear B1
  have B1 := B1'
  clear B1'
  have B2' := B2.below k5
  clear B2
  have B2 := B2'
  clear B2'
  have B3' := B3.below k5
  clear B3
  have B3 := B3'
  clear B3'
  have kb' := kb.trans (k5.mono kb.size)
  clear kb k5
  have kb := kb'
  clear kb'
  go_wp2_with (first | go_skip | (refine CelG.gload SE _ rfl _ rfl a0 B0 rfl ?_) | (refine CelG.gload SE _ rfl _ rfl a1 B1 rfl ?_) | (refine CelG.gload SE _ rfl _ rfl a2 B2 rfl ?_) | (refine CelG.gload SE _ rfl _ rfl a3 B3 rfl ?_))
  have hc := StE.may_ret a0 _ w0 f0 y0
  rw [M0.out] at hc
  refine hc.mono ?_
  clear hc
  rintro e W6 ⟨rfl, k6⟩
  have w0' := w0.below k6
  clear w0
  have w0 := w0'
  clear w0'
  have w1' := w1.below k6
  clear w1
  have w1 := w1'
  clear w1'
  have w2' := w2.below k6
  clear w2
  have w2 := w2'
  clear w2'
  have w3' := w3.below k6
  clear w3
  have w3 := w3'
  clear w3'
  have B0' := B0.below k6
  clear B0
  have B0 := B0'
  clear B0'
  have B1' := B1.below k6
  clear B1
  have B1 := B1'
  clear B1'
  have B2' := B2.below k6
  clear B2
  have B2 := B2'
  clear B2'
  have B3' := B3.below k6
  clear B3
  have B3 := B3'
  clear B3'
  have kb' := kb.trans (k6.mono kb.size)
  clear kb k6
  have kb := kb'
  clear kb'
  go_wp2_with (first | go_skip | (refine CelG.gload SE _ rfl _ rfl a0 B0 rfl ?_) | (refine CelG.gload SE _ rfl _ rfl a1 B1 rfl ?_) | (refine CelG.gload SE _ rfl _ rfl a2 B2 rfl ?_) | (refine CelG.gload SE _ rfl _ rfl a3 B3 rfl ?_))
  have hc := StE.may_ret a1 _ w1 f1 y1
  rw [M1.out] at hc
  refine hc.mono ?_
  clear hc
  rintro e W7 ⟨rfl, k7⟩
  have w0' := w0.below k7
  clear w0
  have w0 := w0'
  clear w0'
  have w1' := w1.below k7
  clear w1
  have w1 := w1'
  clear w1'
  have w2' := w2.below k7
  clear w2
  have w2 := w2'
  clear w2'
  have w3' := w3.below k7
  clear w3
  have w3 := w3'
  clear w3'
  have B0' := B0.below k7
  clear B0
  have B0 := B0'
  clear B0'
  have B1' := B1.below k7
  clear B1
  have B1 := B1'
  clear B1'
  have B2' := B2.below k7
  clear B2
  have B2 := B2'
  clear B2'
  have B3' := B3.below k7
  clear B3
  have B3 := B3'
  clear B3'
  have kb' := kb.trans (k7.mono kb.size)
  clear kb k7
  have kb := kb'
  clear kb'
  go_wp2_with (first | go_skip | (refine CelG.gload SE _ rfl _ rfl a0 B0 rfl ?_) | (refine CelG.gload SE _ rfl _ rfl a1 B1 rfl ?_) | (refine CelG.gload SE _ rfl _ rfl a2 B2 rfl ?_) | (refine CelG.gload SE _ rfl _ rfl a3 B3 rfl ?_))
  have hc := StE.may_ret a2 _ w2 f2 y2
  rw [M2.out] at hc
  refine hc.mono ?_
  clear hc
  rintro e W8 ⟨rfl, k8⟩
  have w0' := w0.below k8
  clear w0
  have w0 := w0'
  clear w0'
  have w1' := w1.below k8
  clear w1
  have w1 := w1'
  clear w1'
  have w2' := w2.below k8
  clear w2
  have w2 := w2'
  clear w2'
  have w3' := w3.below k8
  clear w3
  have w3 := w3'
  clear w3'
  have B0' := B0.below k8
  clear B0
  have B0 := B0'
  clear B0'
  have B1' := B1.below k8
  clear B1
  have B1 := B1'
  clear B1'
  have B2' := B2.below k8
  clear B2
  have B2 := B2'
  clear B2'
  have B3' := B3.below k8
  clear B3
  have B3 := B3'
  clear B3'
  have kb' := kb.trans (k8.mono kb.size)
  clear kb k8
  have kb := kb'
  clear kb'
  go_wp2_with (first | go_skip | (refine CelG.gload SE _ rfl _ rfl a0 B0 rfl ?_) | (refine CelG.gload SE _ rfl _ rfl a1 B1 rfl ?_) | (refine CelG.gload SE _ rfl _ rfl a2 B2 rfl ?_) | (refine CelG.gload SE _ rfl _ rfl a3 B3 rfl ?_))
  have hc := StE.may_ret a3 _ w3 f3 y3
  rw [M3.out] at hc
  refine hc.mono ?_
  clear hc
  rintro e W9 ⟨rfl, k9⟩
  have w0' := w0.below k9
  clear w0
  have w0 := w0'
  clear w0'
  have w1' := w1.below k9
  clear w1
  have w1 := w1'
  clear w1'
  have w2' := w2.below k9
  clear w2
  have w2 := w2'
  clear w2'
  have w3' := w3.below k9
  clear w3
  have w3 := w3'
  clear w3'
  have B0' := B0.below k9
  clear B0
  have B0 := B0'
  clear B0'
  have B1' := B1.below k9
  clear B1
  have B1 := B1'
  clear B1'
  have B2' := B2.below k9
  clear B2
  have B2 := B2'
  clear B2'
  have B3' := B3.below k9
  clear B3
  have B3 := B3'
  clear B3'
  have kb' := kb.trans (k9.mono kb.size)
  clear kb k9
  have kb := kb'
  clear kb'
  go_wp2_with (first | go_skip | (refine CelG.gload SE _ rfl _ rfl a0 B0 rfl ?_) | (refine CelG.gload SE _ rfl _ rfl a1 B1 rfl ?_) | (refine CelG.gload SE _ rfl _ rfl a2 B2 rfl ?_) | (refine CelG.gload SE _ rfl _ rfl a3 B3 rfl ?_))
  have hc := StL.merge_ret a0 a1 a2 _ w0 w1 w2 f0 f1 f2 y0 y1 y2
  rw [E1.out] at hc
  refine hc.mono ?_
  clear hc
  rintro e W10 ⟨vP, rfl, hP, SP, k10⟩
  have hP : vP.s = X := hP
  have w0' := w0.below k10
  clear w0
  have w0 := w0'
  clear w0'
  have w1' := w1.below k10
  clear w1
  have w1 := w1'
  clear w1'
  have w2' := w2.below k10
  clear w2
  have w2 := w2'
  clear w2'
  have w3' := w3.below k10
  clear w3
  have w3 := w3'
  clear w3'
  have B0' := B0.below k10
  clear B0
  have B0 := B0'
  clear B0'
  have B1' := B1.below k10
  clear B1
  have B1 := B1'
  clear B1'
  have B2' := B2.below k10
  clear B2
  have B2 := B2'
  clear B2'
  have B3' := B3.below k10
  clear B3
  have B3 := B3'
  clear B3'
  have kb' := kb.trans (k10.mono kb.size)
  clear kb k10
  have kb := kb'
  clear kb'
  go_wp2_with (first | go_skip | (refine CelG.gload SE _ rfl _ rfl a0 B0 rfl ?_) | (refine CelG.gload SE _ rfl _ rfl a1 B1 rfl ?_) | (refine CelG.gload SE _ rfl _ rfl a2 B2 rfl ?_) | (refine CelG.gload SE _ rfl _ rfl a3 B3 rfl ?_) | (refine Cel.wpList_store_new SE rfl _ _ rfl _ _ _ rfl vP _ rfl rfl rfl rfl ?_; intro W11 BP k11 g11 s11; clear g11 s11; have w0' := w0.below k11; clear w0; have w0 := w0'; clear w0'; have w1' := w1.below k11; clear w1; have w1 := w1'; clear w1'; have w2' := w2.below k11; clear w2; have w2 := w2'; clear w2'; have w3' := w3.below k11; clear w3; have w3 := w3'; clear w3'; have B0' := B0.below k11; clear B0; have B0 := B0'; clear B0'; have B1' := B1.below k11; clear B1; have B1 := B1'; clear B1'; have B2' := B2.below k11; clear B2; have B2 := B2'; clear B2'; have B3' := B3.below k11; clear B3; have B3 := B3'; clear B3'; have SP' := SP.below k11; clear SP; have SP := SP'; clear SP'; have kb' := kb.trans (k11.mono kb.size); clear kb k11; have kb := kb'; clear kb') | (refine CelG.gload SE _ rfl _ rfl vP BP rfl ?_))
  have hc := StL.merge_ret a0 a2 a3 _ w0 w2 w3 f0 f2 f3 y0 y2 y3
  rw [E2.out] at hc
  refine hc.mono ?_
  clear hc
  rintro e W12 ⟨vQ, rfl, hQ, SQ, k12⟩
  have hQ : vQ.s = Y := hQ
  have w0' := w0.below k12
  clear w0
  have w0 := w0'
  clear w0'
  have w1' := w1.below k12
  clear w1
  have w1 := w1'
  clear w1'
  have w2' := w2.below k12
  clear w2
  have w2 := w2'
  clear w2'
  have w3' := w3.below k12
  clear w3
  have w3 := w3'
  clear w3'
  have B0' := B0.below k12
  clear B0
  have B0 := B0'
  clear B0'
  have B1' := B1.below k12
  clear B1
  have B1 := B1'
  clear B1'
  have B2' := B2.below k12
  clear B2
  have B2 := B2'
  clear B2'
  have B3' := B3.below k12
  clear B3
  have B3 := B3'
  clear B3'
  have SP' := SP.below k12
  clear SP
  have SP := SP'
  clear SP'
  have BP' := BP.below k12
  clear BP
  have BP := BP'
  clear BP'
  have kb' := kb.trans (k12.mono kb.size)
  clear kb k12
  have kb := kb'
  clear kb'
  go_wp2_with (first | go_skip | (refine CelG.gload SE _ rfl _ rfl a0 B0 rfl ?_) | (refine CelG.gload SE _ rfl _ rfl a1 B1 rfl ?_) | (refine CelG.gload SE _ rfl _ rfl a2 B2 rfl ?_) | (refine CelG.gload SE _ rfl _ rfl a3 B3 rfl ?_) | (refine CelG.gload SE _ rfl _ rfl vP BP rfl ?_) | (refine Cel.wpList_store_new SE rfl _ _ rfl _ _ _ rfl vQ _ rfl rfl rfl rfl ?_; intro W13 BQ k13 g13 s13; clear g13 s13; have w0' := w0.below k13; clear w0; have w0 := w0'; clear w0'; have w1' := w1.below k13; clear w1; have w1 := w1'; clear w1'; have w2' := w2.below k13; clear w2; have w2 := w2'; clear w2'; have w3' := w3.below k13; clear w3; have w3 := w3'; clear w3'; have B0' := B0.below k13; clear B0; have B0 := B0'; clear B0'; have B1' := B1.below k13; clear B1; have B1 := B1'; clear B1'; have B2' := B2.below k13; clear B2; have B2 := B2'; clear B2'; have B3' := B3.below k13; clear B3; have B3 := B3'; clear B3'; have SP' := SP.below k13; clear SP; have SP := SP'; clear SP'; have BP' := BP.below k13; clear BP; have BP := BP'; clear BP'; have SQ' := SQ.below k13; clear SQ; have SQ := SQ'; clear SQ'; have kb' := kb.trans (k13.mono kb.size); clear kb k13; have kb := kb'; clear kb') | (refine CelG.gload SE _ rfl _ rfl vQ BQ rfl ?_))
  have hc := StL.merge_ret a0 vP a3 _ w0 SP w3 f0 (by rw [hP]; exact q1) f3 y0 (by rw [hP]; exact r1) y3
  rw [hP] at hc
  rw [E3.out] at hc
  refine hc.mono ?_
  clear hc
  rintro e W14 ⟨vR, rfl, hR, SR, k14⟩
  have hR : vR.s = Z := hR
  have w0' := w0.below k14
  clear w0
  have w0 := w0'
  clear w0'
  have w1' := w1.below k14
  clear w1
  have w1 := w1'
  clear w1'
  have w2' := w2.below k14
  clear w2
  have w2 := w2'
  clear w2'
  have w3' := w3.below k14
  clear w3
  have w3 := w3'
  clear w3'
  have B0' := B0.below k14
  clear B0
  have B0 := B0'
  clear B0'
  have B1' := B1.below k14
  clear B1
  have B1 := B1'
  clear B1'
  have B2' := B2.below k14
  clear B2
  have B2 := B2'
  clear B2'
  have B3' := B3.below k14
  clear B3
  have B3 := B3'
  clear B3'
  have SP' := SP.below k14
  clear SP
  have SP := SP'
  clear SP'
  have BP' := BP.below k14
  clear BP
  have BP := BP'
  clear BP'
  have SQ' := SQ.below k14
  clear SQ
  have SQ := SQ'
  clear SQ'
  have BQ' := BQ.below k14
  clear BQ
  have BQ := BQ'
  clear BQ'
  have kb' := kb.trans (k14.mono kb.size)
  clear kb k14
  have kb := kb'
  clear kb'
  go_wp2_with (first | go_skip | (refine CelG.gload SE _ rfl _ rfl a0 B0 rfl ?_) | (refine CelG.gload SE _ rfl _ rfl a1 B1 rfl ?_) | (refine CelG.gload SE _ rfl _ rfl a2 B2 rfl ?_) | (refine CelG.gload SE _ rfl _ rfl a3 B3 rfl ?_) | (refine CelG.gload SE _ rfl _ rfl vP BP rfl ?_) | (refine CelG.gload SE _ rfl _ rfl vQ BQ rfl ?_) | (refine Cel.wpList_store_new SE rfl _ _ rfl _ _ _ rfl vR _ rfl rfl rfl rfl ?_; intro W15 BR k15 g15 s15; clear g15 s15; have w0' := w0.below k15; clear w0; have w0 := w0'; clear w0'; have w1' := w1.below k15; clear w1; have w1 := w1'; clear w1'; have w2' := w2.below k15; clear w2; have w2 := w2'; clear w2'; have w3' := w3.below k15; clear w3; have w3 := w3'; clear w3'; have B0' := B0.below k15; clear B0; have B0 := B0'; clear B0'; have B1' := B1.below k15; clear B1; have B1 := B1'; clear B1'; have B2' := B2.below k15; clear B2; have B2 := B2'; clear B2'; have B3' := B3.below k15; clear B3; have B3 := B3'; clear B3'; have SP' := SP.below k15; clear SP; have SP := SP'; clear SP'; have BP' := BP.below k15; clear BP; have BP := BP'; clear BP'; have SQ' := SQ.below k15; clear SQ; have SQ := SQ'; clear SQ'; have BQ' := BQ.below k15; clear BQ; have BQ := BQ'; clear BQ'; have SR' := SR.below k15; clear SR; have SR := SR'; clear SR'; have kb' := kb.trans (k15.mono kb.size); clear kb k15; have kb := kb'; clear kb') | (refine CelG.gload SE _ rfl _ rfl vR BR rfl ?_))
  have hc := StL.merge_ret a0 a1 vQ _ w0 w1 SQ f0 f1 (by rw [hQ]; exact q2) y0 y1 (by rw [hQ]; exact r2)
  rw [hQ] at hc
  rw [E4.out] at hc
  refine hc.mono ?_
  clear hc
  rintro e W16 ⟨vT, rfl, hT, ST, k16⟩
  have hT : vT.s = Z := hT
  have w0' := w0.below k16
  clear w0
  have w0 := w0'
  clear w0'
  have w1' := w1.below k16
  clear w1
  have w1 := w1'
  clear w1'
  have w2' := w2.below k16
  clear w2
  have w2 := w2'
  clear w2'
  have w3' := w3.below k16
  clear w3
  have w3 := w3'
  clear w3'
  have B0' := B0.below k16
  clear B0
  have B0 := B0'
  clear B0'
  have B1' := B1.below k16
  clear B1
  have B1 := B1'
  clear B1'
  have B2' := B2.below k16
  clear B2
  have B2 := B2'
  clear B2'
  have B3' := B3.below k16
  clear B3
  have B3 := B3'
  clear B3'
  have SP' := SP.below k16
  clear SP
  have SP := SP'
  clear SP'
  have BP' := BP.below k16
  clear BP
  have BP := BP'
  clear BP'
  have SQ' := SQ.below k16
  clear SQ
  have SQ := SQ'
  clear SQ'
  have BQ' := BQ.below k16
  clear BQ
  have BQ := BQ'
  clear BQ'
  have SR' := SR.below k16
  clear SR
  have SR := SR'
  clear SR'
  have BR' := BR.below k16
  clear BR
  have BR := BR'
  clear BR'
  have kb' := kb.trans (k16.mono kb.size)
  clear kb k16
  have kb := kb'
  clear kb'
  go_wp2_with (first | go_skip | (refine CelG.gload SE _ rfl _ rfl a0 B0 rfl ?_) | (refine CelG.gload SE _ rfl _ rfl a1 B1 rfl ?_) | (refine CelG.gload SE _ rfl _ rfl a2 B2 rfl ?_) | (refine CelG.gload SE _ rfl _ rfl a3 B3 rfl ?_) | (refine CelG.gload SE _ rfl _ rfl vP BP rfl ?_) | (refine CelG.gload SE _ rfl _ rfl vQ BQ rfl ?_) | (refine CelG.gload SE _ rfl _ rfl vR BR rfl ?_) | (refine Cel.wpList_store_new SE rfl _ _ rfl _ _ _ rfl vT _ rfl rfl rfl rfl ?_; intro W17 BT k17 g17 s17; clear g17 s17; have w0' := w0.below k17; clear w0; have w0 := w0'; clear w0'; have w1' := w1.below k17; clear w1; have w1 := w1'; clear w1'; have w2' := w2.below k17; clear w2; have w2 := w2'; clear w2'; have w3' := w3.below k17; clear w3; have w3 := w3'; clear w3'; have B0' := B0.below k17; clear B0; have B0 := B0'; clear B0'; have B1' := B1.below k17; clear B1; have B1 := B1'; clear B1'; have B2' := B2.below k17; clear B2; have B2 := B2'; clear B2'; have B3' := B3.below k17; clear B3; have B3 := B3'; clear B3'; have SP' := SP.below k17; clear SP; have SP := SP'; clear SP'; have BP' := BP.below k17; clear BP; have BP := BP'; clear BP'; have SQ' := SQ.below k17; clear SQ; have SQ := SQ'; clear SQ'; have BQ' := BQ.below k17; clear BQ; have BQ := BQ'; clear BQ'; have SR' := SR.below k17; clear SR; have SR := SR'; clear SR'; have BR' := BR.below k17; clear BR; have BR := BR'; clear BR'; have ST' := ST.below k17; clear ST; have ST := ST'; clear ST'; have kb' := kb.trans (k17.mono kb.size); clear kb k17; have kb := kb'; clear kb') | (refine CelG.gload SE _ rfl _ rfl vT BT rfl ?_))
  have hc := StL.merge_ret a1 a1 a1 _ w1 w1 w1 f1 f1 f1 y1 y1 y1
  rw [E5.out] at hc
  refine hc.mono ?_
  clear hc
  rintro e W18 ⟨vU, rfl, hU, SU, k18⟩
  have hU : vU.s = a1.s := hU
  have w0' := w0.below k18
  clear w0
  have w0 := w0'
  clear w0'
  have w1' := w1.below k18
  clear w1
  have w1 := w1'
  clear w1'
  have w2' := w2.below k18
  clear w2
  have w2 := w2'
  clear w2'
  have w3' := w3.below k18
  clear w3
  have w3 := w3'
  clear w3'
  have B0' := B0.below k18
  clear B0
  have B0 := B0'
  clear B0'
  have B1' := B1.below k18
  clear B1
  have B1 := B1'
  clear B1'
  have B2' := B2.below k18
  clear B2
  have B2 := B2'
  clear B2'
  have B3' := B3.below k18
  clear B3
  have B3 := B3'
  clear B3'
  have SP' := SP.below k18
  clear SP
  have SP := SP'
  clear SP'
  have BP' := BP.below k18
  clear BP
  have BP := BP'
  clear BP'
  have SQ' := SQ.below k18
  clear SQ
  have SQ := SQ'
  clear SQ'
  have BQ' := BQ.below k18
  clear BQ
  have BQ := BQ'
  clear BQ'
  have SR' := SR.below k18
  clear SR
  have SR := SR'
  clear SR'
  have BR' := BR.below k18
  clear BR
  have BR := BR'
  clear BR'
  have ST' := ST.below k18
  clear ST
  have ST := ST'
  clear ST'
  have BT' := BT.below k18
  clear BT
  have BT := BT'
  clear BT'
  have kb' := kb.trans (k18.mono kb.size)
  clear kb k18
  have kb := kb'
  clear kb'
  go_wp2_with (first | go_skip | (refine CelG.gload SE _ rfl _ rfl a0 B0 rfl ?_) | (refine CelG.gload SE _ rfl _ rfl a1 B1 rfl ?_) | (refine CelG.gload SE _ rfl _ rfl a2 B2 rfl ?_) | (refine CelG.gload SE _ rfl _ rfl a3 B3 rfl ?_) | (refine CelG.gload SE _ rfl _ rfl vP BP rfl ?_) | (refine CelG.gload SE _ rfl _ rfl vQ BQ rfl ?_) | (refine CelG.gload SE _ rfl _ rfl vR BR rfl ?_) | (refine CelG.gload SE _ rfl _ rfl vT BT rfl ?_) | (refine Cel.wpList_store_new SE rfl _ _ rfl _ _ _ rfl vU _ rfl rfl rfl rfl ?_; intro W19 BU k19 g19 s19; clear g19 s19; have w0' := w0.below k19; clear w0; have w0 := w0'; clear w0'; have w1' := w1.below k19; clear w1; have w1 := w1'; clear w1'; have w2' := w2.below k19; clear w2; have w2 := w2'; clear w2'; have w3' := w3.below k19; clear w3; have w3 := w3'; clear w3'; have B0' := B0.below k19; clear B0; have B0 := B0'; clear B0'; have B1' := B1.below k19; clear B1; have B1 := B1'; clear B1'; have B2' := B2.below k19; clear B2; have B2 := B2'; clear B2'; have B3' := B3.below k19; clear B3; have B3 := B3'; clear B3'; have SP' := SP.below k19; clear SP; have SP := SP'; clear SP'; have BP' := BP.below k19; clear BP; have BP := BP'; clear BP'; have SQ' := SQ.below k19; clear SQ; have SQ := SQ'; clear SQ'; have BQ' := BQ.below k19; clear BQ; have BQ := BQ'; clear BQ'; have SR' := SR.below k19; clear SR; have SR := SR'; clear SR'; have BR' := BR.below k19; clear BR; have BR := BR'; clear BR'; have ST' := ST.below k19; clear ST; have ST := ST'; clear ST'; have BT' := BT.below k19; clear BT; have BT := BT'; clear BT'; have SU' := SU.below k19; clear SU; have SU := SU'; clear SU'; have kb' := kb.trans (k19.mono kb.size); clear kb k19; have kb := kb'; clear kb') | (refine CelG.gload SE _ rfl _ rfl vU BU rfl ?_))
  have hc := StE.same_ret vR vT _ SR ST
  rw [hR] at hc
  rw [hT] at hc
  rw [sameS_iff.2 rfl] at hc
  refine hc.mono ?_
  clear hc
  rintro e W20 ⟨rfl, k20⟩
  have w0' := w0.below k20
  clear w0
  have w0 := w0'
  clear w0'
  have w1' := w1.below k20
  clear w1
  have w1 := w1'
  clear w1'
  have w2' := w2.below k20
  clear w2
  have w2 := w2'
  clear w2'
  have w3' := w3.below k20
  clear w3
  have w3 := w3'
  clear w3'
  have B0' := B0.below k20
  clear B0
  have B0 := B0'
  clear B0'
  have B1' := B1.below k20
  clear B1
  have B1 := B1'
  clear B1'
  have B2' := B2.below k20
  clear B2
  have B2 := B2'
  clear B2'
  have B3' := B3.below k20
  clear B3
  have B3 := B3'
  clear B3'
  have SP' := SP.below k20
  clear SP
  have SP := SP'
  clear SP'
  have BP' := BP.below k20
  clear BP
  have BP := BP'
  clear BP'
  have SQ' := SQ.below k20
  clear SQ
  have SQ := SQ'
  clear SQ'
  have BQ' := BQ.below k20
  clear BQ
  have BQ := BQ'
  clear BQ'
  have SR' := SR.below k20
  clear SR
  have SR := SR'
  clear SR'
  have BR' := BR.below k20
  clear BR
  have BR := BR'
  clear BR'
  have ST' := ST.below k20
  clear ST
  have ST := ST'
  clear ST'
  have BT' := BT.below k20
  clear BT
  have BT := BT'
  clear BT'
  have SU' := SU.below k20
  clear SU
  have SU := SU'
  clear SU'
  have BU' := BU.below k20
  clear BU
  have BU := BU'
  clear BU'
  have kb' := kb.trans (k20.mono kb.size)
  clear kb k20
  have kb := kb'
  clear kb'
  go_wp2_with (first | go_skip | (refine CelG.gload SE _ rfl _ rfl a0 B0 rfl ?_) | (refine CelG.gload SE _ rfl _ rfl a1 B1 rfl ?_) | (refine CelG.gload SE _ rfl _ rfl a2 B2 rfl ?_) | (refine CelG.gload SE _ rfl _ rfl a3 B3 rfl ?_) | (refine CelG.gload SE _ rfl _ rfl vP BP rfl ?_) | (refine CelG.gload SE _ rfl _ rfl vQ BQ rfl ?_) | (refine CelG.gload SE _ rfl _ rfl vR BR rfl ?_) | (refine CelG.gload SE _ rfl _ rfl vT BT rfl ?_) | (refine CelG.gload SE _ rfl _ rfl vU BU rfl ?_))
  have hc := StE.same_ret vU a1 _ SU w1
  rw [hU] at hc
  rw [sameS_iff.2 rfl] at hc
  refine hc.mono ?_
  clear hc
  rintro e W21 ⟨rfl, k21⟩
  have w0' := w0.below k21
  clear w0
  have w0 := w0'
  clear w0'
  have w1' := w1.below k21
  clear w1
  have w1 := w1'
  clear w1'
  have w2' := w2.below k21
  clear w2
  have w2 := w2'
  clear w2'
  have w3' := w3.below k21
  clear w3
  have w3 := w3'
  clear w3'
  have B0' := B0.below k21
  clear B0
  have B0 := B0'
  clear B0'
  have B1' := B1.below k21
  clear B1
  have B1 := B1'
  clear B1'
  have B2' := B2.below k21
  clear B2
  have B2 := B2'
  clear B2'
  have B3' := B3.below k21
  clear B3
  have B3 := B3'
  clear B3'
  have SP' := SP.below k21
  clear SP
  have SP := SP'
  clear SP'
  have BP' := BP.below k21
  clear BP
  have BP := BP'
  clear BP'
  have SQ' := SQ.below k21
  clear SQ
  have SQ := SQ'
  clear SQ'
  have BQ' := BQ.below k21
  clear BQ
  have BQ := BQ'
  clear BQ'
  have SR' := SR.below k21
  clear SR
  have SR := SR'
  clear SR'
  have BR' := BR.below k21
  clear BR
  have BR := BR'
  clear BR'
  have ST' := ST.below k21
  clear ST
  have ST := ST'
  clear ST'
  have BT' := BT.below k21
  clear BT
  have BT := BT'
  clear BT'
  have SU' := SU.below k21
  clear SU
  have SU := SU'
  clear SU'
  have BU' := BU.below k21
  clear BU
  have BU := BU'
  clear BU'
  have kb' := kb.trans (k21.mono kb.size)
  clear kb k21
  have kb := kb'
  clear kb'
  go_wp2_with (first | go_skip | (refine CelG.gload SE _ rfl _ rfl a0 B0 rfl ?_) | (refine CelG.gload SE _ rfl _ rfl a1 B1 rfl ?_) | (refine CelG.gload SE _ rfl _ rfl a2 B2 rfl ?_) | (refine CelG.gload SE _ rfl _ rfl a3 B3 rfl ?_) | (refine CelG.gload SE _ rfl _ rfl vP BP rfl ?_) | (refine CelG.gload SE _ rfl _ rfl vQ BQ rfl ?_) | (refine CelG.gload SE _ rfl _ rfl vR BR rfl ?_) | (refine CelG.gload SE _ rfl _ rfl vT BT rfl ?_) | (refine CelG.gload SE _ rfl _ rfl vU BU rfl ?_))
  go_ret
  exact ⟨by first | rfl | simp, kb⟩

theorem walk (a0 : Sv) (a1 : Sv) (a2 : Sv) (a3 : Sv) (w : World) (w0 : In w a0) (g0 : OpenS.Good a0.s) (w1 : In w a1) (g1 : OpenS.Good a1.s) (w2 : In w a2) (g2 : OpenS.Good a2.s) (w3 : In w a3) (g3 : OpenS.Good a3.s) :
    Calls Try.prog 5 #[.agg (sc a0), .agg (sc a1), .agg (sc a2), .agg (sc a3)] w fun e w' => e = .returned (.bool true) ∧ Below w.heap.size w w' := by
  cases x0 : fewS a0.s with
  | false => exact out a0 a1 a2 a3 w w0 g0 w1 g1 w2 g2 w3 g3 _ _ _ _ x0 rfl rfl rfl (.inl rfl)
  | true =>
    cases x1 : fewS a1.s with
    | false => exact out a0 a1 a2 a3 w w0 g0 w1 g1 w2 g2 w3 g3 _ _ _ _ x0 x1 rfl rfl (.inr (.inl ⟨rfl, rfl⟩))
    | true =>
      cases x2 : fewS a2.s with
      | false => exact out a0 a1 a2 a3 w w0 g0 w1 g1 w2 g2 w3 g3 _ _ _ _ x0 x1 x2 rfl (.inr (.inr (.inl ⟨rfl, rfl, rfl⟩)))
      | true =>
        cases x3 : fewS a3.s with
        | false => exact out a0 a1 a2 a3 w w0 g0 w1 g1 w2 g2 w3 g3 _ _ _ _ x0 x1 x2 x3 (.inr (.inr (.inr (⟨rfl, rfl, rfl, rfl⟩))))
        | true =>
          cases m0 : mayS a0.s with
          | false => exact outm0 a0 a1 a2 a3 w w0 g0 w1 g1 w2 g2 w3 g3 x0 x1 x2 x3 m0
          | true =>
            cases m1 : mayS a1.s with
            | false => exact outm1 a0 a1 a2 a3 w w0 g0 w1 g1 w2 g2 w3 g3 x0 x1 x2 x3 m0 m1
            | true =>
              cases m2 : mayS a2.s with
              | false => exact outm2 a0 a1 a2 a3 w w0 g0 w1 g1 w2 g2 w3 g3 x0 x1 x2 x3 m0 m1 m2
              | true =>
                cases m3 : mayS a3.s with
                | false => exact outm3 a0 a1 a2 a3 w w0 g0 w1 g1 w2 g2 w3 g3 x0 x1 x2 x3 m0 m1 m2 m3
                | true =>
                  exact within a0 a1 a2 a3 w w0 g0 w1 g1 w2 g2 w3 g3 x0 x1 x2 x3 m0 m1 m2 m3

theorem own : ownKnob Try.prog.godebug = none := by kernel_rfl
theorem laidOut : laidOutB Try.prog = true := by kernel_rfl
set_option linter.unusedVariables false in
set_option maxRecDepth 100000 in
theorem lifted (os : Os) (started : os.Started) (H : Type) (enc : TypeId × Value → H) :
    ReturnsInHanded {} Try.checked os 5 .any (Rows.stateThreeSpec.pre6 enc Try.prog Try.f5 Rows.stateThreeRow.domain false) (Rows.stateThreeSpec.post enc Try.prog Try.f5 false true false false) := by
  refine returnsInHanded_of_change (C := Try.checked) own started (by kernel_rfl) Try.func5
    (ChangeSpec.witness6 (enc := enc) (C := Try.checked) false ⟨#[], #[.agg #[.slice none 0 0, .slice none 0 0, .slice none 0 0], .agg #[.slice none 0 0, .slice none 0 0, .slice none 0 0], .agg #[.slice none 0 0, .slice none 0 0, .slice none 0 0], .agg #[.slice none 0 0, .slice none 0 0, .slice none 0 0]], []⟩ 8 (by kernel_rfl) (by kernel_rfl) (by kernel_rfl) (by kernel_rfl)) ?_
  intro W base args ds gs before hval0 hW hcnd _
  have hval : ∀ (j : Nat) t v, Try.f5.params[j]? = some t → args[j]? = some v → Value.okWide Try.prog W .any base t v := hval0
  have hW' := hW
  obtain ⟨p, q, hA0, hV, rfl, hfz, hnd⟩ := hW
  have hA : DataW.TrodAll enc Try.prog W 0 (fun _ => true) true Try.f5.params.toList args.toList ds p := hA0
  rw [Try.params5] at hA hval
  obtain ⟨v0, vs0, d0, ds0, p0, q0, hargs, rfl, rfl, h0, r0⟩ := trodAll_cons hA
  obtain ⟨v1, vs1, d1, ds1, p1, q1, rfl, rfl, rfl, h1, r1⟩ := trodAll_cons r0
  obtain ⟨v2, vs2, d2, ds2, p2, q2, rfl, rfl, rfl, h2, r2⟩ := trodAll_cons r1
  obtain ⟨v3, vs3, d3, ds3, p3, q3, rfl, rfl, rfl, h3, r3⟩ := trodAll_cons r2
  obtain ⟨rfl, rfl, rfl⟩ := trodAll_nil r3
  obtain rfl : args = #[v0, v1, v2, v3] := by cases args; simp_all
  obtain ⟨rfl, rfl⟩ := trodVars_none hV
  have k0 := h0
  have lt0 : ∀ x ∈ p0, x.block < W.heap.size := by obtain ⟨m, hm⟩ := k0; exact DataW.trod_lt m _ _ _ hm
  obtain ⟨a0, rfl, w0, g0⟩ := OpenS.open_state (hval 0 26 v0 rfl rfl) h0
  have k1 := h1
  have lt1 : ∀ x ∈ p1, x.block < W.heap.size := by obtain ⟨m, hm⟩ := k1; exact DataW.trod_lt m _ _ _ hm
  obtain ⟨a1, rfl, w1, g1⟩ := OpenS.open_state (hval 1 26 v1 rfl rfl) h1
  have k2 := h2
  have lt2 : ∀ x ∈ p2, x.block < W.heap.size := by obtain ⟨m, hm⟩ := k2; exact DataW.trod_lt m _ _ _ hm
  obtain ⟨a2, rfl, w2, g2⟩ := OpenS.open_state (hval 2 26 v2 rfl rfl) h2
  have k3 := h3
  have lt3 : ∀ x ∈ p3, x.block < W.heap.size := by obtain ⟨m, hm⟩ := k3; exact DataW.trod_lt m _ _ _ hm
  obtain ⟨a3, rfl, w3, g3⟩ := OpenS.open_state (hval 3 26 v3 rfl rfl) h3
  clear hA0 hval0
  refine (walk a0 a1 a2 a3 W w0 g0 w1 g1 w2 g2 w3 g3).mono fun e W' ⟨he, bel⟩ => ?_
  subst he
  exact ⟨_, rfl, _, _, _, [], _, [], hW', trodAll_mk1 (shut_bool Try.underlying4 _), (trodAll_cons_mk (Below.trod laidOut (by kernel_rfl) (of_decide_eq_true (by kernel_rfl)) k0 bel lt0) (trodAll_cons_mk (Below.trod laidOut (by kernel_rfl) (of_decide_eq_true (by kernel_rfl)) k1 bel lt1) (trodAll_cons_mk (Below.trod laidOut (by kernel_rfl) (of_decide_eq_true (by kernel_rfl)) k2 bel lt2) (trodAll_cons_mk (Below.trod laidOut (by kernel_rfl) (of_decide_eq_true (by kernel_rfl)) k3 bel lt3) trodAll_mk0)))), rfl, bel.frame _, fun h => by cases h⟩

theorem over : Rows.stateThreeRow.holds Try.pinned (OpenSpec.ofChange Rows.stateThreeSpec) :=
  OpenClaim.holds_of_wide 5 Try.f5 rfl rfl rfl rfl rfl rfl rfl ⟨rfl, rfl, rfl, rfl, rfl⟩ rfl rfl rfl rfl rfl (by kernel_rfl) Try.func5 (by kernel_rfl)
    (of_decide_eq_true (by kernel_rfl)) (by unfold Func.isWrapper; first | (rw [if_pos (by decide +kernel)]; kernel_rfl) | (rw [if_neg (by decide +kernel)]; exact ⟨rfl, rfl⟩))
    (fun os started H enc _ => lifted os started H enc)

theorem proved : Rows.StateThreeSaid := over
end Go.Proofs.Ytnjdkjkihbgkaaa.stateThree
