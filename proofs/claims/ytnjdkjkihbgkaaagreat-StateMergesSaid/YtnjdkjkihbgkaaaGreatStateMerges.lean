/- StateMerges returns true for every input: what two states come to that come from a third one is what the document says, or has the error; two are the same, or not. No condition. -/
import Derived.Test.YtnjdkjkihbgkaaaGreatStTJ4
import Derived.Test.YtnjdkjkihbgkaaaGreatOpenSJ3
import Derived.Test.YtnjdkjkihbgkaaaGreatStJ
import Derived.Test.YtnjdkjkihbgkaaaGreatStRJ2
import Derived.ShutString
import Derived.ChangeOld
namespace Go.Proofs.YtnjdkjkihbgkaaaGreat.stateMerges
set_option maxRecDepth 100000
open Go Go.Sort Go.ChangeShapes Go.WideShapes Go.ChangeAt Go.RowKit Byt OpsM OpsW Rise RowS StM StN StW StX StY StA
open StR (sameS sameS_iff)

set_option maxRecDepth 100000 in
set_option maxHeartbeats 16000000 in
theorem out (a0 : Sv) (a1 : Sv) (a2 : Sv) (w : World) (w0 : In w a0) (g0 : OpenS.Good a0.s) (w1 : In w a1) (g1 : OpenS.Good a1.s) (w2 : In w a2) (g2 : OpenS.Good a2.s) (b0 : Bool) (b1 : Bool) (b2 : Bool) (x0 : fewS a0.s = b0) (x1 : fewS a1.s = b1) (x2 : fewS a2.s = b2) (h : (b0 = false) ∨ (b0 = true ∧ b1 = false) ∨ (b0 = true ∧ b1 = true ∧ b2 = false)) :
    Calls Tryz.prog 4 #[.agg (sc a0), .agg (sc a1), .agg (sc a2)] w fun e w' => e = .returned (.bool true) ∧ Below w.heap.size w w' := by
  rcases h with rfl | ⟨rfl, rfl⟩ | ⟨rfl, rfl, rfl⟩
  all_goals
    have B0 : Cel.Box SE (w.alloc (.cells (sc a0) 26)) (w.heap.size) a0 := by exact Cel.Box.new (E := SE) w a0 _
    have k0 := StW.below_alloc w (.cells (sc a0) 26)
    have w0' := w0.below k0
    clear w0
    have w0 := w0'
    clear w0'
    have w1' := w1.below k0
    clear w1
    have w1 := w1'
    clear w1'
    have w2' := w2.below k0
    clear w2
    have w2 := w2'
    clear w2'
    have kb := k0
    clear k0
    have z1 : (w.alloc (.cells (sc a0) 26)).heap.size = w.heap.size + 1 := by simp
    have B1 : Cel.Box SE ((w.alloc (.cells (sc a0) 26)).alloc (.cells (sc a1) 26)) (w.heap.size + 1) a1 := by rw [← z1]; exact Cel.Box.new (E := SE) (w.alloc (.cells (sc a0) 26)) a1 _
    have k1 := StW.below_alloc (w.alloc (.cells (sc a0) 26)) (.cells (sc a1) 26)
    have w0' := w0.below k1
    clear w0
    have w0 := w0'
    clear w0'
    have w1' := w1.below k1
    clear w1
    have w1 := w1'
    clear w1'
    have w2' := w2.below k1
    clear w2
    have w2 := w2'
    clear w2'
    have B0' := B0.below k1
    clear B0
    have B0 := B0'
    clear B0'
    have kb' := kb.trans (k1.mono kb.size)
    clear kb k1
    have kb := kb'
    clear kb'
    have z2 : ((w.alloc (.cells (sc a0) 26)).alloc (.cells (sc a1) 26)).heap.size = w.heap.size + 2 := by simp
    have B2 : Cel.Box SE (((w.alloc (.cells (sc a0) 26)).alloc (.cells (sc a1) 26)).alloc (.cells (sc a2) 26)) (w.heap.size + 2) a2 := by rw [← z2]; exact Cel.Box.new (E := SE) ((w.alloc (.cells (sc a0) 26)).alloc (.cells (sc a1) 26)) a2 _
    have k2 := StW.below_alloc ((w.alloc (.cells (sc a0) 26)).alloc (.cells (sc a1) 26)) (.cells (sc a2) 26)
    have w0' := w0.below k2
    clear w0
    have w0 := w0'
    clear w0'
    have w1' := w1.below k2
    clear w1
    have w1 := w1'
    clear w1'
    have w2' := w2.below k2
    clear w2
    have w2 := w2'
    clear w2'
    have B0' := B0.below k2
    clear B0
    have B0 := B0'
    clear B0'
    have B1' := B1.below k2
    clear B1
    have B1 := B1'
    clear B1'
    have kb' := kb.trans (k2.mono kb.size)
    clear kb k2
    have kb := kb'
    clear kb'
    go_enter Tryz.func4, Tryz.ntmps4
    go_wp2_with fail
    refine (awake _).mono ?_
    rintro e W1 ⟨rfl, k1⟩
    have hb : w.heap.size + 3 ≤ W1.heap.size := Nat.le_trans (by first | (simp; done) | (simp; omega)) k1.size
    clear z1 z2
    have w0' := w0.below k1
    clear w0
    have w0 := w0'
    clear w0'
    have w1' := w1.below k1
    clear w1
    have w1 := w1'
    clear w1'
    have w2' := w2.below k1
    clear w2
    have w2 := w2'
    clear w2'
    have B0' := B0.below k1
    clear B0
    have B0 := B0'
    clear B0'
    have B1' := B1.below k1
    clear B1
    have B1 := B1'
    clear B1'
    have B2' := B2.below k1
    clear B2
    have B2 := B2'
    clear B2'
    have kb' := kb.trans (k1.mono kb.size)
    clear kb k1
    have kb := kb'
    clear kb'
    go_wp2_with (first | go_skip | (refine CelG.gload SE _ rfl _ rfl a0 B0 rfl ?_) | (refine CelG.gload SE _ rfl _ rfl a1 B1 rfl ?_) | (refine CelG.gload SE _ rfl _ rfl a2 B2 rfl ?_))
    have hc := few_ret a0 _ w0 g0
    rw [x0] at hc
    refine hc.mono ?_
    clear hc
    rintro e W2 ⟨rfl, k2⟩
    have w0' := w0.below k2
    clear w0
    have w0 := w0'
    clear w0'
    have w1' := w1.below k2
    clear w1
    have w1 := w1'
    clear w1'
    have w2' := w2.below k2
    clear w2
    have w2 := w2'
    clear w2'
    have B0' := B0.below k2
    clear B0
    have B0 := B0'
    clear B0'
    have B1' := B1.below k2
    clear B1
    have B1 := B1'
    clear B1'
    have B2' := B2.below k2
    clear B2
    have B2 := B2'
    clear B2'
    have kb' := kb.trans (k2.mono kb.size)
    clear kb k2
    have kb := kb'
    clear kb'
    go_wp2_with (first | go_skip | (refine CelG.gload SE _ rfl _ rfl a0 B0 rfl ?_) | (refine CelG.gload SE _ rfl _ rfl a1 B1 rfl ?_) | (refine CelG.gload SE _ rfl _ rfl a2 B2 rfl ?_))
    have hc := few_ret a1 _ w1 g1
    rw [x1] at hc
    refine hc.mono ?_
    clear hc
    rintro e W3 ⟨rfl, k3⟩
    have w0' := w0.below k3
    clear w0
    have w0 := w0'
    clear w0'
    have w1' := w1.below k3
    clear w1
    have w1 := w1'
    clear w1'
    have w2' := w2.below k3
    clear w2
    have w2 := w2'
    clear w2'
    have B0' := B0.below k3
    clear B0
    have B0 := B0'
    clear B0'
    have B1' := B1.below k3
    clear B1
    have B1 := B1'
    clear B1'
    have B2' := B2.below k3
    clear B2
    have B2 := B2'
    clear B2'
    have kb' := kb.trans (k3.mono kb.size)
    clear kb k3
    have kb := kb'
    clear kb'
    go_wp2_with (first | go_skip | (refine CelG.gload SE _ rfl _ rfl a0 B0 rfl ?_) | (refine CelG.gload SE _ rfl _ rfl a1 B1 rfl ?_) | (refine CelG.gload SE _ rfl _ rfl a2 B2 rfl ?_))
    have hc := few_ret a2 _ w2 g2
    rw [x2] at hc
    refine hc.mono ?_
    clear hc
    rintro e W4 ⟨rfl, k4⟩
    have w0' := w0.below k4
    clear w0
    have w0 := w0'
    clear w0'
    have w1' := w1.below k4
    clear w1
    have w1 := w1'
    clear w1'
    have w2' := w2.below k4
    clear w2
    have w2 := w2'
    clear w2'
    have B0' := B0.below k4
    clear B0
    have B0 := B0'
    clear B0'
    have B1' := B1.below k4
    clear B1
    have B1 := B1'
    clear B1'
    have B2' := B2.below k4
    clear B2
    have B2 := B2'
    clear B2'
    have kb' := kb.trans (k4.mono kb.size)
    clear kb k4
    have kb := kb'
    clear kb'
    go_wp2_with (first | go_skip | (refine CelG.gload SE _ rfl _ rfl a0 B0 rfl ?_) | (refine CelG.gload SE _ rfl _ rfl a1 B1 rfl ?_) | (refine CelG.gload SE _ rfl _ rfl a2 B2 rfl ?_))
    go_ret
    exact ⟨by first | rfl | simp, kb⟩

set_option maxRecDepth 100000 in
set_option maxHeartbeats 32000000 in
theorem within (a0 : Sv) (a1 : Sv) (a2 : Sv) (w : World) (w0 : In w a0) (g0 : OpenS.Good a0.s) (w1 : In w a1) (g1 : OpenS.Good a1.s) (w2 : In w a2) (g2 : OpenS.Good a2.s) (x0 : fewS a0.s = true) (x1 : fewS a1.s = true) (x2 : fewS a2.s = true) :
    Calls Tryz.prog 4 #[.agg (sc a0), .agg (sc a1), .agg (sc a2)] w fun e w' => e = .returned (.bool true) ∧ Below w.heap.size w w' := by
  have y0 := (few_len x0).le (show 30 ≤ 1000 by omega)
  have t0 := (few_len x0).le (show 30 ≤ 100000 by omega)
  have f0 := fits x0 g0
  have X0 := aside x0
  have y1 := (few_len x1).le (show 30 ≤ 1000 by omega)
  have t1 := (few_len x1).le (show 30 ≤ 100000 by omega)
  have f1 := fits x1 g1
  have X1 := aside x1
  have y2 := (few_len x2).le (show 30 ≤ 1000 by omega)
  have t2 := (few_len x2).le (show 30 ≤ 100000 by omega)
  have f2 := fits x2 g2
  have X2 := aside x2
  obtain ⟨D, hD⟩ : ∃ d, mergeS a0.s a1.s a2.s = d := ⟨_, rfl⟩
  obtain ⟨b, hb2⟩ : ∃ b, sameS a1.s a2.s = b := ⟨_, rfl⟩
  have D1 := aside hD
  obtain ⟨er, hER⟩ : ∃ e : Int, (if D.isSome then (0 : Int) else 1) = e := ⟨_, rfl⟩
  have ER := aside hER
  have D2 := aside hb2
  clear x0 x1 x2 hD hb2 hER
  have B0 : Cel.Box SE (w.alloc (.cells (sc a0) 26)) (w.heap.size) a0 := by exact Cel.Box.new (E := SE) w a0 _
  have k0 := StW.below_alloc w (.cells (sc a0) 26)
  have w0' := w0.below k0
  clear w0
  have w0 := w0'
  clear w0'
  have w1' := w1.below k0
  clear w1
  have w1 := w1'
  clear w1'
  have w2' := w2.below k0
  clear w2
  have w2 := w2'
  clear w2'
  have kb := k0
  clear k0
  have z1 : (w.alloc (.cells (sc a0) 26)).heap.size = w.heap.size + 1 := by simp
  have B1 : Cel.Box SE ((w.alloc (.cells (sc a0) 26)).alloc (.cells (sc a1) 26)) (w.heap.size + 1) a1 := by rw [← z1]; exact Cel.Box.new (E := SE) (w.alloc (.cells (sc a0) 26)) a1 _
  have k1 := StW.below_alloc (w.alloc (.cells (sc a0) 26)) (.cells (sc a1) 26)
  have w0' := w0.below k1
  clear w0
  have w0 := w0'
  clear w0'
  have w1' := w1.below k1
  clear w1
  have w1 := w1'
  clear w1'
  have w2' := w2.below k1
  clear w2
  have w2 := w2'
  clear w2'
  have B0' := B0.below k1
  clear B0
  have B0 := B0'
  clear B0'
  have kb' := kb.trans (k1.mono kb.size)
  clear kb k1
  have kb := kb'
  clear kb'
  have z2 : ((w.alloc (.cells (sc a0) 26)).alloc (.cells (sc a1) 26)).heap.size = w.heap.size + 2 := by simp
  have B2 : Cel.Box SE (((w.alloc (.cells (sc a0) 26)).alloc (.cells (sc a1) 26)).alloc (.cells (sc a2) 26)) (w.heap.size + 2) a2 := by rw [← z2]; exact Cel.Box.new (E := SE) ((w.alloc (.cells (sc a0) 26)).alloc (.cells (sc a1) 26)) a2 _
  have k2 := StW.below_alloc ((w.alloc (.cells (sc a0) 26)).alloc (.cells (sc a1) 26)) (.cells (sc a2) 26)
  have w0' := w0.below k2
  clear w0
  have w0 := w0'
  clear w0'
  have w1' := w1.below k2
  clear w1
  have w1 := w1'
  clear w1'
  have w2' := w2.below k2
  clear w2
  have w2 := w2'
  clear w2'
  have B0' := B0.below k2
  clear B0
  have B0 := B0'
  clear B0'
  have B1' := B1.below k2
  clear B1
  have B1 := B1'
  clear B1'
  have kb' := kb.trans (k2.mono kb.size)
  clear kb k2
  have kb := kb'
  clear kb'
  go_enter Tryz.func4, Tryz.ntmps4
  go_wp2_with fail
  refine (awake _).mono ?_
  rintro e W1 ⟨rfl, k1⟩
  have hb : w.heap.size + 3 ≤ W1.heap.size := Nat.le_trans (by first | (simp; done) | (simp; omega)) k1.size
  clear z1 z2
  have w0' := w0.below k1
  clear w0
  have w0 := w0'
  clear w0'
  have w1' := w1.below k1
  clear w1
  have w1 := w1'
  clear w1'
  have w2' := w2.below k1
  clear w2
  have w2 := w2'
  clear w2'
  have B0' := B0.below k1
  clear B0
  have B0 := B0'
  clear B0'
  have B1' := B1.below k1
  clear B1
  have B1 := B1'
  clear B1'
  have B2' := B2.below k1
  clear B2
  have B2 := B2'
  clear B2'
  have kb' := kb.trans (k1.mono kb.size)
  clear kb k1
  have kb := kb'
  clear kb'
  go_wp2_with (first | go_skip | (refine CelG.gload SE _ rfl _ rfl a0 B0 rfl ?_) | (refine CelG.gload SE _ rfl _ rfl a1 B1 rfl ?_) | (refine CelG.gload SE _ rfl _ rfl a2 B2 rfl ?_))
  have hc := few_ret a0 _ w0 g0
  rw [X0.out] at hc
  refine hc.mono ?_
  clear hc
  rintro e W2 ⟨rfl, k2⟩
  have w0' := w0.below k2
  clear w0
  have w0 := w0'
  clear w0'
  have w1' := w1.below k2
  clear w1
  have w1 := w1'
  clear w1'
  have w2' := w2.below k2
  clear w2
  have w2 := w2'
  clear w2'
  have B0' := B0.below k2
  clear B0
  have B0 := B0'
  clear B0'
  have B1' := B1.below k2
  clear B1
  have B1 := B1'
  clear B1'
  have B2' := B2.below k2
  clear B2
  have B2 := B2'
  clear B2'
  have kb' := kb.trans (k2.mono kb.size)
  clear kb k2
  have kb := kb'
  clear kb'
  go_wp2_with (first | go_skip | (refine CelG.gload SE _ rfl _ rfl a0 B0 rfl ?_) | (refine CelG.gload SE _ rfl _ rfl a1 B1 rfl ?_) | (refine CelG.gload SE _ rfl _ rfl a2 B2 rfl ?_))
  have hc := few_ret a1 _ w1 g1
  rw [X1.out] at hc
  refine hc.mono ?_
  clear hc
  rintro e W3 ⟨rfl, k3⟩
  have w0' := w0.below k3
  clear w0
  have w0 := w0'
  clear w0'
  have w1' := w1.below k3
  clear w1
  have w1 := w1'
  clear w1'
  have w2' := w2.below k3
  clear w2
  have w2 := w2'
  clear w2'
  have B0' := B0.below k3
  clear B0
  have B0 := B0'
  clear B0'
  have B1' := B1.below k3
  clear B1
  have B1 := B1'
  clear B1'
  have B2' := B2.below k3
  clear B2
  have B2 := B2'
  clear B2'
  have kb' := kb.trans (k3.mono kb.size)
  clear kb k3
  have kb := kb'
  clear kb'
  go_wp2_with (first | go_skip | (refine CelG.gload SE _ rfl _ rfl a0 B0 rfl ?_) | (refine CelG.gload SE _ rfl _ rfl a1 B1 rfl ?_) | (refine CelG.gload SE _ rfl _ rfl a2 B2 rfl ?_))
  have hc := few_ret a2 _ w2 g2
  rw [X2.out] at hc
  refine hc.mono ?_
  clear hc
  rintro e W4 ⟨rfl, k4⟩
  have w0' := w0.below k4
  clear w0
  have w0 := w0'
  clear w0'
  have w1' := w1.below k4
  clear w1
  have w1 := w1'
  clear w1'
  have w2' := w2.below k4
  clear w2
  have w2 := w2'
  clear w2'
  have B0' := B0.below k4
  clear B0
  have B0 := B0'
  clear B0'
  have B1' := B1.below k4
  clear B1
  have B1 := B1'
  clear B1'
  have B2' := B2.below k4
  clear B2
  have B2 := B2'
  clear B2'
  have kb' := kb.trans (k4.mono kb.size)
  clear kb k4
  have kb := kb'
  clear kb'
  go_wp2_with (first | go_skip | (refine CelG.gload SE _ rfl _ rfl a0 B0 rfl ?_) | (refine CelG.gload SE _ rfl _ rfl a1 B1 rfl ?_) | (refine CelG.gload SE _ rfl _ rfl a2 B2 rfl ?_))
  have hc := StL.merge_ret a0 a1 a2 _ w0 w1 w2 f0 f1 f2 y0 y1 y2
  rw [D1.out] at hc
  refine hc.mono ?_
  clear hc
  rintro e W5 ⟨vP, rfl, hP, SP, k5⟩
  have hP : vP.s = D.getD noS := hP
  rw [ER.out]
  have w0' := w0.below k5
  clear w0
  have w0 := w0'
  clear w0'
  have w1' := w1.below k5
  clear w1
  have w1 := w1'
  clear w1'
  have w2' := w2.below k5
  clear w2
  have w2 := w2'
  clear w2'
  have B0' := B0.below k5
  clear B0
  have B0 := B0'
  clear B0'
  have B1' := B1.below k5
  clear B1
  have B1 := B1'
  clear B1'
  have B2' := B2.below k5
  clear B2
  have B2 := B2'
  clear B2'
  have kb' := kb.trans (k5.mono kb.size)
  clear kb k5
  have kb := kb'
  clear kb'
  go_wp2_with (first | go_skip | (refine CelG.gload SE _ rfl _ rfl a0 B0 rfl ?_) | (refine CelG.gload SE _ rfl _ rfl a1 B1 rfl ?_) | (refine CelG.gload SE _ rfl _ rfl a2 B2 rfl ?_) | (refine Cel.wpList_store_new SE rfl _ _ rfl _ _ _ rfl vP _ rfl rfl rfl rfl ?_; intro W6 BP k6 g6 s6; clear g6 s6; have w0' := w0.below k6; clear w0; have w0 := w0'; clear w0'; have w1' := w1.below k6; clear w1; have w1 := w1'; clear w1'; have w2' := w2.below k6; clear w2; have w2 := w2'; clear w2'; have B0' := B0.below k6; clear B0; have B0 := B0'; clear B0'; have B1' := B1.below k6; clear B1; have B1 := B1'; clear B1'; have B2' := B2.below k6; clear B2; have B2 := B2'; clear B2'; have SP' := SP.below k6; clear SP; have SP := SP'; clear SP'; have kb' := kb.trans (k6.mono kb.size); clear kb k6; have kb := kb'; clear kb') | (refine CelG.gload SE _ rfl _ rfl vP BP rfl ?_))
  have hc := StJ.merge_ret a0 a1 a2 _ w0 w1 w2 f0 f1 f2 t0 t1 t2
  rw [D1.out] at hc
  refine hc.mono ?_
  clear hc
  rintro e W7 ⟨vQ, rfl, hQ, SQ, k7⟩
  have hQ : vQ.s = D.getD noS := hQ
  rw [ER.out]
  have w0' := w0.below k7
  clear w0
  have w0 := w0'
  clear w0'
  have w1' := w1.below k7
  clear w1
  have w1 := w1'
  clear w1'
  have w2' := w2.below k7
  clear w2
  have w2 := w2'
  clear w2'
  have B0' := B0.below k7
  clear B0
  have B0 := B0'
  clear B0'
  have B1' := B1.below k7
  clear B1
  have B1 := B1'
  clear B1'
  have B2' := B2.below k7
  clear B2
  have B2 := B2'
  clear B2'
  have SP' := SP.below k7
  clear SP
  have SP := SP'
  clear SP'
  have BP' := BP.below k7
  clear BP
  have BP := BP'
  clear BP'
  have kb' := kb.trans (k7.mono kb.size)
  clear kb k7
  have kb := kb'
  clear kb'
  go_wp2_with (first | go_skip | (refine CelG.gload SE _ rfl _ rfl a0 B0 rfl ?_) | (refine CelG.gload SE _ rfl _ rfl a1 B1 rfl ?_) | (refine CelG.gload SE _ rfl _ rfl a2 B2 rfl ?_) | (refine CelG.gload SE _ rfl _ rfl vP BP rfl ?_) | (refine Cel.wpList_store_new SE rfl _ _ rfl _ _ _ rfl vQ _ rfl rfl rfl rfl ?_; intro W8 BQ k8 g8 s8; clear g8 s8; have w0' := w0.below k8; clear w0; have w0 := w0'; clear w0'; have w1' := w1.below k8; clear w1; have w1 := w1'; clear w1'; have w2' := w2.below k8; clear w2; have w2 := w2'; clear w2'; have B0' := B0.below k8; clear B0; have B0 := B0'; clear B0'; have B1' := B1.below k8; clear B1; have B1 := B1'; clear B1'; have B2' := B2.below k8; clear B2; have B2 := B2'; clear B2'; have SP' := SP.below k8; clear SP; have SP := SP'; clear SP'; have BP' := BP.below k8; clear BP; have BP := BP'; clear BP'; have SQ' := SQ.below k8; clear SQ; have SQ := SQ'; clear SQ'; have kb' := kb.trans (k8.mono kb.size); clear kb k8; have kb := kb'; clear kb') | (refine CelG.gload SE _ rfl _ rfl vQ BQ rfl ?_))
  have hc := StR.same_ret vP vQ _ SP SQ
  rw [hP] at hc
  rw [hQ] at hc
  rw [sameS_iff.2 rfl] at hc
  refine hc.mono ?_
  clear hc
  rintro e W9 ⟨rfl, k9⟩
  have w0' := w0.below k9
  clear w0
  have w0 := w0'
  clear w0'
  have w1' := w1.below k9
  clear w1
  have w1 := w1'
  clear w1'
  have w2' := w2.below k9
  clear w2
  have w2 := w2'
  clear w2'
  have B0' := B0.below k9
  clear B0
  have B0 := B0'
  clear B0'
  have B1' := B1.below k9
  clear B1
  have B1 := B1'
  clear B1'
  have B2' := B2.below k9
  clear B2
  have B2 := B2'
  clear B2'
  have SP' := SP.below k9
  clear SP
  have SP := SP'
  clear SP'
  have BP' := BP.below k9
  clear BP
  have BP := BP'
  clear BP'
  have SQ' := SQ.below k9
  clear SQ
  have SQ := SQ'
  clear SQ'
  have BQ' := BQ.below k9
  clear BQ
  have BQ := BQ'
  clear BQ'
  have kb' := kb.trans (k9.mono kb.size)
  clear kb k9
  have kb := kb'
  clear kb'
  go_wp2_with (first | go_skip | (refine CelG.gload SE _ rfl _ rfl a0 B0 rfl ?_) | (refine CelG.gload SE _ rfl _ rfl a1 B1 rfl ?_) | (refine CelG.gload SE _ rfl _ rfl a2 B2 rfl ?_) | (refine CelG.gload SE _ rfl _ rfl vP BP rfl ?_) | (refine CelG.gload SE _ rfl _ rfl vQ BQ rfl ?_))
  have hc := StR.same_ret a1 a2 _ w1 w2
  rw [D2.out] at hc
  refine hc.mono ?_
  clear hc
  rintro e W10 ⟨rfl, k10⟩
  have w0' := w0.below k10
  clear w0
  have w0 := w0'
  clear w0'
  have w1' := w1.below k10
  clear w1
  have w1 := w1'
  clear w1'
  have w2' := w2.below k10
  clear w2
  have w2 := w2'
  clear w2'
  have B0' := B0.below k10
  clear B0
  have B0 := B0'
  clear B0'
  have B1' := B1.below k10
  clear B1
  have B1 := B1'
  clear B1'
  have B2' := B2.below k10
  clear B2
  have B2 := B2'
  clear B2'
  have SP' := SP.below k10
  clear SP
  have SP := SP'
  clear SP'
  have BP' := BP.below k10
  clear BP
  have BP := BP'
  clear BP'
  have SQ' := SQ.below k10
  clear SQ
  have SQ := SQ'
  clear SQ'
  have BQ' := BQ.below k10
  clear BQ
  have BQ := BQ'
  clear BQ'
  have kb' := kb.trans (k10.mono kb.size)
  clear kb k10
  have kb := kb'
  clear kb'
  go_wp2_with (first | go_skip | (refine CelG.gload SE _ rfl _ rfl a0 B0 rfl ?_) | (refine CelG.gload SE _ rfl _ rfl a1 B1 rfl ?_) | (refine CelG.gload SE _ rfl _ rfl a2 B2 rfl ?_) | (refine CelG.gload SE _ rfl _ rfl vP BP rfl ?_) | (refine CelG.gload SE _ rfl _ rfl vQ BQ rfl ?_))
  have hc := StE.same_ret a1 a2 _ w1 w2
  rw [D2.out] at hc
  refine hc.mono ?_
  clear hc
  rintro e W11 ⟨rfl, k11⟩
  have w0' := w0.below k11
  clear w0
  have w0 := w0'
  clear w0'
  have w1' := w1.below k11
  clear w1
  have w1 := w1'
  clear w1'
  have w2' := w2.below k11
  clear w2
  have w2 := w2'
  clear w2'
  have B0' := B0.below k11
  clear B0
  have B0 := B0'
  clear B0'
  have B1' := B1.below k11
  clear B1
  have B1 := B1'
  clear B1'
  have B2' := B2.below k11
  clear B2
  have B2 := B2'
  clear B2'
  have SP' := SP.below k11
  clear SP
  have SP := SP'
  clear SP'
  have BP' := BP.below k11
  clear BP
  have BP := BP'
  clear BP'
  have SQ' := SQ.below k11
  clear SQ
  have SQ := SQ'
  clear SQ'
  have BQ' := BQ.below k11
  clear BQ
  have BQ := BQ'
  clear BQ'
  have kb' := kb.trans (k11.mono kb.size)
  clear kb k11
  have kb := kb'
  clear kb'
  go_wp2_with (first | go_skip | (refine CelG.gload SE _ rfl _ rfl a0 B0 rfl ?_) | (refine CelG.gload SE _ rfl _ rfl a1 B1 rfl ?_) | (refine CelG.gload SE _ rfl _ rfl a2 B2 rfl ?_) | (refine CelG.gload SE _ rfl _ rfl vP BP rfl ?_) | (refine CelG.gload SE _ rfl _ rfl vQ BQ rfl ?_))
  go_ret
  exact ⟨by first | rfl | simp, kb⟩

theorem walk (a0 : Sv) (a1 : Sv) (a2 : Sv) (w : World) (w0 : In w a0) (g0 : OpenS.Good a0.s) (w1 : In w a1) (g1 : OpenS.Good a1.s) (w2 : In w a2) (g2 : OpenS.Good a2.s) :
    Calls Tryz.prog 4 #[.agg (sc a0), .agg (sc a1), .agg (sc a2)] w fun e w' => e = .returned (.bool true) ∧ Below w.heap.size w w' := by
  cases x0 : fewS a0.s with
  | false => exact out a0 a1 a2 w w0 g0 w1 g1 w2 g2 _ _ _ x0 rfl rfl (.inl rfl)
  | true =>
    cases x1 : fewS a1.s with
    | false => exact out a0 a1 a2 w w0 g0 w1 g1 w2 g2 _ _ _ x0 x1 rfl (.inr (.inl ⟨rfl, rfl⟩))
    | true =>
      cases x2 : fewS a2.s with
      | false => exact out a0 a1 a2 w w0 g0 w1 g1 w2 g2 _ _ _ x0 x1 x2 (.inr (.inr (⟨rfl, rfl, rfl⟩)))
      | true =>
        exact within a0 a1 a2 w w0 g0 w1 g1 w2 g2 x0 x1 x2

theorem own : ownKnob Tryz.prog.godebug = none := by kernel_rfl
theorem laidOut : laidOutB Tryz.prog = true := by kernel_rfl
set_option linter.unusedVariables false in
set_option maxRecDepth 100000 in
theorem lifted (os : Os) (started : os.Started) (H : Type) (enc : TypeId × Value → H) :
    ReturnsInHanded {} Tryz.checked os 4 .any (Rows.stateMergesSpec.pre6 enc Tryz.prog Tryz.f4 Rows.stateMergesRow.domain false) (Rows.stateMergesSpec.post enc Tryz.prog Tryz.f4 false true false false) := by
  refine returnsInHanded_of_change (C := Tryz.checked) own started (by kernel_rfl) Tryz.func4
    (ChangeSpec.witness6 (enc := enc) (C := Tryz.checked) false ⟨#[], #[.agg #[.slice none 0 0, .slice none 0 0, .slice none 0 0], .agg #[.slice none 0 0, .slice none 0 0, .slice none 0 0], .agg #[.slice none 0 0, .slice none 0 0, .slice none 0 0]], []⟩ 8 (by kernel_rfl) (by kernel_rfl) (by kernel_rfl) (by kernel_rfl)) ?_
  intro W base args ds gs before hval0 hW hcnd _
  have hval : ∀ (j : Nat) t v, Tryz.f4.params[j]? = some t → args[j]? = some v → Value.okWide Tryz.prog W .any base t v := hval0
  have hW' := hW
  obtain ⟨p, q, hA0, hV, rfl, hfz, hnd⟩ := hW
  have hA : DataW.TrodAll enc Tryz.prog W 0 (fun _ => true) true Tryz.f4.params.toList args.toList ds p := hA0
  rw [Tryz.params4] at hA hval
  obtain ⟨v0, vs0, d0, ds0, p0, q0, hargs, rfl, rfl, h0, r0⟩ := trodAll_cons hA
  obtain ⟨v1, vs1, d1, ds1, p1, q1, rfl, rfl, rfl, h1, r1⟩ := trodAll_cons r0
  obtain ⟨v2, vs2, d2, ds2, p2, q2, rfl, rfl, rfl, h2, r2⟩ := trodAll_cons r1
  obtain ⟨rfl, rfl, rfl⟩ := trodAll_nil r2
  obtain rfl : args = #[v0, v1, v2] := by cases args; simp_all
  obtain ⟨rfl, rfl⟩ := trodVars_none hV
  have k0 := h0
  have lt0 : ∀ x ∈ p0, x.block < W.heap.size := by obtain ⟨m, hm⟩ := k0; exact DataW.trod_lt m _ _ _ hm
  obtain ⟨a0, rfl, w0, g0⟩ := OpenS.open_state (hval 0 26 v0 rfl rfl) h0
  have k1 := h1
  have lt1 : ∀ x ∈ p1, x.block < W.heap.size := by obtain ⟨m, hm⟩ := k1; exact DataW.trod_lt m _ _ _ hm
  obtain ⟨a1, rfl, w1, g1⟩ := OpenS.open_state (hval 1 26 v1 rfl rfl) h1
  have k2 := h2
  have lt2 : ∀ x ∈ p2, x.block < W.heap.size := by obtain ⟨m, hm⟩ := k2; exact DataW.trod_lt m _ _ _ hm
  obtain ⟨a2, rfl, w2, g2⟩ := OpenS.open_state (hval 2 26 v2 rfl rfl) h2
  clear hA0 hval0
  refine (walk a0 a1 a2 W w0 g0 w1 g1 w2 g2).mono fun e W' ⟨he, bel⟩ => ?_
  subst he
  exact ⟨_, rfl, _, _, _, [], _, [], hW', trodAll_mk1 (shut_bool Tryz.underlying4 _), (trodAll_cons_mk (Below.trod laidOut (by kernel_rfl) (of_decide_eq_true (by kernel_rfl)) k0 bel lt0) (trodAll_cons_mk (Below.trod laidOut (by kernel_rfl) (of_decide_eq_true (by kernel_rfl)) k1 bel lt1) (trodAll_cons_mk (Below.trod laidOut (by kernel_rfl) (of_decide_eq_true (by kernel_rfl)) k2 bel lt2) trodAll_mk0))), rfl, bel.frame _, fun h => by cases h⟩

theorem over : Rows.stateMergesRow.holds Tryz.pinned (OpenSpec.ofChange Rows.stateMergesSpec) :=
  OpenClaim.holds_of_wide 4 Tryz.f4 rfl rfl rfl rfl rfl rfl rfl ⟨rfl, rfl, rfl, rfl, rfl⟩ rfl rfl rfl rfl rfl (by kernel_rfl) Tryz.func4 (by kernel_rfl)
    (of_decide_eq_true (by kernel_rfl)) (by unfold Func.isWrapper; first | (rw [if_pos (by decide +kernel)]; kernel_rfl) | (rw [if_neg (by decide +kernel)]; exact ⟨rfl, rfl⟩))
    (fun os started H enc _ => lifted os started H enc)

theorem proved : Rows.StateMergesSaid := over
end Go.Proofs.YtnjdkjkihbgkaaaGreat.stateMerges
