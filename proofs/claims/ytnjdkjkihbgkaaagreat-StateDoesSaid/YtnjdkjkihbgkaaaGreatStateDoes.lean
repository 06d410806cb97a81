/- StateDoes returns true for every input: any state may be, or not, is in bytes, and is, behind any operation, what the document says, or has the error. No condition. -/
import Derived.Test.YtnjdkjkihbgkaaaGreatStTJ4
import Derived.Test.YtnjdkjkihbgkaaaGreatOpenSJ3
import Derived.Test.YtnjdkjkihbgkaaaGreatStD
import Derived.Test.YtnjdkjkihbgkaaaGreatStQ
import Derived.ShutString
import Derived.ChangeOld
namespace Go.Proofs.YtnjdkjkihbgkaaaGreat.stateDoes
set_option maxRecDepth 100000
open Go Go.Sort Go.ChangeShapes Go.WideShapes Go.ChangeAt Go.RowKit Byt OpsM OpsW Rise RowS StM StN StW StX StY StA
open StR (sameS sameS_iff)

theorem put_B (s : St) : ∀ x ∈ putS s, B x := by
  have : putS s = (EncM.numL s.c.length ++ allC s.c) ++ ((EncM.numL s.r.length ++ allR s.r) ++ (EncM.numL s.p.length ++ allP s.p)) := by simp [putS, List.append_assoc]
  rw [this]
  exact StT.app_B (StT.C_B _) (StT.app_B (StT.R_B _) (StT.P_B _))

set_option maxRecDepth 100000 in
set_option maxHeartbeats 16000000 in
theorem out (a0 : Sv) (a1 : Opn) (a2 : Ev) (a3 : Int) (w : World) (w0 : In w a0) (g0 : OpenS.Good a0.s) (w1 : OpsC.Fit a1) (_w2 : OpenS.GoodE a2) (_w3 : (Lit.int .i64 a3).wf = true) (b0 : Bool) (x0 : fewS a0.s = b0) (h : b0 = false ∨ (b0 = true ∧ 100 < a1.key.size) ∨ (b0 = true ∧ a1.key.size ≤ 100 ∧ 100 < a1.elem.size)) :
    Calls Tryz.prog 3 #[.agg (sc a0), .agg (opc a1), .agg (ec a2), .int .i64 a3] w fun e w' => e = .returned (.bool true) ∧ Below w.heap.size w w' := by
  have sk := w1.key
  have se := w1.elem
  unfold maxLen at sk se
  rcases h with rfl | ⟨rfl, h1⟩ | ⟨rfl, h1, h2⟩
  all_goals
    have B0 : Cel.Box SE (w.alloc (.cells (sc a0) 26)) (w.heap.size) a0 := by exact Cel.Box.new (E := SE) w a0 _
    have k0 := StW.below_alloc w (.cells (sc a0) 26)
    have w0' := w0.below k0
    clear w0
    have w0 := w0'
    clear w0'
    have kb := k0
    clear k0
    have z1 : (w.alloc (.cells (sc a0) 26)).heap.size = w.heap.size + 1 := by simp
    have B1 : OpAt ((w.alloc (.cells (sc a0) 26)).alloc (.cells (opc a1) 28)) (w.heap.size + 1) a1 := by rw [← z1]; exact OpAt.new (w.alloc (.cells (sc a0) 26)) a1 _
    have k1 := StW.below_alloc (w.alloc (.cells (sc a0) 26)) (.cells (opc a1) 28)
    have w0' := w0.below k1
    clear w0
    have w0 := w0'
    clear w0'
    have B0' := B0.below k1
    clear B0
    have B0 := B0'
    clear B0'
    have kb' := kb.trans (k1.mono kb.size)
    clear kb k1
    have kb := kb'
    clear kb'
    have z2 : ((w.alloc (.cells (sc a0) 26)).alloc (.cells (opc a1) 28)).heap.size = w.heap.size + 2 := by simp
    have B2 : Cel.Box EE (((w.alloc (.cells (sc a0) 26)).alloc (.cells (opc a1) 28)).alloc (.cells (ec a2) 30)) (w.heap.size + 2) a2 := by rw [← z2]; exact Cel.Box.new (E := EE) ((w.alloc (.cells (sc a0) 26)).alloc (.cells (opc a1) 28)) a2 _
    have k2 := StW.below_alloc ((w.alloc (.cells (sc a0) 26)).alloc (.cells (opc a1) 28)) (.cells (ec a2) 30)
    have w0' := w0.below k2
    clear w0
    have w0 := w0'
    clear w0'
    have B0' := B0.below k2
    clear B0
    have B0 := B0'
    clear B0'
    have B1' := B1.below k2
    clear B1
    have B1 := B1'
    clear B1'
    have kb' := kb.trans (k2.mono kb.size)
    clear kb k2
    have kb := kb'
    clear kb'
    go_enter Tryz.func3, Tryz.ntmps3
    go_wp2_with fail
    refine (awake _).mono ?_
    rintro e W1 ⟨rfl, k1⟩
    have hb : w.heap.size + 3 ≤ W1.heap.size := Nat.le_trans (by first | (simp; done) | (simp; omega)) k1.size
    clear z1 z2
    have w0' := w0.below k1
    clear w0
    have w0 := w0'
    clear w0'
    have B0' := B0.below k1
    clear B0
    have B0 := B0'
    clear B0'
    have B1' := B1.below k1
    clear B1
    have B1 := B1'
    clear B1'
    have B2' := B2.below k1
    clear B2
    have B2 := B2'
    clear B2'
    have kb' := kb.trans (k1.mono kb.size)
    clear kb k1
    have kb := kb'
    clear kb'
    go_wp2_with (first | go_skip | (refine CelG.gload SE _ rfl _ rfl a0 B0 rfl ?_) | (refine CelG.gop _ rfl _ rfl a1 B1 rfl ?_) | (refine CelG.gload EE _ rfl _ rfl a2 B2 rfl ?_))
    have hc := few_ret a0 _ w0 g0
    rw [x0] at hc
    refine hc.mono ?_
    clear hc
    rintro e W2 ⟨rfl, k2⟩
    have w0' := w0.below k2
    clear w0
    have w0 := w0'
    clear w0'
    have B0' := B0.below k2
    clear B0
    have B0 := B0'
    clear B0'
    have B1' := B1.below k2
    clear B1
    have B1 := B1'
    clear B1'
    have B2' := B2.below k2
    clear B2
    have B2 := B2'
    clear B2'
    have kb' := kb.trans (k2.mono kb.size)
    clear kb k2
    have kb := kb'
    clear kb'
    have ck := B1.key
    have ce := B1.elem
    go_wp2_with (first | go_skip | (refine CelG.gload SE _ rfl _ rfl a0 B0 rfl ?_) | (refine CelG.gop _ rfl _ rfl a1 B1 rfl ?_) | (refine CelG.gload EE _ rfl _ rfl a2 B2 rfl ?_))
    go_ret
    exact ⟨by first | rfl | simp, kb⟩

set_option maxRecDepth 100000 in
set_option maxHeartbeats 32000000 in
theorem within (a0 : Sv) (a1 : Opn) (a2 : Ev) (a3 : Int) (w : World) (w0 : In w a0) (g0 : OpenS.Good a0.s) (w1 : OpsC.Fit a1) (w2 : OpenS.GoodE a2) (w3 : (Lit.int .i64 a3).wf = true) (x0 : fewS a0.s = true) (h1 : a1.key.size ≤ 100) (h2 : a1.elem.size ≤ 100) :
    Calls Tryz.prog 3 #[.agg (sc a0), .agg (opc a1), .agg (ec a2), .int .i64 a3] w fun e w' => e = .returned (.bool true) ∧ Below w.heap.size w w' := by
  have f0 := fits x0 g0
  have y0 := (few_len x0).le (show 30 ≤ 1000 by omega)
  have t0 := (few_len x0).le (show 30 ≤ 100000 by omega)
  have h0 := short x0 g0
  have h64 : CtrL.In64 a3 := by simpa [CtrL.In64, Lit.wf, IntKind.min, IntKind.max, IntKind.bits, IntKind.signed] using w3
  have hn : CtrL.In64 a2.node := ⟨w2.node.1, w2.node.2⟩
  have hs : CtrL.In64 a2.seq := ⟨w2.seq.1, w2.seq.2⟩
  have X0 := aside x0
  obtain ⟨D, hD⟩ : ∃ d, doS a0.s a1 a2.node a2.seq a3 = d := ⟨_, rfl⟩
  have D1 := aside hD
  obtain ⟨er, hER⟩ : ∃ e : Int, (if D.isSome then (0 : Int) else 1) = e := ⟨_, rfl⟩
  have ER := aside hER
  obtain ⟨m, hm⟩ : ∃ b, mayS a0.s = b := ⟨_, rfl⟩
  have HM := aside hm
  have hbeq : (m == m) = true := beq_self_eq_true m
  have hst : ((strOf (putS a0.s)).toList == (strOf (putS a0.s)).toList) = true := beq_self_eq_true _
  clear x0 hD hm hER
  have B0 : Cel.Box SE (w.alloc (.cells (sc a0) 26)) (w.heap.size) a0 := by exact Cel.Box.new (E := SE) w a0 _
  have k0 := StW.below_alloc w (.cells (sc a0) 26)
  have w0' := w0.below k0
  clear w0
  have w0 := w0'
  clear w0'
  have kb := k0
  clear k0
  have z1 : (w.alloc (.cells (sc a0) 26)).heap.size = w.heap.size + 1 := by simp
  have B1 : OpAt ((w.alloc (.cells (sc a0) 26)).alloc (.cells (opc a1) 28)) (w.heap.size + 1) a1 := by rw [← z1]; exact OpAt.new (w.alloc (.cells (sc a0) 26)) a1 _
  have k1 := StW.below_alloc (w.alloc (.cells (sc a0) 26)) (.cells (opc a1) 28)
  have w0' := w0.below k1
  clear w0
  have w0 := w0'
  clear w0'
  have B0' := B0.below k1
  clear B0
  have B0 := B0'
  clear B0'
  have kb' := kb.trans (k1.mono kb.size)
  clear kb k1
  have kb := kb'
  clear kb'
  have z2 : ((w.alloc (.cells (sc a0) 26)).alloc (.cells (opc a1) 28)).heap.size = w.heap.size + 2 := by simp
  have B2 : Cel.Box EE (((w.alloc (.cells (sc a0) 26)).alloc (.cells (opc a1) 28)).alloc (.cells (ec a2) 30)) (w.heap.size + 2) a2 := by rw [← z2]; exact Cel.Box.new (E := EE) ((w.alloc (.cells (sc a0) 26)).alloc (.cells (opc a1) 28)) a2 _
  have k2 := StW.below_alloc ((w.alloc (.cells (sc a0) 26)).alloc (.cells (opc a1) 28)) (.cells (ec a2) 30)
  have w0' := w0.below k2
  clear w0
  have w0 := w0'
  clear w0'
  have B0' := B0.below k2
  clear B0
  have B0 := B0'
  clear B0'
  have B1' := B1.below k2
  clear B1
  have B1 := B1'
  clear B1'
  have kb' := kb.trans (k2.mono kb.size)
  clear kb k2
  have kb := kb'
  clear kb'
  go_enter Tryz.func3, Tryz.ntmps3
  go_wp2_with fail
  refine (awake _).mono ?_
  rintro e W1 ⟨rfl, k1⟩
  have hb : w.heap.size + 3 ≤ W1.heap.size := Nat.le_trans (by first | (simp; done) | (simp; omega)) k1.size
  clear z1 z2
  have w0' := w0.below k1
  clear w0
  have w0 := w0'
  clear w0'
  have B0' := B0.below k1
  clear B0
  have B0 := B0'
  clear B0'
  have B1' := B1.below k1
  clear B1
  have B1 := B1'
  clear B1'
  have B2' := B2.below k1
  clear B2
  have B2 := B2'
  clear B2'
  have kb' := kb.trans (k1.mono kb.size)
  clear kb k1
  have kb := kb'
  clear kb'
  go_wp2_with (first | go_skip | (refine CelG.gload SE _ rfl _ rfl a0 B0 rfl ?_) | (refine CelG.gop _ rfl _ rfl a1 B1 rfl ?_) | (refine CelG.gload EE _ rfl _ rfl a2 B2 rfl ?_))
  have hc := few_ret a0 _ w0 g0
  rw [X0.out] at hc
  refine hc.mono ?_
  clear hc
  rintro e W2 ⟨rfl, k2⟩
  have w0' := w0.below k2
  clear w0
  have w0 := w0'
  clear w0'
  have B0' := B0.below k2
  clear B0
  have B0 := B0'
  clear B0'
  have B1' := B1.below k2
  clear B1
  have B1 := B1'
  clear B1'
  have B2' := B2.below k2
  clear B2
  have B2 := B2'
  clear B2'
  have kb' := kb.trans (k2.mono kb.size)
  clear kb k2
  have kb := kb'
  clear kb'
  have ck := B1.key
  have ce := B1.elem
  go_wp2_with (first | go_skip | (refine CelG.gload SE _ rfl _ rfl a0 B0 rfl ?_) | (refine CelG.gop _ rfl _ rfl a1 B1 rfl ?_) | (refine CelG.gload EE _ rfl _ rfl a2 B2 rfl ?_))
  have hc := StK.do_ret a0 a1 a2 a3 _ w0 f0 y0 w1  h64 hn hs
  rw [D1.out] at hc
  refine hc.mono ?_
  clear hc
  rintro e W3 ⟨vP, rfl, hP, SP, k3⟩
  have hP : vP.s = D.getD noS := hP
  rw [ER.out]
  have w0' := w0.below k3
  clear w0
  have w0 := w0'
  clear w0'
  have B0' := B0.below k3
  clear B0
  have B0 := B0'
  clear B0'
  have B1' := B1.below k3
  clear B1
  have B1 := B1'
  clear B1'
  have B2' := B2.below k3
  clear B2
  have B2 := B2'
  clear B2'
  have kb' := kb.trans (k3.mono kb.size)
  clear kb k3
  have kb := kb'
  clear kb'
  clear ck ce
  go_wp2_with (first | go_skip | (refine CelG.gload SE _ rfl _ rfl a0 B0 rfl ?_) | (refine CelG.gop _ rfl _ rfl a1 B1 rfl ?_) | (refine CelG.gload EE _ rfl _ rfl a2 B2 rfl ?_) | (refine Cel.wpList_store_new SE rfl _ _ rfl _ _ _ rfl vP _ rfl rfl rfl rfl ?_; intro W4 BP k4 g4 s4; clear g4 s4; have w0' := w0.below k4; clear w0; have w0 := w0'; clear w0'; have B0' := B0.below k4; clear B0; have B0 := B0'; clear B0'; have B1' := B1.below k4; clear B1; have B1 := B1'; clear B1'; have B2' := B2.below k4; clear B2; have B2 := B2'; clear B2'; have SP' := SP.below k4; clear SP; have SP := SP'; clear SP'; have kb' := kb.trans (k4.mono kb.size); clear kb k4; have kb := kb'; clear kb') | (refine CelG.gload SE _ rfl _ rfl vP BP rfl ?_))
  have hc := StD.do_ret a0 a1 a2 a3 _ w0 f0 t0 w1 (by omega) (by omega) h64 hn hs
  rw [D1.out] at hc
  refine hc.mono ?_
  clear hc
  rintro e W5 ⟨vQ, rfl, hQ, SQ, k5⟩
  have hQ : vQ.s = D.getD noS := hQ
  rw [ER.out]
  have w0' := w0.below k5
  clear w0
  have w0 := w0'
  clear w0'
  have B0' := B0.below k5
  clear B0
  have B0 := B0'
  clear B0'
  have B1' := B1.below k5
  clear B1
  have B1 := B1'
  clear B1'
  have B2' := B2.below k5
  clear B2
  have B2 := B2'
  clear B2'
  have SP' := SP.below k5
  clear SP
  have SP := SP'
  clear SP'
  have BP' := BP.below k5
  clear BP
  have BP := BP'
  clear BP'
  have kb' := kb.trans (k5.mono kb.size)
  clear kb k5
  have kb := kb'
  clear kb'
  go_wp2_with (first | go_skip | (refine CelG.gload SE _ rfl _ rfl a0 B0 rfl ?_) | (refine CelG.gop _ rfl _ rfl a1 B1 rfl ?_) | (refine CelG.gload EE _ rfl _ rfl a2 B2 rfl ?_) | (refine CelG.gload SE _ rfl _ rfl vP BP rfl ?_) | (refine Cel.wpList_store_new SE rfl _ _ rfl _ _ _ rfl vQ _ rfl rfl rfl rfl ?_; intro W6 BQ k6 g6 s6; clear g6 s6; have w0' := w0.below k6; clear w0; have w0 := w0'; clear w0'; have B0' := B0.below k6; clear B0; have B0 := B0'; clear B0'; have B1' := B1.below k6; clear B1; have B1 := B1'; clear B1'; have B2' := B2.below k6; clear B2; have B2 := B2'; clear B2'; have SP' := SP.below k6; clear SP; have SP := SP'; clear SP'; have BP' := BP.below k6; clear BP; have BP := BP'; clear BP'; have SQ' := SQ.below k6; clear SQ; have SQ := SQ'; clear SQ'; have kb' := kb.trans (k6.mono kb.size); clear kb k6; have kb := kb'; clear kb') | (refine CelG.gload SE _ rfl _ rfl vQ BQ rfl ?_))
  have hc := StR.same_ret vP vQ _ SP SQ
  rw [hP] at hc
  rw [hQ] at hc
  rw [sameS_iff.2 rfl] at hc
  refine hc.mono ?_
  clear hc
  rintro e W7 ⟨rfl, k7⟩
  have w0' := w0.below k7
  clear w0
  have w0 := w0'
  clear w0'
  have B0' := B0.below k7
  clear B0
  have B0 := B0'
  clear B0'
  have B1' := B1.below k7
  clear B1
  have B1 := B1'
  clear B1'
  have B2' := B2.below k7
  clear B2
  have B2 := B2'
  clear B2'
  have SP' := SP.below k7
  clear SP
  have SP := SP'
  clear SP'
  have BP' := BP.below k7
  clear BP
  have BP := BP'
  clear BP'
  have SQ' := SQ.below k7
  clear SQ
  have SQ := SQ'
  clear SQ'
  have BQ' := BQ.below k7
  clear BQ
  have BQ := BQ'
  clear BQ'
  have kb' := kb.trans (k7.mono kb.size)
  clear kb k7
  have kb := kb'
  clear kb'
  clear BP BQ SP SQ
  go_wp2_with (first | go_skip | (refine CelG.gload SE _ rfl _ rfl a0 B0 rfl ?_) | (refine CelG.gop _ rfl _ rfl a1 B1 rfl ?_) | (refine CelG.gload EE _ rfl _ rfl a2 B2 rfl ?_))
  have hc := StR.may_ret a0 _ w0 f0
  rw [HM.out] at hc
  refine hc.mono ?_
  clear hc
  rintro e W8 ⟨rfl, k8⟩
  have w0' := w0.below k8
  clear w0
  have w0 := w0'
  clear w0'
  have B0' := B0.below k8
  clear B0
  have B0 := B0'
  clear B0'
  have B1' := B1.below k8
  clear B1
  have B1 := B1'
  clear B1'
  have B2' := B2.below k8
  clear B2
  have B2 := B2'
  clear B2'
  have kb' := kb.trans (k8.mono kb.size)
  clear kb k8
  have kb := kb'
  clear kb'
  go_wp2_with (first | go_skip | (refine CelG.gload SE _ rfl _ rfl a0 B0 rfl ?_) | (refine CelG.gop _ rfl _ rfl a1 B1 rfl ?_) | (refine CelG.gload EE _ rfl _ rfl a2 B2 rfl ?_))
  refine Grow.region [(0, true), (1, true), (2, true), (3, true), (4, true), (5, true), (6, true), (7, true), (9, true), (8, false), (10, true), (11, true), (12, true), (13, true), (16, true), (14, false), (15, true), (17, false), (18, true), (19, true), (20, true), (21, true)] (by kernel_rfl) (by kernel_rfl) rfl (by kernel_rfl) (by intro c a d v w h; cases d <;> exact h) ?_
  rename World => V9
  have k9 := below_drew1 (Below.refl V9.heap.size V9)
  have w0' := w0.below k9
  clear w0
  have w0 := w0'
  clear w0'
  have B0' := B0.below k9
  clear B0
  have B0 := B0'
  clear B0'
  have B1' := B1.below k9
  clear B1
  have B1 := B1'
  clear B1'
  have B2' := B2.below k9
  clear B2
  have B2 := B2'
  clear B2'
  have kb' := kb.trans (k9.mono kb.size)
  clear kb k9
  have kb := kb'
  clear kb'
  generalize V9.drew = W9 at w0 B0 B1 B2 kb ⊢
  repeat (first | (refine Grow.reads rfl rfl ?_; go_big_quiet_want; refine Cel.quiet_row SE _ rfl _ _ rfl a0 B0.range ?_; go_big_quiet_on; refine wpQuiet_nil ?_; simp only [Act.put, List.setIfInBounds_toArray, List.set_cons_succ, List.set_cons_zero]) | (refine Grow.reads rfl rfl ?_; go_big_quiet_want; refine Cel.quiet_row EE _ rfl _ _ rfl a2 B2.range ?_; go_big_quiet_on; refine wpQuiet_nil ?_; simp only [Act.put, List.setIfInBounds_toArray, List.set_cons_succ, List.set_cons_zero]) | (refine Grow.reads rfl rfl ?_; go_big_quiet_step (fail); refine wpQuiet_nil ?_))
  refine Grow.acts rfl ?_
  go_wp2_with (first | go_skip | (refine CelG.gload SE _ rfl _ rfl a0 B0 rfl ?_) | (refine CelG.gop _ rfl _ rfl a1 B1 rfl ?_) | (refine CelG.gload EE _ rfl _ rfl a2 B2 rfl ?_))
  have hc := StE.may_ret a0 _ w0 f0 y0
  rw [HM.out] at hc
  refine hc.mono ?_
  clear hc
  rintro e W10 ⟨rfl, k10⟩
  go_wp2_with fail
  have kk := k10
  refine ⟨kk, ?_⟩
  clear kk
  have w0' := w0.below k10
  clear w0
  have w0 := w0'
  clear w0'
  have B0' := B0.below k10
  clear B0
  have B0 := B0'
  clear B0'
  have B1' := B1.below k10
  clear B1
  have B1 := B1'
  clear B1'
  have B2' := B2.below k10
  clear B2
  have B2 := B2'
  clear B2'
  have kb' := kb.trans (k10.mono kb.size)
  clear kb k10
  have kb := kb'
  clear kb'
  repeat (first | (refine Grow.reads rfl rfl ?_; go_big_quiet_want; refine Cel.quiet_row SE _ rfl _ _ rfl a0 B0.range ?_; go_big_quiet_on; refine wpQuiet_nil ?_; simp only [Act.put, List.setIfInBounds_toArray, List.set_cons_succ, List.set_cons_zero]) | (refine Grow.reads rfl rfl ?_; go_big_quiet_want; refine Cel.quiet_row EE _ rfl _ _ rfl a2 B2.range ?_; go_big_quiet_on; refine wpQuiet_nil ?_; simp only [Act.put, List.setIfInBounds_toArray, List.set_cons_succ, List.set_cons_zero]) | (refine Grow.reads rfl rfl ?_; go_big_quiet_step (fail); refine wpQuiet_nil ?_))
  refine Grow.acts rfl ?_
  go_wp2_with (first | go_skip | (refine CelG.gload SE _ rfl _ rfl a0 B0 rfl ?_) | (refine CelG.gop _ rfl _ rfl a1 B1 rfl ?_) | (refine CelG.gload EE _ rfl _ rfl a2 B2 rfl ?_))
  have hc := StT.put_is a0 _ w0 h0
  refine hc.mono ?_
  clear hc
  rintro e W11 ⟨vA, rfl, ownA, k11⟩
  go_wp2_with fail
  have kk := k11
  refine ⟨kk, ?_⟩
  clear kk
  obtain ⟨AA, CA, rfl, SA⟩ := Sl.own ownA (put_B _)
  clear ownA
  have w0' := w0.below k11
  clear w0
  have w0 := w0'
  clear w0'
  have B0' := B0.below k11
  clear B0
  have B0 := B0'
  clear B0'
  have B1' := B1.below k11
  clear B1
  have B1 := B1'
  clear B1'
  have B2' := B2.below k11
  clear B2
  have B2 := B2'
  clear B2'
  have kb' := kb.trans (k11.mono kb.size)
  clear kb k11
  have kb := kb'
  clear kb'
  have qA := fun d os => (SA.below (below_regrown _ d os)).conv rfl
  repeat (first | (refine Grow.reads rfl rfl ?_; go_big_quiet_want; refine Cel.quiet_row SE _ rfl _ _ rfl a0 B0.range ?_; go_big_quiet_on; refine wpQuiet_nil ?_; simp only [Act.put, List.setIfInBounds_toArray, List.set_cons_succ, List.set_cons_zero]) | (refine Grow.reads rfl rfl ?_; go_big_quiet_want; refine Cel.quiet_row EE _ rfl _ _ rfl a2 B2.range ?_; go_big_quiet_on; refine wpQuiet_nil ?_; simp only [Act.put, List.setIfInBounds_toArray, List.set_cons_succ, List.set_cons_zero]) | (refine Grow.reads rfl rfl ?_; go_big_quiet_step (fail); refine wpQuiet_nil ?_))
  refine Grow.acts rfl ?_
  go_wp2_with (first | go_skip | (refine CelG.gload SE _ rfl _ rfl a0 B0 rfl ?_) | (refine CelG.gop _ rfl _ rfl a1 B1 rfl ?_) | (refine CelG.gload EE _ rfl _ rfl a2 B2 rfl ?_))
  have hc := StQ.put_ret a0 _ w0 h0
  refine hc.mono ?_
  clear hc
  rintro e W12 ⟨vC, rfl, ownC, k12⟩
  go_wp2_with fail
  have kk := k12
  refine ⟨kk, ?_⟩
  clear kk
  obtain ⟨AC, CC, rfl, SC⟩ := Sl.own ownC (put_B _)
  clear ownC
  have w0' := w0.below k12
  clear w0
  have w0 := w0'
  clear w0'
  have B0' := B0.below k12
  clear B0
  have B0 := B0'
  clear B0'
  have B1' := B1.below k12
  clear B1
  have B1 := B1'
  clear B1'
  have B2' := B2.below k12
  clear B2
  have B2 := B2'
  clear B2'
  have SA' := SA.below k12
  clear SA
  have SA := SA'
  clear SA'
  have kb' := kb.trans (k12.mono kb.size)
  clear kb k12
  have kb := kb'
  clear kb'
  have qC := fun d os => (SC.below (below_regrown _ d os)).conv rfl
  repeat (first | (refine Grow.reads rfl rfl ?_; go_big_quiet_want; refine Cel.quiet_row SE _ rfl _ _ rfl a0 B0.range ?_; go_big_quiet_on; refine wpQuiet_nil ?_; simp only [Act.put, List.setIfInBounds_toArray, List.set_cons_succ, List.set_cons_zero]) | (refine Grow.reads rfl rfl ?_; go_big_quiet_want; refine Cel.quiet_row EE _ rfl _ _ rfl a2 B2.range ?_; go_big_quiet_on; refine wpQuiet_nil ?_; simp only [Act.put, List.setIfInBounds_toArray, List.set_cons_succ, List.set_cons_zero]) | (refine Grow.reads rfl rfl ?_; go_big_quiet_step (fail); refine wpQuiet_nil ?_))
  refine Grow.ends ?_
  go_wp2_with (first | go_skip | (refine CelG.gload SE _ rfl _ rfl a0 B0 rfl ?_) | (refine CelG.gop _ rfl _ rfl a1 B1 rfl ?_) | (refine CelG.gload EE _ rfl _ rfl a2 B2 rfl ?_))
  go_ret
  exact ⟨by first | rfl | simp, kb⟩

theorem walk (a0 : Sv) (a1 : Opn) (a2 : Ev) (a3 : Int) (w : World) (w0 : In w a0) (g0 : OpenS.Good a0.s) (w1 : OpsC.Fit a1) (w2 : OpenS.GoodE a2) (w3 : (Lit.int .i64 a3).wf = true) :
    Calls Tryz.prog 3 #[.agg (sc a0), .agg (opc a1), .agg (ec a2), .int .i64 a3] w fun e w' => e = .returned (.bool true) ∧ Below w.heap.size w w' := by
  cases x0 : fewS a0.s with
  | false => exact out a0 a1 a2 a3 w w0 g0 w1 w2 w3 _ x0 (.inl rfl)
  | true =>
    by_cases h1 : a1.key.size ≤ 100
    · by_cases h2 : a1.elem.size ≤ 100
      · exact within a0 a1 a2 a3 w w0 g0 w1 w2 w3 x0 h1 h2
      · exact out a0 a1 a2 a3 w w0 g0 w1 w2 w3 _ x0 (.inr (.inr ⟨rfl, h1, by omega⟩))
    · exact out a0 a1 a2 a3 w w0 g0 w1 w2 w3 _ x0 (.inr (.inl ⟨rfl, by omega⟩))

theorem own : ownKnob Tryz.prog.godebug = none := by kernel_rfl
theorem laidOut : laidOutB Tryz.prog = true := by kernel_rfl
set_option linter.unusedVariables false in
set_option maxRecDepth 100000 in
theorem lifted (os : Os) (started : os.Started) (H : Type) (enc : TypeId × Value → H) :
    ReturnsInHanded {} Tryz.checked os 3 .any (Rows.stateDoesSpec.pre6 enc Tryz.prog Tryz.f3 Rows.stateDoesRow.domain false) (Rows.stateDoesSpec.post enc Tryz.prog Tryz.f3 false true false false) := by
  refine returnsInHanded_of_change (C := Tryz.checked) own started (by kernel_rfl) Tryz.func3
    (ChangeSpec.witness6 (enc := enc) (C := Tryz.checked) false ⟨#[], #[.agg #[.slice none 0 0, .slice none 0 0, .slice none 0 0], .agg #[.int .i64 0, .string ByteArray.empty, .string ByteArray.empty, .int .i64 0], .agg #[.int .i64 0, .int .i64 0], .int .i64 0], []⟩ 8 (by kernel_rfl) (by kernel_rfl) (by kernel_rfl) (by kernel_rfl)) ?_
  intro W base args ds gs before hval0 hW hcnd _
  have hval : ∀ (j : Nat) t v, Tryz.f3.params[j]? = some t → args[j]? = some v → Value.okWide Tryz.prog W .any base t v := hval0
  have hW' := hW
  obtain ⟨p, q, hA0, hV, rfl, hfz, hnd⟩ := hW
  have hA : DataW.TrodAll enc Tryz.prog W 0 (fun _ => true) true Tryz.f3.params.toList args.toList ds p := hA0
  rw [Tryz.params3] at hA hval
  obtain ⟨v0, vs0, d0, ds0, p0, q0, hargs, rfl, rfl, h0, r0⟩ := trodAll_cons hA
  obtain ⟨v1, vs1, d1, ds1, p1, q1, rfl, rfl, rfl, h1, r1⟩ := trodAll_cons r0
  obtain ⟨v2, vs2, d2, ds2, p2, q2, rfl, rfl, rfl, h2, r2⟩ := trodAll_cons r1
  obtain ⟨v3, vs3, d3, ds3, p3, q3, rfl, rfl, rfl, h3, r3⟩ := trodAll_cons r2
  obtain ⟨rfl, rfl, rfl⟩ := trodAll_nil r3
  obtain rfl : args = #[v0, v1, v2, v3] := by cases args; simp_all
  obtain ⟨rfl, rfl⟩ := trodVars_none hV
  have k0 := h0
  have lt0 : ∀ x ∈ p0, x.block < W.heap.size := by obtain ⟨m, hm⟩ := k0; exact DataW.trod_lt m _ _ _ hm
  obtain ⟨a0, rfl, w0, g0⟩ := OpenS.open_state (hval 0 26 v0 rfl rfl) h0
  have k1 := h1
  have lt1 : ∀ x ∈ p1, x.block < W.heap.size := by obtain ⟨m, hm⟩ := k1; exact DataW.trod_lt m _ _ _ hm
  obtain ⟨a1, rfl, w1⟩ := OpenO.open_op Tryz.underlying28 (by kernel_rfl) (by kernel_rfl) Tryz.underlying3 Tryz.underlying9 Tryz.underlying9 Tryz.underlying3 (hval 1 28 v1 rfl rfl) h1
  have k2 := h2
  have lt2 : ∀ x ∈ p2, x.block < W.heap.size := by obtain ⟨m, hm⟩ := k2; exact DataW.trod_lt m _ _ _ hm
  obtain ⟨a2, rfl, w2⟩ := OpenS.open_event (hval 2 30 v2 rfl rfl) h2
  obtain ⟨a3, rfl, rfl, rfl, w3⟩ := open_int Tryz.underlying3 (hval 3 3 v3 rfl rfl) h3
  clear hA0 hval0
  refine (walk a0 a1 a2 a3 W w0 g0 w1 w2 w3).mono fun e W' ⟨he, bel⟩ => ?_
  subst he
  exact ⟨_, rfl, _, _, _, [], _, [], hW', trodAll_mk1 (shut_bool Tryz.underlying4 _), (trodAll_cons_mk (Below.trod laidOut (by kernel_rfl) (of_decide_eq_true (by kernel_rfl)) k0 bel lt0) (trodAll_cons_mk (Below.trod laidOut (by kernel_rfl) (of_decide_eq_true (by kernel_rfl)) k1 bel lt1) (trodAll_cons_mk (Below.trod laidOut (by kernel_rfl) (of_decide_eq_true (by kernel_rfl)) k2 bel lt2) (trodAll_cons_mk (shut_int Tryz.underlying3 w3) trodAll_mk0)))), rfl, bel.frame _, fun h => by cases h⟩

theorem over : Rows.stateDoesRow.holds Tryz.pinned (OpenSpec.ofChange Rows.stateDoesSpec) :=
  OpenClaim.holds_of_wide 3 Tryz.f3 rfl rfl rfl rfl rfl rfl rfl ⟨rfl, rfl, rfl, rfl, rfl⟩ rfl rfl rfl rfl rfl (by kernel_rfl) Tryz.func3 (by kernel_rfl)
    (of_decide_eq_true (by kernel_rfl)) (by unfold Func.isWrapper; first | (rw [if_pos (by decide +kernel)]; kernel_rfl) | (rw [if_neg (by decide +kernel)]; exact ⟨rfl, rfl⟩))
    (fun os started H enc _ => lifted os started H enc)

theorem proved : Rows.StateDoesSaid := over
end Go.Proofs.YtnjdkjkihbgkaaaGreat.stateDoes
