/- StateKeeps returns true for every input: an operation changes just the one of the three that it is of, and of that nothing of another key. No condition. -/
import Derived.Test.YtnjdkjkihbgkaaaGreatStTJ4
import Derived.Test.YtnjdkjkihbgkaaaGreatOpenSJ3
import Derived.Test.YtnjdkjkihbgkaaaGreatRegUJ3
import Derived.ShutString
import Derived.ChangeOld
namespace Go.Proofs.YtnjdkjkihbgkaaaGreat.stateKeeps
set_option maxRecDepth 100000
open Go Go.Sort Go.ChangeShapes Go.WideShapes Go.ChangeAt Go.RowKit Byt OpsM OpsW Rise RowS StM StN StW StX StY StA
open StR (sameS sameS_iff)

set_option maxRecDepth 100000 in
set_option maxHeartbeats 16000000 in
theorem out (a0 : Sv) (a1 : Opn) (a2 : Ev) (a3 : Int) (a4 : ByteArray) (w : World) (w0 : In w a0) (g0 : OpenS.Good a0.s) (w1 : OpsC.Fit a1) (_w2 : OpenS.GoodE a2) (_w3 : (Lit.int .i64 a3).wf = true) (w4 : a4.size ≤ maxLen) (b0 : Bool) (x0 : fewS a0.s = b0) (h : b0 = false ∨ (b0 = true ∧ 100 < a1.key.size) ∨ (b0 = true ∧ a1.key.size ≤ 100 ∧ 100 < a1.elem.size) ∨ (b0 = true ∧ a1.key.size ≤ 100 ∧ a1.elem.size ≤ 100 ∧ 100 < a4.size) ∨ (b0 = true ∧ a1.key.size ≤ 100 ∧ a1.elem.size ≤ 100 ∧ a4.size ≤ 100 ∧ (a4.toList == a1.key.toList) = true)) :
    Calls Tryz.prog 5 #[.agg (sc a0), .agg (opc a1), .agg (ec a2), .int .i64 a3, .string a4] w fun e w' => e = .returned (.bool true) ∧ Below w.heap.size w w' := by
  have sk := w1.key
  have se := w1.elem
  unfold maxLen at sk se w4
  rcases h with rfl | ⟨rfl, h1⟩ | ⟨rfl, h1, h2⟩ | ⟨rfl, h1, h2, h3⟩ | ⟨rfl, h1, h2, h3, h4⟩
  all_goals
    have B0 : Cel.Box SE (w.alloc (.cells (sc a0) 26)) (w.heap.size) a0 := by exact Cel.Box.new (E := SE) w a0 _
    have k0 := StW.below_alloc w (.cells (sc a0) 26)
    have w0' := w0.below k0
    clear w0
    have w0 := w0'
    clear w0'
    have kb := k0
    clear k0
    have z1 : (w.alloc (.cells (sc a0) 26)).heap.size = w.heap.size + 1 := by simp
    have B1 : OpAt ((w.alloc (.cells (sc a0) 26)).alloc (.cells (opc a1) 28)) (w.heap.size + 1) a1 := by rw [← z1]; exact OpAt.new (w.alloc (.cells (sc a0) 26)) a1 _
    have k1 := StW.below_alloc (w.alloc (.cells (sc a0) 26)) (.cells (opc a1) 28)
    have w0' := w0.below k1
    clear w0
    have w0 := w0'
    clear w0'
    have B0' := B0.below k1
    clear B0
    have B0 := B0'
    clear B0'
    have kb' := kb.trans (k1.mono kb.size)
    clear kb k1
    have kb := kb'
    clear kb'
    have z2 : ((w.alloc (.cells (sc a0) 26)).alloc (.cells (opc a1) 28)).heap.size = w.heap.size + 2 := by simp
    have B2 : Cel.Box EE (((w.alloc (.cells (sc a0) 26)).alloc (.cells (opc a1) 28)).alloc (.cells (ec a2) 30)) (w.heap.size + 2) a2 := by rw [← z2]; exact Cel.Box.new (E := EE) ((w.alloc (.cells (sc a0) 26)).alloc (.cells (opc a1) 28)) a2 _
    have k2 := StW.below_alloc ((w.alloc (.cells (sc a0) 26)).alloc (.cells (opc a1) 28)) (.cells (ec a2) 30)
    have w0' := w0.below k2
    clear w0
    have w0 := w0'
    clear w0'
    have B0' := B0.below k2
    clear B0
    have B0 := B0'
    clear B0'
    have B1' := B1.below k2
    clear B1
    have B1 := B1'
    clear B1'
    have kb' := kb.trans (k2.mono kb.size)
    clear kb k2
    have kb := kb'
    clear kb'
    go_enter Tryz.func5, Tryz.ntmps5
    go_wp2_with fail
    refine (awake _).mono ?_
    rintro e W1 ⟨rfl, k1⟩
    have hb : w.heap.size + 3 ≤ W1.heap.size := Nat.le_trans (by first | (simp; done) | (simp; omega)) k1.size
    clear z1 z2
    have w0' := w0.below k1
    clear w0
    have w0 := w0'
    clear w0'
    have B0' := B0.below k1
    clear B0
    have B0 := B0'
    clear B0'
    have B1' := B1.below k1
    clear B1
    have B1 := B1'
    clear B1'
    have B2' := B2.below k1
    clear B2
    have B2 := B2'
    clear B2'
    have kb' := kb.trans (k1.mono kb.size)
    clear kb k1
    have kb := kb'
    clear kb'
    go_wp2_with (first | go_skip | (refine CelG.gload SE _ rfl _ rfl a0 B0 rfl ?_) | (refine CelG.gop _ rfl _ rfl a1 B1 rfl ?_) | (refine CelG.gload EE _ rfl _ rfl a2 B2 rfl ?_))
    have hc := few_ret a0 _ w0 g0
    rw [x0] at hc
    refine hc.mono ?_
    clear hc
    rintro e W2 ⟨rfl, k2⟩
    have w0' := w0.below k2
    clear w0
    have w0 := w0'
    clear w0'
    have B0' := B0.below k2
    clear B0
    have B0 := B0'
    clear B0'
    have B1' := B1.below k2
    clear B1
    have B1 := B1'
    clear B1'
    have B2' := B2.below k2
    clear B2
    have B2 := B2'
    clear B2'
    have kb' := kb.trans (k2.mono kb.size)
    clear kb k2
    have kb := kb'
    clear kb'
    have ck := B1.key
    have ce := B1.elem
    go_wp2_with (first | go_skip | (refine CelG.gload SE _ rfl _ rfl a0 B0 rfl ?_) | (refine CelG.gop _ rfl _ rfl a1 B1 rfl ?_) | (refine CelG.gload EE _ rfl _ rfl a2 B2 rfl ?_))
    go_ret
    exact ⟨by first | rfl | simp, kb⟩

set_option maxRecDepth 100000 in
set_option maxHeartbeats 32000000 in
theorem nought (a0 : Sv) (a1 : Opn) (a2 : Ev) (a3 : Int) (a4 : ByteArray) (w : World) (w0 : In w a0) (g0 : OpenS.Good a0.s) (w1 : OpsC.Fit a1) (w2 : OpenS.GoodE a2) (w3 : (Lit.int .i64 a3).wf = true) (_w4 : a4.size ≤ maxLen) (x0 : fewS a0.s = true) (h1 : a1.key.size ≤ 100) (h2 : a1.elem.size ≤ 100) (h3 : a4.size ≤ 100) (hne : (a4.toList == a1.key.toList) = false) (e1 : doS a0.s a1 a2.node a2.seq a3 = none) :
    Calls Tryz.prog 5 #[.agg (sc a0), .agg (opc a1), .agg (ec a2), .int .i64 a3, .string a4] w fun e w' => e = .returned (.bool true) ∧ Below w.heap.size w w' := by
  have f0 := fits x0 g0
  have y0 := (few_len x0).le (show 30 ≤ 1000 by omega)
  have h64 : CtrL.In64 a3 := by simpa [CtrL.In64, Lit.wf, IntKind.min, IntKind.max, IntKind.bits, IntKind.signed] using w3
  have hn : CtrL.In64 a2.node := ⟨w2.node.1, w2.node.2⟩
  have hs : CtrL.In64 a2.seq := ⟨w2.seq.1, w2.seq.2⟩
  have X0 := aside x0
  have D1 := aside e1
  clear x0 e1
  have B0 : Cel.Box SE (w.alloc (.cells (sc a0) 26)) (w.heap.size) a0 := by exact Cel.Box.new (E := SE) w a0 _
  have k0 := StW.below_alloc w (.cells (sc a0) 26)
  have w0' := w0.below k0
  clear w0
  have w0 := w0'
  clear w0'
  have kb := k0
  clear k0
  have z1 : (w.alloc (.cells (sc a0) 26)).heap.size = w.heap.size + 1 := by simp
  have B1 : OpAt ((w.alloc (.cells (sc a0) 26)).alloc (.cells (opc a1) 28)) (w.heap.size + 1) a1 := by rw [← z1]; exact OpAt.new (w.alloc (.cells (sc a0) 26)) a1 _
  have k1 := StW.below_alloc (w.alloc (.cells (sc a0) 26)) (.cells (opc a1) 28)
  have w0' := w0.below k1
  clear w0
  have w0 := w0'
  clear w0'
  have B0' := B0.below k1
  clear B0
  have B0 := B0'
  clear B0'
  have kb' := kb.trans (k1.mono kb.size)
  clear kb k1
  have kb := kb'
  clear kb'
  have z2 : ((w.alloc (.cells (sc a0) 26)).alloc (.cells (opc a1) 28)).heap.size = w.heap.size + 2 := by simp
  have B2 : Cel.Box EE (((w.alloc (.cells (sc a0) 26)).alloc (.cells (opc a1) 28)).alloc (.cells (ec a2) 30)) (w.heap.size + 2) a2 := by rw [← z2]; exact Cel.Box.new (E := EE) ((w.alloc (.cells (sc a0) 26)).alloc (.cells (opc a1) 28)) a2 _
  have k2 := StW.below_alloc ((w.alloc (.cells (sc a0) 26)).alloc (.cells (opc a1) 28)) (.cells (ec a2) 30)
  have w0' := w0.below k2
  clear w0
  have w0 := w0'
  clear w0'
  have B0' := B0.below k2
  clear B0
  have B0 := B0'
  clear B0'
  have B1' := B1.below k2
  clear B1
  have B1 := B1'
  clear B1'
  have kb' := kb.trans (k2.mono kb.size)
  clear kb k2
  have kb := kb'
  clear kb'
  go_enter Tryz.func5, Tryz.ntmps5
  go_wp2_with fail
  refine (awake _).mono ?_
  rintro e W1 ⟨rfl, k1⟩
  have hb : w.heap.size + 3 ≤ W1.heap.size := Nat.le_trans (by first | (simp; done) | (simp; omega)) k1.size
  clear z1 z2
  have w0' := w0.below k1
  clear w0
  have w0 := w0'
  clear w0'
  have B0' := B0.below k1
  clear B0
  have B0 := B0'
  clear B0'
  have B1' := B1.below k1
  clear B1
  have B1 := B1'
  clear B1'
  have B2' := B2.below k1
  clear B2
  have B2 := B2'
  clear B2'
  have kb' := kb.trans (k1.mono kb.size)
  clear kb k1
  have kb := kb'
  clear kb'
  go_wp2_with (first | go_skip | (refine CelG.gload SE _ rfl _ rfl a0 B0 rfl ?_) | (refine CelG.gop _ rfl _ rfl a1 B1 rfl ?_) | (refine CelG.gload EE _ rfl _ rfl a2 B2 rfl ?_))
  have hc := few_ret a0 _ w0 g0
  rw [X0.out] at hc
  refine hc.mono ?_
  clear hc
  rintro e W2 ⟨rfl, k2⟩
  have w0' := w0.below k2
  clear w0
  have w0 := w0'
  clear w0'
  have B0' := B0.below k2
  clear B0
  have B0 := B0'
  clear B0'
  have B1' := B1.below k2
  clear B1
  have B1 := B1'
  clear B1'
  have B2' := B2.below k2
  clear B2
  have B2 := B2'
  clear B2'
  have kb' := kb.trans (k2.mono kb.size)
  clear kb k2
  have kb := kb'
  clear kb'
  have ck := B1.key
  have ce := B1.elem
  go_wp2_with (first | go_skip | (refine CelG.gload SE _ rfl _ rfl a0 B0 rfl ?_) | (refine CelG.gop _ rfl _ rfl a1 B1 rfl ?_) | (refine CelG.gload EE _ rfl _ rfl a2 B2 rfl ?_))
  have hc := StK.do_ret a0 a1 a2 a3 _ w0 f0 y0 w1 h64 hn hs
  rw [D1.out] at hc
  refine hc.mono ?_
  clear hc
  rintro e W3 ⟨vP, rfl, hP, SP, k3⟩
  replace hP : vP.s = noS := hP
  have w0' := w0.below k3
  clear w0
  have w0 := w0'
  clear w0'
  have B0' := B0.below k3
  clear B0
  have B0 := B0'
  clear B0'
  have B1' := B1.below k3
  clear B1
  have B1 := B1'
  clear B1'
  have B2' := B2.below k3
  clear B2
  have B2 := B2'
  clear B2'
  have kb' := kb.trans (k3.mono kb.size)
  clear kb k3
  have kb := kb'
  clear kb'
  clear ck ce
  go_wp2_with (first | go_skip | (refine CelG.gload SE _ rfl _ rfl a0 B0 rfl ?_) | (refine CelG.gop _ rfl _ rfl a1 B1 rfl ?_) | (refine CelG.gload EE _ rfl _ rfl a2 B2 rfl ?_) | (refine Cel.wpList_store_new SE rfl _ _ rfl _ _ _ rfl vP _ rfl rfl rfl rfl ?_; intro W4 BP k4 g4 s4; clear g4 s4; have w0' := w0.below k4; clear w0; have w0 := w0'; clear w0'; have B0' := B0.below k4; clear B0; have B0 := B0'; clear B0'; have B1' := B1.below k4; clear B1; have B1 := B1'; clear B1'; have B2' := B2.below k4; clear B2; have B2 := B2'; clear B2'; have SP' := SP.below k4; clear SP; have SP := SP'; clear SP'; have kb' := kb.trans (k4.mono kb.size); clear kb k4; have kb := kb'; clear kb'; obtain ⟨p0, p1, p2⟩ := box_cells BP; rw [hP] at p0 p1 p2; simp only [noS, List.length_nil] at p0 p1 p2) | (refine CelG.gload SE _ rfl _ rfl vP BP rfl ?_))
  go_ret
  exact ⟨by first | rfl | simp, kb⟩

set_option maxRecDepth 100000 in
set_option maxHeartbeats 64000000 in
theorem yes (a0 : Sv) (a1 : Opn) (a2 : Ev) (a3 : Int) (a4 : ByteArray) (w : World) (w0 : In w a0) (g0 : OpenS.Good a0.s) (w1 : OpsC.Fit a1) (w2 : OpenS.GoodE a2) (w3 : (Lit.int .i64 a3).wf = true) (_w4 : a4.size ≤ maxLen) (x0 : fewS a0.s = true) (h1 : a1.key.size ≤ 100) (h2 : a1.elem.size ≤ 100) (h3 : a4.size ≤ 100) (hne : (a4.toList == a1.key.toList) = false) (X : St) (e1 : doS a0.s a1 a2.node a2.seq a3 = some X) (qX : Fits X) (rX : Len 1000 X) (mX : mayS X = true) (u0 : CtrM.getC X.c a4 = CtrM.getC a0.s.c a4) (u1 : RegM.getR X.r a4 = RegM.getR a0.s.r a4) (u2 : PairN.elemsP X.p a4 = PairN.elemsP a0.s.p a4)
    (hk : a1.kind = 0 ∨ a1.kind = 1 ∨ a1.kind = 2 ∨ a1.kind = 3) (k0 : a1.kind = 0 → (⟨a0.s.c, X.r, X.p⟩ : St) = a0.s) (k1 : a1.kind = 1 → (⟨X.c, a0.s.r, X.p⟩ : St) = a0.s) (k2 : a1.kind = 2 ∨ a1.kind = 3 → (⟨X.c, X.r, a0.s.p⟩ : St) = a0.s) :
    Calls Tryz.prog 5 #[.agg (sc a0), .agg (opc a1), .agg (ec a2), .int .i64 a3, .string a4] w fun e w' => e = .returned (.bool true) ∧ Below w.heap.size w w' := by
  have f0 := fits x0 g0
  have y0 := (few_len x0).le (show 30 ≤ 1000 by omega)
  have h64 : CtrL.In64 a3 := by simpa [CtrL.In64, Lit.wf, IntKind.min, IntKind.max, IntKind.bits, IntKind.signed] using w3
  have hn : CtrL.In64 a2.node := ⟨w2.node.1, w2.node.2⟩
  have hs : CtrL.In64 a2.seq := ⟨w2.seq.1, w2.seq.2⟩
  have X0 := aside x0
  have D1 := aside e1
  clear x0 e1
  obtain ⟨N, hN⟩ : ∃ n, CtrM.getC a0.s.c a4 = n := ⟨_, rfl⟩
  obtain ⟨O, hO⟩ : ∃ o, RegM.getR a0.s.r a4 = o := ⟨_, rfl⟩
  obtain ⟨T, hT⟩ : ∃ t, PairN.elemsP a0.s.p a4 = t := ⟨_, rfl⟩
  rw [hN] at u0
  rw [hO] at u1
  rw [hT] at u2
  obtain ⟨R, hR⟩ : ∃ r, RegX.vR O = r := ⟨_, rfl⟩
  obtain ⟨bO, hbO⟩ : ∃ b, O.isSome = b := ⟨_, rfl⟩
  obtain ⟨n, hnT⟩ : ∃ n, T.length = n := ⟨_, rfl⟩
  have n1 := aside hN
  have n2 := aside hO
  have n3 := aside hT
  have n4 := aside hR
  have n5 := aside hbO
  have n6 := aside hnT
  have v0 := aside u0
  have v1 := aside u1
  have v2 := aside u2
  have HK := aside hk
  have K0 := aside k0
  have K1 := aside k1
  have K2 := aside k2
  have MX := aside mX
  have lp : a0.s.p.length ≤ 200000 := by have := y0.p; omega
  have HL := aside rX
  clear hN hO hT hR hbO hnT u0 u1 u2 hk k0 k1 k2 mX rX
  have B0 : Cel.Box SE (w.alloc (.cells (sc a0) 26)) (w.heap.size) a0 := by exact Cel.Box.new (E := SE) w a0 _
  have k0 := StW.below_alloc w (.cells (sc a0) 26)
  have w0' := w0.below k0
  clear w0
  have w0 := w0'
  clear w0'
  have kb := k0
  clear k0
  have z1 : (w.alloc (.cells (sc a0) 26)).heap.size = w.heap.size + 1 := by simp
  have B1 : OpAt ((w.alloc (.cells (sc a0) 26)).alloc (.cells (opc a1) 28)) (w.heap.size + 1) a1 := by rw [← z1]; exact OpAt.new (w.alloc (.cells (sc a0) 26)) a1 _
  have k1 := StW.below_alloc (w.alloc (.cells (sc a0) 26)) (.cells (opc a1) 28)
  have w0' := w0.below k1
  clear w0
  have w0 := w0'
  clear w0'
  have B0' := B0.below k1
  clear B0
  have B0 := B0'
  clear B0'
  have kb' := kb.trans (k1.mono kb.size)
  clear kb k1
  have kb := kb'
  clear kb'
  have z2 : ((w.alloc (.cells (sc a0) 26)).alloc (.cells (opc a1) 28)).heap.size = w.heap.size + 2 := by simp
  have B2 : Cel.Box EE (((w.alloc (.cells (sc a0) 26)).alloc (.cells (opc a1) 28)).alloc (.cells (ec a2) 30)) (w.heap.size + 2) a2 := by rw [← z2]; exact Cel.Box.new (E := EE) ((w.alloc (.cells (sc a0) 26)).alloc (.cells (opc a1) 28)) a2 _
  have k2 := StW.below_alloc ((w.alloc (.cells (sc a0) 26)).alloc (.cells (opc a1) 28)) (.cells (ec a2) 30)
  have w0' := w0.below k2
  clear w0
  have w0 := w0'
  clear w0'
  have B0' := B0.below k2
  clear B0
  have B0 := B0'
  clear B0'
  have B1' := B1.below k2
  clear B1
  have B1 := B1'
  clear B1'
  have kb' := kb.trans (k2.mono kb.size)
  clear kb k2
  have kb := kb'
  clear kb'
  go_enter Tryz.func5, Tryz.ntmps5
  go_wp2_with fail
  refine (awake _).mono ?_
  rintro e W1 ⟨rfl, k1⟩
  have hb : w.heap.size + 3 ≤ W1.heap.size := Nat.le_trans (by first | (simp; done) | (simp; omega)) k1.size
  clear z1 z2
  have w0' := w0.below k1
  clear w0
  have w0 := w0'
  clear w0'
  have B0' := B0.below k1
  clear B0
  have B0 := B0'
  clear B0'
  have B1' := B1.below k1
  clear B1
  have B1 := B1'
  clear B1'
  have B2' := B2.below k1
  clear B2
  have B2 := B2'
  clear B2'
  have kb' := kb.trans (k1.mono kb.size)
  clear kb k1
  have kb := kb'
  clear kb'
  go_wp2_with (first | go_skip | (refine CelG.gload SE _ rfl _ rfl a0 B0 rfl ?_) | (refine CelG.gop _ rfl _ rfl a1 B1 rfl ?_) | (refine CelG.gload EE _ rfl _ rfl a2 B2 rfl ?_))
  have hc := few_ret a0 _ w0 g0
  rw [X0.out] at hc
  refine hc.mono ?_
  clear hc
  rintro e W2 ⟨rfl, k2⟩
  have w0' := w0.below k2
  clear w0
  have w0 := w0'
  clear w0'
  have B0' := B0.below k2
  clear B0
  have B0 := B0'
  clear B0'
  have B1' := B1.below k2
  clear B1
  have B1 := B1'
  clear B1'
  have B2' := B2.below k2
  clear B2
  have B2 := B2'
  clear B2'
  have kb' := kb.trans (k2.mono kb.size)
  clear kb k2
  have kb := kb'
  clear kb'
  have ck := B1.key
  have ce := B1.elem
  go_wp2_with (first | go_skip | (refine CelG.gload SE _ rfl _ rfl a0 B0 rfl ?_) | (refine CelG.gop _ rfl _ rfl a1 B1 rfl ?_) | (refine CelG.gload EE _ rfl _ rfl a2 B2 rfl ?_))
  have hc := StK.do_ret a0 a1 a2 a3 _ w0 f0 y0 w1 h64 hn hs
  rw [D1.out] at hc
  refine hc.mono ?_
  clear hc
  rintro e W3 ⟨vP, rfl, hP, SP, k3⟩
  replace hP : vP.s = X := hP
  have w0' := w0.below k3
  clear w0
  have w0 := w0'
  clear w0'
  have B0' := B0.below k3
  clear B0
  have B0 := B0'
  clear B0'
  have B1' := B1.below k3
  clear B1
  have B1 := B1'
  clear B1'
  have B2' := B2.below k3
  clear B2
  have B2 := B2'
  clear B2'
  have kb' := kb.trans (k3.mono kb.size)
  clear kb k3
  have kb := kb'
  clear kb'
  have HP := aside hP
  clear hP
  clear ck ce
  have w1v : RegM.getR vP.s.r a4 = O := by rw [HP.out]; exact v1.out
  have w0v : CtrM.getC vP.s.c a4 = N := by rw [HP.out]; exact v0.out
  have w2v : PairN.elemsP vP.s.p a4 = T := by rw [HP.out]; exact v2.out
  have z0v := aside w0v
  have z1v := aside w1v
  have z2v := aside w2v
  clear w0v w1v w2v
  have lX : Len 1000 vP.s := by rw [HP.out]; exact HL.out
  have fX : Fits vP.s := by rw [HP.out]; exact qX
  have lq : vP.s.p.length ≤ 200000 := by have := lX.p; omega
  have LX := aside lX
  clear lX
  go_wp2_with (first | go_skip | (refine CelG.gload SE _ rfl _ rfl a0 B0 rfl ?_) | (refine CelG.gop _ rfl _ rfl a1 B1 rfl ?_) | (refine CelG.gload EE _ rfl _ rfl a2 B2 rfl ?_) | (refine Cel.wpList_store_new SE rfl _ _ rfl _ _ _ rfl vP _ rfl rfl rfl rfl ?_; intro W4 BP k4 g4 s4; clear g4 s4; have w0' := w0.below k4; clear w0; have w0 := w0'; clear w0'; have B0' := B0.below k4; clear B0; have B0 := B0'; clear B0'; have B1' := B1.below k4; clear B1; have B1 := B1'; clear B1'; have B2' := B2.below k4; clear B2; have B2 := B2'; clear B2'; have SP' := SP.below k4; clear SP; have SP := SP'; clear SP'; have kb' := kb.trans (k4.mono kb.size); clear kb k4; have kb := kb'; clear kb'; have bc := (box_cells B0).2.1) | (refine CelG.gload SE _ rfl _ rfl vP BP rfl ?_))
  have hc := RegD.get_ret a0.a1 a0.k1 a0.s.r a4 _ w0.r y0.r
  rw [n2.out] at hc
  rw [RegX.gv_eq] at hc
  rw [n4.out] at hc
  rw [n5.out] at hc
  refine hc.mono ?_
  clear hc
  rintro e W5 ⟨rfl, k5⟩
  clear bc
  have w0' := w0.below k5
  clear w0
  have w0 := w0'
  clear w0'
  have B0' := B0.below k5
  clear B0
  have B0 := B0'
  clear B0'
  have B1' := B1.below k5
  clear B1
  have B1 := B1'
  clear B1'
  have B2' := B2.below k5
  clear B2
  have B2 := B2'
  clear B2'
  have SP' := SP.below k5
  clear SP
  have SP := SP'
  clear SP'
  have BP' := BP.below k5
  clear BP
  have BP := BP'
  clear BP'
  have kb' := kb.trans (k5.mono kb.size)
  clear kb k5
  have kb := kb'
  clear kb'
  skip
  go_wp2_with (first | go_skip | (refine CelG.gload SE _ rfl _ rfl a0 B0 rfl ?_) | (refine CelG.gop _ rfl _ rfl a1 B1 rfl ?_) | (refine CelG.gload EE _ rfl _ rfl a2 B2 rfl ?_) | (refine CelG.gload SE _ rfl _ rfl vP BP rfl ?_) | (refine RowB.wpList_store_new RegW.E rfl _ _ rfl _ _ _ rfl R _ rfl rfl rfl rfl ?_; intro W6 BR k6 g6 s6; clear g6 s6; have w0' := w0.below k6; clear w0; have w0 := w0'; clear w0'; have B0' := B0.below k6; clear B0; have B0 := B0'; clear B0'; have B1' := B1.below k6; clear B1; have B1 := B1'; clear B1'; have B2' := B2.below k6; clear B2; have B2 := B2'; clear B2'; have SP' := SP.below k6; clear SP; have SP := SP'; clear SP'; have BP' := BP.below k6; clear BP; have BP := BP'; clear BP'; have kb' := kb.trans (k6.mono kb.size); clear kb k6; have kb := kb'; clear kb'; have bc := (box_cells BP).2.1) | (refine RowC.gload RegW.E _ rfl _ rfl R BR rfl ?_))
  have hc := RegD.get_ret vP.a1 vP.k1 vP.s.r a4 _ SP.r LX.out.r
  rw [z1v.out] at hc
  rw [RegX.gv_eq] at hc
  rw [n4.out] at hc
  rw [n5.out] at hc
  refine hc.mono ?_
  clear hc
  rintro e W7 ⟨rfl, k7⟩
  clear bc
  have w0' := w0.below k7
  clear w0
  have w0 := w0'
  clear w0'
  have B0' := B0.below k7
  clear B0
  have B0 := B0'
  clear B0'
  have B1' := B1.below k7
  clear B1
  have B1 := B1'
  clear B1'
  have B2' := B2.below k7
  clear B2
  have B2 := B2'
  clear B2'
  have SP' := SP.below k7
  clear SP
  have SP := SP'
  clear SP'
  have BP' := BP.below k7
  clear BP
  have BP := BP'
  clear BP'
  have BR' := BR.below k7
  clear BR
  have BR := BR'
  clear BR'
  have kb' := kb.trans (k7.mono kb.size)
  clear kb k7
  have kb := kb'
  clear kb'
  go_wp2_with (first | go_skip | (refine CelG.gload SE _ rfl _ rfl a0 B0 rfl ?_) | (refine CelG.gop _ rfl _ rfl a1 B1 rfl ?_) | (refine CelG.gload EE _ rfl _ rfl a2 B2 rfl ?_) | (refine CelG.gload SE _ rfl _ rfl vP BP rfl ?_) | (refine RowC.gload RegW.E _ rfl _ rfl R BR rfl ?_) | (refine RowB.wpList_store_new RegW.E rfl _ _ rfl _ _ _ rfl R _ rfl rfl rfl rfl ?_; intro W8 BT k8 g8 s8; clear g8 s8; have w0' := w0.below k8; clear w0; have w0 := w0'; clear w0'; have B0' := B0.below k8; clear B0; have B0 := B0'; clear B0'; have B1' := B1.below k8; clear B1; have B1 := B1'; clear B1'; have B2' := B2.below k8; clear B2; have B2 := B2'; clear B2'; have SP' := SP.below k8; clear SP; have SP := SP'; clear SP'; have BP' := BP.below k8; clear BP; have BP := BP'; clear BP'; have BR' := BR.below k8; clear BR; have BR := BR'; clear BR'; have kb' := kb.trans (k8.mono kb.size); clear kb k8; have kb := kb'; clear kb'; have bc := (box_cells B0).2.2) | (refine RowC.gload RegW.E _ rfl _ rfl R BT rfl ?_))
  have hc := PairD.elems_ret a0.a2 a0.k2 a0.s.p a4 _ w0.p f0.p h3 lp
  rw [n3.out] at hc
  refine hc.mono ?_
  clear hc
  rintro e W9 ⟨A1, c1, rfl, _, k9⟩
  clear bc
  rw [n6.out]
  have w0' := w0.below k9
  clear w0
  have w0 := w0'
  clear w0'
  have B0' := B0.below k9
  clear B0
  have B0 := B0'
  clear B0'
  have B1' := B1.below k9
  clear B1
  have B1 := B1'
  clear B1'
  have B2' := B2.below k9
  clear B2
  have B2 := B2'
  clear B2'
  have SP' := SP.below k9
  clear SP
  have SP := SP'
  clear SP'
  have BP' := BP.below k9
  clear BP
  have BP := BP'
  clear BP'
  have BR' := BR.below k9
  clear BR
  have BR := BR'
  clear BR'
  have BT' := BT.below k9
  clear BT
  have BT := BT'
  clear BT'
  have kb' := kb.trans (k9.mono kb.size)
  clear kb k9
  have kb := kb'
  clear kb'
  have bc := (box_cells BP).2.2
  go_wp2_with (first | go_skip | (refine CelG.gload SE _ rfl _ rfl a0 B0 rfl ?_) | (refine CelG.gop _ rfl _ rfl a1 B1 rfl ?_) | (refine CelG.gload EE _ rfl _ rfl a2 B2 rfl ?_) | (refine CelG.gload SE _ rfl _ rfl vP BP rfl ?_) | (refine RowC.gload RegW.E _ rfl _ rfl R BR rfl ?_) | (refine RowC.gload RegW.E _ rfl _ rfl R BT rfl ?_))
  have hc := PairD.elems_ret vP.a2 vP.k2 vP.s.p a4 _ SP.p fX.p h3 lq
  rw [z2v.out] at hc
  refine hc.mono ?_
  clear hc
  rintro e W10 ⟨A2, c2, rfl, _, k10⟩
  clear bc
  rw [n6.out]
  have w0' := w0.below k10
  clear w0
  have w0 := w0'
  clear w0'
  have B0' := B0.below k10
  clear B0
  have B0 := B0'
  clear B0'
  have B1' := B1.below k10
  clear B1
  have B1 := B1'
  clear B1'
  have B2' := B2.below k10
  clear B2
  have B2 := B2'
  clear B2'
  have SP' := SP.below k10
  clear SP
  have SP := SP'
  clear SP'
  have BP' := BP.below k10
  clear BP
  have BP := BP'
  clear BP'
  have BR' := BR.below k10
  clear BR
  have BR := BR'
  clear BR'
  have BT' := BT.below k10
  clear BT
  have BT := BT'
  clear BT'
  have kb' := kb.trans (k10.mono kb.size)
  clear kb k10
  have kb := kb'
  clear kb'
  go_wp2_with (first | go_skip | (refine CelG.gload SE _ rfl _ rfl a0 B0 rfl ?_) | (refine CelG.gop _ rfl _ rfl a1 B1 rfl ?_) | (refine CelG.gload EE _ rfl _ rfl a2 B2 rfl ?_) | (refine CelG.gload SE _ rfl _ rfl vP BP rfl ?_) | (refine RowC.gload RegW.E _ rfl _ rfl R BR rfl ?_) | (refine RowC.gload RegW.E _ rfl _ rfl R BT rfl ?_))
  refine Grow.region [(0, true), (1, true), (2, true), (4, true), (5, true), (6, true), (3, false), (7, false), (8, true), (9, true), (10, true), (11, true), (12, true), (13, true), (14, true), (15, true), (16, true), (17, true), (18, true), (19, true), (20, true), (21, true), (22, true), (23, true), (24, true), (25, true), (26, true), (27, true), (28, false), (29, true), (30, true)] (by kernel_rfl) (by kernel_rfl) rfl (by kernel_rfl) (by intro c a d v w h; cases d <;> exact h) ?_
  rename World => V11
  have k11 := below_drew1 (Below.refl V11.heap.size V11)
  have w0' := w0.below k11
  clear w0
  have w0 := w0'
  clear w0'
  have B0' := B0.below k11
  clear B0
  have B0 := B0'
  clear B0'
  have B1' := B1.below k11
  clear B1
  have B1 := B1'
  clear B1'
  have B2' := B2.below k11
  clear B2
  have B2 := B2'
  clear B2'
  have SP' := SP.below k11
  clear SP
  have SP := SP'
  clear SP'
  have BP' := BP.below k11
  clear BP
  have BP := BP'
  clear BP'
  have BR' := BR.below k11
  clear BR
  have BR := BR'
  clear BR'
  have BT' := BT.below k11
  clear BT
  have BT := BT'
  clear BT'
  have kb' := kb.trans (k11.mono kb.size)
  clear kb k11
  have kb := kb'
  clear kb'
  generalize V11.drew = W11 at w0 B0 B1 B2 SP BP BR BT kb ⊢
  have r0 := Grow.grown (w := W11) (fun y hy => (box_cells (B0.below hy)).1)
  have rP := Grow.grown (w := W11) (fun y hy => (box_cells (BP.below hy)).1)
  repeat (first | (refine Grow.reads rfl rfl ?_; go_big_quiet_want; refine Cel.quiet_row SE _ rfl _ _ rfl a0 B0.range ?_; go_big_quiet_on; refine wpQuiet_nil ?_; simp only [Act.put, List.setIfInBounds_toArray, List.set_cons_succ, List.set_cons_zero]) | (refine Grow.reads rfl rfl ?_; go_big_quiet_want; refine Cel.quiet_row EE _ rfl _ _ rfl a2 B2.range ?_; go_big_quiet_on; refine wpQuiet_nil ?_; simp only [Act.put, List.setIfInBounds_toArray, List.set_cons_succ, List.set_cons_zero]) | (refine Grow.reads rfl rfl ?_; go_big_quiet_want; refine Cel.quiet_row SE _ rfl _ _ rfl vP BP.range ?_; go_big_quiet_on; refine wpQuiet_nil ?_; simp only [Act.put, List.setIfInBounds_toArray, List.set_cons_succ, List.set_cons_zero]) | (refine Grow.reads rfl rfl ?_; go_big_quiet_want; refine RowK.quiet_row RegW.E _ rfl _ _ rfl R BR.range ?_; go_big_quiet_on; refine wpQuiet_nil ?_; simp only [Act.put, List.setIfInBounds_toArray, List.set_cons_succ, List.set_cons_zero]) | (refine Grow.reads rfl rfl ?_; go_big_quiet_want; refine RowK.quiet_row RegW.E _ rfl _ _ rfl R BT.range ?_; go_big_quiet_on; refine wpQuiet_nil ?_; simp only [Act.put, List.setIfInBounds_toArray, List.set_cons_succ, List.set_cons_zero]) | (refine Grow.reads rfl rfl ?_; go_big_quiet_step (fail); refine wpQuiet_nil ?_))
  clear r0 rP
  refine Grow.acts rfl ?_
  go_wp2_with (first | go_skip | (refine CelG.gload SE _ rfl _ rfl a0 B0 rfl ?_) | (refine CelG.gop _ rfl _ rfl a1 B1 rfl ?_) | (refine CelG.gload EE _ rfl _ rfl a2 B2 rfl ?_) | (refine CelG.gload SE _ rfl _ rfl vP BP rfl ?_) | (refine RowC.gload RegW.E _ rfl _ rfl R BR rfl ?_) | (refine RowC.gload RegW.E _ rfl _ rfl R BT rfl ?_))
  have hc := CtrD.get_ret a0.a0 a0.k0 a0.s.c a4 _ w0.c y0.c
  rw [n1.out] at hc
  refine hc.mono ?_
  clear hc
  rintro e W12 ⟨rfl, k12⟩
  go_wp2_with fail
  have kk := k12
  refine ⟨kk, ?_⟩
  clear kk
  have w0' := w0.below k12
  clear w0
  have w0 := w0'
  clear w0'
  have B0' := B0.below k12
  clear B0
  have B0 := B0'
  clear B0'
  have B1' := B1.below k12
  clear B1
  have B1 := B1'
  clear B1'
  have B2' := B2.below k12
  clear B2
  have B2 := B2'
  clear B2'
  have SP' := SP.below k12
  clear SP
  have SP := SP'
  clear SP'
  have BP' := BP.below k12
  clear BP
  have BP := BP'
  clear BP'
  have BR' := BR.below k12
  clear BR
  have BR := BR'
  clear BR'
  have BT' := BT.below k12
  clear BT
  have BT := BT'
  clear BT'
  have kb' := kb.trans (k12.mono kb.size)
  clear kb k12
  have kb := kb'
  clear kb'
  refine Grow.acts rfl ?_
  go_wp2_with (first | go_skip | (refine CelG.gload SE _ rfl _ rfl a0 B0 rfl ?_) | (refine CelG.gop _ rfl _ rfl a1 B1 rfl ?_) | (refine CelG.gload EE _ rfl _ rfl a2 B2 rfl ?_) | (refine CelG.gload SE _ rfl _ rfl vP BP rfl ?_) | (refine RowC.gload RegW.E _ rfl _ rfl R BR rfl ?_) | (refine RowC.gload RegW.E _ rfl _ rfl R BT rfl ?_))
  have hc := CtrD.get_ret vP.a0 vP.k0 vP.s.c a4 _ SP.c LX.out.c
  rw [z0v.out] at hc
  refine hc.mono ?_
  clear hc
  rintro e W13 ⟨rfl, k13⟩
  go_wp2_with fail
  have kk := k13
  refine ⟨kk, ?_⟩
  clear kk
  have w0' := w0.below k13
  clear w0
  have w0 := w0'
  clear w0'
  have B0' := B0.below k13
  clear B0
  have B0 := B0'
  clear B0'
  have B1' := B1.below k13
  clear B1
  have B1 := B1'
  clear B1'
  have B2' := B2.below k13
  clear B2
  have B2 := B2'
  clear B2'
  have SP' := SP.below k13
  clear SP
  have SP := SP'
  clear SP'
  have BP' := BP.below k13
  clear BP
  have BP := BP'
  clear BP'
  have BR' := BR.below k13
  clear BR
  have BR := BR'
  clear BR'
  have BT' := BT.below k13
  clear BT
  have BT := BT'
  clear BT'
  have kb' := kb.trans (k13.mono kb.size)
  clear kb k13
  have kb := kb'
  clear kb'
  have heq := fun W => RegX.equal_yes (x := R) rfl W
  have hb1 : (bO == bO) = true := beq_self_eq_true _
  repeat (first | (refine Grow.reads rfl rfl ?_; go_big_quiet_want; refine Cel.quiet_row SE _ rfl _ _ rfl a0 B0.range ?_; go_big_quiet_on; refine wpQuiet_nil ?_; simp only [Act.put, List.setIfInBounds_toArray, List.set_cons_succ, List.set_cons_zero]) | (refine Grow.reads rfl rfl ?_; go_big_quiet_want; refine Cel.quiet_row EE _ rfl _ _ rfl a2 B2.range ?_; go_big_quiet_on; refine wpQuiet_nil ?_; simp only [Act.put, List.setIfInBounds_toArray, List.set_cons_succ, List.set_cons_zero]) | (refine Grow.reads rfl rfl ?_; go_big_quiet_want; refine Cel.quiet_row SE _ rfl _ _ rfl vP BP.range ?_; go_big_quiet_on; refine wpQuiet_nil ?_; simp only [Act.put, List.setIfInBounds_toArray, List.set_cons_succ, List.set_cons_zero]) | (refine Grow.reads rfl rfl ?_; go_big_quiet_want; refine RowK.quiet_row RegW.E _ rfl _ _ rfl R BR.range ?_; go_big_quiet_on; refine wpQuiet_nil ?_; simp only [Act.put, List.setIfInBounds_toArray, List.set_cons_succ, List.set_cons_zero]) | (refine Grow.reads rfl rfl ?_; go_big_quiet_want; refine RowK.quiet_row RegW.E _ rfl _ _ rfl R BT.range ?_; go_big_quiet_on; refine wpQuiet_nil ?_; simp only [Act.put, List.setIfInBounds_toArray, List.set_cons_succ, List.set_cons_zero]) | (refine Grow.reads rfl rfl ?_; go_big_quiet_step (fail); refine wpQuiet_nil ?_))
  refine Grow.acts rfl ?_
  go_wp2_with (first | go_skip | (refine CelG.gload SE _ rfl _ rfl a0 B0 rfl ?_) | (refine CelG.gop _ rfl _ rfl a1 B1 rfl ?_) | (refine CelG.gload EE _ rfl _ rfl a2 B2 rfl ?_) | (refine CelG.gload SE _ rfl _ rfl vP BP rfl ?_) | (refine RowC.gload RegW.E _ rfl _ rfl R BR rfl ?_) | (refine RowC.gload RegW.E _ rfl _ rfl R BT rfl ?_))
  have hc := StE.may_ret vP _ SP fX LX.out
  rw [HP.out] at hc
  rw [MX.out] at hc
  refine hc.mono ?_
  clear hc
  rintro e W14 ⟨rfl, k14⟩
  go_wp2_with fail
  have kk := k14
  refine ⟨kk, ?_⟩
  clear kk
  have w0' := w0.below k14
  clear w0
  have w0 := w0'
  clear w0'
  have B0' := B0.below k14
  clear B0
  have B0 := B0'
  clear B0'
  have B1' := B1.below k14
  clear B1
  have B1 := B1'
  clear B1'
  have B2' := B2.below k14
  clear B2
  have B2 := B2'
  clear B2'
  have SP' := SP.below k14
  clear SP
  have SP := SP'
  clear SP'
  have BP' := BP.below k14
  clear BP
  have BP := BP'
  clear BP'
  have BR' := BR.below k14
  clear BR
  have BR := BR'
  clear BR'
  have BT' := BT.below k14
  clear BT
  have BT := BT'
  clear BT'
  have kb' := kb.trans (k14.mono kb.size)
  clear kb k14
  have kb := kb'
  clear kb'
  repeat (first | (refine Grow.reads rfl rfl ?_; go_big_quiet_want; refine Cel.quiet_row SE _ rfl _ _ rfl a0 B0.range ?_; go_big_quiet_on; refine wpQuiet_nil ?_; simp only [Act.put, List.setIfInBounds_toArray, List.set_cons_succ, List.set_cons_zero]) | (refine Grow.reads rfl rfl ?_; go_big_quiet_want; refine Cel.quiet_row EE _ rfl _ _ rfl a2 B2.range ?_; go_big_quiet_on; refine wpQuiet_nil ?_; simp only [Act.put, List.setIfInBounds_toArray, List.set_cons_succ, List.set_cons_zero]) | (refine Grow.reads rfl rfl ?_; go_big_quiet_want; refine Cel.quiet_row SE _ rfl _ _ rfl vP BP.range ?_; go_big_quiet_on; refine wpQuiet_nil ?_; simp only [Act.put, List.setIfInBounds_toArray, List.set_cons_succ, List.set_cons_zero]) | (refine Grow.reads rfl rfl ?_; go_big_quiet_want; refine RowK.quiet_row RegW.E _ rfl _ _ rfl R BR.range ?_; go_big_quiet_on; refine wpQuiet_nil ?_; simp only [Act.put, List.setIfInBounds_toArray, List.set_cons_succ, List.set_cons_zero]) | (refine Grow.reads rfl rfl ?_; go_big_quiet_want; refine RowK.quiet_row RegW.E _ rfl _ _ rfl R BT.range ?_; go_big_quiet_on; refine wpQuiet_nil ?_; simp only [Act.put, List.setIfInBounds_toArray, List.set_cons_succ, List.set_cons_zero]) | (refine Grow.reads rfl rfl ?_; go_big_quiet_step (fail); refine wpQuiet_nil ?_))
  refine Grow.ends ?_
  clear BR BT
  clear heq
  have ltB0 := B0.lt
  have ltB1 := B1.lt
  have ltB2 := B2.lt
  have ltBP := BP.lt
  skip
  rcases HK.out with hk | hk | hk | hk
  · go_wp2_with (first | go_skip | (refine CelG.gload SE _ rfl _ rfl a0 B0 rfl ?_) | (refine CelG.gop _ rfl _ rfl a1 B1 rfl ?_) | (refine CelG.gload EE _ rfl _ rfl a2 B2 rfl ?_) | (refine CelG.gload SE _ rfl _ rfl vP BP rfl ?_) | (refine Cel.wpList_store_field SE rfl rfl 22 _ _ rfl StC.info_c (W14.heap.size) 0 rfl (of_decide_eq_true rfl) vP BU (⟨a0.a0, a0.k0, vP.a1, vP.k1, vP.a2, vP.k2, ⟨a0.s.c, vP.s.r, vP.s.p⟩⟩ : Sv) _ rfl rfl rfl rfl ?_; intro U16 B' f16 g16 s16; have w0' := w0.kept BU g16; have SP' := SP.kept BU g16; have kb' := kb.trans (f16 _ (by omega)); have B0' := B0.kept g16 (fun e => by injection e; omega); clear kb BU ck bc w0 SP B0 B1 B2 BP; have BU := B'; have kb := kb'; clear B' kb'; have B0 := B0'; clear B0'; have w0 := w0'; clear w0'; have SP := SP'; clear SP'; have IN : In U16 (⟨a0.a0, a0.k0, vP.a1, vP.k1, vP.a2, vP.k2, ⟨a0.s.c, vP.s.r, vP.s.p⟩⟩ : Sv) := ⟨w0.c, SP.r, SP.p⟩; have hN : (⟨a0.a0, a0.k0, vP.a1, vP.k1, vP.a2, vP.k2, ⟨a0.s.c, vP.s.r, vP.s.p⟩⟩ : Sv).s = a0.s := (by show (⟨_, _, _⟩ : St) = _; rw [HP.out]; exact K0.out hk); generalize (⟨a0.a0, a0.k0, vP.a1, vP.k1, vP.a2, vP.k2, ⟨a0.s.c, vP.s.r, vP.s.p⟩⟩ : Sv) = vN at BU IN hN; clear f16 g16 s16 SP) | (refine CelG.gload SE _ rfl _ rfl vN BU rfl ?_) | (refine Cel.wpList_store_new SE rfl _ _ rfl _ _ _ rfl vP _ rfl rfl rfl rfl ?_; intro W15 BU k15 g15 s15; clear g15 s15; have w0' := w0.below k15; clear w0; have w0 := w0'; clear w0'; have B0' := B0.below k15; clear B0; have B0 := B0'; clear B0'; have B1' := B1.below k15; clear B1; have B1 := B1'; clear B1'; have B2' := B2.below k15; clear B2; have B2 := B2'; clear B2'; have SP' := SP.below k15; clear SP; have SP := SP'; clear SP'; have BP' := BP.below k15; clear BP; have BP := BP'; clear BP'; have kb' := kb.trans (k15.mono kb.size); clear kb k15; have kb := kb'; clear kb'; have ck := B1.kind; rw [hk] at ck; have bc := (box_cells B0).1) | (refine CelG.gload SE _ rfl _ rfl vP BU rfl ?_))
    go_wp2_with (first | go_skip | (refine CelG.gload SE _ rfl _ rfl a0 B0 rfl ?_) | (refine CelG.gload SE _ rfl _ rfl vN BU rfl ?_))
    have hc := StE.same_ret vN a0 _ IN w0
    rw [hN] at hc
    rw [sameS_iff.2 rfl] at hc
    refine hc.mono ?_
    clear hc
    rintro e W17 ⟨rfl, k17⟩
    have w0' := w0.below k17
    clear w0
    have w0 := w0'
    clear w0'
    have B0' := B0.below k17
    clear B0
    have B0 := B0'
    clear B0'
    have BU' := BU.below k17
    clear BU
    have BU := BU'
    clear BU'
    have IN' := IN.below k17
    clear IN
    have IN := IN'
    clear IN'
    have kb' := kb.trans (k17.mono kb.size)
    clear kb k17
    have kb := kb'
    clear kb'
    go_wp2_with (first | go_skip | (refine CelG.gload SE _ rfl _ rfl a0 B0 rfl ?_) | (refine CelG.gload SE _ rfl _ rfl vN BU rfl ?_))
    go_ret
    exact ⟨by first | rfl | simp, kb⟩
  · go_wp2_with (first | go_skip | (refine CelG.gload SE _ rfl _ rfl a0 B0 rfl ?_) | (refine CelG.gop _ rfl _ rfl a1 B1 rfl ?_) | (refine CelG.gload EE _ rfl _ rfl a2 B2 rfl ?_) | (refine CelG.gload SE _ rfl _ rfl vP BP rfl ?_) | (refine Cel.wpList_store_field SE rfl rfl 23 _ _ rfl StC.info_r (W14.heap.size) 1 rfl (of_decide_eq_true rfl) vP BU (⟨vP.a0, vP.k0, a0.a1, a0.k1, vP.a2, vP.k2, ⟨vP.s.c, a0.s.r, vP.s.p⟩⟩ : Sv) _ rfl rfl rfl rfl ?_; intro U16 B' f16 g16 s16; have w0' := w0.kept BU g16; have SP' := SP.kept BU g16; have kb' := kb.trans (f16 _ (by omega)); have B0' := B0.kept g16 (fun e => by injection e; omega); clear kb BU ck bc w0 SP B0 B1 B2 BP; have BU := B'; have kb := kb'; clear B' kb'; have B0 := B0'; clear B0'; have w0 := w0'; clear w0'; have SP := SP'; clear SP'; have IN : In U16 (⟨vP.a0, vP.k0, a0.a1, a0.k1, vP.a2, vP.k2, ⟨vP.s.c, a0.s.r, vP.s.p⟩⟩ : Sv) := ⟨SP.c, w0.r, SP.p⟩; have hN : (⟨vP.a0, vP.k0, a0.a1, a0.k1, vP.a2, vP.k2, ⟨vP.s.c, a0.s.r, vP.s.p⟩⟩ : Sv).s = a0.s := (by show (⟨_, _, _⟩ : St) = _; rw [HP.out]; exact K1.out hk); generalize (⟨vP.a0, vP.k0, a0.a1, a0.k1, vP.a2, vP.k2, ⟨vP.s.c, a0.s.r, vP.s.p⟩⟩ : Sv) = vN at BU IN hN; clear f16 g16 s16 SP) | (refine CelG.gload SE _ rfl _ rfl vN BU rfl ?_) | (refine Cel.wpList_store_new SE rfl _ _ rfl _ _ _ rfl vP _ rfl rfl rfl rfl ?_; intro W15 BU k15 g15 s15; clear g15 s15; have w0' := w0.below k15; clear w0; have w0 := w0'; clear w0'; have B0' := B0.below k15; clear B0; have B0 := B0'; clear B0'; have B1' := B1.below k15; clear B1; have B1 := B1'; clear B1'; have B2' := B2.below k15; clear B2; have B2 := B2'; clear B2'; have SP' := SP.below k15; clear SP; have SP := SP'; clear SP'; have BP' := BP.below k15; clear BP; have BP := BP'; clear BP'; have kb' := kb.trans (k15.mono kb.size); clear kb k15; have kb := kb'; clear kb'; have ck := B1.kind; rw [hk] at ck; have bc := (box_cells B0).2.1) | (refine CelG.gload SE _ rfl _ rfl vP BU rfl ?_))
    go_wp2_with (first | go_skip | (refine CelG.gload SE _ rfl _ rfl a0 B0 rfl ?_) | (refine CelG.gload SE _ rfl _ rfl vN BU rfl ?_))
    have hc := StE.same_ret vN a0 _ IN w0
    rw [hN] at hc
    rw [sameS_iff.2 rfl] at hc
    refine hc.mono ?_
    clear hc
    rintro e W17 ⟨rfl, k17⟩
    have w0' := w0.below k17
    clear w0
    have w0 := w0'
    clear w0'
    have B0' := B0.below k17
    clear B0
    have B0 := B0'
    clear B0'
    have BU' := BU.below k17
    clear BU
    have BU := BU'
    clear BU'
    have IN' := IN.below k17
    clear IN
    have IN := IN'
    clear IN'
    have kb' := kb.trans (k17.mono kb.size)
    clear kb k17
    have kb := kb'
    clear kb'
    go_wp2_with (first | go_skip | (refine CelG.gload SE _ rfl _ rfl a0 B0 rfl ?_) | (refine CelG.gload SE _ rfl _ rfl vN BU rfl ?_))
    go_ret
    exact ⟨by first | rfl | simp, kb⟩
  · go_wp2_with (first | go_skip | (refine CelG.gload SE _ rfl _ rfl a0 B0 rfl ?_) | (refine CelG.gop _ rfl _ rfl a1 B1 rfl ?_) | (refine CelG.gload EE _ rfl _ rfl a2 B2 rfl ?_) | (refine CelG.gload SE _ rfl _ rfl vP BP rfl ?_) | (refine Cel.wpList_store_field SE rfl rfl 24 _ _ rfl StC.info_p (W14.heap.size) 2 rfl (of_decide_eq_true rfl) vP BU (⟨vP.a0, vP.k0, vP.a1, vP.k1, a0.a2, a0.k2, ⟨vP.s.c, vP.s.r, a0.s.p⟩⟩ : Sv) _ rfl rfl rfl rfl ?_; intro U16 B' f16 g16 s16; have w0' := w0.kept BU g16; have SP' := SP.kept BU g16; have kb' := kb.trans (f16 _ (by omega)); have B0' := B0.kept g16 (fun e => by injection e; omega); clear kb BU ck bc w0 SP B0 B1 B2 BP; have BU := B'; have kb := kb'; clear B' kb'; have B0 := B0'; clear B0'; have w0 := w0'; clear w0'; have SP := SP'; clear SP'; have IN : In U16 (⟨vP.a0, vP.k0, vP.a1, vP.k1, a0.a2, a0.k2, ⟨vP.s.c, vP.s.r, a0.s.p⟩⟩ : Sv) := ⟨SP.c, SP.r, w0.p⟩; have hN : (⟨vP.a0, vP.k0, vP.a1, vP.k1, a0.a2, a0.k2, ⟨vP.s.c, vP.s.r, a0.s.p⟩⟩ : Sv).s = a0.s := (by show (⟨_, _, _⟩ : St) = _; rw [HP.out]; exact K2.out (.inl hk)); generalize (⟨vP.a0, vP.k0, vP.a1, vP.k1, a0.a2, a0.k2, ⟨vP.s.c, vP.s.r, a0.s.p⟩⟩ : Sv) = vN at BU IN hN; clear f16 g16 s16 SP) | (refine CelG.gload SE _ rfl _ rfl vN BU rfl ?_) | (refine Cel.wpList_store_new SE rfl _ _ rfl _ _ _ rfl vP _ rfl rfl rfl rfl ?_; intro W15 BU k15 g15 s15; clear g15 s15; have w0' := w0.below k15; clear w0; have w0 := w0'; clear w0'; have B0' := B0.below k15; clear B0; have B0 := B0'; clear B0'; have B1' := B1.below k15; clear B1; have B1 := B1'; clear B1'; have B2' := B2.below k15; clear B2; have B2 := B2'; clear B2'; have SP' := SP.below k15; clear SP; have SP := SP'; clear SP'; have BP' := BP.below k15; clear BP; have BP := BP'; clear BP'; have kb' := kb.trans (k15.mono kb.size); clear kb k15; have kb := kb'; clear kb'; have ck := B1.kind; rw [hk] at ck; have bc := (box_cells B0).2.2) | (refine CelG.gload SE _ rfl _ rfl vP BU rfl ?_))
    go_wp2_with (first | go_skip | (refine CelG.gload SE _ rfl _ rfl a0 B0 rfl ?_) | (refine CelG.gload SE _ rfl _ rfl vN BU rfl ?_))
    have hc := StE.same_ret vN a0 _ IN w0
    rw [hN] at hc
    rw [sameS_iff.2 rfl] at hc
    refine hc.mono ?_
    clear hc
    rintro e W17 ⟨rfl, k17⟩
    have w0' := w0.below k17
    clear w0
    have w0 := w0'
    clear w0'
    have B0' := B0.below k17
    clear B0
    have B0 := B0'
    clear B0'
    have BU' := BU.below k17
    clear BU
    have BU := BU'
    clear BU'
    have IN' := IN.below k17
    clear IN
    have IN := IN'
    clear IN'
    have kb' := kb.trans (k17.mono kb.size)
    clear kb k17
    have kb := kb'
    clear kb'
    go_wp2_with (first | go_skip | (refine CelG.gload SE _ rfl _ rfl a0 B0 rfl ?_) | (refine CelG.gload SE _ rfl _ rfl vN BU rfl ?_))
    go_ret
    exact ⟨by first | rfl | simp, kb⟩
  · go_wp2_with (first | go_skip | (refine CelG.gload SE _ rfl _ rfl a0 B0 rfl ?_) | (refine CelG.gop _ rfl _ rfl a1 B1 rfl ?_) | (refine CelG.gload EE _ rfl _ rfl a2 B2 rfl ?_) | (refine CelG.gload SE _ rfl _ rfl vP BP rfl ?_) | (refine Cel.wpList_store_field SE rfl rfl 24 _ _ rfl StC.info_p (W14.heap.size) 2 rfl (of_decide_eq_true rfl) vP BU (⟨vP.a0, vP.k0, vP.a1, vP.k1, a0.a2, a0.k2, ⟨vP.s.c, vP.s.r, a0.s.p⟩⟩ : Sv) _ rfl rfl rfl rfl ?_; intro U16 B' f16 g16 s16; have w0' := w0.kept BU g16; have SP' := SP.kept BU g16; have kb' := kb.trans (f16 _ (by omega)); have B0' := B0.kept g16 (fun e => by injection e; omega); clear kb BU ck bc w0 SP B0 B1 B2 BP; have BU := B'; have kb := kb'; clear B' kb'; have B0 := B0'; clear B0'; have w0 := w0'; clear w0'; have SP := SP'; clear SP'; have IN : In U16 (⟨vP.a0, vP.k0, vP.a1, vP.k1, a0.a2, a0.k2, ⟨vP.s.c, vP.s.r, a0.s.p⟩⟩ : Sv) := ⟨SP.c, SP.r, w0.p⟩; have hN : (⟨vP.a0, vP.k0, vP.a1, vP.k1, a0.a2, a0.k2, ⟨vP.s.c, vP.s.r, a0.s.p⟩⟩ : Sv).s = a0.s := (by show (⟨_, _, _⟩ : St) = _; rw [HP.out]; exact K2.out (.inr hk)); generalize (⟨vP.a0, vP.k0, vP.a1, vP.k1, a0.a2, a0.k2, ⟨vP.s.c, vP.s.r, a0.s.p⟩⟩ : Sv) = vN at BU IN hN; clear f16 g16 s16 SP) | (refine CelG.gload SE _ rfl _ rfl vN BU rfl ?_) | (refine Cel.wpList_store_new SE rfl _ _ rfl _ _ _ rfl vP _ rfl rfl rfl rfl ?_; intro W15 BU k15 g15 s15; clear g15 s15; have w0' := w0.below k15; clear w0; have w0 := w0'; clear w0'; have B0' := B0.below k15; clear B0; have B0 := B0'; clear B0'; have B1' := B1.below k15; clear B1; have B1 := B1'; clear B1'; have B2' := B2.below k15; clear B2; have B2 := B2'; clear B2'; have SP' := SP.below k15; clear SP; have SP := SP'; clear SP'; have BP' := BP.below k15; clear BP; have BP := BP'; clear BP'; have kb' := kb.trans (k15.mono kb.size); clear kb k15; have kb := kb'; clear kb'; have ck := B1.kind; rw [hk] at ck; have bc := (box_cells B0).2.2) | (refine CelG.gload SE _ rfl _ rfl vP BU rfl ?_))
    go_wp2_with (first | go_skip | (refine CelG.gload SE _ rfl _ rfl a0 B0 rfl ?_) | (refine CelG.gload SE _ rfl _ rfl vN BU rfl ?_))
    have hc := StE.same_ret vN a0 _ IN w0
    rw [hN] at hc
    rw [sameS_iff.2 rfl] at hc
    refine hc.mono ?_
    clear hc
    rintro e W17 ⟨rfl, k17⟩
    have w0' := w0.below k17
    clear w0
    have w0 := w0'
    clear w0'
    have B0' := B0.below k17
    clear B0
    have B0 := B0'
    clear B0'
    have BU' := BU.below k17
    clear BU
    have BU := BU'
    clear BU'
    have IN' := IN.below k17
    clear IN
    have IN := IN'
    clear IN'
    have kb' := kb.trans (k17.mono kb.size)
    clear kb k17
    have kb := kb'
    clear kb'
    go_wp2_with (first | go_skip | (refine CelG.gload SE _ rfl _ rfl a0 B0 rfl ?_) | (refine CelG.gload SE _ rfl _ rfl vN BU rfl ?_))
    go_ret
    exact ⟨by first | rfl | simp, kb⟩

theorem walk (a0 : Sv) (a1 : Opn) (a2 : Ev) (a3 : Int) (a4 : ByteArray) (w : World) (w0 : In w a0) (g0 : OpenS.Good a0.s) (w1 : OpsC.Fit a1) (w2 : OpenS.GoodE a2) (w3 : (Lit.int .i64 a3).wf = true) (w4 : a4.size ≤ maxLen) :
    Calls Tryz.prog 5 #[.agg (sc a0), .agg (opc a1), .agg (ec a2), .int .i64 a3, .string a4] w fun e w' => e = .returned (.bool true) ∧ Below w.heap.size w w' := by
  cases x0 : fewS a0.s with
  | false => exact out a0 a1 a2 a3 a4 w w0 g0 w1 w2 w3 w4 _ x0 (.inl rfl)
  | true =>
    by_cases h1 : a1.key.size ≤ 100
    · by_cases h2 : a1.elem.size ≤ 100
      · by_cases h3 : a4.size ≤ 100
        · by_cases h4 : a4 = a1.key
          · exact out a0 a1 a2 a3 a4 w w0 g0 w1 w2 w3 w4 _ x0 (.inr (.inr (.inr (.inr ⟨rfl, h1, h2, h3, CtrW.str_yes h4⟩))))
          · cases hc : okD a0.s a1 a2.node a2.seq a3 with
            | false => exact nought a0 a1 a2 a3 a4 w w0 g0 w1 w2 w3 w4 x0 h1 h2 h3 (CtrW.str_no h4) (do_nil hc)
            | true =>
              have h64 : CtrL.In64 a3 := by simpa [CtrL.In64, Lit.wf, IntKind.min, IntKind.max, IntKind.bits, IntKind.signed] using w3
              obtain ⟨u0, u1, u2⟩ := step_else hc h4
              exact yes a0 a1 a2 a3 a4 w w0 g0 w1 w2 w3 w4 x0 h1 h2 h3 (CtrW.str_no h4) _ (do_some hc) (step_fits (fits x0 g0) hc ⟨w2.node.1, w2.node.2⟩ ⟨w2.seq.1, w2.seq.2⟩ h64) ((step_len (few_len x0) a1 a2.node a2.seq a3).le (show 30 + 1 ≤ 1000 by omega)) (step_may hc) u0 u1 u2 (kind_may (okD_iff.1 hc).2.1) back_c back_r back_p
        · exact out a0 a1 a2 a3 a4 w w0 g0 w1 w2 w3 w4 _ x0 (.inr (.inr (.inr (.inl ⟨rfl, h1, h2, by omega⟩))))
      · exact out a0 a1 a2 a3 a4 w w0 g0 w1 w2 w3 w4 _ x0 (.inr (.inr (.inl ⟨rfl, h1, by omega⟩)))
    · exact out a0 a1 a2 a3 a4 w w0 g0 w1 w2 w3 w4 _ x0 (.inr (.inl ⟨rfl, by omega⟩))

theorem own : ownKnob Tryz.prog.godebug = none := by kernel_rfl
theorem laidOut : laidOutB Tryz.prog = true := by kernel_rfl
set_option linter.unusedVariables false in
set_option maxRecDepth 100000 in
theorem lifted (os : Os) (started : os.Started) (H : Type) (enc : TypeId × Value → H) :
    ReturnsInHanded {} Tryz.checked os 5 .any (Rows.stateKeepsSpec.pre6 enc Tryz.prog Tryz.f5 Rows.stateKeepsRow.domain false) (Rows.stateKeepsSpec.post enc Tryz.prog Tryz.f5 false true false false) := by
  refine returnsInHanded_of_change (C := Tryz.checked) own started (by kernel_rfl) Tryz.func5
    (ChangeSpec.witness6 (enc := enc) (C := Tryz.checked) false ⟨#[], #[.agg #[.slice none 0 0, .slice none 0 0, .slice none 0 0], .agg #[.int .i64 0, .string ByteArray.empty, .string ByteArray.empty, .int .i64 0], .agg #[.int .i64 0, .int .i64 0], .int .i64 0, .string ByteArray.empty], []⟩ 8 (by kernel_rfl) (by kernel_rfl) (by kernel_rfl) (by kernel_rfl)) ?_
  intro W base args ds gs before hval0 hW hcnd _
  have hval : ∀ (j : Nat) t v, Tryz.f5.params[j]? = some t → args[j]? = some v → Value.okWide Tryz.prog W .any base t v := hval0
  have hW' := hW
  obtain ⟨p, q, hA0, hV, rfl, hfz, hnd⟩ := hW
  have hA : DataW.TrodAll enc Tryz.prog W 0 (fun _ => true) true Tryz.f5.params.toList args.toList ds p := hA0
  rw [Tryz.params5] at hA hval
  obtain ⟨v0, vs0, d0, ds0, p0, q0, hargs, rfl, rfl, h0, r0⟩ := trodAll_cons hA
  obtain ⟨v1, vs1, d1, ds1, p1, q1, rfl, rfl, rfl, h1, r1⟩ := trodAll_cons r0
  obtain ⟨v2, vs2, d2, ds2, p2, q2, rfl, rfl, rfl, h2, r2⟩ := trodAll_cons r1
  obtain ⟨v3, vs3, d3, ds3, p3, q3, rfl, rfl, rfl, h3, r3⟩ := trodAll_cons r2
  obtain ⟨v4, vs4, d4, ds4, p4, q4, rfl, rfl, rfl, h4, r4⟩ := trodAll_cons r3
  obtain ⟨rfl, rfl, rfl⟩ := trodAll_nil r4
  obtain rfl : args = #[v0, v1, v2, v3, v4] := by cases args; simp_all
  obtain ⟨rfl, rfl⟩ := trodVars_none hV
  have k0 := h0
  have lt0 : ∀ x ∈ p0, x.block < W.heap.size := by obtain ⟨m, hm⟩ := k0; exact DataW.trod_lt m _ _ _ hm
  obtain ⟨a0, rfl, w0, g0⟩ := OpenS.open_state (hval 0 26 v0 rfl rfl) h0
  have k1 := h1
  have lt1 : ∀ x ∈ p1, x.block < W.heap.size := by obtain ⟨m, hm⟩ := k1; exact DataW.trod_lt m _ _ _ hm
  obtain ⟨a1, rfl, w1⟩ := OpenO.open_op Tryz.underlying28 (by kernel_rfl) (by kernel_rfl) Tryz.underlying3 Tryz.underlying9 Tryz.underlying9 Tryz.underlying3 (hval 1 28 v1 rfl rfl) h1
  have k2 := h2
  have lt2 : ∀ x ∈ p2, x.block < W.heap.size := by obtain ⟨m, hm⟩ := k2; exact DataW.trod_lt m _ _ _ hm
  obtain ⟨a2, rfl, w2⟩ := OpenS.open_event (hval 2 30 v2 rfl rfl) h2
  obtain ⟨a3, rfl, rfl, rfl, w3⟩ := open_int Tryz.underlying3 (hval 3 3 v3 rfl rfl) h3
  obtain ⟨a4, rfl, rfl, rfl, w4⟩ := Go.ChangeMaps.open_string Tryz.underlying9 (hval 4 9 v4 rfl rfl) h4
  clear hA0 hval0
  refine (walk a0 a1 a2 a3 a4 W w0 g0 w1 w2 w3 w4).mono fun e W' ⟨he, bel⟩ => ?_
  subst he
  exact ⟨_, rfl, _, _, _, [], _, [], hW', trodAll_mk1 (shut_bool Tryz.underlying4 _), (trodAll_cons_mk (Below.trod laidOut (by kernel_rfl) (of_decide_eq_true (by kernel_rfl)) k0 bel lt0) (trodAll_cons_mk (Below.trod laidOut (by kernel_rfl) (of_decide_eq_true (by kernel_rfl)) k1 bel lt1) (trodAll_cons_mk (Below.trod laidOut (by kernel_rfl) (of_decide_eq_true (by kernel_rfl)) k2 bel lt2) (trodAll_cons_mk (shut_int Tryz.underlying3 w3) (trodAll_cons_mk (Go.ChangeMaps.shut_string Tryz.underlying9 w4) trodAll_mk0))))), rfl, bel.frame _, fun h => by cases h⟩

theorem over : Rows.stateKeepsRow.holds Tryz.pinned (OpenSpec.ofChange Rows.stateKeepsSpec) :=
  OpenClaim.holds_of_wide 5 Tryz.f5 rfl rfl rfl rfl rfl rfl rfl ⟨rfl, rfl, rfl, rfl, rfl⟩ rfl rfl rfl rfl rfl (by kernel_rfl) Tryz.func5 (by kernel_rfl)
    (of_decide_eq_true (by kernel_rfl)) (by unfold Func.isWrapper; first | (rw [if_pos (by decide +kernel)]; kernel_rfl) | (rw [if_neg (by decide +kernel)]; exact ⟨rfl, rfl⟩))
    (fun os started H enc _ => lifted os started H enc)

theorem proved : Rows.StateKeepsSaid := over
end Go.Proofs.YtnjdkjkihbgkaaaGreat.stateKeeps
