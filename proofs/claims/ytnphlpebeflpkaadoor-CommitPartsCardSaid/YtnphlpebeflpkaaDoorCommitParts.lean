/- CommitParts returns true for every input: a commit's bytes have thirty-two for each parent; with its parents in another order it may not be; of another event, or operation, it has other bytes. No condition. -/
import Derived.Test.YtnphlpebeflpkaaDoorCmA
import Derived.Test.YtnphlpebeflpkaaDoorShaLJ4
import Derived.Test.YtnphlpebeflpkaaDoorGrowLJ2
import Derived.Test.YtnphlpebeflpkaaDoorCards
import Derived.Test.YtnphlpebeflpkaaDoorTie
import Derived.ShutString
import Derived.ChangeOld
namespace Go.Proofs.YtnphlpebeflpkaaDoor.commitParts
set_option maxRecDepth 100000
open Go Go.Sort Go.ChangeShapes Go.WideShapes Go.ChangeAt Go.RowKit Byt IdM IdW OpsM OpsW CmM StW CmW CmX CmY CmA
open ShaE (KIn)
open CmR (sameK sameK_iff sameK_self)

set_option maxRecDepth 100000 in
set_option maxHeartbeats 16000000 in
theorem few (a0 : Cv) (a1 : Opn) (a2 : Int) (w : World) (w0 : In w a0) (g0 : Fit a0.c) (_w1 : OpsC.Fit a1) (_w2 : (Lit.int .i64 a2).wf = true) (hK : KIn w) (x0 : fewK a0.c = false) :
    Calls Tryd.prog 8 #[.agg (cc a0), .agg (opc a1), .int .i64 a2] w fun e w' => e = .returned (.bool true) ∧ Below w.heap.size w w' := by
  obtain ⟨P, hP⟩ : ∃ P, putB a0.c = P := ⟨_, rfl⟩
  have nP := aside hP
  obtain ⟨N, hN⟩ : ∃ N, putN a0.c = N := ⟨_, rfl⟩
  have nN := aside hN
  have X0 := aside x0
  clear x0 hP hN
  have B0 : Cel.Box CE (w.alloc (.cells (cc a0) 28)) (w.heap.size) a0 := by exact Cel.Box.new (E := CE) w a0 _
  have k0 := StW.below_alloc w (.cells (cc a0) 28)
  have w0' := w0.below k0
  clear w0
  have w0 := w0'
  clear w0'
  have hK' := hK.below k0
  clear hK
  have hK := hK'
  clear hK'
  have kb := k0
  clear k0
  have z1 : (w.alloc (.cells (cc a0) 28)).heap.size = w.heap.size + 1 := by simp
  have B1 : OpAt ((w.alloc (.cells (cc a0) 28)).alloc (.cells (opc a1) 26)) (w.heap.size + 1) a1 := by rw [← z1]; exact OpAt.new (w.alloc (.cells (cc a0) 28)) a1 _
  have k1 := StW.below_alloc (w.alloc (.cells (cc a0) 28)) (.cells (opc a1) 26)
  have w0' := w0.below k1
  clear w0
  have w0 := w0'
  clear w0'
  have hK' := hK.below k1
  clear hK
  have hK := hK'
  clear hK'
  have B0' := B0.below k1
  clear B0
  have B0 := B0'
  clear B0'
  have kb' := kb.trans (k1.mono kb.size)
  clear kb k1
  have kb := kb'
  clear kb'
  go_enter Tryd.func8, Tryd.ntmps8
  go_wp2_with fail
  refine (awake _ hK).mono ?_
  rintro e W1 ⟨rfl, k1⟩
  have hb : w.heap.size + 2 ≤ W1.heap.size := Nat.le_trans (by first | (simp; done) | (simp; omega)) k1.size
  clear z1
  have w0' := w0.below k1
  clear w0
  have w0 := w0'
  clear w0'
  have hK' := hK.below k1
  clear hK
  have hK := hK'
  clear hK'
  have B0' := B0.below k1
  clear B0
  have B0 := B0'
  clear B0'
  have B1' := B1.below k1
  clear B1
  have B1 := B1'
  clear B1'
  have kb' := kb.trans (k1.mono kb.size)
  clear kb k1
  have kb := kb'
  clear kb'
  go_wp2_with (first | go_skip | (refine CmW.gload _ rfl _ rfl a0 B0 rfl ?_) | (refine wpList_load_op rfl _ rfl _ rfl a1 B1 ?_))
  have hc := fun W => few_ret a0 W
  simp only [X0.out] at hc
  refine (hc _).mono ?_
  clear hc
  rintro e W2 ⟨rfl, k2⟩
  have w0' := w0.below k2
  clear w0
  have w0 := w0'
  clear w0'
  have hK' := hK.below k2
  clear hK
  have hK := hK'
  clear hK'
  have B0' := B0.below k2
  clear B0
  have B0 := B0'
  clear B0'
  have B1' := B1.below k2
  clear B1
  have B1 := B1'
  clear B1'
  have kb' := kb.trans (k2.mono kb.size)
  clear kb k2
  have kb := kb'
  clear kb'
  go_wp2_with (first | go_skip | (refine CmW.gload _ rfl _ rfl a0 B0 rfl ?_) | (refine wpList_load_op rfl _ rfl _ rfl a1 B1 ?_))
  have hc := CmA.put_ret a0 _ w0 g0
  unfold PutOut at hc
  rw [nP.out, nN.out] at hc
  refine hc.mono ?_
  clear hc
  rintro e W3 ⟨AP, CP, rfl, SP, k3⟩
  have w0' := w0.below k3
  clear w0
  have w0 := w0'
  clear w0'
  have hK' := hK.below k3
  clear hK
  have hK := hK'
  clear hK'
  have B0' := B0.below k3
  clear B0
  have B0 := B0'
  clear B0'
  have B1' := B1.below k3
  clear B1
  have B1 := B1'
  clear B1'
  have kb' := kb.trans (k3.mono kb.size)
  clear kb k3
  have kb := kb'
  clear kb'
  go_wp2_with (first | go_skip | (refine CmW.gload _ rfl _ rfl a0 B0 rfl ?_) | (refine wpList_load_op rfl _ rfl _ rfl a1 B1 ?_))
  go_ret
  exact ⟨by first | rfl | simp, kb⟩

set_option maxRecDepth 100000 in
set_option maxHeartbeats 16000000 in
theorem mayno (a0 : Cv) (a1 : Opn) (a2 : Int) (w : World) (w0 : In w a0) (g0 : Fit a0.c) (_w1 : OpsC.Fit a1) (_w2 : (Lit.int .i64 a2).wf = true) (hK : KIn w) (x0 : fewK a0.c = true) (x1 : mayK a0.c = false) :
    Calls Tryd.prog 8 #[.agg (cc a0), .agg (opc a1), .int .i64 a2] w fun e w' => e = .returned (.bool true) ∧ Below w.heap.size w w' := by
  obtain ⟨P, hP⟩ : ∃ P, putB a0.c = P := ⟨_, rfl⟩
  have nP := aside hP
  have nN := aside (putB_no x1).2.1
  have X0 := aside x0
  clear x0 x1 hP
  have B0 : Cel.Box CE (w.alloc (.cells (cc a0) 28)) (w.heap.size) a0 := by exact Cel.Box.new (E := CE) w a0 _
  have k0 := StW.below_alloc w (.cells (cc a0) 28)
  have w0' := w0.below k0
  clear w0
  have w0 := w0'
  clear w0'
  have hK' := hK.below k0
  clear hK
  have hK := hK'
  clear hK'
  have kb := k0
  clear k0
  have z1 : (w.alloc (.cells (cc a0) 28)).heap.size = w.heap.size + 1 := by simp
  have B1 : OpAt ((w.alloc (.cells (cc a0) 28)).alloc (.cells (opc a1) 26)) (w.heap.size + 1) a1 := by rw [← z1]; exact OpAt.new (w.alloc (.cells (cc a0) 28)) a1 _
  have k1 := StW.below_alloc (w.alloc (.cells (cc a0) 28)) (.cells (opc a1) 26)
  have w0' := w0.below k1
  clear w0
  have w0 := w0'
  clear w0'
  have hK' := hK.below k1
  clear hK
  have hK := hK'
  clear hK'
  have B0' := B0.below k1
  clear B0
  have B0 := B0'
  clear B0'
  have kb' := kb.trans (k1.mono kb.size)
  clear kb k1
  have kb := kb'
  clear kb'
  go_enter Tryd.func8, Tryd.ntmps8
  go_wp2_with fail
  refine (awake _ hK).mono ?_
  rintro e W1 ⟨rfl, k1⟩
  have hb : w.heap.size + 2 ≤ W1.heap.size := Nat.le_trans (by first | (simp; done) | (simp; omega)) k1.size
  clear z1
  have w0' := w0.below k1
  clear w0
  have w0 := w0'
  clear w0'
  have hK' := hK.below k1
  clear hK
  have hK := hK'
  clear hK'
  have B0' := B0.below k1
  clear B0
  have B0 := B0'
  clear B0'
  have B1' := B1.below k1
  clear B1
  have B1 := B1'
  clear B1'
  have kb' := kb.trans (k1.mono kb.size)
  clear kb k1
  have kb := kb'
  clear kb'
  go_wp2_with (first | go_skip | (refine CmW.gload _ rfl _ rfl a0 B0 rfl ?_) | (refine wpList_load_op rfl _ rfl _ rfl a1 B1 ?_))
  have hc := fun W => few_ret a0 W
  simp only [X0.out] at hc
  refine (hc _).mono ?_
  clear hc
  rintro e W2 ⟨rfl, k2⟩
  have w0' := w0.below k2
  clear w0
  have w0 := w0'
  clear w0'
  have hK' := hK.below k2
  clear hK
  have hK := hK'
  clear hK'
  have B0' := B0.below k2
  clear B0
  have B0 := B0'
  clear B0'
  have B1' := B1.below k2
  clear B1
  have B1 := B1'
  clear B1'
  have kb' := kb.trans (k2.mono kb.size)
  clear kb k2
  have kb := kb'
  clear kb'
  go_wp2_with (first | go_skip | (refine CmW.gload _ rfl _ rfl a0 B0 rfl ?_) | (refine wpList_load_op rfl _ rfl _ rfl a1 B1 ?_))
  have hc := CmA.put_ret a0 _ w0 g0
  unfold PutOut at hc
  rw [nP.out, nN.out] at hc
  refine hc.mono ?_
  clear hc
  rintro e W3 ⟨AP, CP, rfl, SP, k3⟩
  have w0' := w0.below k3
  clear w0
  have w0 := w0'
  clear w0'
  have hK' := hK.below k3
  clear hK
  have hK := hK'
  clear hK'
  have B0' := B0.below k3
  clear B0
  have B0 := B0'
  clear B0'
  have B1' := B1.below k3
  clear B1
  have B1 := B1'
  clear B1'
  have kb' := kb.trans (k3.mono kb.size)
  clear kb k3
  have kb := kb'
  clear kb'
  go_wp2_with (first | go_skip | (refine CmW.gload _ rfl _ rfl a0 B0 rfl ?_) | (refine wpList_load_op rfl _ rfl _ rfl a1 B1 ?_))
  go_ret
  exact ⟨by first | rfl | simp, kb⟩

set_option maxRecDepth 100000 in
set_option maxHeartbeats 16000000 in
theorem merge (a0 : Cv) (a1 : Opn) (a2 : Int) (w : World) (w0 : In w a0) (g0 : Fit a0.c) (_w1 : OpsC.Fit a1) (_w2 : (Lit.int .i64 a2).wf = true) (hK : KIn w) (x0 : fewK a0.c = true) (x1 : mayK a0.c = true) (x2 : isM a0.c = true) :
    Calls Tryd.prog 8 #[.agg (cc a0), .agg (opc a1), .int .i64 a2] w fun e w' => e = .returned (.bool true) ∧ Below w.heap.size w w' := by
  obtain ⟨P, hP⟩ : ∃ P, putB a0.c = P := ⟨_, rfl⟩
  have nP := aside hP
  have nN := aside (putB_yes x1).2.1
  have X0 := aside x0
  have X2 := aside x2
  clear x0 x1 x2 hP
  have B0 : Cel.Box CE (w.alloc (.cells (cc a0) 28)) (w.heap.size) a0 := by exact Cel.Box.new (E := CE) w a0 _
  have k0 := StW.below_alloc w (.cells (cc a0) 28)
  have w0' := w0.below k0
  clear w0
  have w0 := w0'
  clear w0'
  have hK' := hK.below k0
  clear hK
  have hK := hK'
  clear hK'
  have kb := k0
  clear k0
  have z1 : (w.alloc (.cells (cc a0) 28)).heap.size = w.heap.size + 1 := by simp
  have B1 : OpAt ((w.alloc (.cells (cc a0) 28)).alloc (.cells (opc a1) 26)) (w.heap.size + 1) a1 := by rw [← z1]; exact OpAt.new (w.alloc (.cells (cc a0) 28)) a1 _
  have k1 := StW.below_alloc (w.alloc (.cells (cc a0) 28)) (.cells (opc a1) 26)
  have w0' := w0.below k1
  clear w0
  have w0 := w0'
  clear w0'
  have hK' := hK.below k1
  clear hK
  have hK := hK'
  clear hK'
  have B0' := B0.below k1
  clear B0
  have B0 := B0'
  clear B0'
  have kb' := kb.trans (k1.mono kb.size)
  clear kb k1
  have kb := kb'
  clear kb'
  go_enter Tryd.func8, Tryd.ntmps8
  go_wp2_with fail
  refine (awake _ hK).mono ?_
  rintro e W1 ⟨rfl, k1⟩
  have hb : w.heap.size + 2 ≤ W1.heap.size := Nat.le_trans (by first | (simp; done) | (simp; omega)) k1.size
  clear z1
  have w0' := w0.below k1
  clear w0
  have w0 := w0'
  clear w0'
  have hK' := hK.below k1
  clear hK
  have hK := hK'
  clear hK'
  have B0' := B0.below k1
  clear B0
  have B0 := B0'
  clear B0'
  have B1' := B1.below k1
  clear B1
  have B1 := B1'
  clear B1'
  have kb' := kb.trans (k1.mono kb.size)
  clear kb k1
  have kb := kb'
  clear kb'
  go_wp2_with (first | go_skip | (refine CmW.gload _ rfl _ rfl a0 B0 rfl ?_) | (refine wpList_load_op rfl _ rfl _ rfl a1 B1 ?_))
  have hc := fun W => few_ret a0 W
  simp only [X0.out] at hc
  refine (hc _).mono ?_
  clear hc
  rintro e W2 ⟨rfl, k2⟩
  have w0' := w0.below k2
  clear w0
  have w0 := w0'
  clear w0'
  have hK' := hK.below k2
  clear hK
  have hK := hK'
  clear hK'
  have B0' := B0.below k2
  clear B0
  have B0 := B0'
  clear B0'
  have B1' := B1.below k2
  clear B1
  have B1 := B1'
  clear B1'
  have kb' := kb.trans (k2.mono kb.size)
  clear kb k2
  have kb := kb'
  clear kb'
  go_wp2_with (first | go_skip | (refine CmW.gload _ rfl _ rfl a0 B0 rfl ?_) | (refine wpList_load_op rfl _ rfl _ rfl a1 B1 ?_))
  have hc := CmA.put_ret a0 _ w0 g0
  unfold PutOut at hc
  rw [nP.out, nN.out] at hc
  refine hc.mono ?_
  clear hc
  rintro e W3 ⟨AP, CP, rfl, SP, k3⟩
  have w0' := w0.below k3
  clear w0
  have w0 := w0'
  clear w0'
  have hK' := hK.below k3
  clear hK
  have hK := hK'
  clear hK'
  have B0' := B0.below k3
  clear B0
  have B0 := B0'
  clear B0'
  have B1' := B1.below k3
  clear B1
  have B1 := B1'
  clear B1'
  have kb' := kb.trans (k3.mono kb.size)
  clear kb k3
  have kb := kb'
  clear kb'
  go_wp2_with (first | go_skip | (refine CmW.gload _ rfl _ rfl a0 B0 rfl ?_) | (refine wpList_load_op rfl _ rfl _ rfl a1 B1 ?_))
  have hc := CmA.merge_ret a0 _ w0 g0
  rw [X2.out] at hc
  refine hc.mono ?_
  clear hc
  rintro e W4 ⟨rfl, k4⟩
  have w0' := w0.below k4
  clear w0
  have w0 := w0'
  clear w0'
  have hK' := hK.below k4
  clear hK
  have hK := hK'
  clear hK'
  have B0' := B0.below k4
  clear B0
  have B0 := B0'
  clear B0'
  have B1' := B1.below k4
  clear B1
  have B1 := B1'
  clear B1'
  have SP' := SP.below k4
  clear SP
  have SP := SP'
  clear SP'
  have kb' := kb.trans (k4.mono kb.size)
  clear kb k4
  have kb := kb'
  clear kb'
  go_wp2_with (first | go_skip | (refine CmW.gload _ rfl _ rfl a0 B0 rfl ?_) | (refine wpList_load_op rfl _ rfl _ rfl a1 B1 ?_))
  go_ret
  exact ⟨by first | rfl | simp, kb⟩

set_option maxRecDepth 100000 in
set_option maxHeartbeats 16000000 in
theorem long (a0 : Cv) (a1 : Opn) (a2 : Int) (w : World) (w0 : In w a0) (g0 : Fit a0.c) (w1 : OpsC.Fit a1) (_w2 : (Lit.int .i64 a2).wf = true) (hK : KIn w) (x0 : fewK a0.c = true) (x1 : mayK a0.c = true) (x2 : isM a0.c = false) (h : 100 < a1.key.size ∨ (a1.key.size ≤ 100 ∧ 100 < a1.elem.size)) :
    Calls Tryd.prog 8 #[.agg (cc a0), .agg (opc a1), .int .i64 a2] w fun e w' => e = .returned (.bool true) ∧ Below w.heap.size w w' := by
  obtain ⟨P, hP⟩ : ∃ P, putB a0.c = P := ⟨_, rfl⟩
  have nP := aside hP
  have sk := w1.key
  have se := w1.elem
  unfold maxLen at sk se
  have nN := aside (putB_yes x1).2.1
  have X0 := aside x0
  have X2 := aside x2
  clear x0 x1 x2 hP
  rcases h with h | ⟨h, h1⟩
  all_goals
    have B0 : Cel.Box CE (w.alloc (.cells (cc a0) 28)) (w.heap.size) a0 := by exact Cel.Box.new (E := CE) w a0 _
    have k0 := StW.below_alloc w (.cells (cc a0) 28)
    have w0' := w0.below k0
    clear w0
    have w0 := w0'
    clear w0'
    have hK' := hK.below k0
    clear hK
    have hK := hK'
    clear hK'
    have kb := k0
    clear k0
    have z1 : (w.alloc (.cells (cc a0) 28)).heap.size = w.heap.size + 1 := by simp
    have B1 : OpAt ((w.alloc (.cells (cc a0) 28)).alloc (.cells (opc a1) 26)) (w.heap.size + 1) a1 := by rw [← z1]; exact OpAt.new (w.alloc (.cells (cc a0) 28)) a1 _
    have k1 := StW.below_alloc (w.alloc (.cells (cc a0) 28)) (.cells (opc a1) 26)
    have w0' := w0.below k1
    clear w0
    have w0 := w0'
    clear w0'
    have hK' := hK.below k1
    clear hK
    have hK := hK'
    clear hK'
    have B0' := B0.below k1
    clear B0
    have B0 := B0'
    clear B0'
    have kb' := kb.trans (k1.mono kb.size)
    clear kb k1
    have kb := kb'
    clear kb'
    go_enter Tryd.func8, Tryd.ntmps8
    go_wp2_with fail
    refine (awake _ hK).mono ?_
    rintro e W1 ⟨rfl, k1⟩
    have hb : w.heap.size + 2 ≤ W1.heap.size := Nat.le_trans (by first | (simp; done) | (simp; omega)) k1.size
    clear z1
    have w0' := w0.below k1
    clear w0
    have w0 := w0'
    clear w0'
    have hK' := hK.below k1
    clear hK
    have hK := hK'
    clear hK'
    have B0' := B0.below k1
    clear B0
    have B0 := B0'
    clear B0'
    have B1' := B1.below k1
    clear B1
    have B1 := B1'
    clear B1'
    have kb' := kb.trans (k1.mono kb.size)
    clear kb k1
    have kb := kb'
    clear kb'
    go_wp2_with (first | go_skip | (refine CmW.gload _ rfl _ rfl a0 B0 rfl ?_) | (refine wpList_load_op rfl _ rfl _ rfl a1 B1 ?_))
    have hc := fun W => few_ret a0 W
    simp only [X0.out] at hc
    refine (hc _).mono ?_
    clear hc
    rintro e W2 ⟨rfl, k2⟩
    have w0' := w0.below k2
    clear w0
    have w0 := w0'
    clear w0'
    have hK' := hK.below k2
    clear hK
    have hK := hK'
    clear hK'
    have B0' := B0.below k2
    clear B0
    have B0 := B0'
    clear B0'
    have B1' := B1.below k2
    clear B1
    have B1 := B1'
    clear B1'
    have kb' := kb.trans (k2.mono kb.size)
    clear kb k2
    have kb := kb'
    clear kb'
    go_wp2_with (first | go_skip | (refine CmW.gload _ rfl _ rfl a0 B0 rfl ?_) | (refine wpList_load_op rfl _ rfl _ rfl a1 B1 ?_))
    have hc := CmA.put_ret a0 _ w0 g0
    unfold PutOut at hc
    rw [nP.out, nN.out] at hc
    refine hc.mono ?_
    clear hc
    rintro e W3 ⟨AP, CP, rfl, SP, k3⟩
    have w0' := w0.below k3
    clear w0
    have w0 := w0'
    clear w0'
    have hK' := hK.below k3
    clear hK
    have hK := hK'
    clear hK'
    have B0' := B0.below k3
    clear B0
    have B0 := B0'
    clear B0'
    have B1' := B1.below k3
    clear B1
    have B1 := B1'
    clear B1'
    have kb' := kb.trans (k3.mono kb.size)
    clear kb k3
    have kb := kb'
    clear kb'
    go_wp2_with (first | go_skip | (refine CmW.gload _ rfl _ rfl a0 B0 rfl ?_) | (refine wpList_load_op rfl _ rfl _ rfl a1 B1 ?_))
    have hc := CmA.merge_ret a0 _ w0 g0
    rw [X2.out] at hc
    refine hc.mono ?_
    clear hc
    rintro e W4 ⟨rfl, k4⟩
    have w0' := w0.below k4
    clear w0
    have w0 := w0'
    clear w0'
    have hK' := hK.below k4
    clear hK
    have hK := hK'
    clear hK'
    have B0' := B0.below k4
    clear B0
    have B0 := B0'
    clear B0'
    have B1' := B1.below k4
    clear B1
    have B1 := B1'
    clear B1'
    have SP' := SP.below k4
    clear SP
    have SP := SP'
    clear SP'
    have kb' := kb.trans (k4.mono kb.size)
    clear kb k4
    have kb := kb'
    clear kb'
    have ck := B1.key
    have ce := B1.elem
    go_wp2_with (first | go_skip | (refine CmW.gload _ rfl _ rfl a0 B0 rfl ?_) | (refine wpList_load_op rfl _ rfl _ rfl a1 B1 ?_))
    go_ret
    exact ⟨by first | rfl | simp, kb⟩

set_option maxRecDepth 100000 in
set_option maxHeartbeats 64000000 in
theorem small (a0 : Cv) (a1 : Opn) (a2 : Int) (w : World) (w0 : In w a0) (g0 : Fit a0.c) (w1 : OpsC.Fit a1) (w2 : (Lit.int .i64 a2).wf = true) (hK : KIn w) (x0 : fewK a0.c = true) (x1 : mayK a0.c = true) (x2 : isM a0.c = false) (h1 : a1.key.size ≤ 100) (h2 : a1.elem.size ≤ 100) (hs : a0.c.ps.length < 2) :
    Calls Tryd.prog 8 #[.agg (cc a0), .agg (opc a1), .int .i64 a2] w fun e w' => e = .returned (.bool true) ∧ Below w.heap.size w w' := by
  obtain ⟨P, hP⟩ : ∃ P, putB a0.c = P := ⟨_, rfl⟩
  have nP := aside hP
  obtain ⟨y1, y2, _⟩ := putB_yes x1
  have nN := aside y2
  have X0 := aside x0
  have X2 := aside x2
  have hnm : a0.c.node ≠ -1 := fun e => by
    have := isM_iff.2 ⟨(mayK_iff.1 x1).1, merge_may x1 e⟩
    rw [x2] at this
    cases this
  have hll := putK_least x1 hnm
  rw [← y1, hP] at hll
  have hps := (lineB_iff.1 (mayK_iff.1 x1).1).2.2.1
  have hPB := putB_B a0.c
  rw [hP] at hPB
  have w2' : I64 a2 := OpenO.i64_of w2
  have fa : Fit { a0.c with op := a1 } := ⟨g0.node, g0.seq, g0.gen, w1⟩
  have fb : Fit { a0.c with seq := a2 } := ⟨g0.node, w2', g0.gen, g0.op⟩
  obtain ⟨ca, hca⟩ : ∃ c : Com, { a0.c with op := a1 } = c := ⟨_, rfl⟩
  obtain ⟨cb, hcb⟩ : ∃ c : Com, { a0.c with seq := a2 } = c := ⟨_, rfl⟩
  rw [hca] at fa
  rw [hcb] at fb
  obtain ⟨Y, hY⟩ : ∃ P, putB ca = P := ⟨_, rfl⟩
  obtain ⟨Z, hZ⟩ : ∃ P, putB cb = P := ⟨_, rfl⟩
  have hYB := putB_B ca
  have hZB := putB_B cb
  rw [hY] at hYB
  rw [hZ] at hZB
  obtain ⟨eo, heo⟩ : ∃ b, OpsE.sameB a1 a0.c.op = b := ⟨_, rfl⟩
  obtain ⟨eq, heq⟩ : ∃ b, (a2 == a0.c.seq) = b := ⟨_, rfl⟩
  have hy : putN ca = 0 ∧ ((strOf P).toList == (strOf Y).toList) = eo ∨ putN ca = 1 := by
    cases hm : mayK ca with
    | false => exact .inr (putB_no hm).2.1
    | true =>
      left
      obtain ⟨u1, u2, _⟩ := putB_yes hm
      refine ⟨u2, ?_⟩
      rw [strOf_beq hPB hYB, ← hP, ← hY, y1, u1, ← heo, Bool.eq_iff_iff, decide_eq_true_eq, OpsE.sameB_iff]
      rw [← hca] at hm ⊢
      exact ⟨fun e => (put_op a1 x1 hm).1 e.symm, fun e => ((put_op a1 x1 hm).2 e).symm⟩
  have hz : putN cb = 0 ∧ ((strOf P).toList == (strOf Z).toList) = eq ∨ putN cb = 1 := by
    cases hm : mayK cb with
    | false => exact .inr (putB_no hm).2.1
    | true =>
      left
      obtain ⟨u1, u2, _⟩ := putB_yes hm
      refine ⟨u2, ?_⟩
      rw [strOf_beq hPB hZB, ← hP, ← hZ, y1, u1, ← heq, Bool.eq_iff_iff, decide_eq_true_eq, beq_iff_eq]
      rw [← hcb] at hm ⊢
      exact ⟨fun e => (put_seq a2 x1 hm).1 e.symm, fun e => ((put_seq a2 x1 hm).2 e).symm⟩
  have hqo : ∀ W : World, (Op.equalIn 10000 26 (.agg (opc a1)) (.agg (opc a0.c.op))).run Tryd.prog W = .ok eo W := fun W => by rw [OpsE.equal, heo]
  obtain ⟨n, hn⟩ : ∃ n, a0.c.ps.length = n := ⟨_, rfl⟩
  rw [hn] at hll hps
  have hle : ¬ (P.length : Int) < 32 * (n : Int) + 7 := by omega
  have hps2 : (n : Int) ≤ 8 := by omega
  have HN := aside hn
  have nY := aside hY
  have nZ := aside hZ
  have HCA := aside hca
  have HCB := aside hcb
  have HEQ := aside heq
  obtain ⟨NY, hNY⟩ : ∃ N, putN ca = N := ⟨_, rfl⟩
  obtain ⟨NZ, hNZ⟩ : ∃ N, putN cb = N := ⟨_, rfl⟩
  rw [hNY] at hy
  rw [hNZ] at hz
  have mY := aside hNY
  have mZ := aside hNZ
  have k1 : (a1.key.size : Int) ≤ 100 := by omega
  have k2 : (a1.elem.size : Int) ≤ 100 := by omega
  have X1 := aside x1
  clear x0 x1 x2 y1 y2 hP hll hps hnm hPB hYB hZB hca hcb hY hZ heo heq hn hNY hNZ w2' h1 h2
  have hs2 : (n : Int) < 2 := by have := HN.out; omega
  clear hs
  have B0 : Cel.Box CE (w.alloc (.cells (cc a0) 28)) (w.heap.size) a0 := by exact Cel.Box.new (E := CE) w a0 _
  have k0 := StW.below_alloc w (.cells (cc a0) 28)
  have w0' := w0.below k0
  clear w0
  have w0 := w0'
  clear w0'
  have hK' := hK.below k0
  clear hK
  have hK := hK'
  clear hK'
  have kb := k0
  clear k0
  have z1 : (w.alloc (.cells (cc a0) 28)).heap.size = w.heap.size + 1 := by simp
  have B1 : OpAt ((w.alloc (.cells (cc a0) 28)).alloc (.cells (opc a1) 26)) (w.heap.size + 1) a1 := by rw [← z1]; exact OpAt.new (w.alloc (.cells (cc a0) 28)) a1 _
  have k1 := StW.below_alloc (w.alloc (.cells (cc a0) 28)) (.cells (opc a1) 26)
  have w0' := w0.below k1
  clear w0
  have w0 := w0'
  clear w0'
  have hK' := hK.below k1
  clear hK
  have hK := hK'
  clear hK'
  have B0' := B0.below k1
  clear B0
  have B0 := B0'
  clear B0'
  have kb' := kb.trans (k1.mono kb.size)
  clear kb k1
  have kb := kb'
  clear kb'
  go_enter Tryd.func8, Tryd.ntmps8
  go_wp2_with fail
  refine (awake _ hK).mono ?_
  rintro e W1 ⟨rfl, k1⟩
  have hb : w.heap.size + 2 ≤ W1.heap.size := Nat.le_trans (by first | (simp; done) | (simp; omega)) k1.size
  clear z1
  have w0' := w0.below k1
  clear w0
  have w0 := w0'
  clear w0'
  have hK' := hK.below k1
  clear hK
  have hK := hK'
  clear hK'
  have B0' := B0.below k1
  clear B0
  have B0 := B0'
  clear B0'
  have B1' := B1.below k1
  clear B1
  have B1 := B1'
  clear B1'
  have kb' := kb.trans (k1.mono kb.size)
  clear kb k1
  have kb := kb'
  clear kb'
  go_wp2_with (first | go_skip | (refine CmW.gload _ rfl _ rfl a0 B0 rfl ?_) | (refine wpList_load_op rfl _ rfl _ rfl a1 B1 ?_))
  have hc := fun W => few_ret a0 W
  simp only [X0.out] at hc
  refine (hc _).mono ?_
  clear hc
  rintro e W2 ⟨rfl, k2⟩
  have w0' := w0.below k2
  clear w0
  have w0 := w0'
  clear w0'
  have hK' := hK.below k2
  clear hK
  have hK := hK'
  clear hK'
  have B0' := B0.below k2
  clear B0
  have B0 := B0'
  clear B0'
  have B1' := B1.below k2
  clear B1
  have B1 := B1'
  clear B1'
  have kb' := kb.trans (k2.mono kb.size)
  clear kb k2
  have kb := kb'
  clear kb'
  go_wp2_with (first | go_skip | (refine CmW.gload _ rfl _ rfl a0 B0 rfl ?_) | (refine wpList_load_op rfl _ rfl _ rfl a1 B1 ?_))
  have hc := CmA.put_ret a0 _ w0 g0
  unfold PutOut at hc
  rw [nP.out, nN.out] at hc
  refine hc.mono ?_
  clear hc
  rintro e W3 ⟨AP, CP, rfl, SP, k3⟩
  have w0' := w0.below k3
  clear w0
  have w0 := w0'
  clear w0'
  have hK' := hK.below k3
  clear hK
  have hK := hK'
  clear hK'
  have B0' := B0.below k3
  clear B0
  have B0 := B0'
  clear B0'
  have B1' := B1.below k3
  clear B1
  have B1 := B1'
  clear B1'
  have kb' := kb.trans (k3.mono kb.size)
  clear kb k3
  have kb := kb'
  clear kb'
  go_wp2_with (first | go_skip | (refine CmW.gload _ rfl _ rfl a0 B0 rfl ?_) | (refine wpList_load_op rfl _ rfl _ rfl a1 B1 ?_))
  have hc := CmA.merge_ret a0 _ w0 g0
  rw [X2.out] at hc
  refine hc.mono ?_
  clear hc
  rintro e W4 ⟨rfl, k4⟩
  have w0' := w0.below k4
  clear w0
  have w0 := w0'
  clear w0'
  have hK' := hK.below k4
  clear hK
  have hK := hK'
  clear hK'
  have B0' := B0.below k4
  clear B0
  have B0 := B0'
  clear B0'
  have B1' := B1.below k4
  clear B1
  have B1 := B1'
  clear B1'
  have SP' := SP.below k4
  clear SP
  have SP := SP'
  clear SP'
  have kb' := kb.trans (k4.mono kb.size)
  clear kb k4
  have kb := kb'
  clear kb'
  have ck := B1.key
  have ce := B1.elem
  obtain ⟨vY, hv⟩ : ∃ v : Cv, (⟨a0.a, a0.k, ca⟩ : Cv) = v := ⟨_, rfl⟩
  have HVY := aside hv
  have FY : Fit vY.c := by rw [← hv]; exact fa
  have EY : Hid (vY.c = ca) := aside (by rw [← hv])
  clear hv
  go_wp2_with (first | go_skip | (refine CmW.gload _ rfl _ rfl a0 B0 rfl ?_) | (refine wpList_load_op rfl _ rfl _ rfl a1 B1 ?_) | (refine Cel.wpList_store_new CE rfl _ _ rfl _ _ _ rfl a0 _ rfl rfl rfl rfl ?_; intro W5 BX kn gn sn; clear gn sn) | (refine wpList_load_op rfl _ rfl _ rfl a1 (B1.below kn) ?_) | (refine Cel.wpList_store_part CE rfl rfl 26 _ _ rfl (W4.heap.size) 4 rfl a0 BX vY (opc a1) (info_opc a1) rfl (opc_one a1) (of_decide_eq_true rfl) (by rw [← HVY.out, ← HCA.out]; rfl) ?_; intro WX BY fx gx sx; have kx : Below W4.heap.size W4 WX := kn.trans (fx _ (Nat.le_refl _)); clear kn fx gx sx BX) | (refine CmW.gload _ rfl _ rfl vY BY rfl ?_))
  have w0' := w0.below kx
  clear w0
  have w0 := w0'
  clear w0'
  have hK' := hK.below kx
  clear hK
  have hK := hK'
  clear hK'
  have B0' := B0.below kx
  clear B0
  have B0 := B0'
  clear B0'
  have B1' := B1.below kx
  clear B1
  have B1 := B1'
  clear B1'
  have SP' := SP.below kx
  clear SP
  have SP := SP'
  clear SP'
  have kb' := kb.trans (kx.mono kb.size)
  clear kb kx
  have kb := kb'
  clear kb'
  have IX : In _ vY := (by rw [← HVY.out]; show SlI _ a0.a a0.k ca.ps; rw [← HCA.out]; exact w0)
  have hc := CmA.put_ret vY _ IX FY
  unfold PutOut at hc
  rw [EY.out, nY.out, mY.out] at hc
  refine hc.mono ?_
  clear hc IX
  rintro e W6 ⟨AY, CY, rfl, SY, k6⟩
  have w0' := w0.below k6
  clear w0
  have w0 := w0'
  clear w0'
  have hK' := hK.below k6
  clear hK
  have hK := hK'
  clear hK'
  have B0' := B0.below k6
  clear B0
  have B0 := B0'
  clear B0'
  have B1' := B1.below k6
  clear B1
  have B1 := B1'
  clear B1'
  have SP' := SP.below k6
  clear SP
  have SP := SP'
  clear SP'
  have BY' := BY.below k6
  clear BY
  have BY := BY'
  clear BY'
  have kb' := kb.trans (k6.mono kb.size)
  clear kb k6
  have kb := kb'
  clear kb'
  obtain ⟨vZ, hv⟩ : ∃ v : Cv, (⟨a0.a, a0.k, cb⟩ : Cv) = v := ⟨_, rfl⟩
  have HVZ := aside hv
  have FZ : Fit vZ.c := by rw [← hv]; exact fb
  have EZ : Hid (vZ.c = cb) := aside (by rw [← hv])
  clear hv
  go_wp2_with (first | go_skip | (refine CmW.gload _ rfl _ rfl a0 B0 rfl ?_) | (refine wpList_load_op rfl _ rfl _ rfl a1 B1 ?_) | (refine CmW.gload _ rfl _ rfl vY BY rfl ?_) | (refine Cel.wpList_store_new CE rfl _ _ rfl _ _ _ rfl a0 _ rfl rfl rfl rfl ?_; intro W7 BX kn gn sn; clear gn sn) | (refine wpList_load_op rfl _ rfl _ rfl a1 (B1.below kn) ?_) | (refine Cel.wpList_store_field CE rfl rfl 3 _ _ rfl CmG.info_i (W6.heap.size) 1 rfl (of_decide_eq_true rfl) a0 BX vZ (.int .i64 a2) rfl rfl rfl (by rw [← HVZ.out, ← HCB.out]; rfl) ?_; intro WX BZ fx gx sx; have kx : Below W6.heap.size W6 WX := kn.trans (fx _ (Nat.le_refl _)); clear kn fx gx sx BX) | (refine CmW.gload _ rfl _ rfl vZ BZ rfl ?_))
  have w0' := w0.below kx
  clear w0
  have w0 := w0'
  clear w0'
  have hK' := hK.below kx
  clear hK
  have hK := hK'
  clear hK'
  have B0' := B0.below kx
  clear B0
  have B0 := B0'
  clear B0'
  have B1' := B1.below kx
  clear B1
  have B1 := B1'
  clear B1'
  have SP' := SP.below kx
  clear SP
  have SP := SP'
  clear SP'
  have BY' := BY.below kx
  clear BY
  have BY := BY'
  clear BY'
  have SY' := SY.below kx
  clear SY
  have SY := SY'
  clear SY'
  have kb' := kb.trans (kx.mono kb.size)
  clear kb kx
  have kb := kb'
  clear kb'
  have IX : In _ vZ := (by rw [← HVZ.out]; show SlI _ a0.a a0.k cb.ps; rw [← HCB.out]; exact w0)
  have hc := CmA.put_ret vZ _ IX FZ
  unfold PutOut at hc
  rw [EZ.out, nZ.out, mZ.out] at hc
  refine hc.mono ?_
  clear hc IX
  rintro e W8 ⟨AZ, CZ, rfl, SZ, k8⟩
  have w0' := w0.below k8
  clear w0
  have w0 := w0'
  clear w0'
  have hK' := hK.below k8
  clear hK
  have hK := hK'
  clear hK'
  have B0' := B0.below k8
  clear B0
  have B0 := B0'
  clear B0'
  have B1' := B1.below k8
  clear B1
  have B1 := B1'
  clear B1'
  have SP' := SP.below k8
  clear SP
  have SP := SP'
  clear SP'
  have BY' := BY.below k8
  clear BY
  have BY := BY'
  clear BY'
  have SY' := SY.below k8
  clear SY
  have SY := SY'
  clear SY'
  have BZ' := BZ.below k8
  clear BZ
  have BZ := BZ'
  clear BZ'
  have kb' := kb.trans (k8.mono kb.size)
  clear kb k8
  have kb := kb'
  clear kb'
  have wn1 : IntKind.i64.wrap (32 * (n : Int)) = 32 * (n : Int) := by rw [IntKind.wrap_i64]; omega
  have wn2 : IntKind.i64.wrap (32 * (n : Int) + 7) = 32 * (n : Int) + 7 := by rw [IntKind.wrap_i64]; omega
  have hld : decide ((P.length : Int) < 32 * (n : Int) + 7) = false := decide_eq_false (by omega)
  have heqs := HEQ.out
  have hbo : (eo != eo) = false := by cases eo <;> rfl
  have hbq : (eq != eq) = false := by cases eq <;> rfl
  go_wp2_with (first | go_skip | (refine CmW.gload _ rfl _ rfl a0 B0 rfl ?_) | (refine wpList_load_op rfl _ rfl _ rfl a1 B1 ?_) | (refine CmW.gload _ rfl _ rfl vY BY rfl ?_) | (refine CmW.gload _ rfl _ rfl vZ BZ rfl ?_))
  rcases hy with ⟨rfl, hy⟩ | rfl <;> rcases hz with ⟨rfl, hz⟩ | rfl
  all_goals
    refine Grow.region [(0, true), (1, true), (2, true), (3, true), (4, true), (5, true), (6, true), (7, true), (8, true), (9, true), (10, true), (11, true), (12, true), (13, true), (14, true), (15, true), (16, true), (17, true), (18, true), (19, true), (20, true), (21, true), (22, true), (23, true), (24, true), (25, true), (26, true), (27, true), (28, true), (29, true), (30, true), (31, true), (32, true), (33, true), (34, true), (35, true), (36, true), (37, true), (38, true), (39, true), (40, true)] (by kernel_rfl) (by kernel_rfl) rfl (by kernel_rfl) (by intro c a d v w h; cases d <;> exact h) ?_
    rename World => V9
    have kd := below_drew1 (Below.refl V9.heap.size V9)
    have w0' := w0.below kd
    clear w0
    have w0 := w0'
    clear w0'
    have hK' := hK.below kd
    clear hK
    have hK := hK'
    clear hK'
    have B0' := B0.below kd
    clear B0
    have B0 := B0'
    clear B0'
    have B1' := B1.below kd
    clear B1
    have B1 := B1'
    clear B1'
    have SP' := SP.below kd
    clear SP
    have SP := SP'
    clear SP'
    have BY' := BY.below kd
    clear BY
    have BY := BY'
    clear BY'
    have SY' := SY.below kd
    clear SY
    have SY := SY'
    clear SY'
    have BZ' := BZ.below kd
    clear BZ
    have BZ := BZ'
    clear BZ'
    have SZ' := SZ.below kd
    clear SZ
    have SZ := SZ'
    clear SZ'
    have kb' := kb.trans (kd.mono kb.size)
    clear kb kd
    have kb := kb'
    clear kb'
    generalize V9.drew = W9 at w0 hK B0 B1 SP BY SY BZ SZ kb ⊢
    have r3 := Grow.grown (w := W9) (fun u hu => (cell_ps (B0.below hu)).trans (by rw [HN.out]))
    have r1 := Grow.grown (w := W9) (fun u hu => cell_seq (B0.below hu))
    have qP := fun d os => (SP.below (below_regrown _ d os)).conv rfl
    have qY := fun d os => (SY.below (below_regrown _ d os)).conv rfl
    have qZ := fun d os => (SZ.below (below_regrown _ d os)).conv rfl
    repeat (first | (refine Grow.reads rfl rfl ?_; go_big_quiet_want; refine CmY.quiet_op _ rfl _ _ rfl a1 B1.range ?_; go_big_quiet_on; refine wpQuiet_nil ?_; simp only [Act.put, List.setIfInBounds_toArray, List.set_cons_succ, List.set_cons_zero]) | (refine Grow.reads rfl rfl ?_; go_big_quiet_want; refine CmY.quiet_op _ rfl _ _ rfl a0.c.op (range_op B0) ?_; go_big_quiet_on; refine wpQuiet_nil ?_; simp only [Act.put, List.setIfInBounds_toArray, List.set_cons_succ, List.set_cons_zero]) | (refine Grow.reads rfl rfl ?_; go_big_quiet_step (fail); refine wpQuiet_nil ?_))
    refine Grow.ends ?_
    clear r3 r1 qP qY qZ
    have d3 := (cell_ps B0).trans (by rw [HN.out])
    go_wp2_with (first | go_skip | (refine CmW.gload _ rfl _ rfl a0 B0 rfl ?_) | (refine wpList_load_op rfl _ rfl _ rfl a1 B1 ?_) | (refine CmW.gload _ rfl _ rfl vY BY rfl ?_) | (refine CmW.gload _ rfl _ rfl vZ BZ rfl ?_))
    go_ret
    exact ⟨by first | rfl | simp, kb⟩

set_option maxRecDepth 100000 in
set_option maxHeartbeats 64000000 in
theorem big (a0 : Cv) (a1 : Opn) (a2 : Int) (w : World) (w0 : In w a0) (g0 : Fit a0.c) (w1 : OpsC.Fit a1) (w2 : (Lit.int .i64 a2).wf = true) (hK : KIn w) (x0 : fewK a0.c = true) (x1 : mayK a0.c = true) (x2 : isM a0.c = false) (h1 : a1.key.size ≤ 100) (h2 : a1.elem.size ≤ 100) (hs : 2 ≤ a0.c.ps.length) :
    Calls Tryd.prog 8 #[.agg (cc a0), .agg (opc a1), .int .i64 a2] w fun e w' => e = .returned (.bool true) ∧ Below w.heap.size w w' := by
  obtain ⟨P, hP⟩ : ∃ P, putB a0.c = P := ⟨_, rfl⟩
  have nP := aside hP
  obtain ⟨y1, y2, _⟩ := putB_yes x1
  have nN := aside y2
  have X0 := aside x0
  have X2 := aside x2
  have hnm : a0.c.node ≠ -1 := fun e => by
    have := isM_iff.2 ⟨(mayK_iff.1 x1).1, merge_may x1 e⟩
    rw [x2] at this
    cases this
  have hll := putK_least x1 hnm
  rw [← y1, hP] at hll
  have hps := (lineB_iff.1 (mayK_iff.1 x1).1).2.2.1
  have hPB := putB_B a0.c
  rw [hP] at hPB
  have w2' : I64 a2 := OpenO.i64_of w2
  have fa : Fit { a0.c with op := a1 } := ⟨g0.node, g0.seq, g0.gen, w1⟩
  have fb : Fit { a0.c with seq := a2 } := ⟨g0.node, w2', g0.gen, g0.op⟩
  obtain ⟨ca, hca⟩ : ∃ c : Com, { a0.c with op := a1 } = c := ⟨_, rfl⟩
  obtain ⟨cb, hcb⟩ : ∃ c : Com, { a0.c with seq := a2 } = c := ⟨_, rfl⟩
  rw [hca] at fa
  rw [hcb] at fb
  obtain ⟨Y, hY⟩ : ∃ P, putB ca = P := ⟨_, rfl⟩
  obtain ⟨Z, hZ⟩ : ∃ P, putB cb = P := ⟨_, rfl⟩
  have hYB := putB_B ca
  have hZB := putB_B cb
  rw [hY] at hYB
  rw [hZ] at hZB
  obtain ⟨eo, heo⟩ : ∃ b, OpsE.sameB a1 a0.c.op = b := ⟨_, rfl⟩
  obtain ⟨eq, heq⟩ : ∃ b, (a2 == a0.c.seq) = b := ⟨_, rfl⟩
  have hy : putN ca = 0 ∧ ((strOf P).toList == (strOf Y).toList) = eo ∨ putN ca = 1 := by
    cases hm : mayK ca with
    | false => exact .inr (putB_no hm).2.1
    | true =>
      left
      obtain ⟨u1, u2, _⟩ := putB_yes hm
      refine ⟨u2, ?_⟩
      rw [strOf_beq hPB hYB, ← hP, ← hY, y1, u1, ← heo, Bool.eq_iff_iff, decide_eq_true_eq, OpsE.sameB_iff]
      rw [← hca] at hm ⊢
      exact ⟨fun e => (put_op a1 x1 hm).1 e.symm, fun e => ((put_op a1 x1 hm).2 e).symm⟩
  have hz : putN cb = 0 ∧ ((strOf P).toList == (strOf Z).toList) = eq ∨ putN cb = 1 := by
    cases hm : mayK cb with
    | false => exact .inr (putB_no hm).2.1
    | true =>
      left
      obtain ⟨u1, u2, _⟩ := putB_yes hm
      refine ⟨u2, ?_⟩
      rw [strOf_beq hPB hZB, ← hP, ← hZ, y1, u1, ← heq, Bool.eq_iff_iff, decide_eq_true_eq, beq_iff_eq]
      rw [← hcb] at hm ⊢
      exact ⟨fun e => (put_seq a2 x1 hm).1 e.symm, fun e => ((put_seq a2 x1 hm).2 e).symm⟩
  have hqo : ∀ W : World, (Op.equalIn 10000 26 (.agg (opc a1)) (.agg (opc a0.c.op))).run Tryd.prog W = .ok eo W := fun W => by rw [OpsE.equal, heo]
  obtain ⟨n, hn⟩ : ∃ n, a0.c.ps.length = n := ⟨_, rfl⟩
  rw [hn] at hll hps
  have hle : ¬ (P.length : Int) < 32 * (n : Int) + 7 := by omega
  have hps2 : (n : Int) ≤ 8 := by omega
  have HN := aside hn
  have nY := aside hY
  have nZ := aside hZ
  have HCA := aside hca
  have HCB := aside hcb
  have HEQ := aside heq
  obtain ⟨NY, hNY⟩ : ∃ N, putN ca = N := ⟨_, rfl⟩
  obtain ⟨NZ, hNZ⟩ : ∃ N, putN cb = N := ⟨_, rfl⟩
  rw [hNY] at hy
  rw [hNZ] at hz
  have mY := aside hNY
  have mZ := aside hNZ
  have k1 : (a1.key.size : Int) ≤ 100 := by omega
  have k2 : (a1.elem.size : Int) ≤ 100 := by omega
  have X1 := aside x1
  clear x0 x1 x2 y1 y2 hP hll hps hnm hPB hYB hZB hca hcb hY hZ heo heq hn hNY hNZ w2' h1 h2
  have hs2 : 2 ≤ (n : Int) := by have := HN.out; omega
  clear hs
  have B0 : Cel.Box CE (w.alloc (.cells (cc a0) 28)) (w.heap.size) a0 := by exact Cel.Box.new (E := CE) w a0 _
  have k0 := StW.below_alloc w (.cells (cc a0) 28)
  have w0' := w0.below k0
  clear w0
  have w0 := w0'
  clear w0'
  have hK' := hK.below k0
  clear hK
  have hK := hK'
  clear hK'
  have kb := k0
  clear k0
  have z1 : (w.alloc (.cells (cc a0) 28)).heap.size = w.heap.size + 1 := by simp
  have B1 : OpAt ((w.alloc (.cells (cc a0) 28)).alloc (.cells (opc a1) 26)) (w.heap.size + 1) a1 := by rw [← z1]; exact OpAt.new (w.alloc (.cells (cc a0) 28)) a1 _
  have k1 := StW.below_alloc (w.alloc (.cells (cc a0) 28)) (.cells (opc a1) 26)
  have w0' := w0.below k1
  clear w0
  have w0 := w0'
  clear w0'
  have hK' := hK.below k1
  clear hK
  have hK := hK'
  clear hK'
  have B0' := B0.below k1
  clear B0
  have B0 := B0'
  clear B0'
  have kb' := kb.trans (k1.mono kb.size)
  clear kb k1
  have kb := kb'
  clear kb'
  go_enter Tryd.func8, Tryd.ntmps8
  go_wp2_with fail
  refine (awake _ hK).mono ?_
  rintro e W1 ⟨rfl, k1⟩
  have hb : w.heap.size + 2 ≤ W1.heap.size := Nat.le_trans (by first | (simp; done) | (simp; omega)) k1.size
  clear z1
  have w0' := w0.below k1
  clear w0
  have w0 := w0'
  clear w0'
  have hK' := hK.below k1
  clear hK
  have hK := hK'
  clear hK'
  have B0' := B0.below k1
  clear B0
  have B0 := B0'
  clear B0'
  have B1' := B1.below k1
  clear B1
  have B1 := B1'
  clear B1'
  have kb' := kb.trans (k1.mono kb.size)
  clear kb k1
  have kb := kb'
  clear kb'
  go_wp2_with (first | go_skip | (refine CmW.gload _ rfl _ rfl a0 B0 rfl ?_) | (refine wpList_load_op rfl _ rfl _ rfl a1 B1 ?_))
  have hc := fun W => few_ret a0 W
  simp only [X0.out] at hc
  refine (hc _).mono ?_
  clear hc
  rintro e W2 ⟨rfl, k2⟩
  have w0' := w0.below k2
  clear w0
  have w0 := w0'
  clear w0'
  have hK' := hK.below k2
  clear hK
  have hK := hK'
  clear hK'
  have B0' := B0.below k2
  clear B0
  have B0 := B0'
  clear B0'
  have B1' := B1.below k2
  clear B1
  have B1 := B1'
  clear B1'
  have kb' := kb.trans (k2.mono kb.size)
  clear kb k2
  have kb := kb'
  clear kb'
  go_wp2_with (first | go_skip | (refine CmW.gload _ rfl _ rfl a0 B0 rfl ?_) | (refine wpList_load_op rfl _ rfl _ rfl a1 B1 ?_))
  have hc := CmA.put_ret a0 _ w0 g0
  unfold PutOut at hc
  rw [nP.out, nN.out] at hc
  refine hc.mono ?_
  clear hc
  rintro e W3 ⟨AP, CP, rfl, SP, k3⟩
  have w0' := w0.below k3
  clear w0
  have w0 := w0'
  clear w0'
  have hK' := hK.below k3
  clear hK
  have hK := hK'
  clear hK'
  have B0' := B0.below k3
  clear B0
  have B0 := B0'
  clear B0'
  have B1' := B1.below k3
  clear B1
  have B1 := B1'
  clear B1'
  have kb' := kb.trans (k3.mono kb.size)
  clear kb k3
  have kb := kb'
  clear kb'
  go_wp2_with (first | go_skip | (refine CmW.gload _ rfl _ rfl a0 B0 rfl ?_) | (refine wpList_load_op rfl _ rfl _ rfl a1 B1 ?_))
  have hc := CmA.merge_ret a0 _ w0 g0
  rw [X2.out] at hc
  refine hc.mono ?_
  clear hc
  rintro e W4 ⟨rfl, k4⟩
  have w0' := w0.below k4
  clear w0
  have w0 := w0'
  clear w0'
  have hK' := hK.below k4
  clear hK
  have hK := hK'
  clear hK'
  have B0' := B0.below k4
  clear B0
  have B0 := B0'
  clear B0'
  have B1' := B1.below k4
  clear B1
  have B1 := B1'
  clear B1'
  have SP' := SP.below k4
  clear SP
  have SP := SP'
  clear SP'
  have kb' := kb.trans (k4.mono kb.size)
  clear kb k4
  have kb := kb'
  clear kb'
  have ck := B1.key
  have ce := B1.elem
  obtain ⟨vY, hv⟩ : ∃ v : Cv, (⟨a0.a, a0.k, ca⟩ : Cv) = v := ⟨_, rfl⟩
  have HVY := aside hv
  have FY : Fit vY.c := by rw [← hv]; exact fa
  have EY : Hid (vY.c = ca) := aside (by rw [← hv])
  clear hv
  go_wp2_with (first | go_skip | (refine CmW.gload _ rfl _ rfl a0 B0 rfl ?_) | (refine wpList_load_op rfl _ rfl _ rfl a1 B1 ?_) | (refine Cel.wpList_store_new CE rfl _ _ rfl _ _ _ rfl a0 _ rfl rfl rfl rfl ?_; intro W5 BX kn gn sn; clear gn sn) | (refine wpList_load_op rfl _ rfl _ rfl a1 (B1.below kn) ?_) | (refine Cel.wpList_store_part CE rfl rfl 26 _ _ rfl (W4.heap.size) 4 rfl a0 BX vY (opc a1) (info_opc a1) rfl (opc_one a1) (of_decide_eq_true rfl) (by rw [← HVY.out, ← HCA.out]; rfl) ?_; intro WX BY fx gx sx; have kx : Below W4.heap.size W4 WX := kn.trans (fx _ (Nat.le_refl _)); clear kn fx gx sx BX) | (refine CmW.gload _ rfl _ rfl vY BY rfl ?_))
  have w0' := w0.below kx
  clear w0
  have w0 := w0'
  clear w0'
  have hK' := hK.below kx
  clear hK
  have hK := hK'
  clear hK'
  have B0' := B0.below kx
  clear B0
  have B0 := B0'
  clear B0'
  have B1' := B1.below kx
  clear B1
  have B1 := B1'
  clear B1'
  have SP' := SP.below kx
  clear SP
  have SP := SP'
  clear SP'
  have kb' := kb.trans (kx.mono kb.size)
  clear kb kx
  have kb := kb'
  clear kb'
  have IX : In _ vY := (by rw [← HVY.out]; show SlI _ a0.a a0.k ca.ps; rw [← HCA.out]; exact w0)
  have hc := CmA.put_ret vY _ IX FY
  unfold PutOut at hc
  rw [EY.out, nY.out, mY.out] at hc
  refine hc.mono ?_
  clear hc IX
  rintro e W6 ⟨AY, CY, rfl, SY, k6⟩
  have w0' := w0.below k6
  clear w0
  have w0 := w0'
  clear w0'
  have hK' := hK.below k6
  clear hK
  have hK := hK'
  clear hK'
  have B0' := B0.below k6
  clear B0
  have B0 := B0'
  clear B0'
  have B1' := B1.below k6
  clear B1
  have B1 := B1'
  clear B1'
  have SP' := SP.below k6
  clear SP
  have SP := SP'
  clear SP'
  have BY' := BY.below k6
  clear BY
  have BY := BY'
  clear BY'
  have kb' := kb.trans (k6.mono kb.size)
  clear kb k6
  have kb := kb'
  clear kb'
  obtain ⟨vZ, hv⟩ : ∃ v : Cv, (⟨a0.a, a0.k, cb⟩ : Cv) = v := ⟨_, rfl⟩
  have HVZ := aside hv
  have FZ : Fit vZ.c := by rw [← hv]; exact fb
  have EZ : Hid (vZ.c = cb) := aside (by rw [← hv])
  clear hv
  go_wp2_with (first | go_skip | (refine CmW.gload _ rfl _ rfl a0 B0 rfl ?_) | (refine wpList_load_op rfl _ rfl _ rfl a1 B1 ?_) | (refine CmW.gload _ rfl _ rfl vY BY rfl ?_) | (refine Cel.wpList_store_new CE rfl _ _ rfl _ _ _ rfl a0 _ rfl rfl rfl rfl ?_; intro W7 BX kn gn sn; clear gn sn) | (refine wpList_load_op rfl _ rfl _ rfl a1 (B1.below kn) ?_) | (refine Cel.wpList_store_field CE rfl rfl 3 _ _ rfl CmG.info_i (W6.heap.size) 1 rfl (of_decide_eq_true rfl) a0 BX vZ (.int .i64 a2) rfl rfl rfl (by rw [← HVZ.out, ← HCB.out]; rfl) ?_; intro WX BZ fx gx sx; have kx : Below W6.heap.size W6 WX := kn.trans (fx _ (Nat.le_refl _)); clear kn fx gx sx BX) | (refine CmW.gload _ rfl _ rfl vZ BZ rfl ?_))
  have w0' := w0.below kx
  clear w0
  have w0 := w0'
  clear w0'
  have hK' := hK.below kx
  clear hK
  have hK := hK'
  clear hK'
  have B0' := B0.below kx
  clear B0
  have B0 := B0'
  clear B0'
  have B1' := B1.below kx
  clear B1
  have B1 := B1'
  clear B1'
  have SP' := SP.below kx
  clear SP
  have SP := SP'
  clear SP'
  have BY' := BY.below kx
  clear BY
  have BY := BY'
  clear BY'
  have SY' := SY.below kx
  clear SY
  have SY := SY'
  clear SY'
  have kb' := kb.trans (kx.mono kb.size)
  clear kb kx
  have kb := kb'
  clear kb'
  have IX : In _ vZ := (by rw [← HVZ.out]; show SlI _ a0.a a0.k cb.ps; rw [← HCB.out]; exact w0)
  have hc := CmA.put_ret vZ _ IX FZ
  unfold PutOut at hc
  rw [EZ.out, nZ.out, mZ.out] at hc
  refine hc.mono ?_
  clear hc IX
  rintro e W8 ⟨AZ, CZ, rfl, SZ, k8⟩
  have w0' := w0.below k8
  clear w0
  have w0 := w0'
  clear w0'
  have hK' := hK.below k8
  clear hK
  have hK := hK'
  clear hK'
  have B0' := B0.below k8
  clear B0
  have B0 := B0'
  clear B0'
  have B1' := B1.below k8
  clear B1
  have B1 := B1'
  clear B1'
  have SP' := SP.below k8
  clear SP
  have SP := SP'
  clear SP'
  have BY' := BY.below k8
  clear BY
  have BY := BY'
  clear BY'
  have SY' := SY.below k8
  clear SY
  have SY := SY'
  clear SY'
  have BZ' := BZ.below k8
  clear BZ
  have BZ := BZ'
  clear BZ'
  have kb' := kb.trans (k8.mono kb.size)
  clear kb k8
  have kb := kb'
  clear kb'
  have wn1 : IntKind.i64.wrap (32 * (n : Int)) = 32 * (n : Int) := by rw [IntKind.wrap_i64]; omega
  have wn2 : IntKind.i64.wrap (32 * (n : Int) + 7) = 32 * (n : Int) + 7 := by rw [IntKind.wrap_i64]; omega
  have hld : decide ((P.length : Int) < 32 * (n : Int) + 7) = false := decide_eq_false (by omega)
  have heqs := HEQ.out
  have hbo : (eo != eo) = false := by cases eo <;> rfl
  have hbq : (eq != eq) = false := by cases eq <;> rfl
  go_wp2_with (first | go_skip | (refine CmW.gload _ rfl _ rfl a0 B0 rfl ?_) | (refine wpList_load_op rfl _ rfl _ rfl a1 B1 ?_) | (refine CmW.gload _ rfl _ rfl vY BY rfl ?_) | (refine CmW.gload _ rfl _ rfl vZ BZ rfl ?_))
  rcases hy with ⟨rfl, hy⟩ | rfl <;> rcases hz with ⟨rfl, hz⟩ | rfl
  all_goals
    refine Grow.region [(0, true), (1, true), (2, true), (3, true), (4, true), (5, true), (6, true), (7, true), (8, true), (9, true), (10, true), (11, true), (12, true), (13, true), (14, true), (15, true), (16, true), (17, true), (18, true), (19, true), (20, true), (21, true), (22, true), (23, true), (24, true), (25, true), (26, true), (27, true), (28, true), (29, true), (30, true), (31, true), (32, true), (33, true), (34, true), (35, true), (36, true), (37, true), (38, true), (39, true), (40, true)] (by kernel_rfl) (by kernel_rfl) rfl (by kernel_rfl) (by intro c a d v w h; cases d <;> exact h) ?_
    rename World => V9
    have kd := below_drew1 (Below.refl V9.heap.size V9)
    have w0' := w0.below kd
    clear w0
    have w0 := w0'
    clear w0'
    have hK' := hK.below kd
    clear hK
    have hK := hK'
    clear hK'
    have B0' := B0.below kd
    clear B0
    have B0 := B0'
    clear B0'
    have B1' := B1.below kd
    clear B1
    have B1 := B1'
    clear B1'
    have SP' := SP.below kd
    clear SP
    have SP := SP'
    clear SP'
    have BY' := BY.below kd
    clear BY
    have BY := BY'
    clear BY'
    have SY' := SY.below kd
    clear SY
    have SY := SY'
    clear SY'
    have BZ' := BZ.below kd
    clear BZ
    have BZ := BZ'
    clear BZ'
    have SZ' := SZ.below kd
    clear SZ
    have SZ := SZ'
    clear SZ'
    have kb' := kb.trans (kd.mono kb.size)
    clear kb kd
    have kb := kb'
    clear kb'
    generalize V9.drew = W9 at w0 hK B0 B1 SP BY SY BZ SZ kb ⊢
    have r3 := Grow.grown (w := W9) (fun u hu => (cell_ps (B0.below hu)).trans (by rw [HN.out]))
    have r1 := Grow.grown (w := W9) (fun u hu => cell_seq (B0.below hu))
    have qP := fun d os => (SP.below (below_regrown _ d os)).conv rfl
    have qY := fun d os => (SY.below (below_regrown _ d os)).conv rfl
    have qZ := fun d os => (SZ.below (below_regrown _ d os)).conv rfl
    repeat (first | (refine Grow.reads rfl rfl ?_; go_big_quiet_want; refine CmY.quiet_op _ rfl _ _ rfl a1 B1.range ?_; go_big_quiet_on; refine wpQuiet_nil ?_; simp only [Act.put, List.setIfInBounds_toArray, List.set_cons_succ, List.set_cons_zero]) | (refine Grow.reads rfl rfl ?_; go_big_quiet_want; refine CmY.quiet_op _ rfl _ _ rfl a0.c.op (range_op B0) ?_; go_big_quiet_on; refine wpQuiet_nil ?_; simp only [Act.put, List.setIfInBounds_toArray, List.set_cons_succ, List.set_cons_zero]) | (refine Grow.reads rfl rfl ?_; go_big_quiet_step (fail); refine wpQuiet_nil ?_))
    refine Grow.ends ?_
    clear r3 r1 qP qY qZ
    have d3 := (cell_ps B0).trans (by rw [HN.out])
    have hn2 : ¬ (n : Int) < 2 := by omega
    obtain ⟨p0, p1, pl, hps⟩ := CmK.two_of (l := a0.c.ps) (by rw [HN.out]; omega)
    have HPS := aside hps
    obtain ⟨b, off, hA, hbw, hr⟩ := SlI.plain w0 (by rw [HN.out]; omega)
    have HA := aside hA
    have r0 := hr 0 (by rw [HN.out]; omega)
    have r1 := hr 1 (by rw [HN.out]; omega)
    rw [hps] at r0 r1
    simp only [List.getD_cons_zero, List.getD_cons_succ] at r0 r1
    have h09 := B0.lt
    have hfit : Fit { a0.c with ps := p1 :: p0 :: pl } := ⟨g0.node, g0.seq, g0.gen, g0.op⟩
    have hturn := aside (CmK.turned X1.out hps)
    clear hps hA hr
    go_wp2_with (first | go_skip | (refine CmW.gload _ rfl _ rfl a0 B0 rfl ?_) | (refine wpList_load_op rfl _ rfl _ rfl a1 B1 ?_) | (refine CmW.gload _ rfl _ rfl vY BY rfl ?_) | (refine CmW.gload _ rfl _ rfl vZ BZ rfl ?_) | (refine Cel.wpList_store_new CE rfl _ _ rfl _ _ _ rfl a0 _ rfl rfl rfl rfl ?_; intro W10 BD kn gn sn; have B0' := B0.below kn; have w0' := w0.below kn; have kb' := kb.trans (kn.mono kb.size); have r0' := IdW.range_below r0 kn; have r1' := IdW.range_below r1 kn; clear B0 w0 kb d3 gn r0 r1; have B0 := B0'; have w0 := w0'; have kb := kb'; have r0 := r0'; have r1 := r1'; clear B0' w0' kb' r0' r1'; have d3 := (cell_ps B0).trans (by rw [HN.out])) | (refine wpList_append_ids rfl (.const (.slice none 0 0)) (.tmp 117) rfl W10.heap.size (.slice none 0 0) 0 [] rfl (World.ownsRow_nil _ _ _ _) a0.a n a0.k a0.c.ps rfl HN.out w0 (by omega) (Nat.le_refl _) ?_; intro v6 w6 o6 g6; have k6 : Below W10.heap.size W10 w6 := below_grown (Below.refl _ _) (Nat.le_refl _) g6 (fun q hq => by cases hq); have B0' := B0.below k6; have BD' := BD.below k6; have kb' := kb.trans (k6.mono kb.size); have r0' := IdW.range_below r0 k6; have r1' := IdW.range_below r1 k6; clear B0 BD w0 kb r0 r1 d3; have B0 := B0'; have BD := BD'; have kb := kb'; have r0 := r0'; have r1 := r1'; clear B0' BD' kb' r0' r1'; rw [List.nil_append, Nat.zero_add] at o6; obtain ⟨gr, cap, rfl, hgr, _⟩ := CmK.row_at o6 (by rw [HN.out]; omega); rw [HPS.out] at o6) | (refine Cel.wpList_store_field CE rfl rfl 24 _ _ rfl CmG.info_p (W9.heap.size) 3 rfl (of_decide_eq_true rfl) a0 BD (⟨some ⟨gr, 0, none⟩, cap, a0.c⟩ : Cv) (.slice (some ⟨gr, 0, none⟩) n cap) rfl rfl rfl (by rw [← HN.out]; rfl) ?_; intro w7 D7 f7 g7 s7))
    have o7 := o6.kept g7 (.inr (by simp only [Value.ownBlock]; exact CmG.far_ne (by omega)))
    have B7 := B0.kept g7 (CmG.far_ne (by omega))
    have r07 := CmK.range_kept r0 g7 (by omega)
    have r17 := CmK.range_kept r1 g7 (by omega)
    have kb7 := kb.trans (f7 w.heap.size (by omega))
    clear BD B0 o6 r0 r1 kb g6 f7 g7 s7 k6
    have hpn : (0 : Int) < n := by omega
    have hpn1 : (1 : Int) < n := by omega
    refine GrowL.region 7 [(0, true), (1, true), (2, true), (3, true), (4, true), (5, true), (6, true), (7, false)] (by kernel_rfl) (by kernel_rfl) rfl (by kernel_rfl) (by intro c a d v w h; cases d <;> exact h) ?_
    rename World => V8
    have kd := below_drew1 (Below.refl V8.heap.size V8)
    have Bz := B7.below kd
    have Dz := D7.below kd
    have oz := owns_below o7 kd
    have r0z := IdW.range_below r07 kd
    have r1z := IdW.range_below r17 kd
    have kbz := kb7.trans (kd.mono kb7.size)
    clear B7 D7 o7 r07 r17 kb7 kd
    generalize V8.drew = wz8 at Bz Dz oz r0z r1z kbz ⊢
    have qD := Grow.grown (w := wz8) (fun u hu => (cell_ps (Dz.below hu)).trans (by rw [HN.out]))
    have qC := Grow.grown (w := wz8) (fun u hu => (cell_ps (Bz.below hu)).trans (by rw [HN.out, HA.out]))
    repeat (first | (refine GrowL.reads rfl rfl ?_; go_big_quiet_want; refine CmA.quiet_id _ rfl _ _ rfl p1 r1z ?_; go_big_quiet_on; refine wpQuiet_nil ?_; simp only [Act.put, List.setIfInBounds_toArray, List.set_cons_succ, List.set_cons_zero]) | (refine GrowL.reads rfl rfl ?_; go_big_quiet_step (fail); refine wpQuiet_nil ?_))
    clear qD qC
    refine GrowL.last rfl ?_
    go_wp2_with (first | (refine CmK.wpList_store_own rfl rfl _ _ rfl W10.heap.size gr n cap [] (p1 :: pl) p0 oz _ rfl rfl p1 rfl ?_; intro w8 o8 g8))
    refine GrowL.done ?_
    have B8 := Bz.kept g8 (CmG.far_ne (by omega))
    have D8 := Dz.kept g8 (CmG.far_ne (by omega))
    have r08 := CmK.range_kept r0z g8 (by omega)
    have r18 := CmK.range_kept r1z g8 (by omega)
    have kb8 := below_grown kbz kbz.size g8 (fun q hq => by injection hq with hq; omega)
    clear Bz Dz oz r0z r1z kbz g8
    go_wp2_with (first | go_skip)
    refine GrowL.region 7 [(0, true), (1, true), (2, true), (3, true), (4, true), (5, true), (6, true), (7, false)] (by kernel_rfl) (by kernel_rfl) rfl (by kernel_rfl) (by intro c a d v w h; cases d <;> exact h) ?_
    rename World => V9
    have kd := below_drew1 (Below.refl V9.heap.size V9)
    have Bz := B8.below kd
    have Dz := D8.below kd
    have oz := owns_below o8 kd
    have r0z := IdW.range_below r08 kd
    have r1z := IdW.range_below r18 kd
    have kbz := kb8.trans (kd.mono kb8.size)
    clear B8 D8 o8 r08 r18 kb8 kd
    generalize V9.drew = wz9 at Bz Dz oz r0z r1z kbz ⊢
    have qD := Grow.grown (w := wz9) (fun u hu => (cell_ps (Dz.below hu)).trans (by rw [HN.out]))
    have qC := Grow.grown (w := wz9) (fun u hu => (cell_ps (Bz.below hu)).trans (by rw [HN.out, HA.out]))
    repeat (first | (refine GrowL.reads rfl rfl ?_; go_big_quiet_want; refine CmA.quiet_id _ rfl _ _ rfl p0 r0z ?_; go_big_quiet_on; refine wpQuiet_nil ?_; simp only [Act.put, List.setIfInBounds_toArray, List.set_cons_succ, List.set_cons_zero]) | (refine GrowL.reads rfl rfl ?_; go_big_quiet_step (fail); refine wpQuiet_nil ?_))
    clear qD qC
    refine GrowL.last rfl ?_
    go_wp2_with (first | (refine CmK.wpList_store_own rfl rfl _ _ rfl W10.heap.size gr n cap [p1] pl p1 oz _ rfl rfl p0 rfl ?_; intro w9 o9 g9))
    refine GrowL.done ?_
    have B9 := Bz.kept g9 (CmG.far_ne (by omega))
    have D9 := Dz.kept g9 (CmG.far_ne (by omega))
    have r09 := CmK.range_kept r0z g9 (by omega)
    have r19 := CmK.range_kept r1z g9 (by omega)
    have kb9 := below_grown kbz kbz.size g9 (fun q hq => by injection hq with hq; omega)
    clear Bz Dz oz r0z r1z kbz g9
    have BT := CmK.box_turned D9 HPS.out
    have hlen : (p1 :: p0 :: pl).length = n := by rw [← HN.out, HPS.out]; rfl
    have IT : In w9 (⟨some ⟨gr, 0, none⟩, cap, { a0.c with ps := p1 :: p0 :: pl }⟩ : Cv) := CmG.in_of_row (by show w9.ownsRow _ _ _ (.slice (some ⟨gr, 0, none⟩) (p1 :: p0 :: pl).length cap) (p1 :: p0 :: pl).length _; rw [hlen]; exact o9)
    clear B9 D9 o9 r09 r19 hlen
    obtain ⟨vt, hvt⟩ : ∃ v : Cv, (⟨some ⟨gr, 0, none⟩, cap, { a0.c with ps := p1 :: p0 :: pl }⟩ : Cv) = v := ⟨_, rfl⟩
    have hft : Fit vt.c := by rw [← hvt]; exact hfit
    have hmt : mayK vt.c = false := by rw [← hvt]; exact hturn.out
    rw [hvt] at BT IT
    clear hvt hfit
    have hc := CmA.may_ret vt _ IT hft
    rw [hmt] at hc
    clear hmt hft
    go_wp2_with (first | go_skip | (refine CmW.gload _ rfl _ rfl vt BT rfl ?_))
    refine hc.mono ?_
    clear hc
    rintro e wf ⟨rfl, kf⟩
    go_wp2_with (first | go_skip)
    go_ret
    exact ⟨by first | rfl | simp, kb9.trans (kf.mono kb9.size)⟩

theorem walk (a0 : Cv) (a1 : Opn) (a2 : Int) (w : World) (w0 : In w a0) (g0 : Fit a0.c) (w1 : OpsC.Fit a1) (w2 : (Lit.int .i64 a2).wf = true) (hK : KIn w) :
    Calls Tryd.prog 8 #[.agg (cc a0), .agg (opc a1), .int .i64 a2] w fun e w' => e = .returned (.bool true) ∧ Below w.heap.size w w' := by
  cases x0 : fewK a0.c with
  | false => exact few a0 a1 a2 w w0 g0 w1 w2 hK x0
  | true =>
    cases x1 : mayK a0.c with
    | false => exact mayno a0 a1 a2 w w0 g0 w1 w2 hK x0 x1
    | true =>
      cases x2 : isM a0.c with
      | true => exact merge a0 a1 a2 w w0 g0 w1 w2 hK x0 x1 x2
      | false =>
        by_cases h1 : a1.key.size ≤ 100
        · by_cases h2 : a1.elem.size ≤ 100
          · by_cases hs : a0.c.ps.length < 2
            · exact small a0 a1 a2 w w0 g0 w1 w2 hK x0 x1 x2 h1 h2 hs
            · exact big a0 a1 a2 w w0 g0 w1 w2 hK x0 x1 x2 h1 h2 (by omega)
          · exact long a0 a1 a2 w w0 g0 w1 w2 hK x0 x1 x2 (.inr ⟨h1, by omega⟩)
        · exact long a0 a1 a2 w w0 g0 w1 w2 hK x0 x1 x2 (.inl (by omega))

theorem own : ownKnob Tryd.prog.godebug = none := by kernel_rfl
theorem laidOut : laidOutB Tryd.prog = true := by kernel_rfl
set_option linter.unusedVariables false in
set_option maxRecDepth 100000 in
theorem lifted (os : Os) (started : os.Started) (H : Type) (enc : TypeId × Value → H) :
    ReturnsInHanded {} Tryd.checked os 8 .any (fun w args => (Rows.commitPartsSpec.pre enc Tryd.prog Tryd.f8 [] false w args ∧ laidMetH Tryd.prog ShaL.laid1 w) ∧ sizedMet enc Tryd.prog Tryd.f8 (OpenSpec.ofChange Rows.commitPartsSpec) false w args)
      (Rows.commitPartsSpec.post enc Tryd.prog Tryd.f8 false true false false) := by
  refine returnsInHanded_of_change_and (C := Tryd.checked) (X := fun w _ => laidMetH Tryd.prog ShaL.laid1 w) (fun _ _ _ hh h => h.of_heap hh) own started (by kernel_rfl) Tryd.func8
    (ChangeSpec.witness_shaped (enc := enc) (C := Tryd.checked) (os := os) (X := fun w _ => laidMetH Tryd.prog ShaL.laid1 w) false (World.doorLaid Tryd.prog 14 os) #[.agg #[.int .i64 0, .int .i64 0, .int .i64 0, .slice none 0 0, .int .i64 0, .string ByteArray.empty, .string ByteArray.empty, .int .i64 0], .agg #[.int .i64 0, .string ByteArray.empty, .string ByteArray.empty, .int .i64 0], .int .i64 0] 8 rfl (World.shaped_of_RefB (by kernel_rfl) (by kernel_rfl)) (by kernel_rfl) (by kernel_rfl) (by kernel_rfl) (ShaL.door_met os _)) ?_
  intro W base args ds gs before hval0 hW _ _ hL _
  have hval : ∀ (j : Nat) t v, Tryd.f8.params[j]? = some t → args[j]? = some v → Value.okWide Tryd.prog W .any base t v := hval0
  have hW' := hW
  obtain ⟨p, q, hA0, hV, rfl, hfz, hnd⟩ := hW
  have hA : DataW.TrodAll enc Tryd.prog W 0 (fun _ => true) true Tryd.f8.params.toList args.toList ds p := hA0
  rw [Tryd.params8] at hA hval
  obtain ⟨v0, vs0, d0, ds0, p0, q0, hargs, rfl, rfl, h0, r0⟩ := trodAll_cons hA
  obtain ⟨v1, vs1, d1, ds1, p1, q1, rfl, rfl, rfl, h1, r1⟩ := trodAll_cons r0
  obtain ⟨v2, vs2, d2, ds2, p2, q2, rfl, rfl, rfl, h2, r2⟩ := trodAll_cons r1
  obtain ⟨rfl, rfl, rfl⟩ := trodAll_nil r2
  obtain rfl : args = #[v0, v1, v2] := by cases args; simp_all
  obtain ⟨rfl, rfl⟩ := trodVars_none hV
  have k0 := h0
  have lt0 : ∀ x ∈ p0, x.block < W.heap.size := by obtain ⟨m, hm⟩ := k0; exact DataW.trod_lt m _ _ _ hm
  obtain ⟨a0, rfl, w0, g0⟩ := OpenK.open_com (hval 0 28 v0 rfl rfl) h0
  have k1 := h1
  have lt1 : ∀ x ∈ p1, x.block < W.heap.size := by obtain ⟨m, hm⟩ := k1; exact DataW.trod_lt m _ _ _ hm
  obtain ⟨a1, rfl, w1⟩ := OpenO.open_op Tryd.underlying26 (by kernel_rfl) (by kernel_rfl) Tryd.underlying3 Tryd.underlying9 Tryd.underlying9 Tryd.underlying3 (hval 1 26 v1 rfl rfl) h1
  obtain ⟨a2, rfl, rfl, rfl, w2⟩ := open_int Tryd.underlying3 (hval 2 3 v2 rfl rfl) h2
  clear hA0 hval0
  refine (walk a0 a1 a2 W w0 g0 w1 w2 (ShaL.of_laid hL)).mono fun e W' ⟨he, bel⟩ => ?_
  subst he
  exact ⟨_, rfl, _, _, _, [], _, [], hW', trodAll_mk1 (shut_bool Tryd.underlying4 _), (trodAll_cons_mk (Below.trod laidOut (by kernel_rfl) (of_decide_eq_true (by kernel_rfl)) k0 bel lt0) (trodAll_cons_mk (Below.trod laidOut (by kernel_rfl) (of_decide_eq_true (by kernel_rfl)) k1 bel lt1) (trodAll_cons_mk (shut_int Tryd.underlying3 w2) trodAll_mk0))), rfl, bel.frame _, fun h => by cases h⟩

theorem over : Rows.commitPartsRow.holds Tryd.pinned (OpenSpec.ofChange Rows.commitPartsSpec) :=
  OpenClaim.holds_of_wide 8 Tryd.f8 rfl rfl rfl rfl rfl rfl rfl ⟨rfl, rfl, rfl, rfl, rfl⟩ rfl rfl rfl rfl rfl (by kernel_rfl) Tryd.func8 (by kernel_rfl)
    (of_decide_eq_true (by kernel_rfl)) (by unfold Func.isWrapper; first | (rw [if_pos (by decide +kernel)]; kernel_rfl) | (rw [if_neg (by decide +kernel)]; exact ⟨rfl, rfl⟩))
    (fun os started H enc _ => lifted os started H enc)

theorem proved : Rows.CommitPartsCardSaid :=
  Claim7.holds_tied_plain_at .later [] Rows.commitPartsCard.laidKinds true Rows.commitPartsCard.stood.harness Rows.commitPartsCard.stood.looks
    over (fun _ h => by cases h) (by kernel_rfl) (fun _ h => by cases h) commitParts_row_tie rfl ⟨rfl, rfl⟩ (by kernel_rfl) rfl
    (fun f fn hf hfn => by
      obtain rfl : f = 8 := Option.some.inj ((show Tryd.prog.funcNamed Rows.commitPartsRow.func = some 8 by kernel_rfl).symm.trans hf) |>.symm
      obtain rfl : fn = Tryd.f8 := (Option.some.inj (Tryd.func8.symm.trans hfn)).symm
      exact ⟨by kernel_rfl, fun j t ht => by
        rw [Tryd.params8] at ht
        have hm : t ∈ [28, 26, 3] := by simpa using Array.mem_of_getElem? ht
        have hall : ([28, 26, 3].all fun u => !Tryd.prog.wantsStandIn u) = true := by kernel_rfl
        exact (show Tryd.prog.wantsStandIn t = false by simpa using List.all_eq_true.1 hall t hm)⟩)
    (by kernel_rfl)
end Go.Proofs.YtnphlpebeflpkaaDoor.commitParts
