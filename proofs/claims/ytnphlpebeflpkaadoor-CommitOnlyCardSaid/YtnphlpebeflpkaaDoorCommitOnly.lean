/- CommitOnly returns true for every input: commits that may be are the same just if their bytes are; the same have the same id. No condition. -/
import Derived.Test.YtnphlpebeflpkaaDoorCmA
import Derived.Test.YtnphlpebeflpkaaDoorShaLJ4
import Derived.Test.YtnphlpebeflpkaaDoorCards
import Derived.Test.YtnphlpebeflpkaaDoorTie
import Derived.ShutString
import Derived.ChangeOld
namespace Go.Proofs.YtnphlpebeflpkaaDoor.commitOnly
set_option maxRecDepth 100000
open Go Go.Sort Go.ChangeShapes Go.WideShapes Go.ChangeAt Go.RowKit Byt IdM IdW OpsM OpsW CmM StW CmW CmX CmY CmA
open ShaE (KIn)
open CmR (sameK sameK_iff sameK_self)

set_option maxRecDepth 100000 in
set_option maxHeartbeats 16000000 in
theorem out (a0 : Cv) (a1 : Cv) (w : World) (_w0 : In w a0) (_g0 : Fit a0.c) (_w1 : In w a1) (_g1 : Fit a1.c) (hK : KIn w) (b0 b1 : Bool) (x0 : fewK a0.c = b0) (x1 : fewK a1.c = b1) (h : b0 = false ∨ (b0 = true ∧ b1 = false)) :
    Calls Tryd.prog 6 #[.agg (cc a0), .agg (cc a1)] w fun e w' => e = .returned (.bool true) ∧ Below w.heap.size w w' := by
  rcases h with rfl | ⟨rfl, rfl⟩
  all_goals
    have B0 : Cel.Box CE (w.alloc (.cells (cc a0) 28)) (w.heap.size) a0 := by exact Cel.Box.new (E := CE) w a0 _
    have k0 := StW.below_alloc w (.cells (cc a0) 28)
    have hK' := hK.below k0
    clear hK
    have hK := hK'
    clear hK'
    have kb := k0
    clear k0
    have z1 : (w.alloc (.cells (cc a0) 28)).heap.size = w.heap.size + 1 := by simp
    have B1 : Cel.Box CE ((w.alloc (.cells (cc a0) 28)).alloc (.cells (cc a1) 28)) (w.heap.size + 1) a1 := by rw [← z1]; exact Cel.Box.new (E := CE) (w.alloc (.cells (cc a0) 28)) a1 _
    have k1 := StW.below_alloc (w.alloc (.cells (cc a0) 28)) (.cells (cc a1) 28)
    have hK' := hK.below k1
    clear hK
    have hK := hK'
    clear hK'
    have B0' := B0.below k1
    clear B0
    have B0 := B0'
    clear B0'
    have kb' := kb.trans (k1.mono kb.size)
    clear kb k1
    have kb := kb'
    clear kb'
    go_enter Tryd.func6, Tryd.ntmps6
    go_wp2_with fail
    refine (awake _ hK).mono ?_
    rintro e W1 ⟨rfl, k1⟩
    have hb : w.heap.size + 2 ≤ W1.heap.size := Nat.le_trans (by first | (simp; done) | (simp; omega)) k1.size
    clear z1
    have hK' := hK.below k1
    clear hK
    have hK := hK'
    clear hK'
    have B0' := B0.below k1
    clear B0
    have B0 := B0'
    clear B0'
    have B1' := B1.below k1
    clear B1
    have B1 := B1'
    clear B1'
    have kb' := kb.trans (k1.mono kb.size)
    clear kb k1
    have kb := kb'
    clear kb'
    go_wp2_with (first | go_skip | (refine CmW.gload _ rfl _ rfl a0 B0 rfl ?_) | (refine CmW.gload _ rfl _ rfl a1 B1 rfl ?_))
    have hc := fun W => few_ret a0 W
    simp only [x0] at hc
    refine (hc _).mono ?_
    clear hc
    rintro e W2 ⟨rfl, k2⟩
    have hK' := hK.below k2
    clear hK
    have hK := hK'
    clear hK'
    have B0' := B0.below k2
    clear B0
    have B0 := B0'
    clear B0'
    have B1' := B1.below k2
    clear B1
    have B1 := B1'
    clear B1'
    have kb' := kb.trans (k2.mono kb.size)
    clear kb k2
    have kb := kb'
    clear kb'
    go_wp2_with (first | go_skip | (refine CmW.gload _ rfl _ rfl a0 B0 rfl ?_) | (refine CmW.gload _ rfl _ rfl a1 B1 rfl ?_))
    have hc := fun W => few_ret a1 W
    simp only [x1] at hc
    refine (hc _).mono ?_
    clear hc
    rintro e W3 ⟨rfl, k3⟩
    have hK' := hK.below k3
    clear hK
    have hK := hK'
    clear hK'
    have B0' := B0.below k3
    clear B0
    have B0 := B0'
    clear B0'
    have B1' := B1.below k3
    clear B1
    have B1 := B1'
    clear B1'
    have kb' := kb.trans (k3.mono kb.size)
    clear kb k3
    have kb := kb'
    clear kb'
    go_wp2_with (first | go_skip | (refine CmW.gload _ rfl _ rfl a0 B0 rfl ?_) | (refine CmW.gload _ rfl _ rfl a1 B1 rfl ?_))
    go_ret
    exact ⟨by first | rfl | simp, kb⟩

set_option maxRecDepth 100000 in
set_option maxHeartbeats 16000000 in
theorem one (a0 : Cv) (a1 : Cv) (w : World) (w0 : In w a0) (g0 : Fit a0.c) (_w1 : In w a1) (_g1 : Fit a1.c) (hK : KIn w) (x0 : fewK a0.c = true) (x1 : fewK a1.c = true) (x2 : mayK a0.c = false) :
    Calls Tryd.prog 6 #[.agg (cc a0), .agg (cc a1)] w fun e w' => e = .returned (.bool true) ∧ Below w.heap.size w w' := by
  have X0 := aside x0
  have X1 := aside x1
  have X2 := aside x2
  clear x0 x1 x2
  have B0 : Cel.Box CE (w.alloc (.cells (cc a0) 28)) (w.heap.size) a0 := by exact Cel.Box.new (E := CE) w a0 _
  have k0 := StW.below_alloc w (.cells (cc a0) 28)
  have w0' := w0.below k0
  clear w0
  have w0 := w0'
  clear w0'
  have hK' := hK.below k0
  clear hK
  have hK := hK'
  clear hK'
  have kb := k0
  clear k0
  have z1 : (w.alloc (.cells (cc a0) 28)).heap.size = w.heap.size + 1 := by simp
  have B1 : Cel.Box CE ((w.alloc (.cells (cc a0) 28)).alloc (.cells (cc a1) 28)) (w.heap.size + 1) a1 := by rw [← z1]; exact Cel.Box.new (E := CE) (w.alloc (.cells (cc a0) 28)) a1 _
  have k1 := StW.below_alloc (w.alloc (.cells (cc a0) 28)) (.cells (cc a1) 28)
  have w0' := w0.below k1
  clear w0
  have w0 := w0'
  clear w0'
  have hK' := hK.below k1
  clear hK
  have hK := hK'
  clear hK'
  have B0' := B0.below k1
  clear B0
  have B0 := B0'
  clear B0'
  have kb' := kb.trans (k1.mono kb.size)
  clear kb k1
  have kb := kb'
  clear kb'
  go_enter Tryd.func6, Tryd.ntmps6
  go_wp2_with fail
  refine (awake _ hK).mono ?_
  rintro e W1 ⟨rfl, k1⟩
  have hb : w.heap.size + 2 ≤ W1.heap.size := Nat.le_trans (by first | (simp; done) | (simp; omega)) k1.size
  clear z1
  have w0' := w0.below k1
  clear w0
  have w0 := w0'
  clear w0'
  have hK' := hK.below k1
  clear hK
  have hK := hK'
  clear hK'
  have B0' := B0.below k1
  clear B0
  have B0 := B0'
  clear B0'
  have B1' := B1.below k1
  clear B1
  have B1 := B1'
  clear B1'
  have kb' := kb.trans (k1.mono kb.size)
  clear kb k1
  have kb := kb'
  clear kb'
  go_wp2_with (first | go_skip | (refine CmW.gload _ rfl _ rfl a0 B0 rfl ?_) | (refine CmW.gload _ rfl _ rfl a1 B1 rfl ?_))
  have hc := fun W => few_ret a0 W
  simp only [X0.out] at hc
  refine (hc _).mono ?_
  clear hc
  rintro e W2 ⟨rfl, k2⟩
  have w0' := w0.below k2
  clear w0
  have w0 := w0'
  clear w0'
  have hK' := hK.below k2
  clear hK
  have hK := hK'
  clear hK'
  have B0' := B0.below k2
  clear B0
  have B0 := B0'
  clear B0'
  have B1' := B1.below k2
  clear B1
  have B1 := B1'
  clear B1'
  have kb' := kb.trans (k2.mono kb.size)
  clear kb k2
  have kb := kb'
  clear kb'
  go_wp2_with (first | go_skip | (refine CmW.gload _ rfl _ rfl a0 B0 rfl ?_) | (refine CmW.gload _ rfl _ rfl a1 B1 rfl ?_))
  have hc := fun W => few_ret a1 W
  simp only [X1.out] at hc
  refine (hc _).mono ?_
  clear hc
  rintro e W3 ⟨rfl, k3⟩
  have w0' := w0.below k3
  clear w0
  have w0 := w0'
  clear w0'
  have hK' := hK.below k3
  clear hK
  have hK := hK'
  clear hK'
  have B0' := B0.below k3
  clear B0
  have B0 := B0'
  clear B0'
  have B1' := B1.below k3
  clear B1
  have B1 := B1'
  clear B1'
  have kb' := kb.trans (k3.mono kb.size)
  clear kb k3
  have kb := kb'
  clear kb'
  go_wp2_with (first | go_skip | (refine CmW.gload _ rfl _ rfl a0 B0 rfl ?_) | (refine CmW.gload _ rfl _ rfl a1 B1 rfl ?_))
  have hc := CmA.may_ret a0 _ w0 g0
  rw [X2.out] at hc
  refine hc.mono ?_
  clear hc
  rintro e W4 ⟨rfl, k4⟩
  have w0' := w0.below k4
  clear w0
  have w0 := w0'
  clear w0'
  have hK' := hK.below k4
  clear hK
  have hK := hK'
  clear hK'
  have B0' := B0.below k4
  clear B0
  have B0 := B0'
  clear B0'
  have B1' := B1.below k4
  clear B1
  have B1 := B1'
  clear B1'
  have kb' := kb.trans (k4.mono kb.size)
  clear kb k4
  have kb := kb'
  clear kb'
  go_wp2_with (first | go_skip | (refine CmW.gload _ rfl _ rfl a0 B0 rfl ?_) | (refine CmW.gload _ rfl _ rfl a1 B1 rfl ?_))
  go_ret
  exact ⟨by first | rfl | simp, kb⟩

set_option maxRecDepth 100000 in
set_option maxHeartbeats 16000000 in
theorem two (a0 : Cv) (a1 : Cv) (w : World) (w0 : In w a0) (g0 : Fit a0.c) (w1 : In w a1) (g1 : Fit a1.c) (hK : KIn w) (x0 : fewK a0.c = true) (x1 : fewK a1.c = true) (x2 : mayK a0.c = true) (x3 : mayK a1.c = false) :
    Calls Tryd.prog 6 #[.agg (cc a0), .agg (cc a1)] w fun e w' => e = .returned (.bool true) ∧ Below w.heap.size w w' := by
  have X0 := aside x0
  have X1 := aside x1
  have X2 := aside x2
  have X3 := aside x3
  clear x0 x1 x2 x3
  have B0 : Cel.Box CE (w.alloc (.cells (cc a0) 28)) (w.heap.size) a0 := by exact Cel.Box.new (E := CE) w a0 _
  have k0 := StW.below_alloc w (.cells (cc a0) 28)
  have w0' := w0.below k0
  clear w0
  have w0 := w0'
  clear w0'
  have w1' := w1.below k0
  clear w1
  have w1 := w1'
  clear w1'
  have hK' := hK.below k0
  clear hK
  have hK := hK'
  clear hK'
  have kb := k0
  clear k0
  have z1 : (w.alloc (.cells (cc a0) 28)).heap.size = w.heap.size + 1 := by simp
  have B1 : Cel.Box CE ((w.alloc (.cells (cc a0) 28)).alloc (.cells (cc a1) 28)) (w.heap.size + 1) a1 := by rw [← z1]; exact Cel.Box.new (E := CE) (w.alloc (.cells (cc a0) 28)) a1 _
  have k1 := StW.below_alloc (w.alloc (.cells (cc a0) 28)) (.cells (cc a1) 28)
  have w0' := w0.below k1
  clear w0
  have w0 := w0'
  clear w0'
  have w1' := w1.below k1
  clear w1
  have w1 := w1'
  clear w1'
  have hK' := hK.below k1
  clear hK
  have hK := hK'
  clear hK'
  have B0' := B0.below k1
  clear B0
  have B0 := B0'
  clear B0'
  have kb' := kb.trans (k1.mono kb.size)
  clear kb k1
  have kb := kb'
  clear kb'
  go_enter Tryd.func6, Tryd.ntmps6
  go_wp2_with fail
  refine (awake _ hK).mono ?_
  rintro e W1 ⟨rfl, k1⟩
  have hb : w.heap.size + 2 ≤ W1.heap.size := Nat.le_trans (by first | (simp; done) | (simp; omega)) k1.size
  clear z1
  have w0' := w0.below k1
  clear w0
  have w0 := w0'
  clear w0'
  have w1' := w1.below k1
  clear w1
  have w1 := w1'
  clear w1'
  have hK' := hK.below k1
  clear hK
  have hK := hK'
  clear hK'
  have B0' := B0.below k1
  clear B0
  have B0 := B0'
  clear B0'
  have B1' := B1.below k1
  clear B1
  have B1 := B1'
  clear B1'
  have kb' := kb.trans (k1.mono kb.size)
  clear kb k1
  have kb := kb'
  clear kb'
  go_wp2_with (first | go_skip | (refine CmW.gload _ rfl _ rfl a0 B0 rfl ?_) | (refine CmW.gload _ rfl _ rfl a1 B1 rfl ?_))
  have hc := fun W => few_ret a0 W
  simp only [X0.out] at hc
  refine (hc _).mono ?_
  clear hc
  rintro e W2 ⟨rfl, k2⟩
  have w0' := w0.below k2
  clear w0
  have w0 := w0'
  clear w0'
  have w1' := w1.below k2
  clear w1
  have w1 := w1'
  clear w1'
  have hK' := hK.below k2
  clear hK
  have hK := hK'
  clear hK'
  have B0' := B0.below k2
  clear B0
  have B0 := B0'
  clear B0'
  have B1' := B1.below k2
  clear B1
  have B1 := B1'
  clear B1'
  have kb' := kb.trans (k2.mono kb.size)
  clear kb k2
  have kb := kb'
  clear kb'
  go_wp2_with (first | go_skip | (refine CmW.gload _ rfl _ rfl a0 B0 rfl ?_) | (refine CmW.gload _ rfl _ rfl a1 B1 rfl ?_))
  have hc := fun W => few_ret a1 W
  simp only [X1.out] at hc
  refine (hc _).mono ?_
  clear hc
  rintro e W3 ⟨rfl, k3⟩
  have w0' := w0.below k3
  clear w0
  have w0 := w0'
  clear w0'
  have w1' := w1.below k3
  clear w1
  have w1 := w1'
  clear w1'
  have hK' := hK.below k3
  clear hK
  have hK := hK'
  clear hK'
  have B0' := B0.below k3
  clear B0
  have B0 := B0'
  clear B0'
  have B1' := B1.below k3
  clear B1
  have B1 := B1'
  clear B1'
  have kb' := kb.trans (k3.mono kb.size)
  clear kb k3
  have kb := kb'
  clear kb'
  go_wp2_with (first | go_skip | (refine CmW.gload _ rfl _ rfl a0 B0 rfl ?_) | (refine CmW.gload _ rfl _ rfl a1 B1 rfl ?_))
  have hc := CmA.may_ret a0 _ w0 g0
  rw [X2.out] at hc
  refine hc.mono ?_
  clear hc
  rintro e W4 ⟨rfl, k4⟩
  have w0' := w0.below k4
  clear w0
  have w0 := w0'
  clear w0'
  have w1' := w1.below k4
  clear w1
  have w1 := w1'
  clear w1'
  have hK' := hK.below k4
  clear hK
  have hK := hK'
  clear hK'
  have B0' := B0.below k4
  clear B0
  have B0 := B0'
  clear B0'
  have B1' := B1.below k4
  clear B1
  have B1 := B1'
  clear B1'
  have kb' := kb.trans (k4.mono kb.size)
  clear kb k4
  have kb := kb'
  clear kb'
  go_wp2_with (first | go_skip | (refine CmW.gload _ rfl _ rfl a0 B0 rfl ?_) | (refine CmW.gload _ rfl _ rfl a1 B1 rfl ?_))
  have hc := CmA.may_ret a1 _ w1 g1
  rw [X3.out] at hc
  refine hc.mono ?_
  clear hc
  rintro e W5 ⟨rfl, k5⟩
  have w0' := w0.below k5
  clear w0
  have w0 := w0'
  clear w0'
  have w1' := w1.below k5
  clear w1
  have w1 := w1'
  clear w1'
  have hK' := hK.below k5
  clear hK
  have hK := hK'
  clear hK'
  have B0' := B0.below k5
  clear B0
  have B0 := B0'
  clear B0'
  have B1' := B1.below k5
  clear B1
  have B1 := B1'
  clear B1'
  have kb' := kb.trans (k5.mono kb.size)
  clear kb k5
  have kb := kb'
  clear kb'
  go_wp2_with (first | go_skip | (refine CmW.gload _ rfl _ rfl a0 B0 rfl ?_) | (refine CmW.gload _ rfl _ rfl a1 B1 rfl ?_))
  go_ret
  exact ⟨by first | rfl | simp, kb⟩

set_option maxRecDepth 100000 in
set_option maxHeartbeats 32000000 in
theorem same (a0 : Cv) (a1 : Cv) (w : World) (w0 : In w a0) (g0 : Fit a0.c) (w1 : In w a1) (g1 : Fit a1.c) (hK : KIn w) (x0 : fewK a0.c = true) (x1 : fewK a1.c = true) (x2 : mayK a0.c = true) (x3 : mayK a1.c = true) (h : a0.c = a1.c) :
    Calls Tryd.prog 6 #[.agg (cc a0), .agg (cc a1)] w fun e w' => e = .returned (.bool true) ∧ Below w.heap.size w w' := by
  have X0 := aside x0
  have X1 := aside x1
  have X2 := aside x2
  have X3 := aside x3
  obtain ⟨y1, y2, y3⟩ := putB_yes x2
  obtain ⟨z1, z2, z3⟩ := putB_yes x3
  have nN := aside y2
  have mN := aside z2
  obtain ⟨P, hP⟩ : ∃ P, putB a0.c = P := ⟨_, rfl⟩
  obtain ⟨I, hI⟩ : ∃ I, hashI a0.c = I := ⟨_, rfl⟩
  have nP := aside hP
  have nI := aside hI
  have mP : Hid (putB a1.c = P) := aside (by rw [← h]; exact hP)
  have mI : Hid (hashI a1.c = I) := aside (by rw [← h]; exact hI)
  have nE : Hid (sameK a0.c a1.c = true) := aside (sameK_iff.2 h)
  clear x0 x1 x2 x3 y1 y2 y3 z1 z2 z3 hP hI h
  have B0 : Cel.Box CE (w.alloc (.cells (cc a0) 28)) (w.heap.size) a0 := by exact Cel.Box.new (E := CE) w a0 _
  have k0 := StW.below_alloc w (.cells (cc a0) 28)
  have w0' := w0.below k0
  clear w0
  have w0 := w0'
  clear w0'
  have w1' := w1.below k0
  clear w1
  have w1 := w1'
  clear w1'
  have hK' := hK.below k0
  clear hK
  have hK := hK'
  clear hK'
  have kb := k0
  clear k0
  have z1 : (w.alloc (.cells (cc a0) 28)).heap.size = w.heap.size + 1 := by simp
  have B1 : Cel.Box CE ((w.alloc (.cells (cc a0) 28)).alloc (.cells (cc a1) 28)) (w.heap.size + 1) a1 := by rw [← z1]; exact Cel.Box.new (E := CE) (w.alloc (.cells (cc a0) 28)) a1 _
  have k1 := StW.below_alloc (w.alloc (.cells (cc a0) 28)) (.cells (cc a1) 28)
  have w0' := w0.below k1
  clear w0
  have w0 := w0'
  clear w0'
  have w1' := w1.below k1
  clear w1
  have w1 := w1'
  clear w1'
  have hK' := hK.below k1
  clear hK
  have hK := hK'
  clear hK'
  have B0' := B0.below k1
  clear B0
  have B0 := B0'
  clear B0'
  have kb' := kb.trans (k1.mono kb.size)
  clear kb k1
  have kb := kb'
  clear kb'
  go_enter Tryd.func6, Tryd.ntmps6
  go_wp2_with fail
  refine (awake _ hK).mono ?_
  rintro e W1 ⟨rfl, k1⟩
  have hb : w.heap.size + 2 ≤ W1.heap.size := Nat.le_trans (by first | (simp; done) | (simp; omega)) k1.size
  clear z1
  have w0' := w0.below k1
  clear w0
  have w0 := w0'
  clear w0'
  have w1' := w1.below k1
  clear w1
  have w1 := w1'
  clear w1'
  have hK' := hK.below k1
  clear hK
  have hK := hK'
  clear hK'
  have B0' := B0.below k1
  clear B0
  have B0 := B0'
  clear B0'
  have B1' := B1.below k1
  clear B1
  have B1 := B1'
  clear B1'
  have kb' := kb.trans (k1.mono kb.size)
  clear kb k1
  have kb := kb'
  clear kb'
  go_wp2_with (first | go_skip | (refine CmW.gload _ rfl _ rfl a0 B0 rfl ?_) | (refine CmW.gload _ rfl _ rfl a1 B1 rfl ?_))
  have hc := fun W => few_ret a0 W
  simp only [X0.out] at hc
  refine (hc _).mono ?_
  clear hc
  rintro e W2 ⟨rfl, k2⟩
  have w0' := w0.below k2
  clear w0
  have w0 := w0'
  clear w0'
  have w1' := w1.below k2
  clear w1
  have w1 := w1'
  clear w1'
  have hK' := hK.below k2
  clear hK
  have hK := hK'
  clear hK'
  have B0' := B0.below k2
  clear B0
  have B0 := B0'
  clear B0'
  have B1' := B1.below k2
  clear B1
  have B1 := B1'
  clear B1'
  have kb' := kb.trans (k2.mono kb.size)
  clear kb k2
  have kb := kb'
  clear kb'
  go_wp2_with (first | go_skip | (refine CmW.gload _ rfl _ rfl a0 B0 rfl ?_) | (refine CmW.gload _ rfl _ rfl a1 B1 rfl ?_))
  have hc := fun W => few_ret a1 W
  simp only [X1.out] at hc
  refine (hc _).mono ?_
  clear hc
  rintro e W3 ⟨rfl, k3⟩
  have w0' := w0.below k3
  clear w0
  have w0 := w0'
  clear w0'
  have w1' := w1.below k3
  clear w1
  have w1 := w1'
  clear w1'
  have hK' := hK.below k3
  clear hK
  have hK := hK'
  clear hK'
  have B0' := B0.below k3
  clear B0
  have B0 := B0'
  clear B0'
  have B1' := B1.below k3
  clear B1
  have B1 := B1'
  clear B1'
  have kb' := kb.trans (k3.mono kb.size)
  clear kb k3
  have kb := kb'
  clear kb'
  go_wp2_with (first | go_skip | (refine CmW.gload _ rfl _ rfl a0 B0 rfl ?_) | (refine CmW.gload _ rfl _ rfl a1 B1 rfl ?_))
  have hc := CmA.may_ret a0 _ w0 g0
  rw [X2.out] at hc
  refine hc.mono ?_
  clear hc
  rintro e W4 ⟨rfl, k4⟩
  have w0' := w0.below k4
  clear w0
  have w0 := w0'
  clear w0'
  have w1' := w1.below k4
  clear w1
  have w1 := w1'
  clear w1'
  have hK' := hK.below k4
  clear hK
  have hK := hK'
  clear hK'
  have B0' := B0.below k4
  clear B0
  have B0 := B0'
  clear B0'
  have B1' := B1.below k4
  clear B1
  have B1 := B1'
  clear B1'
  have kb' := kb.trans (k4.mono kb.size)
  clear kb k4
  have kb := kb'
  clear kb'
  go_wp2_with (first | go_skip | (refine CmW.gload _ rfl _ rfl a0 B0 rfl ?_) | (refine CmW.gload _ rfl _ rfl a1 B1 rfl ?_))
  have hc := CmA.may_ret a1 _ w1 g1
  rw [X3.out] at hc
  refine hc.mono ?_
  clear hc
  rintro e W5 ⟨rfl, k5⟩
  have w0' := w0.below k5
  clear w0
  have w0 := w0'
  clear w0'
  have w1' := w1.below k5
  clear w1
  have w1 := w1'
  clear w1'
  have hK' := hK.below k5
  clear hK
  have hK := hK'
  clear hK'
  have B0' := B0.below k5
  clear B0
  have B0 := B0'
  clear B0'
  have B1' := B1.below k5
  clear B1
  have B1 := B1'
  clear B1'
  have kb' := kb.trans (k5.mono kb.size)
  clear kb k5
  have kb := kb'
  clear kb'
  go_wp2_with (first | go_skip | (refine CmW.gload _ rfl _ rfl a0 B0 rfl ?_) | (refine CmW.gload _ rfl _ rfl a1 B1 rfl ?_))
  have hc := CmA.put_ret a0 _ w0 g0
  unfold PutOut at hc
  rw [nP.out] at hc
  rw [nN.out] at hc
  refine hc.mono ?_
  clear hc
  rintro e W6 ⟨AA, CA, rfl, SA, k6⟩
  have w0' := w0.below k6
  clear w0
  have w0 := w0'
  clear w0'
  have w1' := w1.below k6
  clear w1
  have w1 := w1'
  clear w1'
  have hK' := hK.below k6
  clear hK
  have hK := hK'
  clear hK'
  have B0' := B0.below k6
  clear B0
  have B0 := B0'
  clear B0'
  have B1' := B1.below k6
  clear B1
  have B1 := B1'
  clear B1'
  have kb' := kb.trans (k6.mono kb.size)
  clear kb k6
  have kb := kb'
  clear kb'
  go_wp2_with (first | go_skip | (refine CmW.gload _ rfl _ rfl a0 B0 rfl ?_) | (refine CmW.gload _ rfl _ rfl a1 B1 rfl ?_))
  have hc := CmA.put_ret a1 _ w1 g1
  unfold PutOut at hc
  rw [mP.out] at hc
  rw [mN.out] at hc
  refine hc.mono ?_
  clear hc
  rintro e W7 ⟨AB, CB, rfl, SB, k7⟩
  have w0' := w0.below k7
  clear w0
  have w0 := w0'
  clear w0'
  have w1' := w1.below k7
  clear w1
  have w1 := w1'
  clear w1'
  have hK' := hK.below k7
  clear hK
  have hK := hK'
  clear hK'
  have B0' := B0.below k7
  clear B0
  have B0 := B0'
  clear B0'
  have B1' := B1.below k7
  clear B1
  have B1 := B1'
  clear B1'
  have SA' := SA.below k7
  clear SA
  have SA := SA'
  clear SA'
  have kb' := kb.trans (k7.mono kb.size)
  clear kb k7
  have kb := kb'
  clear kb'
  go_wp2_with (first | go_skip | (refine CmW.gload _ rfl _ rfl a0 B0 rfl ?_) | (refine CmW.gload _ rfl _ rfl a1 B1 rfl ?_))
  have hc := CmA.hash_ret a0 _ w0 g0 hK
  unfold HashOut at hc
  rw [nI.out, nN.out] at hc
  refine hc.mono ?_
  clear hc
  rintro e W8 ⟨rfl, k8⟩
  have w0' := w0.below k8
  clear w0
  have w0 := w0'
  clear w0'
  have w1' := w1.below k8
  clear w1
  have w1 := w1'
  clear w1'
  have hK' := hK.below k8
  clear hK
  have hK := hK'
  clear hK'
  have B0' := B0.below k8
  clear B0
  have B0 := B0'
  clear B0'
  have B1' := B1.below k8
  clear B1
  have B1 := B1'
  clear B1'
  have SA' := SA.below k8
  clear SA
  have SA := SA'
  clear SA'
  have SB' := SB.below k8
  clear SB
  have SB := SB'
  clear SB'
  have kb' := kb.trans (k8.mono kb.size)
  clear kb k8
  have kb := kb'
  clear kb'
  go_wp2_with (first | go_skip | (refine CmW.gload _ rfl _ rfl a0 B0 rfl ?_) | (refine CmW.gload _ rfl _ rfl a1 B1 rfl ?_) | (refine IdJ.wpList_alloc_id rfl rfl ?_) | (refine CmG.wpList_store_id rfl _ _ rfl _ nought _ rfl I _ rfl rfl rfl ?_; intro W9 JA k9 s9; clear s9; have w0' := w0.below k9; clear w0; have w0 := w0'; clear w0'; have w1' := w1.below k9; clear w1; have w1 := w1'; clear w1'; have hK' := hK.below k9; clear hK; have hK := hK'; clear hK'; have B0' := B0.below k9; clear B0; have B0 := B0'; clear B0'; have B1' := B1.below k9; clear B1; have B1 := B1'; clear B1'; have SA' := SA.below k9; clear SA; have SA := SA'; clear SA'; have SB' := SB.below k9; clear SB; have SB := SB'; clear SB'; have kb' := kb.trans (k9.mono kb.size); clear kb k9; have kb := kb'; clear kb') | (refine CmY.gid _ rfl _ _ rfl I JA.range rfl ?_))
  have hc := CmA.hash_ret a1 _ w1 g1 hK
  unfold HashOut at hc
  rw [mI.out, mN.out] at hc
  refine hc.mono ?_
  clear hc
  rintro e W10 ⟨rfl, k10⟩
  have w0' := w0.below k10
  clear w0
  have w0 := w0'
  clear w0'
  have w1' := w1.below k10
  clear w1
  have w1 := w1'
  clear w1'
  have hK' := hK.below k10
  clear hK
  have hK := hK'
  clear hK'
  have B0' := B0.below k10
  clear B0
  have B0 := B0'
  clear B0'
  have B1' := B1.below k10
  clear B1
  have B1 := B1'
  clear B1'
  have SA' := SA.below k10
  clear SA
  have SA := SA'
  clear SA'
  have SB' := SB.below k10
  clear SB
  have SB := SB'
  clear SB'
  have JA' := JA.below k10 JA.lt
  clear JA
  have JA := JA'
  clear JA'
  have kb' := kb.trans (k10.mono kb.size)
  clear kb k10
  have kb := kb'
  clear kb'
  go_wp2_with (first | go_skip | (refine CmW.gload _ rfl _ rfl a0 B0 rfl ?_) | (refine CmW.gload _ rfl _ rfl a1 B1 rfl ?_) | (refine CmY.gid _ rfl _ _ rfl I JA.range rfl ?_) | (refine IdJ.wpList_alloc_id rfl rfl ?_) | (refine CmG.wpList_store_id rfl _ _ rfl _ nought _ rfl I _ rfl rfl rfl ?_; intro W11 JB k11 s11; clear s11; have w0' := w0.below k11; clear w0; have w0 := w0'; clear w0'; have w1' := w1.below k11; clear w1; have w1 := w1'; clear w1'; have hK' := hK.below k11; clear hK; have hK := hK'; clear hK'; have B0' := B0.below k11; clear B0; have B0 := B0'; clear B0'; have B1' := B1.below k11; clear B1; have B1 := B1'; clear B1'; have SA' := SA.below k11; clear SA; have SA := SA'; clear SA'; have SB' := SB.below k11; clear SB; have SB := SB'; clear SB'; have JA' := JA.below k11 JA.lt; clear JA; have JA := JA'; clear JA'; have kb' := kb.trans (k11.mono kb.size); clear kb k11; have kb := kb'; clear kb') | (refine CmY.gid _ rfl _ _ rfl I JB.range rfl ?_))
  have hc := CmA.same_ret a0 a1 _ w0 w1
  rw [nE.out] at hc
  refine hc.mono ?_
  clear hc
  rintro e W12 ⟨rfl, k12⟩
  have w0' := w0.below k12
  clear w0
  have w0 := w0'
  clear w0'
  have w1' := w1.below k12
  clear w1
  have w1 := w1'
  clear w1'
  have hK' := hK.below k12
  clear hK
  have hK := hK'
  clear hK'
  have B0' := B0.below k12
  clear B0
  have B0 := B0'
  clear B0'
  have B1' := B1.below k12
  clear B1
  have B1 := B1'
  clear B1'
  have SA' := SA.below k12
  clear SA
  have SA := SA'
  clear SA'
  have SB' := SB.below k12
  clear SB
  have SB := SB'
  clear SB'
  have JA' := JA.below k12 JA.lt
  clear JA
  have JA := JA'
  clear JA'
  have JB' := JB.below k12 JB.lt
  clear JB
  have JB := JB'
  clear JB'
  have kb' := kb.trans (k12.mono kb.size)
  clear kb k12
  have kb := kb'
  clear kb'
  have qA := SA.conv rfl
  have qB := SB.conv rfl
  have hs : ((strOf P).toList == (strOf P).toList) = true := beq_self_eq_true _
  have heq := fun W => IdW.equal W 9998 I I
  rw [decide_eq_true rfl] at heq
  go_wp2_with (first | go_skip | (refine CmW.gload _ rfl _ rfl a0 B0 rfl ?_) | (refine CmW.gload _ rfl _ rfl a1 B1 rfl ?_) | (refine CmY.gid _ rfl _ _ rfl I JA.range rfl ?_) | (refine CmY.gid _ rfl _ _ rfl I JB.range rfl ?_))
  go_ret
  exact ⟨by first | rfl | simp, kb⟩

set_option maxRecDepth 100000 in
set_option maxHeartbeats 32000000 in
theorem other (a0 : Cv) (a1 : Cv) (w : World) (w0 : In w a0) (g0 : Fit a0.c) (w1 : In w a1) (g1 : Fit a1.c) (hK : KIn w) (x0 : fewK a0.c = true) (x1 : fewK a1.c = true) (x2 : mayK a0.c = true) (x3 : mayK a1.c = true) (h : a0.c ≠ a1.c) :
    Calls Tryd.prog 6 #[.agg (cc a0), .agg (cc a1)] w fun e w' => e = .returned (.bool true) ∧ Below w.heap.size w w' := by
  have X0 := aside x0
  have X1 := aside x1
  have X2 := aside x2
  have X3 := aside x3
  obtain ⟨y1, y2, y3⟩ := putB_yes x2
  obtain ⟨z1, z2, z3⟩ := putB_yes x3
  have nN := aside y2
  have mN := aside z2
  obtain ⟨P, hP⟩ : ∃ P, putB a0.c = P := ⟨_, rfl⟩
  obtain ⟨I, hI⟩ : ∃ I, hashI a0.c = I := ⟨_, rfl⟩
  have nP := aside hP
  have nI := aside hI
  obtain ⟨R, hR⟩ : ∃ R, putB a1.c = R := ⟨_, rfl⟩
  obtain ⟨J, hJ⟩ : ∃ J, hashI a1.c = J := ⟨_, rfl⟩
  have mP := aside hR
  have mI := aside hJ
  have hne : P ≠ R := by
    rw [← hP, ← hR, y1, z1]
    exact fun e => h (putK_inj x2 x3 e)
  have HS : Hid (((strOf P).toList == (strOf R).toList) = false) := aside (by
    rw [strOf_beq (by rw [← hP]; exact putB_B _) (by rw [← hR]; exact putB_B _)]
    exact decide_eq_false hne)
  have nE : Hid (sameK a0.c a1.c = false) := aside (by
    cases hs : sameK a0.c a1.c with
    | false => rfl
    | true => exact absurd (sameK_iff.1 hs) h)
  clear x0 x1 x2 x3 y1 y2 y3 z1 z2 z3 hP hI hR hJ h hne
  have B0 : Cel.Box CE (w.alloc (.cells (cc a0) 28)) (w.heap.size) a0 := by exact Cel.Box.new (E := CE) w a0 _
  have k0 := StW.below_alloc w (.cells (cc a0) 28)
  have w0' := w0.below k0
  clear w0
  have w0 := w0'
  clear w0'
  have w1' := w1.below k0
  clear w1
  have w1 := w1'
  clear w1'
  have hK' := hK.below k0
  clear hK
  have hK := hK'
  clear hK'
  have kb := k0
  clear k0
  have z1 : (w.alloc (.cells (cc a0) 28)).heap.size = w.heap.size + 1 := by simp
  have B1 : Cel.Box CE ((w.alloc (.cells (cc a0) 28)).alloc (.cells (cc a1) 28)) (w.heap.size + 1) a1 := by rw [← z1]; exact Cel.Box.new (E := CE) (w.alloc (.cells (cc a0) 28)) a1 _
  have k1 := StW.below_alloc (w.alloc (.cells (cc a0) 28)) (.cells (cc a1) 28)
  have w0' := w0.below k1
  clear w0
  have w0 := w0'
  clear w0'
  have w1' := w1.below k1
  clear w1
  have w1 := w1'
  clear w1'
  have hK' := hK.below k1
  clear hK
  have hK := hK'
  clear hK'
  have B0' := B0.below k1
  clear B0
  have B0 := B0'
  clear B0'
  have kb' := kb.trans (k1.mono kb.size)
  clear kb k1
  have kb := kb'
  clear kb'
  go_enter Tryd.func6, Tryd.ntmps6
  go_wp2_with fail
  refine (awake _ hK).mono ?_
  rintro e W1 ⟨rfl, k1⟩
  have hb : w.heap.size + 2 ≤ W1.heap.size := Nat.le_trans (by first | (simp; done) | (simp; omega)) k1.size
  clear z1
  have w0' := w0.below k1
  clear w0
  have w0 := w0'
  clear w0'
  have w1' := w1.below k1
  clear w1
  have w1 := w1'
  clear w1'
  have hK' := hK.below k1
  clear hK
  have hK := hK'
  clear hK'
  have B0' := B0.below k1
  clear B0
  have B0 := B0'
  clear B0'
  have B1' := B1.below k1
  clear B1
  have B1 := B1'
  clear B1'
  have kb' := kb.trans (k1.mono kb.size)
  clear kb k1
  have kb := kb'
  clear kb'
  go_wp2_with (first | go_skip | (refine CmW.gload _ rfl _ rfl a0 B0 rfl ?_) | (refine CmW.gload _ rfl _ rfl a1 B1 rfl ?_))
  have hc := fun W => few_ret a0 W
  simp only [X0.out] at hc
  refine (hc _).mono ?_
  clear hc
  rintro e W2 ⟨rfl, k2⟩
  have w0' := w0.below k2
  clear w0
  have w0 := w0'
  clear w0'
  have w1' := w1.below k2
  clear w1
  have w1 := w1'
  clear w1'
  have hK' := hK.below k2
  clear hK
  have hK := hK'
  clear hK'
  have B0' := B0.below k2
  clear B0
  have B0 := B0'
  clear B0'
  have B1' := B1.below k2
  clear B1
  have B1 := B1'
  clear B1'
  have kb' := kb.trans (k2.mono kb.size)
  clear kb k2
  have kb := kb'
  clear kb'
  go_wp2_with (first | go_skip | (refine CmW.gload _ rfl _ rfl a0 B0 rfl ?_) | (refine CmW.gload _ rfl _ rfl a1 B1 rfl ?_))
  have hc := fun W => few_ret a1 W
  simp only [X1.out] at hc
  refine (hc _).mono ?_
  clear hc
  rintro e W3 ⟨rfl, k3⟩
  have w0' := w0.below k3
  clear w0
  have w0 := w0'
  clear w0'
  have w1' := w1.below k3
  clear w1
  have w1 := w1'
  clear w1'
  have hK' := hK.below k3
  clear hK
  have hK := hK'
  clear hK'
  have B0' := B0.below k3
  clear B0
  have B0 := B0'
  clear B0'
  have B1' := B1.below k3
  clear B1
  have B1 := B1'
  clear B1'
  have kb' := kb.trans (k3.mono kb.size)
  clear kb k3
  have kb := kb'
  clear kb'
  go_wp2_with (first | go_skip | (refine CmW.gload _ rfl _ rfl a0 B0 rfl ?_) | (refine CmW.gload _ rfl _ rfl a1 B1 rfl ?_))
  have hc := CmA.may_ret a0 _ w0 g0
  rw [X2.out] at hc
  refine hc.mono ?_
  clear hc
  rintro e W4 ⟨rfl, k4⟩
  have w0' := w0.below k4
  clear w0
  have w0 := w0'
  clear w0'
  have w1' := w1.below k4
  clear w1
  have w1 := w1'
  clear w1'
  have hK' := hK.below k4
  clear hK
  have hK := hK'
  clear hK'
  have B0' := B0.below k4
  clear B0
  have B0 := B0'
  clear B0'
  have B1' := B1.below k4
  clear B1
  have B1 := B1'
  clear B1'
  have kb' := kb.trans (k4.mono kb.size)
  clear kb k4
  have kb := kb'
  clear kb'
  go_wp2_with (first | go_skip | (refine CmW.gload _ rfl _ rfl a0 B0 rfl ?_) | (refine CmW.gload _ rfl _ rfl a1 B1 rfl ?_))
  have hc := CmA.may_ret a1 _ w1 g1
  rw [X3.out] at hc
  refine hc.mono ?_
  clear hc
  rintro e W5 ⟨rfl, k5⟩
  have w0' := w0.below k5
  clear w0
  have w0 := w0'
  clear w0'
  have w1' := w1.below k5
  clear w1
  have w1 := w1'
  clear w1'
  have hK' := hK.below k5
  clear hK
  have hK := hK'
  clear hK'
  have B0' := B0.below k5
  clear B0
  have B0 := B0'
  clear B0'
  have B1' := B1.below k5
  clear B1
  have B1 := B1'
  clear B1'
  have kb' := kb.trans (k5.mono kb.size)
  clear kb k5
  have kb := kb'
  clear kb'
  go_wp2_with (first | go_skip | (refine CmW.gload _ rfl _ rfl a0 B0 rfl ?_) | (refine CmW.gload _ rfl _ rfl a1 B1 rfl ?_))
  have hc := CmA.put_ret a0 _ w0 g0
  unfold PutOut at hc
  rw [nP.out] at hc
  rw [nN.out] at hc
  refine hc.mono ?_
  clear hc
  rintro e W6 ⟨AA, CA, rfl, SA, k6⟩
  have w0' := w0.below k6
  clear w0
  have w0 := w0'
  clear w0'
  have w1' := w1.below k6
  clear w1
  have w1 := w1'
  clear w1'
  have hK' := hK.below k6
  clear hK
  have hK := hK'
  clear hK'
  have B0' := B0.below k6
  clear B0
  have B0 := B0'
  clear B0'
  have B1' := B1.below k6
  clear B1
  have B1 := B1'
  clear B1'
  have kb' := kb.trans (k6.mono kb.size)
  clear kb k6
  have kb := kb'
  clear kb'
  go_wp2_with (first | go_skip | (refine CmW.gload _ rfl _ rfl a0 B0 rfl ?_) | (refine CmW.gload _ rfl _ rfl a1 B1 rfl ?_))
  have hc := CmA.put_ret a1 _ w1 g1
  unfold PutOut at hc
  rw [mP.out] at hc
  rw [mN.out] at hc
  refine hc.mono ?_
  clear hc
  rintro e W7 ⟨AB, CB, rfl, SB, k7⟩
  have w0' := w0.below k7
  clear w0
  have w0 := w0'
  clear w0'
  have w1' := w1.below k7
  clear w1
  have w1 := w1'
  clear w1'
  have hK' := hK.below k7
  clear hK
  have hK := hK'
  clear hK'
  have B0' := B0.below k7
  clear B0
  have B0 := B0'
  clear B0'
  have B1' := B1.below k7
  clear B1
  have B1 := B1'
  clear B1'
  have SA' := SA.below k7
  clear SA
  have SA := SA'
  clear SA'
  have kb' := kb.trans (k7.mono kb.size)
  clear kb k7
  have kb := kb'
  clear kb'
  go_wp2_with (first | go_skip | (refine CmW.gload _ rfl _ rfl a0 B0 rfl ?_) | (refine CmW.gload _ rfl _ rfl a1 B1 rfl ?_))
  have hc := CmA.hash_ret a0 _ w0 g0 hK
  unfold HashOut at hc
  rw [nI.out, nN.out] at hc
  refine hc.mono ?_
  clear hc
  rintro e W8 ⟨rfl, k8⟩
  have w0' := w0.below k8
  clear w0
  have w0 := w0'
  clear w0'
  have w1' := w1.below k8
  clear w1
  have w1 := w1'
  clear w1'
  have hK' := hK.below k8
  clear hK
  have hK := hK'
  clear hK'
  have B0' := B0.below k8
  clear B0
  have B0 := B0'
  clear B0'
  have B1' := B1.below k8
  clear B1
  have B1 := B1'
  clear B1'
  have SA' := SA.below k8
  clear SA
  have SA := SA'
  clear SA'
  have SB' := SB.below k8
  clear SB
  have SB := SB'
  clear SB'
  have kb' := kb.trans (k8.mono kb.size)
  clear kb k8
  have kb := kb'
  clear kb'
  go_wp2_with (first | go_skip | (refine CmW.gload _ rfl _ rfl a0 B0 rfl ?_) | (refine CmW.gload _ rfl _ rfl a1 B1 rfl ?_) | (refine IdJ.wpList_alloc_id rfl rfl ?_) | (refine CmG.wpList_store_id rfl _ _ rfl _ nought _ rfl I _ rfl rfl rfl ?_; intro W9 JA k9 s9; clear s9; have w0' := w0.below k9; clear w0; have w0 := w0'; clear w0'; have w1' := w1.below k9; clear w1; have w1 := w1'; clear w1'; have hK' := hK.below k9; clear hK; have hK := hK'; clear hK'; have B0' := B0.below k9; clear B0; have B0 := B0'; clear B0'; have B1' := B1.below k9; clear B1; have B1 := B1'; clear B1'; have SA' := SA.below k9; clear SA; have SA := SA'; clear SA'; have SB' := SB.below k9; clear SB; have SB := SB'; clear SB'; have kb' := kb.trans (k9.mono kb.size); clear kb k9; have kb := kb'; clear kb') | (refine CmY.gid _ rfl _ _ rfl I JA.range rfl ?_))
  have hc := CmA.hash_ret a1 _ w1 g1 hK
  unfold HashOut at hc
  rw [mI.out, mN.out] at hc
  refine hc.mono ?_
  clear hc
  rintro e W10 ⟨rfl, k10⟩
  have w0' := w0.below k10
  clear w0
  have w0 := w0'
  clear w0'
  have w1' := w1.below k10
  clear w1
  have w1 := w1'
  clear w1'
  have hK' := hK.below k10
  clear hK
  have hK := hK'
  clear hK'
  have B0' := B0.below k10
  clear B0
  have B0 := B0'
  clear B0'
  have B1' := B1.below k10
  clear B1
  have B1 := B1'
  clear B1'
  have SA' := SA.below k10
  clear SA
  have SA := SA'
  clear SA'
  have SB' := SB.below k10
  clear SB
  have SB := SB'
  clear SB'
  have JA' := JA.below k10 JA.lt
  clear JA
  have JA := JA'
  clear JA'
  have kb' := kb.trans (k10.mono kb.size)
  clear kb k10
  have kb := kb'
  clear kb'
  go_wp2_with (first | go_skip | (refine CmW.gload _ rfl _ rfl a0 B0 rfl ?_) | (refine CmW.gload _ rfl _ rfl a1 B1 rfl ?_) | (refine CmY.gid _ rfl _ _ rfl I JA.range rfl ?_) | (refine IdJ.wpList_alloc_id rfl rfl ?_) | (refine CmG.wpList_store_id rfl _ _ rfl _ nought _ rfl J _ rfl rfl rfl ?_; intro W11 JB k11 s11; clear s11; have w0' := w0.below k11; clear w0; have w0 := w0'; clear w0'; have w1' := w1.below k11; clear w1; have w1 := w1'; clear w1'; have hK' := hK.below k11; clear hK; have hK := hK'; clear hK'; have B0' := B0.below k11; clear B0; have B0 := B0'; clear B0'; have B1' := B1.below k11; clear B1; have B1 := B1'; clear B1'; have SA' := SA.below k11; clear SA; have SA := SA'; clear SA'; have SB' := SB.below k11; clear SB; have SB := SB'; clear SB'; have JA' := JA.below k11 JA.lt; clear JA; have JA := JA'; clear JA'; have kb' := kb.trans (k11.mono kb.size); clear kb k11; have kb := kb'; clear kb') | (refine CmY.gid _ rfl _ _ rfl J JB.range rfl ?_))
  have hc := CmA.same_ret a0 a1 _ w0 w1
  rw [nE.out] at hc
  refine hc.mono ?_
  clear hc
  rintro e W12 ⟨rfl, k12⟩
  have w0' := w0.below k12
  clear w0
  have w0 := w0'
  clear w0'
  have w1' := w1.below k12
  clear w1
  have w1 := w1'
  clear w1'
  have hK' := hK.below k12
  clear hK
  have hK := hK'
  clear hK'
  have B0' := B0.below k12
  clear B0
  have B0 := B0'
  clear B0'
  have B1' := B1.below k12
  clear B1
  have B1 := B1'
  clear B1'
  have SA' := SA.below k12
  clear SA
  have SA := SA'
  clear SA'
  have SB' := SB.below k12
  clear SB
  have SB := SB'
  clear SB'
  have JA' := JA.below k12 JA.lt
  clear JA
  have JA := JA'
  clear JA'
  have JB' := JB.below k12 JB.lt
  clear JB
  have JB := JB'
  clear JB'
  have kb' := kb.trans (k12.mono kb.size)
  clear kb k12
  have kb := kb'
  clear kb'
  have qA := SA.conv rfl
  have qB := SB.conv rfl
  have hs := HS.out
  go_wp2_with (first | go_skip | (refine CmW.gload _ rfl _ rfl a0 B0 rfl ?_) | (refine CmW.gload _ rfl _ rfl a1 B1 rfl ?_) | (refine CmY.gid _ rfl _ _ rfl I JA.range rfl ?_) | (refine CmY.gid _ rfl _ _ rfl J JB.range rfl ?_))
  go_ret
  exact ⟨by first | rfl | simp, kb⟩

theorem walk (a0 : Cv) (a1 : Cv) (w : World) (w0 : In w a0) (g0 : Fit a0.c) (w1 : In w a1) (g1 : Fit a1.c) (hK : KIn w) :
    Calls Tryd.prog 6 #[.agg (cc a0), .agg (cc a1)] w fun e w' => e = .returned (.bool true) ∧ Below w.heap.size w w' := by
  cases x0 : fewK a0.c with
  | false => exact out a0 a1 w w0 g0 w1 g1 hK _ _ x0 rfl (.inl rfl)
  | true =>
    cases x1 : fewK a1.c with
    | false => exact out a0 a1 w w0 g0 w1 g1 hK _ _ x0 x1 (.inr ⟨rfl, rfl⟩)
    | true =>
      cases x2 : mayK a0.c with
      | false => exact one a0 a1 w w0 g0 w1 g1 hK x0 x1 x2
      | true =>
        cases x3 : mayK a1.c with
        | false => exact two a0 a1 w w0 g0 w1 g1 hK x0 x1 x2 x3
        | true =>
          cases hs : sameK a0.c a1.c with
          | true => exact same a0 a1 w w0 g0 w1 g1 hK x0 x1 x2 x3 (sameK_iff.1 hs)
          | false => exact other a0 a1 w w0 g0 w1 g1 hK x0 x1 x2 x3 (fun e => by rw [sameK_iff.2 e] at hs; cases hs)

theorem own : ownKnob Tryd.prog.godebug = none := by kernel_rfl
theorem laidOut : laidOutB Tryd.prog = true := by kernel_rfl
set_option linter.unusedVariables false in
set_option maxRecDepth 100000 in
theorem lifted (os : Os) (started : os.Started) (H : Type) (enc : TypeId × Value → H) :
    ReturnsInHanded {} Tryd.checked os 6 .any (fun w args => (Rows.commitOnlySpec.pre enc Tryd.prog Tryd.f6 [] false w args ∧ laidMetH Tryd.prog ShaL.laid1 w) ∧ sizedMet enc Tryd.prog Tryd.f6 (OpenSpec.ofChange Rows.commitOnlySpec) false w args)
      (Rows.commitOnlySpec.post enc Tryd.prog Tryd.f6 false true false false) := by
  refine returnsInHanded_of_change_and (C := Tryd.checked) (X := fun w _ => laidMetH Tryd.prog ShaL.laid1 w) (fun _ _ _ hh h => h.of_heap hh) own started (by kernel_rfl) Tryd.func6
    (ChangeSpec.witness_shaped (enc := enc) (C := Tryd.checked) (os := os) (X := fun w _ => laidMetH Tryd.prog ShaL.laid1 w) false (World.doorLaid Tryd.prog 14 os) #[.agg #[.int .i64 0, .int .i64 0, .int .i64 0, .slice none 0 0, .int .i64 0, .string ByteArray.empty, .string ByteArray.empty, .int .i64 0], .agg #[.int .i64 0, .int .i64 0, .int .i64 0, .slice none 0 0, .int .i64 0, .string ByteArray.empty, .string ByteArray.empty, .int .i64 0]] 8 rfl (World.shaped_of_RefB (by kernel_rfl) (by kernel_rfl)) (by kernel_rfl) (by kernel_rfl) (by kernel_rfl) (ShaL.door_met os _)) ?_
  intro W base args ds gs before hval0 hW _ _ hL _
  have hval : ∀ (j : Nat) t v, Tryd.f6.params[j]? = some t → args[j]? = some v → Value.okWide Tryd.prog W .any base t v := hval0
  have hW' := hW
  obtain ⟨p, q, hA0, hV, rfl, hfz, hnd⟩ := hW
  have hA : DataW.TrodAll enc Tryd.prog W 0 (fun _ => true) true Tryd.f6.params.toList args.toList ds p := hA0
  rw [Tryd.params6] at hA hval
  obtain ⟨v0, vs0, d0, ds0, p0, q0, hargs, rfl, rfl, h0, r0⟩ := trodAll_cons hA
  obtain ⟨v1, vs1, d1, ds1, p1, q1, rfl, rfl, rfl, h1, r1⟩ := trodAll_cons r0
  obtain ⟨rfl, rfl, rfl⟩ := trodAll_nil r1
  obtain rfl : args = #[v0, v1] := by cases args; simp_all
  obtain ⟨rfl, rfl⟩ := trodVars_none hV
  have k0 := h0
  have lt0 : ∀ x ∈ p0, x.block < W.heap.size := by obtain ⟨m, hm⟩ := k0; exact DataW.trod_lt m _ _ _ hm
  obtain ⟨a0, rfl, w0, g0⟩ := OpenK.open_com (hval 0 28 v0 rfl rfl) h0
  have k1 := h1
  have lt1 : ∀ x ∈ p1, x.block < W.heap.size := by obtain ⟨m, hm⟩ := k1; exact DataW.trod_lt m _ _ _ hm
  obtain ⟨a1, rfl, w1, g1⟩ := OpenK.open_com (hval 1 28 v1 rfl rfl) h1
  clear hA0 hval0
  refine (walk a0 a1 W w0 g0 w1 g1 (ShaL.of_laid hL)).mono fun e W' ⟨he, bel⟩ => ?_
  subst he
  exact ⟨_, rfl, _, _, _, [], _, [], hW', trodAll_mk1 (shut_bool Tryd.underlying4 _), (trodAll_cons_mk (Below.trod laidOut (by kernel_rfl) (of_decide_eq_true (by kernel_rfl)) k0 bel lt0) (trodAll_cons_mk (Below.trod laidOut (by kernel_rfl) (of_decide_eq_true (by kernel_rfl)) k1 bel lt1) trodAll_mk0)), rfl, bel.frame _, fun h => by cases h⟩

theorem over : Rows.commitOnlyRow.holds Tryd.pinned (OpenSpec.ofChange Rows.commitOnlySpec) :=
  OpenClaim.holds_of_wide 6 Tryd.f6 rfl rfl rfl rfl rfl rfl rfl ⟨rfl, rfl, rfl, rfl, rfl⟩ rfl rfl rfl rfl rfl (by kernel_rfl) Tryd.func6 (by kernel_rfl)
    (of_decide_eq_true (by kernel_rfl)) (by unfold Func.isWrapper; first | (rw [if_pos (by decide +kernel)]; kernel_rfl) | (rw [if_neg (by decide +kernel)]; exact ⟨rfl, rfl⟩))
    (fun os started H enc _ => lifted os started H enc)

theorem proved : Rows.CommitOnlyCardSaid :=
  Claim7.holds_tied_plain_at .later [] Rows.commitOnlyCard.laidKinds true Rows.commitOnlyCard.stood.harness Rows.commitOnlyCard.stood.looks
    over (fun _ h => by cases h) (by kernel_rfl) (fun _ h => by cases h) commitOnly_row_tie rfl ⟨rfl, rfl⟩ (by kernel_rfl) rfl
    (fun f fn hf hfn => by
      obtain rfl : f = 6 := Option.some.inj ((show Tryd.prog.funcNamed Rows.commitOnlyRow.func = some 6 by kernel_rfl).symm.trans hf) |>.symm
      obtain rfl : fn = Tryd.f6 := (Option.some.inj (Tryd.func6.symm.trans hfn)).symm
      exact ⟨by kernel_rfl, fun j t ht => by
        rw [Tryd.params6] at ht
        have hm : t ∈ [28, 28] := by simpa using Array.mem_of_getElem? ht
        have hall : ([28, 28].all fun u => !Tryd.prog.wantsStandIn u) = true := by kernel_rfl
        exact (show Tryd.prog.wantsStandIn t = false by simpa using List.all_eq_true.1 hall t hm)⟩)
    (by kernel_rfl)
end Go.Proofs.YtnphlpebeflpkaaDoor.commitOnly
