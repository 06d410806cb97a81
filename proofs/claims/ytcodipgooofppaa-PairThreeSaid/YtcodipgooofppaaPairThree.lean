/- PairThree returns true for every input: of three that come from one, it does not matter which two are merged first. No condition. -/
import Derived.Test.YtcodipgooofppaaPairA
import Derived.Test.YtcodipgooofppaaRowF
import Derived.Test.YtcodipgooofppaaRowK
import Derived.ShutString
import Derived.ChangeOld
namespace Go.Proofs.Ytcodipgooofppaa.pairThree
open Go Go.ChangeShapes Go.WideShapes Go.ChangeAt Go.RowKit Byt OpsM Rise PairM PairN RowS RowB PairW PairS PairG PairQ PairU Txt PairX PairA

set_option maxRecDepth 100000 in
set_option maxHeartbeats 8000000 in
theorem out (a0 : Option Addr) (cap0 : Nat) (l0 : List Pr) (a1 : Option Addr) (cap1 : Nat) (l1 : List Pr) (a2 : Option Addr) (cap2 : Nat) (l2 : List Pr) (a3 : Option Addr) (cap3 : Nat) (l3 : List Pr) (w : World) (w0 : SlR E w a0 cap0 l0) (g0 : ∀ x ∈ l0, OpenP.Good x) (w1 : SlR E w a1 cap1 l1) (g1 : ∀ x ∈ l1, OpenP.Good x) (w2 : SlR E w a2 cap2 l2) (g2 : ∀ x ∈ l2, OpenP.Good x) (w3 : SlR E w a3 cap3 l3) (g3 : ∀ x ∈ l3, OpenP.Good x) (b0 : Bool) (b1 : Bool) (b2 : Bool) (b3 : Bool) (x0 : fewB l0 = b0) (x1 : fewB l1 = b1) (x2 : fewB l2 = b2) (x3 : fewB l3 = b3) (h : (b0 = false) ∨ (b0 = true ∧ b1 = false) ∨ (b0 = true ∧ b1 = true ∧ b2 = false) ∨ (b0 = true ∧ b1 = true ∧ b2 = true ∧ b3 = false)) :
    Calls Try.prog 8 #[.slice a0 l0.length cap0, .slice a1 l1.length cap1, .slice a2 l2.length cap2, .slice a3 l3.length cap3] w fun e w' => e = .returned (.bool true) ∧ Below w.heap.size w w' := by
  rcases h with rfl | ⟨rfl, rfl⟩ | ⟨rfl, rfl, rfl⟩ | ⟨rfl, rfl, rfl, rfl⟩
  all_goals
    go_enter Try.func8, Try.ntmps8
    go_wp2_with fail
    refine (awake _).mono ?_
    rintro e W1 ⟨rfl, k1⟩
    have w0' := w0.below k1
    clear w0
    have w0 := w0'
    clear w0'
    have w1' := w1.below k1
    clear w1
    have w1 := w1'
    clear w1'
    have w2' := w2.below k1
    clear w2
    have w2 := w2'
    clear w2'
    have w3' := w3.below k1
    clear w3
    have w3 := w3'
    clear w3'
    have kb := k1
    clear k1
    go_wp2_with fail
    have hc := few_ret a0 cap0 l0 _ w0 (max_of g0)
    rw [x0] at hc
    refine hc.mono ?_
    clear hc
    rintro e w' ⟨rfl, rfl⟩
    go_wp2_with fail
    have hc := few_ret a1 cap1 l1 _ w1 (max_of g1)
    rw [x1] at hc
    refine hc.mono ?_
    clear hc
    rintro e w' ⟨rfl, rfl⟩
    go_wp2_with fail
    have hc := few_ret a2 cap2 l2 _ w2 (max_of g2)
    rw [x2] at hc
    refine hc.mono ?_
    clear hc
    rintro e w' ⟨rfl, rfl⟩
    go_wp2_with fail
    have hc := few_ret a3 cap3 l3 _ w3 (max_of g3)
    rw [x3] at hc
    refine hc.mono ?_
    clear hc
    rintro e w' ⟨rfl, rfl⟩
    go_wp2_with fail
    go_ret
    exact ⟨by first | rfl | simp, kb⟩

set_option maxRecDepth 100000 in
set_option maxHeartbeats 8000000 in
theorem outm0 (a0 : Option Addr) (cap0 : Nat) (l0 : List Pr) (a1 : Option Addr) (cap1 : Nat) (l1 : List Pr) (a2 : Option Addr) (cap2 : Nat) (l2 : List Pr) (a3 : Option Addr) (cap3 : Nat) (l3 : List Pr) (w : World) (w0 : SlR E w a0 cap0 l0) (g0 : ∀ x ∈ l0, OpenP.Good x) (w1 : SlR E w a1 cap1 l1) (g1 : ∀ x ∈ l1, OpenP.Good x) (w2 : SlR E w a2 cap2 l2) (g2 : ∀ x ∈ l2, OpenP.Good x) (w3 : SlR E w a3 cap3 l3) (g3 : ∀ x ∈ l3, OpenP.Good x) (x0 : fewB l0 = true) (x1 : fewB l1 = true) (x2 : fewB l2 = true) (x3 : fewB l3 = true) (m0 : mayP l0 = false) :
    Calls Try.prog 8 #[.slice a0 l0.length cap0, .slice a1 l1.length cap1, .slice a2 l2.length cap2, .slice a3 l3.length cap3] w fun e w' => e = .returned (.bool true) ∧ Below w.heap.size w w' := by
  have y0 := few_len x0
  have f0 := few_fits x0 g0
  have X0 := aside x0
  have y1 := few_len x1
  have f1 := few_fits x1 g1
  have X1 := aside x1
  have y2 := few_len x2
  have f2 := few_fits x2 g2
  have X2 := aside x2
  have y3 := few_len x3
  have f3 := few_fits x3 g3
  have X3 := aside x3
  have M0 := aside m0
  clear x0 x1 x2 x3 m0
  go_enter Try.func8, Try.ntmps8
  go_wp2_with fail
  refine (awake _).mono ?_
  rintro e W1 ⟨rfl, k1⟩
  have w0' := w0.below k1
  clear w0
  have w0 := w0'
  clear w0'
  have w1' := w1.below k1
  clear w1
  have w1 := w1'
  clear w1'
  have w2' := w2.below k1
  clear w2
  have w2 := w2'
  clear w2'
  have w3' := w3.below k1
  clear w3
  have w3 := w3'
  clear w3'
  have kb := k1
  clear k1
  go_wp2_with fail
  have hc := few_ret a0 cap0 l0 _ w0 (max_of g0)
  rw [X0.out] at hc
  refine hc.mono ?_
  clear hc
  rintro e w' ⟨rfl, rfl⟩
  go_wp2_with fail
  have hc := few_ret a1 cap1 l1 _ w1 (max_of g1)
  rw [X1.out] at hc
  refine hc.mono ?_
  clear hc
  rintro e w' ⟨rfl, rfl⟩
  go_wp2_with fail
  have hc := few_ret a2 cap2 l2 _ w2 (max_of g2)
  rw [X2.out] at hc
  refine hc.mono ?_
  clear hc
  rintro e w' ⟨rfl, rfl⟩
  go_wp2_with fail
  have hc := few_ret a3 cap3 l3 _ w3 (max_of g3)
  rw [X3.out] at hc
  refine hc.mono ?_
  clear hc
  rintro e w' ⟨rfl, rfl⟩
  go_wp2_with fail
  have hc := PairD.may_ret a0 cap0 l0 _ w0 f0 (by omega)
  rw [M0.out] at hc
  refine hc.mono ?_
  clear hc
  rintro e W2 ⟨rfl, k2⟩
  have w0' := w0.below k2
  clear w0
  have w0 := w0'
  clear w0'
  have w1' := w1.below k2
  clear w1
  have w1 := w1'
  clear w1'
  have w2' := w2.below k2
  clear w2
  have w2 := w2'
  clear w2'
  have w3' := w3.below k2
  clear w3
  have w3 := w3'
  clear w3'
  have kb' := kb.trans (k2.mono kb.size)
  clear kb k2
  have kb := kb'
  clear kb'
  go_wp2_with fail
  go_ret
  exact ⟨by first | rfl | simp, kb⟩

set_option maxRecDepth 100000 in
set_option maxHeartbeats 8000000 in
theorem outm1 (a0 : Option Addr) (cap0 : Nat) (l0 : List Pr) (a1 : Option Addr) (cap1 : Nat) (l1 : List Pr) (a2 : Option Addr) (cap2 : Nat) (l2 : List Pr) (a3 : Option Addr) (cap3 : Nat) (l3 : List Pr) (w : World) (w0 : SlR E w a0 cap0 l0) (g0 : ∀ x ∈ l0, OpenP.Good x) (w1 : SlR E w a1 cap1 l1) (g1 : ∀ x ∈ l1, OpenP.Good x) (w2 : SlR E w a2 cap2 l2) (g2 : ∀ x ∈ l2, OpenP.Good x) (w3 : SlR E w a3 cap3 l3) (g3 : ∀ x ∈ l3, OpenP.Good x) (x0 : fewB l0 = true) (x1 : fewB l1 = true) (x2 : fewB l2 = true) (x3 : fewB l3 = true) (m0 : mayP l0 = true) (m1 : mayP l1 = false) :
    Calls Try.prog 8 #[.slice a0 l0.length cap0, .slice a1 l1.length cap1, .slice a2 l2.length cap2, .slice a3 l3.length cap3] w fun e w' => e = .returned (.bool true) ∧ Below w.heap.size w w' := by
  have y0 := few_len x0
  have f0 := few_fits x0 g0
  have X0 := aside x0
  have y1 := few_len x1
  have f1 := few_fits x1 g1
  have X1 := aside x1
  have y2 := few_len x2
  have f2 := few_fits x2 g2
  have X2 := aside x2
  have y3 := few_len x3
  have f3 := few_fits x3 g3
  have X3 := aside x3
  have M0 := aside m0
  have M1 := aside m1
  clear x0 x1 x2 x3 m0 m1
  go_enter Try.func8, Try.ntmps8
  go_wp2_with fail
  refine (awake _).mono ?_
  rintro e W1 ⟨rfl, k1⟩
  have w0' := w0.below k1
  clear w0
  have w0 := w0'
  clear w0'
  have w1' := w1.below k1
  clear w1
  have w1 := w1'
  clear w1'
  have w2' := w2.below k1
  clear w2
  have w2 := w2'
  clear w2'
  have w3' := w3.below k1
  clear w3
  have w3 := w3'
  clear w3'
  have kb := k1
  clear k1
  go_wp2_with fail
  have hc := few_ret a0 cap0 l0 _ w0 (max_of g0)
  rw [X0.out] at hc
  refine hc.mono ?_
  clear hc
  rintro e w' ⟨rfl, rfl⟩
  go_wp2_with fail
  have hc := few_ret a1 cap1 l1 _ w1 (max_of g1)
  rw [X1.out] at hc
  refine hc.mono ?_
  clear hc
  rintro e w' ⟨rfl, rfl⟩
  go_wp2_with fail
  have hc := few_ret a2 cap2 l2 _ w2 (max_of g2)
  rw [X2.out] at hc
  refine hc.mono ?_
  clear hc
  rintro e w' ⟨rfl, rfl⟩
  go_wp2_with fail
  have hc := few_ret a3 cap3 l3 _ w3 (max_of g3)
  rw [X3.out] at hc
  refine hc.mono ?_
  clear hc
  rintro e w' ⟨rfl, rfl⟩
  go_wp2_with fail
  have hc := PairD.may_ret a0 cap0 l0 _ w0 f0 (by omega)
  rw [M0.out] at hc
  refine hc.mono ?_
  clear hc
  rintro e W2 ⟨rfl, k2⟩
  have w0' := w0.below k2
  clear w0
  have w0 := w0'
  clear w0'
  have w1' := w1.below k2
  clear w1
  have w1 := w1'
  clear w1'
  have w2' := w2.below k2
  clear w2
  have w2 := w2'
  clear w2'
  have w3' := w3.below k2
  clear w3
  have w3 := w3'
  clear w3'
  have kb' := kb.trans (k2.mono kb.size)
  clear kb k2
  have kb := kb'
  clear kb'
  go_wp2_with fail
  have hc := PairD.may_ret a1 cap1 l1 _ w1 f1 (by omega)
  rw [M1.out] at hc
  refine hc.mono ?_
  clear hc
  rintro e W3 ⟨rfl, k3⟩
  have w0' := w0.below k3
  clear w0
  have w0 := w0'
  clear w0'
  have w1' := w1.below k3
  clear w1
  have w1 := w1'
  clear w1'
  have w2' := w2.below k3
  clear w2
  have w2 := w2'
  clear w2'
  have w3' := w3.below k3
  clear w3
  have w3 := w3'
  clear w3'
  have kb' := kb.trans (k3.mono kb.size)
  clear kb k3
  have kb := kb'
  clear kb'
  go_wp2_with fail
  go_ret
  exact ⟨by first | rfl | simp, kb⟩

set_option maxRecDepth 100000 in
set_option maxHeartbeats 8000000 in
theorem outm2 (a0 : Option Addr) (cap0 : Nat) (l0 : List Pr) (a1 : Option Addr) (cap1 : Nat) (l1 : List Pr) (a2 : Option Addr) (cap2 : Nat) (l2 : List Pr) (a3 : Option Addr) (cap3 : Nat) (l3 : List Pr) (w : World) (w0 : SlR E w a0 cap0 l0) (g0 : ∀ x ∈ l0, OpenP.Good x) (w1 : SlR E w a1 cap1 l1) (g1 : ∀ x ∈ l1, OpenP.Good x) (w2 : SlR E w a2 cap2 l2) (g2 : ∀ x ∈ l2, OpenP.Good x) (w3 : SlR E w a3 cap3 l3) (g3 : ∀ x ∈ l3, OpenP.Good x) (x0 : fewB l0 = true) (x1 : fewB l1 = true) (x2 : fewB l2 = true) (x3 : fewB l3 = true) (m0 : mayP l0 = true) (m1 : mayP l1 = true) (m2 : mayP l2 = false) :
    Calls Try.prog 8 #[.slice a0 l0.length cap0, .slice a1 l1.length cap1, .slice a2 l2.length cap2, .slice a3 l3.length cap3] w fun e w' => e = .returned (.bool true) ∧ Below w.heap.size w w' := by
  have y0 := few_len x0
  have f0 := few_fits x0 g0
  have X0 := aside x0
  have y1 := few_len x1
  have f1 := few_fits x1 g1
  have X1 := aside x1
  have y2 := few_len x2
  have f2 := few_fits x2 g2
  have X2 := aside x2
  have y3 := few_len x3
  have f3 := few_fits x3 g3
  have X3 := aside x3
  have M0 := aside m0
  have M1 := aside m1
  have M2 := aside m2
  clear x0 x1 x2 x3 m0 m1 m2
  go_enter Try.func8, Try.ntmps8
  go_wp2_with fail
  refine (awake _).mono ?_
  rintro e W1 ⟨rfl, k1⟩
  have w0' := w0.below k1
  clear w0
  have w0 := w0'
  clear w0'
  have w1' := w1.below k1
  clear w1
  have w1 := w1'
  clear w1'
  have w2' := w2.below k1
  clear w2
  have w2 := w2'
  clear w2'
  have w3' := w3.below k1
  clear w3
  have w3 := w3'
  clear w3'
  have kb := k1
  clear k1
  go_wp2_with fail
  have hc := few_ret a0 cap0 l0 _ w0 (max_of g0)
  rw [X0.out] at hc
  refine hc.mono ?_
  clear hc
  rintro e w' ⟨rfl, rfl⟩
  go_wp2_with fail
  have hc := few_ret a1 cap1 l1 _ w1 (max_of g1)
  rw [X1.out] at hc
  refine hc.mono ?_
  clear hc
  rintro e w' ⟨rfl, rfl⟩
  go_wp2_with fail
  have hc := few_ret a2 cap2 l2 _ w2 (max_of g2)
  rw [X2.out] at hc
  refine hc.mono ?_
  clear hc
  rintro e w' ⟨rfl, rfl⟩
  go_wp2_with fail
  have hc := few_ret a3 cap3 l3 _ w3 (max_of g3)
  rw [X3.out] at hc
  refine hc.mono ?_
  clear hc
  rintro e w' ⟨rfl, rfl⟩
  go_wp2_with fail
  have hc := PairD.may_ret a0 cap0 l0 _ w0 f0 (by omega)
  rw [M0.out] at hc
  refine hc.mono ?_
  clear hc
  rintro e W2 ⟨rfl, k2⟩
  have w0' := w0.below k2
  clear w0
  have w0 := w0'
  clear w0'
  have w1' := w1.below k2
  clear w1
  have w1 := w1'
  clear w1'
  have w2' := w2.below k2
  clear w2
  have w2 := w2'
  clear w2'
  have w3' := w3.below k2
  clear w3
  have w3 := w3'
  clear w3'
  have kb' := kb.trans (k2.mono kb.size)
  clear kb k2
  have kb := kb'
  clear kb'
  go_wp2_with fail
  have hc := PairD.may_ret a1 cap1 l1 _ w1 f1 (by omega)
  rw [M1.out] at hc
  refine hc.mono ?_
  clear hc
  rintro e W3 ⟨rfl, k3⟩
  have w0' := w0.below k3
  clear w0
  have w0 := w0'
  clear w0'
  have w1' := w1.below k3
  clear w1
  have w1 := w1'
  clear w1'
  have w2' := w2.below k3
  clear w2
  have w2 := w2'
  clear w2'
  have w3' := w3.below k3
  clear w3
  have w3 := w3'
  clear w3'
  have kb' := kb.trans (k3.mono kb.size)
  clear kb k3
  have kb := kb'
  clear kb'
  go_wp2_with fail
  have hc := PairD.may_ret a2 cap2 l2 _ w2 f2 (by omega)
  rw [M2.out] at hc
  refine hc.mono ?_
  clear hc
  rintro e W4 ⟨rfl, k4⟩
  have w0' := w0.below k4
  clear w0
  have w0 := w0'
  clear w0'
  have w1' := w1.below k4
  clear w1
  have w1 := w1'
  clear w1'
  have w2' := w2.below k4
  clear w2
  have w2 := w2'
  clear w2'
  have w3' := w3.below k4
  clear w3
  have w3 := w3'
  clear w3'
  have kb' := kb.trans (k4.mono kb.size)
  clear kb k4
  have kb := kb'
  clear kb'
  go_wp2_with fail
  go_ret
  exact ⟨by first | rfl | simp, kb⟩

set_option maxRecDepth 100000 in
set_option maxHeartbeats 8000000 in
theorem outm3 (a0 : Option Addr) (cap0 : Nat) (l0 : List Pr) (a1 : Option Addr) (cap1 : Nat) (l1 : List Pr) (a2 : Option Addr) (cap2 : Nat) (l2 : List Pr) (a3 : Option Addr) (cap3 : Nat) (l3 : List Pr) (w : World) (w0 : SlR E w a0 cap0 l0) (g0 : ∀ x ∈ l0, OpenP.Good x) (w1 : SlR E w a1 cap1 l1) (g1 : ∀ x ∈ l1, OpenP.Good x) (w2 : SlR E w a2 cap2 l2) (g2 : ∀ x ∈ l2, OpenP.Good x) (w3 : SlR E w a3 cap3 l3) (g3 : ∀ x ∈ l3, OpenP.Good x) (x0 : fewB l0 = true) (x1 : fewB l1 = true) (x2 : fewB l2 = true) (x3 : fewB l3 = true) (m0 : mayP l0 = true) (m1 : mayP l1 = true) (m2 : mayP l2 = true) (m3 : mayP l3 = false) :
    Calls Try.prog 8 #[.slice a0 l0.length cap0, .slice a1 l1.length cap1, .slice a2 l2.length cap2, .slice a3 l3.length cap3] w fun e w' => e = .returned (.bool true) ∧ Below w.heap.size w w' := by
  have y0 := few_len x0
  have f0 := few_fits x0 g0
  have X0 := aside x0
  have y1 := few_len x1
  have f1 := few_fits x1 g1
  have X1 := aside x1
  have y2 := few_len x2
  have f2 := few_fits x2 g2
  have X2 := aside x2
  have y3 := few_len x3
  have f3 := few_fits x3 g3
  have X3 := aside x3
  have M0 := aside m0
  have M1 := aside m1
  have M2 := aside m2
  have M3 := aside m3
  clear x0 x1 x2 x3 m0 m1 m2 m3
  go_enter Try.func8, Try.ntmps8
  go_wp2_with fail
  refine (awake _).mono ?_
  rintro e W1 ⟨rfl, k1⟩
  have w0' := w0.below k1
  clear w0
  have w0 := w0'
  clear w0'
  have w1' := w1.below k1
  clear w1
  have w1 := w1'
  clear w1'
  have w2' := w2.below k1
  clear w2
  have w2 := w2'
  clear w2'
  have w3' := w3.below k1
  clear w3
  have w3 := w3'
  clear w3'
  have kb := k1
  clear k1
  go_wp2_with fail
  have hc := few_ret a0 cap0 l0 _ w0 (max_of g0)
  rw [X0.out] at hc
  refine hc.mono ?_
  clear hc
  rintro e w' ⟨rfl, rfl⟩
  go_wp2_with fail
  have hc := few_ret a1 cap1 l1 _ w1 (max_of g1)
  rw [X1.out] at hc
  refine hc.mono ?_
  clear hc
  rintro e w' ⟨rfl, rfl⟩
  go_wp2_with fail
  have hc := few_ret a2 cap2 l2 _ w2 (max_of g2)
  rw [X2.out] at hc
  refine hc.mono ?_
  clear hc
  rintro e w' ⟨rfl, rfl⟩
  go_wp2_with fail
  have hc := few_ret a3 cap3 l3 _ w3 (max_of g3)
  rw [X3.out] at hc
  refine hc.mono ?_
  clear hc
  rintro e w' ⟨rfl, rfl⟩
  go_wp2_with fail
  have hc := PairD.may_ret a0 cap0 l0 _ w0 f0 (by omega)
  rw [M0.out] at hc
  refine hc.mono ?_
  clear hc
  rintro e W2 ⟨rfl, k2⟩
  have w0' := w0.below k2
  clear w0
  have w0 := w0'
  clear w0'
  have w1' := w1.below k2
  clear w1
  have w1 := w1'
  clear w1'
  have w2' := w2.below k2
  clear w2
  have w2 := w2'
  clear w2'
  have w3' := w3.below k2
  clear w3
  have w3 := w3'
  clear w3'
  have kb' := kb.trans (k2.mono kb.size)
  clear kb k2
  have kb := kb'
  clear kb'
  go_wp2_with fail
  have hc := PairD.may_ret a1 cap1 l1 _ w1 f1 (by omega)
  rw [M1.out] at hc
  refine hc.mono ?_
  clear hc
  rintro e W3 ⟨rfl, k3⟩
  have w0' := w0.below k3
  clear w0
  have w0 := w0'
  clear w0'
  have w1' := w1.below k3
  clear w1
  have w1 := w1'
  clear w1'
  have w2' := w2.below k3
  clear w2
  have w2 := w2'
  clear w2'
  have w3' := w3.below k3
  clear w3
  have w3 := w3'
  clear w3'
  have kb' := kb.trans (k3.mono kb.size)
  clear kb k3
  have kb := kb'
  clear kb'
  go_wp2_with fail
  have hc := PairD.may_ret a2 cap2 l2 _ w2 f2 (by omega)
  rw [M2.out] at hc
  refine hc.mono ?_
  clear hc
  rintro e W4 ⟨rfl, k4⟩
  have w0' := w0.below k4
  clear w0
  have w0 := w0'
  clear w0'
  have w1' := w1.below k4
  clear w1
  have w1 := w1'
  clear w1'
  have w2' := w2.below k4
  clear w2
  have w2 := w2'
  clear w2'
  have w3' := w3.below k4
  clear w3
  have w3 := w3'
  clear w3'
  have kb' := kb.trans (k4.mono kb.size)
  clear kb k4
  have kb := kb'
  clear kb'
  go_wp2_with fail
  have hc := PairD.may_ret a3 cap3 l3 _ w3 f3 (by omega)
  rw [M3.out] at hc
  refine hc.mono ?_
  clear hc
  rintro e W5 ⟨rfl, k5⟩
  have w0' := w0.below k5
  clear w0
  have w0 := w0'
  clear w0'
  have w1' := w1.below k5
  clear w1
  have w1 := w1'
  clear w1'
  have w2' := w2.below k5
  clear w2
  have w2 := w2'
  clear w2'
  have w3' := w3.below k5
  clear w3
  have w3 := w3'
  clear w3'
  have kb' := kb.trans (k5.mono kb.size)
  clear kb k5
  have kb := kb'
  clear kb'
  go_wp2_with fail
  go_ret
  exact ⟨by first | rfl | simp, kb⟩

set_option maxRecDepth 100000 in
set_option maxHeartbeats 16000000 in
theorem within (a0 : Option Addr) (cap0 : Nat) (l0 : List Pr) (a1 : Option Addr) (cap1 : Nat) (l1 : List Pr) (a2 : Option Addr) (cap2 : Nat) (l2 : List Pr) (a3 : Option Addr) (cap3 : Nat) (l3 : List Pr) (w : World) (w0 : SlR E w a0 cap0 l0) (g0 : ∀ x ∈ l0, OpenP.Good x) (w1 : SlR E w a1 cap1 l1) (g1 : ∀ x ∈ l1, OpenP.Good x) (w2 : SlR E w a2 cap2 l2) (g2 : ∀ x ∈ l2, OpenP.Good x) (w3 : SlR E w a3 cap3 l3) (g3 : ∀ x ∈ l3, OpenP.Good x) (x0 : fewB l0 = true) (x1 : fewB l1 = true) (x2 : fewB l2 = true) (x3 : fewB l3 = true) (m0 : mayP l0 = true) (m1 : mayP l1 = true) (m2 : mayP l2 = true) (m3 : mayP l3 = true) :
    Calls Try.prog 8 #[.slice a0 l0.length cap0, .slice a1 l1.length cap1, .slice a2 l2.length cap2, .slice a3 l3.length cap3] w fun e w' => e = .returned (.bool true) ∧ Below w.heap.size w w' := by
  have y0 := few_len x0
  have f0 := few_fits x0 g0
  have X0 := aside x0
  have y1 := few_len x1
  have f1 := few_fits x1 g1
  have X1 := aside x1
  have y2 := few_len x2
  have f2 := few_fits x2 g2
  have X2 := aside x2
  have y3 := few_len x3
  have f3 := few_fits x3 g3
  have X3 := aside x3
  have r1 := merge_length m0 m1 m2
  have r2 := merge_length m0 m2 m3
  have q1 := merge_fits (base := l0) f1 f2
  have q2 := merge_fits (base := l0) f2 f3
  have e3 := merge_three m0 m1 m2 m3
  have r3 := merge_length m0 (merge_may m0 m1 m2) m3
  obtain ⟨X, hX⟩ : ∃ l, mergeP l0 l1 l2 = l := ⟨_, rfl⟩
  obtain ⟨Y, hY⟩ : ∃ l, mergeP l0 l2 l3 = l := ⟨_, rfl⟩
  rw [hX] at r1 r3 q1 e3
  rw [hY] at r2 q2 e3
  obtain ⟨Z, hZ⟩ : ∃ l, mergeP l0 X l3 = l := ⟨_, rfl⟩
  rw [hZ] at e3 r3
  have HX := aside hX
  have HY := aside hY
  have HZ := aside hZ
  have E3 := aside e3.symm
  have M0 := aside m0
  have M1 := aside m1
  have M2 := aside m2
  have M3 := aside m3
  clear x0 m0 x1 m1 x2 m2 x3 m3 e3 hX hY hZ
  go_enter Try.func8, Try.ntmps8
  go_wp2_with fail
  refine (awake _).mono ?_
  rintro e W1 ⟨rfl, k1⟩
  have w0' := w0.below k1
  clear w0
  have w0 := w0'
  clear w0'
  have w1' := w1.below k1
  clear w1
  have w1 := w1'
  clear w1'
  have w2' := w2.below k1
  clear w2
  have w2 := w2'
  clear w2'
  have w3' := w3.below k1
  clear w3
  have w3 := w3'
  clear w3'
  have kb := k1
  clear k1
  go_wp2_with fail
  have hc := few_ret a0 cap0 l0 _ w0 (max_of g0)
  rw [X0.out] at hc
  refine hc.mono ?_
  clear hc
  rintro e w' ⟨rfl, rfl⟩
  go_wp2_with fail
  have hc := few_ret a1 cap1 l1 _ w1 (max_of g1)
  rw [X1.out] at hc
  refine hc.mono ?_
  clear hc
  rintro e w' ⟨rfl, rfl⟩
  go_wp2_with fail
  have hc := few_ret a2 cap2 l2 _ w2 (max_of g2)
  rw [X2.out] at hc
  refine hc.mono ?_
  clear hc
  rintro e w' ⟨rfl, rfl⟩
  go_wp2_with fail
  have hc := few_ret a3 cap3 l3 _ w3 (max_of g3)
  rw [X3.out] at hc
  refine hc.mono ?_
  clear hc
  rintro e w' ⟨rfl, rfl⟩
  go_wp2_with fail
  have hc := PairD.may_ret a0 cap0 l0 _ w0 f0 (by omega)
  rw [M0.out] at hc
  refine hc.mono ?_
  clear hc
  rintro e W2 ⟨rfl, k2⟩
  have w0' := w0.below k2
  clear w0
  have w0 := w0'
  clear w0'
  have w1' := w1.below k2
  clear w1
  have w1 := w1'
  clear w1'
  have w2' := w2.below k2
  clear w2
  have w2 := w2'
  clear w2'
  have w3' := w3.below k2
  clear w3
  have w3 := w3'
  clear w3'
  have kb' := kb.trans (k2.mono kb.size)
  clear kb k2
  have kb := kb'
  clear kb'
  go_wp2_with fail
  have hc := PairD.may_ret a1 cap1 l1 _ w1 f1 (by omega)
  rw [M1.out] at hc
  refine hc.mono ?_
  clear hc
  rintro e W3 ⟨rfl, k3⟩
  have w0' := w0.below k3
  clear w0
  have w0 := w0'
  clear w0'
  have w1' := w1.below k3
  clear w1
  have w1 := w1'
  clear w1'
  have w2' := w2.below k3
  clear w2
  have w2 := w2'
  clear w2'
  have w3' := w3.below k3
  clear w3
  have w3 := w3'
  clear w3'
  have kb' := kb.trans (k3.mono kb.size)
  clear kb k3
  have kb := kb'
  clear kb'
  go_wp2_with fail
  have hc := PairD.may_ret a2 cap2 l2 _ w2 f2 (by omega)
  rw [M2.out] at hc
  refine hc.mono ?_
  clear hc
  rintro e W4 ⟨rfl, k4⟩
  have w0' := w0.below k4
  clear w0
  have w0 := w0'
  clear w0'
  have w1' := w1.below k4
  clear w1
  have w1 := w1'
  clear w1'
  have w2' := w2.below k4
  clear w2
  have w2 := w2'
  clear w2'
  have w3' := w3.below k4
  clear w3
  have w3 := w3'
  clear w3'
  have kb' := kb.trans (k4.mono kb.size)
  clear kb k4
  have kb := kb'
  clear kb'
  go_wp2_with fail
  have hc := PairD.may_ret a3 cap3 l3 _ w3 f3 (by omega)
  rw [M3.out] at hc
  refine hc.mono ?_
  clear hc
  rintro e W5 ⟨rfl, k5⟩
  have w0' := w0.below k5
  clear w0
  have w0 := w0'
  clear w0'
  have w1' := w1.below k5
  clear w1
  have w1 := w1'
  clear w1'
  have w2' := w2.below k5
  clear w2
  have w2 := w2'
  clear w2'
  have w3' := w3.below k5
  clear w3
  have w3 := w3'
  clear w3'
  have kb' := kb.trans (k5.mono kb.size)
  clear kb k5
  have kb := kb'
  clear kb'
  go_wp2_with fail
  have hc := PairD.merge_ret a0 cap0 l0 a1 cap1 l1 a2 cap2 l2 _ w0 w1 w2 f0 f1 f2 (by omega) (by omega) (by omega)
  rw [HX.out] at hc
  refine hc.mono ?_
  clear hc
  rintro e W6 ⟨AP, CP, rfl, SP, k6⟩
  have w0' := w0.below k6
  clear w0
  have w0 := w0'
  clear w0'
  have w1' := w1.below k6
  clear w1
  have w1 := w1'
  clear w1'
  have w2' := w2.below k6
  clear w2
  have w2 := w2'
  clear w2'
  have w3' := w3.below k6
  clear w3
  have w3 := w3'
  clear w3'
  have kb' := kb.trans (k6.mono kb.size)
  clear kb k6
  have kb := kb'
  clear kb'
  go_wp2_with fail
  have hc := PairD.merge_ret a0 cap0 l0 AP CP X a3 cap3 l3 _ w0 SP w3 f0 q1 f3 (by omega) (by omega) (by omega)
  rw [HZ.out] at hc
  refine hc.mono ?_
  clear hc
  rintro e W7 ⟨AQ, CQ, rfl, SQ, k7⟩
  clear SP
  have w0' := w0.below k7
  clear w0
  have w0 := w0'
  clear w0'
  have w1' := w1.below k7
  clear w1
  have w1 := w1'
  clear w1'
  have w2' := w2.below k7
  clear w2
  have w2 := w2'
  clear w2'
  have w3' := w3.below k7
  clear w3
  have w3 := w3'
  clear w3'
  have kb' := kb.trans (k7.mono kb.size)
  clear kb k7
  have kb := kb'
  clear kb'
  go_wp2_with fail
  have hc := PairD.merge_ret a0 cap0 l0 a2 cap2 l2 a3 cap3 l3 _ w0 w2 w3 f0 f2 f3 (by omega) (by omega) (by omega)
  rw [HY.out] at hc
  refine hc.mono ?_
  clear hc
  rintro e W8 ⟨AP, CP, rfl, SP, k8⟩
  have w0' := w0.below k8
  clear w0
  have w0 := w0'
  clear w0'
  have w1' := w1.below k8
  clear w1
  have w1 := w1'
  clear w1'
  have w2' := w2.below k8
  clear w2
  have w2 := w2'
  clear w2'
  have w3' := w3.below k8
  clear w3
  have w3 := w3'
  clear w3'
  have SQ' := SQ.below k8
  clear SQ
  have SQ := SQ'
  clear SQ'
  have kb' := kb.trans (k8.mono kb.size)
  clear kb k8
  have kb := kb'
  clear kb'
  go_wp2_with fail
  have hc := PairD.merge_ret a0 cap0 l0 a1 cap1 l1 AP CP Y _ w0 w1 SP f0 f1 q2 (by omega) (by omega) (by omega)
  rw [E3.out] at hc
  refine hc.mono ?_
  clear hc
  rintro e W9 ⟨AR, CR, rfl, SR, k9⟩
  clear SP
  have w0' := w0.below k9
  clear w0
  have w0 := w0'
  clear w0'
  have w1' := w1.below k9
  clear w1
  have w1 := w1'
  clear w1'
  have w2' := w2.below k9
  clear w2
  have w2 := w2'
  clear w2'
  have w3' := w3.below k9
  clear w3
  have w3 := w3'
  clear w3'
  have SQ' := SQ.below k9
  clear SQ
  have SQ := SQ'
  clear SQ'
  have kb' := kb.trans (k9.mono kb.size)
  clear kb k9
  have kb := kb'
  clear kb'
  go_wp2_with fail
  have hc := same_ret AQ CQ Z AR CR Z _ SQ SR
  rw [sameB_self] at hc
  refine hc.mono ?_
  clear hc
  rintro e W10 ⟨rfl, k10⟩
  clear SQ SR
  have w0' := w0.below k10
  clear w0
  have w0 := w0'
  clear w0'
  have w1' := w1.below k10
  clear w1
  have w1 := w1'
  clear w1'
  have w2' := w2.below k10
  clear w2
  have w2 := w2'
  clear w2'
  have w3' := w3.below k10
  clear w3
  have w3 := w3'
  clear w3'
  have kb' := kb.trans (k10.mono kb.size)
  clear kb k10
  have kb := kb'
  clear kb'
  go_wp2_with fail
  go_ret
  exact ⟨by first | rfl | simp, kb⟩

theorem walk (a0 : Option Addr) (cap0 : Nat) (l0 : List Pr) (a1 : Option Addr) (cap1 : Nat) (l1 : List Pr) (a2 : Option Addr) (cap2 : Nat) (l2 : List Pr) (a3 : Option Addr) (cap3 : Nat) (l3 : List Pr) (w : World) (w0 : SlR E w a0 cap0 l0) (g0 : ∀ x ∈ l0, OpenP.Good x) (w1 : SlR E w a1 cap1 l1) (g1 : ∀ x ∈ l1, OpenP.Good x) (w2 : SlR E w a2 cap2 l2) (g2 : ∀ x ∈ l2, OpenP.Good x) (w3 : SlR E w a3 cap3 l3) (g3 : ∀ x ∈ l3, OpenP.Good x) :
    Calls Try.prog 8 #[.slice a0 l0.length cap0, .slice a1 l1.length cap1, .slice a2 l2.length cap2, .slice a3 l3.length cap3] w fun e w' => e = .returned (.bool true) ∧ Below w.heap.size w w' := by
  cases x0 : fewB l0 with
  | false => exact out a0 cap0 l0 a1 cap1 l1 a2 cap2 l2 a3 cap3 l3 w w0 g0 w1 g1 w2 g2 w3 g3 _ _ _ _ x0 rfl rfl rfl (.inl rfl)
  | true =>
    cases x1 : fewB l1 with
    | false => exact out a0 cap0 l0 a1 cap1 l1 a2 cap2 l2 a3 cap3 l3 w w0 g0 w1 g1 w2 g2 w3 g3 _ _ _ _ x0 x1 rfl rfl (.inr (.inl ⟨rfl, rfl⟩))
    | true =>
      cases x2 : fewB l2 with
      | false => exact out a0 cap0 l0 a1 cap1 l1 a2 cap2 l2 a3 cap3 l3 w w0 g0 w1 g1 w2 g2 w3 g3 _ _ _ _ x0 x1 x2 rfl (.inr (.inr (.inl ⟨rfl, rfl, rfl⟩)))
      | true =>
        cases x3 : fewB l3 with
        | false => exact out a0 cap0 l0 a1 cap1 l1 a2 cap2 l2 a3 cap3 l3 w w0 g0 w1 g1 w2 g2 w3 g3 _ _ _ _ x0 x1 x2 x3 (.inr (.inr (.inr (⟨rfl, rfl, rfl, rfl⟩))))
        | true =>
          cases m0 : mayP l0 with
          | false => exact outm0 a0 cap0 l0 a1 cap1 l1 a2 cap2 l2 a3 cap3 l3 w w0 g0 w1 g1 w2 g2 w3 g3 x0 x1 x2 x3 m0
          | true =>
            cases m1 : mayP l1 with
            | false => exact outm1 a0 cap0 l0 a1 cap1 l1 a2 cap2 l2 a3 cap3 l3 w w0 g0 w1 g1 w2 g2 w3 g3 x0 x1 x2 x3 m0 m1
            | true =>
              cases m2 : mayP l2 with
              | false => exact outm2 a0 cap0 l0 a1 cap1 l1 a2 cap2 l2 a3 cap3 l3 w w0 g0 w1 g1 w2 g2 w3 g3 x0 x1 x2 x3 m0 m1 m2
              | true =>
                cases m3 : mayP l3 with
                | false => exact outm3 a0 cap0 l0 a1 cap1 l1 a2 cap2 l2 a3 cap3 l3 w w0 g0 w1 g1 w2 g2 w3 g3 x0 x1 x2 x3 m0 m1 m2 m3
                | true =>
                  exact within a0 cap0 l0 a1 cap1 l1 a2 cap2 l2 a3 cap3 l3 w w0 g0 w1 g1 w2 g2 w3 g3 x0 x1 x2 x3 m0 m1 m2 m3

theorem own : ownKnob Try.prog.godebug = none := by kernel_rfl
theorem laidOut : laidOutB Try.prog = true := by kernel_rfl
set_option linter.unusedVariables false in
set_option maxRecDepth 100000 in
theorem lifted (os : Os) (started : os.Started) (H : Type) (enc : TypeId × Value → H) :
    ReturnsInHanded {} Try.checked os 8 .any (Rows.pairThreeSpec.pre6 enc Try.prog Try.f8 Rows.pairThreeRow.domain false) (Rows.pairThreeSpec.post enc Try.prog Try.f8 false true false false) := by
  refine returnsInHanded_of_change (C := Try.checked) own started (by kernel_rfl) Try.func8
    (ChangeSpec.witness6 (enc := enc) (C := Try.checked) false ⟨#[], #[.slice none 0 0, .slice none 0 0, .slice none 0 0, .slice none 0 0], []⟩ 8 (by kernel_rfl) (by kernel_rfl) (by kernel_rfl) (by kernel_rfl)) ?_
  intro W base args ds gs before hval0 hW hcnd _
  have hval : ∀ (j : Nat) t v, Try.f8.params[j]? = some t → args[j]? = some v → Value.okWide Try.prog W .any base t v := hval0
  have hW' := hW
  obtain ⟨p, q, hA0, hV, rfl, hfz, hnd⟩ := hW
  have hA : DataW.TrodAll enc Try.prog W 0 (fun _ => true) true Try.f8.params.toList args.toList ds p := hA0
  rw [Try.params8] at hA hval
  obtain ⟨v0, vs0, d0, ds0, p0, q0, hargs, rfl, rfl, h0, r0⟩ := trodAll_cons hA
  obtain ⟨v1, vs1, d1, ds1, p1, q1, rfl, rfl, rfl, h1, r1⟩ := trodAll_cons r0
  obtain ⟨v2, vs2, d2, ds2, p2, q2, rfl, rfl, rfl, h2, r2⟩ := trodAll_cons r1
  obtain ⟨v3, vs3, d3, ds3, p3, q3, rfl, rfl, rfl, h3, r3⟩ := trodAll_cons r2
  obtain ⟨rfl, rfl, rfl⟩ := trodAll_nil r3
  obtain rfl : args = #[v0, v1, v2, v3] := by cases args; simp_all
  obtain ⟨rfl, rfl⟩ := trodVars_none hV
  have k0 := h0
  have lt0 : ∀ x ∈ p0, x.block < W.heap.size := by obtain ⟨m, hm⟩ := k0; exact DataW.trod_lt m _ _ _ hm
  obtain ⟨a0, cap0, l0, rfl, w0, g0⟩ := OpenP.open_pairs (hval 0 22 v0 rfl rfl) h0
  have k1 := h1
  have lt1 : ∀ x ∈ p1, x.block < W.heap.size := by obtain ⟨m, hm⟩ := k1; exact DataW.trod_lt m _ _ _ hm
  obtain ⟨a1, cap1, l1, rfl, w1, g1⟩ := OpenP.open_pairs (hval 1 22 v1 rfl rfl) h1
  have k2 := h2
  have lt2 : ∀ x ∈ p2, x.block < W.heap.size := by obtain ⟨m, hm⟩ := k2; exact DataW.trod_lt m _ _ _ hm
  obtain ⟨a2, cap2, l2, rfl, w2, g2⟩ := OpenP.open_pairs (hval 2 22 v2 rfl rfl) h2
  have k3 := h3
  have lt3 : ∀ x ∈ p3, x.block < W.heap.size := by obtain ⟨m, hm⟩ := k3; exact DataW.trod_lt m _ _ _ hm
  obtain ⟨a3, cap3, l3, rfl, w3, g3⟩ := OpenP.open_pairs (hval 3 22 v3 rfl rfl) h3
  clear hA0 hval0
  refine (walk a0 cap0 l0 a1 cap1 l1 a2 cap2 l2 a3 cap3 l3 W w0 g0 w1 g1 w2 g2 w3 g3).mono fun e W' ⟨he, bel⟩ => ?_
  subst he
  exact ⟨_, rfl, _, _, _, [], _, [], hW', trodAll_mk1 (shut_bool Try.underlying4 _), (trodAll_cons_mk (Below.trod laidOut (by kernel_rfl) (of_decide_eq_true (by kernel_rfl)) k0 bel lt0) (trodAll_cons_mk (Below.trod laidOut (by kernel_rfl) (of_decide_eq_true (by kernel_rfl)) k1 bel lt1) (trodAll_cons_mk (Below.trod laidOut (by kernel_rfl) (of_decide_eq_true (by kernel_rfl)) k2 bel lt2) (trodAll_cons_mk (Below.trod laidOut (by kernel_rfl) (of_decide_eq_true (by kernel_rfl)) k3 bel lt3) trodAll_mk0)))), rfl, bel.frame _, fun h => by cases h⟩

theorem over : Rows.pairThreeRow.holds Try.pinned (OpenSpec.ofChange Rows.pairThreeSpec) :=
  OpenClaim.holds_of_wide 8 Try.f8 rfl rfl rfl rfl rfl rfl rfl ⟨rfl, rfl, rfl, rfl, rfl⟩ rfl rfl rfl rfl rfl (by kernel_rfl) Try.func8 (by kernel_rfl)
    (of_decide_eq_true (by kernel_rfl)) (by unfold Func.isWrapper; first | (rw [if_pos (by decide +kernel)]; kernel_rfl) | (rw [if_neg (by decide +kernel)]; exact ⟨rfl, rfl⟩))
    (fun os started H enc _ => lifted os started H enc)

theorem proved : Rows.PairThreeSaid := over
end Go.Proofs.Ytcodipgooofppaa.pairThree
