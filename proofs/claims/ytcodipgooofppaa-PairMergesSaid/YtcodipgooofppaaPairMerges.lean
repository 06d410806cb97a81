/- PairMerges returns true for every input: what is merged does not hang on which one is which; with the base as one of both it is the other one; a pair is there only if one has it. No condition. -/
import Derived.Test.YtcodipgooofppaaPairA
import Derived.Test.YtcodipgooofppaaRowF
import Derived.Test.YtcodipgooofppaaRowK
import Derived.ShutString
import Derived.ChangeOld
namespace Go.Proofs.Ytcodipgooofppaa.pairMerges
open Go Go.ChangeShapes Go.WideShapes Go.ChangeAt Go.RowKit Byt OpsM Rise PairM PairN RowS RowB PairW PairS PairG PairQ PairU Txt PairX PairA

set_option maxRecDepth 100000 in
set_option maxHeartbeats 8000000 in
theorem out (a0 : Option Addr) (cap0 : Nat) (l0 : List Pr) (a1 : Option Addr) (cap1 : Nat) (l1 : List Pr) (a2 : Option Addr) (cap2 : Nat) (l2 : List Pr) (w : World) (w0 : SlR E w a0 cap0 l0) (g0 : ∀ x ∈ l0, OpenP.Good x) (w1 : SlR E w a1 cap1 l1) (g1 : ∀ x ∈ l1, OpenP.Good x) (w2 : SlR E w a2 cap2 l2) (g2 : ∀ x ∈ l2, OpenP.Good x) (b0 : Bool) (b1 : Bool) (b2 : Bool) (x0 : fewB l0 = b0) (x1 : fewB l1 = b1) (x2 : fewB l2 = b2) (h : (b0 = false) ∨ (b0 = true ∧ b1 = false) ∨ (b0 = true ∧ b1 = true ∧ b2 = false)) :
    Calls Try.prog 5 #[.slice a0 l0.length cap0, .slice a1 l1.length cap1, .slice a2 l2.length cap2] w fun e w' => e = .returned (.bool true) ∧ Below w.heap.size w w' := by
  rcases h with rfl | ⟨rfl, rfl⟩ | ⟨rfl, rfl, rfl⟩
  all_goals
    go_enter Try.func5, Try.ntmps5
    go_wp2_with fail
    refine (awake _).mono ?_
    rintro e W1 ⟨rfl, k1⟩
    have w0' := w0.below k1
    clear w0
    have w0 := w0'
    clear w0'
    have w1' := w1.below k1
    clear w1
    have w1 := w1'
    clear w1'
    have w2' := w2.below k1
    clear w2
    have w2 := w2'
    clear w2'
    have kb := k1
    clear k1
    go_wp2_with fail
    have hc := few_ret a0 cap0 l0 _ w0 (max_of g0)
    rw [x0] at hc
    refine hc.mono ?_
    clear hc
    rintro e w' ⟨rfl, rfl⟩
    go_wp2_with fail
    have hc := few_ret a1 cap1 l1 _ w1 (max_of g1)
    rw [x1] at hc
    refine hc.mono ?_
    clear hc
    rintro e w' ⟨rfl, rfl⟩
    go_wp2_with fail
    have hc := few_ret a2 cap2 l2 _ w2 (max_of g2)
    rw [x2] at hc
    refine hc.mono ?_
    clear hc
    rintro e w' ⟨rfl, rfl⟩
    go_wp2_with fail
    go_ret
    exact ⟨by first | rfl | simp, kb⟩

set_option maxRecDepth 100000 in
set_option maxHeartbeats 8000000 in
theorem outm0 (a0 : Option Addr) (cap0 : Nat) (l0 : List Pr) (a1 : Option Addr) (cap1 : Nat) (l1 : List Pr) (a2 : Option Addr) (cap2 : Nat) (l2 : List Pr) (w : World) (w0 : SlR E w a0 cap0 l0) (g0 : ∀ x ∈ l0, OpenP.Good x) (w1 : SlR E w a1 cap1 l1) (g1 : ∀ x ∈ l1, OpenP.Good x) (w2 : SlR E w a2 cap2 l2) (g2 : ∀ x ∈ l2, OpenP.Good x) (x0 : fewB l0 = true) (x1 : fewB l1 = true) (x2 : fewB l2 = true) (m0 : mayP l0 = false) :
    Calls Try.prog 5 #[.slice a0 l0.length cap0, .slice a1 l1.length cap1, .slice a2 l2.length cap2] w fun e w' => e = .returned (.bool true) ∧ Below w.heap.size w w' := by
  have y0 := few_len x0
  have f0 := few_fits x0 g0
  have X0 := aside x0
  have y1 := few_len x1
  have f1 := few_fits x1 g1
  have X1 := aside x1
  have y2 := few_len x2
  have f2 := few_fits x2 g2
  have X2 := aside x2
  have M0 := aside m0
  clear x0 x1 x2 m0
  go_enter Try.func5, Try.ntmps5
  go_wp2_with fail
  refine (awake _).mono ?_
  rintro e W1 ⟨rfl, k1⟩
  have w0' := w0.below k1
  clear w0
  have w0 := w0'
  clear w0'
  have w1' := w1.below k1
  clear w1
  have w1 := w1'
  clear w1'
  have w2' := w2.below k1
  clear w2
  have w2 := w2'
  clear w2'
  have kb := k1
  clear k1
  go_wp2_with fail
  have hc := few_ret a0 cap0 l0 _ w0 (max_of g0)
  rw [X0.out] at hc
  refine hc.mono ?_
  clear hc
  rintro e w' ⟨rfl, rfl⟩
  go_wp2_with fail
  have hc := few_ret a1 cap1 l1 _ w1 (max_of g1)
  rw [X1.out] at hc
  refine hc.mono ?_
  clear hc
  rintro e w' ⟨rfl, rfl⟩
  go_wp2_with fail
  have hc := few_ret a2 cap2 l2 _ w2 (max_of g2)
  rw [X2.out] at hc
  refine hc.mono ?_
  clear hc
  rintro e w' ⟨rfl, rfl⟩
  go_wp2_with fail
  have hc := PairD.may_ret a0 cap0 l0 _ w0 f0 (by omega)
  rw [M0.out] at hc
  refine hc.mono ?_
  clear hc
  rintro e W2 ⟨rfl, k2⟩
  have w0' := w0.below k2
  clear w0
  have w0 := w0'
  clear w0'
  have w1' := w1.below k2
  clear w1
  have w1 := w1'
  clear w1'
  have w2' := w2.below k2
  clear w2
  have w2 := w2'
  clear w2'
  have kb' := kb.trans (k2.mono kb.size)
  clear kb k2
  have kb := kb'
  clear kb'
  go_wp2_with fail
  go_ret
  exact ⟨by first | rfl | simp, kb⟩

set_option maxRecDepth 100000 in
set_option maxHeartbeats 8000000 in
theorem outm1 (a0 : Option Addr) (cap0 : Nat) (l0 : List Pr) (a1 : Option Addr) (cap1 : Nat) (l1 : List Pr) (a2 : Option Addr) (cap2 : Nat) (l2 : List Pr) (w : World) (w0 : SlR E w a0 cap0 l0) (g0 : ∀ x ∈ l0, OpenP.Good x) (w1 : SlR E w a1 cap1 l1) (g1 : ∀ x ∈ l1, OpenP.Good x) (w2 : SlR E w a2 cap2 l2) (g2 : ∀ x ∈ l2, OpenP.Good x) (x0 : fewB l0 = true) (x1 : fewB l1 = true) (x2 : fewB l2 = true) (m0 : mayP l0 = true) (m1 : mayP l1 = false) :
    Calls Try.prog 5 #[.slice a0 l0.length cap0, .slice a1 l1.length cap1, .slice a2 l2.length cap2] w fun e w' => e = .returned (.bool true) ∧ Below w.heap.size w w' := by
  have y0 := few_len x0
  have f0 := few_fits x0 g0
  have X0 := aside x0
  have y1 := few_len x1
  have f1 := few_fits x1 g1
  have X1 := aside x1
  have y2 := few_len x2
  have f2 := few_fits x2 g2
  have X2 := aside x2
  have M0 := aside m0
  have M1 := aside m1
  clear x0 x1 x2 m0 m1
  go_enter Try.func5, Try.ntmps5
  go_wp2_with fail
  refine (awake _).mono ?_
  rintro e W1 ⟨rfl, k1⟩
  have w0' := w0.below k1
  clear w0
  have w0 := w0'
  clear w0'
  have w1' := w1.below k1
  clear w1
  have w1 := w1'
  clear w1'
  have w2' := w2.below k1
  clear w2
  have w2 := w2'
  clear w2'
  have kb := k1
  clear k1
  go_wp2_with fail
  have hc := few_ret a0 cap0 l0 _ w0 (max_of g0)
  rw [X0.out] at hc
  refine hc.mono ?_
  clear hc
  rintro e w' ⟨rfl, rfl⟩
  go_wp2_with fail
  have hc := few_ret a1 cap1 l1 _ w1 (max_of g1)
  rw [X1.out] at hc
  refine hc.mono ?_
  clear hc
  rintro e w' ⟨rfl, rfl⟩
  go_wp2_with fail
  have hc := few_ret a2 cap2 l2 _ w2 (max_of g2)
  rw [X2.out] at hc
  refine hc.mono ?_
  clear hc
  rintro e w' ⟨rfl, rfl⟩
  go_wp2_with fail
  have hc := PairD.may_ret a0 cap0 l0 _ w0 f0 (by omega)
  rw [M0.out] at hc
  refine hc.mono ?_
  clear hc
  rintro e W2 ⟨rfl, k2⟩
  have w0' := w0.below k2
  clear w0
  have w0 := w0'
  clear w0'
  have w1' := w1.below k2
  clear w1
  have w1 := w1'
  clear w1'
  have w2' := w2.below k2
  clear w2
  have w2 := w2'
  clear w2'
  have kb' := kb.trans (k2.mono kb.size)
  clear kb k2
  have kb := kb'
  clear kb'
  go_wp2_with fail
  have hc := PairD.may_ret a1 cap1 l1 _ w1 f1 (by omega)
  rw [M1.out] at hc
  refine hc.mono ?_
  clear hc
  rintro e W3 ⟨rfl, k3⟩
  have w0' := w0.below k3
  clear w0
  have w0 := w0'
  clear w0'
  have w1' := w1.below k3
  clear w1
  have w1 := w1'
  clear w1'
  have w2' := w2.below k3
  clear w2
  have w2 := w2'
  clear w2'
  have kb' := kb.trans (k3.mono kb.size)
  clear kb k3
  have kb := kb'
  clear kb'
  go_wp2_with fail
  go_ret
  exact ⟨by first | rfl | simp, kb⟩

set_option maxRecDepth 100000 in
set_option maxHeartbeats 8000000 in
theorem outm2 (a0 : Option Addr) (cap0 : Nat) (l0 : List Pr) (a1 : Option Addr) (cap1 : Nat) (l1 : List Pr) (a2 : Option Addr) (cap2 : Nat) (l2 : List Pr) (w : World) (w0 : SlR E w a0 cap0 l0) (g0 : ∀ x ∈ l0, OpenP.Good x) (w1 : SlR E w a1 cap1 l1) (g1 : ∀ x ∈ l1, OpenP.Good x) (w2 : SlR E w a2 cap2 l2) (g2 : ∀ x ∈ l2, OpenP.Good x) (x0 : fewB l0 = true) (x1 : fewB l1 = true) (x2 : fewB l2 = true) (m0 : mayP l0 = true) (m1 : mayP l1 = true) (m2 : mayP l2 = false) :
    Calls Try.prog 5 #[.slice a0 l0.length cap0, .slice a1 l1.length cap1, .slice a2 l2.length cap2] w fun e w' => e = .returned (.bool true) ∧ Below w.heap.size w w' := by
  have y0 := few_len x0
  have f0 := few_fits x0 g0
  have X0 := aside x0
  have y1 := few_len x1
  have f1 := few_fits x1 g1
  have X1 := aside x1
  have y2 := few_len x2
  have f2 := few_fits x2 g2
  have X2 := aside x2
  have M0 := aside m0
  have M1 := aside m1
  have M2 := aside m2
  clear x0 x1 x2 m0 m1 m2
  go_enter Try.func5, Try.ntmps5
  go_wp2_with fail
  refine (awake _).mono ?_
  rintro e W1 ⟨rfl, k1⟩
  have w0' := w0.below k1
  clear w0
  have w0 := w0'
  clear w0'
  have w1' := w1.below k1
  clear w1
  have w1 := w1'
  clear w1'
  have w2' := w2.below k1
  clear w2
  have w2 := w2'
  clear w2'
  have kb := k1
  clear k1
  go_wp2_with fail
  have hc := few_ret a0 cap0 l0 _ w0 (max_of g0)
  rw [X0.out] at hc
  refine hc.mono ?_
  clear hc
  rintro e w' ⟨rfl, rfl⟩
  go_wp2_with fail
  have hc := few_ret a1 cap1 l1 _ w1 (max_of g1)
  rw [X1.out] at hc
  refine hc.mono ?_
  clear hc
  rintro e w' ⟨rfl, rfl⟩
  go_wp2_with fail
  have hc := few_ret a2 cap2 l2 _ w2 (max_of g2)
  rw [X2.out] at hc
  refine hc.mono ?_
  clear hc
  rintro e w' ⟨rfl, rfl⟩
  go_wp2_with fail
  have hc := PairD.may_ret a0 cap0 l0 _ w0 f0 (by omega)
  rw [M0.out] at hc
  refine hc.mono ?_
  clear hc
  rintro e W2 ⟨rfl, k2⟩
  have w0' := w0.below k2
  clear w0
  have w0 := w0'
  clear w0'
  have w1' := w1.below k2
  clear w1
  have w1 := w1'
  clear w1'
  have w2' := w2.below k2
  clear w2
  have w2 := w2'
  clear w2'
  have kb' := kb.trans (k2.mono kb.size)
  clear kb k2
  have kb := kb'
  clear kb'
  go_wp2_with fail
  have hc := PairD.may_ret a1 cap1 l1 _ w1 f1 (by omega)
  rw [M1.out] at hc
  refine hc.mono ?_
  clear hc
  rintro e W3 ⟨rfl, k3⟩
  have w0' := w0.below k3
  clear w0
  have w0 := w0'
  clear w0'
  have w1' := w1.below k3
  clear w1
  have w1 := w1'
  clear w1'
  have w2' := w2.below k3
  clear w2
  have w2 := w2'
  clear w2'
  have kb' := kb.trans (k3.mono kb.size)
  clear kb k3
  have kb := kb'
  clear kb'
  go_wp2_with fail
  have hc := PairD.may_ret a2 cap2 l2 _ w2 f2 (by omega)
  rw [M2.out] at hc
  refine hc.mono ?_
  clear hc
  rintro e W4 ⟨rfl, k4⟩
  have w0' := w0.below k4
  clear w0
  have w0 := w0'
  clear w0'
  have w1' := w1.below k4
  clear w1
  have w1 := w1'
  clear w1'
  have w2' := w2.below k4
  clear w2
  have w2 := w2'
  clear w2'
  have kb' := kb.trans (k4.mono kb.size)
  clear kb k4
  have kb := kb'
  clear kb'
  go_wp2_with fail
  go_ret
  exact ⟨by first | rfl | simp, kb⟩

set_option maxRecDepth 100000 in
set_option maxHeartbeats 32000000 in
theorem within (a0 : Option Addr) (cap0 : Nat) (l0 : List Pr) (a1 : Option Addr) (cap1 : Nat) (l1 : List Pr) (a2 : Option Addr) (cap2 : Nat) (l2 : List Pr) (w : World) (w0 : SlR E w a0 cap0 l0) (g0 : ∀ x ∈ l0, OpenP.Good x) (w1 : SlR E w a1 cap1 l1) (g1 : ∀ x ∈ l1, OpenP.Good x) (w2 : SlR E w a2 cap2 l2) (g2 : ∀ x ∈ l2, OpenP.Good x) (x0 : fewB l0 = true) (x1 : fewB l1 = true) (x2 : fewB l2 = true) (m0 : mayP l0 = true) (m1 : mayP l1 = true) (m2 : mayP l2 = true) :
    Calls Try.prog 5 #[.slice a0 l0.length cap0, .slice a1 l1.length cap1, .slice a2 l2.length cap2] w fun e w' => e = .returned (.bool true) ∧ Below w.heap.size w w' := by
  have y0 := few_len x0
  have f0 := few_fits x0 g0
  have X0 := aside x0
  have y1 := few_len x1
  have f1 := few_fits x1 g1
  have X1 := aside x1
  have y2 := few_len x2
  have f2 := few_fits x2 g2
  have X2 := aside x2
  have r1 := merge_length m0 m1 m2
  have q1 := merge_fits (base := l0) f1 f2
  have e1 := merge_turn m0 m1 m2
  have e2 := merge_one m0 m2
  have e3 := merge_self m0 m1
  have mm := merge_may m0 m1 m2
  have hin : ∀ x, x ∈ mergeP l0 l1 l2 → x ∈ l1 ∨ x ∈ l2 := fun x hx => by
    rw [merge_mem m0 m1 m2] at hx
    rcases hx with h | h
    · exact .inl h.1
    · exact .inr h.1
  obtain ⟨M, hM⟩ : ∃ l, mergeP l0 l1 l2 = l := ⟨_, rfl⟩
  rw [hM] at r1 q1 e1 mm hin
  have HM := aside hM
  have E1 := aside e1.symm
  have E2 := aside e2
  have E3 := aside e3
  have MM := aside mm
  have HIN := aside hin
  have M0 := aside m0
  have M1 := aside m1
  have M2 := aside m2
  clear x0 m0 x1 m1 x2 m2 e1 e2 e3 mm hin hM
  go_enter Try.func5, Try.ntmps5
  go_wp2_with fail
  refine (awake _).mono ?_
  rintro e W1 ⟨rfl, k1⟩
  have w0' := w0.below k1
  clear w0
  have w0 := w0'
  clear w0'
  have w1' := w1.below k1
  clear w1
  have w1 := w1'
  clear w1'
  have w2' := w2.below k1
  clear w2
  have w2 := w2'
  clear w2'
  have kb := k1
  clear k1
  go_wp2_with fail
  have hc := few_ret a0 cap0 l0 _ w0 (max_of g0)
  rw [X0.out] at hc
  refine hc.mono ?_
  clear hc
  rintro e w' ⟨rfl, rfl⟩
  go_wp2_with fail
  have hc := few_ret a1 cap1 l1 _ w1 (max_of g1)
  rw [X1.out] at hc
  refine hc.mono ?_
  clear hc
  rintro e w' ⟨rfl, rfl⟩
  go_wp2_with fail
  have hc := few_ret a2 cap2 l2 _ w2 (max_of g2)
  rw [X2.out] at hc
  refine hc.mono ?_
  clear hc
  rintro e w' ⟨rfl, rfl⟩
  go_wp2_with fail
  have hc := PairD.may_ret a0 cap0 l0 _ w0 f0 (by omega)
  rw [M0.out] at hc
  refine hc.mono ?_
  clear hc
  rintro e W2 ⟨rfl, k2⟩
  have w0' := w0.below k2
  clear w0
  have w0 := w0'
  clear w0'
  have w1' := w1.below k2
  clear w1
  have w1 := w1'
  clear w1'
  have w2' := w2.below k2
  clear w2
  have w2 := w2'
  clear w2'
  have kb' := kb.trans (k2.mono kb.size)
  clear kb k2
  have kb := kb'
  clear kb'
  go_wp2_with fail
  have hc := PairD.may_ret a1 cap1 l1 _ w1 f1 (by omega)
  rw [M1.out] at hc
  refine hc.mono ?_
  clear hc
  rintro e W3 ⟨rfl, k3⟩
  have w0' := w0.below k3
  clear w0
  have w0 := w0'
  clear w0'
  have w1' := w1.below k3
  clear w1
  have w1 := w1'
  clear w1'
  have w2' := w2.below k3
  clear w2
  have w2 := w2'
  clear w2'
  have kb' := kb.trans (k3.mono kb.size)
  clear kb k3
  have kb := kb'
  clear kb'
  go_wp2_with fail
  have hc := PairD.may_ret a2 cap2 l2 _ w2 f2 (by omega)
  rw [M2.out] at hc
  refine hc.mono ?_
  clear hc
  rintro e W4 ⟨rfl, k4⟩
  have w0' := w0.below k4
  clear w0
  have w0 := w0'
  clear w0'
  have w1' := w1.below k4
  clear w1
  have w1 := w1'
  clear w1'
  have w2' := w2.below k4
  clear w2
  have w2 := w2'
  clear w2'
  have kb' := kb.trans (k4.mono kb.size)
  clear kb k4
  have kb := kb'
  clear kb'
  go_wp2_with fail
  have hc := PairD.merge_ret a0 cap0 l0 a1 cap1 l1 a2 cap2 l2 _ w0 w1 w2 f0 f1 f2 (by omega) (by omega) (by omega)
  rw [HM.out] at hc
  refine hc.mono ?_
  clear hc
  rintro e W5 ⟨AM, CM, rfl, SM, k5⟩
  have w0' := w0.below k5
  clear w0
  have w0 := w0'
  clear w0'
  have w1' := w1.below k5
  clear w1
  have w1 := w1'
  clear w1'
  have w2' := w2.below k5
  clear w2
  have w2 := w2'
  clear w2'
  have kb' := kb.trans (k5.mono kb.size)
  clear kb k5
  have kb := kb'
  clear kb'
  go_wp2_with fail
  have hc := PairD.merge_ret a0 cap0 l0 a2 cap2 l2 a1 cap1 l1 _ w0 w2 w1 f0 f2 f1 (by omega) (by omega) (by omega)
  rw [E1.out] at hc
  refine hc.mono ?_
  clear hc
  rintro e W6 ⟨AT, CT, rfl, ST, k6⟩
  have w0' := w0.below k6
  clear w0
  have w0 := w0'
  clear w0'
  have w1' := w1.below k6
  clear w1
  have w1 := w1'
  clear w1'
  have w2' := w2.below k6
  clear w2
  have w2 := w2'
  clear w2'
  have SM' := SM.below k6
  clear SM
  have SM := SM'
  clear SM'
  have kb' := kb.trans (k6.mono kb.size)
  clear kb k6
  have kb := kb'
  clear kb'
  go_wp2_with fail
  have hc := same_ret AM CM M AT CT M _ SM ST
  rw [sameB_self] at hc
  refine hc.mono ?_
  clear hc
  rintro e W7 ⟨rfl, k7⟩
  clear ST
  have w0' := w0.below k7
  clear w0
  have w0 := w0'
  clear w0'
  have w1' := w1.below k7
  clear w1
  have w1 := w1'
  clear w1'
  have w2' := w2.below k7
  clear w2
  have w2 := w2'
  clear w2'
  have SM' := SM.below k7
  clear SM
  have SM := SM'
  clear SM'
  have kb' := kb.trans (k7.mono kb.size)
  clear kb k7
  have kb := kb'
  clear kb'
  go_wp2_with fail
  have hc := PairD.merge_ret a0 cap0 l0 a0 cap0 l0 a2 cap2 l2 _ w0 w0 w2 f0 f0 f2 (by omega) (by omega) (by omega)
  rw [E2.out] at hc
  refine hc.mono ?_
  clear hc
  rintro e W8 ⟨AT, CT, rfl, ST, k8⟩
  have w0' := w0.below k8
  clear w0
  have w0 := w0'
  clear w0'
  have w1' := w1.below k8
  clear w1
  have w1 := w1'
  clear w1'
  have w2' := w2.below k8
  clear w2
  have w2 := w2'
  clear w2'
  have SM' := SM.below k8
  clear SM
  have SM := SM'
  clear SM'
  have kb' := kb.trans (k8.mono kb.size)
  clear kb k8
  have kb := kb'
  clear kb'
  go_wp2_with fail
  have hc := same_ret AT CT l2 a2 cap2 l2 _ ST w2
  rw [sameB_self] at hc
  refine hc.mono ?_
  clear hc
  rintro e W9 ⟨rfl, k9⟩
  clear ST
  have w0' := w0.below k9
  clear w0
  have w0 := w0'
  clear w0'
  have w1' := w1.below k9
  clear w1
  have w1 := w1'
  clear w1'
  have w2' := w2.below k9
  clear w2
  have w2 := w2'
  clear w2'
  have SM' := SM.below k9
  clear SM
  have SM := SM'
  clear SM'
  have kb' := kb.trans (k9.mono kb.size)
  clear kb k9
  have kb := kb'
  clear kb'
  go_wp2_with fail
  have hc := PairD.merge_ret a0 cap0 l0 a1 cap1 l1 a1 cap1 l1 _ w0 w1 w1 f0 f1 f1 (by omega) (by omega) (by omega)
  rw [E3.out] at hc
  refine hc.mono ?_
  clear hc
  rintro e W10 ⟨AT, CT, rfl, ST, k10⟩
  have w0' := w0.below k10
  clear w0
  have w0 := w0'
  clear w0'
  have w1' := w1.below k10
  clear w1
  have w1 := w1'
  clear w1'
  have w2' := w2.below k10
  clear w2
  have w2 := w2'
  clear w2'
  have SM' := SM.below k10
  clear SM
  have SM := SM'
  clear SM'
  have kb' := kb.trans (k10.mono kb.size)
  clear kb k10
  have kb := kb'
  clear kb'
  go_wp2_with fail
  have hc := same_ret AT CT l1 a1 cap1 l1 _ ST w1
  rw [sameB_self] at hc
  refine hc.mono ?_
  clear hc
  rintro e W11 ⟨rfl, k11⟩
  clear ST
  have w0' := w0.below k11
  clear w0
  have w0 := w0'
  clear w0'
  have w1' := w1.below k11
  clear w1
  have w1 := w1'
  clear w1'
  have w2' := w2.below k11
  clear w2
  have w2 := w2'
  clear w2'
  have SM' := SM.below k11
  clear SM
  have SM := SM'
  clear SM'
  have kb' := kb.trans (k11.mono kb.size)
  clear kb k11
  have kb := kb'
  clear kb'
  go_wp2_with fail
  have hc := PairD.may_ret AM CM M _ SM q1 (by omega)
  rw [MM.out] at hc
  refine hc.mono ?_
  clear hc
  rintro e W12 ⟨rfl, k12⟩
  have w0' := w0.below k12
  clear w0
  have w0 := w0'
  clear w0'
  have w1' := w1.below k12
  clear w1
  have w1 := w1'
  clear w1'
  have w2' := w2.below k12
  clear w2
  have w2 := w2'
  clear w2'
  have SM' := SM.below k12
  clear SM
  have SM := SM'
  clear SM'
  have kb' := kb.trans (k12.mono kb.size)
  clear kb k12
  have kb := kb'
  clear kb'
  go_wp2_with fail
  go_loopw [15] (fun i wr => ∃ j : Nat, j ≤ M.length ∧ i = .int .i64 j ∧ Below W12.heap.size W12 wr) (fun i _ => M.length - (intOf i).toNat)
  case atStart => exact ⟨0, Nat.zero_le _, rfl, Below.refl _ _⟩
  case round =>
    obtain ⟨j, hj, rfl, kr⟩ := hrel
    have w0' := w0.below kr
    clear w0
    have w0 := w0'
    clear w0'
    have w1' := w1.below kr
    clear w1
    have w1 := w1'
    clear w1'
    have w2' := w2.below kr
    clear w2
    have w2 := w2'
    clear w2'
    have SM' := SM.below kr
    clear SM
    have SM := SM'
    clear SM'
    have kb' := kb.trans (kr.mono kb.size)
    clear kb
    have kb := kb'
    clear kb'
    have hcap := SM.1
    by_cases hlt : j < M.length
    · obtain ⟨g, off, hAM, hbw, hr⟩ := PairW.plain SM (by omega)
      subst hAM
      obtain ⟨x, hx⟩ : ∃ x, M[j]? = some x := ⟨_, List.getElem?_eq_getElem hlt⟩
      have HX := aside (HIN.out x (List.mem_of_getElem? hx))
      have p0 : (j : Int) < M.length := by omega
      have m0 : ((j : Int)).toNat = j := by omega
      have HR : Lies E _ g (off + j * 4) x := hr j x hx
      clear hr hx
      clear w0 SM
      go_wp2_with fail
      go_loopw [16, 17] (fun v i wq => ∃ (k : Nat) (b : Bool), k ≤ l1.length ∧ i = .int .i64 k ∧ v = .bool b ∧ Hid (b = (false || decide (x ∈ l1.take k))) ∧ Below wr.heap.size wr wq) (fun _ i _ => l1.length - (intOf i).toNat)
      case atStart => exact ⟨0, false, Nat.zero_le _, rfl, rfl, aside (by simp), Below.refl _ _⟩
      case round =>
        obtain ⟨k, c1, hk1, rfl, rfl, HB1, ki⟩ := hrel
        have hcapk := w1.1
        by_cases hlk : k < l1.length
        · obtain ⟨gk, ok, hAk, _, hrk⟩ := PairW.plain w1 (by omega)
          subst hAk
          obtain ⟨y, hy⟩ : ∃ y, l1[k]? = some y := ⟨_, List.getElem?_eq_getElem hlk⟩
          have ry := aside (range_below (hrk k y hy) ki)
          have rx := aside (range_below HR.range ki)
          have q0 : (k : Int) < l1.length := by omega
          have q1 : ((k : Int)).toNat = k := by omega
          have HS := aside (in_step (B := false) (x := x) hy HB1.out)
          clear hrk hy HB1
          cases c1 with
          | true =>
            go_wp2_with fail
            go_quiet (fail)
            go_wp2
            go_roundw
            case rel => exact ⟨k + 1, true, by omega, by go_num, rfl, aside (by rw [HS.out]; rfl), below_drew ki _⟩
            case measure => simp [intOf]; omega
          | false =>
            by_cases hyx : y = x
            · have t := equal_yes hyx
              have HYX := aside hyx
              clear hyx
              go_wp2_with fail
              refine Grow.region [(0, true), (1, true), (2, true), (3, true), (4, true), (5, true), (6, true), (7, true), (8, true), (9, true), (10, true), (11, true), (12, true)] (by kernel_rfl) (by kernel_rfl) rfl (by kernel_rfl) (by intro c a d v w h; cases d <;> exact h) ?_
              have kd := below_drew1 ki
              have ry' : wr.drew.rangeAt gk (ok + k * 4) (E.enc y) := ry.out
              have rx' : wr.drew.rangeAt _ _ (E.enc x) := rx.out
              generalize wr.drew = wd at kd ry' rx' ⊢
              repeat (first | (refine Grow.reads rfl rfl ?_; go_big_quiet_want; refine RowK.quiet_row E _ rfl _ _ rfl y ry' ?_; go_big_quiet_on; refine wpQuiet_nil ?_; simp only [Act.put, List.setIfInBounds_toArray, List.set_cons_succ, List.set_cons_zero]) | (refine Grow.reads rfl rfl ?_; go_big_quiet_want; refine RowK.quiet_row E _ rfl _ _ rfl x rx' ?_; go_big_quiet_on; refine wpQuiet_nil ?_; simp only [Act.put, List.setIfInBounds_toArray, List.set_cons_succ, List.set_cons_zero]) | (refine Grow.reads rfl rfl ?_; go_big_quiet_step (fail); refine wpQuiet_nil ?_))
              refine Grow.ends ?_
              go_wp2_with fail
              go_roundw
              case rel => exact ⟨k + 1, true, by omega, by go_num, rfl, aside (by rw [HS.out, decide_eq_true HYX.out]; rfl), kd⟩
              case measure => simp [intOf]; omega
            · have t := equal_no hyx
              go_wp2_with fail
              refine Grow.region [(0, true), (1, true), (2, true), (3, true), (4, true), (5, true), (6, true), (7, true), (8, true), (9, true), (10, true), (11, true), (12, true)] (by kernel_rfl) (by kernel_rfl) rfl (by kernel_rfl) (by intro c a d v w h; cases d <;> exact h) ?_
              have kd := below_drew1 ki
              have ry' : wr.drew.rangeAt gk (ok + k * 4) (E.enc y) := ry.out
              have rx' : wr.drew.rangeAt _ _ (E.enc x) := rx.out
              generalize wr.drew = wd at kd ry' rx' ⊢
              repeat (first | (refine Grow.reads rfl rfl ?_; go_big_quiet_want; refine RowK.quiet_row E _ rfl _ _ rfl y ry' ?_; go_big_quiet_on; refine wpQuiet_nil ?_; simp only [Act.put, List.setIfInBounds_toArray, List.set_cons_succ, List.set_cons_zero]) | (refine Grow.reads rfl rfl ?_; go_big_quiet_want; refine RowK.quiet_row E _ rfl _ _ rfl x rx' ?_; go_big_quiet_on; refine wpQuiet_nil ?_; simp only [Act.put, List.setIfInBounds_toArray, List.set_cons_succ, List.set_cons_zero]) | (refine Grow.reads rfl rfl ?_; go_big_quiet_step (fail); refine wpQuiet_nil ?_))
              refine Grow.ends ?_
              go_wp2_with fail
              go_roundw
              case rel => exact ⟨k + 1, false, by omega, by go_num, rfl, aside (by rw [HS.out, decide_eq_false hyx]; rfl), kd⟩
              case measure => simp [intOf]; omega
        · have ek : k = l1.length := by omega
          have HE1 : Hid (c1 = (false || decide (x ∈ l1))) := aside (by rw [HB1.out, ek, List.take_length])
          clear HB1
          have w1' := w1.below ki
          clear w1
          have w1 := w1'
          clear w1'
          have w2' := w2.below ki
          clear w2
          have w2 := w2'
          clear w2'
          have HR' := HR.below ki
          clear HR
          have HR := HR'
          clear HR'
          have kr' := kr.trans (ki.mono kr.size)
          clear kr
          have kr := kr'
          clear kr'
          have kb' := kb.trans (ki.mono kb.size)
          clear kb ki
          have kb := kb'
          clear kb'
          clear w1
          go_wp2_with fail
          go_loopw [16, 18] (fun v i wq => ∃ (k : Nat) (b : Bool), k ≤ l2.length ∧ i = .int .i64 k ∧ v = .bool b ∧ Hid (b = (c1 || decide (x ∈ l2.take k))) ∧ Below wr.heap.size wr wq) (fun _ i _ => l2.length - (intOf i).toNat)
          case atStart => exact ⟨0, c1, Nat.zero_le _, rfl, rfl, aside (by simp), Below.refl _ _⟩
          case round =>
            obtain ⟨k, c2, hk2, rfl, rfl, HB2, ki⟩ := hrel
            have hcapk := w2.1
            by_cases hlk : k < l2.length
            · obtain ⟨gk, ok, hAk, _, hrk⟩ := PairW.plain w2 (by omega)
              subst hAk
              obtain ⟨y, hy⟩ : ∃ y, l2[k]? = some y := ⟨_, List.getElem?_eq_getElem hlk⟩
              have ry := aside (range_below (hrk k y hy) ki)
              have rx := aside (range_below HR.range ki)
              have q0 : (k : Int) < l2.length := by omega
              have q1 : ((k : Int)).toNat = k := by omega
              have HS := aside (in_step (B := c1) (x := x) hy HB2.out)
              clear hrk hy HB2
              cases c2 with
              | true =>
                go_wp2_with fail
                go_quiet (fail)
                go_wp2
                go_roundw
                case rel => exact ⟨k + 1, true, by omega, by go_num, rfl, aside (by rw [HS.out]; rfl), below_drew ki _⟩
                case measure => simp [intOf]; omega
              | false =>
                by_cases hyx : y = x
                · have t := equal_yes hyx
                  have HYX := aside hyx
                  clear hyx
                  go_wp2_with fail
                  refine Grow.region [(0, true), (1, true), (2, true), (3, true), (4, true), (5, true), (6, true), (7, true), (8, true), (9, true), (10, true), (11, true), (12, true)] (by kernel_rfl) (by kernel_rfl) rfl (by kernel_rfl) (by intro c a d v w h; cases d <;> exact h) ?_
                  have kd := below_drew1 ki
                  have ry' : wr.drew.rangeAt gk (ok + k * 4) (E.enc y) := ry.out
                  have rx' : wr.drew.rangeAt _ _ (E.enc x) := rx.out
                  generalize wr.drew = wd at kd ry' rx' ⊢
                  repeat (first | (refine Grow.reads rfl rfl ?_; go_big_quiet_want; refine RowK.quiet_row E _ rfl _ _ rfl y ry' ?_; go_big_quiet_on; refine wpQuiet_nil ?_; simp only [Act.put, List.setIfInBounds_toArray, List.set_cons_succ, List.set_cons_zero]) | (refine Grow.reads rfl rfl ?_; go_big_quiet_want; refine RowK.quiet_row E _ rfl _ _ rfl x rx' ?_; go_big_quiet_on; refine wpQuiet_nil ?_; simp only [Act.put, List.setIfInBounds_toArray, List.set_cons_succ, List.set_cons_zero]) | (refine Grow.reads rfl rfl ?_; go_big_quiet_step (fail); refine wpQuiet_nil ?_))
                  refine Grow.ends ?_
                  go_wp2_with fail
                  go_roundw
                  case rel => exact ⟨k + 1, true, by omega, by go_num, rfl, aside (by rw [HS.out, decide_eq_true HYX.out]; rfl), kd⟩
                  case measure => simp [intOf]; omega
                · have t := equal_no hyx
                  go_wp2_with fail
                  refine Grow.region [(0, true), (1, true), (2, true), (3, true), (4, true), (5, true), (6, true), (7, true), (8, true), (9, true), (10, true), (11, true), (12, true)] (by kernel_rfl) (by kernel_rfl) rfl (by kernel_rfl) (by intro c a d v w h; cases d <;> exact h) ?_
                  have kd := below_drew1 ki
                  have ry' : wr.drew.rangeAt gk (ok + k * 4) (E.enc y) := ry.out
                  have rx' : wr.drew.rangeAt _ _ (E.enc x) := rx.out
                  generalize wr.drew = wd at kd ry' rx' ⊢
                  repeat (first | (refine Grow.reads rfl rfl ?_; go_big_quiet_want; refine RowK.quiet_row E _ rfl _ _ rfl y ry' ?_; go_big_quiet_on; refine wpQuiet_nil ?_; simp only [Act.put, List.setIfInBounds_toArray, List.set_cons_succ, List.set_cons_zero]) | (refine Grow.reads rfl rfl ?_; go_big_quiet_want; refine RowK.quiet_row E _ rfl _ _ rfl x rx' ?_; go_big_quiet_on; refine wpQuiet_nil ?_; simp only [Act.put, List.setIfInBounds_toArray, List.set_cons_succ, List.set_cons_zero]) | (refine Grow.reads rfl rfl ?_; go_big_quiet_step (fail); refine wpQuiet_nil ?_))
                  refine Grow.ends ?_
                  go_wp2_with fail
                  go_roundw
                  case rel => exact ⟨k + 1, false, by omega, by go_num, rfl, aside (by rw [HS.out, decide_eq_false hyx]; rfl), kd⟩
                  case measure => simp [intOf]; omega
            · have ek : k = l2.length := by omega
              have HE2 : Hid (c2 = (c1 || decide (x ∈ l2))) := aside (by rw [HB2.out, ek, List.take_length])
              clear HB2
              have w2' := w2.below ki
              clear w2
              have w2 := w2'
              clear w2'
              have HR' := HR.below ki
              clear HR
              have HR := HR'
              clear HR'
              have kr' := kr.trans (ki.mono kr.size)
              clear kr
              have kr := kr'
              clear kr'
              have kb' := kb.trans (ki.mono kb.size)
              clear kb ki
              have kb := kb'
              clear kb'
              clear w2
              have hc : c2 = true := by
                rw [HE2.out, HE1.out]
                rcases HX.out with h | h <;> simp [h]
              subst hc
              go_wp2_with fail
              go_roundw
              case rel => exact ⟨j + 1, by omega, by go_num, kr⟩
              case measure => simp [intOf]; omega
    · have e : j = M.length := by omega
      go_wp2_with fail
      go_ret
      exact ⟨by first | rfl | simp, kb⟩

theorem walk (a0 : Option Addr) (cap0 : Nat) (l0 : List Pr) (a1 : Option Addr) (cap1 : Nat) (l1 : List Pr) (a2 : Option Addr) (cap2 : Nat) (l2 : List Pr) (w : World) (w0 : SlR E w a0 cap0 l0) (g0 : ∀ x ∈ l0, OpenP.Good x) (w1 : SlR E w a1 cap1 l1) (g1 : ∀ x ∈ l1, OpenP.Good x) (w2 : SlR E w a2 cap2 l2) (g2 : ∀ x ∈ l2, OpenP.Good x) :
    Calls Try.prog 5 #[.slice a0 l0.length cap0, .slice a1 l1.length cap1, .slice a2 l2.length cap2] w fun e w' => e = .returned (.bool true) ∧ Below w.heap.size w w' := by
  cases x0 : fewB l0 with
  | false => exact out a0 cap0 l0 a1 cap1 l1 a2 cap2 l2 w w0 g0 w1 g1 w2 g2 _ _ _ x0 rfl rfl (.inl rfl)
  | true =>
    cases x1 : fewB l1 with
    | false => exact out a0 cap0 l0 a1 cap1 l1 a2 cap2 l2 w w0 g0 w1 g1 w2 g2 _ _ _ x0 x1 rfl (.inr (.inl ⟨rfl, rfl⟩))
    | true =>
      cases x2 : fewB l2 with
      | false => exact out a0 cap0 l0 a1 cap1 l1 a2 cap2 l2 w w0 g0 w1 g1 w2 g2 _ _ _ x0 x1 x2 (.inr (.inr (⟨rfl, rfl, rfl⟩)))
      | true =>
        cases m0 : mayP l0 with
        | false => exact outm0 a0 cap0 l0 a1 cap1 l1 a2 cap2 l2 w w0 g0 w1 g1 w2 g2 x0 x1 x2 m0
        | true =>
          cases m1 : mayP l1 with
          | false => exact outm1 a0 cap0 l0 a1 cap1 l1 a2 cap2 l2 w w0 g0 w1 g1 w2 g2 x0 x1 x2 m0 m1
          | true =>
            cases m2 : mayP l2 with
            | false => exact outm2 a0 cap0 l0 a1 cap1 l1 a2 cap2 l2 w w0 g0 w1 g1 w2 g2 x0 x1 x2 m0 m1 m2
            | true =>
              exact within a0 cap0 l0 a1 cap1 l1 a2 cap2 l2 w w0 g0 w1 g1 w2 g2 x0 x1 x2 m0 m1 m2

theorem own : ownKnob Try.prog.godebug = none := by kernel_rfl
theorem laidOut : laidOutB Try.prog = true := by kernel_rfl
set_option linter.unusedVariables false in
set_option maxRecDepth 100000 in
theorem lifted (os : Os) (started : os.Started) (H : Type) (enc : TypeId × Value → H) :
    ReturnsInHanded {} Try.checked os 5 .any (Rows.pairMergesSpec.pre6 enc Try.prog Try.f5 Rows.pairMergesRow.domain false) (Rows.pairMergesSpec.post enc Try.prog Try.f5 false true false false) := by
  refine returnsInHanded_of_change (C := Try.checked) own started (by kernel_rfl) Try.func5
    (ChangeSpec.witness6 (enc := enc) (C := Try.checked) false ⟨#[], #[.slice none 0 0, .slice none 0 0, .slice none 0 0], []⟩ 8 (by kernel_rfl) (by kernel_rfl) (by kernel_rfl) (by kernel_rfl)) ?_
  intro W base args ds gs before hval0 hW hcnd _
  have hval : ∀ (j : Nat) t v, Try.f5.params[j]? = some t → args[j]? = some v → Value.okWide Try.prog W .any base t v := hval0
  have hW' := hW
  obtain ⟨p, q, hA0, hV, rfl, hfz, hnd⟩ := hW
  have hA : DataW.TrodAll enc Try.prog W 0 (fun _ => true) true Try.f5.params.toList args.toList ds p := hA0
  rw [Try.params5] at hA hval
  obtain ⟨v0, vs0, d0, ds0, p0, q0, hargs, rfl, rfl, h0, r0⟩ := trodAll_cons hA
  obtain ⟨v1, vs1, d1, ds1, p1, q1, rfl, rfl, rfl, h1, r1⟩ := trodAll_cons r0
  obtain ⟨v2, vs2, d2, ds2, p2, q2, rfl, rfl, rfl, h2, r2⟩ := trodAll_cons r1
  obtain ⟨rfl, rfl, rfl⟩ := trodAll_nil r2
  obtain rfl : args = #[v0, v1, v2] := by cases args; simp_all
  obtain ⟨rfl, rfl⟩ := trodVars_none hV
  have k0 := h0
  have lt0 : ∀ x ∈ p0, x.block < W.heap.size := by obtain ⟨m, hm⟩ := k0; exact DataW.trod_lt m _ _ _ hm
  obtain ⟨a0, cap0, l0, rfl, w0, g0⟩ := OpenP.open_pairs (hval 0 22 v0 rfl rfl) h0
  have k1 := h1
  have lt1 : ∀ x ∈ p1, x.block < W.heap.size := by obtain ⟨m, hm⟩ := k1; exact DataW.trod_lt m _ _ _ hm
  obtain ⟨a1, cap1, l1, rfl, w1, g1⟩ := OpenP.open_pairs (hval 1 22 v1 rfl rfl) h1
  have k2 := h2
  have lt2 : ∀ x ∈ p2, x.block < W.heap.size := by obtain ⟨m, hm⟩ := k2; exact DataW.trod_lt m _ _ _ hm
  obtain ⟨a2, cap2, l2, rfl, w2, g2⟩ := OpenP.open_pairs (hval 2 22 v2 rfl rfl) h2
  clear hA0 hval0
  refine (walk a0 cap0 l0 a1 cap1 l1 a2 cap2 l2 W w0 g0 w1 g1 w2 g2).mono fun e W' ⟨he, bel⟩ => ?_
  subst he
  exact ⟨_, rfl, _, _, _, [], _, [], hW', trodAll_mk1 (shut_bool Try.underlying4 _), (trodAll_cons_mk (Below.trod laidOut (by kernel_rfl) (of_decide_eq_true (by kernel_rfl)) k0 bel lt0) (trodAll_cons_mk (Below.trod laidOut (by kernel_rfl) (of_decide_eq_true (by kernel_rfl)) k1 bel lt1) (trodAll_cons_mk (Below.trod laidOut (by kernel_rfl) (of_decide_eq_true (by kernel_rfl)) k2 bel lt2) trodAll_mk0))), rfl, bel.frame _, fun h => by cases h⟩

theorem over : Rows.pairMergesRow.holds Try.pinned (OpenSpec.ofChange Rows.pairMergesSpec) :=
  OpenClaim.holds_of_wide 5 Try.f5 rfl rfl rfl rfl rfl rfl rfl ⟨rfl, rfl, rfl, rfl, rfl⟩ rfl rfl rfl rfl rfl (by kernel_rfl) Try.func5 (by kernel_rfl)
    (of_decide_eq_true (by kernel_rfl)) (by unfold Func.isWrapper; first | (rw [if_pos (by decide +kernel)]; kernel_rfl) | (rw [if_neg (by decide +kernel)]; exact ⟨rfl, rfl⟩))
    (fun os started H enc _ => lifted os started H enc)

theorem proved : Rows.PairMergesSaid := over
end Go.Proofs.Ytcodipgooofppaa.pairMerges
