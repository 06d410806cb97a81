/- PairWins returns true for every input: what one side adds, by an event that the base has not, is there, whatever the other one takes away; what one takes away, and the other one leaves, is not. No condition. -/
import Derived.Test.YtcodipgooofppaaPairA
import Derived.Test.YtcodipgooofppaaRowF
import Derived.Test.YtcodipgooofppaaRowK
import Derived.ShutString
import Derived.ChangeOld
namespace Go.Proofs.Ytcodipgooofppaa.pairWins
open Go Go.ChangeShapes Go.WideShapes Go.ChangeAt Go.RowKit Byt OpsM Rise PairM PairN RowS RowB PairW PairS PairG PairQ PairU Txt PairX PairA

set_option maxRecDepth 100000 in
set_option maxHeartbeats 8000000 in
theorem out (a0 : Option Addr) (cap0 : Nat) (l0 : List Pr) (a1 : Pr) (a2 : ByteArray) (a3 : ByteArray) (w : World) (w0 : SlR E w a0 cap0 l0) (g0 : ∀ x ∈ l0, OpenP.Good x) (g1 : OpenP.Good a1) (b0 b1 : Bool) (x0 : fewB l0 = b0) (x1 : fewB [a1] = b1) (h : b0 = false ∨ (b0 = true ∧ b1 = false)) :
    Calls Try.prog 4 #[.slice a0 l0.length cap0, .agg (pc a1), .string a2, .string a3] w fun e w' => e = .returned (.bool true) ∧ Below w.heap.size w w' := by
  rcases h with rfl | ⟨rfl, rfl⟩
  all_goals
    have B1 : Box E (w.alloc (.cells (pc a1) 26)) (w.heap.size) a1 := by exact Box.new w a1 _
    have Z1 := below_alloc w (.cells (pc a1) 26)
    have w0' := w0.below Z1
    clear w0
    have w0 := w0'
    clear w0'
    have kb : Below w.heap.size w (w.alloc (.cells (pc a1) 26)) := by go_grown
    clear Z1
    go_enter Try.func4, Try.ntmps4
    go_wp2_with fail
    refine (awake _).mono ?_
    rintro e W1 ⟨rfl, k1⟩
    have w0' := w0.below k1
    clear w0
    have w0 := w0'
    clear w0'
    have B1' := B1.below k1
    clear B1
    have B1 := B1'
    clear B1'
    have kb' := kb.trans (k1.mono kb.size)
    clear kb k1
    have kb := kb'
    clear kb'
    go_wp2_with (first | go_skip | (refine RowC.gload E _ rfl _ rfl a1 B1 rfl ?_))
    have hc := few_ret a0 cap0 l0 _ w0 (max_of g0)
    rw [x0] at hc
    refine hc.mono ?_
    clear hc
    rintro e w' ⟨rfl, rfl⟩
    go_wp2_with (first | go_skip | (refine RowC.gload E _ rfl _ rfl a1 B1 rfl ?_) | (refine RowC.glit1 E (of_decide_eq_true rfl) _ rfl a1 rfl rfl ?_; intro W2 T k2; have w0' := w0.below k2; clear w0; have w0 := w0'; clear w0'; have B1' := B1.below k2; clear B1; have B1 := B1'; clear B1'; have kb' := kb.trans (k2.mono kb.size); clear kb k2; have kb := kb'; clear kb'))
    have hc := few_ret _ _ [a1] _ T (max_of (one_of g1))
    rw [x1] at hc
    refine hc.mono ?_
    clear hc
    rintro e w' ⟨rfl, rfl⟩
    clear T
    go_wp2_with (first | go_skip | (refine RowC.gload E _ rfl _ rfl a1 B1 rfl ?_))
    go_ret
    exact ⟨by first | rfl | simp, kb⟩

set_option maxRecDepth 100000 in
set_option maxHeartbeats 8000000 in
theorem outm0 (a0 : Option Addr) (cap0 : Nat) (l0 : List Pr) (a1 : Pr) (a2 : ByteArray) (a3 : ByteArray) (w : World) (w0 : SlR E w a0 cap0 l0) (g0 : ∀ x ∈ l0, OpenP.Good x) (g1 : OpenP.Good a1) (x0 : fewB l0 = true) (x1 : fewB [a1] = true) (m0 : mayP l0 = false) :
    Calls Try.prog 4 #[.slice a0 l0.length cap0, .agg (pc a1), .string a2, .string a3] w fun e w' => e = .returned (.bool true) ∧ Below w.heap.size w w' := by
  have y0 := few_len x0
  have f0 := few_fits x0 g0
  have fa := fit_one x1 g1
  have fA := fits_one fa
  have X0 := aside x0
  have X1 := aside x1
  have M0 := aside m0
  clear x0 x1 m0
  have B1 : Box E (w.alloc (.cells (pc a1) 26)) (w.heap.size) a1 := by exact Box.new w a1 _
  have Z1 := below_alloc w (.cells (pc a1) 26)
  have w0' := w0.below Z1
  clear w0
  have w0 := w0'
  clear w0'
  have kb : Below w.heap.size w (w.alloc (.cells (pc a1) 26)) := by go_grown
  clear Z1
  go_enter Try.func4, Try.ntmps4
  go_wp2_with fail
  refine (awake _).mono ?_
  rintro e W1 ⟨rfl, k1⟩
  have w0' := w0.below k1
  clear w0
  have w0 := w0'
  clear w0'
  have B1' := B1.below k1
  clear B1
  have B1 := B1'
  clear B1'
  have kb' := kb.trans (k1.mono kb.size)
  clear kb k1
  have kb := kb'
  clear kb'
  go_wp2_with (first | go_skip | (refine RowC.gload E _ rfl _ rfl a1 B1 rfl ?_))
  have hc := few_ret a0 cap0 l0 _ w0 (max_of g0)
  rw [X0.out] at hc
  refine hc.mono ?_
  clear hc
  rintro e w' ⟨rfl, rfl⟩
  go_wp2_with (first | go_skip | (refine RowC.gload E _ rfl _ rfl a1 B1 rfl ?_) | (refine RowC.glit1 E (of_decide_eq_true rfl) _ rfl a1 rfl rfl ?_; intro W2 T k2; have w0' := w0.below k2; clear w0; have w0 := w0'; clear w0'; have B1' := B1.below k2; clear B1; have B1 := B1'; clear B1'; have kb' := kb.trans (k2.mono kb.size); clear kb k2; have kb := kb'; clear kb'))
  have hc := few_ret _ _ [a1] _ T (max_of (one_of g1))
  rw [X1.out] at hc
  refine hc.mono ?_
  clear hc
  rintro e w' ⟨rfl, rfl⟩
  clear T
  go_wp2_with (first | go_skip | (refine RowC.gload E _ rfl _ rfl a1 B1 rfl ?_))
  have hc := PairD.may_ret a0 cap0 l0 _ w0 f0 (by omega)
  rw [M0.out] at hc
  refine hc.mono ?_
  clear hc
  rintro e W3 ⟨rfl, k3⟩
  have w0' := w0.below k3
  clear w0
  have w0 := w0'
  clear w0'
  have B1' := B1.below k3
  clear B1
  have B1 := B1'
  clear B1'
  have kb' := kb.trans (k3.mono kb.size)
  clear kb k3
  have kb := kb'
  clear kb'
  go_wp2_with (first | go_skip | (refine RowC.gload E _ rfl _ rfl a1 B1 rfl ?_))
  go_ret
  exact ⟨by first | rfl | simp, kb⟩

set_option maxRecDepth 100000 in
set_option maxHeartbeats 8000000 in
theorem outm1 (a0 : Option Addr) (cap0 : Nat) (l0 : List Pr) (a1 : Pr) (a2 : ByteArray) (a3 : ByteArray) (w : World) (w0 : SlR E w a0 cap0 l0) (g0 : ∀ x ∈ l0, OpenP.Good x) (g1 : OpenP.Good a1) (x0 : fewB l0 = true) (x1 : fewB [a1] = true) (m0 : mayP l0 = true) (m1 : mayP [a1] = false) :
    Calls Try.prog 4 #[.slice a0 l0.length cap0, .agg (pc a1), .string a2, .string a3] w fun e w' => e = .returned (.bool true) ∧ Below w.heap.size w w' := by
  have y0 := few_len x0
  have f0 := few_fits x0 g0
  have fa := fit_one x1 g1
  have fA := fits_one fa
  have X0 := aside x0
  have X1 := aside x1
  have M0 := aside m0
  have M1 := aside m1
  clear x0 x1 m0 m1
  have B1 : Box E (w.alloc (.cells (pc a1) 26)) (w.heap.size) a1 := by exact Box.new w a1 _
  have Z1 := below_alloc w (.cells (pc a1) 26)
  have w0' := w0.below Z1
  clear w0
  have w0 := w0'
  clear w0'
  have kb : Below w.heap.size w (w.alloc (.cells (pc a1) 26)) := by go_grown
  clear Z1
  go_enter Try.func4, Try.ntmps4
  go_wp2_with fail
  refine (awake _).mono ?_
  rintro e W1 ⟨rfl, k1⟩
  have w0' := w0.below k1
  clear w0
  have w0 := w0'
  clear w0'
  have B1' := B1.below k1
  clear B1
  have B1 := B1'
  clear B1'
  have kb' := kb.trans (k1.mono kb.size)
  clear kb k1
  have kb := kb'
  clear kb'
  go_wp2_with (first | go_skip | (refine RowC.gload E _ rfl _ rfl a1 B1 rfl ?_))
  have hc := few_ret a0 cap0 l0 _ w0 (max_of g0)
  rw [X0.out] at hc
  refine hc.mono ?_
  clear hc
  rintro e w' ⟨rfl, rfl⟩
  go_wp2_with (first | go_skip | (refine RowC.gload E _ rfl _ rfl a1 B1 rfl ?_) | (refine RowC.glit1 E (of_decide_eq_true rfl) _ rfl a1 rfl rfl ?_; intro W2 T k2; have w0' := w0.below k2; clear w0; have w0 := w0'; clear w0'; have B1' := B1.below k2; clear B1; have B1 := B1'; clear B1'; have kb' := kb.trans (k2.mono kb.size); clear kb k2; have kb := kb'; clear kb'))
  have hc := few_ret _ _ [a1] _ T (max_of (one_of g1))
  rw [X1.out] at hc
  refine hc.mono ?_
  clear hc
  rintro e w' ⟨rfl, rfl⟩
  clear T
  go_wp2_with (first | go_skip | (refine RowC.gload E _ rfl _ rfl a1 B1 rfl ?_))
  have hc := PairD.may_ret a0 cap0 l0 _ w0 f0 (by omega)
  rw [M0.out] at hc
  refine hc.mono ?_
  clear hc
  rintro e W3 ⟨rfl, k3⟩
  have w0' := w0.below k3
  clear w0
  have w0 := w0'
  clear w0'
  have B1' := B1.below k3
  clear B1
  have B1 := B1'
  clear B1'
  have kb' := kb.trans (k3.mono kb.size)
  clear kb k3
  have kb := kb'
  clear kb'
  go_wp2_with (first | go_skip | (refine RowC.gload E _ rfl _ rfl a1 B1 rfl ?_) | (refine RowC.glit1 E (of_decide_eq_true rfl) _ rfl a1 rfl rfl ?_; intro W4 T1 k4; have w0' := w0.below k4; clear w0; have w0 := w0'; clear w0'; have B1' := B1.below k4; clear B1; have B1 := B1'; clear B1'; have kb' := kb.trans (k4.mono kb.size); clear kb k4; have kb := kb'; clear kb'))
  have hc := PairD.may_ret _ _ [a1] _ T1 fA (by simp)
  rw [M1.out] at hc
  refine hc.mono ?_
  clear hc
  rintro e W5 ⟨rfl, k5⟩
  clear T1
  have w0' := w0.below k5
  clear w0
  have w0 := w0'
  clear w0'
  have B1' := B1.below k5
  clear B1
  have B1 := B1'
  clear B1'
  have kb' := kb.trans (k5.mono kb.size)
  clear kb k5
  have kb := kb'
  clear kb'
  go_wp2_with (first | go_skip | (refine RowC.gload E _ rfl _ rfl a1 B1 rfl ?_))
  go_ret
  exact ⟨by first | rfl | simp, kb⟩

set_option maxRecDepth 100000 in
set_option maxHeartbeats 8000000 in
theorem outm2 (a0 : Option Addr) (cap0 : Nat) (l0 : List Pr) (a1 : Pr) (a2 : ByteArray) (a3 : ByteArray) (w : World) (w0 : SlR E w a0 cap0 l0) (g0 : ∀ x ∈ l0, OpenP.Good x) (g1 : OpenP.Good a1) (x0 : fewB l0 = true) (x1 : fewB [a1] = true) (m0 : mayP l0 = true) (m1 : mayP [a1] = true) (hk : 100 < a2.size) (hk2 : a2.size ≤ maxLen) :
    Calls Try.prog 4 #[.slice a0 l0.length cap0, .agg (pc a1), .string a2, .string a3] w fun e w' => e = .returned (.bool true) ∧ Below w.heap.size w w' := by
  have y0 := few_len x0
  have f0 := few_fits x0 g0
  have fa := fit_one x1 g1
  have fA := fits_one fa
  have X0 := aside x0
  have X1 := aside x1
  have M0 := aside m0
  have M1 := aside m1
  unfold maxLen at hk2
  clear x0 x1 m0 m1
  have B1 : Box E (w.alloc (.cells (pc a1) 26)) (w.heap.size) a1 := by exact Box.new w a1 _
  have Z1 := below_alloc w (.cells (pc a1) 26)
  have w0' := w0.below Z1
  clear w0
  have w0 := w0'
  clear w0'
  have kb : Below w.heap.size w (w.alloc (.cells (pc a1) 26)) := by go_grown
  clear Z1
  go_enter Try.func4, Try.ntmps4
  go_wp2_with fail
  refine (awake _).mono ?_
  rintro e W1 ⟨rfl, k1⟩
  have w0' := w0.below k1
  clear w0
  have w0 := w0'
  clear w0'
  have B1' := B1.below k1
  clear B1
  have B1 := B1'
  clear B1'
  have kb' := kb.trans (k1.mono kb.size)
  clear kb k1
  have kb := kb'
  clear kb'
  go_wp2_with (first | go_skip | (refine RowC.gload E _ rfl _ rfl a1 B1 rfl ?_))
  have hc := few_ret a0 cap0 l0 _ w0 (max_of g0)
  rw [X0.out] at hc
  refine hc.mono ?_
  clear hc
  rintro e w' ⟨rfl, rfl⟩
  go_wp2_with (first | go_skip | (refine RowC.gload E _ rfl _ rfl a1 B1 rfl ?_) | (refine RowC.glit1 E (of_decide_eq_true rfl) _ rfl a1 rfl rfl ?_; intro W2 T k2; have w0' := w0.below k2; clear w0; have w0 := w0'; clear w0'; have B1' := B1.below k2; clear B1; have B1 := B1'; clear B1'; have kb' := kb.trans (k2.mono kb.size); clear kb k2; have kb := kb'; clear kb'))
  have hc := few_ret _ _ [a1] _ T (max_of (one_of g1))
  rw [X1.out] at hc
  refine hc.mono ?_
  clear hc
  rintro e w' ⟨rfl, rfl⟩
  clear T
  go_wp2_with (first | go_skip | (refine RowC.gload E _ rfl _ rfl a1 B1 rfl ?_))
  have hc := PairD.may_ret a0 cap0 l0 _ w0 f0 (by omega)
  rw [M0.out] at hc
  refine hc.mono ?_
  clear hc
  rintro e W3 ⟨rfl, k3⟩
  have w0' := w0.below k3
  clear w0
  have w0 := w0'
  clear w0'
  have B1' := B1.below k3
  clear B1
  have B1 := B1'
  clear B1'
  have kb' := kb.trans (k3.mono kb.size)
  clear kb k3
  have kb := kb'
  clear kb'
  go_wp2_with (first | go_skip | (refine RowC.gload E _ rfl _ rfl a1 B1 rfl ?_) | (refine RowC.glit1 E (of_decide_eq_true rfl) _ rfl a1 rfl rfl ?_; intro W4 T1 k4; have w0' := w0.below k4; clear w0; have w0 := w0'; clear w0'; have B1' := B1.below k4; clear B1; have B1 := B1'; clear B1'; have kb' := kb.trans (k4.mono kb.size); clear kb k4; have kb := kb'; clear kb'))
  have hc := PairD.may_ret _ _ [a1] _ T1 fA (by simp)
  rw [M1.out] at hc
  refine hc.mono ?_
  clear hc
  rintro e W5 ⟨rfl, k5⟩
  clear T1
  have w0' := w0.below k5
  clear w0
  have w0 := w0'
  clear w0'
  have B1' := B1.below k5
  clear B1
  have B1 := B1'
  clear B1'
  have kb' := kb.trans (k5.mono kb.size)
  clear kb k5
  have kb := kb'
  clear kb'
  go_wp2_with (first | go_skip | (refine RowC.gload E _ rfl _ rfl a1 B1 rfl ?_))
  go_ret
  exact ⟨by first | rfl | simp, kb⟩

set_option maxRecDepth 100000 in
set_option maxHeartbeats 8000000 in
theorem outm3 (a0 : Option Addr) (cap0 : Nat) (l0 : List Pr) (a1 : Pr) (a2 : ByteArray) (a3 : ByteArray) (w : World) (w0 : SlR E w a0 cap0 l0) (g0 : ∀ x ∈ l0, OpenP.Good x) (g1 : OpenP.Good a1) (x0 : fewB l0 = true) (x1 : fewB [a1] = true) (m0 : mayP l0 = true) (m1 : mayP [a1] = true) (hk : a2.size ≤ 100) (he : 100 < a3.size) (he2 : a3.size ≤ maxLen) :
    Calls Try.prog 4 #[.slice a0 l0.length cap0, .agg (pc a1), .string a2, .string a3] w fun e w' => e = .returned (.bool true) ∧ Below w.heap.size w w' := by
  have y0 := few_len x0
  have f0 := few_fits x0 g0
  have fa := fit_one x1 g1
  have fA := fits_one fa
  have X0 := aside x0
  have X1 := aside x1
  have M0 := aside m0
  have M1 := aside m1
  unfold maxLen at he2
  clear x0 x1 m0 m1
  have B1 : Box E (w.alloc (.cells (pc a1) 26)) (w.heap.size) a1 := by exact Box.new w a1 _
  have Z1 := below_alloc w (.cells (pc a1) 26)
  have w0' := w0.below Z1
  clear w0
  have w0 := w0'
  clear w0'
  have kb : Below w.heap.size w (w.alloc (.cells (pc a1) 26)) := by go_grown
  clear Z1
  go_enter Try.func4, Try.ntmps4
  go_wp2_with fail
  refine (awake _).mono ?_
  rintro e W1 ⟨rfl, k1⟩
  have w0' := w0.below k1
  clear w0
  have w0 := w0'
  clear w0'
  have B1' := B1.below k1
  clear B1
  have B1 := B1'
  clear B1'
  have kb' := kb.trans (k1.mono kb.size)
  clear kb k1
  have kb := kb'
  clear kb'
  go_wp2_with (first | go_skip | (refine RowC.gload E _ rfl _ rfl a1 B1 rfl ?_))
  have hc := few_ret a0 cap0 l0 _ w0 (max_of g0)
  rw [X0.out] at hc
  refine hc.mono ?_
  clear hc
  rintro e w' ⟨rfl, rfl⟩
  go_wp2_with (first | go_skip | (refine RowC.gload E _ rfl _ rfl a1 B1 rfl ?_) | (refine RowC.glit1 E (of_decide_eq_true rfl) _ rfl a1 rfl rfl ?_; intro W2 T k2; have w0' := w0.below k2; clear w0; have w0 := w0'; clear w0'; have B1' := B1.below k2; clear B1; have B1 := B1'; clear B1'; have kb' := kb.trans (k2.mono kb.size); clear kb k2; have kb := kb'; clear kb'))
  have hc := few_ret _ _ [a1] _ T (max_of (one_of g1))
  rw [X1.out] at hc
  refine hc.mono ?_
  clear hc
  rintro e w' ⟨rfl, rfl⟩
  clear T
  go_wp2_with (first | go_skip | (refine RowC.gload E _ rfl _ rfl a1 B1 rfl ?_))
  have hc := PairD.may_ret a0 cap0 l0 _ w0 f0 (by omega)
  rw [M0.out] at hc
  refine hc.mono ?_
  clear hc
  rintro e W3 ⟨rfl, k3⟩
  have w0' := w0.below k3
  clear w0
  have w0 := w0'
  clear w0'
  have B1' := B1.below k3
  clear B1
  have B1 := B1'
  clear B1'
  have kb' := kb.trans (k3.mono kb.size)
  clear kb k3
  have kb := kb'
  clear kb'
  go_wp2_with (first | go_skip | (refine RowC.gload E _ rfl _ rfl a1 B1 rfl ?_) | (refine RowC.glit1 E (of_decide_eq_true rfl) _ rfl a1 rfl rfl ?_; intro W4 T1 k4; have w0' := w0.below k4; clear w0; have w0 := w0'; clear w0'; have B1' := B1.below k4; clear B1; have B1 := B1'; clear B1'; have kb' := kb.trans (k4.mono kb.size); clear kb k4; have kb := kb'; clear kb'))
  have hc := PairD.may_ret _ _ [a1] _ T1 fA (by simp)
  rw [M1.out] at hc
  refine hc.mono ?_
  clear hc
  rintro e W5 ⟨rfl, k5⟩
  clear T1
  have w0' := w0.below k5
  clear w0
  have w0 := w0'
  clear w0'
  have B1' := B1.below k5
  clear B1
  have B1 := B1'
  clear B1'
  have kb' := kb.trans (k5.mono kb.size)
  clear kb k5
  have kb := kb'
  clear kb'
  go_wp2_with (first | go_skip | (refine RowC.gload E _ rfl _ rfl a1 B1 rfl ?_))
  go_ret
  exact ⟨by first | rfl | simp, kb⟩

set_option maxRecDepth 100000 in
set_option maxHeartbeats 64000000 in
theorem within (a0 : Option Addr) (cap0 : Nat) (l0 : List Pr) (a1 : Pr) (a2 : ByteArray) (a3 : ByteArray) (w : World) (w0 : SlR E w a0 cap0 l0) (g0 : ∀ x ∈ l0, OpenP.Good x) (g1 : OpenP.Good a1) (x0 : fewB l0 = true) (x1 : fewB [a1] = true) (m0 : mayP l0 = true) (m1 : mayP [a1] = true) (hk : a2.size ≤ 100) (he : a3.size ≤ 100) :
    Calls Try.prog 4 #[.slice a0 l0.length cap0, .agg (pc a1), .string a2, .string a3] w fun e w' => e = .returned (.bool true) ∧ Below w.heap.size w w' := by
  have y0 := few_len x0
  have f0 := few_fits x0 g0
  have fa := fit_one x1 g1
  have fA := fits_one fa
  have X0 := aside x0
  have X1 := aside x1
  have o1 : oneP a1 = true := by rw [← may_one]; exact m1
  have p1 := add_length l0 a1
  have p3 := del_length l0 a2 a3
  have q1 := add_fits f0 fa
  have q3 := del_fits (k := a2) (e := a3) f0
  have ma := add_may l0 a1
  have md := del_may l0 a2 a3
  have mm := merge_may m0 ma md
  have r1 := merge_length m0 ma md
  have qm := merge_fits (base := l0) q1 q3
  have hw := fun x => wins (k := a2) (e := a3) m0 o1 x
  obtain ⟨P, hP⟩ : ∃ l, addP l0 a1 = l := ⟨_, rfl⟩
  obtain ⟨D, hD⟩ : ∃ l, delP l0 a2 a3 = l := ⟨_, rfl⟩
  rw [hP] at p1 q1 mm r1 qm hw
  rw [hD] at p3 q3 mm r1 qm hw
  obtain ⟨M, hM⟩ : ∃ l, mergeP l0 P D = l := ⟨_, rfl⟩
  rw [hM] at mm r1 qm hw
  have HP := aside hP
  have HD := aside hD
  have HM := aside hM
  have MM := aside mm
  have HW := aside hw
  have M0 := aside m0
  have M1 := aside m1
  clear x0 x1 m0 m1 o1 ma md mm hw hP hD hM
  have B1 : Box E (w.alloc (.cells (pc a1) 26)) (w.heap.size) a1 := by exact Box.new w a1 _
  have Z1 := below_alloc w (.cells (pc a1) 26)
  have w0' := w0.below Z1
  clear w0
  have w0 := w0'
  clear w0'
  have kb : Below w.heap.size w (w.alloc (.cells (pc a1) 26)) := by go_grown
  clear Z1
  go_enter Try.func4, Try.ntmps4
  go_wp2_with fail
  refine (awake _).mono ?_
  rintro e W1 ⟨rfl, k1⟩
  have w0' := w0.below k1
  clear w0
  have w0 := w0'
  clear w0'
  have B1' := B1.below k1
  clear B1
  have B1 := B1'
  clear B1'
  have kb' := kb.trans (k1.mono kb.size)
  clear kb k1
  have kb := kb'
  clear kb'
  go_wp2_with (first | go_skip | (refine RowC.gload E _ rfl _ rfl a1 B1 rfl ?_))
  have hc := few_ret a0 cap0 l0 _ w0 (max_of g0)
  rw [X0.out] at hc
  refine hc.mono ?_
  clear hc
  rintro e w' ⟨rfl, rfl⟩
  go_wp2_with (first | go_skip | (refine RowC.gload E _ rfl _ rfl a1 B1 rfl ?_) | (refine RowC.glit1 E (of_decide_eq_true rfl) _ rfl a1 rfl rfl ?_; intro W2 T k2; have w0' := w0.below k2; clear w0; have w0 := w0'; clear w0'; have B1' := B1.below k2; clear B1; have B1 := B1'; clear B1'; have kb' := kb.trans (k2.mono kb.size); clear kb k2; have kb := kb'; clear kb'))
  have hc := few_ret _ _ [a1] _ T (max_of (one_of g1))
  rw [X1.out] at hc
  refine hc.mono ?_
  clear hc
  rintro e w' ⟨rfl, rfl⟩
  clear T
  go_wp2_with (first | go_skip | (refine RowC.gload E _ rfl _ rfl a1 B1 rfl ?_))
  have hc := PairD.may_ret a0 cap0 l0 _ w0 f0 (by omega)
  rw [M0.out] at hc
  refine hc.mono ?_
  clear hc
  rintro e W3 ⟨rfl, k3⟩
  have w0' := w0.below k3
  clear w0
  have w0 := w0'
  clear w0'
  have B1' := B1.below k3
  clear B1
  have B1 := B1'
  clear B1'
  have kb' := kb.trans (k3.mono kb.size)
  clear kb k3
  have kb := kb'
  clear kb'
  go_wp2_with (first | go_skip | (refine RowC.gload E _ rfl _ rfl a1 B1 rfl ?_) | (refine RowC.glit1 E (of_decide_eq_true rfl) _ rfl a1 rfl rfl ?_; intro W4 T1 k4; have w0' := w0.below k4; clear w0; have w0 := w0'; clear w0'; have B1' := B1.below k4; clear B1; have B1 := B1'; clear B1'; have kb' := kb.trans (k4.mono kb.size); clear kb k4; have kb := kb'; clear kb'))
  have hc := PairD.may_ret _ _ [a1] _ T1 fA (by simp)
  rw [M1.out] at hc
  refine hc.mono ?_
  clear hc
  rintro e W5 ⟨rfl, k5⟩
  clear T1
  have w0' := w0.below k5
  clear w0
  have w0 := w0'
  clear w0'
  have B1' := B1.below k5
  clear B1
  have B1 := B1'
  clear B1'
  have kb' := kb.trans (k5.mono kb.size)
  clear kb k5
  have kb := kb'
  clear kb'
  go_wp2_with (first | go_skip | (refine RowC.gload E _ rfl _ rfl a1 B1 rfl ?_))
  go_loopw [12, 13] (fun v i wq => ∃ (k : Nat) (b : Bool), k ≤ l0.length ∧ i = .int .i64 k ∧ v = .bool b ∧ Hid (b = (false || decide (a1 ∈ l0.take k))) ∧ Below W5.heap.size W5 wq) (fun _ i _ => l0.length - (intOf i).toNat)
  case atStart => exact ⟨0, false, Nat.zero_le _, rfl, rfl, aside (by simp), Below.refl _ _⟩
  case round =>
    obtain ⟨k, c1, hk1, rfl, rfl, HB1, ki⟩ := hrel
    have hcapk := w0.1
    by_cases hlk : k < l0.length
    · obtain ⟨gk, ok, hAk, _, hrk⟩ := PairW.plain w0 (by omega)
      subst hAk
      obtain ⟨y, hy⟩ : ∃ y, l0[k]? = some y := ⟨_, List.getElem?_eq_getElem hlk⟩
      have ry := aside (range_below (hrk k y hy) ki)
      have rx := aside (range_below B1.range ki)
      have q0 : (k : Int) < l0.length := by omega
      have q1 : ((k : Int)).toNat = k := by omega
      have HS := aside (in_step (B := false) (x := a1) hy HB1.out)
      clear hrk hy HB1
      cases c1 with
      | true =>
        go_wp2_with fail
        go_quiet (fail)
        go_wp2
        go_roundw
        case rel => exact ⟨k + 1, true, by omega, by go_num, rfl, aside (by rw [HS.out]; rfl), below_drew ki _⟩
        case measure => simp [intOf]; omega
      | false =>
        by_cases hyx : y = a1
        · have t := equal_yes hyx
          have HYX := aside hyx
          clear hyx
          go_wp2_with fail
          refine Grow.region [(0, true), (1, true), (2, true), (3, true), (4, true), (5, true), (6, true), (7, true), (8, true), (9, true)] (by kernel_rfl) (by kernel_rfl) rfl (by kernel_rfl) (by intro c a d v w h; cases d <;> exact h) ?_
          have kd := below_drew1 ki
          have ry' : wr.drew.rangeAt gk (ok + k * 4) (E.enc y) := ry.out
          have rx' : wr.drew.rangeAt _ _ (E.enc a1) := rx.out
          generalize wr.drew = wd at kd ry' rx' ⊢
          repeat (first | (refine Grow.reads rfl rfl ?_; go_big_quiet_want; refine RowK.quiet_row E _ rfl _ _ rfl y ry' ?_; go_big_quiet_on; refine wpQuiet_nil ?_; simp only [Act.put, List.setIfInBounds_toArray, List.set_cons_succ, List.set_cons_zero]) | (refine Grow.reads rfl rfl ?_; go_big_quiet_want; refine RowK.quiet_row E _ rfl _ _ rfl a1 rx' ?_; go_big_quiet_on; refine wpQuiet_nil ?_; simp only [Act.put, List.setIfInBounds_toArray, List.set_cons_succ, List.set_cons_zero]) | (refine Grow.reads rfl rfl ?_; go_big_quiet_step (fail); refine wpQuiet_nil ?_))
          refine Grow.ends ?_
          go_wp2_with fail
          go_roundw
          case rel => exact ⟨k + 1, true, by omega, by go_num, rfl, aside (by rw [HS.out, decide_eq_true HYX.out]; rfl), kd⟩
          case measure => simp [intOf]; omega
        · have t := equal_no hyx
          go_wp2_with fail
          refine Grow.region [(0, true), (1, true), (2, true), (3, true), (4, true), (5, true), (6, true), (7, true), (8, true), (9, true)] (by kernel_rfl) (by kernel_rfl) rfl (by kernel_rfl) (by intro c a d v w h; cases d <;> exact h) ?_
          have kd := below_drew1 ki
          have ry' : wr.drew.rangeAt gk (ok + k * 4) (E.enc y) := ry.out
          have rx' : wr.drew.rangeAt _ _ (E.enc a1) := rx.out
          generalize wr.drew = wd at kd ry' rx' ⊢
          repeat (first | (refine Grow.reads rfl rfl ?_; go_big_quiet_want; refine RowK.quiet_row E _ rfl _ _ rfl y ry' ?_; go_big_quiet_on; refine wpQuiet_nil ?_; simp only [Act.put, List.setIfInBounds_toArray, List.set_cons_succ, List.set_cons_zero]) | (refine Grow.reads rfl rfl ?_; go_big_quiet_want; refine RowK.quiet_row E _ rfl _ _ rfl a1 rx' ?_; go_big_quiet_on; refine wpQuiet_nil ?_; simp only [Act.put, List.setIfInBounds_toArray, List.set_cons_succ, List.set_cons_zero]) | (refine Grow.reads rfl rfl ?_; go_big_quiet_step (fail); refine wpQuiet_nil ?_))
          refine Grow.ends ?_
          go_wp2_with fail
          go_roundw
          case rel => exact ⟨k + 1, false, by omega, by go_num, rfl, aside (by rw [HS.out, decide_eq_false hyx]; rfl), kd⟩
          case measure => simp [intOf]; omega
    · have ek : k = l0.length := by omega
      have HE1 : Hid (c1 = (false || decide (a1 ∈ l0))) := aside (by rw [HB1.out, ek, List.take_length])
      clear HB1
      have w0' := w0.below ki
      clear w0
      have w0 := w0'
      clear w0'
      have B1' := B1.below ki
      clear B1
      have B1 := B1'
      clear B1'
      have kb' := kb.trans (ki.mono kb.size)
      clear kb ki
      have kb := kb'
      clear kb'
      go_wp2_with (first | go_skip | (refine RowC.gload E _ rfl _ rfl a1 B1 rfl ?_))
      have hc := PairD.add_ret a0 cap0 l0 a1 _ w0 f0 fa (by omega)
      rw [HP.out] at hc
      refine hc.mono ?_
      clear hc
      rintro e W6 ⟨AP, CP, rfl, SP, k6⟩
      have w0' := w0.below k6
      clear w0
      have w0 := w0'
      clear w0'
      have B1' := B1.below k6
      clear B1
      have B1 := B1'
      clear B1'
      have kb' := kb.trans (k6.mono kb.size)
      clear kb k6
      have kb := kb'
      clear kb'
      go_wp2_with (first | go_skip | (refine RowC.gload E _ rfl _ rfl a1 B1 rfl ?_))
      have hc := PairD.del_ret a0 cap0 l0 a2 a3 _ w0 f0 hk he (by omega)
      rw [HD.out] at hc
      refine hc.mono ?_
      clear hc
      rintro e W7 ⟨AD, CD, rfl, SD, k7⟩
      have w0' := w0.below k7
      clear w0
      have w0 := w0'
      clear w0'
      have B1' := B1.below k7
      clear B1
      have B1 := B1'
      clear B1'
      have SP' := SP.below k7
      clear SP
      have SP := SP'
      clear SP'
      have kb' := kb.trans (k7.mono kb.size)
      clear kb k7
      have kb := kb'
      clear kb'
      go_wp2_with (first | go_skip | (refine RowC.gload E _ rfl _ rfl a1 B1 rfl ?_))
      have hc := PairD.merge_ret a0 cap0 l0 AP CP P AD CD D _ w0 SP SD f0 q1 q3 (by omega) (by omega) (by omega)
      rw [HM.out] at hc
      refine hc.mono ?_
      clear hc
      rintro e W8 ⟨AM, CM, rfl, SM, k8⟩
      have w0' := w0.below k8
      clear w0
      have w0 := w0'
      clear w0'
      have B1' := B1.below k8
      clear B1
      have B1 := B1'
      clear B1'
      have SP' := SP.below k8
      clear SP
      have SP := SP'
      clear SP'
      have SD' := SD.below k8
      clear SD
      have SD := SD'
      clear SD'
      have kb' := kb.trans (k8.mono kb.size)
      clear kb k8
      have kb := kb'
      clear kb'
      clear SP SD w0
      go_wp2_with (first | go_skip | (refine RowC.gload E _ rfl _ rfl a1 B1 rfl ?_))
      go_loopw [15, 16] (fun v i wq => ∃ (k : Nat) (b : Bool), k ≤ M.length ∧ i = .int .i64 k ∧ v = .bool b ∧ Hid (b = (false || decide (a1 ∈ M.take k))) ∧ Below W8.heap.size W8 wq) (fun _ i _ => M.length - (intOf i).toNat)
      case atStart => exact ⟨0, false, Nat.zero_le _, rfl, rfl, aside (by simp), Below.refl _ _⟩
      case round =>
        obtain ⟨k, b, hk', rfl, rfl, HB, ki⟩ := hrel
        have hcapk := SM.1
        by_cases hlk : k < M.length
        · obtain ⟨gk, ok, hAk, _, hrk⟩ := PairW.plain SM (by omega)
          subst hAk
          obtain ⟨y, hy⟩ : ∃ y, M[k]? = some y := ⟨_, List.getElem?_eq_getElem hlk⟩
          have ry := range_below (hrk k y hy) ki
          have rx := range_below B1.range ki
          have q0 : (k : Int) < M.length := by omega
          have q1 : ((k : Int)).toNat = k := by omega
          have HS := aside (in_step (B := false) (x := a1) hy HB.out)
          have hny : ¬ y = a1 → ¬ (y.key = a2 ∧ y.elem = a3) := fun hne => by
            have := (HW.out y).1 (List.mem_of_getElem? hy)
            rcases this with h | h
            · exact absurd h.1 hne
            · exact h.2
          clear hrk hy HB SM
          cases b with
          | true =>
            by_cases hyx : y = a1
            · have t := equal_yes hyx
              have HYX := aside hyx
              clear hyx hny
              go_wp2_with fail
              go_quiet (fail)
              have kd := below_drew ki nq
              have ry' : (wr.drewN nq).rangeAt gk (ok + k * 4) (E.enc y) := ry
              have rx' : (wr.drewN nq).rangeAt _ _ (E.enc a1) := rx
              clear ry rx
              generalize wr.drewN nq = wd at kd ry' rx' ⊢
              have ry := ry'
              have rx := rx'
              clear ry' rx'
              go_wp2_with fail
              refine Grow.region [(0, true), (1, true), (2, true), (3, true), (4, true), (5, true), (6, true), (7, true), (8, true), (9, true), (10, true), (11, true), (12, true), (13, true), (14, true), (15, true), (16, true), (17, true), (18, true), (19, true), (20, true), (21, true), (22, true), (23, true)] (by kernel_rfl) (by kernel_rfl) rfl (by kernel_rfl) (by intro c a d v w h; cases d <;> exact h) ?_
              have ke := below_drew1 kd
              have ry' : wd.drew.rangeAt gk (ok + k * 4) (E.enc y) := ry
              have rx' : wd.drew.rangeAt _ _ (E.enc a1) := rx
              clear ry rx
              generalize wd.drew = we at ke ry' rx' ⊢
              have ry := ry'
              have rx := rx'
              clear ry' rx'
              have cy0 := Grow.grown (w := we) (fun u hu => (cells (range_below ry hu)).1)
              have cy1 := Grow.grown (w := we) (fun u hu => (cells (range_below ry hu)).2.1)
              repeat (first | (refine Grow.reads rfl rfl ?_; go_big_quiet_want; refine RowK.quiet_row E _ rfl _ _ rfl y ry ?_; go_big_quiet_on; refine wpQuiet_nil ?_; simp only [Act.put, List.setIfInBounds_toArray, List.set_cons_succ, List.set_cons_zero]) | (refine Grow.reads rfl rfl ?_; go_big_quiet_want; refine RowK.quiet_row E _ rfl _ _ rfl a1 rx ?_; go_big_quiet_on; refine wpQuiet_nil ?_; simp only [Act.put, List.setIfInBounds_toArray, List.set_cons_succ, List.set_cons_zero]) | (refine Grow.reads rfl rfl ?_; go_big_quiet_step (fail); refine wpQuiet_nil ?_))
              refine Grow.ends ?_
              go_wp2_with fail
              go_roundw
              case rel => exact ⟨k + 1, true, by omega, by go_num, rfl, aside (by rw [HS.out]; rfl), ke⟩
              case measure => simp [intOf]; omega
            · have hny2 := hny hyx
              clear hny
              by_cases hyk : y.key = a2
              · have hye : ¬ y.elem = a3 := fun q => hny2 ⟨hyk, q⟩
                have s1 := str_yes hyk
                have s2 := str_no hye
                clear hyk hye hny2
                have t := equal_no hyx
                have HYX := aside hyx
                go_wp2_with fail
                go_quiet (fail)
                have kd := below_drew ki nq
                have ry' : (wr.drewN nq).rangeAt gk (ok + k * 4) (E.enc y) := ry
                have rx' : (wr.drewN nq).rangeAt _ _ (E.enc a1) := rx
                clear ry rx
                generalize wr.drewN nq = wd at kd ry' rx' ⊢
                have ry := ry'
                have rx := rx'
                clear ry' rx'
                go_wp2_with fail
                refine Grow.region [(0, true), (1, true), (2, true), (3, true), (4, true), (5, true), (6, true), (7, true), (8, true), (9, true), (10, true), (11, true), (12, true), (13, true), (14, true), (15, true), (16, true), (17, true), (18, true), (19, true), (20, true), (21, true), (22, true), (23, true)] (by kernel_rfl) (by kernel_rfl) rfl (by kernel_rfl) (by intro c a d v w h; cases d <;> exact h) ?_
                have ke := below_drew1 kd
                have ry' : wd.drew.rangeAt gk (ok + k * 4) (E.enc y) := ry
                have rx' : wd.drew.rangeAt _ _ (E.enc a1) := rx
                clear ry rx
                generalize wd.drew = we at ke ry' rx' ⊢
                have ry := ry'
                have rx := rx'
                clear ry' rx'
                have cy0 := Grow.grown (w := we) (fun u hu => (cells (range_below ry hu)).1)
                have cy1 := Grow.grown (w := we) (fun u hu => (cells (range_below ry hu)).2.1)
                repeat (first | (refine Grow.reads rfl rfl ?_; go_big_quiet_want; refine RowK.quiet_row E _ rfl _ _ rfl y ry ?_; go_big_quiet_on; refine wpQuiet_nil ?_; simp only [Act.put, List.setIfInBounds_toArray, List.set_cons_succ, List.set_cons_zero]) | (refine Grow.reads rfl rfl ?_; go_big_quiet_want; refine RowK.quiet_row E _ rfl _ _ rfl a1 rx ?_; go_big_quiet_on; refine wpQuiet_nil ?_; simp only [Act.put, List.setIfInBounds_toArray, List.set_cons_succ, List.set_cons_zero]) | (refine Grow.reads rfl rfl ?_; go_big_quiet_step (fail); refine wpQuiet_nil ?_))
                refine Grow.ends ?_
                go_wp2_with fail
                go_roundw
                case rel => exact ⟨k + 1, true, by omega, by go_num, rfl, aside (by rw [HS.out]; rfl), ke⟩
                case measure => simp [intOf]; omega
              · have s1 := str_no hyk
                clear hyk hny2
                have t := equal_no hyx
                have HYX := aside hyx
                go_wp2_with fail
                go_quiet (fail)
                have kd := below_drew ki nq
                have ry' : (wr.drewN nq).rangeAt gk (ok + k * 4) (E.enc y) := ry
                have rx' : (wr.drewN nq).rangeAt _ _ (E.enc a1) := rx
                clear ry rx
                generalize wr.drewN nq = wd at kd ry' rx' ⊢
                have ry := ry'
                have rx := rx'
                clear ry' rx'
                go_wp2_with fail
                refine Grow.region [(0, true), (1, true), (2, true), (3, true), (4, true), (5, true), (6, true), (7, true), (8, true), (9, true), (10, true), (11, true), (12, true), (13, true), (14, true), (15, true), (16, true), (17, true), (18, true), (19, true), (20, true), (21, true), (22, true), (23, true)] (by kernel_rfl) (by kernel_rfl) rfl (by kernel_rfl) (by intro c a d v w h; cases d <;> exact h) ?_
                have ke := below_drew1 kd
                have ry' : wd.drew.rangeAt gk (ok + k * 4) (E.enc y) := ry
                have rx' : wd.drew.rangeAt _ _ (E.enc a1) := rx
                clear ry rx
                generalize wd.drew = we at ke ry' rx' ⊢
                have ry := ry'
                have rx := rx'
                clear ry' rx'
                have cy0 := Grow.grown (w := we) (fun u hu => (cells (range_below ry hu)).1)
                have cy1 := Grow.grown (w := we) (fun u hu => (cells (range_below ry hu)).2.1)
                repeat (first | (refine Grow.reads rfl rfl ?_; go_big_quiet_want; refine RowK.quiet_row E _ rfl _ _ rfl y ry ?_; go_big_quiet_on; refine wpQuiet_nil ?_; simp only [Act.put, List.setIfInBounds_toArray, List.set_cons_succ, List.set_cons_zero]) | (refine Grow.reads rfl rfl ?_; go_big_quiet_want; refine RowK.quiet_row E _ rfl _ _ rfl a1 rx ?_; go_big_quiet_on; refine wpQuiet_nil ?_; simp only [Act.put, List.setIfInBounds_toArray, List.set_cons_succ, List.set_cons_zero]) | (refine Grow.reads rfl rfl ?_; go_big_quiet_step (fail); refine wpQuiet_nil ?_))
                refine Grow.ends ?_
                go_wp2_with fail
                go_roundw
                case rel => exact ⟨k + 1, true, by omega, by go_num, rfl, aside (by rw [HS.out]; rfl), ke⟩
                case measure => simp [intOf]; omega
          | false =>
            by_cases hyx : y = a1
            · have t := equal_yes hyx
              have HYX := aside hyx
              clear hyx hny
              go_wp2_with fail
              refine Grow.region [(0, true), (1, true), (2, true), (3, true), (4, true), (5, true), (6, true), (7, true), (8, true), (9, true)] (by kernel_rfl) (by kernel_rfl) rfl (by kernel_rfl) (by intro c a d v w h; cases d <;> exact h) ?_
              have kd := below_drew1 ki
              have ry' : wr.drew.rangeAt gk (ok + k * 4) (E.enc y) := ry
              have rx' : wr.drew.rangeAt _ _ (E.enc a1) := rx
              clear ry rx
              generalize wr.drew = wd at kd ry' rx' ⊢
              have ry := ry'
              have rx := rx'
              clear ry' rx'
              repeat (first | (refine Grow.reads rfl rfl ?_; go_big_quiet_want; refine RowK.quiet_row E _ rfl _ _ rfl y ry ?_; go_big_quiet_on; refine wpQuiet_nil ?_; simp only [Act.put, List.setIfInBounds_toArray, List.set_cons_succ, List.set_cons_zero]) | (refine Grow.reads rfl rfl ?_; go_big_quiet_want; refine RowK.quiet_row E _ rfl _ _ rfl a1 rx ?_; go_big_quiet_on; refine wpQuiet_nil ?_; simp only [Act.put, List.setIfInBounds_toArray, List.set_cons_succ, List.set_cons_zero]) | (refine Grow.reads rfl rfl ?_; go_big_quiet_step (fail); refine wpQuiet_nil ?_))
              refine Grow.ends ?_
              go_wp2_with fail
              refine Grow.region [(0, true), (1, true), (2, true), (3, true), (4, true), (5, true), (6, true), (7, true), (8, true), (9, true), (10, true), (11, true), (12, true), (13, true), (14, true), (15, true), (16, true), (17, true), (18, true), (19, true), (20, true), (21, true), (22, true), (23, true)] (by kernel_rfl) (by kernel_rfl) rfl (by kernel_rfl) (by intro c a d v w h; cases d <;> exact h) ?_
              have ke := below_drew1 kd
              have ry' : wd.drew.rangeAt gk (ok + k * 4) (E.enc y) := ry
              have rx' : wd.drew.rangeAt _ _ (E.enc a1) := rx
              clear ry rx
              generalize wd.drew = we at ke ry' rx' ⊢
              have ry := ry'
              have rx := rx'
              clear ry' rx'
              have cy0 := Grow.grown (w := we) (fun u hu => (cells (range_below ry hu)).1)
              have cy1 := Grow.grown (w := we) (fun u hu => (cells (range_below ry hu)).2.1)
              repeat (first | (refine Grow.reads rfl rfl ?_; go_big_quiet_want; refine RowK.quiet_row E _ rfl _ _ rfl y ry ?_; go_big_quiet_on; refine wpQuiet_nil ?_; simp only [Act.put, List.setIfInBounds_toArray, List.set_cons_succ, List.set_cons_zero]) | (refine Grow.reads rfl rfl ?_; go_big_quiet_want; refine RowK.quiet_row E _ rfl _ _ rfl a1 rx ?_; go_big_quiet_on; refine wpQuiet_nil ?_; simp only [Act.put, List.setIfInBounds_toArray, List.set_cons_succ, List.set_cons_zero]) | (refine Grow.reads rfl rfl ?_; go_big_quiet_step (fail); refine wpQuiet_nil ?_))
              refine Grow.ends ?_
              go_wp2_with fail
              go_roundw
              case rel => exact ⟨k + 1, true, by omega, by go_num, rfl, aside (by rw [HS.out]; rw [decide_eq_true HYX.out]; rfl), ke⟩
              case measure => simp [intOf]; omega
            · have hny2 := hny hyx
              clear hny
              by_cases hyk : y.key = a2
              · have hye : ¬ y.elem = a3 := fun q => hny2 ⟨hyk, q⟩
                have s1 := str_yes hyk
                have s2 := str_no hye
                clear hyk hye hny2
                have t := equal_no hyx
                have HYX := aside hyx
                go_wp2_with fail
                refine Grow.region [(0, true), (1, true), (2, true), (3, true), (4, true), (5, true), (6, true), (7, true), (8, true), (9, true)] (by kernel_rfl) (by kernel_rfl) rfl (by kernel_rfl) (by intro c a d v w h; cases d <;> exact h) ?_
                have kd := below_drew1 ki
                have ry' : wr.drew.rangeAt gk (ok + k * 4) (E.enc y) := ry
                have rx' : wr.drew.rangeAt _ _ (E.enc a1) := rx
                clear ry rx
                generalize wr.drew = wd at kd ry' rx' ⊢
                have ry := ry'
                have rx := rx'
                clear ry' rx'
                repeat (first | (refine Grow.reads rfl rfl ?_; go_big_quiet_want; refine RowK.quiet_row E _ rfl _ _ rfl y ry ?_; go_big_quiet_on; refine wpQuiet_nil ?_; simp only [Act.put, List.setIfInBounds_toArray, List.set_cons_succ, List.set_cons_zero]) | (refine Grow.reads rfl rfl ?_; go_big_quiet_want; refine RowK.quiet_row E _ rfl _ _ rfl a1 rx ?_; go_big_quiet_on; refine wpQuiet_nil ?_; simp only [Act.put, List.setIfInBounds_toArray, List.set_cons_succ, List.set_cons_zero]) | (refine Grow.reads rfl rfl ?_; go_big_quiet_step (fail); refine wpQuiet_nil ?_))
                refine Grow.ends ?_
                go_wp2_with fail
                refine Grow.region [(0, true), (1, true), (2, true), (3, true), (4, true), (5, true), (6, true), (7, true), (8, true), (9, true), (10, true), (11, true), (12, true), (13, true), (14, true), (15, true), (16, true), (17, true), (18, true), (19, true), (20, true), (21, true), (22, true), (23, true)] (by kernel_rfl) (by kernel_rfl) rfl (by kernel_rfl) (by intro c a d v w h; cases d <;> exact h) ?_
                have ke := below_drew1 kd
                have ry' : wd.drew.rangeAt gk (ok + k * 4) (E.enc y) := ry
                have rx' : wd.drew.rangeAt _ _ (E.enc a1) := rx
                clear ry rx
                generalize wd.drew = we at ke ry' rx' ⊢
                have ry := ry'
                have rx := rx'
                clear ry' rx'
                have cy0 := Grow.grown (w := we) (fun u hu => (cells (range_below ry hu)).1)
                have cy1 := Grow.grown (w := we) (fun u hu => (cells (range_below ry hu)).2.1)
                repeat (first | (refine Grow.reads rfl rfl ?_; go_big_quiet_want; refine RowK.quiet_row E _ rfl _ _ rfl y ry ?_; go_big_quiet_on; refine wpQuiet_nil ?_; simp only [Act.put, List.setIfInBounds_toArray, List.set_cons_succ, List.set_cons_zero]) | (refine Grow.reads rfl rfl ?_; go_big_quiet_want; refine RowK.quiet_row E _ rfl _ _ rfl a1 rx ?_; go_big_quiet_on; refine wpQuiet_nil ?_; simp only [Act.put, List.setIfInBounds_toArray, List.set_cons_succ, List.set_cons_zero]) | (refine Grow.reads rfl rfl ?_; go_big_quiet_step (fail); refine wpQuiet_nil ?_))
                refine Grow.ends ?_
                go_wp2_with fail
                go_roundw
                case rel => exact ⟨k + 1, false, by omega, by go_num, rfl, aside (by rw [HS.out]; rw [decide_eq_false HYX.out]; rfl), ke⟩
                case measure => simp [intOf]; omega
              · have s1 := str_no hyk
                clear hyk hny2
                have t := equal_no hyx
                have HYX := aside hyx
                go_wp2_with fail
                refine Grow.region [(0, true), (1, true), (2, true), (3, true), (4, true), (5, true), (6, true), (7, true), (8, true), (9, true)] (by kernel_rfl) (by kernel_rfl) rfl (by kernel_rfl) (by intro c a d v w h; cases d <;> exact h) ?_
                have kd := below_drew1 ki
                have ry' : wr.drew.rangeAt gk (ok + k * 4) (E.enc y) := ry
                have rx' : wr.drew.rangeAt _ _ (E.enc a1) := rx
                clear ry rx
                generalize wr.drew = wd at kd ry' rx' ⊢
                have ry := ry'
                have rx := rx'
                clear ry' rx'
                repeat (first | (refine Grow.reads rfl rfl ?_; go_big_quiet_want; refine RowK.quiet_row E _ rfl _ _ rfl y ry ?_; go_big_quiet_on; refine wpQuiet_nil ?_; simp only [Act.put, List.setIfInBounds_toArray, List.set_cons_succ, List.set_cons_zero]) | (refine Grow.reads rfl rfl ?_; go_big_quiet_want; refine RowK.quiet_row E _ rfl _ _ rfl a1 rx ?_; go_big_quiet_on; refine wpQuiet_nil ?_; simp only [Act.put, List.setIfInBounds_toArray, List.set_cons_succ, List.set_cons_zero]) | (refine Grow.reads rfl rfl ?_; go_big_quiet_step (fail); refine wpQuiet_nil ?_))
                refine Grow.ends ?_
                go_wp2_with fail
                refine Grow.region [(0, true), (1, true), (2, true), (3, true), (4, true), (5, true), (6, true), (7, true), (8, true), (9, true), (10, true), (11, true), (12, true), (13, true), (14, true), (15, true), (16, true), (17, true), (18, true), (19, true), (20, true), (21, true), (22, true), (23, true)] (by kernel_rfl) (by kernel_rfl) rfl (by kernel_rfl) (by intro c a d v w h; cases d <;> exact h) ?_
                have ke := below_drew1 kd
                have ry' : wd.drew.rangeAt gk (ok + k * 4) (E.enc y) := ry
                have rx' : wd.drew.rangeAt _ _ (E.enc a1) := rx
                clear ry rx
                generalize wd.drew = we at ke ry' rx' ⊢
                have ry := ry'
                have rx := rx'
                clear ry' rx'
                have cy0 := Grow.grown (w := we) (fun u hu => (cells (range_below ry hu)).1)
                have cy1 := Grow.grown (w := we) (fun u hu => (cells (range_below ry hu)).2.1)
                repeat (first | (refine Grow.reads rfl rfl ?_; go_big_quiet_want; refine RowK.quiet_row E _ rfl _ _ rfl y ry ?_; go_big_quiet_on; refine wpQuiet_nil ?_; simp only [Act.put, List.setIfInBounds_toArray, List.set_cons_succ, List.set_cons_zero]) | (refine Grow.reads rfl rfl ?_; go_big_quiet_want; refine RowK.quiet_row E _ rfl _ _ rfl a1 rx ?_; go_big_quiet_on; refine wpQuiet_nil ?_; simp only [Act.put, List.setIfInBounds_toArray, List.set_cons_succ, List.set_cons_zero]) | (refine Grow.reads rfl rfl ?_; go_big_quiet_step (fail); refine wpQuiet_nil ?_))
                refine Grow.ends ?_
                go_wp2_with fail
                go_roundw
                case rel => exact ⟨k + 1, false, by omega, by go_num, rfl, aside (by rw [HS.out]; rw [decide_eq_false HYX.out]; rfl), ke⟩
                case measure => simp [intOf]; omega
        · have ek : k = M.length := by omega
          have HE2 : Hid (b = decide (a1 ∈ M)) := aside (by rw [HB.out, ek, List.take_length, Bool.false_or])
          clear HB
          have B1' := B1.below ki
          clear B1
          have B1 := B1'
          clear B1'
          have SM' := SM.below ki
          clear SM
          have SM := SM'
          clear SM'
          have kb' := kb.trans (ki.mono kb.size)
          clear kb ki
          have kb := kb'
          clear kb'
          cases c1 with
          | true =>
            have HM1 : Hid (a1 ∈ l0) := aside (by have := HE1.out; rw [Bool.false_or] at this; exact of_decide_eq_true this.symm)
            by_cases u1 : a1.key = a2
            · by_cases u2 : a1.elem = a3
              · have HGO : Hid (a1.key = a2 ∧ a1.elem = a3) := aside ⟨u1, u2⟩
                have t1 := str_yes u1
                have t2 := str_yes u2
                clear u1 u2
                have hb : b = false := by
                  rw [HE2.out]
                  rw [decide_eq_false_iff_not, HW.out]
                  rintro (h | h)
                  · exact h.2 HM1.out
                  · exact h.2 HGO.out
                subst hb
                have c0 := B1.cell (j := 0) (v := .string a1.key) rfl
                have cc1 := B1.cell (j := 1) (v := .string a1.elem) rfl
                go_wp2_with (first | go_skip | (refine RowC.gload E _ rfl _ rfl a1 B1 rfl ?_))
                have hc := PairD.may_ret AM CM M _ SM qm (by omega)
                rw [MM.out] at hc
                refine hc.mono ?_
                clear hc
                rintro e W9 ⟨rfl, k9⟩
                have B1' := B1.below k9
                clear B1
                have B1 := B1'
                clear B1'
                have SM' := SM.below k9
                clear SM
                have SM := SM'
                clear SM'
                have kb' := kb.trans (k9.mono kb.size)
                clear kb k9
                have kb := kb'
                clear kb'
                go_wp2_with (first | go_skip | (refine RowC.gload E _ rfl _ rfl a1 B1 rfl ?_))
                go_ret
                exact ⟨by first | rfl | simp, kb⟩
              · have HGO : Hid (¬ (a1.key = a2 ∧ a1.elem = a3)) := aside (fun h => u2 h.2)
                have t1 := str_yes u1
                have t2 := str_no u2
                clear u1 u2
                have hb : b = true := by
                  rw [HE2.out]
                  rw [decide_eq_true_eq, HW.out]
                  exact .inr ⟨HM1.out, HGO.out⟩
                subst hb
                have c0 := B1.cell (j := 0) (v := .string a1.key) rfl
                have cc1 := B1.cell (j := 1) (v := .string a1.elem) rfl
                go_wp2_with (first | go_skip | (refine RowC.gload E _ rfl _ rfl a1 B1 rfl ?_))
                have hc := PairD.may_ret AM CM M _ SM qm (by omega)
                rw [MM.out] at hc
                refine hc.mono ?_
                clear hc
                rintro e W9 ⟨rfl, k9⟩
                have B1' := B1.below k9
                clear B1
                have B1 := B1'
                clear B1'
                have SM' := SM.below k9
                clear SM
                have SM := SM'
                clear SM'
                have kb' := kb.trans (k9.mono kb.size)
                clear kb k9
                have kb := kb'
                clear kb'
                go_wp2_with (first | go_skip | (refine RowC.gload E _ rfl _ rfl a1 B1 rfl ?_))
                go_ret
                exact ⟨by first | rfl | simp, kb⟩
            · have HGO : Hid (¬ (a1.key = a2 ∧ a1.elem = a3)) := aside (fun h => u1 h.1)
              have t1 := str_no u1
              clear u1
              have hb : b = true := by
                rw [HE2.out]
                rw [decide_eq_true_eq, HW.out]
                exact .inr ⟨HM1.out, HGO.out⟩
              subst hb
              have c0 := B1.cell (j := 0) (v := .string a1.key) rfl
              have cc1 := B1.cell (j := 1) (v := .string a1.elem) rfl
              go_wp2_with (first | go_skip | (refine RowC.gload E _ rfl _ rfl a1 B1 rfl ?_))
              have hc := PairD.may_ret AM CM M _ SM qm (by omega)
              rw [MM.out] at hc
              refine hc.mono ?_
              clear hc
              rintro e W9 ⟨rfl, k9⟩
              have B1' := B1.below k9
              clear B1
              have B1 := B1'
              clear B1'
              have SM' := SM.below k9
              clear SM
              have SM := SM'
              clear SM'
              have kb' := kb.trans (k9.mono kb.size)
              clear kb k9
              have kb := kb'
              clear kb'
              go_wp2_with (first | go_skip | (refine RowC.gload E _ rfl _ rfl a1 B1 rfl ?_))
              go_ret
              exact ⟨by first | rfl | simp, kb⟩
          | false =>
            have HM1 : Hid (a1 ∉ l0) := aside (by have := HE1.out; rw [Bool.false_or] at this; exact of_decide_eq_false this.symm)
            by_cases u1 : a1.key = a2
            · by_cases u2 : a1.elem = a3
              · have t1 := str_yes u1
                have t2 := str_yes u2
                clear u1 u2
                have hb : b = true := by
                  rw [HE2.out]
                  rw [decide_eq_true_eq, HW.out]
                  exact .inl ⟨rfl, HM1.out⟩
                subst hb
                have c0 := B1.cell (j := 0) (v := .string a1.key) rfl
                have cc1 := B1.cell (j := 1) (v := .string a1.elem) rfl
                go_wp2_with (first | go_skip | (refine RowC.gload E _ rfl _ rfl a1 B1 rfl ?_))
                have hc := PairD.may_ret AM CM M _ SM qm (by omega)
                rw [MM.out] at hc
                refine hc.mono ?_
                clear hc
                rintro e W9 ⟨rfl, k9⟩
                have B1' := B1.below k9
                clear B1
                have B1 := B1'
                clear B1'
                have SM' := SM.below k9
                clear SM
                have SM := SM'
                clear SM'
                have kb' := kb.trans (k9.mono kb.size)
                clear kb k9
                have kb := kb'
                clear kb'
                go_wp2_with (first | go_skip | (refine RowC.gload E _ rfl _ rfl a1 B1 rfl ?_))
                go_ret
                exact ⟨by first | rfl | simp, kb⟩
              · have t1 := str_yes u1
                have t2 := str_no u2
                clear u1 u2
                have hb : b = true := by
                  rw [HE2.out]
                  rw [decide_eq_true_eq, HW.out]
                  exact .inl ⟨rfl, HM1.out⟩
                subst hb
                have c0 := B1.cell (j := 0) (v := .string a1.key) rfl
                have cc1 := B1.cell (j := 1) (v := .string a1.elem) rfl
                go_wp2_with (first | go_skip | (refine RowC.gload E _ rfl _ rfl a1 B1 rfl ?_))
                have hc := PairD.may_ret AM CM M _ SM qm (by omega)
                rw [MM.out] at hc
                refine hc.mono ?_
                clear hc
                rintro e W9 ⟨rfl, k9⟩
                have B1' := B1.below k9
                clear B1
                have B1 := B1'
                clear B1'
                have SM' := SM.below k9
                clear SM
                have SM := SM'
                clear SM'
                have kb' := kb.trans (k9.mono kb.size)
                clear kb k9
                have kb := kb'
                clear kb'
                go_wp2_with (first | go_skip | (refine RowC.gload E _ rfl _ rfl a1 B1 rfl ?_))
                go_ret
                exact ⟨by first | rfl | simp, kb⟩
            · have t1 := str_no u1
              clear u1
              have hb : b = true := by
                rw [HE2.out]
                rw [decide_eq_true_eq, HW.out]
                exact .inl ⟨rfl, HM1.out⟩
              subst hb
              have c0 := B1.cell (j := 0) (v := .string a1.key) rfl
              have cc1 := B1.cell (j := 1) (v := .string a1.elem) rfl
              go_wp2_with (first | go_skip | (refine RowC.gload E _ rfl _ rfl a1 B1 rfl ?_))
              have hc := PairD.may_ret AM CM M _ SM qm (by omega)
              rw [MM.out] at hc
              refine hc.mono ?_
              clear hc
              rintro e W9 ⟨rfl, k9⟩
              have B1' := B1.below k9
              clear B1
              have B1 := B1'
              clear B1'
              have SM' := SM.below k9
              clear SM
              have SM := SM'
              clear SM'
              have kb' := kb.trans (k9.mono kb.size)
              clear kb k9
              have kb := kb'
              clear kb'
              go_wp2_with (first | go_skip | (refine RowC.gload E _ rfl _ rfl a1 B1 rfl ?_))
              go_ret
              exact ⟨by first | rfl | simp, kb⟩

theorem walk (a0 : Option Addr) (cap0 : Nat) (l0 : List Pr) (a1 : Pr) (a2 : ByteArray) (a3 : ByteArray) (w : World) (w0 : SlR E w a0 cap0 l0) (g0 : ∀ x ∈ l0, OpenP.Good x) (g1 : OpenP.Good a1) (w2 : a2.size ≤ maxLen) (w3 : a3.size ≤ maxLen) :
    Calls Try.prog 4 #[.slice a0 l0.length cap0, .agg (pc a1), .string a2, .string a3] w fun e w' => e = .returned (.bool true) ∧ Below w.heap.size w w' := by
  cases x0 : fewB l0 with
  | false => exact out a0 cap0 l0 a1 a2 a3 w w0 g0 g1 _ _ x0 rfl (.inl rfl)
  | true =>
    cases x1 : fewB [a1] with
    | false => exact out a0 cap0 l0 a1 a2 a3 w w0 g0 g1 _ _ x0 x1 (.inr ⟨rfl, rfl⟩)
    | true =>
      cases m0 : mayP l0 with
      | false => exact outm0 a0 cap0 l0 a1 a2 a3 w w0 g0 g1 x0 x1 m0
      | true =>
        cases m1 : mayP [a1] with
        | false => exact outm1 a0 cap0 l0 a1 a2 a3 w w0 g0 g1 x0 x1 m0 m1
        | true =>
          by_cases hk : 100 < a2.size
          · exact outm2 a0 cap0 l0 a1 a2 a3 w w0 g0 g1 x0 x1 m0 m1 hk w2
          · by_cases he : 100 < a3.size
            · exact outm3 a0 cap0 l0 a1 a2 a3 w w0 g0 g1 x0 x1 m0 m1 (by omega) he w3
            · exact within a0 cap0 l0 a1 a2 a3 w w0 g0 g1 x0 x1 m0 m1 (by omega) (by omega)

theorem own : ownKnob Try.prog.godebug = none := by kernel_rfl
theorem laidOut : laidOutB Try.prog = true := by kernel_rfl
set_option linter.unusedVariables false in
set_option maxRecDepth 100000 in
theorem lifted (os : Os) (started : os.Started) (H : Type) (enc : TypeId × Value → H) :
    ReturnsInHanded {} Try.checked os 4 .any (Rows.pairWinsSpec.pre6 enc Try.prog Try.f4 Rows.pairWinsRow.domain false) (Rows.pairWinsSpec.post enc Try.prog Try.f4 false true false false) := by
  refine returnsInHanded_of_change (C := Try.checked) own started (by kernel_rfl) Try.func4
    (ChangeSpec.witness6 (enc := enc) (C := Try.checked) false ⟨#[], #[.slice none 0 0, .agg #[.string ByteArray.empty, .string ByteArray.empty, .int .i64 0, .int .i64 0], .string ByteArray.empty, .string ByteArray.empty], []⟩ 8 (by kernel_rfl) (by kernel_rfl) (by kernel_rfl) (by kernel_rfl)) ?_
  intro W base args ds gs before hval0 hW hcnd _
  have hval : ∀ (j : Nat) t v, Try.f4.params[j]? = some t → args[j]? = some v → Value.okWide Try.prog W .any base t v := hval0
  have hW' := hW
  obtain ⟨p, q, hA0, hV, rfl, hfz, hnd⟩ := hW
  have hA : DataW.TrodAll enc Try.prog W 0 (fun _ => true) true Try.f4.params.toList args.toList ds p := hA0
  rw [Try.params4] at hA hval
  obtain ⟨v0, vs0, d0, ds0, p0, q0, hargs, rfl, rfl, h0, r0⟩ := trodAll_cons hA
  obtain ⟨v1, vs1, d1, ds1, p1, q1, rfl, rfl, rfl, h1, r1⟩ := trodAll_cons r0
  obtain ⟨v2, vs2, d2, ds2, p2, q2, rfl, rfl, rfl, h2, r2⟩ := trodAll_cons r1
  obtain ⟨v3, vs3, d3, ds3, p3, q3, rfl, rfl, rfl, h3, r3⟩ := trodAll_cons r2
  obtain ⟨rfl, rfl, rfl⟩ := trodAll_nil r3
  obtain rfl : args = #[v0, v1, v2, v3] := by cases args; simp_all
  obtain ⟨rfl, rfl⟩ := trodVars_none hV
  have k0 := h0
  have lt0 : ∀ x ∈ p0, x.block < W.heap.size := by obtain ⟨m, hm⟩ := k0; exact DataW.trod_lt m _ _ _ hm
  obtain ⟨a0, cap0, l0, rfl, w0, g0⟩ := OpenP.open_pairs (hval 0 22 v0 rfl rfl) h0
  have k1 := h1
  have lt1 : ∀ x ∈ p1, x.block < W.heap.size := by obtain ⟨m, hm⟩ := k1; exact DataW.trod_lt m _ _ _ hm
  obtain ⟨a1, rfl, w1⟩ := OpenP.open_pair (hval 1 26 v1 rfl rfl) h1
  obtain ⟨a2, rfl, rfl, rfl, w2⟩ := Go.ChangeMaps.open_string Try.underlying9 (hval 2 9 v2 rfl rfl) h2
  obtain ⟨a3, rfl, rfl, rfl, w3⟩ := Go.ChangeMaps.open_string Try.underlying9 (hval 3 9 v3 rfl rfl) h3
  clear hA0 hval0
  refine (walk a0 cap0 l0 a1 a2 a3 W w0 g0 w1 w2 w3).mono fun e W' ⟨he, bel⟩ => ?_
  subst he
  exact ⟨_, rfl, _, _, _, [], _, [], hW', trodAll_mk1 (shut_bool Try.underlying4 _), (trodAll_cons_mk (Below.trod laidOut (by kernel_rfl) (of_decide_eq_true (by kernel_rfl)) k0 bel lt0) (trodAll_cons_mk (Below.trod laidOut (by kernel_rfl) (of_decide_eq_true (by kernel_rfl)) k1 bel lt1) (trodAll_cons_mk (Go.ChangeMaps.shut_string Try.underlying9 w2) (trodAll_cons_mk (Go.ChangeMaps.shut_string Try.underlying9 w3) trodAll_mk0)))), rfl, bel.frame _, fun h => by cases h⟩

theorem over : Rows.pairWinsRow.holds Try.pinned (OpenSpec.ofChange Rows.pairWinsSpec) :=
  OpenClaim.holds_of_wide 4 Try.f4 rfl rfl rfl rfl rfl rfl rfl ⟨rfl, rfl, rfl, rfl, rfl⟩ rfl rfl rfl rfl rfl (by kernel_rfl) Try.func4 (by kernel_rfl)
    (of_decide_eq_true (by kernel_rfl)) (by unfold Func.isWrapper; first | (rw [if_pos (by decide +kernel)]; kernel_rfl) | (rw [if_neg (by decide +kernel)]; exact ⟨rfl, rfl⟩))
    (fun os started H enc _ => lifted os started H enc)

theorem proved : Rows.PairWinsSaid := over
end Go.Proofs.Ytcodipgooofppaa.pairWins
