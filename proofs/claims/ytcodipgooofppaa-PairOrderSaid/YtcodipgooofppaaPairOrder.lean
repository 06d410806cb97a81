/- PairOrder returns true for every input: pairs that are added, and elements that are taken away, twice, are as once; two are added in whichever order; what is taken away of another element does not matter. No condition. -/
import Derived.Test.YtcodipgooofppaaPairA
import Derived.Test.YtcodipgooofppaaRowF
import Derived.Test.YtcodipgooofppaaRowK
import Derived.ShutString
import Derived.ChangeOld
namespace Go.Proofs.Ytcodipgooofppaa.pairOrder
open Go Go.ChangeShapes Go.WideShapes Go.ChangeAt Go.RowKit Byt OpsM Rise PairM PairN RowS RowB PairW PairS PairG PairQ PairU Txt PairX PairA

set_option maxRecDepth 100000 in
set_option maxHeartbeats 8000000 in
theorem out (a0 : Option Addr) (cap0 : Nat) (l0 : List Pr) (a1 : Pr) (a2 : Pr) (w : World) (w0 : SlR E w a0 cap0 l0) (g0 : ∀ x ∈ l0, OpenP.Good x) (g1 : OpenP.Good a1) (g2 : OpenP.Good a2) (b0 b1 : Bool) (x0 : fewB l0 = b0) (x1 : fewB [a1, a2] = b1) (h : b0 = false ∨ (b0 = true ∧ b1 = false)) :
    Calls Try.prog 7 #[.slice a0 l0.length cap0, .agg (pc a1), .agg (pc a2)] w fun e w' => e = .returned (.bool true) ∧ Below w.heap.size w w' := by
  rcases h with rfl | ⟨rfl, rfl⟩
  all_goals
    have B1 : Box E (w.alloc (.cells (pc a1) 26)) (w.heap.size) a1 := by exact Box.new w a1 _
    have Z1 := below_alloc w (.cells (pc a1) 26)
    have w0' := w0.below Z1
    clear w0
    have w0 := w0'
    clear w0'
    have z1 : (w.alloc (.cells (pc a1) 26)).heap.size = w.heap.size + 1 := by simp
    have B2 : Box E ((w.alloc (.cells (pc a1) 26)).alloc (.cells (pc a2) 26)) (w.heap.size + 1) a2 := by rw [← z1]; exact Box.new (w.alloc (.cells (pc a1) 26)) a2 _
    have Z2 := below_alloc (w.alloc (.cells (pc a1) 26)) (.cells (pc a2) 26)
    have w0' := w0.below Z2
    clear w0
    have w0 := w0'
    clear w0'
    have B1' := B1.below Z2
    clear B1
    have B1 := B1'
    clear B1'
    have kb : Below w.heap.size w ((w.alloc (.cells (pc a1) 26)).alloc (.cells (pc a2) 26)) := by go_grown
    clear Z1 Z2
    go_enter Try.func7, Try.ntmps7
    go_wp2_with fail
    refine (awake _).mono ?_
    rintro e W1 ⟨rfl, k1⟩
    have w0' := w0.below k1
    clear w0
    have w0 := w0'
    clear w0'
    have B1' := B1.below k1
    clear B1
    have B1 := B1'
    clear B1'
    have B2' := B2.below k1
    clear B2
    have B2 := B2'
    clear B2'
    have kb' := kb.trans (k1.mono kb.size)
    clear kb k1
    have kb := kb'
    clear kb'
    go_wp2_with (first | go_skip | (refine RowC.gload E _ rfl _ rfl a1 B1 rfl ?_) | (refine RowC.gload E _ rfl _ rfl a2 B2 rfl ?_))
    have hc := few_ret a0 cap0 l0 _ w0 (max_of g0)
    rw [x0] at hc
    refine hc.mono ?_
    clear hc
    rintro e w' ⟨rfl, rfl⟩
    go_wp2_with (first | go_skip | (refine RowC.gload E _ rfl _ rfl a1 B1 rfl ?_) | (refine RowC.gload E _ rfl _ rfl a2 B2 rfl ?_) | (refine RowC.wpList_lit2 E (of_decide_eq_true rfl) rfl _ _ rfl a1 a2 rfl rfl ?_; intro W2 T k2; have w0' := w0.below k2; clear w0; have w0 := w0'; clear w0'; have B1' := B1.below k2; clear B1; have B1 := B1'; clear B1'; have B2' := B2.below k2; clear B2; have B2 := B2'; clear B2'; have kb' := kb.trans (k2.mono kb.size); clear kb k2; have kb := kb'; clear kb'))
    have hc := few_ret _ _ [a1, a2] _ T (max_of (two_of g1 g2))
    rw [x1] at hc
    refine hc.mono ?_
    clear hc
    rintro e w' ⟨rfl, rfl⟩
    clear T
    go_wp2_with (first | go_skip | (refine RowC.gload E _ rfl _ rfl a1 B1 rfl ?_) | (refine RowC.gload E _ rfl _ rfl a2 B2 rfl ?_))
    go_ret
    exact ⟨by first | rfl | simp, kb⟩

set_option maxRecDepth 100000 in
set_option maxHeartbeats 8000000 in
theorem outm0 (a0 : Option Addr) (cap0 : Nat) (l0 : List Pr) (a1 : Pr) (a2 : Pr) (w : World) (w0 : SlR E w a0 cap0 l0) (g0 : ∀ x ∈ l0, OpenP.Good x) (g1 : OpenP.Good a1) (g2 : OpenP.Good a2) (x0 : fewB l0 = true) (x1 : fewB [a1, a2] = true) (m0 : mayP l0 = false) :
    Calls Try.prog 7 #[.slice a0 l0.length cap0, .agg (pc a1), .agg (pc a2)] w fun e w' => e = .returned (.bool true) ∧ Below w.heap.size w w' := by
  have y0 := few_len x0
  have f0 := few_fits x0 g0
  obtain ⟨fa, fb⟩ := fit_two x1 g1 g2
  obtain ⟨⟨hk1, he1⟩, hk2, he2⟩ := few_two x1
  have fA := fits_one fa
  have fB := fits_one fb
  have X0 := aside x0
  have X1 := aside x1
  have M0 := aside m0
  clear x0 x1 m0
  have B1 : Box E (w.alloc (.cells (pc a1) 26)) (w.heap.size) a1 := by exact Box.new w a1 _
  have Z1 := below_alloc w (.cells (pc a1) 26)
  have w0' := w0.below Z1
  clear w0
  have w0 := w0'
  clear w0'
  have z1 : (w.alloc (.cells (pc a1) 26)).heap.size = w.heap.size + 1 := by simp
  have B2 : Box E ((w.alloc (.cells (pc a1) 26)).alloc (.cells (pc a2) 26)) (w.heap.size + 1) a2 := by rw [← z1]; exact Box.new (w.alloc (.cells (pc a1) 26)) a2 _
  have Z2 := below_alloc (w.alloc (.cells (pc a1) 26)) (.cells (pc a2) 26)
  have w0' := w0.below Z2
  clear w0
  have w0 := w0'
  clear w0'
  have B1' := B1.below Z2
  clear B1
  have B1 := B1'
  clear B1'
  have kb : Below w.heap.size w ((w.alloc (.cells (pc a1) 26)).alloc (.cells (pc a2) 26)) := by go_grown
  clear Z1 Z2
  go_enter Try.func7, Try.ntmps7
  go_wp2_with fail
  refine (awake _).mono ?_
  rintro e W1 ⟨rfl, k1⟩
  have w0' := w0.below k1
  clear w0
  have w0 := w0'
  clear w0'
  have B1' := B1.below k1
  clear B1
  have B1 := B1'
  clear B1'
  have B2' := B2.below k1
  clear B2
  have B2 := B2'
  clear B2'
  have kb' := kb.trans (k1.mono kb.size)
  clear kb k1
  have kb := kb'
  clear kb'
  go_wp2_with (first | go_skip | (refine RowC.gload E _ rfl _ rfl a1 B1 rfl ?_) | (refine RowC.gload E _ rfl _ rfl a2 B2 rfl ?_))
  have hc := few_ret a0 cap0 l0 _ w0 (max_of g0)
  rw [X0.out] at hc
  refine hc.mono ?_
  clear hc
  rintro e w' ⟨rfl, rfl⟩
  go_wp2_with (first | go_skip | (refine RowC.gload E _ rfl _ rfl a1 B1 rfl ?_) | (refine RowC.gload E _ rfl _ rfl a2 B2 rfl ?_) | (refine RowC.wpList_lit2 E (of_decide_eq_true rfl) rfl _ _ rfl a1 a2 rfl rfl ?_; intro W2 T k2; have w0' := w0.below k2; clear w0; have w0 := w0'; clear w0'; have B1' := B1.below k2; clear B1; have B1 := B1'; clear B1'; have B2' := B2.below k2; clear B2; have B2 := B2'; clear B2'; have kb' := kb.trans (k2.mono kb.size); clear kb k2; have kb := kb'; clear kb'))
  have hc := few_ret _ _ [a1, a2] _ T (max_of (two_of g1 g2))
  rw [X1.out] at hc
  refine hc.mono ?_
  clear hc
  rintro e w' ⟨rfl, rfl⟩
  clear T
  go_wp2_with (first | go_skip | (refine RowC.gload E _ rfl _ rfl a1 B1 rfl ?_) | (refine RowC.gload E _ rfl _ rfl a2 B2 rfl ?_))
  have hc := PairD.may_ret a0 cap0 l0 _ w0 f0 (by omega)
  rw [M0.out] at hc
  refine hc.mono ?_
  clear hc
  rintro e W3 ⟨rfl, k3⟩
  have w0' := w0.below k3
  clear w0
  have w0 := w0'
  clear w0'
  have B1' := B1.below k3
  clear B1
  have B1 := B1'
  clear B1'
  have B2' := B2.below k3
  clear B2
  have B2 := B2'
  clear B2'
  have kb' := kb.trans (k3.mono kb.size)
  clear kb k3
  have kb := kb'
  clear kb'
  go_wp2_with (first | go_skip | (refine RowC.gload E _ rfl _ rfl a1 B1 rfl ?_) | (refine RowC.gload E _ rfl _ rfl a2 B2 rfl ?_))
  go_ret
  exact ⟨by first | rfl | simp, kb⟩

set_option maxRecDepth 100000 in
set_option maxHeartbeats 8000000 in
theorem outm1 (a0 : Option Addr) (cap0 : Nat) (l0 : List Pr) (a1 : Pr) (a2 : Pr) (w : World) (w0 : SlR E w a0 cap0 l0) (g0 : ∀ x ∈ l0, OpenP.Good x) (g1 : OpenP.Good a1) (g2 : OpenP.Good a2) (x0 : fewB l0 = true) (x1 : fewB [a1, a2] = true) (m0 : mayP l0 = true) (m1 : mayP [a1] = false) :
    Calls Try.prog 7 #[.slice a0 l0.length cap0, .agg (pc a1), .agg (pc a2)] w fun e w' => e = .returned (.bool true) ∧ Below w.heap.size w w' := by
  have y0 := few_len x0
  have f0 := few_fits x0 g0
  obtain ⟨fa, fb⟩ := fit_two x1 g1 g2
  obtain ⟨⟨hk1, he1⟩, hk2, he2⟩ := few_two x1
  have fA := fits_one fa
  have fB := fits_one fb
  have X0 := aside x0
  have X1 := aside x1
  have M0 := aside m0
  have M1 := aside m1
  clear x0 x1 m0 m1
  have B1 : Box E (w.alloc (.cells (pc a1) 26)) (w.heap.size) a1 := by exact Box.new w a1 _
  have Z1 := below_alloc w (.cells (pc a1) 26)
  have w0' := w0.below Z1
  clear w0
  have w0 := w0'
  clear w0'
  have z1 : (w.alloc (.cells (pc a1) 26)).heap.size = w.heap.size + 1 := by simp
  have B2 : Box E ((w.alloc (.cells (pc a1) 26)).alloc (.cells (pc a2) 26)) (w.heap.size + 1) a2 := by rw [← z1]; exact Box.new (w.alloc (.cells (pc a1) 26)) a2 _
  have Z2 := below_alloc (w.alloc (.cells (pc a1) 26)) (.cells (pc a2) 26)
  have w0' := w0.below Z2
  clear w0
  have w0 := w0'
  clear w0'
  have B1' := B1.below Z2
  clear B1
  have B1 := B1'
  clear B1'
  have kb : Below w.heap.size w ((w.alloc (.cells (pc a1) 26)).alloc (.cells (pc a2) 26)) := by go_grown
  clear Z1 Z2
  go_enter Try.func7, Try.ntmps7
  go_wp2_with fail
  refine (awake _).mono ?_
  rintro e W1 ⟨rfl, k1⟩
  have w0' := w0.below k1
  clear w0
  have w0 := w0'
  clear w0'
  have B1' := B1.below k1
  clear B1
  have B1 := B1'
  clear B1'
  have B2' := B2.below k1
  clear B2
  have B2 := B2'
  clear B2'
  have kb' := kb.trans (k1.mono kb.size)
  clear kb k1
  have kb := kb'
  clear kb'
  go_wp2_with (first | go_skip | (refine RowC.gload E _ rfl _ rfl a1 B1 rfl ?_) | (refine RowC.gload E _ rfl _ rfl a2 B2 rfl ?_))
  have hc := few_ret a0 cap0 l0 _ w0 (max_of g0)
  rw [X0.out] at hc
  refine hc.mono ?_
  clear hc
  rintro e w' ⟨rfl, rfl⟩
  go_wp2_with (first | go_skip | (refine RowC.gload E _ rfl _ rfl a1 B1 rfl ?_) | (refine RowC.gload E _ rfl _ rfl a2 B2 rfl ?_) | (refine RowC.wpList_lit2 E (of_decide_eq_true rfl) rfl _ _ rfl a1 a2 rfl rfl ?_; intro W2 T k2; have w0' := w0.below k2; clear w0; have w0 := w0'; clear w0'; have B1' := B1.below k2; clear B1; have B1 := B1'; clear B1'; have B2' := B2.below k2; clear B2; have B2 := B2'; clear B2'; have kb' := kb.trans (k2.mono kb.size); clear kb k2; have kb := kb'; clear kb'))
  have hc := few_ret _ _ [a1, a2] _ T (max_of (two_of g1 g2))
  rw [X1.out] at hc
  refine hc.mono ?_
  clear hc
  rintro e w' ⟨rfl, rfl⟩
  clear T
  go_wp2_with (first | go_skip | (refine RowC.gload E _ rfl _ rfl a1 B1 rfl ?_) | (refine RowC.gload E _ rfl _ rfl a2 B2 rfl ?_))
  have hc := PairD.may_ret a0 cap0 l0 _ w0 f0 (by omega)
  rw [M0.out] at hc
  refine hc.mono ?_
  clear hc
  rintro e W3 ⟨rfl, k3⟩
  have w0' := w0.below k3
  clear w0
  have w0 := w0'
  clear w0'
  have B1' := B1.below k3
  clear B1
  have B1 := B1'
  clear B1'
  have B2' := B2.below k3
  clear B2
  have B2 := B2'
  clear B2'
  have kb' := kb.trans (k3.mono kb.size)
  clear kb k3
  have kb := kb'
  clear kb'
  go_wp2_with (first | go_skip | (refine RowC.gload E _ rfl _ rfl a1 B1 rfl ?_) | (refine RowC.gload E _ rfl _ rfl a2 B2 rfl ?_) | (refine RowC.glit1 E (of_decide_eq_true rfl) _ rfl a1 rfl rfl ?_; intro W4 T1 k4; have w0' := w0.below k4; clear w0; have w0 := w0'; clear w0'; have B1' := B1.below k4; clear B1; have B1 := B1'; clear B1'; have B2' := B2.below k4; clear B2; have B2 := B2'; clear B2'; have kb' := kb.trans (k4.mono kb.size); clear kb k4; have kb := kb'; clear kb'))
  have hc := PairD.may_ret _ _ [a1] _ T1 fA (by simp)
  rw [M1.out] at hc
  refine hc.mono ?_
  clear hc
  rintro e W5 ⟨rfl, k5⟩
  have w0' := w0.below k5
  clear w0
  have w0 := w0'
  clear w0'
  have B1' := B1.below k5
  clear B1
  have B1 := B1'
  clear B1'
  have B2' := B2.below k5
  clear B2
  have B2 := B2'
  clear B2'
  have T1' := T1.below k5
  clear T1
  have T1 := T1'
  clear T1'
  have kb' := kb.trans (k5.mono kb.size)
  clear kb k5
  have kb := kb'
  clear kb'
  go_wp2_with (first | go_skip | (refine RowC.gload E _ rfl _ rfl a1 B1 rfl ?_) | (refine RowC.gload E _ rfl _ rfl a2 B2 rfl ?_))
  go_ret
  exact ⟨by first | rfl | simp, kb⟩

set_option maxRecDepth 100000 in
set_option maxHeartbeats 8000000 in
theorem outm2 (a0 : Option Addr) (cap0 : Nat) (l0 : List Pr) (a1 : Pr) (a2 : Pr) (w : World) (w0 : SlR E w a0 cap0 l0) (g0 : ∀ x ∈ l0, OpenP.Good x) (g1 : OpenP.Good a1) (g2 : OpenP.Good a2) (x0 : fewB l0 = true) (x1 : fewB [a1, a2] = true) (m0 : mayP l0 = true) (m1 : mayP [a1] = true) (m2 : mayP [a2] = false) :
    Calls Try.prog 7 #[.slice a0 l0.length cap0, .agg (pc a1), .agg (pc a2)] w fun e w' => e = .returned (.bool true) ∧ Below w.heap.size w w' := by
  have y0 := few_len x0
  have f0 := few_fits x0 g0
  obtain ⟨fa, fb⟩ := fit_two x1 g1 g2
  obtain ⟨⟨hk1, he1⟩, hk2, he2⟩ := few_two x1
  have fA := fits_one fa
  have fB := fits_one fb
  have X0 := aside x0
  have X1 := aside x1
  have M0 := aside m0
  have M1 := aside m1
  have M2 := aside m2
  clear x0 x1 m0 m1 m2
  have B1 : Box E (w.alloc (.cells (pc a1) 26)) (w.heap.size) a1 := by exact Box.new w a1 _
  have Z1 := below_alloc w (.cells (pc a1) 26)
  have w0' := w0.below Z1
  clear w0
  have w0 := w0'
  clear w0'
  have z1 : (w.alloc (.cells (pc a1) 26)).heap.size = w.heap.size + 1 := by simp
  have B2 : Box E ((w.alloc (.cells (pc a1) 26)).alloc (.cells (pc a2) 26)) (w.heap.size + 1) a2 := by rw [← z1]; exact Box.new (w.alloc (.cells (pc a1) 26)) a2 _
  have Z2 := below_alloc (w.alloc (.cells (pc a1) 26)) (.cells (pc a2) 26)
  have w0' := w0.below Z2
  clear w0
  have w0 := w0'
  clear w0'
  have B1' := B1.below Z2
  clear B1
  have B1 := B1'
  clear B1'
  have kb : Below w.heap.size w ((w.alloc (.cells (pc a1) 26)).alloc (.cells (pc a2) 26)) := by go_grown
  clear Z1 Z2
  go_enter Try.func7, Try.ntmps7
  go_wp2_with fail
  refine (awake _).mono ?_
  rintro e W1 ⟨rfl, k1⟩
  have w0' := w0.below k1
  clear w0
  have w0 := w0'
  clear w0'
  have B1' := B1.below k1
  clear B1
  have B1 := B1'
  clear B1'
  have B2' := B2.below k1
  clear B2
  have B2 := B2'
  clear B2'
  have kb' := kb.trans (k1.mono kb.size)
  clear kb k1
  have kb := kb'
  clear kb'
  go_wp2_with (first | go_skip | (refine RowC.gload E _ rfl _ rfl a1 B1 rfl ?_) | (refine RowC.gload E _ rfl _ rfl a2 B2 rfl ?_))
  have hc := few_ret a0 cap0 l0 _ w0 (max_of g0)
  rw [X0.out] at hc
  refine hc.mono ?_
  clear hc
  rintro e w' ⟨rfl, rfl⟩
  go_wp2_with (first | go_skip | (refine RowC.gload E _ rfl _ rfl a1 B1 rfl ?_) | (refine RowC.gload E _ rfl _ rfl a2 B2 rfl ?_) | (refine RowC.wpList_lit2 E (of_decide_eq_true rfl) rfl _ _ rfl a1 a2 rfl rfl ?_; intro W2 T k2; have w0' := w0.below k2; clear w0; have w0 := w0'; clear w0'; have B1' := B1.below k2; clear B1; have B1 := B1'; clear B1'; have B2' := B2.below k2; clear B2; have B2 := B2'; clear B2'; have kb' := kb.trans (k2.mono kb.size); clear kb k2; have kb := kb'; clear kb'))
  have hc := few_ret _ _ [a1, a2] _ T (max_of (two_of g1 g2))
  rw [X1.out] at hc
  refine hc.mono ?_
  clear hc
  rintro e w' ⟨rfl, rfl⟩
  clear T
  go_wp2_with (first | go_skip | (refine RowC.gload E _ rfl _ rfl a1 B1 rfl ?_) | (refine RowC.gload E _ rfl _ rfl a2 B2 rfl ?_))
  have hc := PairD.may_ret a0 cap0 l0 _ w0 f0 (by omega)
  rw [M0.out] at hc
  refine hc.mono ?_
  clear hc
  rintro e W3 ⟨rfl, k3⟩
  have w0' := w0.below k3
  clear w0
  have w0 := w0'
  clear w0'
  have B1' := B1.below k3
  clear B1
  have B1 := B1'
  clear B1'
  have B2' := B2.below k3
  clear B2
  have B2 := B2'
  clear B2'
  have kb' := kb.trans (k3.mono kb.size)
  clear kb k3
  have kb := kb'
  clear kb'
  go_wp2_with (first | go_skip | (refine RowC.gload E _ rfl _ rfl a1 B1 rfl ?_) | (refine RowC.gload E _ rfl _ rfl a2 B2 rfl ?_) | (refine RowC.glit1 E (of_decide_eq_true rfl) _ rfl a1 rfl rfl ?_; intro W4 T1 k4; have w0' := w0.below k4; clear w0; have w0 := w0'; clear w0'; have B1' := B1.below k4; clear B1; have B1 := B1'; clear B1'; have B2' := B2.below k4; clear B2; have B2 := B2'; clear B2'; have kb' := kb.trans (k4.mono kb.size); clear kb k4; have kb := kb'; clear kb'))
  have hc := PairD.may_ret _ _ [a1] _ T1 fA (by simp)
  rw [M1.out] at hc
  refine hc.mono ?_
  clear hc
  rintro e W5 ⟨rfl, k5⟩
  have w0' := w0.below k5
  clear w0
  have w0 := w0'
  clear w0'
  have B1' := B1.below k5
  clear B1
  have B1 := B1'
  clear B1'
  have B2' := B2.below k5
  clear B2
  have B2 := B2'
  clear B2'
  have T1' := T1.below k5
  clear T1
  have T1 := T1'
  clear T1'
  have kb' := kb.trans (k5.mono kb.size)
  clear kb k5
  have kb := kb'
  clear kb'
  go_wp2_with (first | go_skip | (refine RowC.gload E _ rfl _ rfl a1 B1 rfl ?_) | (refine RowC.gload E _ rfl _ rfl a2 B2 rfl ?_) | (refine RowC.glit1 E (of_decide_eq_true rfl) _ rfl a2 rfl rfl ?_; intro W6 T2 k6; have w0' := w0.below k6; clear w0; have w0 := w0'; clear w0'; have B1' := B1.below k6; clear B1; have B1 := B1'; clear B1'; have B2' := B2.below k6; clear B2; have B2 := B2'; clear B2'; have T1' := T1.below k6; clear T1; have T1 := T1'; clear T1'; have kb' := kb.trans (k6.mono kb.size); clear kb k6; have kb := kb'; clear kb'))
  have hc := PairD.may_ret _ _ [a2] _ T2 fB (by simp)
  rw [M2.out] at hc
  refine hc.mono ?_
  clear hc
  rintro e W7 ⟨rfl, k7⟩
  have w0' := w0.below k7
  clear w0
  have w0 := w0'
  clear w0'
  have B1' := B1.below k7
  clear B1
  have B1 := B1'
  clear B1'
  have B2' := B2.below k7
  clear B2
  have B2 := B2'
  clear B2'
  have T1' := T1.below k7
  clear T1
  have T1 := T1'
  clear T1'
  have T2' := T2.below k7
  clear T2
  have T2 := T2'
  clear T2'
  have kb' := kb.trans (k7.mono kb.size)
  clear kb k7
  have kb := kb'
  clear kb'
  go_wp2_with (first | go_skip | (refine RowC.gload E _ rfl _ rfl a1 B1 rfl ?_) | (refine RowC.gload E _ rfl _ rfl a2 B2 rfl ?_))
  go_ret
  exact ⟨by first | rfl | simp, kb⟩

set_option maxRecDepth 100000 in
set_option maxHeartbeats 32000000 in
theorem way_s (a0 : Option Addr) (cap0 : Nat) (l0 : List Pr) (a1 : Pr) (a2 : Pr) (w : World) (w0 : SlR E w a0 cap0 l0) (g0 : ∀ x ∈ l0, OpenP.Good x) (g1 : OpenP.Good a1) (g2 : OpenP.Good a2) (x0 : fewB l0 = true) (x1 : fewB [a1, a2] = true) (m0 : mayP l0 = true) (m1 : mayP [a1] = true) (m2 : mayP [a2] = true) (hk : a1.key = a2.key) (he : a1.elem = a2.elem) :
    Calls Try.prog 7 #[.slice a0 l0.length cap0, .agg (pc a1), .agg (pc a2)] w fun e w' => e = .returned (.bool true) ∧ Below w.heap.size w w' := by
  have y0 := few_len x0
  have f0 := few_fits x0 g0
  obtain ⟨fa, fb⟩ := fit_two x1 g1 g2
  obtain ⟨⟨hk1, he1⟩, hk2, he2⟩ := few_two x1
  have fA := fits_one fa
  have fB := fits_one fb
  have X0 := aside x0
  have X1 := aside x1
  have o1 : oneP a1 = true := by rw [← may_one]; exact m1
  have o2 : oneP a2 = true := by rw [← may_one]; exact m2
  have p1 := add_length l0 a1
  have p2 := add_length l0 a2
  have p3 := del_length l0 a1.key a1.elem
  have p4 := del_length l0 a2.key a2.elem
  have q1 := add_fits f0 fa
  have q2 := add_fits f0 fb
  have q3 := del_fits (k := a1.key) (e := a1.elem) f0
  have q4 := del_fits (k := a2.key) (e := a2.elem) f0
  have e1 := add_twice m0 o1
  have e2 := add_turn m0 o1 o2
  have e3 := del_twice (k := a1.key) (e := a1.elem) m0
  obtain ⟨P, hP⟩ : ∃ l, addP l0 a1 = l := ⟨_, rfl⟩
  obtain ⟨Q, hQ⟩ : ∃ l, addP l0 a2 = l := ⟨_, rfl⟩
  obtain ⟨D, hD⟩ : ∃ l, delP l0 a1.key a1.elem = l := ⟨_, rfl⟩
  obtain ⟨G, hG⟩ : ∃ l, delP l0 a2.key a2.elem = l := ⟨_, rfl⟩
  rw [hP] at p1 q1 e1 e2
  rw [hQ] at p2 q2 e2
  rw [hD] at p3 q3 e3
  rw [hG] at p4 q4
  obtain ⟨R, hR⟩ : ∃ l, addP P a2 = l := ⟨_, rfl⟩
  rw [hR] at e2
  have HP := aside hP
  have HQ := aside hQ
  have HD := aside hD
  have HG := aside hG
  have HR := aside hR
  have E1 := aside e1
  have E2 := aside e2.symm
  have E3 := aside e3
  have M0 := aside m0
  have M1 := aside m1
  have M2 := aside m2
  have t1 := str_yes hk
  have t2 := str_yes he
  clear x0 x1 m0 m1 m2 o1 o2 e1 e2 e3 hP hQ hD hG hR hk he
  have B1 : Box E (w.alloc (.cells (pc a1) 26)) (w.heap.size) a1 := by exact Box.new w a1 _
  have Z1 := below_alloc w (.cells (pc a1) 26)
  have w0' := w0.below Z1
  clear w0
  have w0 := w0'
  clear w0'
  have z1 : (w.alloc (.cells (pc a1) 26)).heap.size = w.heap.size + 1 := by simp
  have B2 : Box E ((w.alloc (.cells (pc a1) 26)).alloc (.cells (pc a2) 26)) (w.heap.size + 1) a2 := by rw [← z1]; exact Box.new (w.alloc (.cells (pc a1) 26)) a2 _
  have Z2 := below_alloc (w.alloc (.cells (pc a1) 26)) (.cells (pc a2) 26)
  have w0' := w0.below Z2
  clear w0
  have w0 := w0'
  clear w0'
  have B1' := B1.below Z2
  clear B1
  have B1 := B1'
  clear B1'
  have kb : Below w.heap.size w ((w.alloc (.cells (pc a1) 26)).alloc (.cells (pc a2) 26)) := by go_grown
  clear Z1 Z2
  go_enter Try.func7, Try.ntmps7
  go_wp2_with fail
  refine (awake _).mono ?_
  rintro e W1 ⟨rfl, k1⟩
  have w0' := w0.below k1
  clear w0
  have w0 := w0'
  clear w0'
  have B1' := B1.below k1
  clear B1
  have B1 := B1'
  clear B1'
  have B2' := B2.below k1
  clear B2
  have B2 := B2'
  clear B2'
  have kb' := kb.trans (k1.mono kb.size)
  clear kb k1
  have kb := kb'
  clear kb'
  go_wp2_with (first | go_skip | (refine RowC.gload E _ rfl _ rfl a1 B1 rfl ?_) | (refine RowC.gload E _ rfl _ rfl a2 B2 rfl ?_))
  have hc := few_ret a0 cap0 l0 _ w0 (max_of g0)
  rw [X0.out] at hc
  refine hc.mono ?_
  clear hc
  rintro e w' ⟨rfl, rfl⟩
  go_wp2_with (first | go_skip | (refine RowC.gload E _ rfl _ rfl a1 B1 rfl ?_) | (refine RowC.gload E _ rfl _ rfl a2 B2 rfl ?_) | (refine RowC.wpList_lit2 E (of_decide_eq_true rfl) rfl _ _ rfl a1 a2 rfl rfl ?_; intro W2 T k2; have w0' := w0.below k2; clear w0; have w0 := w0'; clear w0'; have B1' := B1.below k2; clear B1; have B1 := B1'; clear B1'; have B2' := B2.below k2; clear B2; have B2 := B2'; clear B2'; have kb' := kb.trans (k2.mono kb.size); clear kb k2; have kb := kb'; clear kb'))
  have hc := few_ret _ _ [a1, a2] _ T (max_of (two_of g1 g2))
  rw [X1.out] at hc
  refine hc.mono ?_
  clear hc
  rintro e w' ⟨rfl, rfl⟩
  clear T
  go_wp2_with (first | go_skip | (refine RowC.gload E _ rfl _ rfl a1 B1 rfl ?_) | (refine RowC.gload E _ rfl _ rfl a2 B2 rfl ?_))
  have hc := PairD.may_ret a0 cap0 l0 _ w0 f0 (by omega)
  rw [M0.out] at hc
  refine hc.mono ?_
  clear hc
  rintro e W3 ⟨rfl, k3⟩
  have w0' := w0.below k3
  clear w0
  have w0 := w0'
  clear w0'
  have B1' := B1.below k3
  clear B1
  have B1 := B1'
  clear B1'
  have B2' := B2.below k3
  clear B2
  have B2 := B2'
  clear B2'
  have kb' := kb.trans (k3.mono kb.size)
  clear kb k3
  have kb := kb'
  clear kb'
  go_wp2_with (first | go_skip | (refine RowC.gload E _ rfl _ rfl a1 B1 rfl ?_) | (refine RowC.gload E _ rfl _ rfl a2 B2 rfl ?_) | (refine RowC.glit1 E (of_decide_eq_true rfl) _ rfl a1 rfl rfl ?_; intro W4 T1 k4; have w0' := w0.below k4; clear w0; have w0 := w0'; clear w0'; have B1' := B1.below k4; clear B1; have B1 := B1'; clear B1'; have B2' := B2.below k4; clear B2; have B2 := B2'; clear B2'; have kb' := kb.trans (k4.mono kb.size); clear kb k4; have kb := kb'; clear kb'))
  have hc := PairD.may_ret _ _ [a1] _ T1 fA (by simp)
  rw [M1.out] at hc
  refine hc.mono ?_
  clear hc
  rintro e W5 ⟨rfl, k5⟩
  clear T1
  have w0' := w0.below k5
  clear w0
  have w0 := w0'
  clear w0'
  have B1' := B1.below k5
  clear B1
  have B1 := B1'
  clear B1'
  have B2' := B2.below k5
  clear B2
  have B2 := B2'
  clear B2'
  have kb' := kb.trans (k5.mono kb.size)
  clear kb k5
  have kb := kb'
  clear kb'
  go_wp2_with (first | go_skip | (refine RowC.gload E _ rfl _ rfl a1 B1 rfl ?_) | (refine RowC.gload E _ rfl _ rfl a2 B2 rfl ?_) | (refine RowC.glit1 E (of_decide_eq_true rfl) _ rfl a2 rfl rfl ?_; intro W6 T2 k6; have w0' := w0.below k6; clear w0; have w0 := w0'; clear w0'; have B1' := B1.below k6; clear B1; have B1 := B1'; clear B1'; have B2' := B2.below k6; clear B2; have B2 := B2'; clear B2'; have kb' := kb.trans (k6.mono kb.size); clear kb k6; have kb := kb'; clear kb'))
  have hc := PairD.may_ret _ _ [a2] _ T2 fB (by simp)
  rw [M2.out] at hc
  refine hc.mono ?_
  clear hc
  rintro e W7 ⟨rfl, k7⟩
  clear T2
  have w0' := w0.below k7
  clear w0
  have w0 := w0'
  clear w0'
  have B1' := B1.below k7
  clear B1
  have B1 := B1'
  clear B1'
  have B2' := B2.below k7
  clear B2
  have B2 := B2'
  clear B2'
  have kb' := kb.trans (k7.mono kb.size)
  clear kb k7
  have kb := kb'
  clear kb'
  go_wp2_with (first | go_skip | (refine RowC.gload E _ rfl _ rfl a1 B1 rfl ?_) | (refine RowC.gload E _ rfl _ rfl a2 B2 rfl ?_))
  have hc := PairD.add_ret a0 cap0 l0 a1 _ w0 f0 fa (by omega)
  rw [HP.out] at hc
  refine hc.mono ?_
  clear hc
  rintro e W8 ⟨AP, CP, rfl, SP, k8⟩
  have w0' := w0.below k8
  clear w0
  have w0 := w0'
  clear w0'
  have B1' := B1.below k8
  clear B1
  have B1 := B1'
  clear B1'
  have B2' := B2.below k8
  clear B2
  have B2 := B2'
  clear B2'
  have kb' := kb.trans (k8.mono kb.size)
  clear kb k8
  have kb := kb'
  clear kb'
  go_wp2_with (first | go_skip | (refine RowC.gload E _ rfl _ rfl a1 B1 rfl ?_) | (refine RowC.gload E _ rfl _ rfl a2 B2 rfl ?_))
  have hc := PairD.add_ret AP CP P a1 _ SP q1 fa (by omega)
  rw [E1.out] at hc
  refine hc.mono ?_
  clear hc
  rintro e W9 ⟨AT, CT, rfl, ST, k9⟩
  have w0' := w0.below k9
  clear w0
  have w0 := w0'
  clear w0'
  have B1' := B1.below k9
  clear B1
  have B1 := B1'
  clear B1'
  have B2' := B2.below k9
  clear B2
  have B2 := B2'
  clear B2'
  have SP' := SP.below k9
  clear SP
  have SP := SP'
  clear SP'
  have kb' := kb.trans (k9.mono kb.size)
  clear kb k9
  have kb := kb'
  clear kb'
  go_wp2_with (first | go_skip | (refine RowC.gload E _ rfl _ rfl a1 B1 rfl ?_) | (refine RowC.gload E _ rfl _ rfl a2 B2 rfl ?_))
  have hc := same_ret AT CT P AP CP P _ ST SP
  rw [sameB_self] at hc
  refine hc.mono ?_
  clear hc
  rintro e W10 ⟨rfl, k10⟩
  clear ST
  have w0' := w0.below k10
  clear w0
  have w0 := w0'
  clear w0'
  have B1' := B1.below k10
  clear B1
  have B1 := B1'
  clear B1'
  have B2' := B2.below k10
  clear B2
  have B2 := B2'
  clear B2'
  have SP' := SP.below k10
  clear SP
  have SP := SP'
  clear SP'
  have kb' := kb.trans (k10.mono kb.size)
  clear kb k10
  have kb := kb'
  clear kb'
  go_wp2_with (first | go_skip | (refine RowC.gload E _ rfl _ rfl a1 B1 rfl ?_) | (refine RowC.gload E _ rfl _ rfl a2 B2 rfl ?_))
  refine Grow.region [(0, true), (1, true), (3, true), (4, true), (6, true), (2, false), (5, false), (7, false), (8, false), (9, true)] (by kernel_rfl) (by kernel_rfl) rfl (by kernel_rfl) (by intro c a d v w h; cases d <;> exact h) ?_
  rename World => V11
  have k11 := below_drew1 (Below.refl V11.heap.size V11)
  have w0' := w0.below k11
  clear w0
  have w0 := w0'
  clear w0'
  have B1' := B1.below k11
  clear B1
  have B1 := B1'
  clear B1'
  have B2' := B2.below k11
  clear B2
  have B2 := B2'
  clear B2'
  have SP' := SP.below k11
  clear SP
  have SP := SP'
  clear SP'
  have kb' := kb.trans (k11.mono kb.size)
  clear kb k11
  have kb := kb'
  clear kb'
  generalize V11.drew = W11 at w0 B1 B2 SP kb ⊢
  repeat (first | (refine RowG.reads_row E rfl rfl _ rfl _ _ rfl a1 B1.range ?_; simp only [Act.put, List.setIfInBounds_toArray, List.set_cons_succ, List.set_cons_zero]) | (refine RowG.reads_row E rfl rfl _ rfl _ _ rfl a2 B2.range ?_; simp only [Act.put, List.setIfInBounds_toArray, List.set_cons_succ, List.set_cons_zero]) | (refine Grow.reads rfl rfl ?_; go_big_quiet_step (fail); refine wpQuiet_nil ?_))
  refine Grow.acts rfl ?_
  go_wp2_with (first | go_skip | (refine RowC.gload E _ rfl _ rfl a1 B1 rfl ?_) | (refine RowC.gload E _ rfl _ rfl a2 B2 rfl ?_))
  have hc := PairD.add_ret AP CP P a2 _ SP q1 fb (by omega)
  rw [HR.out] at hc
  refine hc.mono ?_
  clear hc
  rintro e W12 ⟨AT, CT, rfl, ST, k12⟩
  go_wp2_with fail
  refine ⟨k12, ?_⟩
  have w0' := w0.below k12
  clear w0
  have w0 := w0'
  clear w0'
  have B1' := B1.below k12
  clear B1
  have B1 := B1'
  clear B1'
  have B2' := B2.below k12
  clear B2
  have B2 := B2'
  clear B2'
  have SP' := SP.below k12
  clear SP
  have SP := SP'
  clear SP'
  have kb' := kb.trans (k12.mono kb.size)
  clear kb k12
  have kb := kb'
  clear kb'
  refine Grow.acts rfl ?_
  go_wp2_with (first | go_skip | (refine RowC.gload E _ rfl _ rfl a1 B1 rfl ?_) | (refine RowC.gload E _ rfl _ rfl a2 B2 rfl ?_))
  have hc := PairD.add_ret a0 cap0 l0 a2 _ w0 f0 fb (by omega)
  rw [HQ.out] at hc
  refine hc.mono ?_
  clear hc
  rintro e W13 ⟨AV, CV, rfl, SV, k13⟩
  go_wp2_with fail
  refine ⟨k13, ?_⟩
  have w0' := w0.below k13
  clear w0
  have w0 := w0'
  clear w0'
  have B1' := B1.below k13
  clear B1
  have B1 := B1'
  clear B1'
  have B2' := B2.below k13
  clear B2
  have B2 := B2'
  clear B2'
  have SP' := SP.below k13
  clear SP
  have SP := SP'
  clear SP'
  have ST' := ST.below k13
  clear ST
  have ST := ST'
  clear ST'
  have kb' := kb.trans (k13.mono kb.size)
  clear kb k13
  have kb := kb'
  clear kb'
  refine Grow.acts rfl ?_
  go_wp2_with (first | go_skip | (refine RowC.gload E _ rfl _ rfl a1 B1 rfl ?_) | (refine RowC.gload E _ rfl _ rfl a2 B2 rfl ?_))
  have hc := PairD.add_ret AV CV Q a1 _ SV q2 fa (by omega)
  rw [E2.out] at hc
  refine hc.mono ?_
  clear hc
  rintro e W14 ⟨AW, CW, rfl, SW, k14⟩
  clear SV
  go_wp2_with fail
  refine ⟨k14, ?_⟩
  have w0' := w0.below k14
  clear w0
  have w0 := w0'
  clear w0'
  have B1' := B1.below k14
  clear B1
  have B1 := B1'
  clear B1'
  have B2' := B2.below k14
  clear B2
  have B2 := B2'
  clear B2'
  have SP' := SP.below k14
  clear SP
  have SP := SP'
  clear SP'
  have ST' := ST.below k14
  clear ST
  have ST := ST'
  clear ST'
  have kb' := kb.trans (k14.mono kb.size)
  clear kb k14
  have kb := kb'
  clear kb'
  refine Grow.acts rfl ?_
  go_wp2_with (first | go_skip | (refine RowC.gload E _ rfl _ rfl a1 B1 rfl ?_) | (refine RowC.gload E _ rfl _ rfl a2 B2 rfl ?_))
  have hc := same_ret AT CT R AW CW R _ ST SW
  rw [sameB_self] at hc
  refine hc.mono ?_
  clear hc
  rintro e W15 ⟨rfl, k15⟩
  clear ST SW
  go_wp2_with fail
  refine ⟨k15, ?_⟩
  have w0' := w0.below k15
  clear w0
  have w0 := w0'
  clear w0'
  have B1' := B1.below k15
  clear B1
  have B1 := B1'
  clear B1'
  have B2' := B2.below k15
  clear B2
  have B2 := B2'
  clear B2'
  have SP' := SP.below k15
  clear SP
  have SP := SP'
  clear SP'
  have kb' := kb.trans (k15.mono kb.size)
  clear kb k15
  have kb := kb'
  clear kb'
  repeat (first | (refine RowG.reads_row E rfl rfl _ rfl _ _ rfl a1 B1.range ?_; simp only [Act.put, List.setIfInBounds_toArray, List.set_cons_succ, List.set_cons_zero]) | (refine RowG.reads_row E rfl rfl _ rfl _ _ rfl a2 B2.range ?_; simp only [Act.put, List.setIfInBounds_toArray, List.set_cons_succ, List.set_cons_zero]) | (refine Grow.reads rfl rfl ?_; go_big_quiet_step (fail); refine wpQuiet_nil ?_))
  refine Grow.ends ?_
  clear SP
  have c0 := B1.cell (j := 0) (v := .string a1.key) rfl
  have c1 := B1.cell (j := 1) (v := .string a1.elem) rfl
  go_wp2_with (first | go_skip | (refine RowC.gload E _ rfl _ rfl a1 B1 rfl ?_) | (refine RowC.gload E _ rfl _ rfl a2 B2 rfl ?_))
  have hc := PairD.del_ret a0 cap0 l0 a1.key a1.elem _ w0 f0 hk1 he1 (by omega)
  rw [HD.out] at hc
  refine hc.mono ?_
  clear hc
  rintro e W16 ⟨AD, CD, rfl, SD, k16⟩
  have w0' := w0.below k16
  clear w0
  have w0 := w0'
  clear w0'
  have B1' := B1.below k16
  clear B1
  have B1 := B1'
  clear B1'
  have B2' := B2.below k16
  clear B2
  have B2 := B2'
  clear B2'
  have kb' := kb.trans (k16.mono kb.size)
  clear kb k16
  have kb := kb'
  clear kb'
  clear c0 c1
  have c0 := B1.cell (j := 0) (v := .string a1.key) rfl
  have c1 := B1.cell (j := 1) (v := .string a1.elem) rfl
  go_wp2_with (first | go_skip | (refine RowC.gload E _ rfl _ rfl a1 B1 rfl ?_) | (refine RowC.gload E _ rfl _ rfl a2 B2 rfl ?_))
  have hc := PairD.del_ret AD CD D a1.key a1.elem _ SD q3 hk1 he1 (by omega)
  rw [E3.out] at hc
  refine hc.mono ?_
  clear hc
  rintro e W17 ⟨AT, CT, rfl, ST, k17⟩
  have w0' := w0.below k17
  clear w0
  have w0 := w0'
  clear w0'
  have B1' := B1.below k17
  clear B1
  have B1 := B1'
  clear B1'
  have B2' := B2.below k17
  clear B2
  have B2 := B2'
  clear B2'
  have SD' := SD.below k17
  clear SD
  have SD := SD'
  clear SD'
  have kb' := kb.trans (k17.mono kb.size)
  clear kb k17
  have kb := kb'
  clear kb'
  clear c0 c1
  go_wp2_with (first | go_skip | (refine RowC.gload E _ rfl _ rfl a1 B1 rfl ?_) | (refine RowC.gload E _ rfl _ rfl a2 B2 rfl ?_))
  have hc := same_ret AT CT D AD CD D _ ST SD
  rw [sameB_self] at hc
  refine hc.mono ?_
  clear hc
  rintro e W18 ⟨rfl, k18⟩
  clear ST SD
  have w0' := w0.below k18
  clear w0
  have w0 := w0'
  clear w0'
  have B1' := B1.below k18
  clear B1
  have B1 := B1'
  clear B1'
  have B2' := B2.below k18
  clear B2
  have B2 := B2'
  clear B2'
  have kb' := kb.trans (k18.mono kb.size)
  clear kb k18
  have kb := kb'
  clear kb'
  have c0 := B1.cell (j := 0) (v := .string a1.key) rfl
  have d0 := B2.cell (j := 0) (v := .string a2.key) rfl
  have c1 := B1.cell (j := 1) (v := .string a1.elem) rfl
  have d1 := B2.cell (j := 1) (v := .string a2.elem) rfl
  go_wp2_with (first | go_skip | (refine RowC.gload E _ rfl _ rfl a1 B1 rfl ?_) | (refine RowC.gload E _ rfl _ rfl a2 B2 rfl ?_))
  go_ret
  exact ⟨by first | rfl | simp, kb⟩

set_option maxRecDepth 100000 in
set_option maxHeartbeats 32000000 in
theorem way_k (a0 : Option Addr) (cap0 : Nat) (l0 : List Pr) (a1 : Pr) (a2 : Pr) (w : World) (w0 : SlR E w a0 cap0 l0) (g0 : ∀ x ∈ l0, OpenP.Good x) (g1 : OpenP.Good a1) (g2 : OpenP.Good a2) (x0 : fewB l0 = true) (x1 : fewB [a1, a2] = true) (m0 : mayP l0 = true) (m1 : mayP [a1] = true) (m2 : mayP [a2] = true) (hk : a1.key ≠ a2.key) :
    Calls Try.prog 7 #[.slice a0 l0.length cap0, .agg (pc a1), .agg (pc a2)] w fun e w' => e = .returned (.bool true) ∧ Below w.heap.size w w' := by
  have y0 := few_len x0
  have f0 := few_fits x0 g0
  obtain ⟨fa, fb⟩ := fit_two x1 g1 g2
  obtain ⟨⟨hk1, he1⟩, hk2, he2⟩ := few_two x1
  have fA := fits_one fa
  have fB := fits_one fb
  have X0 := aside x0
  have X1 := aside x1
  have o1 : oneP a1 = true := by rw [← may_one]; exact m1
  have o2 : oneP a2 = true := by rw [← may_one]; exact m2
  have p1 := add_length l0 a1
  have p2 := add_length l0 a2
  have p3 := del_length l0 a1.key a1.elem
  have p4 := del_length l0 a2.key a2.elem
  have q1 := add_fits f0 fa
  have q2 := add_fits f0 fb
  have q3 := del_fits (k := a1.key) (e := a1.elem) f0
  have q4 := del_fits (k := a2.key) (e := a2.elem) f0
  have e1 := add_twice m0 o1
  have e2 := add_turn m0 o1 o2
  have e3 := del_twice (k := a1.key) (e := a1.elem) m0
  have e4 := del_add (k := a2.key) (e := a2.elem) m0 o1 (by rintro ⟨u, v⟩; exact hk u)
  obtain ⟨P, hP⟩ : ∃ l, addP l0 a1 = l := ⟨_, rfl⟩
  obtain ⟨Q, hQ⟩ : ∃ l, addP l0 a2 = l := ⟨_, rfl⟩
  obtain ⟨D, hD⟩ : ∃ l, delP l0 a1.key a1.elem = l := ⟨_, rfl⟩
  obtain ⟨G, hG⟩ : ∃ l, delP l0 a2.key a2.elem = l := ⟨_, rfl⟩
  rw [hP] at p1 q1 e1 e2 e4
  rw [hQ] at p2 q2 e2
  rw [hD] at p3 q3 e3
  rw [hG] at p4 q4 e4
  obtain ⟨R, hR⟩ : ∃ l, addP P a2 = l := ⟨_, rfl⟩
  rw [hR] at e2
  obtain ⟨U, hU⟩ : ∃ l, delP P a2.key a2.elem = l := ⟨_, rfl⟩
  rw [hU] at e4
  have HU := aside hU
  have E4 := aside e4.symm
  clear hU e4
  have HP := aside hP
  have HQ := aside hQ
  have HD := aside hD
  have HG := aside hG
  have HR := aside hR
  have E1 := aside e1
  have E2 := aside e2.symm
  have E3 := aside e3
  have M0 := aside m0
  have M1 := aside m1
  have M2 := aside m2
  have t1 := str_no hk
  clear x0 x1 m0 m1 m2 o1 o2 e1 e2 e3 hP hQ hD hG hR hk
  have B1 : Box E (w.alloc (.cells (pc a1) 26)) (w.heap.size) a1 := by exact Box.new w a1 _
  have Z1 := below_alloc w (.cells (pc a1) 26)
  have w0' := w0.below Z1
  clear w0
  have w0 := w0'
  clear w0'
  have z1 : (w.alloc (.cells (pc a1) 26)).heap.size = w.heap.size + 1 := by simp
  have B2 : Box E ((w.alloc (.cells (pc a1) 26)).alloc (.cells (pc a2) 26)) (w.heap.size + 1) a2 := by rw [← z1]; exact Box.new (w.alloc (.cells (pc a1) 26)) a2 _
  have Z2 := below_alloc (w.alloc (.cells (pc a1) 26)) (.cells (pc a2) 26)
  have w0' := w0.below Z2
  clear w0
  have w0 := w0'
  clear w0'
  have B1' := B1.below Z2
  clear B1
  have B1 := B1'
  clear B1'
  have kb : Below w.heap.size w ((w.alloc (.cells (pc a1) 26)).alloc (.cells (pc a2) 26)) := by go_grown
  clear Z1 Z2
  go_enter Try.func7, Try.ntmps7
  go_wp2_with fail
  refine (awake _).mono ?_
  rintro e W1 ⟨rfl, k1⟩
  have w0' := w0.below k1
  clear w0
  have w0 := w0'
  clear w0'
  have B1' := B1.below k1
  clear B1
  have B1 := B1'
  clear B1'
  have B2' := B2.below k1
  clear B2
  have B2 := B2'
  clear B2'
  have kb' := kb.trans (k1.mono kb.size)
  clear kb k1
  have kb := kb'
  clear kb'
  go_wp2_with (first | go_skip | (refine RowC.gload E _ rfl _ rfl a1 B1 rfl ?_) | (refine RowC.gload E _ rfl _ rfl a2 B2 rfl ?_))
  have hc := few_ret a0 cap0 l0 _ w0 (max_of g0)
  rw [X0.out] at hc
  refine hc.mono ?_
  clear hc
  rintro e w' ⟨rfl, rfl⟩
  go_wp2_with (first | go_skip | (refine RowC.gload E _ rfl _ rfl a1 B1 rfl ?_) | (refine RowC.gload E _ rfl _ rfl a2 B2 rfl ?_) | (refine RowC.wpList_lit2 E (of_decide_eq_true rfl) rfl _ _ rfl a1 a2 rfl rfl ?_; intro W2 T k2; have w0' := w0.below k2; clear w0; have w0 := w0'; clear w0'; have B1' := B1.below k2; clear B1; have B1 := B1'; clear B1'; have B2' := B2.below k2; clear B2; have B2 := B2'; clear B2'; have kb' := kb.trans (k2.mono kb.size); clear kb k2; have kb := kb'; clear kb'))
  have hc := few_ret _ _ [a1, a2] _ T (max_of (two_of g1 g2))
  rw [X1.out] at hc
  refine hc.mono ?_
  clear hc
  rintro e w' ⟨rfl, rfl⟩
  clear T
  go_wp2_with (first | go_skip | (refine RowC.gload E _ rfl _ rfl a1 B1 rfl ?_) | (refine RowC.gload E _ rfl _ rfl a2 B2 rfl ?_))
  have hc := PairD.may_ret a0 cap0 l0 _ w0 f0 (by omega)
  rw [M0.out] at hc
  refine hc.mono ?_
  clear hc
  rintro e W3 ⟨rfl, k3⟩
  have w0' := w0.below k3
  clear w0
  have w0 := w0'
  clear w0'
  have B1' := B1.below k3
  clear B1
  have B1 := B1'
  clear B1'
  have B2' := B2.below k3
  clear B2
  have B2 := B2'
  clear B2'
  have kb' := kb.trans (k3.mono kb.size)
  clear kb k3
  have kb := kb'
  clear kb'
  go_wp2_with (first | go_skip | (refine RowC.gload E _ rfl _ rfl a1 B1 rfl ?_) | (refine RowC.gload E _ rfl _ rfl a2 B2 rfl ?_) | (refine RowC.glit1 E (of_decide_eq_true rfl) _ rfl a1 rfl rfl ?_; intro W4 T1 k4; have w0' := w0.below k4; clear w0; have w0 := w0'; clear w0'; have B1' := B1.below k4; clear B1; have B1 := B1'; clear B1'; have B2' := B2.below k4; clear B2; have B2 := B2'; clear B2'; have kb' := kb.trans (k4.mono kb.size); clear kb k4; have kb := kb'; clear kb'))
  have hc := PairD.may_ret _ _ [a1] _ T1 fA (by simp)
  rw [M1.out] at hc
  refine hc.mono ?_
  clear hc
  rintro e W5 ⟨rfl, k5⟩
  clear T1
  have w0' := w0.below k5
  clear w0
  have w0 := w0'
  clear w0'
  have B1' := B1.below k5
  clear B1
  have B1 := B1'
  clear B1'
  have B2' := B2.below k5
  clear B2
  have B2 := B2'
  clear B2'
  have kb' := kb.trans (k5.mono kb.size)
  clear kb k5
  have kb := kb'
  clear kb'
  go_wp2_with (first | go_skip | (refine RowC.gload E _ rfl _ rfl a1 B1 rfl ?_) | (refine RowC.gload E _ rfl _ rfl a2 B2 rfl ?_) | (refine RowC.glit1 E (of_decide_eq_true rfl) _ rfl a2 rfl rfl ?_; intro W6 T2 k6; have w0' := w0.below k6; clear w0; have w0 := w0'; clear w0'; have B1' := B1.below k6; clear B1; have B1 := B1'; clear B1'; have B2' := B2.below k6; clear B2; have B2 := B2'; clear B2'; have kb' := kb.trans (k6.mono kb.size); clear kb k6; have kb := kb'; clear kb'))
  have hc := PairD.may_ret _ _ [a2] _ T2 fB (by simp)
  rw [M2.out] at hc
  refine hc.mono ?_
  clear hc
  rintro e W7 ⟨rfl, k7⟩
  clear T2
  have w0' := w0.below k7
  clear w0
  have w0 := w0'
  clear w0'
  have B1' := B1.below k7
  clear B1
  have B1 := B1'
  clear B1'
  have B2' := B2.below k7
  clear B2
  have B2 := B2'
  clear B2'
  have kb' := kb.trans (k7.mono kb.size)
  clear kb k7
  have kb := kb'
  clear kb'
  go_wp2_with (first | go_skip | (refine RowC.gload E _ rfl _ rfl a1 B1 rfl ?_) | (refine RowC.gload E _ rfl _ rfl a2 B2 rfl ?_))
  have hc := PairD.add_ret a0 cap0 l0 a1 _ w0 f0 fa (by omega)
  rw [HP.out] at hc
  refine hc.mono ?_
  clear hc
  rintro e W8 ⟨AP, CP, rfl, SP, k8⟩
  have w0' := w0.below k8
  clear w0
  have w0 := w0'
  clear w0'
  have B1' := B1.below k8
  clear B1
  have B1 := B1'
  clear B1'
  have B2' := B2.below k8
  clear B2
  have B2 := B2'
  clear B2'
  have kb' := kb.trans (k8.mono kb.size)
  clear kb k8
  have kb := kb'
  clear kb'
  go_wp2_with (first | go_skip | (refine RowC.gload E _ rfl _ rfl a1 B1 rfl ?_) | (refine RowC.gload E _ rfl _ rfl a2 B2 rfl ?_))
  have hc := PairD.add_ret AP CP P a1 _ SP q1 fa (by omega)
  rw [E1.out] at hc
  refine hc.mono ?_
  clear hc
  rintro e W9 ⟨AT, CT, rfl, ST, k9⟩
  have w0' := w0.below k9
  clear w0
  have w0 := w0'
  clear w0'
  have B1' := B1.below k9
  clear B1
  have B1 := B1'
  clear B1'
  have B2' := B2.below k9
  clear B2
  have B2 := B2'
  clear B2'
  have SP' := SP.below k9
  clear SP
  have SP := SP'
  clear SP'
  have kb' := kb.trans (k9.mono kb.size)
  clear kb k9
  have kb := kb'
  clear kb'
  go_wp2_with (first | go_skip | (refine RowC.gload E _ rfl _ rfl a1 B1 rfl ?_) | (refine RowC.gload E _ rfl _ rfl a2 B2 rfl ?_))
  have hc := same_ret AT CT P AP CP P _ ST SP
  rw [sameB_self] at hc
  refine hc.mono ?_
  clear hc
  rintro e W10 ⟨rfl, k10⟩
  clear ST
  have w0' := w0.below k10
  clear w0
  have w0 := w0'
  clear w0'
  have B1' := B1.below k10
  clear B1
  have B1 := B1'
  clear B1'
  have B2' := B2.below k10
  clear B2
  have B2 := B2'
  clear B2'
  have SP' := SP.below k10
  clear SP
  have SP := SP'
  clear SP'
  have kb' := kb.trans (k10.mono kb.size)
  clear kb k10
  have kb := kb'
  clear kb'
  go_wp2_with (first | go_skip | (refine RowC.gload E _ rfl _ rfl a1 B1 rfl ?_) | (refine RowC.gload E _ rfl _ rfl a2 B2 rfl ?_))
  refine Grow.region [(0, true), (1, true), (3, true), (4, true), (6, true), (2, false), (5, false), (7, false), (8, false), (9, true)] (by kernel_rfl) (by kernel_rfl) rfl (by kernel_rfl) (by intro c a d v w h; cases d <;> exact h) ?_
  rename World => V11
  have k11 := below_drew1 (Below.refl V11.heap.size V11)
  have w0' := w0.below k11
  clear w0
  have w0 := w0'
  clear w0'
  have B1' := B1.below k11
  clear B1
  have B1 := B1'
  clear B1'
  have B2' := B2.below k11
  clear B2
  have B2 := B2'
  clear B2'
  have SP' := SP.below k11
  clear SP
  have SP := SP'
  clear SP'
  have kb' := kb.trans (k11.mono kb.size)
  clear kb k11
  have kb := kb'
  clear kb'
  generalize V11.drew = W11 at w0 B1 B2 SP kb ⊢
  repeat (first | (refine RowG.reads_row E rfl rfl _ rfl _ _ rfl a1 B1.range ?_; simp only [Act.put, List.setIfInBounds_toArray, List.set_cons_succ, List.set_cons_zero]) | (refine RowG.reads_row E rfl rfl _ rfl _ _ rfl a2 B2.range ?_; simp only [Act.put, List.setIfInBounds_toArray, List.set_cons_succ, List.set_cons_zero]) | (refine Grow.reads rfl rfl ?_; go_big_quiet_step (fail); refine wpQuiet_nil ?_))
  refine Grow.acts rfl ?_
  go_wp2_with (first | go_skip | (refine RowC.gload E _ rfl _ rfl a1 B1 rfl ?_) | (refine RowC.gload E _ rfl _ rfl a2 B2 rfl ?_))
  have hc := PairD.add_ret AP CP P a2 _ SP q1 fb (by omega)
  rw [HR.out] at hc
  refine hc.mono ?_
  clear hc
  rintro e W12 ⟨AT, CT, rfl, ST, k12⟩
  go_wp2_with fail
  refine ⟨k12, ?_⟩
  have w0' := w0.below k12
  clear w0
  have w0 := w0'
  clear w0'
  have B1' := B1.below k12
  clear B1
  have B1 := B1'
  clear B1'
  have B2' := B2.below k12
  clear B2
  have B2 := B2'
  clear B2'
  have SP' := SP.below k12
  clear SP
  have SP := SP'
  clear SP'
  have kb' := kb.trans (k12.mono kb.size)
  clear kb k12
  have kb := kb'
  clear kb'
  refine Grow.acts rfl ?_
  go_wp2_with (first | go_skip | (refine RowC.gload E _ rfl _ rfl a1 B1 rfl ?_) | (refine RowC.gload E _ rfl _ rfl a2 B2 rfl ?_))
  have hc := PairD.add_ret a0 cap0 l0 a2 _ w0 f0 fb (by omega)
  rw [HQ.out] at hc
  refine hc.mono ?_
  clear hc
  rintro e W13 ⟨AV, CV, rfl, SV, k13⟩
  go_wp2_with fail
  refine ⟨k13, ?_⟩
  have w0' := w0.below k13
  clear w0
  have w0 := w0'
  clear w0'
  have B1' := B1.below k13
  clear B1
  have B1 := B1'
  clear B1'
  have B2' := B2.below k13
  clear B2
  have B2 := B2'
  clear B2'
  have SP' := SP.below k13
  clear SP
  have SP := SP'
  clear SP'
  have ST' := ST.below k13
  clear ST
  have ST := ST'
  clear ST'
  have kb' := kb.trans (k13.mono kb.size)
  clear kb k13
  have kb := kb'
  clear kb'
  refine Grow.acts rfl ?_
  go_wp2_with (first | go_skip | (refine RowC.gload E _ rfl _ rfl a1 B1 rfl ?_) | (refine RowC.gload E _ rfl _ rfl a2 B2 rfl ?_))
  have hc := PairD.add_ret AV CV Q a1 _ SV q2 fa (by omega)
  rw [E2.out] at hc
  refine hc.mono ?_
  clear hc
  rintro e W14 ⟨AW, CW, rfl, SW, k14⟩
  clear SV
  go_wp2_with fail
  refine ⟨k14, ?_⟩
  have w0' := w0.below k14
  clear w0
  have w0 := w0'
  clear w0'
  have B1' := B1.below k14
  clear B1
  have B1 := B1'
  clear B1'
  have B2' := B2.below k14
  clear B2
  have B2 := B2'
  clear B2'
  have SP' := SP.below k14
  clear SP
  have SP := SP'
  clear SP'
  have ST' := ST.below k14
  clear ST
  have ST := ST'
  clear ST'
  have kb' := kb.trans (k14.mono kb.size)
  clear kb k14
  have kb := kb'
  clear kb'
  refine Grow.acts rfl ?_
  go_wp2_with (first | go_skip | (refine RowC.gload E _ rfl _ rfl a1 B1 rfl ?_) | (refine RowC.gload E _ rfl _ rfl a2 B2 rfl ?_))
  have hc := same_ret AT CT R AW CW R _ ST SW
  rw [sameB_self] at hc
  refine hc.mono ?_
  clear hc
  rintro e W15 ⟨rfl, k15⟩
  clear ST SW
  go_wp2_with fail
  refine ⟨k15, ?_⟩
  have w0' := w0.below k15
  clear w0
  have w0 := w0'
  clear w0'
  have B1' := B1.below k15
  clear B1
  have B1 := B1'
  clear B1'
  have B2' := B2.below k15
  clear B2
  have B2 := B2'
  clear B2'
  have SP' := SP.below k15
  clear SP
  have SP := SP'
  clear SP'
  have kb' := kb.trans (k15.mono kb.size)
  clear kb k15
  have kb := kb'
  clear kb'
  repeat (first | (refine RowG.reads_row E rfl rfl _ rfl _ _ rfl a1 B1.range ?_; simp only [Act.put, List.setIfInBounds_toArray, List.set_cons_succ, List.set_cons_zero]) | (refine RowG.reads_row E rfl rfl _ rfl _ _ rfl a2 B2.range ?_; simp only [Act.put, List.setIfInBounds_toArray, List.set_cons_succ, List.set_cons_zero]) | (refine Grow.reads rfl rfl ?_; go_big_quiet_step (fail); refine wpQuiet_nil ?_))
  refine Grow.ends ?_
  clear SP
  have c0 := B1.cell (j := 0) (v := .string a1.key) rfl
  have c1 := B1.cell (j := 1) (v := .string a1.elem) rfl
  go_wp2_with (first | go_skip | (refine RowC.gload E _ rfl _ rfl a1 B1 rfl ?_) | (refine RowC.gload E _ rfl _ rfl a2 B2 rfl ?_))
  have hc := PairD.del_ret a0 cap0 l0 a1.key a1.elem _ w0 f0 hk1 he1 (by omega)
  rw [HD.out] at hc
  refine hc.mono ?_
  clear hc
  rintro e W16 ⟨AD, CD, rfl, SD, k16⟩
  have w0' := w0.below k16
  clear w0
  have w0 := w0'
  clear w0'
  have B1' := B1.below k16
  clear B1
  have B1 := B1'
  clear B1'
  have B2' := B2.below k16
  clear B2
  have B2 := B2'
  clear B2'
  have kb' := kb.trans (k16.mono kb.size)
  clear kb k16
  have kb := kb'
  clear kb'
  clear c0 c1
  have c0 := B1.cell (j := 0) (v := .string a1.key) rfl
  have c1 := B1.cell (j := 1) (v := .string a1.elem) rfl
  go_wp2_with (first | go_skip | (refine RowC.gload E _ rfl _ rfl a1 B1 rfl ?_) | (refine RowC.gload E _ rfl _ rfl a2 B2 rfl ?_))
  have hc := PairD.del_ret AD CD D a1.key a1.elem _ SD q3 hk1 he1 (by omega)
  rw [E3.out] at hc
  refine hc.mono ?_
  clear hc
  rintro e W17 ⟨AT, CT, rfl, ST, k17⟩
  have w0' := w0.below k17
  clear w0
  have w0 := w0'
  clear w0'
  have B1' := B1.below k17
  clear B1
  have B1 := B1'
  clear B1'
  have B2' := B2.below k17
  clear B2
  have B2 := B2'
  clear B2'
  have SD' := SD.below k17
  clear SD
  have SD := SD'
  clear SD'
  have kb' := kb.trans (k17.mono kb.size)
  clear kb k17
  have kb := kb'
  clear kb'
  clear c0 c1
  go_wp2_with (first | go_skip | (refine RowC.gload E _ rfl _ rfl a1 B1 rfl ?_) | (refine RowC.gload E _ rfl _ rfl a2 B2 rfl ?_))
  have hc := same_ret AT CT D AD CD D _ ST SD
  rw [sameB_self] at hc
  refine hc.mono ?_
  clear hc
  rintro e W18 ⟨rfl, k18⟩
  clear ST SD
  have w0' := w0.below k18
  clear w0
  have w0 := w0'
  clear w0'
  have B1' := B1.below k18
  clear B1
  have B1 := B1'
  clear B1'
  have B2' := B2.below k18
  clear B2
  have B2 := B2'
  clear B2'
  have kb' := kb.trans (k18.mono kb.size)
  clear kb k18
  have kb := kb'
  clear kb'
  have c0 := B1.cell (j := 0) (v := .string a1.key) rfl
  have d0 := B2.cell (j := 0) (v := .string a2.key) rfl
  have c1 := B1.cell (j := 1) (v := .string a1.elem) rfl
  have d1 := B2.cell (j := 1) (v := .string a2.elem) rfl
  go_wp2_with (first | go_skip | (refine RowC.gload E _ rfl _ rfl a1 B1 rfl ?_) | (refine RowC.gload E _ rfl _ rfl a2 B2 rfl ?_))
  clear c0 c1 d0 d1
  refine Grow.region [(0, true), (1, true), (3, true), (4, true), (5, true), (6, true), (8, true), (9, true), (10, true), (11, true), (12, true), (14, true), (2, false), (7, false), (13, false), (15, false), (16, false), (17, true)] (by kernel_rfl) (by kernel_rfl) rfl (by kernel_rfl) (by intro c a d v w h; cases d <;> exact h) ?_
  rename World => V19
  have k19 := below_drew1 (Below.refl V19.heap.size V19)
  have w0' := w0.below k19
  clear w0
  have w0 := w0'
  clear w0'
  have B1' := B1.below k19
  clear B1
  have B1 := B1'
  clear B1'
  have B2' := B2.below k19
  clear B2
  have B2 := B2'
  clear B2'
  have kb' := kb.trans (k19.mono kb.size)
  clear kb k19
  have kb := kb'
  clear kb'
  generalize V19.drew = W19 at w0 B1 B2 kb ⊢
  have u0 := Grow.grown (w := W19) (fun u hu => (B2.below hu).cell (j := 0) (v := .string a2.key) rfl)
  have u1 := Grow.grown (w := W19) (fun u hu => (B2.below hu).cell (j := 1) (v := .string a2.elem) rfl)
  repeat (first | (refine RowG.reads_row E rfl rfl _ rfl _ _ rfl a1 B1.range ?_; simp only [Act.put, List.setIfInBounds_toArray, List.set_cons_succ, List.set_cons_zero]) | (refine RowG.reads_row E rfl rfl _ rfl _ _ rfl a2 B2.range ?_; simp only [Act.put, List.setIfInBounds_toArray, List.set_cons_succ, List.set_cons_zero]) | (refine Grow.reads rfl rfl ?_; go_big_quiet_step (fail); refine wpQuiet_nil ?_))
  clear u0 u1
  refine Grow.acts rfl ?_
  go_wp2_with (first | go_skip | (refine RowC.gload E _ rfl _ rfl a1 B1 rfl ?_) | (refine RowC.gload E _ rfl _ rfl a2 B2 rfl ?_))
  have hc := PairD.add_ret a0 cap0 l0 a1 _ w0 f0 fa (by omega)
  rw [HP.out] at hc
  refine hc.mono ?_
  clear hc
  rintro e W20 ⟨AP, CP, rfl, SP, k20⟩
  go_wp2_with fail
  refine ⟨k20, ?_⟩
  have w0' := w0.below k20
  clear w0
  have w0 := w0'
  clear w0'
  have B1' := B1.below k20
  clear B1
  have B1 := B1'
  clear B1'
  have B2' := B2.below k20
  clear B2
  have B2 := B2'
  clear B2'
  have kb' := kb.trans (k20.mono kb.size)
  clear kb k20
  have kb := kb'
  clear kb'
  refine Grow.acts rfl ?_
  go_wp2_with (first | go_skip | (refine RowC.gload E _ rfl _ rfl a1 B1 rfl ?_) | (refine RowC.gload E _ rfl _ rfl a2 B2 rfl ?_))
  have hc := PairD.del_ret AP CP P a2.key a2.elem _ SP q1 hk2 he2 (by omega)
  rw [HU.out] at hc
  refine hc.mono ?_
  clear hc
  rintro e W21 ⟨AU, CU, rfl, SU, k21⟩
  clear SP
  go_wp2_with fail
  refine ⟨k21, ?_⟩
  have w0' := w0.below k21
  clear w0
  have w0 := w0'
  clear w0'
  have B1' := B1.below k21
  clear B1
  have B1 := B1'
  clear B1'
  have B2' := B2.below k21
  clear B2
  have B2 := B2'
  clear B2'
  have kb' := kb.trans (k21.mono kb.size)
  clear kb k21
  have kb := kb'
  clear kb'
  refine Grow.acts rfl ?_
  go_wp2_with (first | go_skip | (refine RowC.gload E _ rfl _ rfl a1 B1 rfl ?_) | (refine RowC.gload E _ rfl _ rfl a2 B2 rfl ?_))
  have hc := PairD.del_ret a0 cap0 l0 a2.key a2.elem _ w0 f0 hk2 he2 (by omega)
  rw [HG.out] at hc
  refine hc.mono ?_
  clear hc
  rintro e W22 ⟨AG, CG, rfl, SG, k22⟩
  go_wp2_with fail
  refine ⟨k22, ?_⟩
  have w0' := w0.below k22
  clear w0
  have w0 := w0'
  clear w0'
  have B1' := B1.below k22
  clear B1
  have B1 := B1'
  clear B1'
  have B2' := B2.below k22
  clear B2
  have B2 := B2'
  clear B2'
  have SU' := SU.below k22
  clear SU
  have SU := SU'
  clear SU'
  have kb' := kb.trans (k22.mono kb.size)
  clear kb k22
  have kb := kb'
  clear kb'
  refine Grow.acts rfl ?_
  go_wp2_with (first | go_skip | (refine RowC.gload E _ rfl _ rfl a1 B1 rfl ?_) | (refine RowC.gload E _ rfl _ rfl a2 B2 rfl ?_))
  have hc := PairD.add_ret AG CG G a1 _ SG q4 fa (by omega)
  rw [E4.out] at hc
  refine hc.mono ?_
  clear hc
  rintro e W23 ⟨AV, CV, rfl, SV, k23⟩
  clear SG
  go_wp2_with fail
  refine ⟨k23, ?_⟩
  have w0' := w0.below k23
  clear w0
  have w0 := w0'
  clear w0'
  have B1' := B1.below k23
  clear B1
  have B1 := B1'
  clear B1'
  have B2' := B2.below k23
  clear B2
  have B2 := B2'
  clear B2'
  have SU' := SU.below k23
  clear SU
  have SU := SU'
  clear SU'
  have kb' := kb.trans (k23.mono kb.size)
  clear kb k23
  have kb := kb'
  clear kb'
  refine Grow.acts rfl ?_
  go_wp2_with (first | go_skip | (refine RowC.gload E _ rfl _ rfl a1 B1 rfl ?_) | (refine RowC.gload E _ rfl _ rfl a2 B2 rfl ?_))
  have hc := same_ret AU CU U AV CV U _ SU SV
  rw [sameB_self] at hc
  refine hc.mono ?_
  clear hc
  rintro e W24 ⟨rfl, k24⟩
  clear SU SV
  go_wp2_with fail
  refine ⟨k24, ?_⟩
  have w0' := w0.below k24
  clear w0
  have w0 := w0'
  clear w0'
  have B1' := B1.below k24
  clear B1
  have B1 := B1'
  clear B1'
  have B2' := B2.below k24
  clear B2
  have B2 := B2'
  clear B2'
  have kb' := kb.trans (k24.mono kb.size)
  clear kb k24
  have kb := kb'
  clear kb'
  repeat (first | (refine RowG.reads_row E rfl rfl _ rfl _ _ rfl a1 B1.range ?_; simp only [Act.put, List.setIfInBounds_toArray, List.set_cons_succ, List.set_cons_zero]) | (refine RowG.reads_row E rfl rfl _ rfl _ _ rfl a2 B2.range ?_; simp only [Act.put, List.setIfInBounds_toArray, List.set_cons_succ, List.set_cons_zero]) | (refine Grow.reads rfl rfl ?_; go_big_quiet_step (fail); refine wpQuiet_nil ?_))
  refine Grow.ends ?_
  go_wp2_with (first | go_skip | (refine RowC.gload E _ rfl _ rfl a1 B1 rfl ?_) | (refine RowC.gload E _ rfl _ rfl a2 B2 rfl ?_))
  go_ret
  exact ⟨by first | rfl | simp, kb⟩

set_option maxRecDepth 100000 in
set_option maxHeartbeats 32000000 in
theorem way_e (a0 : Option Addr) (cap0 : Nat) (l0 : List Pr) (a1 : Pr) (a2 : Pr) (w : World) (w0 : SlR E w a0 cap0 l0) (g0 : ∀ x ∈ l0, OpenP.Good x) (g1 : OpenP.Good a1) (g2 : OpenP.Good a2) (x0 : fewB l0 = true) (x1 : fewB [a1, a2] = true) (m0 : mayP l0 = true) (m1 : mayP [a1] = true) (m2 : mayP [a2] = true) (hk : a1.key = a2.key) (he : a1.elem ≠ a2.elem) :
    Calls Try.prog 7 #[.slice a0 l0.length cap0, .agg (pc a1), .agg (pc a2)] w fun e w' => e = .returned (.bool true) ∧ Below w.heap.size w w' := by
  have y0 := few_len x0
  have f0 := few_fits x0 g0
  obtain ⟨fa, fb⟩ := fit_two x1 g1 g2
  obtain ⟨⟨hk1, he1⟩, hk2, he2⟩ := few_two x1
  have fA := fits_one fa
  have fB := fits_one fb
  have X0 := aside x0
  have X1 := aside x1
  have o1 : oneP a1 = true := by rw [← may_one]; exact m1
  have o2 : oneP a2 = true := by rw [← may_one]; exact m2
  have p1 := add_length l0 a1
  have p2 := add_length l0 a2
  have p3 := del_length l0 a1.key a1.elem
  have p4 := del_length l0 a2.key a2.elem
  have q1 := add_fits f0 fa
  have q2 := add_fits f0 fb
  have q3 := del_fits (k := a1.key) (e := a1.elem) f0
  have q4 := del_fits (k := a2.key) (e := a2.elem) f0
  have e1 := add_twice m0 o1
  have e2 := add_turn m0 o1 o2
  have e3 := del_twice (k := a1.key) (e := a1.elem) m0
  have e4 := del_add (k := a2.key) (e := a2.elem) m0 o1 (by rintro ⟨u, v⟩; exact he v)
  obtain ⟨P, hP⟩ : ∃ l, addP l0 a1 = l := ⟨_, rfl⟩
  obtain ⟨Q, hQ⟩ : ∃ l, addP l0 a2 = l := ⟨_, rfl⟩
  obtain ⟨D, hD⟩ : ∃ l, delP l0 a1.key a1.elem = l := ⟨_, rfl⟩
  obtain ⟨G, hG⟩ : ∃ l, delP l0 a2.key a2.elem = l := ⟨_, rfl⟩
  rw [hP] at p1 q1 e1 e2 e4
  rw [hQ] at p2 q2 e2
  rw [hD] at p3 q3 e3
  rw [hG] at p4 q4 e4
  obtain ⟨R, hR⟩ : ∃ l, addP P a2 = l := ⟨_, rfl⟩
  rw [hR] at e2
  obtain ⟨U, hU⟩ : ∃ l, delP P a2.key a2.elem = l := ⟨_, rfl⟩
  rw [hU] at e4
  have HU := aside hU
  have E4 := aside e4.symm
  clear hU e4
  have HP := aside hP
  have HQ := aside hQ
  have HD := aside hD
  have HG := aside hG
  have HR := aside hR
  have E1 := aside e1
  have E2 := aside e2.symm
  have E3 := aside e3
  have M0 := aside m0
  have M1 := aside m1
  have M2 := aside m2
  have t1 := str_yes hk
  have t2 := str_no he
  clear x0 x1 m0 m1 m2 o1 o2 e1 e2 e3 hP hQ hD hG hR hk he
  have B1 : Box E (w.alloc (.cells (pc a1) 26)) (w.heap.size) a1 := by exact Box.new w a1 _
  have Z1 := below_alloc w (.cells (pc a1) 26)
  have w0' := w0.below Z1
  clear w0
  have w0 := w0'
  clear w0'
  have z1 : (w.alloc (.cells (pc a1) 26)).heap.size = w.heap.size + 1 := by simp
  have B2 : Box E ((w.alloc (.cells (pc a1) 26)).alloc (.cells (pc a2) 26)) (w.heap.size + 1) a2 := by rw [← z1]; exact Box.new (w.alloc (.cells (pc a1) 26)) a2 _
  have Z2 := below_alloc (w.alloc (.cells (pc a1) 26)) (.cells (pc a2) 26)
  have w0' := w0.below Z2
  clear w0
  have w0 := w0'
  clear w0'
  have B1' := B1.below Z2
  clear B1
  have B1 := B1'
  clear B1'
  have kb : Below w.heap.size w ((w.alloc (.cells (pc a1) 26)).alloc (.cells (pc a2) 26)) := by go_grown
  clear Z1 Z2
  go_enter Try.func7, Try.ntmps7
  go_wp2_with fail
  refine (awake _).mono ?_
  rintro e W1 ⟨rfl, k1⟩
  have w0' := w0.below k1
  clear w0
  have w0 := w0'
  clear w0'
  have B1' := B1.below k1
  clear B1
  have B1 := B1'
  clear B1'
  have B2' := B2.below k1
  clear B2
  have B2 := B2'
  clear B2'
  have kb' := kb.trans (k1.mono kb.size)
  clear kb k1
  have kb := kb'
  clear kb'
  go_wp2_with (first | go_skip | (refine RowC.gload E _ rfl _ rfl a1 B1 rfl ?_) | (refine RowC.gload E _ rfl _ rfl a2 B2 rfl ?_))
  have hc := few_ret a0 cap0 l0 _ w0 (max_of g0)
  rw [X0.out] at hc
  refine hc.mono ?_
  clear hc
  rintro e w' ⟨rfl, rfl⟩
  go_wp2_with (first | go_skip | (refine RowC.gload E _ rfl _ rfl a1 B1 rfl ?_) | (refine RowC.gload E _ rfl _ rfl a2 B2 rfl ?_) | (refine RowC.wpList_lit2 E (of_decide_eq_true rfl) rfl _ _ rfl a1 a2 rfl rfl ?_; intro W2 T k2; have w0' := w0.below k2; clear w0; have w0 := w0'; clear w0'; have B1' := B1.below k2; clear B1; have B1 := B1'; clear B1'; have B2' := B2.below k2; clear B2; have B2 := B2'; clear B2'; have kb' := kb.trans (k2.mono kb.size); clear kb k2; have kb := kb'; clear kb'))
  have hc := few_ret _ _ [a1, a2] _ T (max_of (two_of g1 g2))
  rw [X1.out] at hc
  refine hc.mono ?_
  clear hc
  rintro e w' ⟨rfl, rfl⟩
  clear T
  go_wp2_with (first | go_skip | (refine RowC.gload E _ rfl _ rfl a1 B1 rfl ?_) | (refine RowC.gload E _ rfl _ rfl a2 B2 rfl ?_))
  have hc := PairD.may_ret a0 cap0 l0 _ w0 f0 (by omega)
  rw [M0.out] at hc
  refine hc.mono ?_
  clear hc
  rintro e W3 ⟨rfl, k3⟩
  have w0' := w0.below k3
  clear w0
  have w0 := w0'
  clear w0'
  have B1' := B1.below k3
  clear B1
  have B1 := B1'
  clear B1'
  have B2' := B2.below k3
  clear B2
  have B2 := B2'
  clear B2'
  have kb' := kb.trans (k3.mono kb.size)
  clear kb k3
  have kb := kb'
  clear kb'
  go_wp2_with (first | go_skip | (refine RowC.gload E _ rfl _ rfl a1 B1 rfl ?_) | (refine RowC.gload E _ rfl _ rfl a2 B2 rfl ?_) | (refine RowC.glit1 E (of_decide_eq_true rfl) _ rfl a1 rfl rfl ?_; intro W4 T1 k4; have w0' := w0.below k4; clear w0; have w0 := w0'; clear w0'; have B1' := B1.below k4; clear B1; have B1 := B1'; clear B1'; have B2' := B2.below k4; clear B2; have B2 := B2'; clear B2'; have kb' := kb.trans (k4.mono kb.size); clear kb k4; have kb := kb'; clear kb'))
  have hc := PairD.may_ret _ _ [a1] _ T1 fA (by simp)
  rw [M1.out] at hc
  refine hc.mono ?_
  clear hc
  rintro e W5 ⟨rfl, k5⟩
  clear T1
  have w0' := w0.below k5
  clear w0
  have w0 := w0'
  clear w0'
  have B1' := B1.below k5
  clear B1
  have B1 := B1'
  clear B1'
  have B2' := B2.below k5
  clear B2
  have B2 := B2'
  clear B2'
  have kb' := kb.trans (k5.mono kb.size)
  clear kb k5
  have kb := kb'
  clear kb'
  go_wp2_with (first | go_skip | (refine RowC.gload E _ rfl _ rfl a1 B1 rfl ?_) | (refine RowC.gload E _ rfl _ rfl a2 B2 rfl ?_) | (refine RowC.glit1 E (of_decide_eq_true rfl) _ rfl a2 rfl rfl ?_; intro W6 T2 k6; have w0' := w0.below k6; clear w0; have w0 := w0'; clear w0'; have B1' := B1.below k6; clear B1; have B1 := B1'; clear B1'; have B2' := B2.below k6; clear B2; have B2 := B2'; clear B2'; have kb' := kb.trans (k6.mono kb.size); clear kb k6; have kb := kb'; clear kb'))
  have hc := PairD.may_ret _ _ [a2] _ T2 fB (by simp)
  rw [M2.out] at hc
  refine hc.mono ?_
  clear hc
  rintro e W7 ⟨rfl, k7⟩
  clear T2
  have w0' := w0.below k7
  clear w0
  have w0 := w0'
  clear w0'
  have B1' := B1.below k7
  clear B1
  have B1 := B1'
  clear B1'
  have B2' := B2.below k7
  clear B2
  have B2 := B2'
  clear B2'
  have kb' := kb.trans (k7.mono kb.size)
  clear kb k7
  have kb := kb'
  clear kb'
  go_wp2_with (first | go_skip | (refine RowC.gload E _ rfl _ rfl a1 B1 rfl ?_) | (refine RowC.gload E _ rfl _ rfl a2 B2 rfl ?_))
  have hc := PairD.add_ret a0 cap0 l0 a1 _ w0 f0 fa (by omega)
  rw [HP.out] at hc
  refine hc.mono ?_
  clear hc
  rintro e W8 ⟨AP, CP, rfl, SP, k8⟩
  have w0' := w0.below k8
  clear w0
  have w0 := w0'
  clear w0'
  have B1' := B1.below k8
  clear B1
  have B1 := B1'
  clear B1'
  have B2' := B2.below k8
  clear B2
  have B2 := B2'
  clear B2'
  have kb' := kb.trans (k8.mono kb.size)
  clear kb k8
  have kb := kb'
  clear kb'
  go_wp2_with (first | go_skip | (refine RowC.gload E _ rfl _ rfl a1 B1 rfl ?_) | (refine RowC.gload E _ rfl _ rfl a2 B2 rfl ?_))
  have hc := PairD.add_ret AP CP P a1 _ SP q1 fa (by omega)
  rw [E1.out] at hc
  refine hc.mono ?_
  clear hc
  rintro e W9 ⟨AT, CT, rfl, ST, k9⟩
  have w0' := w0.below k9
  clear w0
  have w0 := w0'
  clear w0'
  have B1' := B1.below k9
  clear B1
  have B1 := B1'
  clear B1'
  have B2' := B2.below k9
  clear B2
  have B2 := B2'
  clear B2'
  have SP' := SP.below k9
  clear SP
  have SP := SP'
  clear SP'
  have kb' := kb.trans (k9.mono kb.size)
  clear kb k9
  have kb := kb'
  clear kb'
  go_wp2_with (first | go_skip | (refine RowC.gload E _ rfl _ rfl a1 B1 rfl ?_) | (refine RowC.gload E _ rfl _ rfl a2 B2 rfl ?_))
  have hc := same_ret AT CT P AP CP P _ ST SP
  rw [sameB_self] at hc
  refine hc.mono ?_
  clear hc
  rintro e W10 ⟨rfl, k10⟩
  clear ST
  have w0' := w0.below k10
  clear w0
  have w0 := w0'
  clear w0'
  have B1' := B1.below k10
  clear B1
  have B1 := B1'
  clear B1'
  have B2' := B2.below k10
  clear B2
  have B2 := B2'
  clear B2'
  have SP' := SP.below k10
  clear SP
  have SP := SP'
  clear SP'
  have kb' := kb.trans (k10.mono kb.size)
  clear kb k10
  have kb := kb'
  clear kb'
  go_wp2_with (first | go_skip | (refine RowC.gload E _ rfl _ rfl a1 B1 rfl ?_) | (refine RowC.gload E _ rfl _ rfl a2 B2 rfl ?_))
  refine Grow.region [(0, true), (1, true), (3, true), (4, true), (6, true), (2, false), (5, false), (7, false), (8, false), (9, true)] (by kernel_rfl) (by kernel_rfl) rfl (by kernel_rfl) (by intro c a d v w h; cases d <;> exact h) ?_
  rename World => V11
  have k11 := below_drew1 (Below.refl V11.heap.size V11)
  have w0' := w0.below k11
  clear w0
  have w0 := w0'
  clear w0'
  have B1' := B1.below k11
  clear B1
  have B1 := B1'
  clear B1'
  have B2' := B2.below k11
  clear B2
  have B2 := B2'
  clear B2'
  have SP' := SP.below k11
  clear SP
  have SP := SP'
  clear SP'
  have kb' := kb.trans (k11.mono kb.size)
  clear kb k11
  have kb := kb'
  clear kb'
  generalize V11.drew = W11 at w0 B1 B2 SP kb ⊢
  repeat (first | (refine RowG.reads_row E rfl rfl _ rfl _ _ rfl a1 B1.range ?_; simp only [Act.put, List.setIfInBounds_toArray, List.set_cons_succ, List.set_cons_zero]) | (refine RowG.reads_row E rfl rfl _ rfl _ _ rfl a2 B2.range ?_; simp only [Act.put, List.setIfInBounds_toArray, List.set_cons_succ, List.set_cons_zero]) | (refine Grow.reads rfl rfl ?_; go_big_quiet_step (fail); refine wpQuiet_nil ?_))
  refine Grow.acts rfl ?_
  go_wp2_with (first | go_skip | (refine RowC.gload E _ rfl _ rfl a1 B1 rfl ?_) | (refine RowC.gload E _ rfl _ rfl a2 B2 rfl ?_))
  have hc := PairD.add_ret AP CP P a2 _ SP q1 fb (by omega)
  rw [HR.out] at hc
  refine hc.mono ?_
  clear hc
  rintro e W12 ⟨AT, CT, rfl, ST, k12⟩
  go_wp2_with fail
  refine ⟨k12, ?_⟩
  have w0' := w0.below k12
  clear w0
  have w0 := w0'
  clear w0'
  have B1' := B1.below k12
  clear B1
  have B1 := B1'
  clear B1'
  have B2' := B2.below k12
  clear B2
  have B2 := B2'
  clear B2'
  have SP' := SP.below k12
  clear SP
  have SP := SP'
  clear SP'
  have kb' := kb.trans (k12.mono kb.size)
  clear kb k12
  have kb := kb'
  clear kb'
  refine Grow.acts rfl ?_
  go_wp2_with (first | go_skip | (refine RowC.gload E _ rfl _ rfl a1 B1 rfl ?_) | (refine RowC.gload E _ rfl _ rfl a2 B2 rfl ?_))
  have hc := PairD.add_ret a0 cap0 l0 a2 _ w0 f0 fb (by omega)
  rw [HQ.out] at hc
  refine hc.mono ?_
  clear hc
  rintro e W13 ⟨AV, CV, rfl, SV, k13⟩
  go_wp2_with fail
  refine ⟨k13, ?_⟩
  have w0' := w0.below k13
  clear w0
  have w0 := w0'
  clear w0'
  have B1' := B1.below k13
  clear B1
  have B1 := B1'
  clear B1'
  have B2' := B2.below k13
  clear B2
  have B2 := B2'
  clear B2'
  have SP' := SP.below k13
  clear SP
  have SP := SP'
  clear SP'
  have ST' := ST.below k13
  clear ST
  have ST := ST'
  clear ST'
  have kb' := kb.trans (k13.mono kb.size)
  clear kb k13
  have kb := kb'
  clear kb'
  refine Grow.acts rfl ?_
  go_wp2_with (first | go_skip | (refine RowC.gload E _ rfl _ rfl a1 B1 rfl ?_) | (refine RowC.gload E _ rfl _ rfl a2 B2 rfl ?_))
  have hc := PairD.add_ret AV CV Q a1 _ SV q2 fa (by omega)
  rw [E2.out] at hc
  refine hc.mono ?_
  clear hc
  rintro e W14 ⟨AW, CW, rfl, SW, k14⟩
  clear SV
  go_wp2_with fail
  refine ⟨k14, ?_⟩
  have w0' := w0.below k14
  clear w0
  have w0 := w0'
  clear w0'
  have B1' := B1.below k14
  clear B1
  have B1 := B1'
  clear B1'
  have B2' := B2.below k14
  clear B2
  have B2 := B2'
  clear B2'
  have SP' := SP.below k14
  clear SP
  have SP := SP'
  clear SP'
  have ST' := ST.below k14
  clear ST
  have ST := ST'
  clear ST'
  have kb' := kb.trans (k14.mono kb.size)
  clear kb k14
  have kb := kb'
  clear kb'
  refine Grow.acts rfl ?_
  go_wp2_with (first | go_skip | (refine RowC.gload E _ rfl _ rfl a1 B1 rfl ?_) | (refine RowC.gload E _ rfl _ rfl a2 B2 rfl ?_))
  have hc := same_ret AT CT R AW CW R _ ST SW
  rw [sameB_self] at hc
  refine hc.mono ?_
  clear hc
  rintro e W15 ⟨rfl, k15⟩
  clear ST SW
  go_wp2_with fail
  refine ⟨k15, ?_⟩
  have w0' := w0.below k15
  clear w0
  have w0 := w0'
  clear w0'
  have B1' := B1.below k15
  clear B1
  have B1 := B1'
  clear B1'
  have B2' := B2.below k15
  clear B2
  have B2 := B2'
  clear B2'
  have SP' := SP.below k15
  clear SP
  have SP := SP'
  clear SP'
  have kb' := kb.trans (k15.mono kb.size)
  clear kb k15
  have kb := kb'
  clear kb'
  repeat (first | (refine RowG.reads_row E rfl rfl _ rfl _ _ rfl a1 B1.range ?_; simp only [Act.put, List.setIfInBounds_toArray, List.set_cons_succ, List.set_cons_zero]) | (refine RowG.reads_row E rfl rfl _ rfl _ _ rfl a2 B2.range ?_; simp only [Act.put, List.setIfInBounds_toArray, List.set_cons_succ, List.set_cons_zero]) | (refine Grow.reads rfl rfl ?_; go_big_quiet_step (fail); refine wpQuiet_nil ?_))
  refine Grow.ends ?_
  clear SP
  have c0 := B1.cell (j := 0) (v := .string a1.key) rfl
  have c1 := B1.cell (j := 1) (v := .string a1.elem) rfl
  go_wp2_with (first | go_skip | (refine RowC.gload E _ rfl _ rfl a1 B1 rfl ?_) | (refine RowC.gload E _ rfl _ rfl a2 B2 rfl ?_))
  have hc := PairD.del_ret a0 cap0 l0 a1.key a1.elem _ w0 f0 hk1 he1 (by omega)
  rw [HD.out] at hc
  refine hc.mono ?_
  clear hc
  rintro e W16 ⟨AD, CD, rfl, SD, k16⟩
  have w0' := w0.below k16
  clear w0
  have w0 := w0'
  clear w0'
  have B1' := B1.below k16
  clear B1
  have B1 := B1'
  clear B1'
  have B2' := B2.below k16
  clear B2
  have B2 := B2'
  clear B2'
  have kb' := kb.trans (k16.mono kb.size)
  clear kb k16
  have kb := kb'
  clear kb'
  clear c0 c1
  have c0 := B1.cell (j := 0) (v := .string a1.key) rfl
  have c1 := B1.cell (j := 1) (v := .string a1.elem) rfl
  go_wp2_with (first | go_skip | (refine RowC.gload E _ rfl _ rfl a1 B1 rfl ?_) | (refine RowC.gload E _ rfl _ rfl a2 B2 rfl ?_))
  have hc := PairD.del_ret AD CD D a1.key a1.elem _ SD q3 hk1 he1 (by omega)
  rw [E3.out] at hc
  refine hc.mono ?_
  clear hc
  rintro e W17 ⟨AT, CT, rfl, ST, k17⟩
  have w0' := w0.below k17
  clear w0
  have w0 := w0'
  clear w0'
  have B1' := B1.below k17
  clear B1
  have B1 := B1'
  clear B1'
  have B2' := B2.below k17
  clear B2
  have B2 := B2'
  clear B2'
  have SD' := SD.below k17
  clear SD
  have SD := SD'
  clear SD'
  have kb' := kb.trans (k17.mono kb.size)
  clear kb k17
  have kb := kb'
  clear kb'
  clear c0 c1
  go_wp2_with (first | go_skip | (refine RowC.gload E _ rfl _ rfl a1 B1 rfl ?_) | (refine RowC.gload E _ rfl _ rfl a2 B2 rfl ?_))
  have hc := same_ret AT CT D AD CD D _ ST SD
  rw [sameB_self] at hc
  refine hc.mono ?_
  clear hc
  rintro e W18 ⟨rfl, k18⟩
  clear ST SD
  have w0' := w0.below k18
  clear w0
  have w0 := w0'
  clear w0'
  have B1' := B1.below k18
  clear B1
  have B1 := B1'
  clear B1'
  have B2' := B2.below k18
  clear B2
  have B2 := B2'
  clear B2'
  have kb' := kb.trans (k18.mono kb.size)
  clear kb k18
  have kb := kb'
  clear kb'
  have c0 := B1.cell (j := 0) (v := .string a1.key) rfl
  have d0 := B2.cell (j := 0) (v := .string a2.key) rfl
  have c1 := B1.cell (j := 1) (v := .string a1.elem) rfl
  have d1 := B2.cell (j := 1) (v := .string a2.elem) rfl
  go_wp2_with (first | go_skip | (refine RowC.gload E _ rfl _ rfl a1 B1 rfl ?_) | (refine RowC.gload E _ rfl _ rfl a2 B2 rfl ?_))
  clear c0 c1 d0 d1
  refine Grow.region [(0, true), (1, true), (3, true), (4, true), (5, true), (6, true), (8, true), (9, true), (10, true), (11, true), (12, true), (14, true), (2, false), (7, false), (13, false), (15, false), (16, false), (17, true)] (by kernel_rfl) (by kernel_rfl) rfl (by kernel_rfl) (by intro c a d v w h; cases d <;> exact h) ?_
  rename World => V19
  have k19 := below_drew1 (Below.refl V19.heap.size V19)
  have w0' := w0.below k19
  clear w0
  have w0 := w0'
  clear w0'
  have B1' := B1.below k19
  clear B1
  have B1 := B1'
  clear B1'
  have B2' := B2.below k19
  clear B2
  have B2 := B2'
  clear B2'
  have kb' := kb.trans (k19.mono kb.size)
  clear kb k19
  have kb := kb'
  clear kb'
  generalize V19.drew = W19 at w0 B1 B2 kb ⊢
  have u0 := Grow.grown (w := W19) (fun u hu => (B2.below hu).cell (j := 0) (v := .string a2.key) rfl)
  have u1 := Grow.grown (w := W19) (fun u hu => (B2.below hu).cell (j := 1) (v := .string a2.elem) rfl)
  repeat (first | (refine RowG.reads_row E rfl rfl _ rfl _ _ rfl a1 B1.range ?_; simp only [Act.put, List.setIfInBounds_toArray, List.set_cons_succ, List.set_cons_zero]) | (refine RowG.reads_row E rfl rfl _ rfl _ _ rfl a2 B2.range ?_; simp only [Act.put, List.setIfInBounds_toArray, List.set_cons_succ, List.set_cons_zero]) | (refine Grow.reads rfl rfl ?_; go_big_quiet_step (fail); refine wpQuiet_nil ?_))
  clear u0 u1
  refine Grow.acts rfl ?_
  go_wp2_with (first | go_skip | (refine RowC.gload E _ rfl _ rfl a1 B1 rfl ?_) | (refine RowC.gload E _ rfl _ rfl a2 B2 rfl ?_))
  have hc := PairD.add_ret a0 cap0 l0 a1 _ w0 f0 fa (by omega)
  rw [HP.out] at hc
  refine hc.mono ?_
  clear hc
  rintro e W20 ⟨AP, CP, rfl, SP, k20⟩
  go_wp2_with fail
  refine ⟨k20, ?_⟩
  have w0' := w0.below k20
  clear w0
  have w0 := w0'
  clear w0'
  have B1' := B1.below k20
  clear B1
  have B1 := B1'
  clear B1'
  have B2' := B2.below k20
  clear B2
  have B2 := B2'
  clear B2'
  have kb' := kb.trans (k20.mono kb.size)
  clear kb k20
  have kb := kb'
  clear kb'
  refine Grow.acts rfl ?_
  go_wp2_with (first | go_skip | (refine RowC.gload E _ rfl _ rfl a1 B1 rfl ?_) | (refine RowC.gload E _ rfl _ rfl a2 B2 rfl ?_))
  have hc := PairD.del_ret AP CP P a2.key a2.elem _ SP q1 hk2 he2 (by omega)
  rw [HU.out] at hc
  refine hc.mono ?_
  clear hc
  rintro e W21 ⟨AU, CU, rfl, SU, k21⟩
  clear SP
  go_wp2_with fail
  refine ⟨k21, ?_⟩
  have w0' := w0.below k21
  clear w0
  have w0 := w0'
  clear w0'
  have B1' := B1.below k21
  clear B1
  have B1 := B1'
  clear B1'
  have B2' := B2.below k21
  clear B2
  have B2 := B2'
  clear B2'
  have kb' := kb.trans (k21.mono kb.size)
  clear kb k21
  have kb := kb'
  clear kb'
  refine Grow.acts rfl ?_
  go_wp2_with (first | go_skip | (refine RowC.gload E _ rfl _ rfl a1 B1 rfl ?_) | (refine RowC.gload E _ rfl _ rfl a2 B2 rfl ?_))
  have hc := PairD.del_ret a0 cap0 l0 a2.key a2.elem _ w0 f0 hk2 he2 (by omega)
  rw [HG.out] at hc
  refine hc.mono ?_
  clear hc
  rintro e W22 ⟨AG, CG, rfl, SG, k22⟩
  go_wp2_with fail
  refine ⟨k22, ?_⟩
  have w0' := w0.below k22
  clear w0
  have w0 := w0'
  clear w0'
  have B1' := B1.below k22
  clear B1
  have B1 := B1'
  clear B1'
  have B2' := B2.below k22
  clear B2
  have B2 := B2'
  clear B2'
  have SU' := SU.below k22
  clear SU
  have SU := SU'
  clear SU'
  have kb' := kb.trans (k22.mono kb.size)
  clear kb k22
  have kb := kb'
  clear kb'
  refine Grow.acts rfl ?_
  go_wp2_with (first | go_skip | (refine RowC.gload E _ rfl _ rfl a1 B1 rfl ?_) | (refine RowC.gload E _ rfl _ rfl a2 B2 rfl ?_))
  have hc := PairD.add_ret AG CG G a1 _ SG q4 fa (by omega)
  rw [E4.out] at hc
  refine hc.mono ?_
  clear hc
  rintro e W23 ⟨AV, CV, rfl, SV, k23⟩
  clear SG
  go_wp2_with fail
  refine ⟨k23, ?_⟩
  have w0' := w0.below k23
  clear w0
  have w0 := w0'
  clear w0'
  have B1' := B1.below k23
  clear B1
  have B1 := B1'
  clear B1'
  have B2' := B2.below k23
  clear B2
  have B2 := B2'
  clear B2'
  have SU' := SU.below k23
  clear SU
  have SU := SU'
  clear SU'
  have kb' := kb.trans (k23.mono kb.size)
  clear kb k23
  have kb := kb'
  clear kb'
  refine Grow.acts rfl ?_
  go_wp2_with (first | go_skip | (refine RowC.gload E _ rfl _ rfl a1 B1 rfl ?_) | (refine RowC.gload E _ rfl _ rfl a2 B2 rfl ?_))
  have hc := same_ret AU CU U AV CV U _ SU SV
  rw [sameB_self] at hc
  refine hc.mono ?_
  clear hc
  rintro e W24 ⟨rfl, k24⟩
  clear SU SV
  go_wp2_with fail
  refine ⟨k24, ?_⟩
  have w0' := w0.below k24
  clear w0
  have w0 := w0'
  clear w0'
  have B1' := B1.below k24
  clear B1
  have B1 := B1'
  clear B1'
  have B2' := B2.below k24
  clear B2
  have B2 := B2'
  clear B2'
  have kb' := kb.trans (k24.mono kb.size)
  clear kb k24
  have kb := kb'
  clear kb'
  repeat (first | (refine RowG.reads_row E rfl rfl _ rfl _ _ rfl a1 B1.range ?_; simp only [Act.put, List.setIfInBounds_toArray, List.set_cons_succ, List.set_cons_zero]) | (refine RowG.reads_row E rfl rfl _ rfl _ _ rfl a2 B2.range ?_; simp only [Act.put, List.setIfInBounds_toArray, List.set_cons_succ, List.set_cons_zero]) | (refine Grow.reads rfl rfl ?_; go_big_quiet_step (fail); refine wpQuiet_nil ?_))
  refine Grow.ends ?_
  go_wp2_with (first | go_skip | (refine RowC.gload E _ rfl _ rfl a1 B1 rfl ?_) | (refine RowC.gload E _ rfl _ rfl a2 B2 rfl ?_))
  go_ret
  exact ⟨by first | rfl | simp, kb⟩

theorem walk (a0 : Option Addr) (cap0 : Nat) (l0 : List Pr) (a1 : Pr) (a2 : Pr) (w : World) (w0 : SlR E w a0 cap0 l0) (g0 : ∀ x ∈ l0, OpenP.Good x) (g1 : OpenP.Good a1) (g2 : OpenP.Good a2) :
    Calls Try.prog 7 #[.slice a0 l0.length cap0, .agg (pc a1), .agg (pc a2)] w fun e w' => e = .returned (.bool true) ∧ Below w.heap.size w w' := by
  cases x0 : fewB l0 with
  | false => exact out a0 cap0 l0 a1 a2 w w0 g0 g1 g2 _ _ x0 rfl (.inl rfl)
  | true =>
    cases x1 : fewB [a1, a2] with
    | false => exact out a0 cap0 l0 a1 a2 w w0 g0 g1 g2 _ _ x0 x1 (.inr ⟨rfl, rfl⟩)
    | true =>
      cases m0 : mayP l0 with
      | false => exact outm0 a0 cap0 l0 a1 a2 w w0 g0 g1 g2 x0 x1 m0
      | true =>
        cases m1 : mayP [a1] with
        | false => exact outm1 a0 cap0 l0 a1 a2 w w0 g0 g1 g2 x0 x1 m0 m1
        | true =>
          cases m2 : mayP [a2] with
          | false => exact outm2 a0 cap0 l0 a1 a2 w w0 g0 g1 g2 x0 x1 m0 m1 m2
          | true =>
            by_cases hk : a1.key = a2.key
            · by_cases he : a1.elem = a2.elem
              · exact way_s a0 cap0 l0 a1 a2 w w0 g0 g1 g2 x0 x1 m0 m1 m2 hk he
              · exact way_e a0 cap0 l0 a1 a2 w w0 g0 g1 g2 x0 x1 m0 m1 m2 hk he
            · exact way_k a0 cap0 l0 a1 a2 w w0 g0 g1 g2 x0 x1 m0 m1 m2 hk

theorem own : ownKnob Try.prog.godebug = none := by kernel_rfl
theorem laidOut : laidOutB Try.prog = true := by kernel_rfl
set_option linter.unusedVariables false in
set_option maxRecDepth 100000 in
theorem lifted (os : Os) (started : os.Started) (H : Type) (enc : TypeId × Value → H) :
    ReturnsInHanded {} Try.checked os 7 .any (Rows.pairOrderSpec.pre6 enc Try.prog Try.f7 Rows.pairOrderRow.domain false) (Rows.pairOrderSpec.post enc Try.prog Try.f7 false true false false) := by
  refine returnsInHanded_of_change (C := Try.checked) own started (by kernel_rfl) Try.func7
    (ChangeSpec.witness6 (enc := enc) (C := Try.checked) false ⟨#[], #[.slice none 0 0, .agg #[.string ByteArray.empty, .string ByteArray.empty, .int .i64 0, .int .i64 0], .agg #[.string ByteArray.empty, .string ByteArray.empty, .int .i64 0, .int .i64 0]], []⟩ 8 (by kernel_rfl) (by kernel_rfl) (by kernel_rfl) (by kernel_rfl)) ?_
  intro W base args ds gs before hval0 hW hcnd _
  have hval : ∀ (j : Nat) t v, Try.f7.params[j]? = some t → args[j]? = some v → Value.okWide Try.prog W .any base t v := hval0
  have hW' := hW
  obtain ⟨p, q, hA0, hV, rfl, hfz, hnd⟩ := hW
  have hA : DataW.TrodAll enc Try.prog W 0 (fun _ => true) true Try.f7.params.toList args.toList ds p := hA0
  rw [Try.params7] at hA hval
  obtain ⟨v0, vs0, d0, ds0, p0, q0, hargs, rfl, rfl, h0, r0⟩ := trodAll_cons hA
  obtain ⟨v1, vs1, d1, ds1, p1, q1, rfl, rfl, rfl, h1, r1⟩ := trodAll_cons r0
  obtain ⟨v2, vs2, d2, ds2, p2, q2, rfl, rfl, rfl, h2, r2⟩ := trodAll_cons r1
  obtain ⟨rfl, rfl, rfl⟩ := trodAll_nil r2
  obtain rfl : args = #[v0, v1, v2] := by cases args; simp_all
  obtain ⟨rfl, rfl⟩ := trodVars_none hV
  have k0 := h0
  have lt0 : ∀ x ∈ p0, x.block < W.heap.size := by obtain ⟨m, hm⟩ := k0; exact DataW.trod_lt m _ _ _ hm
  obtain ⟨a0, cap0, l0, rfl, w0, g0⟩ := OpenP.open_pairs (hval 0 22 v0 rfl rfl) h0
  have k1 := h1
  have lt1 : ∀ x ∈ p1, x.block < W.heap.size := by obtain ⟨m, hm⟩ := k1; exact DataW.trod_lt m _ _ _ hm
  obtain ⟨a1, rfl, w1⟩ := OpenP.open_pair (hval 1 26 v1 rfl rfl) h1
  have k2 := h2
  have lt2 : ∀ x ∈ p2, x.block < W.heap.size := by obtain ⟨m, hm⟩ := k2; exact DataW.trod_lt m _ _ _ hm
  obtain ⟨a2, rfl, w2⟩ := OpenP.open_pair (hval 2 26 v2 rfl rfl) h2
  clear hA0 hval0
  refine (walk a0 cap0 l0 a1 a2 W w0 g0 w1 w2).mono fun e W' ⟨he, bel⟩ => ?_
  subst he
  exact ⟨_, rfl, _, _, _, [], _, [], hW', trodAll_mk1 (shut_bool Try.underlying4 _), (trodAll_cons_mk (Below.trod laidOut (by kernel_rfl) (of_decide_eq_true (by kernel_rfl)) k0 bel lt0) (trodAll_cons_mk (Below.trod laidOut (by kernel_rfl) (of_decide_eq_true (by kernel_rfl)) k1 bel lt1) (trodAll_cons_mk (Below.trod laidOut (by kernel_rfl) (of_decide_eq_true (by kernel_rfl)) k2 bel lt2) trodAll_mk0))), rfl, bel.frame _, fun h => by cases h⟩

theorem over : Rows.pairOrderRow.holds Try.pinned (OpenSpec.ofChange Rows.pairOrderSpec) :=
  OpenClaim.holds_of_wide 7 Try.f7 rfl rfl rfl rfl rfl rfl rfl ⟨rfl, rfl, rfl, rfl, rfl⟩ rfl rfl rfl rfl rfl (by kernel_rfl) Try.func7 (by kernel_rfl)
    (of_decide_eq_true (by kernel_rfl)) (by unfold Func.isWrapper; first | (rw [if_pos (by decide +kernel)]; kernel_rfl) | (rw [if_neg (by decide +kernel)]; exact ⟨rfl, rfl⟩))
    (fun os started H enc _ => lifted os started H enc)

theorem proved : Rows.PairOrderSaid := over
end Go.Proofs.Ytcodipgooofppaa.pairOrder
