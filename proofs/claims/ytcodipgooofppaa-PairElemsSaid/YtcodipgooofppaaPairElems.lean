/- PairElems returns true for every input: a key's elements are those of its pairs, each once, and rise; one that is added is among them, one that is taken away is not. No condition. -/
import Derived.Test.YtcodipgooofppaaPairA
import Derived.Test.YtcodipgooofppaaRowF
import Derived.Test.YtcodipgooofppaaRowK
import Derived.ShutString
import Derived.ChangeOld
namespace Go.Proofs.Ytcodipgooofppaa.pairElems
open Go Go.ChangeShapes Go.WideShapes Go.ChangeAt Go.RowKit Byt OpsM Rise PairM PairN RowS RowB PairW PairS PairG PairQ PairU Txt PairX PairA

set_option maxRecDepth 100000 in
set_option maxHeartbeats 8000000 in
theorem out (a0 : Option Addr) (cap0 : Nat) (l0 : List Pr) (a1 : Pr) (w : World) (w0 : SlR E w a0 cap0 l0) (g0 : ∀ x ∈ l0, OpenP.Good x) (g1 : OpenP.Good a1) (b0 b1 : Bool) (x0 : fewB l0 = b0) (x1 : fewB [a1] = b1) (h : b0 = false ∨ (b0 = true ∧ b1 = false)) :
    Calls Try.prog 6 #[.slice a0 l0.length cap0, .agg (pc a1)] w fun e w' => e = .returned (.bool true) ∧ Below w.heap.size w w' := by
  rcases h with rfl | ⟨rfl, rfl⟩
  all_goals
    have B1 : Box E (w.alloc (.cells (pc a1) 26)) (w.heap.size) a1 := by exact Box.new w a1 _
    have Z1 := below_alloc w (.cells (pc a1) 26)
    have w0' := w0.below Z1
    clear w0
    have w0 := w0'
    clear w0'
    have kb : Below w.heap.size w (w.alloc (.cells (pc a1) 26)) := by go_grown
    clear Z1
    go_enter Try.func6, Try.ntmps6
    go_wp2_with fail
    refine (awake _).mono ?_
    rintro e W1 ⟨rfl, k1⟩
    have w0' := w0.below k1
    clear w0
    have w0 := w0'
    clear w0'
    have B1' := B1.below k1
    clear B1
    have B1 := B1'
    clear B1'
    have kb' := kb.trans (k1.mono kb.size)
    clear kb k1
    have kb := kb'
    clear kb'
    go_wp2_with (first | go_skip | (refine RowC.gload E _ rfl _ rfl a1 B1 rfl ?_))
    have hc := few_ret a0 cap0 l0 _ w0 (max_of g0)
    rw [x0] at hc
    refine hc.mono ?_
    clear hc
    rintro e w' ⟨rfl, rfl⟩
    go_wp2_with (first | go_skip | (refine RowC.gload E _ rfl _ rfl a1 B1 rfl ?_) | (refine RowC.glit1 E (of_decide_eq_true rfl) _ rfl a1 rfl rfl ?_; intro W2 T k2; have w0' := w0.below k2; clear w0; have w0 := w0'; clear w0'; have B1' := B1.below k2; clear B1; have B1 := B1'; clear B1'; have kb' := kb.trans (k2.mono kb.size); clear kb k2; have kb := kb'; clear kb'))
    have hc := few_ret _ _ [a1] _ T (max_of (one_of g1))
    rw [x1] at hc
    refine hc.mono ?_
    clear hc
    rintro e w' ⟨rfl, rfl⟩
    clear T
    go_wp2_with (first | go_skip | (refine RowC.gload E _ rfl _ rfl a1 B1 rfl ?_))
    go_ret
    exact ⟨by first | rfl | simp, kb⟩

set_option maxRecDepth 100000 in
set_option maxHeartbeats 8000000 in
theorem outm0 (a0 : Option Addr) (cap0 : Nat) (l0 : List Pr) (a1 : Pr) (w : World) (w0 : SlR E w a0 cap0 l0) (g0 : ∀ x ∈ l0, OpenP.Good x) (g1 : OpenP.Good a1) (x0 : fewB l0 = true) (x1 : fewB [a1] = true) (m0 : mayP l0 = false) :
    Calls Try.prog 6 #[.slice a0 l0.length cap0, .agg (pc a1)] w fun e w' => e = .returned (.bool true) ∧ Below w.heap.size w w' := by
  have y0 := few_len x0
  have f0 := few_fits x0 g0
  have fa := fit_one x1 g1
  have fA := fits_one fa
  obtain ⟨hk, he⟩ := few_one x1
  have X0 := aside x0
  have X1 := aside x1
  have M0 := aside m0
  clear x0 x1 m0
  have B1 : Box E (w.alloc (.cells (pc a1) 26)) (w.heap.size) a1 := by exact Box.new w a1 _
  have Z1 := below_alloc w (.cells (pc a1) 26)
  have w0' := w0.below Z1
  clear w0
  have w0 := w0'
  clear w0'
  have kb : Below w.heap.size w (w.alloc (.cells (pc a1) 26)) := by go_grown
  clear Z1
  go_enter Try.func6, Try.ntmps6
  go_wp2_with fail
  refine (awake _).mono ?_
  rintro e W1 ⟨rfl, k1⟩
  have w0' := w0.below k1
  clear w0
  have w0 := w0'
  clear w0'
  have B1' := B1.below k1
  clear B1
  have B1 := B1'
  clear B1'
  have kb' := kb.trans (k1.mono kb.size)
  clear kb k1
  have kb := kb'
  clear kb'
  go_wp2_with (first | go_skip | (refine RowC.gload E _ rfl _ rfl a1 B1 rfl ?_))
  have hc := few_ret a0 cap0 l0 _ w0 (max_of g0)
  rw [X0.out] at hc
  refine hc.mono ?_
  clear hc
  rintro e w' ⟨rfl, rfl⟩
  go_wp2_with (first | go_skip | (refine RowC.gload E _ rfl _ rfl a1 B1 rfl ?_) | (refine RowC.glit1 E (of_decide_eq_true rfl) _ rfl a1 rfl rfl ?_; intro W2 T k2; have w0' := w0.below k2; clear w0; have w0 := w0'; clear w0'; have B1' := B1.below k2; clear B1; have B1 := B1'; clear B1'; have kb' := kb.trans (k2.mono kb.size); clear kb k2; have kb := kb'; clear kb'))
  have hc := few_ret _ _ [a1] _ T (max_of (one_of g1))
  rw [X1.out] at hc
  refine hc.mono ?_
  clear hc
  rintro e w' ⟨rfl, rfl⟩
  clear T
  go_wp2_with (first | go_skip | (refine RowC.gload E _ rfl _ rfl a1 B1 rfl ?_))
  have hc := PairD.may_ret a0 cap0 l0 _ w0 f0 (by omega)
  rw [M0.out] at hc
  refine hc.mono ?_
  clear hc
  rintro e W3 ⟨rfl, k3⟩
  have w0' := w0.below k3
  clear w0
  have w0 := w0'
  clear w0'
  have B1' := B1.below k3
  clear B1
  have B1 := B1'
  clear B1'
  have kb' := kb.trans (k3.mono kb.size)
  clear kb k3
  have kb := kb'
  clear kb'
  go_wp2_with (first | go_skip | (refine RowC.gload E _ rfl _ rfl a1 B1 rfl ?_))
  go_ret
  exact ⟨by first | rfl | simp, kb⟩

set_option maxRecDepth 100000 in
set_option maxHeartbeats 8000000 in
theorem outm1 (a0 : Option Addr) (cap0 : Nat) (l0 : List Pr) (a1 : Pr) (w : World) (w0 : SlR E w a0 cap0 l0) (g0 : ∀ x ∈ l0, OpenP.Good x) (g1 : OpenP.Good a1) (x0 : fewB l0 = true) (x1 : fewB [a1] = true) (m0 : mayP l0 = true) (m1 : mayP [a1] = false) :
    Calls Try.prog 6 #[.slice a0 l0.length cap0, .agg (pc a1)] w fun e w' => e = .returned (.bool true) ∧ Below w.heap.size w w' := by
  have y0 := few_len x0
  have f0 := few_fits x0 g0
  have fa := fit_one x1 g1
  have fA := fits_one fa
  obtain ⟨hk, he⟩ := few_one x1
  have X0 := aside x0
  have X1 := aside x1
  have M0 := aside m0
  have M1 := aside m1
  clear x0 x1 m0 m1
  have B1 : Box E (w.alloc (.cells (pc a1) 26)) (w.heap.size) a1 := by exact Box.new w a1 _
  have Z1 := below_alloc w (.cells (pc a1) 26)
  have w0' := w0.below Z1
  clear w0
  have w0 := w0'
  clear w0'
  have kb : Below w.heap.size w (w.alloc (.cells (pc a1) 26)) := by go_grown
  clear Z1
  go_enter Try.func6, Try.ntmps6
  go_wp2_with fail
  refine (awake _).mono ?_
  rintro e W1 ⟨rfl, k1⟩
  have w0' := w0.below k1
  clear w0
  have w0 := w0'
  clear w0'
  have B1' := B1.below k1
  clear B1
  have B1 := B1'
  clear B1'
  have kb' := kb.trans (k1.mono kb.size)
  clear kb k1
  have kb := kb'
  clear kb'
  go_wp2_with (first | go_skip | (refine RowC.gload E _ rfl _ rfl a1 B1 rfl ?_))
  have hc := few_ret a0 cap0 l0 _ w0 (max_of g0)
  rw [X0.out] at hc
  refine hc.mono ?_
  clear hc
  rintro e w' ⟨rfl, rfl⟩
  go_wp2_with (first | go_skip | (refine RowC.gload E _ rfl _ rfl a1 B1 rfl ?_) | (refine RowC.glit1 E (of_decide_eq_true rfl) _ rfl a1 rfl rfl ?_; intro W2 T k2; have w0' := w0.below k2; clear w0; have w0 := w0'; clear w0'; have B1' := B1.below k2; clear B1; have B1 := B1'; clear B1'; have kb' := kb.trans (k2.mono kb.size); clear kb k2; have kb := kb'; clear kb'))
  have hc := few_ret _ _ [a1] _ T (max_of (one_of g1))
  rw [X1.out] at hc
  refine hc.mono ?_
  clear hc
  rintro e w' ⟨rfl, rfl⟩
  clear T
  go_wp2_with (first | go_skip | (refine RowC.gload E _ rfl _ rfl a1 B1 rfl ?_))
  have hc := PairD.may_ret a0 cap0 l0 _ w0 f0 (by omega)
  rw [M0.out] at hc
  refine hc.mono ?_
  clear hc
  rintro e W3 ⟨rfl, k3⟩
  have w0' := w0.below k3
  clear w0
  have w0 := w0'
  clear w0'
  have B1' := B1.below k3
  clear B1
  have B1 := B1'
  clear B1'
  have kb' := kb.trans (k3.mono kb.size)
  clear kb k3
  have kb := kb'
  clear kb'
  go_wp2_with (first | go_skip | (refine RowC.gload E _ rfl _ rfl a1 B1 rfl ?_) | (refine RowC.glit1 E (of_decide_eq_true rfl) _ rfl a1 rfl rfl ?_; intro W4 T1 k4; have w0' := w0.below k4; clear w0; have w0 := w0'; clear w0'; have B1' := B1.below k4; clear B1; have B1 := B1'; clear B1'; have kb' := kb.trans (k4.mono kb.size); clear kb k4; have kb := kb'; clear kb'))
  have hc := PairD.may_ret _ _ [a1] _ T1 fA (by simp)
  rw [M1.out] at hc
  refine hc.mono ?_
  clear hc
  rintro e W5 ⟨rfl, k5⟩
  clear T1
  have w0' := w0.below k5
  clear w0
  have w0 := w0'
  clear w0'
  have B1' := B1.below k5
  clear B1
  have B1 := B1'
  clear B1'
  have kb' := kb.trans (k5.mono kb.size)
  clear kb k5
  have kb := kb'
  clear kb'
  go_wp2_with (first | go_skip | (refine RowC.gload E _ rfl _ rfl a1 B1 rfl ?_))
  go_ret
  exact ⟨by first | rfl | simp, kb⟩

set_option maxRecDepth 100000 in
set_option maxHeartbeats 64000000 in
theorem within (a0 : Option Addr) (cap0 : Nat) (l0 : List Pr) (a1 : Pr) (w : World) (w0 : SlR E w a0 cap0 l0) (g0 : ∀ x ∈ l0, OpenP.Good x) (g1 : OpenP.Good a1) (x0 : fewB l0 = true) (x1 : fewB [a1] = true) (m0 : mayP l0 = true) (m1 : mayP [a1] = true) :
    Calls Try.prog 6 #[.slice a0 l0.length cap0, .agg (pc a1)] w fun e w' => e = .returned (.bool true) ∧ Below w.heap.size w w' := by
  have y0 := few_len x0
  have f0 := few_fits x0 g0
  have fa := fit_one x1 g1
  have fA := fits_one fa
  obtain ⟨hk, he⟩ := few_one x1
  have X0 := aside x0
  have X1 := aside x1
  have o1 : oneP a1 = true := by rw [← may_one]; exact m1
  have p1 := add_length l0 a1
  have p3 := del_length l0 a1.key a1.elem
  have q1 := add_fits f0 fa
  have q3 := del_fits (k := a1.key) (e := a1.elem) f0
  have ma := add_may l0 a1
  obtain ⟨h1, h2, h3⟩ := elems_add_del m0 o1
  have h4 := elems_rises ma a1.key
  have r1 := elems_length (addP l0 a1) a1.key
  have r2 := elems_length (delP l0 a1.key a1.elem) a1.key
  obtain ⟨P, hP⟩ : ∃ l, addP l0 a1 = l := ⟨_, rfl⟩
  obtain ⟨D, hD⟩ : ∃ l, delP l0 a1.key a1.elem = l := ⟨_, rfl⟩
  rw [hP] at p1 q1 h1 h2 h4 r1
  rw [hD] at p3 q3 h1 h3 r2
  obtain ⟨X, hX⟩ : ∃ l, elemsP P a1.key = l := ⟨_, rfl⟩
  obtain ⟨Y, hY⟩ : ∃ l, elemsP D a1.key = l := ⟨_, rfl⟩
  rw [hX] at h1 h2 h4 r1
  rw [hY] at h1 h3 r2
  have HP := aside hP
  have HD := aside hD
  have HX := aside hX
  have HY := aside hY
  have HL := aside h1
  have HIN := aside h2
  have HNO := aside h3
  have HRI := aside h4
  have M0 := aside m0
  have M1 := aside m1
  clear x0 x1 m0 m1 o1 ma h1 h2 h3 h4 hP hD hX hY
  have B1 : Box E (w.alloc (.cells (pc a1) 26)) (w.heap.size) a1 := by exact Box.new w a1 _
  have Z1 := below_alloc w (.cells (pc a1) 26)
  have w0' := w0.below Z1
  clear w0
  have w0 := w0'
  clear w0'
  have kb : Below w.heap.size w (w.alloc (.cells (pc a1) 26)) := by go_grown
  clear Z1
  go_enter Try.func6, Try.ntmps6
  go_wp2_with fail
  refine (awake _).mono ?_
  rintro e W1 ⟨rfl, k1⟩
  have w0' := w0.below k1
  clear w0
  have w0 := w0'
  clear w0'
  have B1' := B1.below k1
  clear B1
  have B1 := B1'
  clear B1'
  have kb' := kb.trans (k1.mono kb.size)
  clear kb k1
  have kb := kb'
  clear kb'
  go_wp2_with (first | go_skip | (refine RowC.gload E _ rfl _ rfl a1 B1 rfl ?_))
  have hc := few_ret a0 cap0 l0 _ w0 (max_of g0)
  rw [X0.out] at hc
  refine hc.mono ?_
  clear hc
  rintro e w' ⟨rfl, rfl⟩
  go_wp2_with (first | go_skip | (refine RowC.gload E _ rfl _ rfl a1 B1 rfl ?_) | (refine RowC.glit1 E (of_decide_eq_true rfl) _ rfl a1 rfl rfl ?_; intro W2 T k2; have w0' := w0.below k2; clear w0; have w0 := w0'; clear w0'; have B1' := B1.below k2; clear B1; have B1 := B1'; clear B1'; have kb' := kb.trans (k2.mono kb.size); clear kb k2; have kb := kb'; clear kb'))
  have hc := few_ret _ _ [a1] _ T (max_of (one_of g1))
  rw [X1.out] at hc
  refine hc.mono ?_
  clear hc
  rintro e w' ⟨rfl, rfl⟩
  clear T
  go_wp2_with (first | go_skip | (refine RowC.gload E _ rfl _ rfl a1 B1 rfl ?_))
  have hc := PairD.may_ret a0 cap0 l0 _ w0 f0 (by omega)
  rw [M0.out] at hc
  refine hc.mono ?_
  clear hc
  rintro e W3 ⟨rfl, k3⟩
  have w0' := w0.below k3
  clear w0
  have w0 := w0'
  clear w0'
  have B1' := B1.below k3
  clear B1
  have B1 := B1'
  clear B1'
  have kb' := kb.trans (k3.mono kb.size)
  clear kb k3
  have kb := kb'
  clear kb'
  go_wp2_with (first | go_skip | (refine RowC.gload E _ rfl _ rfl a1 B1 rfl ?_) | (refine RowC.glit1 E (of_decide_eq_true rfl) _ rfl a1 rfl rfl ?_; intro W4 T1 k4; have w0' := w0.below k4; clear w0; have w0 := w0'; clear w0'; have B1' := B1.below k4; clear B1; have B1 := B1'; clear B1'; have kb' := kb.trans (k4.mono kb.size); clear kb k4; have kb := kb'; clear kb'))
  have hc := PairD.may_ret _ _ [a1] _ T1 fA (by simp)
  rw [M1.out] at hc
  refine hc.mono ?_
  clear hc
  rintro e W5 ⟨rfl, k5⟩
  clear T1
  have w0' := w0.below k5
  clear w0
  have w0 := w0'
  clear w0'
  have B1' := B1.below k5
  clear B1
  have B1 := B1'
  clear B1'
  have kb' := kb.trans (k5.mono kb.size)
  clear kb k5
  have kb := kb'
  clear kb'
  go_wp2_with (first | go_skip | (refine RowC.gload E _ rfl _ rfl a1 B1 rfl ?_))
  refine Grow.region [(0, true), (1, true), (3, true), (4, true), (2, false), (5, false), (6, true)] (by kernel_rfl) (by kernel_rfl) rfl (by kernel_rfl) (by intro c a d v w h; cases d <;> exact h) ?_
  rename World => V6
  have k6 := below_drew1 (Below.refl V6.heap.size V6)
  have w0' := w0.below k6
  clear w0
  have w0 := w0'
  clear w0'
  have B1' := B1.below k6
  clear B1
  have B1 := B1'
  clear B1'
  have kb' := kb.trans (k6.mono kb.size)
  clear kb k6
  have kb := kb'
  clear kb'
  generalize V6.drew = W6 at w0 B1 kb ⊢
  have q0 := Grow.grown (w := W6) (fun u hu => (B1.below hu).cell (j := 0) (v := .string a1.key) rfl)
  repeat (first | (refine RowG.reads_row E rfl rfl _ rfl _ _ rfl a1 B1.range ?_; simp only [Act.put, List.setIfInBounds_toArray, List.set_cons_succ, List.set_cons_zero]) | (refine Grow.reads rfl rfl ?_; go_big_quiet_step (fail); refine wpQuiet_nil ?_))
  clear q0
  refine Grow.acts rfl ?_
  go_wp2_with (first | go_skip | (refine RowC.gload E _ rfl _ rfl a1 B1 rfl ?_))
  have hc := PairD.add_ret a0 cap0 l0 a1 _ w0 f0 fa (by omega)
  rw [HP.out] at hc
  refine hc.mono ?_
  clear hc
  rintro e W7 ⟨AP, CP, rfl, SP, k7⟩
  go_wp2_with fail
  refine ⟨k7, ?_⟩
  have w0' := w0.below k7
  clear w0
  have w0 := w0'
  clear w0'
  have B1' := B1.below k7
  clear B1
  have B1 := B1'
  clear B1'
  have kb' := kb.trans (k7.mono kb.size)
  clear kb k7
  have kb := kb'
  clear kb'
  refine Grow.acts rfl ?_
  go_wp2_with (first | go_skip | (refine RowC.gload E _ rfl _ rfl a1 B1 rfl ?_))
  have hc := PairD.elems_ret AP CP P a1.key _ SP q1 hk (by omega)
  rw [HX.out] at hc
  refine hc.mono ?_
  clear hc
  rintro e W8 ⟨AX, CX, rfl, SX, k8⟩
  clear SP
  go_wp2_with fail
  refine ⟨k8, ?_⟩
  have w0' := w0.below k8
  clear w0
  have w0 := w0'
  clear w0'
  have B1' := B1.below k8
  clear B1
  have B1 := B1'
  clear B1'
  have kb' := kb.trans (k8.mono kb.size)
  clear kb k8
  have kb := kb'
  clear kb'
  repeat (first | (refine RowG.reads_row E rfl rfl _ rfl _ _ rfl a1 B1.range ?_; simp only [Act.put, List.setIfInBounds_toArray, List.set_cons_succ, List.set_cons_zero]) | (refine Grow.reads rfl rfl ?_; go_big_quiet_step (fail); refine wpQuiet_nil ?_))
  refine Grow.ends ?_
  go_wp2_with (first | go_skip | (refine RowC.gload E _ rfl _ rfl a1 B1 rfl ?_))
  refine Grow.region [(0, true), (1, true), (2, true), (3, true), (4, true), (6, true), (7, true), (5, false), (8, false), (9, true)] (by kernel_rfl) (by kernel_rfl) rfl (by kernel_rfl) (by intro c a d v w h; cases d <;> exact h) ?_
  rename World => V9
  have k9 := below_drew1 (Below.refl V9.heap.size V9)
  have w0' := w0.below k9
  clear w0
  have w0 := w0'
  clear w0'
  have B1' := B1.below k9
  clear B1
  have B1 := B1'
  clear B1'
  have SX' := SX.below k9
  clear SX
  have SX := SX'
  clear SX'
  have kb' := kb.trans (k9.mono kb.size)
  clear kb k9
  have kb := kb'
  clear kb'
  generalize V9.drew = W9 at w0 B1 SX kb ⊢
  have q0 := Grow.grown (w := W9) (fun u hu => (B1.below hu).cell (j := 0) (v := .string a1.key) rfl)
  have q2 := Grow.grown (w := W9) (fun u hu => (B1.below hu).cell (j := 1) (v := .string a1.elem) rfl)
  repeat (first | (refine RowG.reads_row E rfl rfl _ rfl _ _ rfl a1 B1.range ?_; simp only [Act.put, List.setIfInBounds_toArray, List.set_cons_succ, List.set_cons_zero]) | (refine Grow.reads rfl rfl ?_; go_big_quiet_step (fail); refine wpQuiet_nil ?_))
  clear q0 q2
  refine Grow.acts rfl ?_
  go_wp2_with (first | go_skip | (refine RowC.gload E _ rfl _ rfl a1 B1 rfl ?_))
  have hc := PairD.del_ret a0 cap0 l0 a1.key a1.elem _ w0 f0 hk he (by omega)
  rw [HD.out] at hc
  refine hc.mono ?_
  clear hc
  rintro e W10 ⟨AD, CD, rfl, SD, k10⟩
  go_wp2_with fail
  refine ⟨k10, ?_⟩
  have w0' := w0.below k10
  clear w0
  have w0 := w0'
  clear w0'
  have B1' := B1.below k10
  clear B1
  have B1 := B1'
  clear B1'
  have SX' := SX.below k10
  clear SX
  have SX := SX'
  clear SX'
  have kb' := kb.trans (k10.mono kb.size)
  clear kb k10
  have kb := kb'
  clear kb'
  refine Grow.acts rfl ?_
  go_wp2_with (first | go_skip | (refine RowC.gload E _ rfl _ rfl a1 B1 rfl ?_))
  have hc := PairD.elems_ret AD CD D a1.key _ SD q3 hk (by omega)
  rw [HY.out] at hc
  refine hc.mono ?_
  clear hc
  rintro e W11 ⟨AY, CY, rfl, SY, k11⟩
  clear SD
  go_wp2_with fail
  refine ⟨k11, ?_⟩
  have w0' := w0.below k11
  clear w0
  have w0 := w0'
  clear w0'
  have B1' := B1.below k11
  clear B1
  have B1 := B1'
  clear B1'
  have SX' := SX.below k11
  clear SX
  have SX := SX'
  clear SX'
  have kb' := kb.trans (k11.mono kb.size)
  clear kb k11
  have kb := kb'
  clear kb'
  repeat (first | (refine RowG.reads_row E rfl rfl _ rfl _ _ rfl a1 B1.range ?_; simp only [Act.put, List.setIfInBounds_toArray, List.set_cons_succ, List.set_cons_zero]) | (refine Grow.reads rfl rfl ?_; go_big_quiet_step (fail); refine wpQuiet_nil ?_))
  refine Grow.ends ?_
  clear w0
  go_wp2_with (first | go_skip | (refine RowC.gload E _ rfl _ rfl a1 B1 rfl ?_))
  go_loopw [10, 11] (fun v i wq => ∃ (k : Nat) (b : Bool), k ≤ X.length ∧ i = .int .i64 k ∧ v = .bool b ∧ Hid (b = inT a1.elem (X.take k)) ∧ Below W11.heap.size W11 wq) (fun _ i _ => X.length - (intOf i).toNat)
  case atStart => exact ⟨0, false, Nat.zero_le _, rfl, rfl, aside rfl, Below.refl _ _⟩
  case round =>
    obtain ⟨k, b, hk', rfl, rfl, HB, ki⟩ := hrel
    have hcapk := SX.1
    by_cases hlk : k < X.length
    · obtain ⟨gk, ok, hAk, _, hrk0⟩ := SX.plain (by omega)
      subst hAk
      have hrk := aside hrk0
      obtain ⟨z, hz0⟩ : ∃ z, X[k]? = some z := ⟨_, List.getElem?_eq_getElem hlk⟩
      have c1 := cell_below (hrk0 k z hz0) ki
      have c2 := (B1.below ki).cell (j := 1) (v := .string a1.elem) rfl
      have q0 : (k : Int) < X.length := by omega
      have q1 : ((k : Int)).toNat = k := by omega
      have HS := aside (txt_step (x := a1.elem) hz0 HB.out)
      have HV : Hid (∀ m v, m + 1 = k → X[m]? = some v → ltS v z = true) := aside (fun m v hm hv => rises_at HRI.out hv (by rw [hm]; exact hz0))
      clear hrk0 hz0 HB SX
      cases b with
      | true =>
        go_wp2_with fail
        go_quiet (fail)
        have kd := below_drew ki nq
        have c1' : (wr.drewN nq).cell? _ = some (.string z) := c1
        have c2' : (wr.drewN nq).cell? _ = some (.string a1.elem) := c2
        clear c1 c2
        generalize wr.drewN nq = wd at kd c1' c2' ⊢
        have c1 := c1'
        have c2 := c2'
        clear c1' c2'
        go_wp2_with fail
        by_cases k0 : k = 0
        · subst k0
          have u0 : ¬ ((0 : Int) < 0) := by omega
          go_quiet (fail)
          have ke := below_drew kd nq
          go_wp2_with fail
          go_roundw
          case rel => exact ⟨1, true, by omega, by go_num, rfl, aside (by rw [HS.out]; rfl), ke⟩
          case measure => simp [intOf]; omega
        · obtain ⟨m, hm⟩ : ∃ m, m + 1 = k := ⟨k - 1, by omega⟩
          obtain ⟨v, hv⟩ : ∃ v, X[m]? = some v := ⟨_, List.getElem?_eq_getElem (by omega)⟩
          have cv := cell_below (hrk.out m v hv) kd
          have hlt := HV.out m v hm hv
          have s3 : Op.bytesLess z.toList v.toList = false := strictS.asymm hlt
          have s4 := str_no (a := z) (b := v) (fun q => by rw [q] at hlt; rw [strictS.irrefl] at hlt; cases hlt)
          have u0 : decide (0 < (k : Int)) = true := by simp; omega
          have u00 : 0 < k := by omega
          have u1 : (m : Int) < X.length := by omega
          have u2 : ((m : Int)).toNat = m := by omega
          have hwr : IntKind.i64.wrap ((k : Int) - 1) = (m : Int) := by rw [IntKind.wrap_i64]; omega
          clear hm hv hlt k0
          go_quiet (fail)
          have ke := below_drew kd nq
          go_wp2_with fail
          go_roundw
          case rel => exact ⟨k + 1, true, by omega, by go_num, rfl, aside (by rw [HS.out]; rfl), ke⟩
          case measure => simp [intOf]; omega
      | false =>
        by_cases hz : z = a1.elem
        · have t := str_yes hz
          have HZ := aside hz
          clear hz
          go_wp2_with fail
          go_quiet (fail)
          have kd := below_drew ki nq
          have c1' : (wr.drewN nq).cell? _ = some (.string z) := c1
          have c2' : (wr.drewN nq).cell? _ = some (.string a1.elem) := c2
          clear c1 c2
          generalize wr.drewN nq = wd at kd c1' c2' ⊢
          have c1 := c1'
          have c2 := c2'
          clear c1' c2'
          go_wp2_with fail
          by_cases k0 : k = 0
          · subst k0
            have u0 : ¬ ((0 : Int) < 0) := by omega
            go_quiet (fail)
            have ke := below_drew kd nq
            go_wp2_with fail
            go_roundw
            case rel => exact ⟨1, true, by omega, by go_num, rfl, aside (by rw [HS.out]; rw [decide_eq_true HZ.out]; rfl), ke⟩
            case measure => simp [intOf]; omega
          · obtain ⟨m, hm⟩ : ∃ m, m + 1 = k := ⟨k - 1, by omega⟩
            obtain ⟨v, hv⟩ : ∃ v, X[m]? = some v := ⟨_, List.getElem?_eq_getElem (by omega)⟩
            have cv := cell_below (hrk.out m v hv) kd
            have hlt := HV.out m v hm hv
            have s3 : Op.bytesLess z.toList v.toList = false := strictS.asymm hlt
            have s4 := str_no (a := z) (b := v) (fun q => by rw [q] at hlt; rw [strictS.irrefl] at hlt; cases hlt)
            have u0 : decide (0 < (k : Int)) = true := by simp; omega
            have u00 : 0 < k := by omega
            have u1 : (m : Int) < X.length := by omega
            have u2 : ((m : Int)).toNat = m := by omega
            have hwr : IntKind.i64.wrap ((k : Int) - 1) = (m : Int) := by rw [IntKind.wrap_i64]; omega
            clear hm hv hlt k0
            go_quiet (fail)
            have ke := below_drew kd nq
            go_wp2_with fail
            go_roundw
            case rel => exact ⟨k + 1, true, by omega, by go_num, rfl, aside (by rw [HS.out]; rw [decide_eq_true HZ.out]; rfl), ke⟩
            case measure => simp [intOf]; omega
        · have t := str_no hz
          have HZ := aside hz
          clear hz
          go_wp2_with fail
          go_quiet (fail)
          have kd := below_drew ki nq
          have c1' : (wr.drewN nq).cell? _ = some (.string z) := c1
          have c2' : (wr.drewN nq).cell? _ = some (.string a1.elem) := c2
          clear c1 c2
          generalize wr.drewN nq = wd at kd c1' c2' ⊢
          have c1 := c1'
          have c2 := c2'
          clear c1' c2'
          go_wp2_with fail
          by_cases k0 : k = 0
          · subst k0
            have u0 : ¬ ((0 : Int) < 0) := by omega
            go_quiet (fail)
            have ke := below_drew kd nq
            go_wp2_with fail
            go_roundw
            case rel => exact ⟨1, false, by omega, by go_num, rfl, aside (by rw [HS.out]; rw [decide_eq_false HZ.out]; rfl), ke⟩
            case measure => simp [intOf]; omega
          · obtain ⟨m, hm⟩ : ∃ m, m + 1 = k := ⟨k - 1, by omega⟩
            obtain ⟨v, hv⟩ : ∃ v, X[m]? = some v := ⟨_, List.getElem?_eq_getElem (by omega)⟩
            have cv := cell_below (hrk.out m v hv) kd
            have hlt := HV.out m v hm hv
            have s3 : Op.bytesLess z.toList v.toList = false := strictS.asymm hlt
            have s4 := str_no (a := z) (b := v) (fun q => by rw [q] at hlt; rw [strictS.irrefl] at hlt; cases hlt)
            have u0 : decide (0 < (k : Int)) = true := by simp; omega
            have u00 : 0 < k := by omega
            have u1 : (m : Int) < X.length := by omega
            have u2 : ((m : Int)).toNat = m := by omega
            have hwr : IntKind.i64.wrap ((k : Int) - 1) = (m : Int) := by rw [IntKind.wrap_i64]; omega
            clear hm hv hlt k0
            go_quiet (fail)
            have ke := below_drew kd nq
            go_wp2_with fail
            go_roundw
            case rel => exact ⟨k + 1, false, by omega, by go_num, rfl, aside (by rw [HS.out]; rw [decide_eq_false HZ.out]; rfl), ke⟩
            case measure => simp [intOf]; omega
    · have ek : k = X.length := by omega
      have hb : b = true := by rw [HB.out, ek, List.take_length]; exact inT_iff.2 HIN.out
      subst hb
      clear HB
      have B1' := B1.below ki
      clear B1
      have B1 := B1'
      clear B1'
      have SX' := SX.below ki
      clear SX
      have SX := SX'
      clear SX'
      have SY' := SY.below ki
      clear SY
      have SY := SY'
      clear SY'
      have kb' := kb.trans (ki.mono kb.size)
      clear kb ki
      have kb := kb'
      clear kb'
      clear SX
      go_wp2_with (first | go_skip | (refine RowC.gload E _ rfl _ rfl a1 B1 rfl ?_))
      have hyl := HL.out
      go_loopw [12] (fun i wq => ∃ k : Nat, k ≤ Y.length ∧ i = .int .i64 k ∧ Below wr.heap.size wr wq) (fun i _ => Y.length - (intOf i).toNat)
      case atStart => exact ⟨0, Nat.zero_le _, rfl, Below.refl _ _⟩
      case round =>
        obtain ⟨k, hk', rfl, ki⟩ := hrel
        have hcapk := SY.1
        by_cases hlk : k < Y.length
        · obtain ⟨gk, ok, hAk, _, hrk0⟩ := SY.plain (by omega)
          subst hAk
          obtain ⟨z, hz0⟩ : ∃ z, Y[k]? = some z := ⟨_, List.getElem?_eq_getElem hlk⟩
          have c1 := cell_below (hrk0 k z hz0) ki
          have c2 := (B1.below ki).cell (j := 1) (v := .string a1.elem) rfl
          have q0 : (k : Int) < Y.length := by omega
          have q1 : ((k : Int)).toNat = k := by omega
          have t := str_no (a := z) (b := a1.elem) (fun q => HNO.out (by rw [← q]; exact List.mem_of_getElem? hz0))
          clear hrk0 hz0 SY
          go_wp2_with fail
          go_quiet (fail)
          go_wp2_with fail
          go_roundw
          case rel => exact ⟨k + 1, by omega, by go_num, below_drew ki _⟩
          case measure => simp [intOf]; omega
        · have ek : k = Y.length := by omega
          have t : ((X.length : Int) == ((Y.length : Int) + 1)) = true := by rw [hyl]; simp
          have t2 : IntKind.i64.wrap ((Y.length : Int) + 1) = (X.length : Int) := by rw [IntKind.wrap_i64]; omega
          have B1' := B1.below ki
          clear B1
          have B1 := B1'
          clear B1'
          have SY' := SY.below ki
          clear SY
          have SY := SY'
          clear SY'
          have kb' := kb.trans (ki.mono kb.size)
          clear kb ki
          have kb := kb'
          clear kb'
          go_wp2_with (first | go_skip | (refine RowC.gload E _ rfl _ rfl a1 B1 rfl ?_))
          go_ret
          exact ⟨by first | rfl | simp, kb⟩

theorem walk (a0 : Option Addr) (cap0 : Nat) (l0 : List Pr) (a1 : Pr) (w : World) (w0 : SlR E w a0 cap0 l0) (g0 : ∀ x ∈ l0, OpenP.Good x) (g1 : OpenP.Good a1) :
    Calls Try.prog 6 #[.slice a0 l0.length cap0, .agg (pc a1)] w fun e w' => e = .returned (.bool true) ∧ Below w.heap.size w w' := by
  cases x0 : fewB l0 with
  | false => exact out a0 cap0 l0 a1 w w0 g0 g1 _ _ x0 rfl (.inl rfl)
  | true =>
    cases x1 : fewB [a1] with
    | false => exact out a0 cap0 l0 a1 w w0 g0 g1 _ _ x0 x1 (.inr ⟨rfl, rfl⟩)
    | true =>
      cases m0 : mayP l0 with
      | false => exact outm0 a0 cap0 l0 a1 w w0 g0 g1 x0 x1 m0
      | true =>
        cases m1 : mayP [a1] with
        | false => exact outm1 a0 cap0 l0 a1 w w0 g0 g1 x0 x1 m0 m1
        | true => exact within a0 cap0 l0 a1 w w0 g0 g1 x0 x1 m0 m1

theorem own : ownKnob Try.prog.godebug = none := by kernel_rfl
theorem laidOut : laidOutB Try.prog = true := by kernel_rfl
set_option linter.unusedVariables false in
set_option maxRecDepth 100000 in
theorem lifted (os : Os) (started : os.Started) (H : Type) (enc : TypeId × Value → H) :
    ReturnsInHanded {} Try.checked os 6 .any (Rows.pairElemsSpec.pre6 enc Try.prog Try.f6 Rows.pairElemsRow.domain false) (Rows.pairElemsSpec.post enc Try.prog Try.f6 false true false false) := by
  refine returnsInHanded_of_change (C := Try.checked) own started (by kernel_rfl) Try.func6
    (ChangeSpec.witness6 (enc := enc) (C := Try.checked) false ⟨#[], #[.slice none 0 0, .agg #[.string ByteArray.empty, .string ByteArray.empty, .int .i64 0, .int .i64 0]], []⟩ 8 (by kernel_rfl) (by kernel_rfl) (by kernel_rfl) (by kernel_rfl)) ?_
  intro W base args ds gs before hval0 hW hcnd _
  have hval : ∀ (j : Nat) t v, Try.f6.params[j]? = some t → args[j]? = some v → Value.okWide Try.prog W .any base t v := hval0
  have hW' := hW
  obtain ⟨p, q, hA0, hV, rfl, hfz, hnd⟩ := hW
  have hA : DataW.TrodAll enc Try.prog W 0 (fun _ => true) true Try.f6.params.toList args.toList ds p := hA0
  rw [Try.params6] at hA hval
  obtain ⟨v0, vs0, d0, ds0, p0, q0, hargs, rfl, rfl, h0, r0⟩ := trodAll_cons hA
  obtain ⟨v1, vs1, d1, ds1, p1, q1, rfl, rfl, rfl, h1, r1⟩ := trodAll_cons r0
  obtain ⟨rfl, rfl, rfl⟩ := trodAll_nil r1
  obtain rfl : args = #[v0, v1] := by cases args; simp_all
  obtain ⟨rfl, rfl⟩ := trodVars_none hV
  have k0 := h0
  have lt0 : ∀ x ∈ p0, x.block < W.heap.size := by obtain ⟨m, hm⟩ := k0; exact DataW.trod_lt m _ _ _ hm
  obtain ⟨a0, cap0, l0, rfl, w0, g0⟩ := OpenP.open_pairs (hval 0 22 v0 rfl rfl) h0
  have k1 := h1
  have lt1 : ∀ x ∈ p1, x.block < W.heap.size := by obtain ⟨m, hm⟩ := k1; exact DataW.trod_lt m _ _ _ hm
  obtain ⟨a1, rfl, w1⟩ := OpenP.open_pair (hval 1 26 v1 rfl rfl) h1
  clear hA0 hval0
  refine (walk a0 cap0 l0 a1 W w0 g0 w1).mono fun e W' ⟨he, bel⟩ => ?_
  subst he
  exact ⟨_, rfl, _, _, _, [], _, [], hW', trodAll_mk1 (shut_bool Try.underlying4 _), (trodAll_cons_mk (Below.trod laidOut (by kernel_rfl) (of_decide_eq_true (by kernel_rfl)) k0 bel lt0) (trodAll_cons_mk (Below.trod laidOut (by kernel_rfl) (of_decide_eq_true (by kernel_rfl)) k1 bel lt1) trodAll_mk0)), rfl, bel.frame _, fun h => by cases h⟩

theorem over : Rows.pairElemsRow.holds Try.pinned (OpenSpec.ofChange Rows.pairElemsSpec) :=
  OpenClaim.holds_of_wide 6 Try.f6 rfl rfl rfl rfl rfl rfl rfl ⟨rfl, rfl, rfl, rfl, rfl⟩ rfl rfl rfl rfl rfl (by kernel_rfl) Try.func6 (by kernel_rfl)
    (of_decide_eq_true (by kernel_rfl)) (by unfold Func.isWrapper; first | (rw [if_pos (by decide +kernel)]; kernel_rfl) | (rw [if_neg (by decide +kernel)]; exact ⟨rfl, rfl⟩))
    (fun os started H enc _ => lifted os started H enc)

theorem proved : Rows.PairElemsSaid := over
end Go.Proofs.Ytcodipgooofppaa.pairElems
