/- PairTells returns true for every input: any pairs may be, or not; with one more, without an element, and merged, and a key's elements, are what the document says. No condition. -/
import Derived.Test.YtcodipgooofppaaPairA
import Derived.Test.YtcodipgooofppaaRowF
import Derived.Test.YtcodipgooofppaaRowK
import Derived.ShutString
import Derived.ChangeOld
namespace Go.Proofs.Ytcodipgooofppaa.pairTells
open Go Go.ChangeShapes Go.WideShapes Go.ChangeAt Go.RowKit Byt OpsM Rise PairM PairN RowS RowB PairW PairS PairG PairQ PairU Txt PairX PairA

set_option maxRecDepth 100000 in
set_option maxHeartbeats 8000000 in
theorem out (a0 : Option Addr) (cap0 : Nat) (l0 : List Pr) (a1 : Option Addr) (cap1 : Nat) (l1 : List Pr) (a2 : Option Addr) (cap2 : Nat) (l2 : List Pr) (a3 : Pr) (w : World) (w0 : SlR E w a0 cap0 l0) (g0 : ∀ x ∈ l0, OpenP.Good x) (w1 : SlR E w a1 cap1 l1) (g1 : ∀ x ∈ l1, OpenP.Good x) (w2 : SlR E w a2 cap2 l2) (g2 : ∀ x ∈ l2, OpenP.Good x) (g3 : OpenP.Good a3) (b0 : Bool) (b1 : Bool) (b2 : Bool) (b3 : Bool) (x0 : fewB l0 = b0) (x1 : fewB l1 = b1) (x2 : fewB l2 = b2) (x3 : fewB [a3] = b3) (h : (b0 = false) ∨ (b0 = true ∧ b1 = false) ∨ (b0 = true ∧ b1 = true ∧ b2 = false) ∨ (b0 = true ∧ b1 = true ∧ b2 = true ∧ b3 = false)) :
    Calls Try.prog 3 #[.slice a0 l0.length cap0, .slice a1 l1.length cap1, .slice a2 l2.length cap2, .agg (pc a3)] w fun e w' => e = .returned (.bool true) ∧ Below w.heap.size w w' := by
  rcases h with rfl | ⟨rfl, rfl⟩ | ⟨rfl, rfl, rfl⟩ | ⟨rfl, rfl, rfl, rfl⟩
  all_goals
    have B3 : Box E (w.alloc (.cells (pc a3) 26)) (w.heap.size) a3 := by exact Box.new w a3 _
    have Z3 := below_alloc w (.cells (pc a3) 26)
    have w0' := w0.below Z3
    clear w0
    have w0 := w0'
    clear w0'
    have w1' := w1.below Z3
    clear w1
    have w1 := w1'
    clear w1'
    have w2' := w2.below Z3
    clear w2
    have w2 := w2'
    clear w2'
    have kb : Below w.heap.size w (w.alloc (.cells (pc a3) 26)) := by go_grown
    clear Z3
    go_enter Try.func3, Try.ntmps3
    go_wp2_with fail
    refine (awake _).mono ?_
    rintro e W1 ⟨rfl, k1⟩
    have w0' := w0.below k1
    clear w0
    have w0 := w0'
    clear w0'
    have w1' := w1.below k1
    clear w1
    have w1 := w1'
    clear w1'
    have w2' := w2.below k1
    clear w2
    have w2 := w2'
    clear w2'
    have B3' := B3.below k1
    clear B3
    have B3 := B3'
    clear B3'
    have kb' := kb.trans (k1.mono kb.size)
    clear kb k1
    have kb := kb'
    clear kb'
    go_wp2_with (first | go_skip | (refine RowC.gload E _ rfl _ rfl a3 B3 rfl ?_))
    have hc := few_ret a0 cap0 l0 _ w0 (max_of g0)
    rw [x0] at hc
    refine hc.mono ?_
    clear hc
    rintro e w' ⟨rfl, rfl⟩
    go_wp2_with (first | go_skip | (refine RowC.gload E _ rfl _ rfl a3 B3 rfl ?_))
    have hc := few_ret a1 cap1 l1 _ w1 (max_of g1)
    rw [x1] at hc
    refine hc.mono ?_
    clear hc
    rintro e w' ⟨rfl, rfl⟩
    go_wp2_with (first | go_skip | (refine RowC.gload E _ rfl _ rfl a3 B3 rfl ?_))
    have hc := few_ret a2 cap2 l2 _ w2 (max_of g2)
    rw [x2] at hc
    refine hc.mono ?_
    clear hc
    rintro e w' ⟨rfl, rfl⟩
    go_wp2_with (first | go_skip | (refine RowC.gload E _ rfl _ rfl a3 B3 rfl ?_) | (refine RowC.glit1 E (of_decide_eq_true rfl) _ rfl a3 rfl rfl ?_; intro W2 T k2; have w0' := w0.below k2; clear w0; have w0 := w0'; clear w0'; have w1' := w1.below k2; clear w1; have w1 := w1'; clear w1'; have w2' := w2.below k2; clear w2; have w2 := w2'; clear w2'; have B3' := B3.below k2; clear B3; have B3 := B3'; clear B3'; have kb' := kb.trans (k2.mono kb.size); clear kb k2; have kb := kb'; clear kb'))
    have hc := few_ret _ _ [a3] _ T (max_of (one_of g3))
    rw [x3] at hc
    refine hc.mono ?_
    clear hc
    rintro e w' ⟨rfl, rfl⟩
    clear T
    go_wp2_with (first | go_skip | (refine RowC.gload E _ rfl _ rfl a3 B3 rfl ?_))
    go_ret
    exact ⟨by first | rfl | simp, kb⟩

set_option maxRecDepth 100000 in
set_option maxHeartbeats 32000000 in
theorem within (a0 : Option Addr) (cap0 : Nat) (l0 : List Pr) (a1 : Option Addr) (cap1 : Nat) (l1 : List Pr) (a2 : Option Addr) (cap2 : Nat) (l2 : List Pr) (a3 : Pr) (w : World) (w0 : SlR E w a0 cap0 l0) (g0 : ∀ x ∈ l0, OpenP.Good x) (w1 : SlR E w a1 cap1 l1) (g1 : ∀ x ∈ l1, OpenP.Good x) (w2 : SlR E w a2 cap2 l2) (g2 : ∀ x ∈ l2, OpenP.Good x) (g3 : OpenP.Good a3) (x0 : fewB l0 = true) (x1 : fewB l1 = true) (x2 : fewB l2 = true) (x3 : fewB [a3] = true) :
    Calls Try.prog 3 #[.slice a0 l0.length cap0, .slice a1 l1.length cap1, .slice a2 l2.length cap2, .agg (pc a3)] w fun e w' => e = .returned (.bool true) ∧ Below w.heap.size w w' := by
  have y0 := few_len x0
  have y1 := few_len x1
  have y2 := few_len x2
  have f0 := few_fits x0 g0
  have f1 := few_fits x1 g1
  have f2 := few_fits x2 g2
  have fa := fit_one x3 g3
  obtain ⟨hk, he⟩ := few_one x3
  obtain ⟨bm, hbm⟩ : ∃ b, mayP l1 = b := ⟨_, rfl⟩
  obtain ⟨P, hP⟩ : ∃ l, addP l1 a3 = l := ⟨_, rfl⟩
  obtain ⟨D, hD⟩ : ∃ l, delP l1 a3.key a3.elem = l := ⟨_, rfl⟩
  obtain ⟨M, hM⟩ : ∃ l, mergeP l0 l1 l2 = l := ⟨_, rfl⟩
  obtain ⟨T, hT⟩ : ∃ l, elemsP l1 a3.key = l := ⟨_, rfl⟩
  have X0 := aside x0
  have X1 := aside x1
  have X2 := aside x2
  have X3 := aside x3
  have HBM := aside hbm
  have HP := aside hP
  have HD := aside hD
  have HM := aside hM
  have HT := aside hT
  clear x0 x1 x2 x3 hbm hP hD hM hT
  have B3 : Box E (w.alloc (.cells (pc a3) 26)) (w.heap.size) a3 := by exact Box.new w a3 _
  have Z3 := below_alloc w (.cells (pc a3) 26)
  have w0' := w0.below Z3
  clear w0
  have w0 := w0'
  clear w0'
  have w1' := w1.below Z3
  clear w1
  have w1 := w1'
  clear w1'
  have w2' := w2.below Z3
  clear w2
  have w2 := w2'
  clear w2'
  have kb : Below w.heap.size w (w.alloc (.cells (pc a3) 26)) := by go_grown
  clear Z3
  go_enter Try.func3, Try.ntmps3
  go_wp2_with fail
  refine (awake _).mono ?_
  rintro e W1 ⟨rfl, k1⟩
  have w0' := w0.below k1
  clear w0
  have w0 := w0'
  clear w0'
  have w1' := w1.below k1
  clear w1
  have w1 := w1'
  clear w1'
  have w2' := w2.below k1
  clear w2
  have w2 := w2'
  clear w2'
  have B3' := B3.below k1
  clear B3
  have B3 := B3'
  clear B3'
  have kb' := kb.trans (k1.mono kb.size)
  clear kb k1
  have kb := kb'
  clear kb'
  go_wp2_with (first | go_skip | (refine RowC.gload E _ rfl _ rfl a3 B3 rfl ?_))
  have hc := few_ret a0 cap0 l0 _ w0 (max_of g0)
  rw [X0.out] at hc
  refine hc.mono ?_
  clear hc
  rintro e w' ⟨rfl, rfl⟩
  go_wp2_with (first | go_skip | (refine RowC.gload E _ rfl _ rfl a3 B3 rfl ?_))
  have hc := few_ret a1 cap1 l1 _ w1 (max_of g1)
  rw [X1.out] at hc
  refine hc.mono ?_
  clear hc
  rintro e w' ⟨rfl, rfl⟩
  go_wp2_with (first | go_skip | (refine RowC.gload E _ rfl _ rfl a3 B3 rfl ?_))
  have hc := few_ret a2 cap2 l2 _ w2 (max_of g2)
  rw [X2.out] at hc
  refine hc.mono ?_
  clear hc
  rintro e w' ⟨rfl, rfl⟩
  go_wp2_with (first | go_skip | (refine RowC.gload E _ rfl _ rfl a3 B3 rfl ?_) | (refine RowC.glit1 E (of_decide_eq_true rfl) _ rfl a3 rfl rfl ?_; intro W2 T k2; have w0' := w0.below k2; clear w0; have w0 := w0'; clear w0'; have w1' := w1.below k2; clear w1; have w1 := w1'; clear w1'; have w2' := w2.below k2; clear w2; have w2 := w2'; clear w2'; have B3' := B3.below k2; clear B3; have B3 := B3'; clear B3'; have kb' := kb.trans (k2.mono kb.size); clear kb k2; have kb := kb'; clear kb'))
  have hc := few_ret _ _ [a3] _ T (max_of (one_of g3))
  rw [X3.out] at hc
  refine hc.mono ?_
  clear hc
  rintro e w' ⟨rfl, rfl⟩
  clear T
  go_wp2_with (first | go_skip | (refine RowC.gload E _ rfl _ rfl a3 B3 rfl ?_))
  have hc := PairG.may_ret a1 cap1 l1 _ w1 f1
  rw [HBM.out] at hc
  refine hc.mono ?_
  clear hc
  rintro e W3 ⟨rfl, k3⟩
  have w0' := w0.below k3
  clear w0
  have w0 := w0'
  clear w0'
  have w1' := w1.below k3
  clear w1
  have w1 := w1'
  clear w1'
  have w2' := w2.below k3
  clear w2
  have w2 := w2'
  clear w2'
  have B3' := B3.below k3
  clear B3
  have B3 := B3'
  clear B3'
  have kb' := kb.trans (k3.mono kb.size)
  clear kb k3
  have kb := kb'
  clear kb'
  go_wp2_with (first | go_skip | (refine RowC.gload E _ rfl _ rfl a3 B3 rfl ?_))
  refine Grow.region [(0, true), (1, true), (3, true), (4, true), (2, false), (5, false), (6, false), (7, true)] (by kernel_rfl) (by kernel_rfl) rfl (by kernel_rfl) (by intro c a d v w h; cases d <;> exact h) ?_
  rename World => V4
  have k4 := below_drew1 (Below.refl V4.heap.size V4)
  have w0' := w0.below k4
  clear w0
  have w0 := w0'
  clear w0'
  have w1' := w1.below k4
  clear w1
  have w1 := w1'
  clear w1'
  have w2' := w2.below k4
  clear w2
  have w2 := w2'
  clear w2'
  have B3' := B3.below k4
  clear B3
  have B3 := B3'
  clear B3'
  have kb' := kb.trans (k4.mono kb.size)
  clear kb k4
  have kb := kb'
  clear kb'
  generalize V4.drew = W4 at w0 w1 w2 B3 kb ⊢
  repeat (first | (refine RowG.reads_row E rfl rfl _ rfl _ _ rfl a3 B3.range ?_; simp only [Act.put, List.setIfInBounds_toArray, List.set_cons_succ, List.set_cons_zero]) | (refine Grow.reads rfl rfl ?_; go_big_quiet_step (fail); refine wpQuiet_nil ?_))
  refine Grow.acts rfl ?_
  go_wp2_with (first | go_skip | (refine RowC.gload E _ rfl _ rfl a3 B3 rfl ?_))
  have hc := PairD.add_ret a1 cap1 l1 a3 _ w1 f1 fa (by omega)
  rw [HP.out] at hc
  refine hc.mono ?_
  clear hc
  rintro e W5 ⟨AP, CP, rfl, SP, k5⟩
  go_wp2_with fail
  refine ⟨k5, ?_⟩
  have w0' := w0.below k5
  clear w0
  have w0 := w0'
  clear w0'
  have w1' := w1.below k5
  clear w1
  have w1 := w1'
  clear w1'
  have w2' := w2.below k5
  clear w2
  have w2 := w2'
  clear w2'
  have B3' := B3.below k5
  clear B3
  have B3 := B3'
  clear B3'
  have kb' := kb.trans (k5.mono kb.size)
  clear kb k5
  have kb := kb'
  clear kb'
  refine Grow.acts rfl ?_
  go_wp2_with (first | go_skip | (refine RowC.gload E _ rfl _ rfl a3 B3 rfl ?_))
  have hc := PairQ.add_ret a1 cap1 l1 a3 _ w1 f1 fa (by omega)
  rw [HP.out] at hc
  refine hc.mono ?_
  clear hc
  rintro e W6 ⟨AQ, CQ, rfl, SQ, k6⟩
  go_wp2_with fail
  refine ⟨k6, ?_⟩
  have w0' := w0.below k6
  clear w0
  have w0 := w0'
  clear w0'
  have w1' := w1.below k6
  clear w1
  have w1 := w1'
  clear w1'
  have w2' := w2.below k6
  clear w2
  have w2 := w2'
  clear w2'
  have B3' := B3.below k6
  clear B3
  have B3 := B3'
  clear B3'
  have SP' := SP.below k6
  clear SP
  have SP := SP'
  clear SP'
  have kb' := kb.trans (k6.mono kb.size)
  clear kb k6
  have kb := kb'
  clear kb'
  refine Grow.acts rfl ?_
  go_wp2_with (first | go_skip | (refine RowC.gload E _ rfl _ rfl a3 B3 rfl ?_))
  have hc := same_ret AP CP P AQ CQ P _ SP SQ
  rw [sameB_self] at hc
  refine hc.mono ?_
  clear hc
  rintro e W7 ⟨rfl, k7⟩
  clear SP SQ
  go_wp2_with fail
  refine ⟨k7, ?_⟩
  have w0' := w0.below k7
  clear w0
  have w0 := w0'
  clear w0'
  have w1' := w1.below k7
  clear w1
  have w1 := w1'
  clear w1'
  have w2' := w2.below k7
  clear w2
  have w2 := w2'
  clear w2'
  have B3' := B3.below k7
  clear B3
  have B3 := B3'
  clear B3'
  have kb' := kb.trans (k7.mono kb.size)
  clear kb k7
  have kb := kb'
  clear kb'
  repeat (first | (refine RowG.reads_row E rfl rfl _ rfl _ _ rfl a3 B3.range ?_; simp only [Act.put, List.setIfInBounds_toArray, List.set_cons_succ, List.set_cons_zero]) | (refine Grow.reads rfl rfl ?_; go_big_quiet_step (fail); refine wpQuiet_nil ?_))
  refine Grow.ends ?_
  go_wp2_with (first | go_skip | (refine RowC.gload E _ rfl _ rfl a3 B3 rfl ?_))
  refine Grow.region [(0, true), (1, true), (2, true), (3, true), (4, true), (6, true), (7, true), (8, true), (9, true), (10, true), (5, false), (11, false), (12, false), (13, true)] (by kernel_rfl) (by kernel_rfl) rfl (by kernel_rfl) (by intro c a d v w h; cases d <;> exact h) ?_
  rename World => V8
  have k8 := below_drew1 (Below.refl V8.heap.size V8)
  have w0' := w0.below k8
  clear w0
  have w0 := w0'
  clear w0'
  have w1' := w1.below k8
  clear w1
  have w1 := w1'
  clear w1'
  have w2' := w2.below k8
  clear w2
  have w2 := w2'
  clear w2'
  have B3' := B3.below k8
  clear B3
  have B3 := B3'
  clear B3'
  have kb' := kb.trans (k8.mono kb.size)
  clear kb k8
  have kb := kb'
  clear kb'
  generalize V8.drew = W8 at w0 w1 w2 B3 kb ⊢
  have q0 := Grow.grown (w := W8) (fun u hu => (B3.below hu).cell (j := 0) (v := .string a3.key) rfl)
  have q1 := Grow.grown (w := W8) (fun u hu => (B3.below hu).cell (j := 1) (v := .string a3.elem) rfl)
  repeat (first | (refine RowG.reads_row E rfl rfl _ rfl _ _ rfl a3 B3.range ?_; simp only [Act.put, List.setIfInBounds_toArray, List.set_cons_succ, List.set_cons_zero]) | (refine Grow.reads rfl rfl ?_; go_big_quiet_step (fail); refine wpQuiet_nil ?_))
  clear q0 q1
  refine Grow.acts rfl ?_
  go_wp2_with (first | go_skip | (refine RowC.gload E _ rfl _ rfl a3 B3 rfl ?_))
  have hc := PairD.del_ret a1 cap1 l1 a3.key a3.elem _ w1 f1 hk he (by omega)
  rw [HD.out] at hc
  refine hc.mono ?_
  clear hc
  rintro e W9 ⟨AP, CP, rfl, SP, k9⟩
  go_wp2_with fail
  refine ⟨k9, ?_⟩
  have w0' := w0.below k9
  clear w0
  have w0 := w0'
  clear w0'
  have w1' := w1.below k9
  clear w1
  have w1 := w1'
  clear w1'
  have w2' := w2.below k9
  clear w2
  have w2 := w2'
  clear w2'
  have B3' := B3.below k9
  clear B3
  have B3 := B3'
  clear B3'
  have kb' := kb.trans (k9.mono kb.size)
  clear kb k9
  have kb := kb'
  clear kb'
  refine Grow.acts rfl ?_
  go_wp2_with (first | go_skip | (refine RowC.gload E _ rfl _ rfl a3 B3 rfl ?_))
  have hc := PairQ.del_ret a1 cap1 l1 a3.key a3.elem _ w1 f1 (by omega)
  rw [HD.out] at hc
  refine hc.mono ?_
  clear hc
  rintro e W10 ⟨AQ, CQ, rfl, SQ, k10⟩
  go_wp2_with fail
  refine ⟨k10, ?_⟩
  have w0' := w0.below k10
  clear w0
  have w0 := w0'
  clear w0'
  have w1' := w1.below k10
  clear w1
  have w1 := w1'
  clear w1'
  have w2' := w2.below k10
  clear w2
  have w2 := w2'
  clear w2'
  have B3' := B3.below k10
  clear B3
  have B3 := B3'
  clear B3'
  have SP' := SP.below k10
  clear SP
  have SP := SP'
  clear SP'
  have kb' := kb.trans (k10.mono kb.size)
  clear kb k10
  have kb := kb'
  clear kb'
  refine Grow.acts rfl ?_
  go_wp2_with (first | go_skip | (refine RowC.gload E _ rfl _ rfl a3 B3 rfl ?_))
  have hc := same_ret AP CP D AQ CQ D _ SP SQ
  rw [sameB_self] at hc
  refine hc.mono ?_
  clear hc
  rintro e W11 ⟨rfl, k11⟩
  clear SP SQ
  go_wp2_with fail
  refine ⟨k11, ?_⟩
  have w0' := w0.below k11
  clear w0
  have w0 := w0'
  clear w0'
  have w1' := w1.below k11
  clear w1
  have w1 := w1'
  clear w1'
  have w2' := w2.below k11
  clear w2
  have w2 := w2'
  clear w2'
  have B3' := B3.below k11
  clear B3
  have B3 := B3'
  clear B3'
  have kb' := kb.trans (k11.mono kb.size)
  clear kb k11
  have kb := kb'
  clear kb'
  repeat (first | (refine RowG.reads_row E rfl rfl _ rfl _ _ rfl a3 B3.range ?_; simp only [Act.put, List.setIfInBounds_toArray, List.set_cons_succ, List.set_cons_zero]) | (refine Grow.reads rfl rfl ?_; go_big_quiet_step (fail); refine wpQuiet_nil ?_))
  refine Grow.ends ?_
  go_wp2_with (first | go_skip | (refine RowC.gload E _ rfl _ rfl a3 B3 rfl ?_))
  have hc := PairD.merge_ret a0 cap0 l0 a1 cap1 l1 a2 cap2 l2 _ w0 w1 w2 f0 f1 f2 (by omega) (by omega) (by omega)
  rw [HM.out] at hc
  refine hc.mono ?_
  clear hc
  rintro e W12 ⟨AP, CP, rfl, SP, k12⟩
  have w0' := w0.below k12
  clear w0
  have w0 := w0'
  clear w0'
  have w1' := w1.below k12
  clear w1
  have w1 := w1'
  clear w1'
  have w2' := w2.below k12
  clear w2
  have w2 := w2'
  clear w2'
  have B3' := B3.below k12
  clear B3
  have B3 := B3'
  clear B3'
  have kb' := kb.trans (k12.mono kb.size)
  clear kb k12
  have kb := kb'
  clear kb'
  go_wp2_with (first | go_skip | (refine RowC.gload E _ rfl _ rfl a3 B3 rfl ?_))
  have hc := PairU.merge_ret a0 cap0 l0 a1 cap1 l1 a2 cap2 l2 _ w0 w1 w2 f0 f1 f2 (by omega) (by omega)
  rw [HM.out] at hc
  refine hc.mono ?_
  clear hc
  rintro e W13 ⟨AQ, CQ, rfl, SQ, k13⟩
  have w0' := w0.below k13
  clear w0
  have w0 := w0'
  clear w0'
  have w1' := w1.below k13
  clear w1
  have w1 := w1'
  clear w1'
  have w2' := w2.below k13
  clear w2
  have w2 := w2'
  clear w2'
  have B3' := B3.below k13
  clear B3
  have B3 := B3'
  clear B3'
  have SP' := SP.below k13
  clear SP
  have SP := SP'
  clear SP'
  have kb' := kb.trans (k13.mono kb.size)
  clear kb k13
  have kb := kb'
  clear kb'
  go_wp2_with (first | go_skip | (refine RowC.gload E _ rfl _ rfl a3 B3 rfl ?_))
  have hc := same_ret AP CP M AQ CQ M _ SP SQ
  rw [sameB_self] at hc
  refine hc.mono ?_
  clear hc
  rintro e W14 ⟨rfl, k14⟩
  clear SP SQ
  have w0' := w0.below k14
  clear w0
  have w0 := w0'
  clear w0'
  have w1' := w1.below k14
  clear w1
  have w1 := w1'
  clear w1'
  have w2' := w2.below k14
  clear w2
  have w2 := w2'
  clear w2'
  have B3' := B3.below k14
  clear B3
  have B3 := B3'
  clear B3'
  have kb' := kb.trans (k14.mono kb.size)
  clear kb k14
  have kb := kb'
  clear kb'
  go_wp2_with (first | go_skip | (refine RowC.gload E _ rfl _ rfl a3 B3 rfl ?_))
  refine Grow.region [(0, true), (1, true), (2, true), (4, true), (5, true), (6, true), (3, false), (7, false), (8, false), (9, true)] (by kernel_rfl) (by kernel_rfl) rfl (by kernel_rfl) (by intro c a d v w h; cases d <;> exact h) ?_
  rename World => V15
  have k15 := below_drew1 (Below.refl V15.heap.size V15)
  have w0' := w0.below k15
  clear w0
  have w0 := w0'
  clear w0'
  have w1' := w1.below k15
  clear w1
  have w1 := w1'
  clear w1'
  have w2' := w2.below k15
  clear w2
  have w2 := w2'
  clear w2'
  have B3' := B3.below k15
  clear B3
  have B3 := B3'
  clear B3'
  have kb' := kb.trans (k15.mono kb.size)
  clear kb k15
  have kb := kb'
  clear kb'
  generalize V15.drew = W15 at w0 w1 w2 B3 kb ⊢
  have q0 := Grow.grown (w := W15) (fun u hu => (B3.below hu).cell (j := 0) (v := .string a3.key) rfl)
  repeat (first | (refine RowG.reads_row E rfl rfl _ rfl _ _ rfl a3 B3.range ?_; simp only [Act.put, List.setIfInBounds_toArray, List.set_cons_succ, List.set_cons_zero]) | (refine Grow.reads rfl rfl ?_; go_big_quiet_step (fail); refine wpQuiet_nil ?_))
  clear q0
  refine Grow.acts rfl ?_
  go_wp2_with (first | go_skip | (refine RowC.gload E _ rfl _ rfl a3 B3 rfl ?_))
  have hc := PairD.elems_ret a1 cap1 l1 a3.key _ w1 f1 hk (by omega)
  rw [HT.out] at hc
  refine hc.mono ?_
  clear hc
  rintro e W16 ⟨AP, CP, rfl, SP, k16⟩
  go_wp2_with fail
  refine ⟨k16, ?_⟩
  have w0' := w0.below k16
  clear w0
  have w0 := w0'
  clear w0'
  have w1' := w1.below k16
  clear w1
  have w1 := w1'
  clear w1'
  have w2' := w2.below k16
  clear w2
  have w2 := w2'
  clear w2'
  have B3' := B3.below k16
  clear B3
  have B3 := B3'
  clear B3'
  have kb' := kb.trans (k16.mono kb.size)
  clear kb k16
  have kb := kb'
  clear kb'
  refine Grow.acts rfl ?_
  go_wp2_with (first | go_skip | (refine RowC.gload E _ rfl _ rfl a3 B3 rfl ?_))
  have hc := PairU.elems_ret a1 cap1 l1 a3.key _ w1 (by omega)
  rw [HT.out] at hc
  refine hc.mono ?_
  clear hc
  rintro e W17 ⟨AQ, CQ, rfl, SQ, k17⟩
  go_wp2_with fail
  refine ⟨k17, ?_⟩
  have w0' := w0.below k17
  clear w0
  have w0 := w0'
  clear w0'
  have w1' := w1.below k17
  clear w1
  have w1 := w1'
  clear w1'
  have w2' := w2.below k17
  clear w2
  have w2 := w2'
  clear w2'
  have B3' := B3.below k17
  clear B3
  have B3 := B3'
  clear B3'
  have SP' := SP.below k17
  clear SP
  have SP := SP'
  clear SP'
  have kb' := kb.trans (k17.mono kb.size)
  clear kb k17
  have kb := kb'
  clear kb'
  refine Grow.acts rfl ?_
  go_wp2_with (first | go_skip | (refine RowC.gload E _ rfl _ rfl a3 B3 rfl ?_))
  have hc := texts_ret AP CP AQ CQ T _ SP SQ
  refine hc.mono ?_
  clear hc
  rintro e W18 ⟨rfl, k18⟩
  clear SP SQ
  go_wp2_with fail
  refine ⟨k18, ?_⟩
  have w0' := w0.below k18
  clear w0
  have w0 := w0'
  clear w0'
  have w1' := w1.below k18
  clear w1
  have w1 := w1'
  clear w1'
  have w2' := w2.below k18
  clear w2
  have w2 := w2'
  clear w2'
  have B3' := B3.below k18
  clear B3
  have B3 := B3'
  clear B3'
  have kb' := kb.trans (k18.mono kb.size)
  clear kb k18
  have kb := kb'
  clear kb'
  repeat (first | (refine RowG.reads_row E rfl rfl _ rfl _ _ rfl a3 B3.range ?_; simp only [Act.put, List.setIfInBounds_toArray, List.set_cons_succ, List.set_cons_zero]) | (refine Grow.reads rfl rfl ?_; go_big_quiet_step (fail); refine wpQuiet_nil ?_))
  refine Grow.ends ?_
  go_wp2_with (first | go_skip | (refine RowC.gload E _ rfl _ rfl a3 B3 rfl ?_))
  go_loopw [19] (fun i wr => ∃ j : Nat, j ≤ l1.length ∧ i = .int .i64 j ∧ Below W18.heap.size W18 wr) (fun i _ => l1.length - (intOf i).toNat)
  case atStart => exact ⟨0, Nat.zero_le _, rfl, Below.refl _ _⟩
  case round =>
    obtain ⟨j, hj, rfl, kr⟩ := hrel
    have w0' := w0.below kr
    clear w0
    have w0 := w0'
    clear w0'
    have w1' := w1.below kr
    clear w1
    have w1 := w1'
    clear w1'
    have w2' := w2.below kr
    clear w2
    have w2 := w2'
    clear w2'
    have B3' := B3.below kr
    clear B3
    have B3 := B3'
    clear B3'
    have kb' := kb.trans (kr.mono kb.size)
    clear kb
    have kb := kb'
    clear kb'
    have hcap := w1.1
    by_cases hlt : j < l1.length
    · obtain ⟨g, off, rfl, hbw, hr⟩ := PairW.plain w1 (by omega)
      obtain ⟨x, hx⟩ : ∃ x, l1[j]? = some x := ⟨_, List.getElem?_eq_getElem hlt⟩
      obtain ⟨nb, hnb⟩ : ∃ b, lessP x a3 = b := ⟨_, rfl⟩
      have HNB := aside hnb
      have p0 : (j : Int) < l1.length := by omega
      have m0 : ((j : Int)).toNat = j := by omega
      have HR : Lies E _ g (off + j * 4) x := hr j x hx
      clear hnb hr hx
      clear w0 w1 w2
      go_wp2_with (first | go_skip | (refine RowC.gload E _ rfl _ rfl a3 B3 rfl ?_))
      refine Grow.region [(0, true), (1, true), (2, true), (3, true), (4, true), (5, false), (6, true)] (by kernel_rfl) (by kernel_rfl) rfl (by kernel_rfl) (by intro c a d v w h; cases d <;> exact h) ?_
      rename World => V19
      have k19 := below_drew1 (Below.refl V19.heap.size V19)
      have B3' := B3.below k19
      clear B3
      have B3 := B3'
      clear B3'
      have HR' := HR.below k19
      clear HR
      have HR := HR'
      clear HR'
      have kr' := kr.trans (k19.mono kr.size)
      clear kr
      have kr := kr'
      clear kr'
      have kb' := kb.trans (k19.mono kb.size)
      clear kb k19
      have kb := kb'
      clear kb'
      generalize V19.drew = W19 at B3 HR kr kb ⊢
      repeat (first | (refine RowG.reads_row E rfl rfl _ rfl _ _ rfl a3 B3.range ?_; simp only [Act.put, List.setIfInBounds_toArray, List.set_cons_succ, List.set_cons_zero]) | (refine RowG.reads_row E rfl rfl _ rfl _ _ rfl x HR ?_; simp only [Act.put, List.setIfInBounds_toArray, List.set_cons_succ, List.set_cons_zero]) | (refine Grow.reads rfl rfl ?_; go_big_quiet_step (fail); refine wpQuiet_nil ?_))
      refine Grow.acts rfl ?_
      go_wp2_with (first | go_skip | (refine RowC.gload E _ rfl _ rfl a3 B3 rfl ?_))
      have hc := fun W => PairR.less_ret x a3 W
      simp only [HNB.out] at hc
      refine (hc _).mono ?_
      clear hc
      rintro e W20 ⟨rfl, k20⟩
      go_wp2_with fail
      refine ⟨k20, ?_⟩
      have B3' := B3.below k20
      clear B3
      have B3 := B3'
      clear B3'
      have HR' := HR.below k20
      clear HR
      have HR := HR'
      clear HR'
      have kr' := kr.trans (k20.mono kr.size)
      clear kr
      have kr := kr'
      clear kr'
      have kb' := kb.trans (k20.mono kb.size)
      clear kb k20
      have kb := kb'
      clear kb'
      repeat (first | (refine RowG.reads_row E rfl rfl _ rfl _ _ rfl a3 B3.range ?_; simp only [Act.put, List.setIfInBounds_toArray, List.set_cons_succ, List.set_cons_zero]) | (refine Grow.reads rfl rfl ?_; go_big_quiet_step (fail); refine wpQuiet_nil ?_))
      refine Grow.ends ?_
      go_wp2_with (first | go_skip | (refine RowC.gload E _ rfl _ rfl a3 B3 rfl ?_))
      refine Grow.region [(0, true), (1, true), (2, true), (3, true), (4, true), (6, true), (5, false), (7, true)] (by kernel_rfl) (by kernel_rfl) rfl (by kernel_rfl) (by intro c a d v w h; cases d <;> exact h) ?_
      rename World => V21
      have k21 := below_drew1 (Below.refl V21.heap.size V21)
      have B3' := B3.below k21
      clear B3
      have B3 := B3'
      clear B3'
      have HR' := HR.below k21
      clear HR
      have HR := HR'
      clear HR'
      have kr' := kr.trans (k21.mono kr.size)
      clear kr
      have kr := kr'
      clear kr'
      have kb' := kb.trans (k21.mono kb.size)
      clear kb k21
      have kb := kb'
      clear kb'
      generalize V21.drew = W21 at B3 HR kr kb ⊢
      repeat (first | (refine RowG.reads_row E rfl rfl _ rfl _ _ rfl a3 B3.range ?_; simp only [Act.put, List.setIfInBounds_toArray, List.set_cons_succ, List.set_cons_zero]) | (refine RowG.reads_row E rfl rfl _ rfl _ _ rfl x HR ?_; simp only [Act.put, List.setIfInBounds_toArray, List.set_cons_succ, List.set_cons_zero]) | (refine Grow.reads rfl rfl ?_; go_big_quiet_step (fail); refine wpQuiet_nil ?_))
      refine Grow.acts rfl ?_
      go_wp2_with (first | go_skip | (refine RowC.gload E _ rfl _ rfl a3 B3 rfl ?_))
      have hc := fun W => PairD.less_ret x a3 W
      simp only [HNB.out] at hc
      refine (hc _).mono ?_
      clear hc
      rintro e W22 ⟨rfl, k22⟩
      go_wp2_with fail
      refine ⟨k22, ?_⟩
      have B3' := B3.below k22
      clear B3
      have B3 := B3'
      clear B3'
      have HR' := HR.below k22
      clear HR
      have HR := HR'
      clear HR'
      have kr' := kr.trans (k22.mono kr.size)
      clear kr
      have kr := kr'
      clear kr'
      have kb' := kb.trans (k22.mono kb.size)
      clear kb k22
      have kb := kb'
      clear kb'
      repeat (first | (refine RowG.reads_row E rfl rfl _ rfl _ _ rfl a3 B3.range ?_; simp only [Act.put, List.setIfInBounds_toArray, List.set_cons_succ, List.set_cons_zero]) | (refine Grow.reads rfl rfl ?_; go_big_quiet_step (fail); refine wpQuiet_nil ?_))
      refine Grow.ends ?_
      go_wp2_with (first | go_skip | (refine RowC.gload E _ rfl _ rfl a3 B3 rfl ?_))
      go_roundw
      case rel => exact ⟨j + 1, by omega, by go_num, kr⟩
      case measure => simp [intOf]; omega
    · have e : j = l1.length := by omega
      go_wp2_with (first | go_skip | (refine RowC.gload E _ rfl _ rfl a3 B3 rfl ?_))
      have hc := PairD.may_ret a1 cap1 l1 _ w1 f1 (by omega)
      rw [HBM.out] at hc
      refine hc.mono ?_
      clear hc
      rintro e W23 ⟨rfl, k23⟩
      have w0' := w0.below k23
      clear w0
      have w0 := w0'
      clear w0'
      have w1' := w1.below k23
      clear w1
      have w1 := w1'
      clear w1'
      have w2' := w2.below k23
      clear w2
      have w2 := w2'
      clear w2'
      have B3' := B3.below k23
      clear B3
      have B3 := B3'
      clear B3'
      have kb' := kb.trans (k23.mono kb.size)
      clear kb k23
      have kb := kb'
      clear kb'
      go_wp2_with (first | go_skip | (refine RowC.gload E _ rfl _ rfl a3 B3 rfl ?_))
      go_ret
      exact ⟨by first | rfl | simp, kb⟩

theorem walk (a0 : Option Addr) (cap0 : Nat) (l0 : List Pr) (a1 : Option Addr) (cap1 : Nat) (l1 : List Pr) (a2 : Option Addr) (cap2 : Nat) (l2 : List Pr) (a3 : Pr) (w : World) (w0 : SlR E w a0 cap0 l0) (g0 : ∀ x ∈ l0, OpenP.Good x) (w1 : SlR E w a1 cap1 l1) (g1 : ∀ x ∈ l1, OpenP.Good x) (w2 : SlR E w a2 cap2 l2) (g2 : ∀ x ∈ l2, OpenP.Good x) (g3 : OpenP.Good a3) :
    Calls Try.prog 3 #[.slice a0 l0.length cap0, .slice a1 l1.length cap1, .slice a2 l2.length cap2, .agg (pc a3)] w fun e w' => e = .returned (.bool true) ∧ Below w.heap.size w w' := by
  cases x0 : fewB l0 with
  | false => exact out a0 cap0 l0 a1 cap1 l1 a2 cap2 l2 a3 w w0 g0 w1 g1 w2 g2 g3 _ _ _ _ x0 rfl rfl rfl (.inl rfl)
  | true =>
    cases x1 : fewB l1 with
    | false => exact out a0 cap0 l0 a1 cap1 l1 a2 cap2 l2 a3 w w0 g0 w1 g1 w2 g2 g3 _ _ _ _ x0 x1 rfl rfl (.inr (.inl ⟨rfl, rfl⟩))
    | true =>
      cases x2 : fewB l2 with
      | false => exact out a0 cap0 l0 a1 cap1 l1 a2 cap2 l2 a3 w w0 g0 w1 g1 w2 g2 g3 _ _ _ _ x0 x1 x2 rfl (.inr (.inr (.inl ⟨rfl, rfl, rfl⟩)))
      | true =>
        cases x3 : fewB [a3] with
        | false => exact out a0 cap0 l0 a1 cap1 l1 a2 cap2 l2 a3 w w0 g0 w1 g1 w2 g2 g3 _ _ _ _ x0 x1 x2 x3 (.inr (.inr (.inr (⟨rfl, rfl, rfl, rfl⟩))))
        | true =>
          exact within a0 cap0 l0 a1 cap1 l1 a2 cap2 l2 a3 w w0 g0 w1 g1 w2 g2 g3 x0 x1 x2 x3

theorem own : ownKnob Try.prog.godebug = none := by kernel_rfl
theorem laidOut : laidOutB Try.prog = true := by kernel_rfl
set_option linter.unusedVariables false in
set_option maxRecDepth 100000 in
theorem lifted (os : Os) (started : os.Started) (H : Type) (enc : TypeId × Value → H) :
    ReturnsInHanded {} Try.checked os 3 .any (Rows.pairTellsSpec.pre6 enc Try.prog Try.f3 Rows.pairTellsRow.domain false) (Rows.pairTellsSpec.post enc Try.prog Try.f3 false true false false) := by
  refine returnsInHanded_of_change (C := Try.checked) own started (by kernel_rfl) Try.func3
    (ChangeSpec.witness6 (enc := enc) (C := Try.checked) false ⟨#[], #[.slice none 0 0, .slice none 0 0, .slice none 0 0, .agg #[.string ByteArray.empty, .string ByteArray.empty, .int .i64 0, .int .i64 0]], []⟩ 8 (by kernel_rfl) (by kernel_rfl) (by kernel_rfl) (by kernel_rfl)) ?_
  intro W base args ds gs before hval0 hW hcnd _
  have hval : ∀ (j : Nat) t v, Try.f3.params[j]? = some t → args[j]? = some v → Value.okWide Try.prog W .any base t v := hval0
  have hW' := hW
  obtain ⟨p, q, hA0, hV, rfl, hfz, hnd⟩ := hW
  have hA : DataW.TrodAll enc Try.prog W 0 (fun _ => true) true Try.f3.params.toList args.toList ds p := hA0
  rw [Try.params3] at hA hval
  obtain ⟨v0, vs0, d0, ds0, p0, q0, hargs, rfl, rfl, h0, r0⟩ := trodAll_cons hA
  obtain ⟨v1, vs1, d1, ds1, p1, q1, rfl, rfl, rfl, h1, r1⟩ := trodAll_cons r0
  obtain ⟨v2, vs2, d2, ds2, p2, q2, rfl, rfl, rfl, h2, r2⟩ := trodAll_cons r1
  obtain ⟨v3, vs3, d3, ds3, p3, q3, rfl, rfl, rfl, h3, r3⟩ := trodAll_cons r2
  obtain ⟨rfl, rfl, rfl⟩ := trodAll_nil r3
  obtain rfl : args = #[v0, v1, v2, v3] := by cases args; simp_all
  obtain ⟨rfl, rfl⟩ := trodVars_none hV
  have k0 := h0
  have lt0 : ∀ x ∈ p0, x.block < W.heap.size := by obtain ⟨m, hm⟩ := k0; exact DataW.trod_lt m _ _ _ hm
  obtain ⟨a0, cap0, l0, rfl, w0, g0⟩ := OpenP.open_pairs (hval 0 22 v0 rfl rfl) h0
  have k1 := h1
  have lt1 : ∀ x ∈ p1, x.block < W.heap.size := by obtain ⟨m, hm⟩ := k1; exact DataW.trod_lt m _ _ _ hm
  obtain ⟨a1, cap1, l1, rfl, w1, g1⟩ := OpenP.open_pairs (hval 1 22 v1 rfl rfl) h1
  have k2 := h2
  have lt2 : ∀ x ∈ p2, x.block < W.heap.size := by obtain ⟨m, hm⟩ := k2; exact DataW.trod_lt m _ _ _ hm
  obtain ⟨a2, cap2, l2, rfl, w2, g2⟩ := OpenP.open_pairs (hval 2 22 v2 rfl rfl) h2
  have k3 := h3
  have lt3 : ∀ x ∈ p3, x.block < W.heap.size := by obtain ⟨m, hm⟩ := k3; exact DataW.trod_lt m _ _ _ hm
  obtain ⟨a3, rfl, w3⟩ := OpenP.open_pair (hval 3 26 v3 rfl rfl) h3
  clear hA0 hval0
  refine (walk a0 cap0 l0 a1 cap1 l1 a2 cap2 l2 a3 W w0 g0 w1 g1 w2 g2 w3).mono fun e W' ⟨he, bel⟩ => ?_
  subst he
  exact ⟨_, rfl, _, _, _, [], _, [], hW', trodAll_mk1 (shut_bool Try.underlying4 _), (trodAll_cons_mk (Below.trod laidOut (by kernel_rfl) (of_decide_eq_true (by kernel_rfl)) k0 bel lt0) (trodAll_cons_mk (Below.trod laidOut (by kernel_rfl) (of_decide_eq_true (by kernel_rfl)) k1 bel lt1) (trodAll_cons_mk (Below.trod laidOut (by kernel_rfl) (of_decide_eq_true (by kernel_rfl)) k2 bel lt2) (trodAll_cons_mk (Below.trod laidOut (by kernel_rfl) (of_decide_eq_true (by kernel_rfl)) k3 bel lt3) trodAll_mk0)))), rfl, bel.frame _, fun h => by cases h⟩

theorem over : Rows.pairTellsRow.holds Try.pinned (OpenSpec.ofChange Rows.pairTellsSpec) :=
  OpenClaim.holds_of_wide 3 Try.f3 rfl rfl rfl rfl rfl rfl rfl ⟨rfl, rfl, rfl, rfl, rfl⟩ rfl rfl rfl rfl rfl (by kernel_rfl) Try.func3 (by kernel_rfl)
    (of_decide_eq_true (by kernel_rfl)) (by unfold Func.isWrapper; first | (rw [if_pos (by decide +kernel)]; kernel_rfl) | (rw [if_neg (by decide +kernel)]; exact ⟨rfl, rfl⟩))
    (fun os started H enc _ => lifted os started H enc)

theorem proved : Rows.PairTellsSaid := over
end Go.Proofs.Ytcodipgooofppaa.pairTells
