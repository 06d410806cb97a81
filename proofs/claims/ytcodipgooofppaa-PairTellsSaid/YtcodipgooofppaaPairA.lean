/- The chapter's own example: 'awake' returns true. -/
import Derived.Test.YtcodipgooofppaaPairD
import Derived.Test.YtcodipgooofppaaRowK
namespace Go.Proofs.Ytcodipgooofppaa.PairA
open Go Go.RowKit Byt OpsM Rise PairM PairN RowS RowB PairW PairS PairG PairQ PairU Txt PairX

theorem fit_lit {c : Pr} (h : (decide (c.key.size ≤ 8) && (decide (c.elem.size ≤ 8) && (decide (-100 ≤ c.node) && (decide (c.node ≤ 100) && (decide (-100 ≤ c.seq) && decide (c.seq ≤ 100)))))) = true) : Fit c := by
  simp only [Bool.and_eq_true, decide_eq_true_eq] at h
  exact ⟨by omega, by omega, by unfold In64; omega, by unfold In64; omega⟩
theorem fx : Fit ax := fit_lit (by kernel_rfl)
theorem fy : Fit ay := fit_lit (by kernel_rfl)
theorem fX : Fits [ax] := fits_one fx
theorem fY : Fits [ay] := fits_one fy
theorem fXY : Fits [ax, ay] := fun x hx => by
  simp at hx
  rcases hx with rfl | rfl
  · exact fx
  · exact fy
theorem f0 : Fits [] := fun x hx => by simp at hx
set_option maxRecDepth 100000 in
set_option maxHeartbeats 8000000 in
theorem awake (w : World) :
    Calls Try.prog 9 #[] w fun e w' => e = .returned (.bool true) ∧ Below w.heap.size w w' := by
  have hq := equal_yes (x := ay) rfl
  go_enter Try.func9, Try.ntmps9
  go_wp2_with (first | go_skip | (refine wpList_store_new E rfl _ _ rfl _ _ _ rfl ax _ rfl rfl rfl rfl ?_; intro W2 B1 k2 g2 s2; clear g2 s2; have kb := k2; clear k2) | (refine RowC.gload E _ rfl _ rfl ax B1 rfl ?_) | (refine wpList_store_new E rfl _ _ rfl _ _ _ rfl ay _ rfl rfl rfl rfl ?_; intro W3 B2 k3 g3 s3; clear g3 s3; have B1' := B1.below k3; clear B1; have B1 := B1'; clear B1'; have kb' := kb.trans (k3.mono kb.size); clear kb k3; have kb := kb'; clear kb') | (refine RowC.gload E _ rfl _ rfl ay B2 rfl ?_) | (refine RowC.glit1 E (of_decide_eq_true rfl) _ rfl ax rfl rfl ?_; intro W4 S3 k4; have B1' := B1.below k4; clear B1; have B1 := B1'; clear B1'; have B2' := B2.below k4; clear B2; have B2 := B2'; clear B2'; have kb' := kb.trans (k4.mono kb.size); clear kb k4; have kb := kb'; clear kb'))
  refine Grow.region [(0, true), (1, true), (3, true), (4, true), (2, false), (5, false), (6, false), (7, true)] (by kernel_rfl) (by kernel_rfl) rfl (by kernel_rfl) (by intro c a d v w h; cases d <;> exact h) ?_
  rename World => V5
  have k5 := below_drew1 (Below.refl V5.heap.size V5)
  have B1' := B1.below k5
  clear B1
  have B1 := B1'
  clear B1'
  have B2' := B2.below k5
  clear B2
  have B2 := B2'
  clear B2'
  have S3' := S3.below k5
  clear S3
  have S3 := S3'
  clear S3'
  have kb' := kb.trans (k5.mono kb.size)
  clear kb k5
  have kb := kb'
  clear kb'
  generalize V5.drew = W5 at B1 B2 S3 kb ⊢
  repeat (first | (refine RowG.reads_row E rfl rfl _ rfl _ _ rfl ax B1.range ?_; simp only [Act.put, List.setIfInBounds_toArray, List.set_cons_succ, List.set_cons_zero]) | (refine RowG.reads_row E rfl rfl _ rfl _ _ rfl ay B2.range ?_; simp only [Act.put, List.setIfInBounds_toArray, List.set_cons_succ, List.set_cons_zero]) | (refine Grow.reads rfl rfl ?_; go_big_quiet_step (fail); refine wpQuiet_nil ?_))
  refine Grow.acts rfl ?_
  go_wp2_with (first | go_skip | (refine RowC.gload E _ rfl _ rfl ax B1 rfl ?_) | (refine RowC.gload E _ rfl _ rfl ay B2 rfl ?_))
  have hc := PairD.del_ret _ _ [ax] ⟨#[97]⟩ ⟨#[120]⟩ _ S3 fX (by decide) (by decide) (by simp)
  rw [del_ex] at hc
  refine hc.mono ?_
  clear hc
  rintro e W6 ⟨AD, CD, rfl, SD, k6⟩
  go_wp2_with fail
  refine ⟨k6, ?_⟩
  have B1' := B1.below k6
  clear B1
  have B1 := B1'
  clear B1'
  have B2' := B2.below k6
  clear B2
  have B2 := B2'
  clear B2'
  have S3' := S3.below k6
  clear S3
  have S3 := S3'
  clear S3'
  have kb' := kb.trans (k6.mono kb.size)
  clear kb k6
  have kb := kb'
  clear kb'
  refine Grow.acts rfl ?_
  go_wp2_with (first | go_skip | (refine RowC.gload E _ rfl _ rfl ax B1 rfl ?_) | (refine RowC.gload E _ rfl _ rfl ay B2 rfl ?_))
  have hc := PairD.add_ret _ _ [ax] ay _ S3 fX fy (by simp)
  rw [add_ex] at hc
  refine hc.mono ?_
  clear hc
  rintro e W7 ⟨AA, CA, rfl, SA, k7⟩
  go_wp2_with fail
  refine ⟨k7, ?_⟩
  have B1' := B1.below k7
  clear B1
  have B1 := B1'
  clear B1'
  have B2' := B2.below k7
  clear B2
  have B2 := B2'
  clear B2'
  have S3' := S3.below k7
  clear S3
  have S3 := S3'
  clear S3'
  have SD' := SD.below k7
  clear SD
  have SD := SD'
  clear SD'
  have kb' := kb.trans (k7.mono kb.size)
  clear kb k7
  have kb := kb'
  clear kb'
  refine Grow.acts rfl ?_
  go_wp2_with (first | go_skip | (refine RowC.gload E _ rfl _ rfl ax B1 rfl ?_) | (refine RowC.gload E _ rfl _ rfl ay B2 rfl ?_))
  have hc := PairD.merge_ret _ _ [ax] AD CD [] AA CA [ax, ay] _ S3 SD SA fX f0 fXY (by simp) (by simp) (by simp)
  rw [merge_ex] at hc
  refine hc.mono ?_
  clear hc
  rintro e W8 ⟨AM, CM, rfl, SM, k8⟩
  go_wp2_with fail
  refine ⟨k8, ?_⟩
  have B1' := B1.below k8
  clear B1
  have B1 := B1'
  clear B1'
  have B2' := B2.below k8
  clear B2
  have B2 := B2'
  clear B2'
  have S3' := S3.below k8
  clear S3
  have S3 := S3'
  clear S3'
  have SD' := SD.below k8
  clear SD
  have SD := SD'
  clear SD'
  have SA' := SA.below k8
  clear SA
  have SA := SA'
  clear SA'
  have kb' := kb.trans (k8.mono kb.size)
  clear kb k8
  have kb := kb'
  clear kb'
  repeat (first | (refine RowG.reads_row E rfl rfl _ rfl _ _ rfl ax B1.range ?_; simp only [Act.put, List.setIfInBounds_toArray, List.set_cons_succ, List.set_cons_zero]) | (refine RowG.reads_row E rfl rfl _ rfl _ _ rfl ay B2.range ?_; simp only [Act.put, List.setIfInBounds_toArray, List.set_cons_succ, List.set_cons_zero]) | (refine Grow.reads rfl rfl ?_; go_big_quiet_step (fail); refine wpQuiet_nil ?_))
  refine Grow.ends ?_
  clear S3 SD SA
  go_wp2_with (first | go_skip | (refine RowC.gload E _ rfl _ rfl ax B1 rfl ?_) | (refine RowC.gload E _ rfl _ rfl ay B2 rfl ?_))
  refine Grow.region [(0, true), (1, true), (2, true), (3, true), (4, true), (5, true), (6, true), (7, true), (8, true), (9, true), (10, true), (11, true), (12, false), (13, true), (14, true), (15, true), (16, true), (17, false), (18, true), (19, true), (20, true), (21, true), (22, false), (23, false), (24, true), (25, true), (26, true), (27, true)] (by kernel_rfl) (by kernel_rfl) rfl (by kernel_rfl) (by intro c a d v w h; cases d <;> exact h) ?_
  rename World => V9
  have k9 := below_drew1 (Below.refl V9.heap.size V9)
  have B1' := B1.below k9
  clear B1
  have B1 := B1'
  clear B1'
  have B2' := B2.below k9
  clear B2
  have B2 := B2'
  clear B2'
  have SM' := SM.below k9
  clear SM
  have SM := SM'
  clear SM'
  have kb' := kb.trans (k9.mono kb.size)
  clear kb k9
  have kb := kb'
  clear kb'
  generalize V9.drew = W9 at B1 B2 SM kb ⊢
  obtain ⟨g, off, rfl, hbw, hr⟩ := PairW.plain SM (by simp)
  have HR : Lies E W9 g off ay := by
    have := hr 0 ay rfl
    rwa [Nat.zero_mul, Nat.add_zero] at this
  clear hr hbw
  repeat (first | (refine Grow.reads rfl rfl ?_; go_big_quiet_want; refine RowK.quiet_row E _ rfl _ _ rfl ax B1.range ?_; go_big_quiet_on; refine wpQuiet_nil ?_; simp only [Act.put, List.setIfInBounds_toArray, List.set_cons_succ, List.set_cons_zero]) | (refine Grow.reads rfl rfl ?_; go_big_quiet_want; refine RowK.quiet_row E _ rfl _ _ rfl ay B2.range ?_; go_big_quiet_on; refine wpQuiet_nil ?_; simp only [Act.put, List.setIfInBounds_toArray, List.set_cons_succ, List.set_cons_zero]) | (refine Grow.reads rfl rfl ?_; go_big_quiet_want; refine RowK.quiet_row E _ rfl _ _ rfl ay HR.range ?_; go_big_quiet_on; refine wpQuiet_nil ?_; simp only [Act.put, List.setIfInBounds_toArray, List.set_cons_succ, List.set_cons_zero]) | (refine Grow.reads rfl rfl ?_; go_big_quiet_step (fail); refine wpQuiet_nil ?_))
  clear HR
  refine Grow.acts rfl ?_
  go_wp2_with (first | go_skip | (refine RowC.gload E _ rfl _ rfl ax B1 rfl ?_) | (refine RowC.gload E _ rfl _ rfl ay B2 rfl ?_))
  have hc := PairD.may_ret _ CM [ay] _ SM fY (by simp)
  rw [may_y] at hc
  refine hc.mono ?_
  clear hc
  rintro e W10 ⟨rfl, k10⟩
  go_wp2_with fail
  refine ⟨k10, ?_⟩
  have B1' := B1.below k10
  clear B1
  have B1 := B1'
  clear B1'
  have B2' := B2.below k10
  clear B2
  have B2 := B2'
  clear B2'
  have SM' := SM.below k10
  clear SM
  have SM := SM'
  clear SM'
  have kb' := kb.trans (k10.mono kb.size)
  clear kb k10
  have kb := kb'
  clear kb'
  repeat (first | (refine Grow.reads rfl rfl ?_; go_big_quiet_want; refine RowK.quiet_row E _ rfl _ _ rfl ax B1.range ?_; go_big_quiet_on; refine wpQuiet_nil ?_; simp only [Act.put, List.setIfInBounds_toArray, List.set_cons_succ, List.set_cons_zero]) | (refine Grow.reads rfl rfl ?_; go_big_quiet_want; refine RowK.quiet_row E _ rfl _ _ rfl ay B2.range ?_; go_big_quiet_on; refine wpQuiet_nil ?_; simp only [Act.put, List.setIfInBounds_toArray, List.set_cons_succ, List.set_cons_zero]) | (refine Grow.reads rfl rfl ?_; go_big_quiet_step (fail); refine wpQuiet_nil ?_))
  refine Grow.acts rfl ?_
  go_wp2_with (first | go_skip | (refine RowC.gload E _ rfl _ rfl ax B1 rfl ?_) | (refine RowC.gload E _ rfl _ rfl ay B2 rfl ?_))
  have hc := fun W => PairD.less_ret ax ay W
  simp only [less_ex] at hc
  refine (hc _).mono ?_
  clear hc
  rintro e W11 ⟨rfl, k11⟩
  go_wp2_with fail
  refine ⟨k11, ?_⟩
  have B1' := B1.below k11
  clear B1
  have B1 := B1'
  clear B1'
  have B2' := B2.below k11
  clear B2
  have B2 := B2'
  clear B2'
  have SM' := SM.below k11
  clear SM
  have SM := SM'
  clear SM'
  have kb' := kb.trans (k11.mono kb.size)
  clear kb k11
  have kb := kb'
  clear kb'
  repeat (first | (refine Grow.reads rfl rfl ?_; go_big_quiet_want; refine RowK.quiet_row E _ rfl _ _ rfl ax B1.range ?_; go_big_quiet_on; refine wpQuiet_nil ?_; simp only [Act.put, List.setIfInBounds_toArray, List.set_cons_succ, List.set_cons_zero]) | (refine Grow.reads rfl rfl ?_; go_big_quiet_want; refine RowK.quiet_row E _ rfl _ _ rfl ay B2.range ?_; go_big_quiet_on; refine wpQuiet_nil ?_; simp only [Act.put, List.setIfInBounds_toArray, List.set_cons_succ, List.set_cons_zero]) | (refine Grow.reads rfl rfl ?_; go_big_quiet_step (fail); refine wpQuiet_nil ?_))
  refine Grow.acts rfl ?_
  go_wp2_with (first | (refine RowC.unguard (by kernel_rfl) (RowC.wpList_lit2 E (of_decide_eq_true rfl) rfl _ _ rfl ax ay rfl rfl ?_); intro W12 T k12))
  refine ⟨k12, ?_⟩
  have B1' := B1.below k12
  clear B1
  have B1 := B1'
  clear B1'
  have B2' := B2.below k12
  clear B2
  have B2 := B2'
  clear B2'
  have SM' := SM.below k12
  clear SM
  have SM := SM'
  clear SM'
  have kb' := kb.trans (k12.mono kb.size)
  clear kb k12
  have kb := kb'
  clear kb'
  refine Grow.acts rfl ?_
  go_wp2_with (first | go_skip | (refine RowC.gload E _ rfl _ rfl ax B1 rfl ?_) | (refine RowC.gload E _ rfl _ rfl ay B2 rfl ?_))
  have hc := PairD.elems_ret _ _ [ax, ay] ⟨#[97]⟩ _ T fXY (by decide) (by simp)
  rw [elems_ex] at hc
  refine hc.mono ?_
  clear hc
  rintro e W13 ⟨AT2, CT2, rfl, ST2, k13⟩
  go_wp2_with fail
  refine ⟨k13, ?_⟩
  have B1' := B1.below k13
  clear B1
  have B1 := B1'
  clear B1'
  have B2' := B2.below k13
  clear B2
  have B2 := B2'
  clear B2'
  have SM' := SM.below k13
  clear SM
  have SM := SM'
  clear SM'
  have T' := T.below k13
  clear T
  have T := T'
  clear T'
  have kb' := kb.trans (k13.mono kb.size)
  clear kb k13
  have kb := kb'
  clear kb'
  repeat (first | (refine Grow.reads rfl rfl ?_; go_big_quiet_want; refine RowK.quiet_row E _ rfl _ _ rfl ax B1.range ?_; go_big_quiet_on; refine wpQuiet_nil ?_; simp only [Act.put, List.setIfInBounds_toArray, List.set_cons_succ, List.set_cons_zero]) | (refine Grow.reads rfl rfl ?_; go_big_quiet_want; refine RowK.quiet_row E _ rfl _ _ rfl ay B2.range ?_; go_big_quiet_on; refine wpQuiet_nil ?_; simp only [Act.put, List.setIfInBounds_toArray, List.set_cons_succ, List.set_cons_zero]) | (refine Grow.reads rfl rfl ?_; go_big_quiet_step (fail); refine wpQuiet_nil ?_))
  refine Grow.ends ?_
  go_wp2_with (first | go_skip | (refine RowC.gload E _ rfl _ rfl ax B1 rfl ?_) | (refine RowC.gload E _ rfl _ rfl ay B2 rfl ?_))
  go_ret
  exact ⟨by first | rfl | simp, kb⟩
end Go.Proofs.Ytcodipgooofppaa.PairA
