/- The chapter's own example: 'awake' returns true. -/
import Derived.Test.YtffefbhpndjdlaaRegD
namespace Go.Proofs.Ytffefbhpndjdlaa.RegA
open Go Go.RowKit Byt OpsM Rise RegM RegL RowS RowB RegW RegG RegS RegX

theorem fit_lit {c : Rg} (h : (decide (c.key.size ≤ 8) && (decide (c.elem.size ≤ 8) && (decide (-100 ≤ c.gen) && (decide (c.gen ≤ 100) && (decide (-100 ≤ c.node) && (decide (c.node ≤ 100) && (decide (-100 ≤ c.seq) && decide (c.seq ≤ 100)))))))) = true) : Fit c := by
  simp only [Bool.and_eq_true, decide_eq_true_eq] at h
  exact ⟨by omega, by omega, by unfold In64; omega, by unfold In64; omega, by unfold In64; omega⟩
theorem fx : Fit ax := fit_lit (by kernel_rfl)
theorem fy : Fit ay := fit_lit (by kernel_rfl)
set_option maxRecDepth 100000 in
set_option maxHeartbeats 8000000 in
theorem awake (w : World) : Calls Try.prog 8 #[] w fun e w' => e = .returned (.bool true) ∧ Below w.heap.size w w' := by
  have hq := equal_yes (x := ax) rfl
  go_enter Try.func8, Try.ntmps8
  go_wp2_with (first
    | (refine wpList_store_new E rfl _ _ rfl _ _ _ rfl ax _ rfl rfl rfl rfl ?_; intro w1 B1 k1 g1 s1; clear g1 s1)
    | (refine wpList_store_new E rfl _ _ rfl _ _ _ rfl ay _ rfl rfl rfl rfl ?_; intro w2 B2 k2 g2 s2; clear g2 s2; have B1' := B1.below k2; have kb := k1.trans (k2.mono k1.size); clear B1 k1 k2; have B1 := B1'; clear B1')
    | (refine RowC.gload E _ rfl _ rfl ay B2 rfl ?_)
    | (refine RowC.gload E _ rfl _ rfl ax B1 rfl ?_)
    | (refine RowC.glit1 E (of_decide_eq_true rfl) _ rfl ay rfl rfl ?_; intro w3 S3 k3; have B1' := B1.below k3; have B2' := B2.below k3; have kb' := kb.trans (k3.mono kb.size); clear B1 B2 kb k3; have B1 := B1'; have B2 := B2'; have kb := kb'; clear B1' B2' kb')
    | (refine RowC.glit1 E (of_decide_eq_true rfl) _ rfl ax rfl rfl ?_; intro w4 S4 k4; have B1' := B1.below k4; have B2' := B2.below k4; have S3' := S3.below k4; have kb' := kb.trans (k4.mono kb.size); clear B1 B2 S3 kb k4; have B1 := B1'; have B2 := B2'; have S3 := S3'; have kb := kb'; clear B1' B2' S3' kb'))
  have hc := RegD.merge_ret _ _ [ay] _ _ [ax] _ S3 S4 (fits_one fy) (fits_one fx) (by simp) (by simp)
  rw [merge_ex] at hc
  refine hc.mono ?_
  clear hc
  rintro e w5 ⟨A5, C5, rfl, S5, k5⟩
  have B1' := B1.below k5
  have B2' := B2.below k5
  have kb' := kb.trans (k5.mono kb.size)
  clear B1 B2 S3 S4 kb k5
  go_wp2_with fail
  have hc := RegD.get_ret A5 C5 [ax] ⟨#[97]⟩ _ S5 (by simp)
  rw [get_ex, gv_eq] at hc
  refine hc.mono ?_
  clear hc
  rintro e w6 ⟨rfl, k6⟩
  have B1 := B1'.below k6
  have B2 := B2'.below k6
  have S6 := S5.below k6
  have kb := kb'.trans (k6.mono kb'.size)
  clear B1' B2' S5 kb' k6
  go_wp2_with (first
    | (refine wpList_store_new E rfl _ _ rfl _ _ _ rfl ax _ rfl rfl rfl rfl ?_; intro w7 B7 k7 g7 s7; clear g7 s7; have B1' := B1.below k7; have B2' := B2.below k7; have S7 := S6.below k7; have kb' := kb.trans (k7.mono kb.size); clear B1 B2 S6 kb k7; have B1 := B1'; have B2 := B2'; have kb := kb'; clear B1' B2' kb')
    | (refine RowC.gload E _ rfl _ rfl ay B2 rfl ?_)
    | (refine RowC.gload E _ rfl _ rfl ax B1 rfl ?_))
  have hc := RegD.newer_ret ax ay w7
  rw [newer_ex] at hc
  refine hc.mono ?_
  clear hc
  rintro e w8 ⟨rfl, k8⟩
  have B1' := B1.below k8
  have B2' := B2.below k8
  have B7' := B7.below k8
  have S8 := S7.below k8
  have kb' := kb.trans (k8.mono kb.size)
  clear B1 B2 B7 S7 kb k8
  go_wp2_with fail
  have hc := RegD.may_ret A5 C5 [ax] _ S8 (fits_one fx) (by simp)
  rw [may_ex] at hc
  refine hc.mono ?_
  clear hc
  rintro e w9 ⟨rfl, k9⟩
  have B1 := B1'.below k9
  have B2 := B2'.below k9
  have B7 := B7'.below k9
  have S9 := S8.below k9
  have kb := kb'.trans (k9.mono kb'.size)
  clear B1' B2' B7' S8 kb' k9
  go_wp2_with (first
    | (refine RowC.gload E _ rfl _ rfl ay B2 rfl ?_)
    | (refine RowC.gload E _ rfl _ rfl ax B1 rfl ?_)
    | (refine RowC.gload E _ rfl _ rfl ax B7 rfl ?_))
  have hc := RegD.put_ret A5 C5 [ax] ay _ S9 (fits_one fx) fy (by simp)
  rw [put_ex] at hc
  refine hc.mono ?_
  clear hc
  rintro e wA ⟨AA, CA, rfl, SA, kA⟩
  have k := kb.trans (kA.mono kb.size)
  clear kA kb SA
  go_wp2_with fail
  go_ret
  exact ⟨rfl, k⟩
end Go.Proofs.Ytffefbhpndjdlaa.RegA
