/- RegTells returns true for every input: any registers may be, or not; what a key has, what they are with one more, and merged, and which one of two is newer, is what the document says. No condition. -/
import Derived.Test.YtffefbhpndjdlaaRegA
import Derived.ShutString
import Derived.ChangeOld
namespace Go.Proofs.Ytffefbhpndjdlaa.regTells
open Go Go.ChangeShapes Go.WideShapes Go.ChangeAt Go.RowKit Byt OpsM Rise RegM RegL RowS RowB RegW RegG RegS RegX RegA

set_option maxRecDepth 100000 in
set_option maxHeartbeats 8000000 in
theorem out (a0 : Option Addr) (cap0 : Nat) (l0 : List Rg) (a1 : Option Addr) (cap1 : Nat) (l1 : List Rg) (a2 : Rg) (a3 : ByteArray) (w : World) (w0 : SlR E w a0 cap0 l0) (g0 : ∀ x ∈ l0, OpenG.Good x) (w1 : SlR E w a1 cap1 l1) (g1 : ∀ x ∈ l1, OpenG.Good x) (g2 : OpenG.Good a2) (b0 b1 b2 : Bool) (x0 : fewB l0 = b0) (x1 : fewB l1 = b1) (x2 : fewB [a2] = b2) (hk : a3.size ≤ maxLen) (h : b0 = false ∨ (b0 = true ∧ b1 = false) ∨ (b0 = true ∧ b1 = true ∧ b2 = false) ∨ (b0 = true ∧ b1 = true ∧ b2 = true ∧ 100 < a3.size)) :
    Calls Try.prog 3 #[.slice a0 l0.length cap0, .slice a1 l1.length cap1, .agg (rc a2), .string a3] w fun e w' => e = .returned (.bool true) ∧ Below w.heap.size w w' := by
  unfold maxLen at hk
  rcases h with rfl | ⟨rfl, rfl⟩ | ⟨rfl, rfl, rfl⟩ | ⟨rfl, rfl, rfl, hk2⟩
  all_goals
    have B2 : Box E (w.alloc (.cells (rc a2) 26)) (w.heap.size) a2 := by exact Box.new w a2 _
    have Z2 := below_alloc w (.cells (rc a2) 26)
    have w0' := w0.below Z2
    clear w0
    have w0 := w0'
    clear w0'
    have w1' := w1.below Z2
    clear w1
    have w1 := w1'
    clear w1'
    have kb : Below w.heap.size w (w.alloc (.cells (rc a2) 26)) := by go_grown
    clear Z2
    go_enter Try.func3, Try.ntmps3
    go_wp2_with fail
    refine (awake _).mono ?_
    rintro e W1 ⟨rfl, k1⟩
    have w0' := w0.below k1
    clear w0
    have w0 := w0'
    clear w0'
    have w1' := w1.below k1
    clear w1
    have w1 := w1'
    clear w1'
    have B2' := B2.below k1
    clear B2
    have B2 := B2'
    clear B2'
    have kb' := kb.trans (k1.mono kb.size)
    clear kb k1
    have kb := kb'
    clear kb'
    go_wp2_with (first | (refine RowC.gload E _ rfl _ rfl a2 B2 rfl ?_))
    have hc := few_ret a0 cap0 l0 _ w0 (max_of g0)
    rw [x0] at hc
    refine hc.mono ?_
    clear hc
    rintro e w' ⟨rfl, rfl⟩
    go_wp2_with (first | (refine RowC.gload E _ rfl _ rfl a2 B2 rfl ?_))
    have hc := few_ret a1 cap1 l1 _ w1 (max_of g1)
    rw [x1] at hc
    refine hc.mono ?_
    clear hc
    rintro e w' ⟨rfl, rfl⟩
    go_wp2_with (first | (refine RowC.gload E _ rfl _ rfl a2 B2 rfl ?_) | (refine RowC.glit1 E (of_decide_eq_true rfl) _ rfl a2 rfl rfl ?_; intro W2 T k2; have w0' := w0.below k2; clear w0; have w0 := w0'; clear w0'; have w1' := w1.below k2; clear w1; have w1 := w1'; clear w1'; have B2' := B2.below k2; clear B2; have B2 := B2'; clear B2'; have kb' := kb.trans (k2.mono kb.size); clear kb k2; have kb := kb'; clear kb'))
    have hc := few_ret _ _ [a2] _ T (max_of (one_of g2))
    rw [x2] at hc
    refine hc.mono ?_
    clear hc
    rintro e w' ⟨rfl, rfl⟩
    clear T
    go_wp2_with (first | (refine RowC.gload E _ rfl _ rfl a2 B2 rfl ?_))
    go_ret
    exact ⟨by first | rfl | simp, kb⟩

set_option maxRecDepth 100000 in
set_option maxHeartbeats 16000000 in
theorem within (a0 : Option Addr) (cap0 : Nat) (l0 : List Rg) (a1 : Option Addr) (cap1 : Nat) (l1 : List Rg) (a2 : Rg) (a3 : ByteArray) (w : World) (w0 : SlR E w a0 cap0 l0) (g0 : ∀ x ∈ l0, OpenG.Good x) (w1 : SlR E w a1 cap1 l1) (g1 : ∀ x ∈ l1, OpenG.Good x) (g2 : OpenG.Good a2) (x0 : fewB l0 = true) (x1 : fewB l1 = true) (x2 : fewB [a2] = true) (hk : a3.size ≤ 100) :
    Calls Try.prog 3 #[.slice a0 l0.length cap0, .slice a1 l1.length cap1, .agg (rc a2), .string a3] w fun e w' => e = .returned (.bool true) ∧ Below w.heap.size w w' := by
  have y0 := few_len x0
  have y1 := few_len x1
  have f0 := few_fits x0 g0
  have f1 := few_fits x1 g1
  have fa := fit_one x2 g2
  have pl := put_length l0 a2
  have ml := merge_length l0 l1
  obtain ⟨bm, hbm⟩ : ∃ b, mayR l0 = b := ⟨_, rfl⟩
  obtain ⟨o, hgv⟩ : ∃ o, getR l0 a3 = o := ⟨_, rfl⟩
  obtain ⟨P, hP⟩ : ∃ l, putR l0 a2 = l := ⟨_, rfl⟩
  obtain ⟨M, hM⟩ : ∃ l, mergeR l0 l1 = l := ⟨_, rfl⟩
  rw [hP] at pl
  rw [hM] at ml
  have hq := equal_yes (x := vR o) rfl
  have X0 := aside x0
  have X1 := aside x1
  have X2 := aside x2
  have HBM := aside hbm
  have HGV := aside hgv
  have HP := aside hP
  have HM := aside hM
  clear x0 x1 x2 hbm hgv hP hM
  have B2 : Box E (w.alloc (.cells (rc a2) 26)) (w.heap.size) a2 := by exact Box.new w a2 _
  have Z2 := below_alloc w (.cells (rc a2) 26)
  have w0' := w0.below Z2
  clear w0
  have w0 := w0'
  clear w0'
  have w1' := w1.below Z2
  clear w1
  have w1 := w1'
  clear w1'
  have kb : Below w.heap.size w (w.alloc (.cells (rc a2) 26)) := by go_grown
  clear Z2
  go_enter Try.func3, Try.ntmps3
  go_wp2_with fail
  refine (awake _).mono ?_
  rintro e W1 ⟨rfl, k1⟩
  have w0' := w0.below k1
  clear w0
  have w0 := w0'
  clear w0'
  have w1' := w1.below k1
  clear w1
  have w1 := w1'
  clear w1'
  have B2' := B2.below k1
  clear B2
  have B2 := B2'
  clear B2'
  have kb' := kb.trans (k1.mono kb.size)
  clear kb k1
  have kb := kb'
  clear kb'
  go_wp2_with (first | (refine RowC.gload E _ rfl _ rfl a2 B2 rfl ?_))
  have hc := few_ret a0 cap0 l0 _ w0 (max_of g0)
  rw [X0.out] at hc
  refine hc.mono ?_
  clear hc
  rintro e w' ⟨rfl, rfl⟩
  go_wp2_with (first | (refine RowC.gload E _ rfl _ rfl a2 B2 rfl ?_))
  have hc := few_ret a1 cap1 l1 _ w1 (max_of g1)
  rw [X1.out] at hc
  refine hc.mono ?_
  clear hc
  rintro e w' ⟨rfl, rfl⟩
  go_wp2_with (first | (refine RowC.gload E _ rfl _ rfl a2 B2 rfl ?_) | (refine RowC.glit1 E (of_decide_eq_true rfl) _ rfl a2 rfl rfl ?_; intro W2 T k2; have w0' := w0.below k2; clear w0; have w0 := w0'; clear w0'; have w1' := w1.below k2; clear w1; have w1 := w1'; clear w1'; have B2' := B2.below k2; clear B2; have B2 := B2'; clear B2'; have kb' := kb.trans (k2.mono kb.size); clear kb k2; have kb := kb'; clear kb'))
  have hc := few_ret _ _ [a2] _ T (max_of (one_of g2))
  rw [X2.out] at hc
  refine hc.mono ?_
  clear hc
  rintro e w' ⟨rfl, rfl⟩
  clear T
  go_wp2_with (first | (refine RowC.gload E _ rfl _ rfl a2 B2 rfl ?_))
  have hc := RegG.may_ret a0 cap0 l0 _ w0 f0
  rw [HBM.out] at hc
  refine hc.mono ?_
  clear hc
  rintro e W3 ⟨rfl, k3⟩
  have w0' := w0.below k3
  clear w0
  have w0 := w0'
  clear w0'
  have w1' := w1.below k3
  clear w1
  have w1 := w1'
  clear w1'
  have B2' := B2.below k3
  clear B2
  have B2 := B2'
  clear B2'
  have kb' := kb.trans (k3.mono kb.size)
  clear kb k3
  have kb := kb'
  clear kb'
  go_wp2_with (first | (refine RowC.gload E _ rfl _ rfl a2 B2 rfl ?_))
  refine Grow.region [(0, true), (1, true), (3, true), (4, true), (2, false), (5, false), (6, false), (7, true)] (by kernel_rfl) (by kernel_rfl) rfl (by kernel_rfl) (by intro c a d v w h; cases d <;> exact h) ?_
  rename World => V4
  have k4 := below_drew1 (Below.refl V4.heap.size V4)
  have w0' := w0.below k4
  clear w0
  have w0 := w0'
  clear w0'
  have w1' := w1.below k4
  clear w1
  have w1 := w1'
  clear w1'
  have B2' := B2.below k4
  clear B2
  have B2 := B2'
  clear B2'
  have kb' := kb.trans (k4.mono kb.size)
  clear kb k4
  have kb := kb'
  clear kb'
  generalize V4.drew = W4 at w0 w1 B2 kb ⊢
  repeat (first | (refine RowG.reads_row E rfl rfl _ rfl _ _ rfl a2 B2.range ?_; simp only [Act.put, List.setIfInBounds_toArray, List.set_cons_succ, List.set_cons_zero]) | (refine Grow.reads rfl rfl ?_; go_big_quiet_step (fail); refine wpQuiet_nil ?_))
  refine Grow.acts rfl ?_
  go_wp2_with (first | (refine RowC.gload E _ rfl _ rfl a2 B2 rfl ?_))
  have hc := RegD.put_ret a0 cap0 l0 a2 _ w0 f0 fa (by omega)
  rw [HP.out] at hc
  refine hc.mono ?_
  clear hc
  rintro e W5 ⟨AP, CP, rfl, SP, k5⟩
  go_wp2_with fail
  refine ⟨k5, ?_⟩
  have w0' := w0.below k5
  clear w0
  have w0 := w0'
  clear w0'
  have w1' := w1.below k5
  clear w1
  have w1 := w1'
  clear w1'
  have B2' := B2.below k5
  clear B2
  have B2 := B2'
  clear B2'
  have kb' := kb.trans (k5.mono kb.size)
  clear kb k5
  have kb := kb'
  clear kb'
  refine Grow.acts rfl ?_
  go_wp2_with (first | (refine RowC.gload E _ rfl _ rfl a2 B2 rfl ?_))
  have hc := RegQ.put_ret a0 cap0 l0 a2 _ w0 f0 fa (by omega)
  rw [HP.out] at hc
  refine hc.mono ?_
  clear hc
  rintro e W6 ⟨AQ, CQ, rfl, SQ, k6⟩
  go_wp2_with fail
  refine ⟨k6, ?_⟩
  have w0' := w0.below k6
  clear w0
  have w0 := w0'
  clear w0'
  have w1' := w1.below k6
  clear w1
  have w1 := w1'
  clear w1'
  have B2' := B2.below k6
  clear B2
  have B2 := B2'
  clear B2'
  have SP' := SP.below k6
  clear SP
  have SP := SP'
  clear SP'
  have kb' := kb.trans (k6.mono kb.size)
  clear kb k6
  have kb := kb'
  clear kb'
  refine Grow.acts rfl ?_
  go_wp2_with (first | (refine RowC.gload E _ rfl _ rfl a2 B2 rfl ?_))
  have hc := same_ret AP CP P AQ CQ P _ SP SQ
  rw [sameB_self] at hc
  refine hc.mono ?_
  clear hc
  rintro e W7 ⟨rfl, k7⟩
  clear SP SQ
  go_wp2_with fail
  refine ⟨k7, ?_⟩
  have w0' := w0.below k7
  clear w0
  have w0 := w0'
  clear w0'
  have w1' := w1.below k7
  clear w1
  have w1 := w1'
  clear w1'
  have B2' := B2.below k7
  clear B2
  have B2 := B2'
  clear B2'
  have kb' := kb.trans (k7.mono kb.size)
  clear kb k7
  have kb := kb'
  clear kb'
  repeat (first | (refine RowG.reads_row E rfl rfl _ rfl _ _ rfl a2 B2.range ?_; simp only [Act.put, List.setIfInBounds_toArray, List.set_cons_succ, List.set_cons_zero]) | (refine Grow.reads rfl rfl ?_; go_big_quiet_step (fail); refine wpQuiet_nil ?_))
  refine Grow.ends ?_
  go_wp2_with (first | (refine RowC.gload E _ rfl _ rfl a2 B2 rfl ?_))
  have hc := RegD.merge_ret a0 cap0 l0 a1 cap1 l1 _ w0 w1 f0 f1 (by omega) (by omega)
  rw [HM.out] at hc
  refine hc.mono ?_
  clear hc
  rintro e W8 ⟨AP, CP, rfl, SP, k8⟩
  have w0' := w0.below k8
  clear w0
  have w0 := w0'
  clear w0'
  have w1' := w1.below k8
  clear w1
  have w1 := w1'
  clear w1'
  have B2' := B2.below k8
  clear B2
  have B2 := B2'
  clear B2'
  have kb' := kb.trans (k8.mono kb.size)
  clear kb k8
  have kb := kb'
  clear kb'
  go_wp2_with (first | (refine RowC.gload E _ rfl _ rfl a2 B2 rfl ?_))
  have hc := RegU.merge_ret a0 cap0 l0 a1 cap1 l1 _ w0 w1 f0 f1 (by omega) (by omega)
  rw [HM.out] at hc
  refine hc.mono ?_
  clear hc
  rintro e W9 ⟨AQ, CQ, rfl, SQ, k9⟩
  have w0' := w0.below k9
  clear w0
  have w0 := w0'
  clear w0'
  have w1' := w1.below k9
  clear w1
  have w1 := w1'
  clear w1'
  have B2' := B2.below k9
  clear B2
  have B2 := B2'
  clear B2'
  have SP' := SP.below k9
  clear SP
  have SP := SP'
  clear SP'
  have kb' := kb.trans (k9.mono kb.size)
  clear kb k9
  have kb := kb'
  clear kb'
  go_wp2_with (first | (refine RowC.gload E _ rfl _ rfl a2 B2 rfl ?_))
  have hc := same_ret AP CP M AQ CQ M _ SP SQ
  rw [sameB_self] at hc
  refine hc.mono ?_
  clear hc
  rintro e W10 ⟨rfl, k10⟩
  clear SP SQ
  have w0' := w0.below k10
  clear w0
  have w0 := w0'
  clear w0'
  have w1' := w1.below k10
  clear w1
  have w1 := w1'
  clear w1'
  have B2' := B2.below k10
  clear B2
  have B2 := B2'
  clear B2'
  have kb' := kb.trans (k10.mono kb.size)
  clear kb k10
  have kb := kb'
  clear kb'
  go_wp2_with (first | (refine RowC.gload E _ rfl _ rfl a2 B2 rfl ?_))
  have hc := RegD.get_ret a0 cap0 l0 a3 _ w0 (by omega)
  rw [HGV.out, gv_eq] at hc
  refine hc.mono ?_
  clear hc
  rintro e W11 ⟨rfl, k11⟩
  have w0' := w0.below k11
  clear w0
  have w0 := w0'
  clear w0'
  have w1' := w1.below k11
  clear w1
  have w1 := w1'
  clear w1'
  have B2' := B2.below k11
  clear B2
  have B2 := B2'
  clear B2'
  have kb' := kb.trans (k11.mono kb.size)
  clear kb k11
  have kb := kb'
  clear kb'
  go_wp2_with (first | (refine RowC.gload E _ rfl _ rfl a2 B2 rfl ?_) | (refine wpList_store_new E rfl _ _ rfl _ _ _ rfl (vR o) _ rfl rfl rfl rfl ?_; intro W12 BX k12 g12 s12; clear g12 s12; have w0' := w0.below k12; clear w0; have w0 := w0'; clear w0'; have w1' := w1.below k12; clear w1; have w1 := w1'; clear w1'; have B2' := B2.below k12; clear B2; have B2 := B2'; clear B2'; have kb' := kb.trans (k12.mono kb.size); clear kb k12; have kb := kb'; clear kb') | (refine RowC.gload E _ rfl _ rfl (vR o) BX rfl ?_))
  have hc := RegG.get_ret a0 cap0 l0 a3 _ w0
  rw [HGV.out, gv_eq] at hc
  refine hc.mono ?_
  clear hc
  rintro e W13 ⟨rfl, k13⟩
  have w0' := w0.below k13
  clear w0
  have w0 := w0'
  clear w0'
  have w1' := w1.below k13
  clear w1
  have w1 := w1'
  clear w1'
  have B2' := B2.below k13
  clear B2
  have B2 := B2'
  clear B2'
  have BX' := BX.below k13
  clear BX
  have BX := BX'
  clear BX'
  have kb' := kb.trans (k13.mono kb.size)
  clear kb k13
  have kb := kb'
  clear kb'
  go_wp2_with (first | (refine RowC.gload E _ rfl _ rfl a2 B2 rfl ?_) | (refine RowC.gload E _ rfl _ rfl (vR o) BX rfl ?_) | (refine wpList_store_new E rfl _ _ rfl _ _ _ rfl (vR o) _ rfl rfl rfl rfl ?_; intro W14 BY k14 g14 s14; clear g14 s14; have w0' := w0.below k14; clear w0; have w0 := w0'; clear w0'; have w1' := w1.below k14; clear w1; have w1 := w1'; clear w1'; have B2' := B2.below k14; clear B2; have B2 := B2'; clear B2'; have BX' := BX.below k14; clear BX; have BX := BX'; clear BX'; have kb' := kb.trans (k14.mono kb.size); clear kb k14; have kb := kb'; clear kb') | (refine RowC.gload E _ rfl _ rfl (vR o) BY rfl ?_))
  go_loopw [20] (fun i wr => ∃ j : Nat, j ≤ l0.length ∧ i = .int .i64 j ∧ Below W14.heap.size W14 wr) (fun i _ => l0.length - (intOf i).toNat)
  case atStart => exact ⟨0, Nat.zero_le _, rfl, Below.refl _ _⟩
  case round =>
    obtain ⟨j, hj, rfl, kr⟩ := hrel
    have w0' := w0.below kr
    clear w0
    have w0 := w0'
    clear w0'
    have w1' := w1.below kr
    clear w1
    have w1 := w1'
    clear w1'
    have B2' := B2.below kr
    clear B2
    have B2 := B2'
    clear B2'
    have BX' := BX.below kr
    clear BX
    have BX := BX'
    clear BX'
    have BY' := BY.below kr
    clear BY
    have BY := BY'
    clear BY'
    have kb' := kb.trans (kr.mono kb.size)
    clear kb
    have kb := kb'
    clear kb'
    have hcap := w0.1
    by_cases hlt : j < l0.length
    · obtain ⟨g, off, rfl, hbw, hr⟩ := RegW.plain w0 (by omega)
      obtain ⟨x, hx⟩ : ∃ x, l0[j]? = some x := ⟨_, List.getElem?_eq_getElem hlt⟩
      obtain ⟨nb, hnb⟩ : ∃ b, newerB x a2 = b := ⟨_, rfl⟩
      have HNB := aside hnb
      have p0 : (j : Int) < l0.length := by omega
      have m0 : ((j : Int)).toNat = j := by omega
      have HR : Lies E _ g (off + j * 5) x := hr j x hx
      clear hnb hr hx
      clear w0 w1 BX BY
      go_wp2_with (first | (refine RowC.gload E _ rfl _ rfl a2 B2 rfl ?_))
      refine Grow.region [(0, true), (1, true), (2, true), (3, true), (4, true), (5, false), (6, true)] (by kernel_rfl) (by kernel_rfl) rfl (by kernel_rfl) (by intro c a d v w h; cases d <;> exact h) ?_
      rename World => V15
      have k15 := below_drew1 (Below.refl V15.heap.size V15)
      have B2' := B2.below k15
      clear B2
      have B2 := B2'
      clear B2'
      have HR' := HR.below k15
      clear HR
      have HR := HR'
      clear HR'
      have kr' := kr.trans (k15.mono kr.size)
      clear kr
      have kr := kr'
      clear kr'
      have kb' := kb.trans (k15.mono kb.size)
      clear kb k15
      have kb := kb'
      clear kb'
      generalize V15.drew = W15 at B2 HR kr kb ⊢
      repeat (first | (refine RowG.reads_row E rfl rfl _ rfl _ _ rfl a2 B2.range ?_; simp only [Act.put, List.setIfInBounds_toArray, List.set_cons_succ, List.set_cons_zero]) | (refine RowG.reads_row E rfl rfl _ rfl _ _ rfl x HR ?_; simp only [Act.put, List.setIfInBounds_toArray, List.set_cons_succ, List.set_cons_zero]) | (refine Grow.reads rfl rfl ?_; go_big_quiet_step (fail); refine wpQuiet_nil ?_))
      refine Grow.acts rfl ?_
      go_wp2_with (first | (refine RowC.gload E _ rfl _ rfl a2 B2 rfl ?_))
      have hc := fun W => RegR.newer_ret x a2 W
      simp only [HNB.out] at hc
      refine (hc _).mono ?_
      clear hc
      rintro e W16 ⟨rfl, k16⟩
      go_wp2_with fail
      refine ⟨k16, ?_⟩
      have B2' := B2.below k16
      clear B2
      have B2 := B2'
      clear B2'
      have HR' := HR.below k16
      clear HR
      have HR := HR'
      clear HR'
      have kr' := kr.trans (k16.mono kr.size)
      clear kr
      have kr := kr'
      clear kr'
      have kb' := kb.trans (k16.mono kb.size)
      clear kb k16
      have kb := kb'
      clear kb'
      repeat (first | (refine RowG.reads_row E rfl rfl _ rfl _ _ rfl a2 B2.range ?_; simp only [Act.put, List.setIfInBounds_toArray, List.set_cons_succ, List.set_cons_zero]) | (refine Grow.reads rfl rfl ?_; go_big_quiet_step (fail); refine wpQuiet_nil ?_))
      refine Grow.ends ?_
      go_wp2_with (first | (refine RowC.gload E _ rfl _ rfl a2 B2 rfl ?_))
      refine Grow.region [(0, true), (1, true), (2, true), (3, true), (4, true), (6, true), (5, false), (7, true)] (by kernel_rfl) (by kernel_rfl) rfl (by kernel_rfl) (by intro c a d v w h; cases d <;> exact h) ?_
      rename World => V17
      have k17 := below_drew1 (Below.refl V17.heap.size V17)
      have B2' := B2.below k17
      clear B2
      have B2 := B2'
      clear B2'
      have HR' := HR.below k17
      clear HR
      have HR := HR'
      clear HR'
      have kr' := kr.trans (k17.mono kr.size)
      clear kr
      have kr := kr'
      clear kr'
      have kb' := kb.trans (k17.mono kb.size)
      clear kb k17
      have kb := kb'
      clear kb'
      generalize V17.drew = W17 at B2 HR kr kb ⊢
      repeat (first | (refine RowG.reads_row E rfl rfl _ rfl _ _ rfl a2 B2.range ?_; simp only [Act.put, List.setIfInBounds_toArray, List.set_cons_succ, List.set_cons_zero]) | (refine RowG.reads_row E rfl rfl _ rfl _ _ rfl x HR ?_; simp only [Act.put, List.setIfInBounds_toArray, List.set_cons_succ, List.set_cons_zero]) | (refine Grow.reads rfl rfl ?_; go_big_quiet_step (fail); refine wpQuiet_nil ?_))
      refine Grow.acts rfl ?_
      go_wp2_with (first | (refine RowC.gload E _ rfl _ rfl a2 B2 rfl ?_))
      have hc := fun W => RegD.newer_ret x a2 W
      simp only [HNB.out] at hc
      refine (hc _).mono ?_
      clear hc
      rintro e W18 ⟨rfl, k18⟩
      go_wp2_with fail
      refine ⟨k18, ?_⟩
      have B2' := B2.below k18
      clear B2
      have B2 := B2'
      clear B2'
      have HR' := HR.below k18
      clear HR
      have HR := HR'
      clear HR'
      have kr' := kr.trans (k18.mono kr.size)
      clear kr
      have kr := kr'
      clear kr'
      have kb' := kb.trans (k18.mono kb.size)
      clear kb k18
      have kb := kb'
      clear kb'
      repeat (first | (refine RowG.reads_row E rfl rfl _ rfl _ _ rfl a2 B2.range ?_; simp only [Act.put, List.setIfInBounds_toArray, List.set_cons_succ, List.set_cons_zero]) | (refine Grow.reads rfl rfl ?_; go_big_quiet_step (fail); refine wpQuiet_nil ?_))
      refine Grow.ends ?_
      go_wp2_with (first | (refine RowC.gload E _ rfl _ rfl a2 B2 rfl ?_))
      go_roundw
      case rel => exact ⟨j + 1, by omega, by go_num, kr⟩
      case measure => simp [intOf]; omega
    · have e : j = l0.length := by omega
      go_wp2_with (first | (refine RowC.gload E _ rfl _ rfl a2 B2 rfl ?_) | (refine RowC.gload E _ rfl _ rfl (vR o) BX rfl ?_) | (refine RowC.gload E _ rfl _ rfl (vR o) BY rfl ?_))
      have hc := RegD.may_ret a0 cap0 l0 _ w0 f0 (by omega)
      rw [HBM.out] at hc
      refine hc.mono ?_
      clear hc
      rintro e W19 ⟨rfl, k19⟩
      have w0' := w0.below k19
      clear w0
      have w0 := w0'
      clear w0'
      have w1' := w1.below k19
      clear w1
      have w1 := w1'
      clear w1'
      have B2' := B2.below k19
      clear B2
      have B2 := B2'
      clear B2'
      have BX' := BX.below k19
      clear BX
      have BX := BX'
      clear BX'
      have BY' := BY.below k19
      clear BY
      have BY := BY'
      clear BY'
      have kb' := kb.trans (k19.mono kb.size)
      clear kb k19
      have kb := kb'
      clear kb'
      go_wp2_with (first | (refine RowC.gload E _ rfl _ rfl a2 B2 rfl ?_) | (refine RowC.gload E _ rfl _ rfl (vR o) BX rfl ?_) | (refine RowC.gload E _ rfl _ rfl (vR o) BY rfl ?_))
      go_ret
      exact ⟨by first | rfl | simp, kb⟩

theorem walk (a0 : Option Addr) (cap0 : Nat) (l0 : List Rg) (a1 : Option Addr) (cap1 : Nat) (l1 : List Rg) (a2 : Rg) (a3 : ByteArray) (w : World) (w0 : SlR E w a0 cap0 l0) (g0 : ∀ x ∈ l0, OpenG.Good x) (w1 : SlR E w a1 cap1 l1) (g1 : ∀ x ∈ l1, OpenG.Good x) (g2 : OpenG.Good a2) (w3 : a3.size ≤ maxLen) :
    Calls Try.prog 3 #[.slice a0 l0.length cap0, .slice a1 l1.length cap1, .agg (rc a2), .string a3] w fun e w' => e = .returned (.bool true) ∧ Below w.heap.size w w' := by
  cases x0 : fewB l0 with
  | false => exact out a0 cap0 l0 a1 cap1 l1 a2 a3 w w0 g0 w1 g1 g2 _ _ _ x0 rfl rfl w3 (.inl rfl)
  | true =>
    cases x1 : fewB l1 with
    | false => exact out a0 cap0 l0 a1 cap1 l1 a2 a3 w w0 g0 w1 g1 g2 _ _ _ x0 x1 rfl w3 (.inr (.inl ⟨rfl, rfl⟩))
    | true =>
      cases x2 : fewB [a2] with
      | false => exact out a0 cap0 l0 a1 cap1 l1 a2 a3 w w0 g0 w1 g1 g2 _ _ _ x0 x1 x2 w3 (.inr (.inr (.inl ⟨rfl, rfl, rfl⟩)))
      | true =>
        by_cases hk : 100 < a3.size
        · exact out a0 cap0 l0 a1 cap1 l1 a2 a3 w w0 g0 w1 g1 g2 _ _ _ x0 x1 x2 w3 (.inr (.inr (.inr ⟨rfl, rfl, rfl, hk⟩)))
        · exact within a0 cap0 l0 a1 cap1 l1 a2 a3 w w0 g0 w1 g1 g2 x0 x1 x2 (by omega)

theorem own : ownKnob Try.prog.godebug = none := by kernel_rfl
theorem laidOut : laidOutB Try.prog = true := by kernel_rfl
set_option linter.unusedVariables false in
set_option maxRecDepth 100000 in
theorem lifted (os : Os) (started : os.Started) (H : Type) (enc : TypeId × Value → H) :
    ReturnsInHanded {} Try.checked os 3 .any (Rows.regTellsSpec.pre6 enc Try.prog Try.f3 Rows.regTellsRow.domain false) (Rows.regTellsSpec.post enc Try.prog Try.f3 false true false false) := by
  refine returnsInHanded_of_change (C := Try.checked) own started (by kernel_rfl) Try.func3
    (ChangeSpec.witness6 (enc := enc) (C := Try.checked) false ⟨#[], #[.slice none 0 0, .slice none 0 0, .agg #[.string ByteArray.empty, .string ByteArray.empty, .int .i64 0, .int .i64 0, .int .i64 0], .string ByteArray.empty], []⟩ 8 (by kernel_rfl) (by kernel_rfl) (by kernel_rfl) (by kernel_rfl)) ?_
  intro W base args ds gs before hval0 hW hcnd _
  have hval : ∀ (j : Nat) t v, Try.f3.params[j]? = some t → args[j]? = some v → Value.okWide Try.prog W .any base t v := hval0
  have hW' := hW
  obtain ⟨p, q, hA0, hV, rfl, hfz, hnd⟩ := hW
  have hA : DataW.TrodAll enc Try.prog W 0 (fun _ => true) true Try.f3.params.toList args.toList ds p := hA0
  rw [Try.params3] at hA hval
  obtain ⟨v0, vs0, d0, ds0, p0, q0, hargs, rfl, rfl, h0, r0⟩ := trodAll_cons hA
  obtain ⟨v1, vs1, d1, ds1, p1, q1, rfl, rfl, rfl, h1, r1⟩ := trodAll_cons r0
  obtain ⟨v2, vs2, d2, ds2, p2, q2, rfl, rfl, rfl, h2, r2⟩ := trodAll_cons r1
  obtain ⟨v3, vs3, d3, ds3, p3, q3, rfl, rfl, rfl, h3, r3⟩ := trodAll_cons r2
  obtain ⟨rfl, rfl, rfl⟩ := trodAll_nil r3
  obtain rfl : args = #[v0, v1, v2, v3] := by cases args; simp_all
  obtain ⟨rfl, rfl⟩ := trodVars_none hV
  have k0 := h0
  have lt0 : ∀ x ∈ p0, x.block < W.heap.size := by obtain ⟨m, hm⟩ := k0; exact DataW.trod_lt m _ _ _ hm
  obtain ⟨a0, cap0, l0, rfl, w0, g0⟩ := OpenG.open_regs (hval 0 22 v0 rfl rfl) h0
  have k1 := h1
  have lt1 : ∀ x ∈ p1, x.block < W.heap.size := by obtain ⟨m, hm⟩ := k1; exact DataW.trod_lt m _ _ _ hm
  obtain ⟨a1, cap1, l1, rfl, w1, g1⟩ := OpenG.open_regs (hval 1 22 v1 rfl rfl) h1
  have k2 := h2
  have lt2 : ∀ x ∈ p2, x.block < W.heap.size := by obtain ⟨m, hm⟩ := k2; exact DataW.trod_lt m _ _ _ hm
  obtain ⟨a2, rfl, w2⟩ := OpenG.open_reg (hval 2 26 v2 rfl rfl) h2
  obtain ⟨a3, rfl, rfl, rfl, w3⟩ := Go.ChangeMaps.open_string Try.underlying9 (hval 3 9 v3 rfl rfl) h3
  clear hA0 hval0
  refine (walk a0 cap0 l0 a1 cap1 l1 a2 a3 W w0 g0 w1 g1 w2 w3).mono fun e W' ⟨he, bel⟩ => ?_
  subst he
  exact ⟨_, rfl, _, _, _, [], _, [], hW', trodAll_mk1 (shut_bool Try.underlying4 _), (trodAll_cons_mk (Below.trod laidOut (by kernel_rfl) (of_decide_eq_true (by kernel_rfl)) k0 bel lt0) (trodAll_cons_mk (Below.trod laidOut (by kernel_rfl) (of_decide_eq_true (by kernel_rfl)) k1 bel lt1) (trodAll_cons_mk (Below.trod laidOut (by kernel_rfl) (of_decide_eq_true (by kernel_rfl)) k2 bel lt2) (trodAll_cons_mk (Go.ChangeMaps.shut_string Try.underlying9 w3) trodAll_mk0)))), rfl, bel.frame _, fun h => by cases h⟩

theorem over : Rows.regTellsRow.holds Try.pinned (OpenSpec.ofChange Rows.regTellsSpec) :=
  OpenClaim.holds_of_wide 3 Try.f3 rfl rfl rfl rfl rfl rfl rfl ⟨rfl, rfl, rfl, rfl, rfl⟩ rfl rfl rfl rfl rfl (by kernel_rfl) Try.func3 (by kernel_rfl)
    (of_decide_eq_true (by kernel_rfl)) (by unfold Func.isWrapper; first | (rw [if_pos (by decide +kernel)]; kernel_rfl) | (rw [if_neg (by decide +kernel)]; exact ⟨rfl, rfl⟩))
    (fun os started H enc _ => lifted os started H enc)

theorem proved : Rows.RegTellsSaid := over
end Go.Proofs.Ytffefbhpndjdlaa.regTells
