/- CtrTells returns true for every input: any counts may be, or not; what a key counts, what they are with more, and merged, is what the document says. No condition. -/
import Derived.Test.YtommbfkndcaghaaCtrA
import Derived.ShutString
import Derived.ChangeOld
namespace Go.Proofs.Ytommbfkndcaghaa.ctrTells
open Go Go.ChangeShapes Go.WideShapes Go.ChangeAt Go.RowKit Byt OpsM Rise CtrM RowS CtrW CtrS CtrL CtrX CtrA

set_option maxRecDepth 100000 in
set_option maxHeartbeats 8000000 in
theorem out (a0 : Option Addr) (cap0 : Nat) (l0 : List Cn) (a1 : Option Addr) (cap1 : Nat) (l1 : List Cn) (a2 : Option Addr) (cap2 : Nat) (l2 : List Cn) (a3 : ByteArray) (a4 : Int) (w : World) (w0 : SlR E w a0 cap0 l0) (g0 : ∀ x ∈ l0, OpenC.Good x) (w1 : SlR E w a1 cap1 l1) (g1 : ∀ x ∈ l1, OpenC.Good x) (w2 : SlR E w a2 cap2 l2) (g2 : ∀ x ∈ l2, OpenC.Good x) (b0 b1 b2 : Bool) (x0 : fewB l0 = b0) (x1 : fewB l1 = b1) (x2 : fewB l2 = b2) (hk : a3.size ≤ maxLen) (h : b0 = false ∨ (b0 = true ∧ b1 = false) ∨ (b0 = true ∧ b1 = true ∧ b2 = false) ∨ (b0 = true ∧ b1 = true ∧ b2 = true ∧ 100 < a3.size)) :
    Calls Try.prog 3 #[.slice a0 l0.length cap0, .slice a1 l1.length cap1, .slice a2 l2.length cap2, .string a3, .int .i64 a4] w fun e w' => e = .returned (.bool true) ∧ Below w.heap.size w w' := by
  unfold maxLen at hk
  rcases h with rfl | ⟨rfl, rfl⟩ | ⟨rfl, rfl, rfl⟩ | ⟨rfl, rfl, rfl, hk2⟩
  all_goals
    go_enter Try.func3, Try.ntmps3
    go_wp2_with fail
    refine (awake _).mono ?_
    rintro e W1 ⟨rfl, k1⟩
    have w0' := w0.below k1
    have w1' := w1.below k1
    have w2' := w2.below k1
    have kb := k1
    clear w0 w1 w2 k1
    have w0 := w0'
    have w1 := w1'
    have w2 := w2'
    clear w0' w1' w2'
    go_wp2_with fail
    have hc := few_ret a0 cap0 l0 _ w0 (max_of g0)
    rw [x0] at hc
    refine hc.mono ?_
    clear hc
    rintro e w' ⟨rfl, rfl⟩
    go_wp2_with fail
    have hc := few_ret a1 cap1 l1 _ w1 (max_of g1)
    rw [x1] at hc
    refine hc.mono ?_
    clear hc
    rintro e w' ⟨rfl, rfl⟩
    go_wp2_with fail
    have hc := few_ret a2 cap2 l2 _ w2 (max_of g2)
    rw [x2] at hc
    refine hc.mono ?_
    clear hc
    rintro e w' ⟨rfl, rfl⟩
    go_wp2_with fail
    go_ret
    exact ⟨by first | rfl | simp, kb⟩

set_option maxRecDepth 100000 in
set_option maxHeartbeats 8000000 in
theorem within (a0 : Option Addr) (cap0 : Nat) (l0 : List Cn) (a1 : Option Addr) (cap1 : Nat) (l1 : List Cn) (a2 : Option Addr) (cap2 : Nat) (l2 : List Cn) (a3 : ByteArray) (a4 : Int) (w : World) (w0 : SlR E w a0 cap0 l0) (g0 : ∀ x ∈ l0, OpenC.Good x) (w1 : SlR E w a1 cap1 l1) (g1 : ∀ x ∈ l1, OpenC.Good x) (w2 : SlR E w a2 cap2 l2) (g2 : ∀ x ∈ l2, OpenC.Good x) (x0 : fewB l0 = true) (x1 : fewB l1 = true) (x2 : fewB l2 = true) (hk : a3.size ≤ 100) (hn : In64 a4) :
    Calls Try.prog 3 #[.slice a0 l0.length cap0, .slice a1 l1.length cap1, .slice a2 l2.length cap2, .string a3, .int .i64 a4] w fun e w' => e = .returned (.bool true) ∧ Below w.heap.size w w' := by
  have y0 := few_len x0
  have y1 := few_len x1
  have y2 := few_len x2
  have f0 := few_fits x0 (inl_of g0)
  have f1 := few_fits x1 (inl_of g1)
  have f2 := few_fits x2 (inl_of g2)
  have hk2 : a3.size ≤ 1099511627776 := by omega
  have Hn := aside hn
  have il := inc_len l1 a3 a4
  have ml := merge_len l0 l1 l2
  obtain ⟨bm, hbm⟩ : ∃ b, mayC l1 = b := ⟨_, rfl⟩
  obtain ⟨gv, hgv⟩ : ∃ v, getC l1 a3 = v := ⟨_, rfl⟩
  obtain ⟨IL, hIL⟩ : ∃ l, incC l1 a3 a4 = l := ⟨_, rfl⟩
  obtain ⟨ML, hML⟩ : ∃ l, mergeC l0 l1 l2 = l := ⟨_, rfl⟩
  rw [hIL] at il
  rw [hML] at ml
  have X0 := aside x0
  have X1 := aside x1
  have X2 := aside x2
  have HBM := aside hbm
  have HGV := aside hgv
  have HIL := aside hIL
  have HML := aside hML
  clear hn x0 x1 x2 hbm hgv hIL hML
  go_enter Try.func3, Try.ntmps3
  go_wp2_with fail
  refine (awake _).mono ?_
  rintro e W1 ⟨rfl, k1⟩
  have w0' := w0.below k1
  have w1' := w1.below k1
  have w2' := w2.below k1
  have kb := k1
  clear w0 w1 w2 k1
  have w0 := w0'
  have w1 := w1'
  have w2 := w2'
  clear w0' w1' w2'
  go_wp2_with fail
  have hc := few_ret a0 cap0 l0 _ w0 (max_of g0)
  rw [X0.out] at hc
  refine hc.mono ?_
  clear hc
  rintro e w' ⟨rfl, rfl⟩
  go_wp2_with fail
  have hc := few_ret a1 cap1 l1 _ w1 (max_of g1)
  rw [X1.out] at hc
  refine hc.mono ?_
  clear hc
  rintro e w' ⟨rfl, rfl⟩
  go_wp2_with fail
  have hc := few_ret a2 cap2 l2 _ w2 (max_of g2)
  rw [X2.out] at hc
  refine hc.mono ?_
  clear hc
  rintro e w' ⟨rfl, rfl⟩
  go_wp2_with fail
  have hc := CtrR.may_ret a1 cap1 l1 _ w1 f1
  rw [HBM.out] at hc
  refine hc.mono ?_
  clear hc
  rintro e W2 ⟨rfl, k2⟩
  have w0' := w0.below k2
  have w1' := w1.below k2
  have w2' := w2.below k2
  have kb' := kb.trans (k2.mono kb.size)
  clear w0 w1 w2 kb k2
  have w0 := w0'
  have w1 := w1'
  have w2 := w2'
  have kb := kb'
  clear w0' w1' w2' kb'
  go_wp2_with fail
  have hc := CtrD.inc_ret a1 cap1 l1 a3 a4 _ w1 f1 (by omega) hk2 Hn.out
  rw [HIL.out] at hc
  refine hc.mono ?_
  clear hc
  rintro e W3 ⟨AP, CP, rfl, SP, k3⟩
  have w0' := w0.below k3
  have w1' := w1.below k3
  have w2' := w2.below k3
  have kb' := kb.trans (k3.mono kb.size)
  clear w0 w1 w2 kb k3
  have w0 := w0'
  have w1 := w1'
  have w2 := w2'
  have kb := kb'
  clear w0' w1' w2' kb'
  go_wp2_with fail
  have hc := CtrQ.inc_ret a1 cap1 l1 a3 a4 _ w1 f1 (by omega) hk2
  rw [HIL.out] at hc
  refine hc.mono ?_
  clear hc
  rintro e W4 ⟨AQ, CQ, rfl, SQ, k4⟩
  have w0' := w0.below k4
  have w1' := w1.below k4
  have w2' := w2.below k4
  have SP' := SP.below k4
  have kb' := kb.trans (k4.mono kb.size)
  clear w0 w1 w2 SP kb k4
  have w0 := w0'
  have w1 := w1'
  have w2 := w2'
  have SP := SP'
  have kb := kb'
  clear w0' w1' w2' SP' kb'
  go_wp2_with fail
  have hc := same_ret AP CP IL AQ CQ IL _ SP SQ
  rw [sameB_self] at hc
  refine hc.mono ?_
  clear hc
  rintro e W5 ⟨rfl, k5⟩
  clear SP
  clear SQ
  have w0' := w0.below k5
  have w1' := w1.below k5
  have w2' := w2.below k5
  have kb' := kb.trans (k5.mono kb.size)
  clear w0 w1 w2 kb k5
  have w0 := w0'
  have w1 := w1'
  have w2 := w2'
  have kb := kb'
  clear w0' w1' w2' kb'
  go_wp2_with fail
  have hc := CtrD.merge_ret a0 cap0 l0 a1 cap1 l1 a2 cap2 l2 _ w0 w1 w2 f0 f1 f2 (by omega) (by omega) (by omega)
  rw [HML.out] at hc
  refine hc.mono ?_
  clear hc
  rintro e W6 ⟨AP, CP, rfl, SP, k6⟩
  have w0' := w0.below k6
  have w1' := w1.below k6
  have w2' := w2.below k6
  have kb' := kb.trans (k6.mono kb.size)
  clear w0 w1 w2 kb k6
  have w0 := w0'
  have w1 := w1'
  have w2 := w2'
  have kb := kb'
  clear w0' w1' w2' kb'
  go_wp2_with fail
  have hc := CtrQ.merge_ret a0 cap0 l0 a1 cap1 l1 a2 cap2 l2 _ w0 w1 w2 f0 f1 f2 (by omega) (by omega) (by omega)
  rw [HML.out] at hc
  refine hc.mono ?_
  clear hc
  rintro e W7 ⟨AQ, CQ, rfl, SQ, k7⟩
  have w0' := w0.below k7
  have w1' := w1.below k7
  have w2' := w2.below k7
  have SP' := SP.below k7
  have kb' := kb.trans (k7.mono kb.size)
  clear w0 w1 w2 SP kb k7
  have w0 := w0'
  have w1 := w1'
  have w2 := w2'
  have SP := SP'
  have kb := kb'
  clear w0' w1' w2' SP' kb'
  go_wp2_with fail
  have hc := same_ret AP CP ML AQ CQ ML _ SP SQ
  rw [sameB_self] at hc
  refine hc.mono ?_
  clear hc
  rintro e W8 ⟨rfl, k8⟩
  clear SP
  clear SQ
  have w0' := w0.below k8
  have w1' := w1.below k8
  have w2' := w2.below k8
  have kb' := kb.trans (k8.mono kb.size)
  clear w0 w1 w2 kb k8
  have w0 := w0'
  have w1 := w1'
  have w2 := w2'
  have kb := kb'
  clear w0' w1' w2' kb'
  go_wp2_with fail
  have hc := CtrD.may_ret a1 cap1 l1 _ w1 f1 (by omega)
  rw [HBM.out] at hc
  refine hc.mono ?_
  clear hc
  rintro e W9 ⟨rfl, k9⟩
  have w0' := w0.below k9
  have w1' := w1.below k9
  have w2' := w2.below k9
  have kb' := kb.trans (k9.mono kb.size)
  clear w0 w1 w2 kb k9
  have w0 := w0'
  have w1 := w1'
  have w2 := w2'
  have kb := kb'
  clear w0' w1' w2' kb'
  go_wp2_with fail
  have hc := CtrD.get_ret a1 cap1 l1 a3 _ w1 (by omega)
  rw [HGV.out] at hc
  refine hc.mono ?_
  clear hc
  rintro e W10 ⟨rfl, k10⟩
  have w0' := w0.below k10
  have w1' := w1.below k10
  have w2' := w2.below k10
  have kb' := kb.trans (k10.mono kb.size)
  clear w0 w1 w2 kb k10
  have w0 := w0'
  have w1 := w1'
  have w2 := w2'
  have kb := kb'
  clear w0' w1' w2' kb'
  go_wp2_with fail
  have hc := CtrR.get_ret a1 cap1 l1 a3 _ w1
  rw [HGV.out] at hc
  refine hc.mono ?_
  clear hc
  rintro e w' ⟨rfl, rfl⟩
  go_wp2_with fail
  go_ret
  exact ⟨by first | rfl | simp, kb⟩

theorem walk (a0 : Option Addr) (cap0 : Nat) (l0 : List Cn) (a1 : Option Addr) (cap1 : Nat) (l1 : List Cn) (a2 : Option Addr) (cap2 : Nat) (l2 : List Cn) (a3 : ByteArray) (a4 : Int) (w : World) (w0 : SlR E w a0 cap0 l0) (g0 : ∀ x ∈ l0, OpenC.Good x) (w1 : SlR E w a1 cap1 l1) (g1 : ∀ x ∈ l1, OpenC.Good x) (w2 : SlR E w a2 cap2 l2) (g2 : ∀ x ∈ l2, OpenC.Good x) (w3 : a3.size ≤ maxLen) (w4 : (Lit.int .i64 a4).wf = true) :
    Calls Try.prog 3 #[.slice a0 l0.length cap0, .slice a1 l1.length cap1, .slice a2 l2.length cap2, .string a3, .int .i64 a4] w fun e w' => e = .returned (.bool true) ∧ Below w.heap.size w w' := by
  have hn : In64 a4 := by simpa [In64, Lit.wf, IntKind.min, IntKind.max, IntKind.bits, IntKind.signed] using w4
  cases x0 : fewB l0 with
  | false => exact out a0 cap0 l0 a1 cap1 l1 a2 cap2 l2 a3 a4 w w0 g0 w1 g1 w2 g2 _ _ _ x0 rfl rfl w3 (.inl rfl)
  | true =>
    cases x1 : fewB l1 with
    | false => exact out a0 cap0 l0 a1 cap1 l1 a2 cap2 l2 a3 a4 w w0 g0 w1 g1 w2 g2 _ _ _ x0 x1 rfl w3 (.inr (.inl ⟨rfl, rfl⟩))
    | true =>
      cases x2 : fewB l2 with
      | false => exact out a0 cap0 l0 a1 cap1 l1 a2 cap2 l2 a3 a4 w w0 g0 w1 g1 w2 g2 _ _ _ x0 x1 x2 w3 (.inr (.inr (.inl ⟨rfl, rfl, rfl⟩)))
      | true =>
        by_cases hk : 100 < a3.size
        · exact out a0 cap0 l0 a1 cap1 l1 a2 cap2 l2 a3 a4 w w0 g0 w1 g1 w2 g2 _ _ _ x0 x1 x2 w3 (.inr (.inr (.inr ⟨rfl, rfl, rfl, hk⟩)))
        · exact within a0 cap0 l0 a1 cap1 l1 a2 cap2 l2 a3 a4 w w0 g0 w1 g1 w2 g2 x0 x1 x2 (by omega) hn

theorem own : ownKnob Try.prog.godebug = none := by kernel_rfl
theorem laidOut : laidOutB Try.prog = true := by kernel_rfl
set_option linter.unusedVariables false in
set_option maxRecDepth 100000 in
theorem lifted (os : Os) (started : os.Started) (H : Type) (enc : TypeId × Value → H) :
    ReturnsInHanded {} Try.checked os 3 .any (Rows.ctrTellsSpec.pre6 enc Try.prog Try.f3 Rows.ctrTellsRow.domain false) (Rows.ctrTellsSpec.post enc Try.prog Try.f3 false true false false) := by
  refine returnsInHanded_of_change (C := Try.checked) own started (by kernel_rfl) Try.func3
    (ChangeSpec.witness6 (enc := enc) (C := Try.checked) false ⟨#[], #[.slice none 0 0, .slice none 0 0, .slice none 0 0, .string ByteArray.empty, .int .i64 0], []⟩ 8 (by kernel_rfl) (by kernel_rfl) (by kernel_rfl) (by kernel_rfl)) ?_
  intro W base args ds gs before hval0 hW hcnd _
  have hval : ∀ (j : Nat) t v, Try.f3.params[j]? = some t → args[j]? = some v → Value.okWide Try.prog W .any base t v := hval0
  have hW' := hW
  obtain ⟨p, q, hA0, hV, rfl, hfz, hnd⟩ := hW
  have hA : DataW.TrodAll enc Try.prog W 0 (fun _ => true) true Try.f3.params.toList args.toList ds p := hA0
  rw [Try.params3] at hA hval
  obtain ⟨v0, vs0, d0, ds0, p0, q0, hargs, rfl, rfl, h0, r0⟩ := trodAll_cons hA
  obtain ⟨v1, vs1, d1, ds1, p1, q1, rfl, rfl, rfl, h1, r1⟩ := trodAll_cons r0
  obtain ⟨v2, vs2, d2, ds2, p2, q2, rfl, rfl, rfl, h2, r2⟩ := trodAll_cons r1
  obtain ⟨v3, vs3, d3, ds3, p3, q3, rfl, rfl, rfl, h3, r3⟩ := trodAll_cons r2
  obtain ⟨v4, vs4, d4, ds4, p4, q4, rfl, rfl, rfl, h4, r4⟩ := trodAll_cons r3
  obtain ⟨rfl, rfl, rfl⟩ := trodAll_nil r4
  obtain rfl : args = #[v0, v1, v2, v3, v4] := by cases args; simp_all
  obtain ⟨rfl, rfl⟩ := trodVars_none hV
  have k0 := h0
  have lt0 : ∀ x ∈ p0, x.block < W.heap.size := by obtain ⟨m, hm⟩ := k0; exact DataW.trod_lt m _ _ _ hm
  obtain ⟨a0, cap0, l0, rfl, w0, g0⟩ := OpenC.open_ctrs (hval 0 22 v0 rfl rfl) h0
  have k1 := h1
  have lt1 : ∀ x ∈ p1, x.block < W.heap.size := by obtain ⟨m, hm⟩ := k1; exact DataW.trod_lt m _ _ _ hm
  obtain ⟨a1, cap1, l1, rfl, w1, g1⟩ := OpenC.open_ctrs (hval 1 22 v1 rfl rfl) h1
  have k2 := h2
  have lt2 : ∀ x ∈ p2, x.block < W.heap.size := by obtain ⟨m, hm⟩ := k2; exact DataW.trod_lt m _ _ _ hm
  obtain ⟨a2, cap2, l2, rfl, w2, g2⟩ := OpenC.open_ctrs (hval 2 22 v2 rfl rfl) h2
  obtain ⟨a3, rfl, rfl, rfl, w3⟩ := Go.ChangeMaps.open_string Try.underlying9 (hval 3 9 v3 rfl rfl) h3
  obtain ⟨a4, rfl, rfl, rfl, w4⟩ := open_int Try.underlying3 (hval 4 3 v4 rfl rfl) h4
  clear hA0 hval0
  refine (walk a0 cap0 l0 a1 cap1 l1 a2 cap2 l2 a3 a4 W w0 g0 w1 g1 w2 g2 w3 w4).mono fun e W' ⟨he, bel⟩ => ?_
  subst he
  exact ⟨_, rfl, _, _, _, [], _, [], hW', trodAll_mk1 (shut_bool Try.underlying4 _), (trodAll_cons_mk (Below.trod laidOut (by kernel_rfl) (of_decide_eq_true (by kernel_rfl)) k0 bel lt0) (trodAll_cons_mk (Below.trod laidOut (by kernel_rfl) (of_decide_eq_true (by kernel_rfl)) k1 bel lt1) (trodAll_cons_mk (Below.trod laidOut (by kernel_rfl) (of_decide_eq_true (by kernel_rfl)) k2 bel lt2) (trodAll_cons_mk (Go.ChangeMaps.shut_string Try.underlying9 w3) (trodAll_cons_mk (shut_int Try.underlying3 w4) trodAll_mk0))))), rfl, bel.frame _, fun h => by cases h⟩

theorem over : Rows.ctrTellsRow.holds Try.pinned (OpenSpec.ofChange Rows.ctrTellsSpec) :=
  OpenClaim.holds_of_wide 3 Try.f3 rfl rfl rfl rfl rfl rfl rfl ⟨rfl, rfl, rfl, rfl, rfl⟩ rfl rfl rfl rfl rfl (by kernel_rfl) Try.func3 (by kernel_rfl)
    (of_decide_eq_true (by kernel_rfl)) (by unfold Func.isWrapper; first | (rw [if_pos (by decide +kernel)]; kernel_rfl) | (rw [if_neg (by decide +kernel)]; exact ⟨rfl, rfl⟩))
    (fun os started H enc _ => lifted os started H enc)

theorem proved : Rows.CtrTellsSaid := over
end Go.Proofs.Ytommbfkndcaghaa.ctrTells
