/- CtrNone returns true for every input: more by nothing changes nothing; nothing merged with counts, from nothing, is these; counts that may not be are told as nothing. No condition. -/
import Derived.Test.YtommbfkndcaghaaCtrA
import Derived.ShutString
import Derived.ChangeOld
namespace Go.Proofs.Ytommbfkndcaghaa.ctrNone
open Go Go.ChangeShapes Go.WideShapes Go.ChangeAt Go.RowKit Byt OpsM Rise CtrM RowS CtrW CtrS CtrL CtrX CtrA

set_option maxRecDepth 100000 in
set_option maxHeartbeats 8000000 in
theorem out (a0 : Option Addr) (cap0 : Nat) (l0 : List Cn) (a1 : ByteArray) (w : World) (w0 : SlR E w a0 cap0 l0) (g0 : ∀ x ∈ l0, OpenC.Good x) (b0 : Bool) (x0 : fewB l0 = b0) (hk : a1.size ≤ maxLen) (h : b0 = false ∨ (b0 = true ∧ 100 < a1.size)) :
    Calls Try.prog 7 #[.slice a0 l0.length cap0, .string a1] w fun e w' => e = .returned (.bool true) ∧ Below w.heap.size w w' := by
  unfold maxLen at hk
  rcases h with rfl | ⟨rfl, hk2⟩
  all_goals
    go_enter Try.func7, Try.ntmps7
    go_wp2_with fail
    refine (awake _).mono ?_
    rintro e W1 ⟨rfl, k1⟩
    have w0' := w0.below k1
    have kb := k1
    clear w0 k1
    have w0 := w0'
    clear w0'
    go_wp2_with fail
    have hc := few_ret a0 cap0 l0 _ w0 (max_of g0)
    rw [x0] at hc
    refine hc.mono ?_
    clear hc
    rintro e w' ⟨rfl, rfl⟩
    go_wp2_with fail
    go_ret
    exact ⟨by first | rfl | simp, kb⟩

set_option maxRecDepth 100000 in
set_option maxHeartbeats 8000000 in
theorem no (a0 : Option Addr) (cap0 : Nat) (l0 : List Cn) (a1 : ByteArray) (w : World) (w0 : SlR E w a0 cap0 l0) (g0 : ∀ x ∈ l0, OpenC.Good x) (x0 : fewB l0 = true) (hk : a1.size ≤ 100) (m0 : mayC l0 = false) :
    Calls Try.prog 7 #[.slice a0 l0.length cap0, .string a1] w fun e w' => e = .returned (.bool true) ∧ Below w.heap.size w w' := by
  have y0 := few_len x0
  have f0 := few_fits x0 (inl_of g0)
  have il := inl_of g0
  have hk2 : a1.size ≤ 1099511627776 := by omega
  have X0 := aside x0
  have M0 := aside m0
  have e1 := aside (inc_no (k := a1) 1 (.inl m0))
  have e2 := aside (merge_no (base := []) (a := l0) (b := []) (.inr (.inl m0)))
  have e3 := aside (merge_no (base := l0) (a := []) (b := []) (.inl m0))
  have z1 : In64 1 := by unfold In64; omega
  clear x0 m0 il
  go_enter Try.func7, Try.ntmps7
  go_wp2_with fail
  refine (awake _).mono ?_
  rintro e W1 ⟨rfl, k1⟩
  have w0' := w0.below k1
  have kb := k1
  clear w0 k1
  have w0 := w0'
  clear w0'
  go_wp2_with fail
  have hc := few_ret a0 cap0 l0 _ w0 (max_of g0)
  rw [X0.out] at hc
  refine hc.mono ?_
  clear hc
  rintro e w' ⟨rfl, rfl⟩
  go_wp2_with fail
  have hc := CtrD.may_ret a0 cap0 l0 _ w0 f0 (by omega)
  rw [M0.out] at hc
  refine hc.mono ?_
  clear hc
  rintro e W2 ⟨rfl, k2⟩
  have w0' := w0.below k2
  have kb' := kb.trans (k2.mono kb.size)
  clear w0 kb k2
  have w0 := w0'
  have kb := kb'
  clear w0' kb'
  go_wp2_with fail
  have hc := CtrD.inc_ret a0 cap0 l0 a1 1 _ w0 f0 (by omega) hk2 z1
  rw [e1.out] at hc
  refine hc.mono ?_
  clear hc
  rintro e W3 ⟨AP, CP, rfl, SP, k3⟩
  have w0' := w0.below k3
  have kb' := kb.trans (k3.mono kb.size)
  clear w0 kb k3
  have w0 := w0'
  have kb := kb'
  clear w0' kb'
  clear SP
  go_wp2_with fail
  have hc := CtrD.merge_ret none 0 [] a0 cap0 l0 none 0 [] _ (SlR.nil E _) w0 (SlR.nil E _) nil_fits f0 nil_fits (by simp) (by omega) (by simp)
  rw [e2.out] at hc
  refine hc.mono ?_
  clear hc
  rintro e W4 ⟨AP, CP, rfl, SP, k4⟩
  have w0' := w0.below k4
  have kb' := kb.trans (k4.mono kb.size)
  clear w0 kb k4
  have w0 := w0'
  have kb := kb'
  clear w0' kb'
  clear SP
  go_wp2_with fail
  have hc := CtrD.merge_ret a0 cap0 l0 none 0 [] none 0 [] _ w0 (SlR.nil E _) (SlR.nil E _) f0 nil_fits nil_fits (by omega) (by simp) (by simp)
  rw [e3.out] at hc
  refine hc.mono ?_
  clear hc
  rintro e W5 ⟨AP, CP, rfl, SP, k5⟩
  have w0' := w0.below k5
  have kb' := kb.trans (k5.mono kb.size)
  clear w0 kb k5
  have w0 := w0'
  have kb := kb'
  clear w0' kb'
  clear SP
  go_wp2_with fail
  go_ret
  exact ⟨by first | rfl | simp, kb⟩

set_option maxRecDepth 100000 in
set_option maxHeartbeats 8000000 in
theorem yes (a0 : Option Addr) (cap0 : Nat) (l0 : List Cn) (a1 : ByteArray) (w : World) (w0 : SlR E w a0 cap0 l0) (g0 : ∀ x ∈ l0, OpenC.Good x) (x0 : fewB l0 = true) (hk : a1.size ≤ 100) (m0 : mayC l0 = true) (I : List Cn) (hI : incC l0 a1 0 = I) (b : Bool) (hb : sameB I l0 = b) (h : b = true ∨ (b = false ∧ I = [])) :
    Calls Try.prog 7 #[.slice a0 l0.length cap0, .string a1] w fun e w' => e = .returned (.bool true) ∧ Below w.heap.size w w' := by
  have y0 := few_len x0
  have f0 := few_fits x0 (inl_of g0)
  have il := inl_of g0
  have hk2 : a1.size ≤ 1099511627776 := by omega
  have X0 := aside x0
  have M0 := aside m0
  have e2 := aside (merge_nil_left m0 il)
  have e3 := aside (merge_nil_right m0 il)
  have z0 : In64 0 := by unfold In64; omega
  have HI := aside hI
  have HB := aside hb
  clear x0 m0 il hI hb
  go_enter Try.func7, Try.ntmps7
  go_wp2_with fail
  refine (awake _).mono ?_
  rintro e W1 ⟨rfl, k1⟩
  have w0' := w0.below k1
  have kb := k1
  clear w0 k1
  have w0 := w0'
  clear w0'
  go_wp2_with fail
  have hc := few_ret a0 cap0 l0 _ w0 (max_of g0)
  rw [X0.out] at hc
  refine hc.mono ?_
  clear hc
  rintro e w' ⟨rfl, rfl⟩
  go_wp2_with fail
  have hc := CtrD.may_ret a0 cap0 l0 _ w0 f0 (by omega)
  rw [M0.out] at hc
  refine hc.mono ?_
  clear hc
  rintro e W2 ⟨rfl, k2⟩
  have w0' := w0.below k2
  have kb' := kb.trans (k2.mono kb.size)
  clear w0 kb k2
  have w0 := w0'
  have kb := kb'
  clear w0' kb'
  go_wp2_with fail
  have hc := CtrD.merge_ret none 0 [] a0 cap0 l0 none 0 [] _ (SlR.nil E _) w0 (SlR.nil E _) nil_fits f0 nil_fits (by simp) (by omega) (by simp)
  rw [e2.out] at hc
  refine hc.mono ?_
  clear hc
  rintro e W3 ⟨AP, CP, rfl, SP, k3⟩
  have w0' := w0.below k3
  have kb' := kb.trans (k3.mono kb.size)
  clear w0 kb k3
  have w0 := w0'
  have kb := kb'
  clear w0' kb'
  go_wp2_with fail
  have hc := same_ret AP CP l0 a0 cap0 l0 _ SP w0
  rw [sameB_self] at hc
  refine hc.mono ?_
  clear hc
  rintro e W4 ⟨rfl, k4⟩
  clear SP
  have w0' := w0.below k4
  have kb' := kb.trans (k4.mono kb.size)
  clear w0 kb k4
  have w0 := w0'
  have kb := kb'
  clear w0' kb'
  go_wp2_with fail
  have hc := CtrD.merge_ret none 0 [] none 0 [] a0 cap0 l0 _ (SlR.nil E _) (SlR.nil E _) w0 nil_fits nil_fits f0 (by simp) (by simp) (by omega)
  rw [e3.out] at hc
  refine hc.mono ?_
  clear hc
  rintro e W5 ⟨AP, CP, rfl, SP, k5⟩
  have w0' := w0.below k5
  have kb' := kb.trans (k5.mono kb.size)
  clear w0 kb k5
  have w0 := w0'
  have kb := kb'
  clear w0' kb'
  go_wp2_with fail
  have hc := same_ret AP CP l0 a0 cap0 l0 _ SP w0
  rw [sameB_self] at hc
  refine hc.mono ?_
  clear hc
  rintro e W6 ⟨rfl, k6⟩
  clear SP
  have w0' := w0.below k6
  have kb' := kb.trans (k6.mono kb.size)
  clear w0 kb k6
  have w0 := w0'
  have kb := kb'
  clear w0' kb'
  go_wp2_with fail
  have hc := CtrD.inc_ret a0 cap0 l0 a1 0 _ w0 f0 (by omega) hk2 z0
  rw [HI.out] at hc
  refine hc.mono ?_
  clear hc
  rintro e W7 ⟨AP, CP, rfl, SP, k7⟩
  have w0' := w0.below k7
  have kb' := kb.trans (k7.mono kb.size)
  clear w0 kb k7
  have w0 := w0'
  have kb := kb'
  clear w0' kb'
  go_wp2_with fail
  have hc := same_ret AP CP I a0 cap0 l0 _ SP w0
  rw [HB.out] at hc
  refine hc.mono ?_
  clear hc
  rintro e W8 ⟨rfl, k8⟩
  clear SP
  have w0' := w0.below k8
  have kb' := kb.trans (k8.mono kb.size)
  clear w0 kb k8
  have w0 := w0'
  have kb := kb'
  clear w0' kb'
  clear HI HB
  rcases h with rfl | ⟨rfl, rfl⟩
  all_goals
    go_wp2_with fail
    go_ret
    exact ⟨by first | rfl | simp, kb⟩

theorem walk (a0 : Option Addr) (cap0 : Nat) (l0 : List Cn) (a1 : ByteArray) (w : World) (w0 : SlR E w a0 cap0 l0) (g0 : ∀ x ∈ l0, OpenC.Good x) (w1 : a1.size ≤ maxLen) :
    Calls Try.prog 7 #[.slice a0 l0.length cap0, .string a1] w fun e w' => e = .returned (.bool true) ∧ Below w.heap.size w w' := by
  cases x0 : fewB l0 with
  | false => exact out a0 cap0 l0 a1 w w0 g0 _ x0 w1 (.inl rfl)
  | true =>
    by_cases hk : 100 < a1.size
    · exact out a0 cap0 l0 a1 w w0 g0 _ x0 w1 (.inr ⟨rfl, hk⟩)
    · cases m0 : mayC l0 with
      | false => exact no a0 cap0 l0 a1 w w0 g0 x0 (by omega) m0
      | true =>
        refine yes a0 cap0 l0 a1 w w0 g0 x0 (by omega) m0 _ rfl _ rfl ?_
        cases hq : keyL (bytesL a1) with
        | true => exact .inl (same_yes (inc_zero m0 hq (inl_of g0)))
        | false =>
          have e := inc_no (l := l0) 0 (.inr hq)
          rw [e]
          cases hs : sameB [] l0 with
          | true => exact .inl rfl
          | false => exact .inr ⟨rfl, rfl⟩

theorem own : ownKnob Try.prog.godebug = none := by kernel_rfl
theorem laidOut : laidOutB Try.prog = true := by kernel_rfl
set_option linter.unusedVariables false in
set_option maxRecDepth 100000 in
theorem lifted (os : Os) (started : os.Started) (H : Type) (enc : TypeId × Value → H) :
    ReturnsInHanded {} Try.checked os 7 .any (Rows.ctrNoneSpec.pre6 enc Try.prog Try.f7 Rows.ctrNoneRow.domain false) (Rows.ctrNoneSpec.post enc Try.prog Try.f7 false true false false) := by
  refine returnsInHanded_of_change (C := Try.checked) own started (by kernel_rfl) Try.func7
    (ChangeSpec.witness6 (enc := enc) (C := Try.checked) false ⟨#[], #[.slice none 0 0, .string ByteArray.empty], []⟩ 8 (by kernel_rfl) (by kernel_rfl) (by kernel_rfl) (by kernel_rfl)) ?_
  intro W base args ds gs before hval0 hW hcnd _
  have hval : ∀ (j : Nat) t v, Try.f7.params[j]? = some t → args[j]? = some v → Value.okWide Try.prog W .any base t v := hval0
  have hW' := hW
  obtain ⟨p, q, hA0, hV, rfl, hfz, hnd⟩ := hW
  have hA : DataW.TrodAll enc Try.prog W 0 (fun _ => true) true Try.f7.params.toList args.toList ds p := hA0
  rw [Try.params7] at hA hval
  obtain ⟨v0, vs0, d0, ds0, p0, q0, hargs, rfl, rfl, h0, r0⟩ := trodAll_cons hA
  obtain ⟨v1, vs1, d1, ds1, p1, q1, rfl, rfl, rfl, h1, r1⟩ := trodAll_cons r0
  obtain ⟨rfl, rfl, rfl⟩ := trodAll_nil r1
  obtain rfl : args = #[v0, v1] := by cases args; simp_all
  obtain ⟨rfl, rfl⟩ := trodVars_none hV
  have k0 := h0
  have lt0 : ∀ x ∈ p0, x.block < W.heap.size := by obtain ⟨m, hm⟩ := k0; exact DataW.trod_lt m _ _ _ hm
  obtain ⟨a0, cap0, l0, rfl, w0, g0⟩ := OpenC.open_ctrs (hval 0 22 v0 rfl rfl) h0
  obtain ⟨a1, rfl, rfl, rfl, w1⟩ := Go.ChangeMaps.open_string Try.underlying9 (hval 1 9 v1 rfl rfl) h1
  clear hA0 hval0
  refine (walk a0 cap0 l0 a1 W w0 g0 w1).mono fun e W' ⟨he, bel⟩ => ?_
  subst he
  exact ⟨_, rfl, _, _, _, [], _, [], hW', trodAll_mk1 (shut_bool Try.underlying4 _), (trodAll_cons_mk (Below.trod laidOut (by kernel_rfl) (of_decide_eq_true (by kernel_rfl)) k0 bel lt0) (trodAll_cons_mk (Go.ChangeMaps.shut_string Try.underlying9 w1) trodAll_mk0)), rfl, bel.frame _, fun h => by cases h⟩

theorem over : Rows.ctrNoneRow.holds Try.pinned (OpenSpec.ofChange Rows.ctrNoneSpec) :=
  OpenClaim.holds_of_wide 7 Try.f7 rfl rfl rfl rfl rfl rfl rfl ⟨rfl, rfl, rfl, rfl, rfl⟩ rfl rfl rfl rfl rfl (by kernel_rfl) Try.func7 (by kernel_rfl)
    (of_decide_eq_true (by kernel_rfl)) (by unfold Func.isWrapper; first | (rw [if_pos (by decide +kernel)]; kernel_rfl) | (rw [if_neg (by decide +kernel)]; exact ⟨rfl, rfl⟩))
    (fun os started H enc _ => lifted os started H enc)

theorem proved : Rows.CtrNoneSaid := over
end Go.Proofs.Ytommbfkndcaghaa.ctrNone
