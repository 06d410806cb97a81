/- CtrIncs returns true for every input: what a key counts more it counts then, and all others as ahead; counted back it is as it was. No condition. -/
import Derived.Test.YtommbfkndcaghaaCtrA
import Derived.ShutString
import Derived.ChangeOld
namespace Go.Proofs.Ytommbfkndcaghaa.ctrIncs
open Go Go.ChangeShapes Go.WideShapes Go.ChangeAt Go.RowKit Byt OpsM Rise CtrM RowS CtrW CtrS CtrL CtrX CtrA

set_option maxRecDepth 100000 in
set_option maxHeartbeats 8000000 in
theorem out (a0 : Option Addr) (cap0 : Nat) (l0 : List Cn) (a1 : ByteArray) (a2 : ByteArray) (a3 : Int) (w : World) (w0 : SlR E w a0 cap0 l0) (g0 : ∀ x ∈ l0, OpenC.Good x) (b0 kk : Bool) (x0 : fewB l0 = b0) (xk : keyL (bytesL a1) = kk) (hk : a1.size ≤ maxLen) (h : b0 = false ∨ (b0 = true ∧ kk = false)) :
    Calls Try.prog 4 #[.slice a0 l0.length cap0, .string a1, .string a2, .int .i64 a3] w fun e w' => e = .returned (.bool true) ∧ Below w.heap.size w w' := by
  have KK := aside xk
  clear xk
  rcases h with rfl | ⟨rfl, rfl⟩
  all_goals
    go_enter Try.func4, Try.ntmps4
    go_wp2_with fail
    refine (awake _).mono ?_
    rintro e W1 ⟨rfl, k1⟩
    have w0' := w0.below k1
    have kb := k1
    clear w0 k1
    have w0 := w0'
    clear w0'
    go_wp2_with fail
    have hc := few_ret a0 cap0 l0 _ w0 (max_of g0)
    rw [x0] at hc
    refine hc.mono ?_
    clear hc
    rintro e w' ⟨rfl, rfl⟩
    go_wp2_with fail
    have hc := OpsR.key_any a1 hk
    simp only [KK.out] at hc
    refine (hc _).mono ?_
    clear hc
    rintro e w' ⟨rfl, rfl⟩
    go_wp2_with fail
    go_ret
    exact ⟨by first | rfl | simp, kb⟩

set_option maxRecDepth 100000 in
set_option maxHeartbeats 8000000 in
theorem outm (a0 : Option Addr) (cap0 : Nat) (l0 : List Cn) (a1 : ByteArray) (a2 : ByteArray) (a3 : Int) (w : World) (w0 : SlR E w a0 cap0 l0) (g0 : ∀ x ∈ l0, OpenC.Good x) (x0 : fewB l0 = true) (xk : keyL (bytesL a1) = true) (hk : a1.size ≤ maxLen) (m0 : mayC l0 = false) :
    Calls Try.prog 4 #[.slice a0 l0.length cap0, .string a1, .string a2, .int .i64 a3] w fun e w' => e = .returned (.bool true) ∧ Below w.heap.size w w' := by
  have y0 := few_len x0
  have f0 := few_fits x0 (inl_of g0)
  have il := inl_of g0
  have X0 := aside x0
  have KK := aside xk
  have M0 := aside m0
  clear x0 xk m0 il
  go_enter Try.func4, Try.ntmps4
  go_wp2_with fail
  refine (awake _).mono ?_
  rintro e W1 ⟨rfl, k1⟩
  have w0' := w0.below k1
  have kb := k1
  clear w0 k1
  have w0 := w0'
  clear w0'
  go_wp2_with fail
  have hc := few_ret a0 cap0 l0 _ w0 (max_of g0)
  rw [X0.out] at hc
  refine hc.mono ?_
  clear hc
  rintro e w' ⟨rfl, rfl⟩
  go_wp2_with fail
  have hc := OpsR.key_any a1 hk
  simp only [KK.out] at hc
  refine (hc _).mono ?_
  clear hc
  rintro e w' ⟨rfl, rfl⟩
  go_wp2_with fail
  have hc := CtrD.may_ret a0 cap0 l0 _ w0 f0 (by omega)
  rw [M0.out] at hc
  refine hc.mono ?_
  clear hc
  rintro e W2 ⟨rfl, k2⟩
  have w0' := w0.below k2
  have kb' := kb.trans (k2.mono kb.size)
  clear w0 kb k2
  have w0 := w0'
  have kb := kb'
  clear w0' kb'
  go_wp2_with fail
  go_ret
  exact ⟨by first | rfl | simp, kb⟩

set_option maxRecDepth 100000 in
set_option maxHeartbeats 8000000 in
theorem outt (a0 : Option Addr) (cap0 : Nat) (l0 : List Cn) (a1 : ByteArray) (a2 : ByteArray) (a3 : Int) (w : World) (w0 : SlR E w a0 cap0 l0) (g0 : ∀ x ∈ l0, OpenC.Good x) (x0 : fewB l0 = true) (xk : keyL (bytesL a1) = true) (hk : a1.size ≤ maxLen) (m0 : mayC l0 = true) (hk2 : a2.size ≤ 9223372036854775807) (h : 100 < a2.size ∨ (a2.size ≤ 100 ∧ a3 < -1099511627776) ∨ (a2.size ≤ 100 ∧ -1099511627776 ≤ a3 ∧ 1099511627776 < a3)) :
    Calls Try.prog 4 #[.slice a0 l0.length cap0, .string a1, .string a2, .int .i64 a3] w fun e w' => e = .returned (.bool true) ∧ Below w.heap.size w w' := by
  have y0 := few_len x0
  have f0 := few_fits x0 (inl_of g0)
  have il := inl_of g0
  have X0 := aside x0
  have KK := aside xk
  have M0 := aside m0
  clear x0 xk m0 il
  rcases h with h | ⟨h, h2⟩ | ⟨h, h2, h3⟩
  all_goals
    go_enter Try.func4, Try.ntmps4
    go_wp2_with fail
    refine (awake _).mono ?_
    rintro e W1 ⟨rfl, k1⟩
    have w0' := w0.below k1
    have kb := k1
    clear w0 k1
    have w0 := w0'
    clear w0'
    go_wp2_with fail
    have hc := few_ret a0 cap0 l0 _ w0 (max_of g0)
    rw [X0.out] at hc
    refine hc.mono ?_
    clear hc
    rintro e w' ⟨rfl, rfl⟩
    go_wp2_with fail
    have hc := OpsR.key_any a1 hk
    simp only [KK.out] at hc
    refine (hc _).mono ?_
    clear hc
    rintro e w' ⟨rfl, rfl⟩
    go_wp2_with fail
    have hc := CtrD.may_ret a0 cap0 l0 _ w0 f0 (by omega)
    rw [M0.out] at hc
    refine hc.mono ?_
    clear hc
    rintro e W2 ⟨rfl, k2⟩
    have w0' := w0.below k2
    have kb' := kb.trans (k2.mono kb.size)
    clear w0 kb k2
    have w0 := w0'
    have kb := kb'
    clear w0' kb'
    go_wp2_with fail
    go_ret
    exact ⟨by first | rfl | simp, kb⟩

set_option maxRecDepth 100000 in
set_option maxHeartbeats 8000000 in
theorem within (a0 : Option Addr) (cap0 : Nat) (l0 : List Cn) (a1 : ByteArray) (a2 : ByteArray) (a3 : Int) (w : World) (w0 : SlR E w a0 cap0 l0) (g0 : ∀ x ∈ l0, OpenC.Good x) (x0 : fewB l0 = true) (xk : keyL (bytesL a1) = true) (hk : a1.size ≤ maxLen) (m0 : mayC l0 = true) (hk2 : a2.size ≤ 100) (n1 : -1099511627776 ≤ a3) (n2 : a3 ≤ 1099511627776) :
    Calls Try.prog 4 #[.slice a0 l0.length cap0, .string a1, .string a2, .int .i64 a3] w fun e w' => e = .returned (.bool true) ∧ Below w.heap.size w w' := by
  have y0 := few_len x0
  have f0 := few_fits x0 (inl_of g0)
  have il := inl_of g0
  have X0 := aside x0
  have KK := aside xk
  have M0 := aside m0
  have hks : a1.size ≤ 1099511627776 := by have := keyL_len xk; have := bytesL_length a1; omega
  have hIl := inc_len l0 a1 a3
  have hIf := inc_fits a1 a3 il
  have hIm := inc_may a3 m0 xk
  have hIg := inc_get a3 m0 xk a1
  have hIo := inc_get a3 m0 xk a2
  have hb := inc_back a3 m0 xk il
  rw [if_pos rfl] at hIg
  obtain ⟨I, hI⟩ : ∃ l, incC l0 a1 a3 = l := ⟨_, rfl⟩
  rw [hI] at hIl hIf hIm hIg hIo hb
  obtain ⟨u, hu⟩ : ∃ u, getC l0 a1 = u := ⟨_, rfl⟩
  rw [hu] at hIg hIo
  obtain ⟨v, hv⟩ : ∃ v, w64 (u + a3) = v := ⟨_, rfl⟩
  rw [hv] at hIg hIo
  have Z1 : Hid (IntKind.i64.wrap (u + a3) = v) := hv
  obtain ⟨r, hr⟩ : ∃ r, getC l0 a2 = r := ⟨_, rfl⟩
  rw [hr] at hIo
  have z3 : In64 a3 := by unfold In64; omega
  have z4 : In64 (-a3) := by unfold In64; omega
  have Z3 := aside z3
  have Z4 := aside z4
  have HI := aside hI
  have HU := aside hu
  have HR := aside hr
  have HM := aside hIm
  have HG := aside hIg
  have HO := aside hIo
  have HBk := aside hb
  clear x0 xk m0 il hI hu hv hr hIm hIg hIo hb z3 z4
  go_enter Try.func4, Try.ntmps4
  go_wp2_with fail
  refine (awake _).mono ?_
  rintro e W1 ⟨rfl, k1⟩
  have w0' := w0.below k1
  have kb := k1
  clear w0 k1
  have w0 := w0'
  clear w0'
  go_wp2_with fail
  have hc := few_ret a0 cap0 l0 _ w0 (max_of g0)
  rw [X0.out] at hc
  refine hc.mono ?_
  clear hc
  rintro e w' ⟨rfl, rfl⟩
  go_wp2_with fail
  have hc := OpsR.key_any a1 hk
  simp only [KK.out] at hc
  refine (hc _).mono ?_
  clear hc
  rintro e w' ⟨rfl, rfl⟩
  go_wp2_with fail
  have hc := CtrD.may_ret a0 cap0 l0 _ w0 f0 (by omega)
  rw [M0.out] at hc
  refine hc.mono ?_
  clear hc
  rintro e W2 ⟨rfl, k2⟩
  have w0' := w0.below k2
  have kb' := kb.trans (k2.mono kb.size)
  clear w0 kb k2
  have w0 := w0'
  have kb := kb'
  clear w0' kb'
  go_wp2_with fail
  have hc := CtrD.inc_ret a0 cap0 l0 a1 a3 _ w0 f0 (by omega) hks Z3.out
  rw [HI.out] at hc
  refine hc.mono ?_
  clear hc
  rintro e W3 ⟨AI, CI, rfl, SI, k3⟩
  have w0' := w0.below k3
  have kb' := kb.trans (k3.mono kb.size)
  clear w0 kb k3
  have w0 := w0'
  have kb := kb'
  clear w0' kb'
  go_wp2_with fail
  have hc := CtrD.may_ret AI CI I _ SI hIf (by omega)
  rw [HM.out] at hc
  refine hc.mono ?_
  clear hc
  rintro e W4 ⟨rfl, k4⟩
  have w0' := w0.below k4
  have SI' := SI.below k4
  have kb' := kb.trans (k4.mono kb.size)
  clear w0 SI kb k4
  have w0 := w0'
  have SI := SI'
  have kb := kb'
  clear w0' SI' kb'
  go_wp2_with fail
  have hc := CtrD.get_ret AI CI I a1 _ SI (by omega)
  rw [HG.out] at hc
  refine hc.mono ?_
  clear hc
  rintro e W5 ⟨rfl, k5⟩
  have w0' := w0.below k5
  have SI' := SI.below k5
  have kb' := kb.trans (k5.mono kb.size)
  clear w0 SI kb k5
  have w0 := w0'
  have SI := SI'
  have kb := kb'
  clear w0' SI' kb'
  go_wp2_with fail
  have hc := CtrD.get_ret a0 cap0 l0 a1 _ w0 (by omega)
  rw [HU.out] at hc
  refine hc.mono ?_
  clear hc
  rintro e W6 ⟨rfl, k6⟩
  have w0' := w0.below k6
  have SI' := SI.below k6
  have kb' := kb.trans (k6.mono kb.size)
  clear w0 SI kb k6
  have w0 := w0'
  have SI := SI'
  have kb := kb'
  clear w0' SI' kb'
  have z1 := Z1.out
  by_cases ho : a2 = a1
  · have t1 : a2.toList = a1.toList := by rw [ho]
    clear ho
    go_wp2_with fail
    have hc := CtrD.inc_ret AI CI I a1 (-a3) _ SI hIf (by omega) hks Z4.out
    rw [HBk.out] at hc
    refine hc.mono ?_
    clear hc
    rintro e W7 ⟨AJ, CJ, rfl, SJ, k7⟩
    have w0' := w0.below k7
    have SI' := SI.below k7
    have kb' := kb.trans (k7.mono kb.size)
    clear w0 SI kb k7
    have w0 := w0'
    have SI := SI'
    have kb := kb'
    clear w0' SI' kb'
    go_wp2_with fail
    have hc := same_ret AJ CJ l0 a0 cap0 l0 _ SJ w0
    rw [sameB_self] at hc
    refine hc.mono ?_
    clear hc
    rintro e W8 ⟨rfl, k8⟩
    clear SJ
    have w0' := w0.below k8
    have SI' := SI.below k8
    have kb' := kb.trans (k8.mono kb.size)
    clear w0 SI kb k8
    have w0 := w0'
    have SI := SI'
    have kb := kb'
    clear w0' SI' kb'
    go_wp2_with fail
    go_ret
    exact ⟨by first | rfl | simp, kb⟩
  · have t1 : ¬ a2.toList = a1.toList := fun e => ho (Rise.toList_inj e)
    have HO2 := HO.out
    rw [if_neg ho] at HO2
    have HO3 := aside HO2
    clear ho HO2
    go_wp2_with fail
    have hc := CtrD.get_ret AI CI I a2 _ SI (by omega)
    rw [HO3.out] at hc
    refine hc.mono ?_
    clear hc
    rintro e W7 ⟨rfl, k7⟩
    have w0' := w0.below k7
    have SI' := SI.below k7
    have kb' := kb.trans (k7.mono kb.size)
    clear w0 SI kb k7
    have w0 := w0'
    have SI := SI'
    have kb := kb'
    clear w0' SI' kb'
    go_wp2_with fail
    have hc := CtrD.get_ret a0 cap0 l0 a2 _ w0 (by omega)
    rw [HR.out] at hc
    refine hc.mono ?_
    clear hc
    rintro e W8 ⟨rfl, k8⟩
    have w0' := w0.below k8
    have SI' := SI.below k8
    have kb' := kb.trans (k8.mono kb.size)
    clear w0 SI kb k8
    have w0 := w0'
    have SI := SI'
    have kb := kb'
    clear w0' SI' kb'
    go_wp2_with fail
    have hc := CtrD.inc_ret AI CI I a1 (-a3) _ SI hIf (by omega) hks Z4.out
    rw [HBk.out] at hc
    refine hc.mono ?_
    clear hc
    rintro e W9 ⟨AJ, CJ, rfl, SJ, k9⟩
    have w0' := w0.below k9
    have SI' := SI.below k9
    have kb' := kb.trans (k9.mono kb.size)
    clear w0 SI kb k9
    have w0 := w0'
    have SI := SI'
    have kb := kb'
    clear w0' SI' kb'
    go_wp2_with fail
    have hc := same_ret AJ CJ l0 a0 cap0 l0 _ SJ w0
    rw [sameB_self] at hc
    refine hc.mono ?_
    clear hc
    rintro e W10 ⟨rfl, k10⟩
    clear SJ
    have w0' := w0.below k10
    have SI' := SI.below k10
    have kb' := kb.trans (k10.mono kb.size)
    clear w0 SI kb k10
    have w0 := w0'
    have SI := SI'
    have kb := kb'
    clear w0' SI' kb'
    go_wp2_with fail
    go_ret
    exact ⟨by first | rfl | simp, kb⟩

theorem walk (a0 : Option Addr) (cap0 : Nat) (l0 : List Cn) (a1 : ByteArray) (a2 : ByteArray) (a3 : Int) (w : World) (w0 : SlR E w a0 cap0 l0) (g0 : ∀ x ∈ l0, OpenC.Good x) (w1 : a1.size ≤ maxLen) (w2 : a2.size ≤ maxLen) (_w3 : (Lit.int .i64 a3).wf = true) :
    Calls Try.prog 4 #[.slice a0 l0.length cap0, .string a1, .string a2, .int .i64 a3] w fun e w' => e = .returned (.bool true) ∧ Below w.heap.size w w' := by
  have hk2 : a2.size ≤ 9223372036854775807 := by unfold maxLen at w2; omega
  cases x0 : fewB l0 with
  | false => exact out a0 cap0 l0 a1 a2 a3 w w0 g0 _ _ x0 rfl w1 (.inl rfl)
  | true =>
    cases xk : keyL (bytesL a1) with
    | false => exact out a0 cap0 l0 a1 a2 a3 w w0 g0 _ _ x0 xk w1 (.inr ⟨rfl, rfl⟩)
    | true =>
      cases m0 : mayC l0 with
      | false => exact outm a0 cap0 l0 a1 a2 a3 w w0 g0 x0 xk w1 m0
      | true =>
        by_cases h : 100 < a2.size ∨ (a2.size ≤ 100 ∧ a3 < -1099511627776) ∨ (a2.size ≤ 100 ∧ -1099511627776 ≤ a3 ∧ 1099511627776 < a3)
        · exact outt a0 cap0 l0 a1 a2 a3 w w0 g0 x0 xk w1 m0 hk2 h
        · exact within a0 cap0 l0 a1 a2 a3 w w0 g0 x0 xk w1 m0 (by omega) (by omega) (by omega)

theorem own : ownKnob Try.prog.godebug = none := by kernel_rfl
theorem laidOut : laidOutB Try.prog = true := by kernel_rfl
set_option linter.unusedVariables false in
set_option maxRecDepth 100000 in
theorem lifted (os : Os) (started : os.Started) (H : Type) (enc : TypeId × Value → H) :
    ReturnsInHanded {} Try.checked os 4 .any (Rows.ctrIncsSpec.pre6 enc Try.prog Try.f4 Rows.ctrIncsRow.domain false) (Rows.ctrIncsSpec.post enc Try.prog Try.f4 false true false false) := by
  refine returnsInHanded_of_change (C := Try.checked) own started (by kernel_rfl) Try.func4
    (ChangeSpec.witness6 (enc := enc) (C := Try.checked) false ⟨#[], #[.slice none 0 0, .string ByteArray.empty, .string ByteArray.empty, .int .i64 0], []⟩ 8 (by kernel_rfl) (by kernel_rfl) (by kernel_rfl) (by kernel_rfl)) ?_
  intro W base args ds gs before hval0 hW hcnd _
  have hval : ∀ (j : Nat) t v, Try.f4.params[j]? = some t → args[j]? = some v → Value.okWide Try.prog W .any base t v := hval0
  have hW' := hW
  obtain ⟨p, q, hA0, hV, rfl, hfz, hnd⟩ := hW
  have hA : DataW.TrodAll enc Try.prog W 0 (fun _ => true) true Try.f4.params.toList args.toList ds p := hA0
  rw [Try.params4] at hA hval
  obtain ⟨v0, vs0, d0, ds0, p0, q0, hargs, rfl, rfl, h0, r0⟩ := trodAll_cons hA
  obtain ⟨v1, vs1, d1, ds1, p1, q1, rfl, rfl, rfl, h1, r1⟩ := trodAll_cons r0
  obtain ⟨v2, vs2, d2, ds2, p2, q2, rfl, rfl, rfl, h2, r2⟩ := trodAll_cons r1
  obtain ⟨v3, vs3, d3, ds3, p3, q3, rfl, rfl, rfl, h3, r3⟩ := trodAll_cons r2
  obtain ⟨rfl, rfl, rfl⟩ := trodAll_nil r3
  obtain rfl : args = #[v0, v1, v2, v3] := by cases args; simp_all
  obtain ⟨rfl, rfl⟩ := trodVars_none hV
  have k0 := h0
  have lt0 : ∀ x ∈ p0, x.block < W.heap.size := by obtain ⟨m, hm⟩ := k0; exact DataW.trod_lt m _ _ _ hm
  obtain ⟨a0, cap0, l0, rfl, w0, g0⟩ := OpenC.open_ctrs (hval 0 22 v0 rfl rfl) h0
  obtain ⟨a1, rfl, rfl, rfl, w1⟩ := Go.ChangeMaps.open_string Try.underlying9 (hval 1 9 v1 rfl rfl) h1
  obtain ⟨a2, rfl, rfl, rfl, w2⟩ := Go.ChangeMaps.open_string Try.underlying9 (hval 2 9 v2 rfl rfl) h2
  obtain ⟨a3, rfl, rfl, rfl, w3⟩ := open_int Try.underlying3 (hval 3 3 v3 rfl rfl) h3
  clear hA0 hval0
  refine (walk a0 cap0 l0 a1 a2 a3 W w0 g0 w1 w2 w3).mono fun e W' ⟨he, bel⟩ => ?_
  subst he
  exact ⟨_, rfl, _, _, _, [], _, [], hW', trodAll_mk1 (shut_bool Try.underlying4 _), (trodAll_cons_mk (Below.trod laidOut (by kernel_rfl) (of_decide_eq_true (by kernel_rfl)) k0 bel lt0) (trodAll_cons_mk (Go.ChangeMaps.shut_string Try.underlying9 w1) (trodAll_cons_mk (Go.ChangeMaps.shut_string Try.underlying9 w2) (trodAll_cons_mk (shut_int Try.underlying3 w3) trodAll_mk0)))), rfl, bel.frame _, fun h => by cases h⟩

theorem over : Rows.ctrIncsRow.holds Try.pinned (OpenSpec.ofChange Rows.ctrIncsSpec) :=
  OpenClaim.holds_of_wide 4 Try.f4 rfl rfl rfl rfl rfl rfl rfl ⟨rfl, rfl, rfl, rfl, rfl⟩ rfl rfl rfl rfl rfl (by kernel_rfl) Try.func4 (by kernel_rfl)
    (of_decide_eq_true (by kernel_rfl)) (by unfold Func.isWrapper; first | (rw [if_pos (by decide +kernel)]; kernel_rfl) | (rw [if_neg (by decide +kernel)]; exact ⟨rfl, rfl⟩))
    (fun os started H enc _ => lifted os started H enc)

theorem proved : Rows.CtrIncsSaid := over
end Go.Proofs.Ytommbfkndcaghaa.ctrIncs
