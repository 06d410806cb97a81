/- OpsKinds returns true for every input: whether a Set may be, an Add and a Del of the same may; an Inc may with no element, and one of these only with one. No condition. -/
import Derived.Test.YtkjhjaeglgoepaaOpsA
import Derived.Test.YtkjhjaeglgoepaaOpsS
import Derived.Test.YtkjhjaeglgoepaaOpsT
import Derived.Test.YtkjhjaeglgoepaaOpenO
import Derived.ShutString
import Derived.ChangeOld
namespace Go.Proofs.Ytkjhjaeglgoepaa.opsKinds
open Go Go.ChangeShapes Go.WideShapes Go.ChangeAt Go.RowKit Go.Sort Byt OpsM OpsK OpsW OpsC OpsP OpsH OpsE OpsA

set_option maxRecDepth 100000 in
set_option maxHeartbeats 8000000 in
theorem out (s u : ByteArray) (n : Int) (w : World) (hs : s.size ≤ maxLen) (hu : u.size ≤ maxLen) (h : 100 < s.size ∨ (s.size ≤ 100 ∧ 100 < u.size)) :
    Calls Try.prog 7 #[.string s, .string u, .int .i64 n] w fun e w' => e = .returned (.bool true) ∧ Below w.heap.size w w' := by
  unfold maxLen at hs hu
  rcases h with h | ⟨h, h2⟩
  all_goals
    go_enter Try.func7, Try.ntmps7
    go_wp2_with fail
    refine (awake _).mono ?_
    rintro e w1 ⟨rfl, h1⟩
    go_wp2_with fail
    go_ret
    exact ⟨rfl, h1⟩

/-- What May returns of operations that are built. -/
def MayIs (k : Int) (s u : ByteArray) (n : Int) (b : Bool) : Prop := ∀ W : World, Calls Try.prog 14 #[.agg #[.int .i64 k, .string s, .string u, .int .i64 n]] W fun e w' => e = .returned (.bool b) ∧ Below W.heap.size W w'
def KeyIs (s : ByteArray) (b : Bool) : Prop := ∀ W : World, Calls Try.prog 15 #[.string s] W fun e w' => e = .returned (.bool b) ∧ W = w'
set_option maxRecDepth 100000 in
set_option maxHeartbeats 8000000 in
theorem core (s u : ByteArray) (n m : Int) (w : World) (kk ke d e' : Bool) (hs : s.size ≤ 100) (hu : u.size ≤ 100) (hw : IntKind.i64.wrap (-n) = m) (ca : MayIs 1 s u 0 (kk && ke)) (cb : MayIs 2 s u 0 (kk && ke)) (cc : MayIs 3 s u 0 (kk && ke)) (cd : MayIs 0 s ⟨#[]⟩ n d) (ce : MayIs 0 s ⟨#[]⟩ m e') (ck : KeyIs s kk) (cu : KeyIs u ke) (cx : MayIs 1 s ⟨#[]⟩ 0 false) (cy : MayIs 0 s ⟨#[]⟩ 0 false)
    (hd : d = true → kk = true ∧ n ≠ 0) (he : -1073741824 ≤ n → n ≤ 1073741824 → d = e') :
    Calls Try.prog 7 #[.string s, .string u, .int .i64 n] w fun e w' => e = .returned (.bool true) ∧ Below w.heap.size w w' := by
  unfold MayIs at ca cb cc cd ce cx cy
  unfold KeyIs at ck cu
  go_enter Try.func7, Try.ntmps7
  go_wp2_with fail
  refine (awake _).mono ?_
  rintro e w1 ⟨rfl, h1⟩
  have k1 := h1
  clear h1
  go_wp2_with fail
  refine (ca _).mono ?_
  rintro e w2 ⟨rfl, h2⟩
  have k2 := k1.trans (h2.mono k1.size)
  clear h2 k1
  go_wp2_with fail
  refine (cb _).mono ?_
  rintro e w3 ⟨rfl, h3⟩
  have k3 := k2.trans (h3.mono k2.size)
  clear h3 k2
  go_wp2_with fail
  refine (cc _).mono ?_
  rintro e w4 ⟨rfl, h4⟩
  have k4 := k3.trans (h4.mono k3.size)
  clear h4 k3
  go_wp2_with fail
  refine (cd _).mono ?_
  rintro e w5 ⟨rfl, h5⟩
  have k5 := k4.trans (h5.mono k4.size)
  clear h5 k4
  go_wp2_with fail
  refine (ce _).mono ?_
  rintro e w6 ⟨rfl, h6⟩
  have k6 := k5.trans (h6.mono k5.size)
  clear h6 k5
  go_wp2_with fail
  clear ca cb cc cd ce
  cases kk with
  | false =>
    obtain rfl : d = false := by
      cases d with
      | false => rfl
      | true => exact absurd (hd rfl).1 (by simp)
    have hcase : n < -1073741824 ∨ (-1073741824 ≤ n ∧ 1073741824 < n) ∨ (-1073741824 ≤ n ∧ n ≤ 1073741824 ∧ e' = false) := by
      by_cases q1 : n < -1073741824
      · exact .inl q1
      · by_cases q2 : 1073741824 < n
        · exact .inr (.inl ⟨by omega, q2⟩)
        · exact .inr (.inr ⟨by omega, by omega, (he (by omega) (by omega)).symm⟩)
    clear hd he
    rcases hcase with q | ⟨q, q2⟩ | ⟨q, q2, rfl⟩
    all_goals
      refine (ck _).mono ?_
      rintro e w' ⟨rfl, rfl⟩
      go_wp2_with fail
      refine (cx _).mono ?_
      rintro e w8 ⟨rfl, h8⟩
      have k8 := k6.trans (h8.mono k6.size)
      clear h8
      go_wp2_with fail
      refine (cy _).mono ?_
      rintro e w9 ⟨rfl, h9⟩
      have k9 := k8.trans (h9.mono k8.size)
      clear h9
      go_wp2_with fail
      go_ret
      exact ⟨rfl, k9⟩
  | true =>
    refine (ck _).mono ?_
    rintro e w' ⟨rfl, rfl⟩
    go_wp2_with fail
    refine (cu _).mono ?_
    rintro e w' ⟨rfl, rfl⟩
    have hcase : n < -1073741824 ∨ (-1073741824 ≤ n ∧ 1073741824 < n) ∨ (-1073741824 ≤ n ∧ n ≤ 1073741824 ∧ e' = d) := by
      by_cases q1 : n < -1073741824
      · exact .inl q1
      · by_cases q2 : 1073741824 < n
        · exact .inr (.inl ⟨by omega, q2⟩)
        · exact .inr (.inr ⟨by omega, by omega, (he (by omega) (by omega)).symm⟩)
    clear he
    cases d with
    | false =>
      clear hd
      rcases hcase with q | ⟨q, q2⟩ | ⟨q, q2, rfl⟩
      all_goals
        all_goals
          go_wp2_with fail
          refine (cx _).mono ?_
          rintro e w8 ⟨rfl, h8⟩
          have k8 := k6.trans (h8.mono k6.size)
          clear h8
          go_wp2_with fail
          refine (cy _).mono ?_
          rintro e w9 ⟨rfl, h9⟩
          have k9 := k8.trans (h9.mono k8.size)
          clear h9
          go_wp2_with fail
          go_ret
          exact ⟨rfl, k9⟩
    | true =>
      have t0 : (n != 0) = true := by simpa using (hd rfl).2
      clear hd
      rcases hcase with q | ⟨q, q2⟩ | ⟨q, q2, rfl⟩
      all_goals
        all_goals
          go_wp2_with fail
          refine (ck _).mono ?_
          rintro e w' ⟨rfl, rfl⟩
          go_wp2_with fail
          refine (cx _).mono ?_
          rintro e w8 ⟨rfl, h8⟩
          have k8 := k6.trans (h8.mono k6.size)
          clear h8
          go_wp2_with fail
          refine (cy _).mono ?_
          rintro e w9 ⟨rfl, h9⟩
          have k9 := k8.trans (h9.mono k8.size)
          clear h9
          go_wp2_with fail
          go_ret
          exact ⟨rfl, k9⟩

theorem may_is (o : Opn) (hf : Fit o) : MayIs o.kind o.key o.elem o.n (mayO o) := fun W => may o W hf
theorem may_elem (k : Int) (hk : k = 1 ∨ k = 2 ∨ k = 3) (s u : ByteArray) : mayO ⟨k, s, u, 0⟩ = (keyL (bytesL s) && keyL (bytesL u)) := by
  unfold mayO
  rw [restB1 hk]
  show (keyL (bytesL s) && (keyL (bytesL u) && decide ((0 : Int) = 0))) = _
  simp
theorem may_none (s : ByteArray) : mayO ⟨1, s, ⟨#[]⟩, 0⟩ = false := by
  rw [may_elem 1 (.inl rfl), show keyL (bytesL ⟨#[]⟩) = false by kernel_rfl, Bool.and_false]
theorem may_zero (s : ByteArray) : mayO ⟨0, s, ⟨#[]⟩, 0⟩ = false := by
  unfold mayO
  rw [restB0 rfl, stepB_no (fun h => h.2.2.1 rfl), Bool.and_false]
theorem may_step {s : ByteArray} {n : Int} (h : mayO ⟨0, s, ⟨#[]⟩, n⟩ = true) : keyL (bytesL s) = true ∧ n ≠ 0 := by
  obtain ⟨h1, h2⟩ := mayO_kind h
  rcases h2 with ⟨_, h2⟩ | ⟨h2, _⟩
  · exact ⟨h1, (stepB_iff.1 h2).2.2.1⟩
  · simp at h2
theorem may_neg (s : ByteArray) (n : Int) : mayO ⟨0, s, ⟨#[]⟩, n⟩ = mayO ⟨0, s, ⟨#[]⟩, -n⟩ := by
  unfold mayO
  rw [restB0 rfl, restB0 rfl]
  congr 1
  rw [Bool.eq_iff_iff, stepB_iff, stepB_iff]
  simp only
  constructor
  · rintro ⟨a, b, c, d⟩; exact ⟨by omega, by omega, by omega, d⟩
  · rintro ⟨a, b, c, d⟩; exact ⟨by omega, by omega, by omega, d⟩

theorem walk (a0 a1 : ByteArray) (a2 : Int) (w : World) (w0 : a0.size ≤ maxLen) (w1 : a1.size ≤ maxLen) (w2 : (Lit.int .i64 a2).wf = true) :
    Calls Try.prog 7 #[.string a0, .string a1, .int .i64 a2] w fun e w' => e = .returned (.bool true) ∧ Below w.heap.size w w' := by
  have hb : -9223372036854775808 ≤ a2 ∧ a2 ≤ 9223372036854775807 := by simpa [Lit.wf, IntKind.min, IntKind.max, IntKind.bits, IntKind.signed] using w2
  by_cases h : 100 < a0.size ∨ (a0.size ≤ 100 ∧ 100 < a1.size)
  · exact out a0 a1 a2 w w0 w1 h
  · have z : I64 0 := by unfold I64; omega
    have e0 : (⟨#[]⟩ : ByteArray).size ≤ maxLen := Nat.zero_le _
    have ca := may_is ⟨1, a0, a1, 0⟩ ⟨by unfold I64; simp, z, w0, w1⟩
    have cb := may_is ⟨2, a0, a1, 0⟩ ⟨by unfold I64; simp, z, w0, w1⟩
    have cc := may_is ⟨3, a0, a1, 0⟩ ⟨by unfold I64; simp, z, w0, w1⟩
    have cd := may_is ⟨0, a0, ⟨#[]⟩, a2⟩ ⟨z, hb, w0, e0⟩
    have cx := may_is ⟨1, a0, ⟨#[]⟩, 0⟩ ⟨by unfold I64; simp, z, w0, e0⟩
    have cy := may_is ⟨0, a0, ⟨#[]⟩, 0⟩ ⟨z, z, w0, e0⟩
    rw [may_elem 1 (.inl rfl)] at ca
    rw [may_elem 2 (.inr (.inl rfl))] at cb
    rw [may_elem 3 (.inr (.inr rfl))] at cc
    rw [may_none] at cx
    rw [may_zero] at cy
    have ck : KeyIs a0 (keyL (bytesL a0)) := fun W => key a0 w0 W
    have cu : KeyIs a1 (keyL (bytesL a1)) := fun W => key a1 w1 W
    have hcase : ∃ m, IntKind.i64.wrap (-a2) = m ∧ I64 m ∧ (-1073741824 ≤ a2 → a2 ≤ 1073741824 → m = -a2) := by
      refine ⟨_, rfl, ?_, ?_⟩
      · unfold I64; rw [IntKind.wrap_i64]; omega
      · intro h1 h2; rw [IntKind.wrap_i64]; omega
    obtain ⟨m, hw, hI, hm⟩ := hcase
    have ce := may_is ⟨0, a0, ⟨#[]⟩, m⟩ ⟨z, hI, w0, e0⟩
    exact core a0 a1 a2 m w _ _ _ _ (by omega) (by omega) hw ca cb cc cd ce ck cu cx cy (fun h => may_step h) (fun h1 h2 => by rw [hm h1 h2]; exact may_neg a0 a2)

theorem own : ownKnob Try.prog.godebug = none := by kernel_rfl
set_option linter.unusedVariables false in
set_option maxRecDepth 100000 in
theorem lifted (os : Os) (started : os.Started) (H : Type) (enc : TypeId × Value → H) :
    ReturnsInHanded {} Try.checked os 7 .any (Rows.opsKindsSpec.pre6 enc Try.prog Try.f7 Rows.opsKindsRow.domain false) (Rows.opsKindsSpec.post enc Try.prog Try.f7 false true false false) := by
  refine returnsInHanded_of_change (C := Try.checked) own started (by kernel_rfl) Try.func7
    (ChangeSpec.witness6 (enc := enc) (C := Try.checked) false ⟨#[], #[.string ByteArray.empty, .string ByteArray.empty, .int .i64 0], []⟩ 8 (by kernel_rfl) (by kernel_rfl) (by kernel_rfl) (by kernel_rfl)) ?_
  intro W base args ds gs before hval0 hW hcnd _
  have hval : ∀ (j : Nat) t v, Try.f7.params[j]? = some t → args[j]? = some v → Value.okWide Try.prog W .any base t v := hval0
  have hW' := hW
  obtain ⟨p, q, hA0, hV, rfl, hfz, hnd⟩ := hW
  have hA : DataW.TrodAll enc Try.prog W 0 (fun _ => true) true Try.f7.params.toList args.toList ds p := hA0
  rw [Try.params7] at hA hval
  obtain ⟨v0, vs0, d0, ds0, p0, q0, hargs, rfl, rfl, h0, r0⟩ := trodAll_cons hA
  obtain ⟨v1, vs1, d1, ds1, p1, q1, rfl, rfl, rfl, h1, r1⟩ := trodAll_cons r0
  obtain ⟨v2, vs2, d2, ds2, p2, q2, rfl, rfl, rfl, h2, r2⟩ := trodAll_cons r1
  obtain ⟨rfl, rfl, rfl⟩ := trodAll_nil r2
  obtain rfl : args = #[v0, v1, v2] := by cases args; simp_all
  obtain ⟨rfl, rfl⟩ := trodVars_none hV
  obtain ⟨a0, rfl, rfl, rfl, w0⟩ := Go.ChangeMaps.open_string Try.underlying9 (hval 0 9 v0 rfl rfl) h0
  obtain ⟨a1, rfl, rfl, rfl, w1⟩ := Go.ChangeMaps.open_string Try.underlying9 (hval 1 9 v1 rfl rfl) h1
  obtain ⟨a2, rfl, rfl, rfl, w2⟩ := open_int Try.underlying3 (hval 2 3 v2 rfl rfl) h2
  clear hA0 hval0
  refine (walk a0 a1 a2 W w0 w1 w2).mono fun e W' ⟨he, bel⟩ => ?_
  subst he
  exact ⟨_, rfl, _, _, _, [], _, [], hW', trodAll_mk1 (shut_bool Try.underlying4 _), (trodAll_cons_mk (Go.ChangeMaps.shut_string Try.underlying9 w0) (trodAll_cons_mk (Go.ChangeMaps.shut_string Try.underlying9 w1) (trodAll_cons_mk (shut_int Try.underlying3 w2) trodAll_mk0))), rfl, bel.frame _, fun h => by cases h⟩

theorem over : Rows.opsKindsRow.holds Try.pinned (OpenSpec.ofChange Rows.opsKindsSpec) :=
  OpenClaim.holds_of_wide 7 Try.f7 rfl rfl rfl rfl rfl rfl rfl ⟨rfl, rfl, rfl, rfl, rfl⟩ rfl rfl rfl rfl rfl (by kernel_rfl) Try.func7 (by kernel_rfl)
    (of_decide_eq_true (by kernel_rfl)) (by unfold Func.isWrapper; first | (rw [if_pos (by decide +kernel)]; kernel_rfl) | (rw [if_neg (by decide +kernel)]; exact ⟨rfl, rfl⟩))
    (fun os started H enc _ => lifted os started H enc)

theorem proved : Rows.OpsKindsSaid := over
end Go.Proofs.Ytkjhjaeglgoepaa.opsKinds
