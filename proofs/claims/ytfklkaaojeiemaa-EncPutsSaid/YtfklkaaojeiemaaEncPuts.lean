/- EncPuts returns true for every input: any number and text in bytes, and any number folded, and unfolded, is what the document says. No condition. -/
import Derived.Test.YtfklkaaojeiemaaEncA
import Derived.Test.YtfklkaaojeiemaaEncT
import Derived.Test.YtfklkaaojeiemaaRefE
import Derived.Test.YtfklkaaojeiemaaGrow
import Derived.ShutString
import Derived.ChangeOld
namespace Go.Proofs.Ytfklkaaojeiemaa.encPuts
open Go.ChangeShapes Go.WideShapes Go.ChangeAt Go.RowKit Go.Sort Byt EncM EncC EncE EncT EncA

set_option maxRecDepth 100000 in
set_option maxHeartbeats 2000000 in
theorem out (n k : Int) (s : ByteArray) (w : World) (hs : s.size ≤ maxLen) (h : 300 < s.size) :
    Calls Try.prog 3 #[.int .u64 n, .int .i64 k, .string s] w fun e w' => e = .returned (.bool true) ∧ Below w.heap.size w w' := by
  unfold maxLen at hs
  go_enter Try.func3, Try.ntmps3
  go_wp2_with fail
  refine (awake _).mono ?_
  rintro e w1 ⟨rfl, k1⟩
  go_wp2_with fail
  go_ret
  exact ⟨rfl, k1⟩

set_option maxRecDepth 100000 in
set_option maxHeartbeats 8000000 in
theorem within (n : Nat) (k : Int) (s : ByteArray) (w : World) (hn : Fits n) (hk : -9223372036854775808 ≤ k ∧ k ≤ 9223372036854775807) (hs : s.size ≤ 300) :
    Calls Try.prog 3 #[.int .u64 n, .int .i64 k, .string s] w fun e w' => e = .returned (.bool true) ∧ Below w.heap.size w w' := by
  have hn2 : 0 ≤ (n : Int) ∧ (n : Int) ≤ 18446744073709551615 := by have := hn.lt; omega
  have c1 := EncC.num n hn
  have c2 := RefE.num n hn
  have c3 := EncC.fold k hk
  have c4 := RefE.fold k hk
  have c5 := EncC.unfold n hn2
  have c6 := RefE.unfold n hn2
  have c7 := EncC.text s (by omega)
  have c8 := RefE.text s (by omega)
  have b1 : ∀ x ∈ numL n, B x := numL_range n
  have b2 := textL_B (bytesL_B s)
  obtain ⟨X, hX⟩ : ∃ X, numL n = X := ⟨_, rfl⟩
  obtain ⟨T, hT⟩ : ∃ T, textL (bytesL s) = T := ⟨_, rfl⟩
  obtain ⟨F, hF⟩ : ∃ F, foldI k = F := ⟨_, rfl⟩
  obtain ⟨U, hU⟩ : ∃ U, unfoldI n = U := ⟨_, rfl⟩
  rw [hX] at c1 c2 b1
  rw [hT] at c7 c8 b2
  rw [hF] at c3 c4
  rw [hU] at c5 c6
  have HB1 := aside b1
  have HB2 := aside b2
  clear hX hT hF hU b1 b2 hn2 hn hk
  go_enter Try.func3, Try.ntmps3
  go_wp2_with fail
  refine (awake _).mono ?_
  rintro e w1 ⟨rfl, k1⟩
  go_wp2_with fail
  refine Grow.region [(0, true), (3, true), (1, false), (2, true), (4, false), (5, true), (6, true), (7, true), (8, true), (10, true), (9, false), (11, false), (12, true), (13, true), (14, true), (15, true), (17, true), (16, false), (18, false), (19, true), (20, true), (21, true), (22, true), (25, true), (23, false), (24, true), (26, false), (27, true), (28, true), (29, true), (30, true)] (by kernel_rfl) (by kernel_rfl) rfl (by kernel_rfl) (by intro c a d v w h; cases d <;> exact h) ?_
  have kd := below_drew1 k1
  obtain ⟨W1, hW1⟩ : ∃ W, w1.drew = W := ⟨_, rfl⟩
  rw [hW1] at kd ⊢
  clear hW1 k1
  repeat (refine Grow.reads rfl rfl ?_; go_big_quiet_step (fail); refine wpQuiet_nil ?_)
  refine Grow.acts rfl ?_
  go_wp2_with fail
  refine (c1 _).mono ?_
  rintro e w2 ⟨v2, rfl, hown2, h2⟩
  obtain ⟨A2, l2, rfl, S2⟩ := Sl.own hown2 HB1.out
  have k2 := kd.trans (h2.mono kd.size)
  clear hown2 c1
  go_wp2_with fail
  refine ⟨h2, ?_⟩
  clear h2 kd
  have q2 := fun d os => (S2.below (below_regrown _ d os)).conv rfl
  repeat (refine Grow.reads rfl rfl ?_; go_big_quiet_step (fail); refine wpQuiet_nil ?_)
  clear q2 S2
  refine Grow.acts rfl ?_
  go_wp2_with fail
  refine (c2 _).mono ?_
  rintro e w3 ⟨v3, rfl, hown3, h3⟩
  obtain ⟨A3, l3, rfl, S3⟩ := Sl.own hown3 HB1.out
  have k3 := k2.trans (h3.mono k2.size)
  clear hown3 c2
  go_wp2_with fail
  refine ⟨h3, ?_⟩
  clear h3 k2
  have q3 := fun d os => (S3.below (below_regrown _ d os)).conv rfl
  repeat (refine Grow.reads rfl rfl ?_; go_big_quiet_step (fail); refine wpQuiet_nil ?_)
  clear q3 S3
  refine Grow.acts rfl ?_
  go_wp2_with fail
  refine (c3 _).mono ?_
  rintro e u ⟨rfl, rfl⟩
  clear c3
  go_wp2_with fail
  refine ⟨Below.refl _ _, ?_⟩
  repeat (refine Grow.reads rfl rfl ?_; go_big_quiet_step (fail); refine wpQuiet_nil ?_)
  refine Grow.acts rfl ?_
  go_wp2_with fail
  refine (c4 _).mono ?_
  rintro e u ⟨rfl, rfl⟩
  clear c4
  go_wp2_with fail
  refine ⟨Below.refl _ _, ?_⟩
  repeat (refine Grow.reads rfl rfl ?_; go_big_quiet_step (fail); refine wpQuiet_nil ?_)
  refine Grow.acts rfl ?_
  go_wp2_with fail
  refine (c5 _).mono ?_
  rintro e u ⟨rfl, rfl⟩
  clear c5
  go_wp2_with fail
  refine ⟨Below.refl _ _, ?_⟩
  repeat (refine Grow.reads rfl rfl ?_; go_big_quiet_step (fail); refine wpQuiet_nil ?_)
  refine Grow.acts rfl ?_
  go_wp2_with fail
  refine (c6 _).mono ?_
  rintro e u ⟨rfl, rfl⟩
  clear c6
  go_wp2_with fail
  refine ⟨Below.refl _ _, ?_⟩
  repeat (refine Grow.reads rfl rfl ?_; go_big_quiet_step (fail); refine wpQuiet_nil ?_)
  refine Grow.acts rfl ?_
  go_wp2_with fail
  refine (c7 _).mono ?_
  rintro e w4 ⟨v4, rfl, hown4, h4⟩
  obtain ⟨A4, l4, rfl, S4⟩ := Sl.own hown4 HB2.out
  have k4 := k3.trans (h4.mono k3.size)
  clear hown4 c7
  go_wp2_with fail
  refine ⟨h4, ?_⟩
  clear h4 k3
  have q4 := fun d os => (S4.below (below_regrown _ d os)).conv rfl
  repeat (refine Grow.reads rfl rfl ?_; go_big_quiet_step (fail); refine wpQuiet_nil ?_)
  clear q4 S4
  refine Grow.acts rfl ?_
  go_wp2_with fail
  refine (c8 _).mono ?_
  rintro e w5 ⟨v5, rfl, hown5, h5⟩
  obtain ⟨A5, l5, rfl, S5⟩ := Sl.own hown5 HB2.out
  have k5 := k4.trans (h5.mono k4.size)
  clear hown5 c8
  go_wp2_with fail
  refine ⟨h5, ?_⟩
  clear h5 k4
  have q5 := fun d os => (S5.below (below_regrown _ d os)).conv rfl
  repeat (refine Grow.reads rfl rfl ?_; go_big_quiet_step (fail); refine wpQuiet_nil ?_)
  refine Grow.ends ?_
  go_wp2_with fail
  go_ret
  exact ⟨rfl, k5⟩

theorem walk (a0 a1 : Int) (a2 : ByteArray) (w : World) (w0 : (Lit.int .u64 a0).wf = true) (w1 : (Lit.int .i64 a1).wf = true) (w2 : a2.size ≤ maxLen) :
    Calls Try.prog 3 #[.int .u64 a0, .int .i64 a1, .string a2] w fun e w' => e = .returned (.bool true) ∧ Below w.heap.size w w' := by
  have h0 : 0 ≤ a0 ∧ a0 ≤ 18446744073709551615 := by simpa [Lit.wf, IntKind.min, IntKind.max, IntKind.bits, IntKind.signed] using w0
  have h1 : -9223372036854775808 ≤ a1 ∧ a1 ≤ 9223372036854775807 := by simpa [Lit.wf, IntKind.min, IntKind.max, IntKind.bits, IntKind.signed] using w1
  by_cases h : 300 < a2.size
  · exact out a0 a1 a2 w w2 h
  · obtain ⟨n, rfl⟩ : ∃ n : Nat, a0 = n := ⟨a0.toNat, by omega⟩
    exact within n a1 a2 w (by unfold Fits; omega) h1 (by omega)

theorem own : ownKnob Try.prog.godebug = none := by kernel_rfl
set_option linter.unusedVariables false in
set_option maxRecDepth 100000 in
theorem lifted (os : Os) (started : os.Started) (H : Type) (enc : TypeId × Value → H) :
    ReturnsInHanded {} Try.checked os 3 .any (Rows.encPutsSpec.pre6 enc Try.prog Try.f3 Rows.encPutsRow.domain false) (Rows.encPutsSpec.post enc Try.prog Try.f3 false true false false) := by
  refine returnsInHanded_of_change (C := Try.checked) own started (by kernel_rfl) Try.func3
    (ChangeSpec.witness6 (enc := enc) (C := Try.checked) false ⟨#[], #[.int .u64 0, .int .i64 0, .string ByteArray.empty], []⟩ 8 (by kernel_rfl) (by kernel_rfl) (by kernel_rfl) (by kernel_rfl)) ?_
  intro W base args ds gs before hval0 hW hcnd _
  have hval : ∀ (j : Nat) t v, Try.f3.params[j]? = some t → args[j]? = some v → Value.okWide Try.prog W .any base t v := hval0
  have hW' := hW
  obtain ⟨p, q, hA0, hV, rfl, hfz, hnd⟩ := hW
  have hA : DataW.TrodAll enc Try.prog W 0 (fun _ => true) true Try.f3.params.toList args.toList ds p := hA0
  rw [Try.params3] at hA hval
  obtain ⟨v0, vs0, d0, ds0, p0, q0, hargs, rfl, rfl, h0, r0⟩ := trodAll_cons hA
  obtain ⟨v1, vs1, d1, ds1, p1, q1, rfl, rfl, rfl, h1, r1⟩ := trodAll_cons r0
  obtain ⟨v2, vs2, d2, ds2, p2, q2, rfl, rfl, rfl, h2, r2⟩ := trodAll_cons r1
  obtain ⟨rfl, rfl, rfl⟩ := trodAll_nil r2
  obtain rfl : args = #[v0, v1, v2] := by cases args; simp_all
  obtain ⟨rfl, rfl⟩ := trodVars_none hV
  obtain ⟨a0, rfl, rfl, rfl, w0⟩ := open_int Try.underlying22 (hval 0 22 v0 rfl rfl) h0
  obtain ⟨a1, rfl, rfl, rfl, w1⟩ := open_int Try.underlying3 (hval 1 3 v1 rfl rfl) h1
  obtain ⟨a2, rfl, rfl, rfl, w2⟩ := Go.ChangeMaps.open_string Try.underlying9 (hval 2 9 v2 rfl rfl) h2
  clear hA0 hval0
  refine (walk a0 a1 a2 W w0 w1 w2).mono fun e W' ⟨he, bel⟩ => ?_
  subst he
  exact ⟨_, rfl, _, _, _, [], _, [], hW', trodAll_mk1 (shut_bool Try.underlying4 _), (trodAll_cons_mk (shut_int Try.underlying22 w0) (trodAll_cons_mk (shut_int Try.underlying3 w1) (trodAll_cons_mk (Go.ChangeMaps.shut_string Try.underlying9 w2) trodAll_mk0))), rfl, bel.frame _, fun h => by cases h⟩

theorem over : Rows.encPutsRow.holds Try.pinned (OpenSpec.ofChange Rows.encPutsSpec) :=
  OpenClaim.holds_of_wide 3 Try.f3 rfl rfl rfl rfl rfl rfl rfl ⟨rfl, rfl, rfl, rfl, rfl⟩ rfl rfl rfl rfl rfl (by kernel_rfl) Try.func3 (by kernel_rfl)
    (of_decide_eq_true (by kernel_rfl)) (by unfold Func.isWrapper; first | (rw [if_pos (by decide +kernel)]; kernel_rfl) | (rw [if_neg (by decide +kernel)]; exact ⟨rfl, rfl⟩))
    (fun os started H enc _ => lifted os started H enc)

theorem proved : Rows.EncPutsSaid := over
end Go.Proofs.Ytfklkaaojeiemaa.encPuts
