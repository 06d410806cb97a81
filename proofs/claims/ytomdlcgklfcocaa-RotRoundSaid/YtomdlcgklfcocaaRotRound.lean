/- RotRound returns true for every input: gone round by 32 a word is as it was, by two numbers as by both together, and no bit is lost. No condition. -/
import Derived.Test.YtomdlcgklfcocaaRotF
import Derived.Test.YtomdlcgklfcocaaRowIn
import Derived.ChangeOld
namespace Go.Proofs.Ytomdlcgklfcocaa.rotRound
open Go.ChangeShapes Go.WideShapes Go.ChangeAt Go.RowKit RotM RotN RotE RotF

set_option maxHeartbeats 400000 in
theorem out (x : BitVec 32) (a b : Int) (w : World) (h : a < -1000 ∨ 1000 < a ∨ b < -1000 ∨ 1000 < b) :
    Calls Try.prog 5 #[.int .u32 (u x), .int .i64 a, .int .i64 b] w fun e w' => e = .returned (.bool true) ∧ Below w.heap.size w w' := by
  have h' : a < -1000 ∨ (-1000 ≤ a ∧ 1000 < a) ∨ (-1000 ≤ a ∧ a ≤ 1000 ∧ b < -1000) ∨ (-1000 ≤ a ∧ a ≤ 1000 ∧ -1000 ≤ b ∧ 1000 < b) := by omega
  clear h
  rcases h' with h1 | ⟨h1, h2⟩ | ⟨h1, h2, h3⟩ | ⟨h1, h2, h3, h4⟩
  all_goals
    go_enter Try.func5, Try.ntmps5
    go_wp2_with fail
    refine (awake _).mono ?_
    rintro e w1 ⟨rfl, k1⟩
    go_wp2_with fail
    go_ret
    exact ⟨rfl, k1⟩

set_option maxHeartbeats 400000 in
theorem within (x : BitVec 32) (a b : Int) (w : World) (ha : -1000 ≤ a ∧ a ≤ 1000) (hb : -1000 ≤ b ∧ b ≤ 1000) :
    Calls Try.prog 5 #[.int .u32 (u x), .int .i64 a, .int .i64 b] w fun e w' => e = .returned (.bool true) ∧ Below w.heap.size w w' := by
  have hz : ((u (rotr x (a % 32).toNat) == 0) == (u x == 0)) = true := by
    have h1 := u_zero_iff (rotr x (a % 32).toNat)
    have h2 := u_zero_iff x
    have h3 := rotr_zero_iff x (a % 32).toNat (by omega)
    rw [beq_iff_eq, Bool.eq_iff_iff, beq_iff_eq, beq_iff_eq, h1, h2, h3]
  have HZ := aside hz
  clear hz
  go_enter Try.func5, Try.ntmps5
  go_wp2_with fail
  refine (awake _).mono ?_
  rintro e w1 ⟨rfl, k1⟩
  go_wp2_with fail
  refine (rightI _ a (u (rotr x (a % 32).toNat)) x rfl rfl _).mono ?_
  rintro e w' ⟨rfl, rfl⟩
  go_wp2_with fail
  refine (rightI _ 32 (u x) x rfl (by rw [show ((32 : Int) % 32).toNat = 0 from rfl, rotr_zero]) _).mono ?_
  rintro e w' ⟨rfl, rfl⟩
  go_wp2_with fail
  refine (rightI _ b (u (rotr x ((a + b) % 32).toNat)) (rotr x (a % 32).toNat) rfl (by rw [rotr_rotr x _ _ ((a + b) % 32).toNat (by omega) (by omega) (by omega) (by omega)]) _).mono ?_
  rintro e w' ⟨rfl, rfl⟩
  go_wp2_with fail
  refine (rightI _ (a + b) (u (rotr x ((a + b) % 32).toNat)) x rfl rfl _).mono ?_
  rintro e w' ⟨rfl, rfl⟩
  go_wp2_with fail
  refine (rightI _ (-a) (u x) (rotr x (a % 32).toNat) rfl (by rw [rotr_rotr x _ _ 0 (by omega) (by omega) (by omega) (by omega), rotr_zero]) _).mono ?_
  rintro e w' ⟨rfl, rfl⟩
  have hz := HZ.out
  go_wp2_with fail
  go_ret
  exact ⟨rfl, k1⟩

theorem walk (a0 a1 a2 : Int) (w : World) (w0 : (Lit.int .u32 a0).wf = true) (_w1 : (Lit.int .i64 a1).wf = true) (_w2 : (Lit.int .i64 a2).wf = true) :
    Calls Try.prog 5 #[.int .u32 a0, .int .i64 a1, .int .i64 a2] w fun e w' => e = .returned (.bool true) ∧ Below w.heap.size w w' := by
  obtain ⟨x, rfl⟩ := u_of w0
  by_cases h : a1 < -1000 ∨ 1000 < a1 ∨ a2 < -1000 ∨ 1000 < a2
  · exact out x a1 a2 w h
  · exact within x a1 a2 w (by omega) (by omega)

theorem own : ownKnob Try.prog.godebug = none := by kernel_rfl
set_option linter.unusedVariables false in
set_option maxRecDepth 100000 in
theorem lifted (os : Os) (started : os.Started) (H : Type) (enc : TypeId × Value → H) :
    ReturnsInHanded {} Try.checked os 5 .any (Rows.rotRoundSpec.pre6 enc Try.prog Try.f5 Rows.rotRoundRow.domain false) (Rows.rotRoundSpec.post enc Try.prog Try.f5 false true false false) := by
  refine returnsInHanded_of_change (C := Try.checked) own started (by kernel_rfl) Try.func5
    (ChangeSpec.witness6 (enc := enc) (C := Try.checked) false ⟨#[], #[.int .u32 0, .int .i64 0, .int .i64 0], []⟩ 8 (by kernel_rfl) (by kernel_rfl) (by kernel_rfl) (by kernel_rfl)) ?_
  intro W base args ds gs before hval0 hW hcnd _
  have hval : ∀ (j : Nat) t v, Try.f5.params[j]? = some t → args[j]? = some v → Value.okWide Try.prog W .any base t v := hval0
  have hW' := hW
  obtain ⟨p, q, hA0, hV, rfl, hfz, hnd⟩ := hW
  have hA : DataW.TrodAll enc Try.prog W 0 (fun _ => true) true Try.f5.params.toList args.toList ds p := hA0
  rw [Try.params5] at hA hval
  obtain ⟨v0, vs0, d0, ds0, p0, q0, hargs, rfl, rfl, h0, r0⟩ := trodAll_cons hA
  obtain ⟨v1, vs1, d1, ds1, p1, q1, rfl, rfl, rfl, h1, r1⟩ := trodAll_cons r0
  obtain ⟨v2, vs2, d2, ds2, p2, q2, rfl, rfl, rfl, h2, r2⟩ := trodAll_cons r1
  obtain ⟨rfl, rfl, rfl⟩ := trodAll_nil r2
  obtain rfl : args = #[v0, v1, v2] := by cases args; simp_all
  obtain ⟨rfl, rfl⟩ := trodVars_none hV
  obtain ⟨a0, rfl, rfl, rfl, w0⟩ := open_int Try.underlying22 (hval 0 22 v0 rfl rfl) h0
  obtain ⟨a1, rfl, rfl, rfl, w1⟩ := open_int Try.underlying3 (hval 1 3 v1 rfl rfl) h1
  obtain ⟨a2, rfl, rfl, rfl, w2⟩ := open_int Try.underlying3 (hval 2 3 v2 rfl rfl) h2
  clear hA0 hval0
  refine (walk a0 a1 a2 W w0 w1 w2).mono fun e W' ⟨he, bel⟩ => ?_
  subst he
  exact ⟨_, rfl, _, _, _, [], _, [], hW', trodAll_mk1 (shut_bool Try.underlying4 _), (trodAll_cons_mk (shut_int Try.underlying22 w0) (trodAll_cons_mk (shut_int Try.underlying3 w1) (trodAll_cons_mk (shut_int Try.underlying3 w2) trodAll_mk0))), rfl, bel.frame _, fun h => by cases h⟩

theorem over : Rows.rotRoundRow.holds Try.pinned (OpenSpec.ofChange Rows.rotRoundSpec) :=
  OpenClaim.holds_of_wide 5 Try.f5 rfl rfl rfl rfl rfl rfl rfl ⟨rfl, rfl, rfl, rfl, rfl⟩ rfl rfl rfl rfl rfl (by kernel_rfl) Try.func5 (by kernel_rfl)
    (of_decide_eq_true (by kernel_rfl)) (by unfold Func.isWrapper; first | (rw [if_pos (by decide +kernel)]; kernel_rfl) | (rw [if_neg (by decide +kernel)]; exact ⟨rfl, rfl⟩))
    (fun os started H enc _ => lifted os started H enc)

theorem proved : Rows.RotRoundSaid := over
end Go.Proofs.Ytomdlcgklfcocaa.rotRound
