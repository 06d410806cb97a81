/- EncSigns returns true for every input: what is folded is unfolded, and the other way round; numbers near 0 are small ones. No condition. -/
import Derived.Test.YtfklkaaojeiemaaEncA
import Derived.ChangeOld
namespace Go.Proofs.Ytfklkaaojeiemaa.encSigns
open Go.ChangeShapes Go.WideShapes Go.ChangeAt Go.RowKit Byt EncM EncC EncA

theorem un_fold {n : Int} : unfoldI (foldI n) = n := by
  unfold unfoldI foldI
  by_cases h : 0 ≤ n
  · rw [if_pos h, if_pos (by omega)]; omega
  · rw [if_neg h, if_neg (by omega)]; omega
theorem fold_un {m : Int} (h : 0 ≤ m) : foldI (unfoldI m) = m := by
  unfold unfoldI foldI
  by_cases h2 : m % 2 = 0
  · rw [if_pos h2, if_pos (by omega)]; omega
  · rw [if_neg h2, if_neg (by omega)]; omega
theorem fold_range {n : Int} (h : -9223372036854775808 ≤ n ∧ n ≤ 9223372036854775807) : 0 ≤ foldI n ∧ foldI n ≤ 18446744073709551615 := by
  unfold foldI
  split <;> omega
theorem unfold_range {m : Int} (h : 0 ≤ m ∧ m ≤ 18446744073709551615) : -9223372036854775808 ≤ unfoldI m ∧ unfoldI m ≤ 9223372036854775807 := by
  unfold unfoldI
  split <;> omega
theorem fold_small {n : Int} (h : -1000000 ≤ n ∧ n ≤ 1000000) : foldI n ≤ 2000000 := by
  unfold foldI
  split <;> omega
theorem fold_odd {n : Int} : (foldI n % 2 == 1) = decide (n < 0) := by
  rw [Bool.eq_iff_iff]
  unfold foldI
  split <;> simp <;> omega

set_option maxRecDepth 100000 in
set_option maxHeartbeats 1000000 in
theorem walk (a0 a1 : Int) (w : World) (w0 : (Lit.int .i64 a0).wf = true) (w1 : (Lit.int .u64 a1).wf = true) :
    Calls Try.prog 6 #[.int .i64 a0, .int .u64 a1] w fun e w' => e = .returned (.bool true) ∧ Below w.heap.size w w' := by
  have h0 : -9223372036854775808 ≤ a0 ∧ a0 ≤ 9223372036854775807 := by simpa [Lit.wf, IntKind.min, IntKind.max, IntKind.bits, IntKind.signed] using w0
  have h1 : 0 ≤ a1 ∧ a1 ≤ 18446744073709551615 := by simpa [Lit.wf, IntKind.min, IntKind.max, IntKind.bits, IntKind.signed] using w1
  have c1 := fold a0 h0
  have c2 := unfold (foldI a0) (fold_range h0)
  have c3 := unfold a1 h1
  have c4 := fold (unfoldI a1) (unfold_range h1)
  rw [un_fold] at c2
  rw [fold_un h1.1] at c4
  have hsm := @fold_small a0
  have hodd := @fold_odd a0
  have hnn := (fold_range h0).1
  obtain ⟨F, hF⟩ : ∃ F, foldI a0 = F := ⟨_, rfl⟩
  obtain ⟨U, hU⟩ : ∃ U, unfoldI a1 = U := ⟨_, rfl⟩
  rw [hF] at c1 c2 hsm hodd hnn
  rw [hU] at c3 c4
  clear hF hU w0 w1 h0 h1
  by_cases hin : -1000000 ≤ a0 ∧ a0 ≤ 1000000
  · have hF2 := hsm hin
    obtain ⟨i1, i2⟩ := hin
    clear hsm
    go_enter Try.func6, Try.ntmps6
    go_wp2_with fail
    refine (awake _).mono ?_
    rintro e v1 ⟨rfl, k1⟩
    go_wp2_with fail
    refine (c1 _).mono ?_
    rintro e v2 ⟨rfl, rfl⟩
    go_wp2_with fail
    refine (c2 _).mono ?_
    rintro e v2 ⟨rfl, rfl⟩
    go_wp2_with fail
    refine (c3 _).mono ?_
    rintro e v2 ⟨rfl, rfl⟩
    go_wp2_with fail
    refine (c4 _).mono ?_
    rintro e v2 ⟨rfl, rfl⟩
    go_wp2_with fail
    go_ret
    exact ⟨rfl, k1⟩
  · have hout : a0 < -1000000 ∨ (-1000000 ≤ a0 ∧ 1000000 < a0) := by omega
    clear hsm hin hodd
    rcases hout with i1 | ⟨i1, i2⟩
    all_goals
      go_enter Try.func6, Try.ntmps6
      go_wp2_with fail
      refine (awake _).mono ?_
      rintro e v1 ⟨rfl, k1⟩
      go_wp2_with fail
      refine (c1 _).mono ?_
      rintro e v2 ⟨rfl, rfl⟩
      go_wp2_with fail
      refine (c2 _).mono ?_
      rintro e v2 ⟨rfl, rfl⟩
      go_wp2_with fail
      refine (c3 _).mono ?_
      rintro e v2 ⟨rfl, rfl⟩
      go_wp2_with fail
      refine (c4 _).mono ?_
      rintro e v2 ⟨rfl, rfl⟩
      go_wp2_with fail
      go_ret
      exact ⟨rfl, k1⟩

theorem own : ownKnob Try.prog.godebug = none := by kernel_rfl
set_option linter.unusedVariables false in
set_option maxRecDepth 100000 in
theorem lifted (os : Os) (started : os.Started) (H : Type) (enc : TypeId × Value → H) :
    ReturnsInHanded {} Try.checked os 6 .any (Rows.encSignsSpec.pre6 enc Try.prog Try.f6 Rows.encSignsRow.domain false) (Rows.encSignsSpec.post enc Try.prog Try.f6 false true false false) := by
  refine returnsInHanded_of_change (C := Try.checked) own started (by kernel_rfl) Try.func6
    (ChangeSpec.witness6 (enc := enc) (C := Try.checked) false ⟨#[], #[.int .i64 0, .int .u64 0], []⟩ 8 (by kernel_rfl) (by kernel_rfl) (by kernel_rfl) (by kernel_rfl)) ?_
  intro W base args ds gs before hval0 hW hcnd _
  have hval : ∀ (j : Nat) t v, Try.f6.params[j]? = some t → args[j]? = some v → Value.okWide Try.prog W .any base t v := hval0
  have hW' := hW
  obtain ⟨p, q, hA0, hV, rfl, hfz, hnd⟩ := hW
  have hA : DataW.TrodAll enc Try.prog W 0 (fun _ => true) true Try.f6.params.toList args.toList ds p := hA0
  rw [Try.params6] at hA hval
  obtain ⟨v0, vs0, d0, ds0, p0, q0, hargs, rfl, rfl, h0, r0⟩ := trodAll_cons hA
  obtain ⟨v1, vs1, d1, ds1, p1, q1, rfl, rfl, rfl, h1, r1⟩ := trodAll_cons r0
  obtain ⟨rfl, rfl, rfl⟩ := trodAll_nil r1
  obtain rfl : args = #[v0, v1] := by cases args; simp_all
  obtain ⟨rfl, rfl⟩ := trodVars_none hV
  obtain ⟨a0, rfl, rfl, rfl, w0⟩ := open_int Try.underlying3 (hval 0 3 v0 rfl rfl) h0
  obtain ⟨a1, rfl, rfl, rfl, w1⟩ := open_int Try.underlying22 (hval 1 22 v1 rfl rfl) h1
  clear hA0 hval0
  refine (walk a0 a1 W w0 w1).mono fun e W' ⟨he, bel⟩ => ?_
  subst he
  exact ⟨_, rfl, _, _, _, [], _, [], hW', trodAll_mk1 (shut_bool Try.underlying4 _), (trodAll_cons_mk (shut_int Try.underlying3 w0) (trodAll_cons_mk (shut_int Try.underlying22 w1) trodAll_mk0)), rfl, bel.frame _, fun h => by cases h⟩

theorem over : Rows.encSignsRow.holds Try.pinned (OpenSpec.ofChange Rows.encSignsSpec) :=
  OpenClaim.holds_of_wide 6 Try.f6 rfl rfl rfl rfl rfl rfl rfl ⟨rfl, rfl, rfl, rfl, rfl⟩ rfl rfl rfl rfl rfl (by kernel_rfl) Try.func6 (by kernel_rfl)
    (of_decide_eq_true (by kernel_rfl)) (by unfold Func.isWrapper; first | (rw [if_pos (by decide +kernel)]; kernel_rfl) | (rw [if_neg (by decide +kernel)]; exact ⟨rfl, rfl⟩))
    (fun os started H enc _ => lifted os started H enc)

theorem proved : Rows.EncSignsSaid := over
end Go.Proofs.Ytfklkaaojeiemaa.encSigns
