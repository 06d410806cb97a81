/- RotBits returns true for every input: bit by bit a word gone round, what is picked, and what most have, is what the document says. No condition. -/
import Derived.Test.YtomdlcgklfcocaaRotF
import Derived.Test.YtomdlcgklfcocaaRowIn
import Derived.ChangeOld
namespace Go.Proofs.Ytomdlcgklfcocaa.rotBits
open Go.ChangeShapes Go.WideShapes Go.ChangeAt Go.RowKit RotM RotN RotE RotF

theorem bitI (x : BitVec 32) (k : Int) (b : Bool) (hk : 0 ≤ k ∧ k ≤ 31) (hb : x.getLsbD k.toNat = b) (w : World) :
    Calls Try.prog 24 #[.int .u32 (u x), .int .i64 k] w fun e w' => e = .returned (.bool b) ∧ w = w' := by
  obtain ⟨j, rfl⟩ := Int.eq_ofNat_of_zero_le hk.1
  subst hb
  exact RotC.bit x j (by omega) w

set_option maxHeartbeats 400000 in
theorem out (x y z : BitVec 32) (n k : Int) (w : World) (h : k < 0 ∨ 31 < k ∨ n < -1000 ∨ 1000 < n) :
    Calls Try.prog 8 #[.int .u32 (u x), .int .u32 (u y), .int .u32 (u z), .int .i64 n, .int .i64 k] w fun e w' => e = .returned (.bool true) ∧ Below w.heap.size w w' := by
  have h' : k < 0 ∨ (0 ≤ k ∧ 31 < k) ∨ (0 ≤ k ∧ k ≤ 31 ∧ n < -1000) ∨ (0 ≤ k ∧ k ≤ 31 ∧ -1000 ≤ n ∧ 1000 < n) := by omega
  clear h
  rcases h' with h1 | ⟨h1, h2⟩ | ⟨h1, h2, h3⟩ | ⟨h1, h2, h3, h4⟩
  all_goals
    go_enter Try.func8, Try.ntmps8
    go_wp2_with fail
    refine (awake _).mono ?_
    rintro e w1 ⟨rfl, k1⟩
    go_wp2_with fail
    go_ret
    exact ⟨rfl, k1⟩

set_option maxHeartbeats 1000000 in
theorem within (x y z : BitVec 32) (n k : Int) (w : World) (hk : 0 ≤ k ∧ k ≤ 31) (hn : -1000 ≤ n ∧ n ≤ 1000) (p q r s : Bool)
    (hp : x.getLsbD k.toNat = p) (hq : y.getLsbD k.toNat = q) (hr : z.getLsbD k.toNat = r) (hs : x.getLsbD ((k + n + 1024) % 32).toNat = s) :
    Calls Try.prog 8 #[.int .u32 (u x), .int .u32 (u y), .int .u32 (u z), .int .i64 n, .int .i64 k] w fun e w' => e = .returned (.bool true) ∧ Below w.heap.size w w' := by
  have h1 : (rotr x (n % 32).toNat).getLsbD k.toNat = s := by
    rw [bit_rotr x _ _ (by omega) (by omega), show (k.toNat + (n % 32).toNat) % 32 = ((k + n + 1024) % 32).toNat from by omega]
    exact hs
  have h2 : (pickW x y z).getLsbD k.toNat = (p && q || !p && r) := by
    rw [bit_pick _ _ _ _ (by omega), hp, hq, hr]
  have h3 : (mostW x y z).getLsbD k.toNat = (p && q || p && r || q && r) := by
    rw [bit_most, hp, hq, hr]
  have hat : 0 ≤ (k + n + 1024) % 32 ∧ (k + n + 1024) % 32 ≤ 31 := by omega
  have HP := aside hp
  have HQ := aside hq
  have HR := aside hr
  have HS := aside hs
  have H1 := aside h1
  have H2 := aside h2
  have H3 := aside h3
  clear hp hq hr hs h1 h2 h3
  cases p <;> cases q <;> cases r
  all_goals
    go_enter Try.func8, Try.ntmps8
    go_wp2_with fail
    refine (awake _).mono ?_
    rintro e w1 ⟨rfl, k1⟩
    go_wp2_with fail
    refine (bitI x k _ hk HP.out _).mono ?_
    rintro e w' ⟨rfl, rfl⟩
    go_wp2_with fail
    refine (bitI y k _ hk HQ.out _).mono ?_
    rintro e w' ⟨rfl, rfl⟩
    go_wp2_with fail
    refine (bitI z k _ hk HR.out _).mono ?_
    rintro e w' ⟨rfl, rfl⟩
    go_wp2_with fail
    refine (rightI _ n (u (rotr x (n % 32).toNat)) x rfl rfl _).mono ?_
    rintro e w' ⟨rfl, rfl⟩
    go_wp2_with fail
    refine (bitI (rotr x (n % 32).toNat) k s hk H1.out _).mono ?_
    rintro e w' ⟨rfl, rfl⟩
    go_wp2_with fail
    refine (bitI x _ s hat HS.out _).mono ?_
    rintro e w' ⟨rfl, rfl⟩
    go_wp2_with fail
    refine (pickI _ _ _ (u (pickW x y z)) x y z rfl rfl rfl rfl _).mono ?_
    rintro e w' ⟨rfl, rfl⟩
    go_wp2_with fail
    refine (bitI (pickW x y z) k _ hk H2.out _).mono ?_
    rintro e w' ⟨rfl, rfl⟩
    go_wp2_with fail
    refine (mostI _ _ _ (u (mostW x y z)) x y z rfl rfl rfl rfl _).mono ?_
    rintro e w' ⟨rfl, rfl⟩
    go_wp2_with fail
    refine (bitI (mostW x y z) k _ hk H3.out _).mono ?_
    rintro e w' ⟨rfl, rfl⟩
    go_wp2_with fail
    go_ret
    exact ⟨rfl, k1⟩

theorem walk (a0 a1 a2 a3 a4 : Int) (w : World) (w0 : (Lit.int .u32 a0).wf = true) (w1 : (Lit.int .u32 a1).wf = true) (w2 : (Lit.int .u32 a2).wf = true) (_w3 : (Lit.int .i64 a3).wf = true) (_w4 : (Lit.int .i64 a4).wf = true) :
    Calls Try.prog 8 #[.int .u32 a0, .int .u32 a1, .int .u32 a2, .int .i64 a3, .int .i64 a4] w fun e w' => e = .returned (.bool true) ∧ Below w.heap.size w w' := by
  obtain ⟨x, rfl⟩ := u_of w0
  obtain ⟨y, rfl⟩ := u_of w1
  obtain ⟨z, rfl⟩ := u_of w2
  by_cases h : a4 < 0 ∨ 31 < a4 ∨ a3 < -1000 ∨ 1000 < a3
  · exact out x y z a3 a4 w h
  · exact within x y z a3 a4 w (by omega) (by omega) _ _ _ _ rfl rfl rfl rfl

theorem own : ownKnob Try.prog.godebug = none := by kernel_rfl
set_option linter.unusedVariables false in
set_option maxRecDepth 100000 in
theorem lifted (os : Os) (started : os.Started) (H : Type) (enc : TypeId × Value → H) :
    ReturnsInHanded {} Try.checked os 8 .any (Rows.rotBitsSpec.pre6 enc Try.prog Try.f8 Rows.rotBitsRow.domain false) (Rows.rotBitsSpec.post enc Try.prog Try.f8 false true false false) := by
  refine returnsInHanded_of_change (C := Try.checked) own started (by kernel_rfl) Try.func8
    (ChangeSpec.witness6 (enc := enc) (C := Try.checked) false ⟨#[], #[.int .u32 0, .int .u32 0, .int .u32 0, .int .i64 0, .int .i64 0], []⟩ 8 (by kernel_rfl) (by kernel_rfl) (by kernel_rfl) (by kernel_rfl)) ?_
  intro W base args ds gs before hval0 hW hcnd _
  have hval : ∀ (j : Nat) t v, Try.f8.params[j]? = some t → args[j]? = some v → Value.okWide Try.prog W .any base t v := hval0
  have hW' := hW
  obtain ⟨p, q, hA0, hV, rfl, hfz, hnd⟩ := hW
  have hA : DataW.TrodAll enc Try.prog W 0 (fun _ => true) true Try.f8.params.toList args.toList ds p := hA0
  rw [Try.params8] at hA hval
  obtain ⟨v0, vs0, d0, ds0, p0, q0, hargs, rfl, rfl, h0, r0⟩ := trodAll_cons hA
  obtain ⟨v1, vs1, d1, ds1, p1, q1, rfl, rfl, rfl, h1, r1⟩ := trodAll_cons r0
  obtain ⟨v2, vs2, d2, ds2, p2, q2, rfl, rfl, rfl, h2, r2⟩ := trodAll_cons r1
  obtain ⟨v3, vs3, d3, ds3, p3, q3, rfl, rfl, rfl, h3, r3⟩ := trodAll_cons r2
  obtain ⟨v4, vs4, d4, ds4, p4, q4, rfl, rfl, rfl, h4, r4⟩ := trodAll_cons r3
  obtain ⟨rfl, rfl, rfl⟩ := trodAll_nil r4
  obtain rfl : args = #[v0, v1, v2, v3, v4] := by cases args; simp_all
  obtain ⟨rfl, rfl⟩ := trodVars_none hV
  obtain ⟨a0, rfl, rfl, rfl, w0⟩ := open_int Try.underlying22 (hval 0 22 v0 rfl rfl) h0
  obtain ⟨a1, rfl, rfl, rfl, w1⟩ := open_int Try.underlying22 (hval 1 22 v1 rfl rfl) h1
  obtain ⟨a2, rfl, rfl, rfl, w2⟩ := open_int Try.underlying22 (hval 2 22 v2 rfl rfl) h2
  obtain ⟨a3, rfl, rfl, rfl, w3⟩ := open_int Try.underlying3 (hval 3 3 v3 rfl rfl) h3
  obtain ⟨a4, rfl, rfl, rfl, w4⟩ := open_int Try.underlying3 (hval 4 3 v4 rfl rfl) h4
  clear hA0 hval0
  refine (walk a0 a1 a2 a3 a4 W w0 w1 w2 w3 w4).mono fun e W' ⟨he, bel⟩ => ?_
  subst he
  exact ⟨_, rfl, _, _, _, [], _, [], hW', trodAll_mk1 (shut_bool Try.underlying4 _), (trodAll_cons_mk (shut_int Try.underlying22 w0) (trodAll_cons_mk (shut_int Try.underlying22 w1) (trodAll_cons_mk (shut_int Try.underlying22 w2) (trodAll_cons_mk (shut_int Try.underlying3 w3) (trodAll_cons_mk (shut_int Try.underlying3 w4) trodAll_mk0))))), rfl, bel.frame _, fun h => by cases h⟩

theorem over : Rows.rotBitsRow.holds Try.pinned (OpenSpec.ofChange Rows.rotBitsSpec) :=
  OpenClaim.holds_of_wide 8 Try.f8 rfl rfl rfl rfl rfl rfl rfl ⟨rfl, rfl, rfl, rfl, rfl⟩ rfl rfl rfl rfl rfl (by kernel_rfl) Try.func8 (by kernel_rfl)
    (of_decide_eq_true (by kernel_rfl)) (by unfold Func.isWrapper; first | (rw [if_pos (by decide +kernel)]; kernel_rfl) | (rw [if_neg (by decide +kernel)]; exact ⟨rfl, rfl⟩))
    (fun os started H enc _ => lifted os started H enc)

theorem proved : Rows.RotBitsSaid := over
end Go.Proofs.Ytomdlcgklfcocaa.rotBits
