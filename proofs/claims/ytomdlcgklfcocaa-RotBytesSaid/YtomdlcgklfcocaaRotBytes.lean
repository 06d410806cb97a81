/- RotBytes returns true for every input: rot.Word, rot.Four and rot.Long are what the document's own answers are. No condition. -/
import Derived.Test.YtomdlcgklfcocaaRotH
import Derived.ChangeOld
namespace Go.Proofs.Ytomdlcgklfcocaa.rotBytes
open Go.ChangeShapes Go.WideShapes Go.ChangeAt Go.RowKit RotM RotN RotE RotF RotG RotH

set_option maxHeartbeats 400000 in
theorem out (A : Option Addr) (len cap : Nat) (p x y : Int) (w : World) (h : 100 < len) (hm : len ≤ 9223372036854775807) :
    Calls Try.prog 4 #[.slice A len cap, .int .i64 p, .int .u32 x, .int .u64 y] w fun e w' => e = .returned (.bool true) ∧ Below w.heap.size w w' := by
  go_enter Try.func4, Try.ntmps4
  go_wp2_with fail
  refine (awake _).mono ?_
  rintro e w1 ⟨rfl, k1⟩
  go_wp2_with fail
  go_ret
  exact ⟨rfl, k1⟩

set_option maxHeartbeats 1000000 in
theorem within (A : Option Addr) (len cap : Nat) (zs : List Int) (p x y : Int) (w : World) (hr : RowIn.RowIn .u8 w A len cap zs) (h : len ≤ 100) (hp : -9223372036854775808 ≤ p ∧ p ≤ 9223372036854775807) (hx : 0 ≤ x ∧ x ≤ 4294967295) (hy : 0 ≤ y ∧ y ≤ 18446744073709551615) :
    Calls Try.prog 4 #[.slice A len cap, .int .i64 p, .int .u32 x, .int .u64 y] w fun e w' => e = .returned (.bool true) ∧ Below w.heap.size w w' := by
  obtain ⟨b0, b1, b2, b3, r0, r1, r2, r3, e0⟩ := bytes_of x hx
  obtain ⟨c0, c1, c2, c3, d0, d1, d2, d3, s0, s1, s2, s3, t0, t1, t2, t3, e1⟩ := longs_of y hy
  have E0 := aside e0
  have E1 := aside e1
  clear e0 e1
  have q4 := eq4 b0 b1 b2 b3
  have q8 := eq8 c0 c1 c2 c3 d0 d1 d2 d3
  go_enter Try.func4, Try.ntmps4
  go_wp2_with fail
  refine (awake _).mono ?_
  rintro e w1 ⟨rfl, k1⟩
  have hr1 := hr.below k1
  go_wp2_with fail
  refine (wordI hr1 h p hp).mono ?_
  rintro e w2 ⟨rfl, h2⟩
  have hr2 := hr1.below h2
  have k2 : Below w.heap.size w w2 := k1.trans (h2.mono k1.size)
  clear k1 h2 hr1
  go_wp2_with fail
  refine (refwordI hr2 h p hp).mono ?_
  rintro e w3 ⟨rfl, h3⟩
  have k3 : Below w.heap.size w w3 := k2.trans (h3.mono k2.size)
  clear k2 h3 hr2
  go_wp2_with fail
  refine (fourB b0 b1 b2 b3 r0 r1 r2 r3 x E0.out _).mono ?_
  rintro e w4 ⟨rfl, h4⟩
  have k4 : Below w.heap.size w w4 := k3.trans (h4.mono k3.size)
  clear k3 h4
  go_wp2_with fail
  refine (reffourB b0 b1 b2 b3 r0 r1 r2 r3 x E0.out _).mono ?_
  rintro e w5 ⟨rfl, h5⟩
  have k5 : Below w.heap.size w w5 := k4.trans (h5.mono k4.size)
  clear k4 h5
  go_wp2_with fail
  refine (longB c0 c1 c2 c3 d0 d1 d2 d3 s0 s1 s2 s3 t0 t1 t2 t3 y E1.out _).mono ?_
  rintro e w6 ⟨rfl, h6⟩
  have k6 : Below w.heap.size w w6 := k5.trans (h6.mono k5.size)
  clear k5 h6
  go_wp2_with fail
  refine (reflongB c0 c1 c2 c3 d0 d1 d2 d3 s0 s1 s2 s3 t0 t1 t2 t3 y E1.out _).mono ?_
  rintro e w7 ⟨rfl, h7⟩
  have k7 : Below w.heap.size w w7 := k6.trans (h7.mono k6.size)
  clear k6 h7
  go_wp2_with fail
  go_ret
  exact ⟨rfl, k7⟩

theorem walk (a0 : Option Addr) (len0 cap0 : Nat) (z0 : List Int) (a1 a2 a3 : Int) (w : World) (w0 : RowIn.RowIn .u8 w a0 len0 cap0 z0) (w1 : (Lit.int .i64 a1).wf = true) (w2 : (Lit.int .u32 a2).wf = true) (w3 : (Lit.int .u64 a3).wf = true) :
    Calls Try.prog 4 #[.slice a0 len0 cap0, .int .i64 a1, .int .u32 a2, .int .u64 a3] w fun e w' => e = .returned (.bool true) ∧ Below w.heap.size w w' := by
  by_cases h : 100 < len0
  · have h1 := w0.1
    have h2 := w0.2.1
    unfold maxLen at h2
    exact out a0 len0 cap0 a1 a2 a3 w h (by omega)
  · exact within a0 len0 cap0 z0 a1 a2 a3 w w0 (by omega) (i64_range w1) (u32_range w2) (u64_range w3)

theorem own : ownKnob Try.prog.godebug = none := by kernel_rfl
theorem laidOut : laidOutB Try.prog = true := by kernel_rfl
set_option linter.unusedVariables false in
set_option maxRecDepth 100000 in
theorem lifted (os : Os) (started : os.Started) (H : Type) (enc : TypeId × Value → H) :
    ReturnsInHanded {} Try.checked os 4 .any (Rows.rotBytesSpec.pre6 enc Try.prog Try.f4 Rows.rotBytesRow.domain false) (Rows.rotBytesSpec.post enc Try.prog Try.f4 false true false false) := by
  refine returnsInHanded_of_change (C := Try.checked) own started (by kernel_rfl) Try.func4
    (ChangeSpec.witness6 (enc := enc) (C := Try.checked) false ⟨#[], #[.slice none 0 0, .int .i64 0, .int .u32 0, .int .u64 0], []⟩ 8 (by kernel_rfl) (by kernel_rfl) (by kernel_rfl) (by kernel_rfl)) ?_
  intro W base args ds gs before hval0 hW hcnd _
  have hval : ∀ (j : Nat) t v, Try.f4.params[j]? = some t → args[j]? = some v → Value.okWide Try.prog W .any base t v := hval0
  have hW' := hW
  obtain ⟨p, q, hA0, hV, rfl, hfz, hnd⟩ := hW
  have hA : DataW.TrodAll enc Try.prog W 0 (fun _ => true) true Try.f4.params.toList args.toList ds p := hA0
  rw [Try.params4] at hA hval
  obtain ⟨v0, vs0, d0, ds0, p0, q0, hargs, rfl, rfl, h0, r0⟩ := trodAll_cons hA
  obtain ⟨v1, vs1, d1, ds1, p1, q1, rfl, rfl, rfl, h1, r1⟩ := trodAll_cons r0
  obtain ⟨v2, vs2, d2, ds2, p2, q2, rfl, rfl, rfl, h2, r2⟩ := trodAll_cons r1
  obtain ⟨v3, vs3, d3, ds3, p3, q3, rfl, rfl, rfl, h3, r3⟩ := trodAll_cons r2
  obtain ⟨rfl, rfl, rfl⟩ := trodAll_nil r3
  obtain rfl : args = #[v0, v1, v2, v3] := by cases args; simp_all
  obtain ⟨rfl, rfl⟩ := trodVars_none hV
  have k0 := h0
  have lt0 : ∀ x ∈ p0, x.block < W.heap.size := by obtain ⟨m, hm⟩ := k0; exact DataW.trod_lt m _ _ _ hm
  obtain ⟨a0, len0, cap0, z0, rfl, w0⟩ := RowIn.open_row Try.underlying27 Try.underlying5 (by kernel_rfl) (hval 0 27 v0 rfl rfl) h0
  obtain ⟨a1, rfl, rfl, rfl, w1⟩ := open_int Try.underlying3 (hval 1 3 v1 rfl rfl) h1
  obtain ⟨a2, rfl, rfl, rfl, w2⟩ := open_int Try.underlying22 (hval 2 22 v2 rfl rfl) h2
  obtain ⟨a3, rfl, rfl, rfl, w3⟩ := open_int Try.underlying28 (hval 3 28 v3 rfl rfl) h3
  clear hA0 hval0
  refine (walk a0 len0 cap0 z0 a1 a2 a3 W w0 w1 w2 w3).mono fun e W' ⟨he, bel⟩ => ?_
  subst he
  exact ⟨_, rfl, _, _, _, [], _, [], hW', trodAll_mk1 (shut_bool Try.underlying4 _), (trodAll_cons_mk (Below.trod laidOut (by kernel_rfl) (of_decide_eq_true (by kernel_rfl)) k0 bel lt0) (trodAll_cons_mk (shut_int Try.underlying3 w1) (trodAll_cons_mk (shut_int Try.underlying22 w2) (trodAll_cons_mk (shut_int Try.underlying28 w3) trodAll_mk0)))), rfl, bel.frame _, fun h => by cases h⟩

theorem over : Rows.rotBytesRow.holds Try.pinned (OpenSpec.ofChange Rows.rotBytesSpec) :=
  OpenClaim.holds_of_wide 4 Try.f4 rfl rfl rfl rfl rfl rfl rfl ⟨rfl, rfl, rfl, rfl, rfl⟩ rfl rfl rfl rfl rfl (by kernel_rfl) Try.func4 (by kernel_rfl)
    (of_decide_eq_true (by kernel_rfl)) (by unfold Func.isWrapper; first | (rw [if_pos (by decide +kernel)]; kernel_rfl) | (rw [if_neg (by decide +kernel)]; exact ⟨rfl, rfl⟩))
    (fun os started H enc _ => lifted os started H enc)

theorem proved : Rows.RotBytesSaid := over
end Go.Proofs.Ytomdlcgklfcocaa.rotBytes
