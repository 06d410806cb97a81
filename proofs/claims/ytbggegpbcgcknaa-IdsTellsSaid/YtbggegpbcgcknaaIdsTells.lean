/- IdsTells returns true for every input: any ids are sorted, rise, or not, and, as sets of two, are what the document says. No condition. -/
import Derived.Test.YtbggegpbcgcknaaIdA
import Derived.Test.YtbggegpbcgcknaaOpenI
import Derived.ShutString
import Derived.ChangeOld
namespace Go.Proofs.Ytbggegpbcgcknaa.idsTells
open Go Go.ChangeShapes Go.WideShapes Go.ChangeAt Go.RowKit IdM Byt IdW IdC IdV IdU IdY IdX IdG IdA

set_option maxRecDepth 100000 in
set_option maxHeartbeats 8000000 in
theorem walk (a0 : Option Addr) (c0 : Nat) (l0 : List Idn) (a1 : Option Addr) (c1 : Nat) (l1 : List Idn) (x y : Idn) (w : World) (w0 : SlI w a0 c0 l0) (w1 : SlI w a1 c1 l1) :
    Calls Try.prog 3 #[.slice a0 l0.length c0, .slice a1 l1.length c1, .agg (cs x), .agg (cs y)] w fun e w' => e = .returned (.bool true) ∧ Below w.heap.size w w' := by
  have m0 : l0.length ≤ 9223372036854775807 := by have := w0.1; have := w0.2.1; unfold maxLen at this; omega
  have m1 : l1.length ≤ 9223372036854775807 := by have := w1.1; have := w1.2.1; unfold maxLen at this; omega
  have X0 : Box ((w.alloc (.cells (cs x) 24)).alloc (.cells (cs y) 24)) w.heap.size x := (Box.new w x _).alloc _
  have Y0 : Box ((w.alloc (.cells (cs x) 24)).alloc (.cells (cs y) 24)) (w.heap.size + 1) y := by
    have := Box.new (w.alloc (.cells (cs x) 24)) y 24
    simpa using this
  have q0 : Below w.heap.size w ((w.alloc (.cells (cs x) 24)).alloc (.cells (cs y) 24)) := ((Below.refl _ _).alloc (Nat.le_refl _) _).alloc (by simp) _
  have E0 : Env2 w ((w.alloc (.cells (cs x) 24)).alloc (.cells (cs y) 24)) a0 c0 l0 a1 c1 l1 := ⟨w0.below q0, w1.below q0, q0⟩
  clear w0 w1 q0
  go_enter Try.func3, Try.ntmps3
  go_wp2_with fail
  refine (awake_ret _).mono ?_
  rintro e w1 ⟨rfl, k1⟩
  have E1 := E0.on k1
  have X1 := Box.on X0 k1
  have Y1 := Box.on Y0 k1
  clear E0 X0 Y0 k1
  by_cases h0 : 30 < l0.length
  · go_wp2_with fail
    go_ret
    exact ⟨rfl, E1.kb⟩
  by_cases h1 : 30 < l1.length
  · go_wp2_with fail
    go_ret
    exact ⟨rfl, E1.kb⟩
  go_wp2_with fail
  refine (sort_ret a0 c0 l0 _ E1.s0 (by omega)).mono ?_
  rintro e w2 h2
  obtain ⟨A2, C2, rfl, S2, k2⟩ := NewI.s h2
  have E2 := E1.on k2
  have X2 := Box.on X1 k2
  have Y2 := Box.on Y1 k2
  clear E1 X1 Y1 k2 h2
  go_wp2_with fail
  refine (rsort_ret a0 c0 l0 _ E2.s0 (by omega)).mono ?_
  rintro e w3 h3
  obtain ⟨A3, C3, rfl, S3, k3⟩ := NewI.s h3
  have E3 := E2.on k3
  have X3 := Box.on X2 k3
  have Y3 := Box.on Y2 k3
  have S2' := S2.below k3
  clear E2 X2 Y2 k3 h3 S2
  go_wp2_with fail
  refine (same_ret A2 A3 C2 C3 (IdM.sort l0) (IdM.sort l0) _ S2' S3).mono ?_
  rintro e w4 ⟨rfl, k4⟩
  rw [same_self]
  have E4 := E3.on k4
  have X4 := Box.on X3 k4
  have Y4 := Box.on Y3 k4
  clear E3 X3 Y3 k4
  clear S2' S3
  go_wp2_with fail
  refine (both_ret a0 a1 c0 c1 l0 l1 _ E4.s0 E4.s1 (by omega) (by omega)).mono ?_
  rintro e w5 h5
  obtain ⟨A5, C5, rfl, S5, k5⟩ := NewI.s h5
  have E5 := E4.on k5
  have X5 := Box.on X4 k5
  have Y5 := Box.on Y4 k5
  clear E4 X4 Y4 k5 h5
  go_wp2_with fail
  refine (rboth_ret a0 a1 c0 c1 l0 l1 _ E5.s0 E5.s1 (by omega) (by omega)).mono ?_
  rintro e w6 h6
  obtain ⟨A6, C6, rfl, S6, k6⟩ := NewI.s h6
  have E6 := E5.on k6
  have X6 := Box.on X5 k6
  have Y6 := Box.on Y5 k6
  have S5' := S5.below k6
  clear E5 X5 Y5 k6 h6 S5
  go_wp2_with fail
  refine (same_ret A5 A6 C5 C6 (both l0 l1) (both l0 l1) _ S5' S6).mono ?_
  rintro e w7 ⟨rfl, k7⟩
  rw [same_self]
  have E7 := E6.on k7
  have X7 := Box.on X6 k7
  have Y7 := Box.on Y6 k7
  clear E6 X6 Y6 k7
  clear S5' S6
  go_wp2_with fail
  refine (common_ret a0 a1 c0 c1 l0 l1 _ E7.s0 E7.s1 (by omega) (by omega)).mono ?_
  rintro e w8 h8
  obtain ⟨A8, C8, rfl, S8, k8⟩ := NewI.s h8
  have E8 := E7.on k8
  have X8 := Box.on X7 k8
  have Y8 := Box.on Y7 k8
  clear E7 X7 Y7 k8 h8
  go_wp2_with fail
  refine (rcommon_ret a0 a1 c0 c1 l0 l1 _ E8.s0 E8.s1 (by omega)).mono ?_
  rintro e w9 h9
  obtain ⟨A9, C9, rfl, S9, k9⟩ := NewI.s h9
  have E9 := E8.on k9
  have X9 := Box.on X8 k9
  have Y9 := Box.on Y8 k9
  have S8' := S8.below k9
  clear E8 X8 Y8 k9 h9 S8
  go_wp2_with fail
  refine (same_ret A8 A9 C8 C9 (common l0 l1) (common l0 l1) _ S8' S9).mono ?_
  rintro e w10 ⟨rfl, k10⟩
  rw [same_self]
  have E10 := E9.on k10
  have X10 := Box.on X9 k10
  have Y10 := Box.on Y9 k10
  clear E9 X9 Y9 k10
  clear S8' S9
  go_wp2_with fail
  refine (without_ret a0 a1 c0 c1 l0 l1 _ E10.s0 E10.s1 (by omega) (by omega)).mono ?_
  rintro e w11 h11
  obtain ⟨A11, C11, rfl, S11, k11⟩ := NewI.s h11
  have E11 := E10.on k11
  have X11 := Box.on X10 k11
  have Y11 := Box.on Y10 k11
  clear E10 X10 Y10 k11 h11
  go_wp2_with fail
  refine (rwithout_ret a0 a1 c0 c1 l0 l1 _ E11.s0 E11.s1 (by omega)).mono ?_
  rintro e w12 h12
  obtain ⟨A12, C12, rfl, S12, k12⟩ := NewI.s h12
  have E12 := E11.on k12
  have X12 := Box.on X11 k12
  have Y12 := Box.on Y11 k12
  have S11' := S11.below k12
  clear E11 X11 Y11 k12 h12 S11
  go_wp2_with fail
  refine (same_ret A11 A12 C11 C12 (without l0 l1) (without l0 l1) _ S11' S12).mono ?_
  rintro e w13 ⟨rfl, k13⟩
  rw [same_self]
  have E13 := E12.on k13
  have X13 := Box.on X12 k13
  have Y13 := Box.on Y12 k13
  clear E12 X12 Y12 k13
  clear S11' S12
  go_wp2_with fail
  refine (rrises_ret a0 c0 l0 _ E13.s0).mono ?_
  rintro e w14 ⟨rfl, k14⟩
  have E14 := E13.on k14
  have X14 := Box.on X13 k14
  have Y14 := Box.on Y13 k14
  clear E13 X13 Y13 k14
  go_wp2_with (refine wpList_load_box rfl _ rfl _ rfl x X14 ?_)
  refine (rhas_ret a0 c0 l0 x _ E14.s0).mono ?_
  rintro e w15 ⟨rfl, k15⟩
  have E15 := E14.on k15
  have X15 := Box.on X14 k15
  have Y15 := Box.on Y14 k15
  clear E14 X14 Y14 k15
  go_wp2_with (first | (refine wpList_load_box rfl _ rfl _ rfl x X15 ?_) | (refine wpList_load_box rfl _ rfl _ rfl y Y15 ?_))
  refine (rless_ret x y _).mono ?_
  rintro e w16 ⟨rfl, g16⟩
  have k16 := g16.below
  have E16 := E15.on k16
  have X16 := Box.on X15 k16
  have Y16 := Box.on Y15 k16
  clear E15 X15 Y15 k16
  obtain ⟨R, hR⟩ : ∃ R, risesB l0 = R := ⟨_, rfl⟩
  obtain ⟨H, hH⟩ : ∃ H, decide (x ∈ l0) = H := ⟨_, rfl⟩
  obtain ⟨L, hL⟩ : ∃ L, less x y = L := ⟨_, rfl⟩
  simp only [hR, hH, hL]
  have HR := aside hR
  have HH := aside hH
  have HL := aside hL
  clear hR hH hL
  go_wp2_with fail
  refine (rises_ret a0 c0 l0 _ E16.s0).mono ?_
  rintro e w17 ⟨rfl, k17⟩
  rw [HR.out]
  have E17 := E16.on k17
  have X17 := Box.on X16 k17
  have Y17 := Box.on Y16 k17
  clear E16 X16 Y16 k17
  go_wp2_with (refine gload _ rfl _ rfl x X17 (by kernel_rfl) ?_)
  refine (has_ret a0 c0 l0 x _ E17.s0).mono ?_
  rintro e w18 ⟨rfl, k18⟩
  rw [HH.out]
  have E18 := E17.on k18
  have X18 := Box.on X17 k18
  have Y18 := Box.on Y17 k18
  clear E17 X17 Y17 k18
  go_wp2_with (first | (refine gload _ rfl _ rfl x X18 (by kernel_rfl) ?_) | (refine gload _ rfl _ rfl y Y18 (by kernel_rfl) ?_))
  refine (less_ret x y _).mono ?_
  rintro e w19 ⟨rfl, g19⟩
  rw [HL.out]
  have E19 := E18.on g19.below
  go_wp2_with fail
  go_ret
  exact ⟨rfl, E19.kb⟩

theorem own : ownKnob Try.prog.godebug = none := by kernel_rfl
theorem laidOut : laidOutB Try.prog = true := by kernel_rfl
set_option linter.unusedVariables false in
set_option maxRecDepth 100000 in
theorem lifted (os : Os) (started : os.Started) (H : Type) (enc : TypeId × Value → H) :
    ReturnsInHanded {} Try.checked os 3 .any (Rows.idsTellsSpec.pre6 enc Try.prog Try.f3 Rows.idsTellsRow.domain false) (Rows.idsTellsSpec.post enc Try.prog Try.f3 false true false false) := by
  refine returnsInHanded_of_change (C := Try.checked) own started (by kernel_rfl) Try.func3
    (ChangeSpec.witness6 (enc := enc) (C := Try.checked) false ⟨#[], #[.slice none 0 0, .slice none 0 0, .agg #[.int .u8 0, .int .u8 0, .int .u8 0, .int .u8 0, .int .u8 0, .int .u8 0, .int .u8 0, .int .u8 0, .int .u8 0, .int .u8 0, .int .u8 0, .int .u8 0, .int .u8 0, .int .u8 0, .int .u8 0, .int .u8 0, .int .u8 0, .int .u8 0, .int .u8 0, .int .u8 0, .int .u8 0, .int .u8 0, .int .u8 0, .int .u8 0, .int .u8 0, .int .u8 0, .int .u8 0, .int .u8 0, .int .u8 0, .int .u8 0, .int .u8 0, .int .u8 0], .agg #[.int .u8 0, .int .u8 0, .int .u8 0, .int .u8 0, .int .u8 0, .int .u8 0, .int .u8 0, .int .u8 0, .int .u8 0, .int .u8 0, .int .u8 0, .int .u8 0, .int .u8 0, .int .u8 0, .int .u8 0, .int .u8 0, .int .u8 0, .int .u8 0, .int .u8 0, .int .u8 0, .int .u8 0, .int .u8 0, .int .u8 0, .int .u8 0, .int .u8 0, .int .u8 0, .int .u8 0, .int .u8 0, .int .u8 0, .int .u8 0, .int .u8 0, .int .u8 0]], []⟩ 8 (by kernel_rfl) (by kernel_rfl) (by kernel_rfl) (by kernel_rfl)) ?_
  intro W base args ds gs before hval0 hW hcnd _
  have hval : ∀ (j : Nat) t v, Try.f3.params[j]? = some t → args[j]? = some v → Value.okWide Try.prog W .any base t v := hval0
  have hW' := hW
  obtain ⟨p, q, hA0, hV, rfl, hfz, hnd⟩ := hW
  have hA : DataW.TrodAll enc Try.prog W 0 (fun _ => true) true Try.f3.params.toList args.toList ds p := hA0
  rw [Try.params3] at hA hval
  obtain ⟨v0, vs0, d0, ds0, p0, q0, hargs, rfl, rfl, h0, r0⟩ := trodAll_cons hA
  obtain ⟨v1, vs1, d1, ds1, p1, q1, rfl, rfl, rfl, h1, r1⟩ := trodAll_cons r0
  obtain ⟨v2, vs2, d2, ds2, p2, q2, rfl, rfl, rfl, h2, r2⟩ := trodAll_cons r1
  obtain ⟨v3, vs3, d3, ds3, p3, q3, rfl, rfl, rfl, h3, r3⟩ := trodAll_cons r2
  obtain ⟨rfl, rfl, rfl⟩ := trodAll_nil r3
  obtain rfl : args = #[v0, v1, v2, v3] := by cases args; simp_all
  obtain ⟨rfl, rfl⟩ := trodVars_none hV
  have k0 := h0
  have lt0 : ∀ x ∈ p0, x.block < W.heap.size := by obtain ⟨m, hm⟩ := k0; exact DataW.trod_lt m _ _ _ hm
  obtain ⟨a0, cap0, l0, rfl, w0⟩ := OpenI.open_ids Try.underlying22 Try.underlying24 Try.underlying5 (by kernel_rfl) (by kernel_rfl) (hval 0 22 v0 rfl rfl) h0
  have k1 := h1
  have lt1 : ∀ x ∈ p1, x.block < W.heap.size := by obtain ⟨m, hm⟩ := k1; exact DataW.trod_lt m _ _ _ hm
  obtain ⟨a1, cap1, l1, rfl, w1⟩ := OpenI.open_ids Try.underlying22 Try.underlying24 Try.underlying5 (by kernel_rfl) (by kernel_rfl) (hval 1 22 v1 rfl rfl) h1
  have k2 := h2
  have lt2 : ∀ x ∈ p2, x.block < W.heap.size := by obtain ⟨m, hm⟩ := k2; exact DataW.trod_lt m _ _ _ hm
  obtain ⟨a2, rfl⟩ := OpenI.open_id Try.underlying24 Try.underlying5 (by kernel_rfl) (by kernel_rfl) (hval 2 24 v2 rfl rfl) h2
  have k3 := h3
  have lt3 : ∀ x ∈ p3, x.block < W.heap.size := by obtain ⟨m, hm⟩ := k3; exact DataW.trod_lt m _ _ _ hm
  obtain ⟨a3, rfl⟩ := OpenI.open_id Try.underlying24 Try.underlying5 (by kernel_rfl) (by kernel_rfl) (hval 3 24 v3 rfl rfl) h3
  clear hA0 hval0
  refine (walk a0 cap0 l0 a1 cap1 l1 a2 a3 W w0 w1).mono fun e W' ⟨he, bel⟩ => ?_
  subst he
  exact ⟨_, rfl, _, _, _, [], _, [], hW', trodAll_mk1 (shut_bool Try.underlying4 _), (trodAll_cons_mk (Below.trod laidOut (by kernel_rfl) (of_decide_eq_true (by kernel_rfl)) k0 bel lt0) (trodAll_cons_mk (Below.trod laidOut (by kernel_rfl) (of_decide_eq_true (by kernel_rfl)) k1 bel lt1) (trodAll_cons_mk (Below.trod laidOut (by kernel_rfl) (of_decide_eq_true (by kernel_rfl)) k2 bel lt2) (trodAll_cons_mk (Below.trod laidOut (by kernel_rfl) (of_decide_eq_true (by kernel_rfl)) k3 bel lt3) trodAll_mk0)))), rfl, bel.frame _, fun h => by cases h⟩

theorem over : Rows.idsTellsRow.holds Try.pinned (OpenSpec.ofChange Rows.idsTellsSpec) :=
  OpenClaim.holds_of_wide 3 Try.f3 rfl rfl rfl rfl rfl rfl rfl ⟨rfl, rfl, rfl, rfl, rfl⟩ rfl rfl rfl rfl rfl (by kernel_rfl) Try.func3 (by kernel_rfl)
    (of_decide_eq_true (by kernel_rfl)) (by unfold Func.isWrapper; first | (rw [if_pos (by decide +kernel)]; kernel_rfl) | (rw [if_neg (by decide +kernel)]; exact ⟨rfl, rfl⟩))
    (fun os started H enc _ => lifted os started H enc)

theorem proved : Rows.IdsTellsSaid := over
end Go.Proofs.Ytbggegpbcgcknaa.idsTells
