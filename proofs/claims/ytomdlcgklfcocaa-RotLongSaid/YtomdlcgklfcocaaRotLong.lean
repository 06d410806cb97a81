/- RotLong returns true for every input: the bytes of a long word are those of its two halves. No condition. -/
import Derived.Test.YtomdlcgklfcocaaRotG
import Derived.Test.YtomdlcgklfcocaaRowIn
import Derived.ChangeOld
namespace Go.Proofs.Ytomdlcgklfcocaa.rotLong
open Go.ChangeShapes Go.WideShapes Go.ChangeAt Go.RowKit RotM RotN RotE RotF RotG

set_option maxHeartbeats 1000000 in
theorem walk (a0 a1 : Int) (w : World) (w0 : (Lit.int .u32 a0).wf = true) (w1 : (Lit.int .u32 a1).wf = true) :
    Calls Try.prog 10 #[.int .u32 a0, .int .u32 a1] w fun e w' => e = .returned (.bool true) ∧ Below w.heap.size w w' := by
  have h0 : 0 ≤ a0 ∧ a0 ≤ 4294967295 := by obtain ⟨x, rfl⟩ := u_of w0; exact u_range x
  have h1 : 0 ≤ a1 ∧ a1 ≤ 4294967295 := by obtain ⟨x, rfl⟩ := u_of w1; exact u_range x
  clear w0 w1
  obtain ⟨b0, b1, b2, b3, r0, r1, r2, r3, e0⟩ := bytes_of a0 h0
  obtain ⟨c0, c1, c2, c3, s0, s1, s2, s3, e1⟩ := bytes_of a1 h1
  have E0 := aside e0
  have E1 := aside e1
  clear e0 e1
  go_enter Try.func10, Try.ntmps10
  go_wp2_with fail
  refine (awake _).mono ?_
  rintro e w1 ⟨rfl, k1⟩
  go_wp2_with fail
  refine (fourB b0 b1 b2 b3 r0 r1 r2 r3 a0 E0.out _).mono ?_
  rintro e w2 ⟨rfl, h2⟩
  have k2 : Below w.heap.size w w2 := k1.trans (h2.mono k1.size)
  clear k1 h2
  go_wp2_with fail
  refine (fourB c0 c1 c2 c3 s0 s1 s2 s3 a1 E1.out _).mono ?_
  rintro e w3 ⟨rfl, h3⟩
  go_wp2_with fail
  refine (longB b0 b1 b2 b3 c0 c1 c2 c3 r0 r1 r2 r3 s0 s1 s2 s3 _ (by rw [E0.out, E1.out]) _).mono ?_
  rintro e w4 ⟨rfl, h4⟩
  go_wp2_with fail
  have m3 : w2.heap.size < w3.heap.size := by have := h3.size; simp at this; omega
  have m4 : w3.heap.size < w4.heap.size := by have := h4.size; simp at this; omega
  have p1 := (((At.new w2 _ _).below h3 (by simp)).alloc (.cells #[.int .u8 c0, .int .u8 c1, .int .u8 c2, .int .u8 c3] 31)).below h4 (by simp; omega)
  have p2 := (At.new w3 _ _).below h4 (by simp)
  have q1 := p1.alloc (.cells #[.int .u8 b0, .int .u8 b1, .int .u8 b2, .int .u8 b3, .int .u8 c0, .int .u8 c1, .int .u8 c2, .int .u8 c3] 33)
  have q2 := p2.alloc (.cells #[.int .u8 b0, .int .u8 b1, .int .u8 b2, .int .u8 b3, .int .u8 c0, .int .u8 c1, .int .u8 c2, .int .u8 c3] 33)
  have q3 := At.new w4 #[.int .u8 b0, .int .u8 b1, .int .u8 b2, .int .u8 b3, .int .u8 c0, .int .u8 c1, .int .u8 c2, .int .u8 c3] 33
  have k5 : Below w.heap.size w (w4.alloc (.cells #[.int .u8 b0, .int .u8 b1, .int .u8 b2, .int .u8 b3, .int .u8 c0, .int .u8 c1, .int .u8 c2, .int .u8 c3] 33)) := by
    have t2 := k2.size
    have t3 := ((k2.alloc t2 _).trans (h3.mono (by simp; omega)))
    have t4 := ((t3.alloc t3.size _).trans (h4.mono (by simp; omega)))
    exact t4.alloc t4.size _
  generalize w4.alloc (.cells #[.int .u8 b0, .int .u8 b1, .int .u8 b2, .int .u8 b3, .int .u8 c0, .int .u8 c1, .int .u8 c2, .int .u8 c3] 33) = W at *
  generalize w2.heap.size = g2 at *
  generalize w3.heap.size = g3 at *
  generalize w4.heap.size = g4 at *
  have x0 := q1.cell 0
  have x1 := q1.cell 1
  have x2 := q1.cell 2
  have x3 := q1.cell 3
  have y0 := q2.cell 0
  have y1 := q2.cell 1
  have y2 := q2.cell 2
  have y3 := q2.cell 3
  have z0 := q3.cell 0
  have z1 := q3.cell 1
  have z2 := q3.cell 2
  have z3 := q3.cell 3
  have z4 := q3.cell 4
  have z5 := q3.cell 5
  have z6 := q3.cell 6
  have z7 := q3.cell 7
  simp at x0 x1 x2 x3 y0 y1 y2 y3 z0 z1 z2 z3 z4 z5 z6 z7
  clear p1 p2 q1 q2 q3 h3 h4 k2 r0 r1 r2 r3 s0 s1 s2 s3
  refine wp_loop_rounds 5 ?_
  iterate 4
    rw [rounds_succ]
    go_wp2
    go_quiet (fail)
    go_wp2
  rw [rounds_succ]
  go_wp2
  go_ret
  exact ⟨rfl, k5.os, k5.tape, k5.output, k5.size, k5.block⟩

theorem own : ownKnob Try.prog.godebug = none := by kernel_rfl
set_option linter.unusedVariables false in
set_option maxRecDepth 100000 in
theorem lifted (os : Os) (started : os.Started) (H : Type) (enc : TypeId × Value → H) :
    ReturnsInHanded {} Try.checked os 10 .any (Rows.rotLongSpec.pre6 enc Try.prog Try.f10 Rows.rotLongRow.domain false) (Rows.rotLongSpec.post enc Try.prog Try.f10 false true false false) := by
  refine returnsInHanded_of_change (C := Try.checked) own started (by kernel_rfl) Try.func10
    (ChangeSpec.witness6 (enc := enc) (C := Try.checked) false ⟨#[], #[.int .u32 0, .int .u32 0], []⟩ 8 (by kernel_rfl) (by kernel_rfl) (by kernel_rfl) (by kernel_rfl)) ?_
  intro W base args ds gs before hval0 hW hcnd _
  have hval : ∀ (j : Nat) t v, Try.f10.params[j]? = some t → args[j]? = some v → Value.okWide Try.prog W .any base t v := hval0
  have hW' := hW
  obtain ⟨p, q, hA0, hV, rfl, hfz, hnd⟩ := hW
  have hA : DataW.TrodAll enc Try.prog W 0 (fun _ => true) true Try.f10.params.toList args.toList ds p := hA0
  rw [Try.params10] at hA hval
  obtain ⟨v0, vs0, d0, ds0, p0, q0, hargs, rfl, rfl, h0, r0⟩ := trodAll_cons hA
  obtain ⟨v1, vs1, d1, ds1, p1, q1, rfl, rfl, rfl, h1, r1⟩ := trodAll_cons r0
  obtain ⟨rfl, rfl, rfl⟩ := trodAll_nil r1
  obtain rfl : args = #[v0, v1] := by cases args; simp_all
  obtain ⟨rfl, rfl⟩ := trodVars_none hV
  obtain ⟨a0, rfl, rfl, rfl, w0⟩ := open_int Try.underlying22 (hval 0 22 v0 rfl rfl) h0
  obtain ⟨a1, rfl, rfl, rfl, w1⟩ := open_int Try.underlying22 (hval 1 22 v1 rfl rfl) h1
  clear hA0 hval0
  refine (walk a0 a1 W w0 w1).mono fun e W' ⟨he, bel⟩ => ?_
  subst he
  exact ⟨_, rfl, _, _, _, [], _, [], hW', trodAll_mk1 (shut_bool Try.underlying4 _), (trodAll_cons_mk (shut_int Try.underlying22 w0) (trodAll_cons_mk (shut_int Try.underlying22 w1) trodAll_mk0)), rfl, bel.frame _, fun h => by cases h⟩

theorem over : Rows.rotLongRow.holds Try.pinned (OpenSpec.ofChange Rows.rotLongSpec) :=
  OpenClaim.holds_of_wide 10 Try.f10 rfl rfl rfl rfl rfl rfl rfl ⟨rfl, rfl, rfl, rfl, rfl⟩ rfl rfl rfl rfl rfl (by kernel_rfl) Try.func10 (by kernel_rfl)
    (of_decide_eq_true (by kernel_rfl)) (by unfold Func.isWrapper; first | (rw [if_pos (by decide +kernel)]; kernel_rfl) | (rw [if_neg (by decide +kernel)]; exact ⟨rfl, rfl⟩))
    (fun os started H enc _ => lifted os started H enc)

theorem proved : Rows.RotLongSaid := over
end Go.Proofs.Ytomdlcgklfcocaa.rotLong
