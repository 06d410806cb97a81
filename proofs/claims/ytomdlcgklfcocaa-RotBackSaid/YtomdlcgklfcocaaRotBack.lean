/- RotBack returns true for every input: the word of a word's bytes is it, and the bytes of a word of bytes are these. No condition. -/
import Derived.Test.YtomdlcgklfcocaaRotH
import Derived.ChangeOld
namespace Go.Proofs.Ytomdlcgklfcocaa.rotBack
open Go.ChangeShapes Go.WideShapes Go.ChangeAt Go.RowKit RotM RotD RotN RotE RotF RotG RotH

theorem word_back (g : Nat) (b0 b1 b2 b3 a : Int) (ha : four4 b0 b1 b2 b3 = a) (w : World)
    (c0 : w.cell? ⟨g, 0, none⟩ = some (.int .u8 b0)) (c1 : w.cell? ⟨g, 1, none⟩ = some (.int .u8 b1)) (c2 : w.cell? ⟨g, 2, none⟩ = some (.int .u8 b2)) (c3 : w.cell? ⟨g, 3, none⟩ = some (.int .u8 b3))
    (r0 : B b0) (r1 : B b1) (r2 : B b2) (r3 : B b3) :
    Calls Try.prog 18 #[.slice (some ⟨g, 0, none⟩) 4 4, .int .i64 0] w fun e w' => e = .returned (.tuple #[.int .u32 a, .bool true]) ∧ Below w.heap.size w w' := by
  subst ha
  exact word_c g b0 b1 b2 b3 w c0 c1 c2 c3 r0 r1 r2 r3

set_option maxHeartbeats 400000 in
theorem out (A : Option Addr) (len cap : Nat) (p x : Int) (w : World) (h : 100 < len) (hm : len ≤ 9223372036854775807) :
    Calls Try.prog 6 #[.int .u32 x, .slice A len cap, .int .i64 p] w fun e w' => e = .returned (.bool true) ∧ Below w.heap.size w w' := by
  go_enter Try.func6, Try.ntmps6
  go_wp2_with fail
  refine (awake _).mono ?_
  rintro e w1 ⟨rfl, k1⟩
  go_wp2_with fail
  go_ret
  exact ⟨rfl, k1⟩

set_option maxHeartbeats 1000000 in
theorem no (A : Option Addr) (len cap : Nat) (p x : Int) (w : World) (h : len ≤ 100) (hp : -9223372036854775808 ≤ p ∧ p ≤ 9223372036854775807) (hx : 0 ≤ x ∧ x ≤ 4294967295) (hc : p < 0 ∨ (len : Int) - 4 < p) :
    Calls Try.prog 6 #[.int .u32 x, .slice A len cap, .int .i64 p] w fun e w' => e = .returned (.bool true) ∧ Below w.heap.size w w' := by
  obtain ⟨b0, b1, b2, b3, r0, r1, r2, r3, e0⟩ := bytes_of x hx
  have E0 := aside e0
  clear e0
  have hc' : p < 0 ∨ (0 ≤ p ∧ (len : Int) - 4 < p) := by omega
  have HC := aside hc
  clear hc
  rcases hc' with h1 | ⟨h1, h2⟩
  all_goals
    go_enter Try.func6, Try.ntmps6
    go_wp2_with fail
    refine (awake _).mono ?_
    rintro e w1 ⟨rfl, k1⟩
    go_wp2_with fail
    refine (fourB b0 b1 b2 b3 r0 r1 r2 r3 x E0.out _).mono ?_
    rintro e w2 ⟨rfl, m2⟩
    have k2 : Below w.heap.size w w2 := k1.trans (m2.mono k1.size)
    clear k1 m2
    go_wp2_with fail
    refine (word_back _ b0 b1 b2 b3 x E0.out _ (by simp [go_sem]) (by simp [go_sem]) (by simp [go_sem]) (by simp [go_sem]) r0 r1 r2 r3).mono ?_
    rintro e w3 ⟨rfl, m3⟩
    have k3 : Below w.heap.size w w3 := ((k2.alloc k2.size _).alloc (by have := k2.size; simp; omega) _).trans (m3.mono (by have := k2.size; simp; omega))
    clear k2 m3
    go_wp2_with fail
    refine (word_no A len cap p h hp HC.out _).mono ?_
    rintro e w' ⟨rfl, rfl⟩
    go_wp2_with fail
    go_ret
    exact ⟨rfl, k3⟩

set_option maxHeartbeats 1000000 in
theorem yes (b off len cap k : Nat) (c0 c1 c2 c3 x : Int) (w : World) (h : len ≤ 100) (hcap : len ≤ cap) (hk : k + 4 ≤ len) (hx : 0 ≤ x ∧ x ≤ 4294967295)
    (d0 : w.cell? ⟨b, off + k, none⟩ = some (.int .u8 c0)) (d1 : w.cell? ⟨b, off + (k + 1), none⟩ = some (.int .u8 c1)) (d2 : w.cell? ⟨b, off + (k + 2), none⟩ = some (.int .u8 c2)) (d3 : w.cell? ⟨b, off + (k + 3), none⟩ = some (.int .u8 c3))
    (s0 : B c0) (s1 : B c1) (s2 : B c2) (s3 : B c3) :
    Calls Try.prog 6 #[.int .u32 x, .slice (some ⟨b, off, none⟩) len cap, .int .i64 (k : Int)] w fun e w' => e = .returned (.bool true) ∧ Below w.heap.size w w' := by
  obtain ⟨b0, b1, b2, b3, r0, r1, r2, r3, e0⟩ := bytes_of x hx
  have E0 := aside e0
  clear e0
  have hb : b < w.heap.size := block_lt_of_cell d0
  go_enter Try.func6, Try.ntmps6
  go_wp2_with fail
  refine (awake _).mono ?_
  rintro e w1 ⟨rfl, k1⟩
  go_wp2_with fail
  refine (fourB b0 b1 b2 b3 r0 r1 r2 r3 x E0.out _).mono ?_
  rintro e w2 ⟨rfl, m2⟩
  have k2 : Below w.heap.size w w2 := k1.trans (m2.mono k1.size)
  clear k1 m2
  go_wp2_with fail
  refine (word_back _ b0 b1 b2 b3 x E0.out _ (by simp [go_sem]) (by simp [go_sem]) (by simp [go_sem]) (by simp [go_sem]) r0 r1 r2 r3).mono ?_
  rintro e w3 ⟨rfl, m3⟩
  have k3 : Below w.heap.size w w3 := ((k2.alloc k2.size _).alloc (by have := k2.size; simp; omega) _).trans (m3.mono (by have := k2.size; simp; omega))
  clear k2 m3
  go_wp2_with fail
  refine (word_yes b off len cap k c0 c1 c2 c3 h hcap hk _ ((k3.cell hb).trans d0) ((k3.cell hb).trans d1) ((k3.cell hb).trans d2) ((k3.cell hb).trans d3) s0 s1 s2 s3).mono ?_
  rintro e w4 ⟨rfl, m4⟩
  have k4 : Below w.heap.size w w4 := k3.trans (m4.mono k3.size)
  clear k3 m4
  go_wp2_with fail
  refine (fourB c0 c1 c2 c3 s0 s1 s2 s3 _ rfl _).mono ?_
  rintro e w5 ⟨rfl, m5⟩
  have k5 : Below w.heap.size w w5 := k4.trans (m5.mono k4.size)
  clear k4 m5
  go_wp2_with fail
  have q := At.new w5 #[.int .u8 c0, .int .u8 c1, .int .u8 c2, .int .u8 c3] 31
  have k6 := k5.alloc k5.size (.cells #[.int .u8 c0, .int .u8 c1, .int .u8 c2, .int .u8 c3] 31)
  clear k5
  generalize w5.alloc (.cells #[.int .u8 c0, .int .u8 c1, .int .u8 c2, .int .u8 c3] 31) = W at *
  generalize w5.heap.size = g at *
  have x0 := q.cell 0
  have x1 := q.cell 1
  have x2 := q.cell 2
  have x3 := q.cell 3
  simp at x0 x1 x2 x3
  have y0 := (k6.cell (p := ⟨b, off + k, none⟩) hb).trans d0
  have y1 := (k6.cell (p := ⟨b, off + (k + 1), none⟩) hb).trans d1
  have y2 := (k6.cell (p := ⟨b, off + (k + 2), none⟩) hb).trans d2
  have y3 := (k6.cell (p := ⟨b, off + (k + 3), none⟩) hb).trans d3
  clear q d0 d1 d2 d3 hb r0 r1 r2 r3 s0 s1 s2 s3 hx hcap
  have t1 : decide ((0 : Int) ≤ (k : Int)) = true := by simp
  have t2 : decide ((k : Int) ≤ (len : Int) - 4) = true := by simp; omega
  go_quiet (fail)
  go_wp2
  go_ret
  exact ⟨rfl, k6.os, k6.tape, k6.output, k6.size, k6.block⟩

theorem walk (a0 : Int) (a1 : Option Addr) (len1 cap1 : Nat) (z1 : List Int) (a2 : Int) (w : World) (w0 : (Lit.int .u32 a0).wf = true) (w1 : RowIn.RowIn .u8 w a1 len1 cap1 z1) (w2 : (Lit.int .i64 a2).wf = true) :
    Calls Try.prog 6 #[.int .u32 a0, .slice a1 len1 cap1, .int .i64 a2] w fun e w' => e = .returned (.bool true) ∧ Below w.heap.size w w' := by
  have h1 := w1.1
  by_cases h : 100 < len1
  · have h2 := w1.2.1
    unfold maxLen at h2
    exact out a1 len1 cap1 a2 a0 w h (by omega)
  · by_cases hc : a2 < 0 ∨ (len1 : Int) - 4 < a2
    · exact no a1 len1 cap1 a2 a0 w (by omega) (i64_range w2) (u32_range w0) hc
    · obtain ⟨k, rfl⟩ := Int.eq_ofNat_of_zero_le (a := a2) (by omega)
      obtain ⟨b, off, rfl, hcell⟩ := w1.plain (by omega)
      exact yes b off len1 cap1 k _ _ _ _ a0 w (by omega) h1 (by omega) (u32_range w0) (hcell k (by omega)) (hcell (k + 1) (by omega)) (hcell (k + 2) (by omega)) (hcell (k + 3) (by omega))
        (byte_at w1.2.2.2.1 _) (byte_at w1.2.2.2.1 _) (byte_at w1.2.2.2.1 _) (byte_at w1.2.2.2.1 _)

theorem own : ownKnob Try.prog.godebug = none := by kernel_rfl
theorem laidOut : laidOutB Try.prog = true := by kernel_rfl
set_option linter.unusedVariables false in
set_option maxRecDepth 100000 in
theorem lifted (os : Os) (started : os.Started) (H : Type) (enc : TypeId × Value → H) :
    ReturnsInHanded {} Try.checked os 6 .any (Rows.rotBackSpec.pre6 enc Try.prog Try.f6 Rows.rotBackRow.domain false) (Rows.rotBackSpec.post enc Try.prog Try.f6 false true false false) := by
  refine returnsInHanded_of_change (C := Try.checked) own started (by kernel_rfl) Try.func6
    (ChangeSpec.witness6 (enc := enc) (C := Try.checked) false ⟨#[], #[.int .u32 0, .slice none 0 0, .int .i64 0], []⟩ 8 (by kernel_rfl) (by kernel_rfl) (by kernel_rfl) (by kernel_rfl)) ?_
  intro W base args ds gs before hval0 hW hcnd _
  have hval : ∀ (j : Nat) t v, Try.f6.params[j]? = some t → args[j]? = some v → Value.okWide Try.prog W .any base t v := hval0
  have hW' := hW
  obtain ⟨p, q, hA0, hV, rfl, hfz, hnd⟩ := hW
  have hA : DataW.TrodAll enc Try.prog W 0 (fun _ => true) true Try.f6.params.toList args.toList ds p := hA0
  rw [Try.params6] at hA hval
  obtain ⟨v0, vs0, d0, ds0, p0, q0, hargs, rfl, rfl, h0, r0⟩ := trodAll_cons hA
  obtain ⟨v1, vs1, d1, ds1, p1, q1, rfl, rfl, rfl, h1, r1⟩ := trodAll_cons r0
  obtain ⟨v2, vs2, d2, ds2, p2, q2, rfl, rfl, rfl, h2, r2⟩ := trodAll_cons r1
  obtain ⟨rfl, rfl, rfl⟩ := trodAll_nil r2
  obtain rfl : args = #[v0, v1, v2] := by cases args; simp_all
  obtain ⟨rfl, rfl⟩ := trodVars_none hV
  obtain ⟨a0, rfl, rfl, rfl, w0⟩ := open_int Try.underlying22 (hval 0 22 v0 rfl rfl) h0
  have k1 := h1
  have lt1 : ∀ x ∈ p1, x.block < W.heap.size := by obtain ⟨m, hm⟩ := k1; exact DataW.trod_lt m _ _ _ hm
  obtain ⟨a1, len1, cap1, z1, rfl, w1⟩ := RowIn.open_row Try.underlying27 Try.underlying5 (by kernel_rfl) (hval 1 27 v1 rfl rfl) h1
  obtain ⟨a2, rfl, rfl, rfl, w2⟩ := open_int Try.underlying3 (hval 2 3 v2 rfl rfl) h2
  clear hA0 hval0
  refine (walk a0 a1 len1 cap1 z1 a2 W w0 w1 w2).mono fun e W' ⟨he, bel⟩ => ?_
  subst he
  exact ⟨_, rfl, _, _, _, [], _, [], hW', trodAll_mk1 (shut_bool Try.underlying4 _), (trodAll_cons_mk (shut_int Try.underlying22 w0) (trodAll_cons_mk (Below.trod laidOut (by kernel_rfl) (of_decide_eq_true (by kernel_rfl)) k1 bel lt1) (trodAll_cons_mk (shut_int Try.underlying3 w2) trodAll_mk0))), rfl, bel.frame _, fun h => by cases h⟩

theorem over : Rows.rotBackRow.holds Try.pinned (OpenSpec.ofChange Rows.rotBackSpec) :=
  OpenClaim.holds_of_wide 6 Try.f6 rfl rfl rfl rfl rfl rfl rfl ⟨rfl, rfl, rfl, rfl, rfl⟩ rfl rfl rfl rfl rfl (by kernel_rfl) Try.func6 (by kernel_rfl)
    (of_decide_eq_true (by kernel_rfl)) (by unfold Func.isWrapper; first | (rw [if_pos (by decide +kernel)]; kernel_rfl) | (rw [if_neg (by decide +kernel)]; exact ⟨rfl, rfl⟩))
    (fun os started H enc _ => lifted os started H enc)

theorem proved : Rows.RotBackSaid := over
end Go.Proofs.Ytomdlcgklfcocaa.rotBack
