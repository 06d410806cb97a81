/- The chapter's own examples: 'awake' returns true. -/
import Derived.Test.YtomdlcgklfcocaaRotD
import Derived.Test.YtomdlcgklfcocaaArrEq
namespace Go.Proofs.Ytomdlcgklfcocaa.RotE
open Go.RowKit RotM RotC RotD ArrEq

theorem info_u8 : (Try.prog.info? 5).isSome = true := by kernel_rfl
theorem cells_u8 : Try.prog.cellsOf 5 = 1 := by kernel_rfl

/-- Two arrays of four, and of eight, bytes that are the same. -/
theorem eq4 (b0 b1 b2 b3 : Int) (w : World) : Sem.run Try.prog (Op.equalIn 10000 31 (.agg #[.int .u8 b0, .int .u8 b1, .int .u8 b2, .int .u8 b3]) (.agg #[.int .u8 b0, .int .u8 b1, .int .u8 b2, .int .u8 b3])) w = .ok true w := by
  obtain ⟨inf, hi⟩ := Option.isSome_iff_exists.1 info_u8
  refine equal_self w 9998 Try.underlying31 Try.underlying5 hi cells_u8 _ (fun i => [b0, b1, b2, b3].getD i 0) (fun i hlt => ?_)
  match i, hlt with
  | 0, _ | 1, _ | 2, _ | 3, _ => rfl
theorem eq8 (b0 b1 b2 b3 b4 b5 b6 b7 : Int) (w : World) : Sem.run Try.prog (Op.equalIn 10000 33 (.agg #[.int .u8 b0, .int .u8 b1, .int .u8 b2, .int .u8 b3, .int .u8 b4, .int .u8 b5, .int .u8 b6, .int .u8 b7]) (.agg #[.int .u8 b0, .int .u8 b1, .int .u8 b2, .int .u8 b3, .int .u8 b4, .int .u8 b5, .int .u8 b6, .int .u8 b7])) w = .ok true w := by
  obtain ⟨inf, hi⟩ := Option.isSome_iff_exists.1 info_u8
  refine equal_self w 9998 Try.underlying33 Try.underlying5 hi cells_u8 _ (fun i => [b0, b1, b2, b3, b4, b5, b6, b7].getD i 0) (fun i hlt => ?_)
  match i, hlt with
  | 0, _ | 1, _ | 2, _ | 3, _ | 4, _ | 5, _ | 6, _ | 7, _ => rfl

theorem word_c (g : Nat) (b0 b1 b2 b3 : Int) (w : World)
    (c0 : w.cell? ⟨g, 0, none⟩ = some (.int .u8 b0)) (c1 : w.cell? ⟨g, 1, none⟩ = some (.int .u8 b1)) (c2 : w.cell? ⟨g, 2, none⟩ = some (.int .u8 b2)) (c3 : w.cell? ⟨g, 3, none⟩ = some (.int .u8 b3))
    (r0 : 0 ≤ b0 ∧ b0 ≤ 255) (r1 : 0 ≤ b1 ∧ b1 ≤ 255) (r2 : 0 ≤ b2 ∧ b2 ≤ 255) (r3 : 0 ≤ b3 ∧ b3 ≤ 255) :
    Calls Try.prog 18 #[.slice (some ⟨g, 0, none⟩) 4 4, .int .i64 0] w fun e w' => e = .returned (.tuple #[.int .u32 (four4 b0 b1 b2 b3), .bool true]) ∧ Below w.heap.size w w' :=
  word_yes g 0 4 4 0 b0 b1 b2 b3 (by omega) (by omega) (by omega) w c0 c1 c2 c3 r0 r1 r2 r3

theorem right_c (w : World) : Calls Try.prog 12 #[.int .u32 1, .int .i64 1] w fun e w' => e = .returned (.int .u32 2147483648) ∧ w = w' := by
  have h := right 1#32 1 w
  have e1 : u 1#32 = 1 := by decide
  have e2 : u (rotr 1#32 ((1 : Int) % 32).toNat) = 2147483648 := by decide
  rw [e1, e2] at h
  exact h
theorem pick_c (w : World) : Calls Try.prog 14 #[.int .u32 1, .int .u32 3, .int .u32 4] w fun e w' => e = .returned (.int .u32 5) ∧ w = w' := by
  have h := pick 1#32 3#32 4#32 w
  have e1 : u 1#32 = 1 := by decide
  have e2 : u 3#32 = 3 := by decide
  have e3 : u 4#32 = 4 := by decide
  have e4 : u (pickW 1#32 3#32 4#32) = 5 := by decide
  rw [e1, e2, e3, e4] at h
  exact h
theorem most_c (w : World) : Calls Try.prog 16 #[.int .u32 1, .int .u32 3, .int .u32 6] w fun e w' => e = .returned (.int .u32 3) ∧ w = w' := by
  have h := most 1#32 3#32 6#32 w
  have e1 : u 1#32 = 1 := by decide
  have e2 : u 3#32 = 3 := by decide
  have e3 : u 6#32 = 6 := by decide
  have e4 : u (mostW 1#32 3#32 6#32) = 3 := by decide
  rw [e1, e2, e3, e4] at h
  exact h
theorem four_c (w : World) : Calls Try.prog 20 #[.int .u32 16909060] w fun e w' => e = .returned (.agg #[.int .u8 1, .int .u8 2, .int .u8 3, .int .u8 4]) ∧ Below w.heap.size w w' :=
  (four 16909060 (by omega) w).mono fun e w' ⟨he, hw⟩ => by
    subst hw
    exact ⟨he.trans (by simp [fourV]), by go_grown⟩
theorem long_c (w : World) : Calls Try.prog 22 #[.int .u64 258] w fun e w' => e = .returned (.agg #[.int .u8 0, .int .u8 0, .int .u8 0, .int .u8 0, .int .u8 0, .int .u8 0, .int .u8 1, .int .u8 2]) ∧ Below w.heap.size w w' :=
  (long 258 (by omega) w).mono fun e w' ⟨he, hw⟩ => ⟨he.trans (by simp [longV]), hw⟩

set_option maxHeartbeats 1000000 in
theorem awake (w : World) :
    Calls Try.prog 11 #[] w fun e w' => e = .returned (.bool true) ∧ Below w.heap.size w w' := by
  have e16 : four4 1 2 3 4 = 16909060 := by decide
  have q4 := eq4 1 2 3 4
  have q8 := eq8 0 0 0 0 0 0 1 2
  go_enter Try.func11, Try.ntmps11
  go_wp2_with fail
  refine (word_c _ 1 2 3 4 _ (by simp [go_sem]) (by simp [go_sem]) (by simp [go_sem]) (by simp [go_sem]) (by omega) (by omega) (by omega) (by omega)).mono ?_
  rw [e16]
  clear e16
  rintro e w1 ⟨rfl, h1⟩
  have k1 : Below w.heap.size w w1 := ((Below.refl _ _).alloc (Nat.le_refl _) _).trans (h1.mono (by simp))
  clear h1
  go_wp2_with fail
  refine (right_c _).mono ?_
  rintro e w' ⟨rfl, rfl⟩
  go_wp2_with fail
  refine (four_c _).mono ?_
  rintro e w2 ⟨rfl, h2⟩
  have k2 : Below w.heap.size w w2 := k1.trans (h2.mono k1.size)
  clear k1 h2
  go_wp2_with fail
  refine (long_c _).mono ?_
  rintro e w3 ⟨rfl, h3⟩
  have k3 : Below w.heap.size w w3 := k2.trans (h3.mono k2.size)
  clear k2 h3
  go_wp2_with fail
  refine (pick_c _).mono ?_
  rintro e w' ⟨rfl, rfl⟩
  go_wp2_with fail
  refine (most_c _).mono ?_
  rintro e w' ⟨rfl, rfl⟩
  go_wp2_with fail
  go_ret
  exact ⟨rfl, k3⟩
end Go.Proofs.Ytomdlcgklfcocaa.RotE
