/- What sha.twist, sha.step and sha.Start return: contracts. -/
import Derived.Test.YthdpipllighegaaDoorShaM
import Derived.Test.YthdpipllighegaaDoorSmall
namespace Go.Proofs.YthdpipllighegaaDoor.ShaC
set_option maxRecDepth 100000
open Go.RowKit RotM RotN RotC RotD ShaM RotG Small

set_option maxHeartbeats 400000 in
theorem twist (x : BitVec 32) (i j k : Int) (w : World) :
    Calls Tryd.prog 53 #[.int .u32 (u x), .int .i64 i, .int .i64 j, .int .i64 k] w fun e w' => e = .returned (.int .u32 (u (tw x (i % 32).toNat (j % 32).toNat (k % 32).toNat))) ∧ w = w' := by
  go_enter Tryd.func53, Tryd.ntmps53
  go_wp2_with fail
  refine (right x i _).mono ?_
  rintro e w' ⟨rfl, rfl⟩
  go_wp2_with fail
  refine (right x j _).mono ?_
  rintro e w' ⟨rfl, rfl⟩
  go_wp2_with fail
  refine (right x k _).mono ?_
  rintro e w' ⟨rfl, rfl⟩
  go_wp2_with fail
  go_ret
  exact ⟨ret_u (by rw [bits_xor, bits_xor]; rfl), rfl⟩

theorem twist6 (x : BitVec 32) (w : World) :
    Calls Tryd.prog 53 #[.int .u32 (u x), .int .i64 6, .int .i64 11, .int .i64 25] w fun e w' => e = .returned (.int .u32 (u (tw x 6 11 25))) ∧ w = w' := twist x 6 11 25 w
theorem twist2 (x : BitVec 32) (w : World) :
    Calls Tryd.prog 53 #[.int .u32 (u x), .int .i64 2, .int .i64 13, .int .i64 22] w fun e w' => e = .returned (.int .u32 (u (tw x 2 13 22))) ∧ w = w' := twist x 2 13 22 w

theorem rightK (x : BitVec 32) (n : Int) (j : Nat) (h : (n % 32).toNat = j) (w : World) :
    Calls Tryd.prog 52 #[.int .u32 (u x), .int .i64 n] w fun e w' => e = .returned (.int .u32 (u (rotr x j))) ∧ w = w' := by
  subst h
  exact right x n w

theorem start (w : World) :
    Calls Tryd.prog 34 #[] w fun e w' => e = .returned (.agg startS.vals) ∧ Below w.heap.size w w' := by
  go_enter Tryd.func34, Tryd.ntmps34
  go_wp2
  exact bodyPost_ret (v := .agg startS.vals) (by simp [results, Tryd.results34, go_sem]; rfl) rfl ⟨rfl, by go_grown⟩

set_option maxHeartbeats 1000000 in
theorem step1 (a b c d e f g z x : BitVec 32) (w : World) :
    Calls Tryd.prog 47 #[.agg #[.int .u32 (u a), .int .u32 (u b), .int .u32 (u c), .int .u32 (u d), .int .u32 (u e), .int .u32 (u f), .int .u32 (u g), .int .u32 (u z)], .int .u32 (u x)] w fun r w' => r = .returned (.agg (rnd ⟨a, b, c, d, e, f, g, z⟩ x).vals) ∧ Below w.heap.size w w' := by
  go_enter Tryd.func47, Tryd.ntmps47
  go_wp2
  go_quiet (fail)
  go_wp2_with fail
  refine (twist6 e _).mono ?_
  rintro r w' ⟨rfl, rfl⟩
  go_wp2_with fail
  refine (pick e f g _).mono ?_
  rintro r w' ⟨rfl, rfl⟩
  go_wp2_with fail
  refine (twist2 a _).mono ?_
  rintro r w' ⟨rfl, rfl⟩
  go_wp2_with fail
  refine (most a b c _).mono ?_
  rintro r w' ⟨rfl, rfl⟩
  go_wp2_with fail
  go_returns
  refine ⟨by rw [sum6, sum5]; rfl, ?_⟩
  go_grown
  exact below_drew (by go_grown) _

theorem step (h : H8) (x : BitVec 32) (w : World) :
    Calls Tryd.prog 47 #[.agg h.vals, .int .u32 (u x)] w fun r w' => r = .returned (.agg (rnd h x).vals) ∧ Below w.heap.size w w' := by
  obtain ⟨a, b, c, d, e, f, g, z⟩ := h
  exact step1 a b c d e f g z x w
end Go.Proofs.YthdpipllighegaaDoor.ShaC
