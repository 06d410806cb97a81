/- What the document's answers to Pick, Most, Right and Four of package rot return: contracts. | What the document's answers to Long and Word of package rot return: contracts. -/
import Derived.Test.YthdpipllighegaaDoorRotC
import Derived.Test.YthdpipllighegaaDoorRotDJ2
namespace Go.Proofs.YthdpipllighegaaDoor.RotC
set_option maxRecDepth 100000
open Go.RowKit RotM

theorem refpick (p a b : BitVec 32) (w : World) :
    Calls Tryd.prog 42 #[.int .u32 (u p), .int .u32 (u a), .int .u32 (u b)] w fun e w' => e = .returned (.int .u32 (u (pickW p a b))) ∧ w = w' := by
  have h1 := bits_and p a
  have h2 := bits_and p b
  have h3 := sub_and p b
  have h4 := u_range (~~~p &&& b)
  go_enter Tryd.func42, Tryd.ntmps42
  go_wp2
  go_ret
  exact ⟨ret_u (by rw [bits_or]; rfl), rfl⟩
theorem refmost (a b c : BitVec 32) (w : World) :
    Calls Tryd.prog 43 #[.int .u32 (u a), .int .u32 (u b), .int .u32 (u c)] w fun e w' => e = .returned (.int .u32 (u (mostW a b c))) ∧ w = w' := by
  go_enter Tryd.func43, Tryd.ntmps43
  go_wp2
  go_ret
  exact ⟨ret_u (by rw [bits_and, bits_and, bits_and, bits_or, bits_or]; rfl), rfl⟩
set_option maxHeartbeats 400000 in
theorem refright (x : BitVec 32) (n : Int) (hn : -9223372036854775808 ≤ n ∧ n ≤ 9223372036854775807) (w : World) :
    Calls Tryd.prog 41 #[.int .u32 (u x), .int .i64 n] w fun e w' => e = .returned (.int .u32 (u (rotr x (n % 32).toNat))) ∧ w = w' := by
  have hx := u_range x
  have hr : n.tmod 32 = if n % 32 = 0 ∨ 0 ≤ n then n % 32 else n % 32 - 32 := by rw [Int.tmod_eq_emod]; split <;> split <;> omega
  by_cases hc : n % 32 = 0 ∨ 0 ≤ n
  · rw [if_pos hc] at hr
    go_enter Tryd.func41, Tryd.ntmps41
    go_wp2
    go_ret
    exact ⟨ret_u (by rw [shr_u, shl_u, bits_or, show (32 - n % 32).toNat = 32 - (n % 32).toNat from by omega]; rfl), rfl⟩
  · rw [if_neg hc] at hr
    go_enter Tryd.func41, Tryd.ntmps41
    go_wp2
    go_ret
    exact ⟨ret_u (by rw [shr_u, shl_u, bits_or, show (32 - n % 32).toNat = 32 - (n % 32).toNat from by omega]; rfl), rfl⟩
theorem reffour (a : Int) (ha : 0 ≤ a ∧ a ≤ 4294967295) (w : World) :
    Calls Tryd.prog 31 #[.int .u32 a] w fun e w' => e = .returned (.agg (fourV a)) ∧ w' = w.alloc (.cells (fourV a) 37) := by
  go_enter Tryd.func31, Tryd.ntmps31
  go_wp2
  exact bodyPost_ret (v := .agg (fourV a)) (by simp [results, Tryd.results31, go_sem, fourV]) rfl ⟨rfl, rfl⟩
end Go.Proofs.YthdpipllighegaaDoor.RotC
namespace Go.Proofs.YthdpipllighegaaDoor.RotD
set_option maxRecDepth 100000
open Go.RowKit RotM RotC

set_option maxHeartbeats 1000000 in
theorem reflong (a : Int) (ha : 0 ≤ a ∧ a ≤ 18446744073709551615) (w : World) :
    Calls Tryd.prog 37 #[.int .u64 a] w fun e w' => e = .returned (.agg (longV a)) ∧ Below w.heap.size w w' := by
  go_enter Tryd.func37, Tryd.ntmps37
  go_wp2
  go_rounds 9
  go_returns
  refine ⟨agg8 ?_ ?_ ?_ ?_ ?_ ?_ ?_ ?_, ?_⟩
  all_goals first | omega | go_grown
theorem refword_no (A : Option Addr) (len cap : Nat) (at_ : Int) (hl : len ≤ 100) (ha : -9223372036854775808 ≤ at_ ∧ at_ ≤ 9223372036854775807) (h : at_ < 0 ∨ (len : Int) - 4 < at_) (w : World) :
    Calls Tryd.prog 49 #[.slice A len cap, .int .i64 at_] w fun e w' => e = .returned (.tuple #[.int .u32 0, .bool false]) ∧ w = w' := by
  by_cases h0 : at_ < 0
  · go_enter Tryd.func49, Tryd.ntmps49
    go_wp2
    go_ret2
    exact ⟨rfl, rfl⟩
  · have h1 : (len : Int) - 4 < at_ := by omega
    go_enter Tryd.func49, Tryd.ntmps49
    go_wp2
    go_ret2
    exact ⟨rfl, rfl⟩
set_option maxHeartbeats 1000000 in
theorem refword_yes (b off len cap k : Nat) (b0 b1 b2 b3 : Int) (hl : len ≤ 100) (hk : k + 4 ≤ len) (w : World)
    (c0 : w.cell? ⟨b, off + k, none⟩ = some (.int .u8 b0)) (c1 : w.cell? ⟨b, off + (k + 1), none⟩ = some (.int .u8 b1)) (c2 : w.cell? ⟨b, off + (k + 2), none⟩ = some (.int .u8 b2)) (c3 : w.cell? ⟨b, off + (k + 3), none⟩ = some (.int .u8 b3))
    (r0 : 0 ≤ b0 ∧ b0 ≤ 255) (r1 : 0 ≤ b1 ∧ b1 ≤ 255) (r2 : 0 ≤ b2 ∧ b2 ≤ 255) (r3 : 0 ≤ b3 ∧ b3 ≤ 255) :
    Calls Tryd.prog 49 #[.slice (some ⟨b, off, none⟩) len cap, .int .i64 (k : Int)] w fun e w' => e = .returned (.tuple #[.int .u32 (four4 b0 b1 b2 b3), .bool true]) ∧ Below w.heap.size w w' := by
  go_enter Tryd.func49, Tryd.ntmps49
  go_wp2
  go_quiet (fail)
  go_wp2
  go_ret2
  exact ⟨rfl, below_drewN _ _⟩
end Go.Proofs.YthdpipllighegaaDoor.RotD
