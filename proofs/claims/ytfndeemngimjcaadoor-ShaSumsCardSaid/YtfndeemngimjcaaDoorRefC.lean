/- What the document's answers to Pick, Most, Right and Four of package rot return: contracts. -/
import Derived.Test.YtfndeemngimjcaaDoorRotC
namespace Go.Proofs.YtfndeemngimjcaaDoor.RotC
open Go.RowKit RotM

theorem refpick (p a b : BitVec 32) (w : World) :
    Calls Tryd.prog 28 #[.int .u32 (u p), .int .u32 (u a), .int .u32 (u b)] w fun e w' => e = .returned (.int .u32 (u (pickW p a b))) ∧ w = w' := by
  have h1 := bits_and p a
  have h2 := bits_and p b
  have h3 := sub_and p b
  have h4 := u_range (~~~p &&& b)
  go_enter Tryd.func28, Tryd.ntmps28
  go_wp2
  go_ret
  exact ⟨ret_u (by rw [bits_or]; rfl), rfl⟩
theorem refmost (a b c : BitVec 32) (w : World) :
    Calls Tryd.prog 29 #[.int .u32 (u a), .int .u32 (u b), .int .u32 (u c)] w fun e w' => e = .returned (.int .u32 (u (mostW a b c))) ∧ w = w' := by
  go_enter Tryd.func29, Tryd.ntmps29
  go_wp2
  go_ret
  exact ⟨ret_u (by rw [bits_and, bits_and, bits_and, bits_or, bits_or]; rfl), rfl⟩
set_option maxHeartbeats 400000 in
theorem refright (x : BitVec 32) (n : Int) (hn : -9223372036854775808 ≤ n ∧ n ≤ 9223372036854775807) (w : World) :
    Calls Tryd.prog 27 #[.int .u32 (u x), .int .i64 n] w fun e w' => e = .returned (.int .u32 (u (rotr x (n % 32).toNat))) ∧ w = w' := by
  have hx := u_range x
  have hr : n.tmod 32 = if n % 32 = 0 ∨ 0 ≤ n then n % 32 else n % 32 - 32 := by rw [Int.tmod_eq_emod]; split <;> split <;> omega
  by_cases hc : n % 32 = 0 ∨ 0 ≤ n
  · rw [if_pos hc] at hr
    go_enter Tryd.func27, Tryd.ntmps27
    go_wp2
    go_ret
    exact ⟨ret_u (by rw [shr_u, shl_u, bits_or, show (32 - n % 32).toNat = 32 - (n % 32).toNat from by omega]; rfl), rfl⟩
  · rw [if_neg hc] at hr
    go_enter Tryd.func27, Tryd.ntmps27
    go_wp2
    go_ret
    exact ⟨ret_u (by rw [shr_u, shl_u, bits_or, show (32 - n % 32).toNat = 32 - (n % 32).toNat from by omega]; rfl), rfl⟩
theorem reffour (a : Int) (ha : 0 ≤ a ∧ a ≤ 4294967295) (w : World) :
    Calls Tryd.prog 19 #[.int .u32 a] w fun e w' => e = .returned (.agg (fourV a)) ∧ w' = w.alloc (.cells (fourV a) 40) := by
  go_enter Tryd.func19, Tryd.ntmps19
  go_wp2
  exact bodyPost_ret (v := .agg (fourV a)) (by simp [results, Tryd.results19, go_sem, fourV]) rfl ⟨rfl, rfl⟩
end Go.Proofs.YtfndeemngimjcaaDoor.RotC
