/- What each function of package rot, and of the document's answers to it, returns: contracts. -/
import Derived.Test.YthdpipllighegaaDoorRows
import Derived.Test.YthdpipllighegaaDoorRotM
import Derived.OpenShut
import Derived.Handy
namespace Go.Proofs.YthdpipllighegaaDoor.RotC
set_option maxRecDepth 100000
open Go.RowKit RotM

theorem ret_u {a b : Int} (h : a = b) : Ending.returned (.int .u32 a) = .returned (.int .u32 b) := by rw [h]
theorem pick (p a b : BitVec 32) (w : World) :
    Calls Tryd.prog 54 #[.int .u32 (u p), .int .u32 (u a), .int .u32 (u b)] w fun e w' => e = .returned (.int .u32 (u (pickW p a b))) ∧ w = w' := by
  go_enter Tryd.func54, Tryd.ntmps54
  go_wp2
  go_ret
  exact ⟨ret_u (by rw [bits_and, bits_not, bits_and, bits_or]; rfl), rfl⟩
theorem most (a b c : BitVec 32) (w : World) :
    Calls Tryd.prog 55 #[.int .u32 (u a), .int .u32 (u b), .int .u32 (u c)] w fun e w' => e = .returned (.int .u32 (u (mostW a b c))) ∧ w = w' := by
  go_enter Tryd.func55, Tryd.ntmps55
  go_wp2
  go_ret
  exact ⟨ret_u (by rw [bits_and, bits_and, bits_and, bits_or, bits_or]; rfl), rfl⟩
set_option maxHeartbeats 400000 in
theorem right (x : BitVec 32) (n : Int) (w : World) :
    Calls Tryd.prog 52 #[.int .u32 (u x), .int .i64 n] w fun e w' => e = .returned (.int .u32 (u (rotr x (n % 32).toNat))) ∧ w = w' := by
  have hx := u_range x
  have h31 := and31 n
  obtain ⟨k, hk⟩ : ∃ k : Nat, n % 32 = k := ⟨(n % 32).toNat, by omega⟩
  have hk32 : k < 32 := by omega
  rw [hk] at h31
  rw [hk]
  clear hk
  go_enter Tryd.func52, Tryd.ntmps52
  go_wp2
  go_ret
  exact ⟨ret_u (by rw [shr_u, shl_u, bits_or]; rfl), rfl⟩
/-- The four bytes of a word, and the eight of a long one, as values. -/
def fourV (a : Int) : Array Value := #[.int .u8 (a / 16777216), .int .u8 (a / 65536 % 256), .int .u8 (a / 256 % 256), .int .u8 (a % 256)]
def longV (a : Int) : Array Value := #[.int .u8 (a / 72057594037927936), .int .u8 (a / 281474976710656 % 256), .int .u8 (a / 1099511627776 % 256), .int .u8 (a / 4294967296 % 256), .int .u8 (a / 16777216 % 256), .int .u8 (a / 65536 % 256), .int .u8 (a / 256 % 256), .int .u8 (a % 256)]
theorem four (a : Int) (ha : 0 ≤ a ∧ a ≤ 4294967295) (w : World) :
    Calls Tryd.prog 48 #[.int .u32 a] w fun e w' => e = .returned (.agg (fourV a)) ∧ w' = w.alloc (.cells (fourV a) 37) := by
  go_enter Tryd.func48, Tryd.ntmps48
  go_wp2
  exact bodyPost_ret (v := .agg (fourV a)) (by simp [results, Tryd.results48, go_sem, fourV]) rfl ⟨rfl, rfl⟩
end Go.Proofs.YthdpipllighegaaDoor.RotC
