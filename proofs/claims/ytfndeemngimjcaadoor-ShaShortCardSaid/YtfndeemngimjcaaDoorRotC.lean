/- What each function of package rot, and of the document's answers to it, returns: contracts. -/
import Derived.Test.YtfndeemngimjcaaDoorRows
import Derived.Test.YtfndeemngimjcaaDoorRotM
import Derived.OpenShut
import Derived.Handy
namespace Go.Proofs.YtfndeemngimjcaaDoor.RotC
open Go.RowKit RotM

theorem ret_u {a b : Int} (h : a = b) : Ending.returned (.int .u32 a) = .returned (.int .u32 b) := by rw [h]
theorem pick (p a b : BitVec 32) (w : World) :
    Calls Tryd.prog 34 #[.int .u32 (u p), .int .u32 (u a), .int .u32 (u b)] w fun e w' => e = .returned (.int .u32 (u (pickW p a b))) ∧ w = w' := by
  go_enter Tryd.func34, Tryd.ntmps34
  go_wp2
  go_ret
  exact ⟨ret_u (by rw [bits_and, bits_not, bits_and, bits_or]; rfl), rfl⟩
theorem most (a b c : BitVec 32) (w : World) :
    Calls Tryd.prog 35 #[.int .u32 (u a), .int .u32 (u b), .int .u32 (u c)] w fun e w' => e = .returned (.int .u32 (u (mostW a b c))) ∧ w = w' := by
  go_enter Tryd.func35, Tryd.ntmps35
  go_wp2
  go_ret
  exact ⟨ret_u (by rw [bits_and, bits_and, bits_and, bits_or, bits_or]; rfl), rfl⟩
set_option maxHeartbeats 400000 in
theorem right (x : BitVec 32) (n : Int) (w : World) :
    Calls Tryd.prog 32 #[.int .u32 (u x), .int .i64 n] w fun e w' => e = .returned (.int .u32 (u (rotr x (n % 32).toNat))) ∧ w = w' := by
  have hx := u_range x
  have h31 := and31 n
  obtain ⟨k, hk⟩ : ∃ k : Nat, n % 32 = k := ⟨(n % 32).toNat, by omega⟩
  have hk32 : k < 32 := by omega
  rw [hk] at h31
  rw [hk]
  clear hk
  go_enter Tryd.func32, Tryd.ntmps32
  go_wp2
  go_ret
  exact ⟨ret_u (by rw [shr_u, shl_u, bits_or]; rfl), rfl⟩
/-- The four bytes of a word, and the eight of a long one, as values. -/
def fourV (a : Int) : Array Value := #[.int .u8 (a / 16777216), .int .u8 (a / 65536 % 256), .int .u8 (a / 256 % 256), .int .u8 (a % 256)]
def longV (a : Int) : Array Value := #[.int .u8 (a / 72057594037927936), .int .u8 (a / 281474976710656 % 256), .int .u8 (a / 1099511627776 % 256), .int .u8 (a / 4294967296 % 256), .int .u8 (a / 16777216 % 256), .int .u8 (a / 65536 % 256), .int .u8 (a / 256 % 256), .int .u8 (a % 256)]
theorem four (a : Int) (ha : 0 ≤ a ∧ a ≤ 4294967295) (w : World) :
    Calls Tryd.prog 30 #[.int .u32 a] w fun e w' => e = .returned (.agg (fourV a)) ∧ w' = w.alloc (.cells (fourV a) 40) := by
  go_enter Tryd.func30, Tryd.ntmps30
  go_wp2
  exact bodyPost_ret (v := .agg (fourV a)) (by simp [results, Tryd.results30, go_sem, fourV]) rfl ⟨rfl, rfl⟩
end Go.Proofs.YtfndeemngimjcaaDoor.RotC
