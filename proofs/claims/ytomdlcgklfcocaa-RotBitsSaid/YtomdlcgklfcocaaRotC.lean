/- What each function of package rot, and of the document's answers to it, returns: contracts. -/
import Derived.Test.YtomdlcgklfcocaaRows
import Derived.Test.YtomdlcgklfcocaaRotM
import Derived.OpenShut
import Derived.Handy
namespace Go.Proofs.Ytomdlcgklfcocaa.RotC
open Go.RowKit RotM

theorem ret_u {a b : Int} (h : a = b) : Ending.returned (.int .u32 a) = .returned (.int .u32 b) := by rw [h]

theorem pick (p a b : BitVec 32) (w : World) :
    Calls Try.prog 14 #[.int .u32 (u p), .int .u32 (u a), .int .u32 (u b)] w fun e w' => e = .returned (.int .u32 (u (pickW p a b))) ∧ w = w' := by
  go_enter Try.func14, Try.ntmps14
  go_wp2
  go_ret
  exact ⟨ret_u (by rw [bits_and, bits_not, bits_and, bits_or]; rfl), rfl⟩

theorem refpick (p a b : BitVec 32) (w : World) :
    Calls Try.prog 15 #[.int .u32 (u p), .int .u32 (u a), .int .u32 (u b)] w fun e w' => e = .returned (.int .u32 (u (pickW p a b))) ∧ w = w' := by
  have h1 := bits_and p a
  have h2 := bits_and p b
  have h3 := sub_and p b
  have h4 := u_range (~~~p &&& b)
  go_enter Try.func15, Try.ntmps15
  go_wp2
  go_ret
  exact ⟨ret_u (by rw [bits_or]; rfl), rfl⟩

theorem most (a b c : BitVec 32) (w : World) :
    Calls Try.prog 16 #[.int .u32 (u a), .int .u32 (u b), .int .u32 (u c)] w fun e w' => e = .returned (.int .u32 (u (mostW a b c))) ∧ w = w' := by
  go_enter Try.func16, Try.ntmps16
  go_wp2
  go_ret
  exact ⟨ret_u (by rw [bits_and, bits_and, bits_and, bits_or, bits_or]; rfl), rfl⟩

theorem refmost (a b c : BitVec 32) (w : World) :
    Calls Try.prog 17 #[.int .u32 (u a), .int .u32 (u b), .int .u32 (u c)] w fun e w' => e = .returned (.int .u32 (u (mostW a b c))) ∧ w = w' := by
  go_enter Try.func17, Try.ntmps17
  go_wp2
  go_ret
  exact ⟨ret_u (by rw [bits_and, bits_and, bits_and, bits_or, bits_or]; rfl), rfl⟩

set_option maxHeartbeats 400000 in
theorem right (x : BitVec 32) (n : Int) (w : World) :
    Calls Try.prog 12 #[.int .u32 (u x), .int .i64 n] w fun e w' => e = .returned (.int .u32 (u (rotr x (n % 32).toNat))) ∧ w = w' := by
  have hx := u_range x
  have h31 := and31 n
  obtain ⟨k, hk⟩ : ∃ k : Nat, n % 32 = k := ⟨(n % 32).toNat, by omega⟩
  have hk32 : k < 32 := by omega
  rw [hk] at h31
  rw [hk]
  clear hk
  go_enter Try.func12, Try.ntmps12
  go_wp2
  go_ret
  exact ⟨ret_u (by rw [shr_u, shl_u, bits_or]; rfl), rfl⟩

set_option maxHeartbeats 400000 in
theorem refright (x : BitVec 32) (n : Int) (hn : -9223372036854775808 ≤ n ∧ n ≤ 9223372036854775807) (w : World) :
    Calls Try.prog 13 #[.int .u32 (u x), .int .i64 n] w fun e w' => e = .returned (.int .u32 (u (rotr x (n % 32).toNat))) ∧ w = w' := by
  have hx := u_range x
  have hr : n.tmod 32 = if n % 32 = 0 ∨ 0 ≤ n then n % 32 else n % 32 - 32 := by rw [Int.tmod_eq_emod]; split <;> split <;> omega
  by_cases hc : n % 32 = 0 ∨ 0 ≤ n
  · rw [if_pos hc] at hr
    go_enter Try.func13, Try.ntmps13
    go_wp2
    go_ret
    exact ⟨ret_u (by rw [shr_u, shl_u, bits_or, show (32 - n % 32).toNat = 32 - (n % 32).toNat from by omega]; rfl), rfl⟩
  · rw [if_neg hc] at hr
    go_enter Try.func13, Try.ntmps13
    go_wp2
    go_ret
    exact ⟨ret_u (by rw [shr_u, shl_u, bits_or, show (32 - n % 32).toNat = 32 - (n % 32).toNat from by omega]; rfl), rfl⟩

/-- The four bytes of a word, and the eight of a long one, as values. -/
def fourV (a : Int) : Array Value := #[.int .u8 (a / 16777216), .int .u8 (a / 65536 % 256), .int .u8 (a / 256 % 256), .int .u8 (a % 256)]
def longV (a : Int) : Array Value := #[.int .u8 (a / 72057594037927936), .int .u8 (a / 281474976710656 % 256), .int .u8 (a / 1099511627776 % 256), .int .u8 (a / 4294967296 % 256), .int .u8 (a / 16777216 % 256), .int .u8 (a / 65536 % 256), .int .u8 (a / 256 % 256), .int .u8 (a % 256)]

theorem four (a : Int) (ha : 0 ≤ a ∧ a ≤ 4294967295) (w : World) :
    Calls Try.prog 20 #[.int .u32 a] w fun e w' => e = .returned (.agg (fourV a)) ∧ w' = w.alloc (.cells (fourV a) 31) := by
  go_enter Try.func20, Try.ntmps20
  go_wp2
  exact bodyPost_ret (v := .agg (fourV a)) (by simp [results, Try.results20, go_sem, fourV]) rfl ⟨rfl, rfl⟩

theorem reffour (a : Int) (ha : 0 ≤ a ∧ a ≤ 4294967295) (w : World) :
    Calls Try.prog 21 #[.int .u32 a] w fun e w' => e = .returned (.agg (fourV a)) ∧ w' = w.alloc (.cells (fourV a) 31) := by
  go_enter Try.func21, Try.ntmps21
  go_wp2
  exact bodyPost_ret (v := .agg (fourV a)) (by simp [results, Try.results21, go_sem, fourV]) rfl ⟨rfl, rfl⟩

set_option maxHeartbeats 400000 in
theorem bit (x : BitVec 32) (k : Nat) (hk : k ≤ 31) (w : World) :
    Calls Try.prog 24 #[.int .u32 (u x), .int .i64 (k : Int)] w fun e w' => e = .returned (.bool (x.getLsbD k)) ∧ w = w' := by
  go_enter Try.func24, Try.ntmps24
  go_wp2
  go_loop [0, 5] (fun t i => ∃ j : Nat, j ≤ k ∧ i = .int .i64 j ∧ t = .int .u32 (u (x >>> j))) (fun _ i => k - (intOf i).toNat)
  case atStart => exact ⟨0, Nat.zero_le _, rfl, by simp⟩
  case round =>
    obtain ⟨j, hj, rfl, rfl⟩ := hrel
    have hr := u_range (x >>> j)
    by_cases hlt : j < k
    · go_wp2
      go_round
      case rel => exact ⟨j + 1, by omega, by go_num, by have := shr_u (x >>> j) 1; rw [BitVec.shiftRight_add]; simpa using this⟩
      case measure => simp [intOf]; omega
    · go_wp2
      go_ret
      obtain rfl : j = k := by omega
      exact ⟨by rw [← bit_u]; rfl, rfl⟩
end Go.Proofs.Ytomdlcgklfcocaa.RotC
