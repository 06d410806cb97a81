/- What rot.Long, rot.Word, and the document's answers to these, return: contracts. | The contracts of rot.Right, rot.Pick and rot.Most once more, at numbers that are given otherwise than as words. -/
import Derived.Test.YthdpipllighegaaDoorRotC
import Derived.Deep.QuietTactic
import Derived.BigQuiet
import Derived.Test.YthdpipllighegaaDoorRotN
namespace Go.Proofs.YthdpipllighegaaDoor.RotD
set_option maxRecDepth 100000
open Go.RowKit RotM RotC

theorem below_drewN (w : World) (n : Nat) : Below w.heap.size w (w.drewN n) := ⟨rfl, rfl, rfl, Nat.le_refl _, fun _ _ => rfl⟩
theorem two_u {a b : Int} {c : Bool} (h : a = b) : Ending.returned (.tuple #[.int .u32 a, .bool c]) = .returned (.tuple #[.int .u32 b, .bool c]) := by rw [h]
theorem agg8 {b0 b1 b2 b3 b4 b5 b6 b7 c0 c1 c2 c3 c4 c5 c6 c7 : Int} (h0 : b0 = c0) (h1 : b1 = c1) (h2 : b2 = c2) (h3 : b3 = c3) (h4 : b4 = c4) (h5 : b5 = c5) (h6 : b6 = c6) (h7 : b7 = c7) :
    Ending.returned (.agg #[.int .u8 b0, .int .u8 b1, .int .u8 b2, .int .u8 b3, .int .u8 b4, .int .u8 b5, .int .u8 b6, .int .u8 b7]) = .returned (.agg #[.int .u8 c0, .int .u8 c1, .int .u8 c2, .int .u8 c3, .int .u8 c4, .int .u8 c5, .int .u8 c6, .int .u8 c7]) := by
  subst h0 h1 h2 h3 h4 h5 h6 h7; rfl
set_option maxHeartbeats 1000000 in
theorem long (a : Int) (ha : 0 ≤ a ∧ a ≤ 18446744073709551615) (w : World) :
    Calls Tryd.prog 45 #[.int .u64 a] w fun e w' => e = .returned (.agg (longV a)) ∧ Below w.heap.size w w' := by
  go_enter Tryd.func45, Tryd.ntmps45
  go_wp2
  go_returns
  refine ⟨agg8 ?_ ?_ ?_ ?_ ?_ ?_ ?_ ?_, ?_⟩
  all_goals first | omega | go_grown
/-- No word: a place below 0, or fewer than four bytes from there on. -/
theorem word_no (A : Option Addr) (len cap : Nat) (at_ : Int) (hl : len ≤ 100) (ha : -9223372036854775808 ≤ at_ ∧ at_ ≤ 9223372036854775807) (h : at_ < 0 ∨ (len : Int) - 4 < at_) (w : World) :
    Calls Tryd.prog 51 #[.slice A len cap, .int .i64 at_] w fun e w' => e = .returned (.tuple #[.int .u32 0, .bool false]) ∧ w = w' := by
  by_cases h0 : at_ < 0
  · go_enter Tryd.func51, Tryd.ntmps51
    go_wp2
    go_ret2
    exact ⟨rfl, rfl⟩
  · have h1 : (len : Int) - at_ < 4 := by omega
    go_enter Tryd.func51, Tryd.ntmps51
    go_wp2
    go_ret2
    exact ⟨rfl, rfl⟩
/-- The number of four bytes, the highest one first. -/
def four4 (b0 b1 b2 b3 : Int) : Int := 16777216 * b0 + 65536 * b1 + 256 * b2 + b3
set_option maxHeartbeats 1000000 in
theorem word_yes (b off len cap k : Nat) (b0 b1 b2 b3 : Int) (hl : len ≤ 100) (hc : len ≤ cap) (hk : k + 4 ≤ len) (w : World)
    (c0 : w.cell? ⟨b, off + k, none⟩ = some (.int .u8 b0)) (c1 : w.cell? ⟨b, off + (k + 1), none⟩ = some (.int .u8 b1)) (c2 : w.cell? ⟨b, off + (k + 2), none⟩ = some (.int .u8 b2)) (c3 : w.cell? ⟨b, off + (k + 3), none⟩ = some (.int .u8 b3))
    (r0 : 0 ≤ b0 ∧ b0 ≤ 255) (r1 : 0 ≤ b1 ∧ b1 ≤ 255) (r2 : 0 ≤ b2 ∧ b2 ≤ 255) (r3 : 0 ≤ b3 ∧ b3 ≤ 255) :
    Calls Tryd.prog 51 #[.slice (some ⟨b, off, none⟩) len cap, .int .i64 (k : Int)] w fun e w' => e = .returned (.tuple #[.int .u32 (four4 b0 b1 b2 b3), .bool true]) ∧ Below w.heap.size w w' := by
  have d1 : w.cell? ⟨b, off + k + 1, none⟩ = some (.int .u8 b1) := c1
  have d2 : w.cell? ⟨b, off + k + 2, none⟩ = some (.int .u8 b2) := c2
  have d3 : w.cell? ⟨b, off + k + 3, none⟩ = some (.int .u8 b3) := c3
  clear c1 c2 c3
  have harr : ∀ (x : Addr) (c : Nat) (w : World), Sem.run Tryd.prog (Instr.arrayAt 37 (.slice (some x) 4 c)) w = .ok (.pointer (some x)) w := fun x c w => by simp [Instr.arrayAt, run_underlying Tryd.underlying37]
  go_enter Tryd.func51, Tryd.ntmps51
  go_wp2
  go_ret2
  exact ⟨two_u (or_four b0 b1 b2 b3 r0 r1 r2 r3), by go_grown⟩
end Go.Proofs.YthdpipllighegaaDoor.RotD
namespace Go.Proofs.YthdpipllighegaaDoor.RotF
set_option maxRecDepth 100000
open Go.RowKit RotM RotN

/-- A fact laid aside, so that the walk does not rewrite by it. -/
theorem aside {p : Prop} (h : p) : Hid p := h

theorem pickI (i j k r : Int) (p a b : BitVec 32) (hi : u p = i) (hj : u a = j) (hk : u b = k) (hr : u (pickW p a b) = r) (w : World) :
    Calls Tryd.prog 54 #[.int .u32 i, .int .u32 j, .int .u32 k] w fun e w' => e = .returned (.int .u32 r) ∧ w = w' := by
  subst hi hj hk hr
  exact RotC.pick p a b w
theorem mostI (i j k r : Int) (a b c : BitVec 32) (hi : u a = i) (hj : u b = j) (hk : u c = k) (hr : u (mostW a b c) = r) (w : World) :
    Calls Tryd.prog 55 #[.int .u32 i, .int .u32 j, .int .u32 k] w fun e w' => e = .returned (.int .u32 r) ∧ w = w' := by
  subst hi hj hk hr
  exact RotC.most a b c w
theorem rightI (i n r : Int) (x : BitVec 32) (hi : u x = i) (hr : u (rotr x (n % 32).toNat) = r) (w : World) :
    Calls Tryd.prog 52 #[.int .u32 i, .int .i64 n] w fun e w' => e = .returned (.int .u32 r) ∧ w = w' := by
  subst hi hr
  exact RotC.right x n w
end Go.Proofs.YthdpipllighegaaDoor.RotF
