/- What enc.Num, enc.Fold, enc.Unfold and enc.Text return: contracts. -/
import Derived.Test.YthdpipllighegaaDoorByt
import Derived.Test.YthdpipllighegaaDoorEncM
namespace Go.Proofs.YthdpipllighegaaDoor.EncC
set_option maxRecDepth 100000
open Go.RowKit Byt EncM

theorem or128 {x : Int} (h : 0 ≤ x ∧ x ≤ 255) : bits .or .u8 x 128 = x % 128 + 128 := by
  have key : ∀ y : Fin 256, bits .or .u8 (y.val : Int) 128 = (y.val : Int) % 128 + 128 := by decide +kernel
  have := key ⟨x.toNat, by omega⟩
  have e : ((x.toNat : Nat) : Int) = x := by omega
  simpa [e] using this
/-- Words of 64 bits joined bit by bit. -/
theorem or64 (x y : Nat) (hx : x < 18446744073709551616) (hy : y < 18446744073709551616) : bits .or .u64 (x : Int) (y : Int) = ((x ||| y : Nat) : Int) := by
  show IntKind.u64.wrap ((((BitVec.ofInt 64 (x : Int) ||| BitVec.ofInt 64 (y : Int)).toNat : Nat)) : Int) = _
  have h1 : x ||| y < 2 ^ 64 := Nat.or_lt_two_pow (by omega) (by omega)
  have e1 : (BitVec.ofInt 64 (x : Int) ||| BitVec.ofInt 64 (y : Int)).toNat = x ||| y := by
    rw [BitVec.toNat_or, BitVec.ofInt_natCast, BitVec.ofInt_natCast, BitVec.toNat_ofNat, BitVec.toNat_ofNat, Nat.mod_eq_of_lt (by omega), Nat.mod_eq_of_lt (by omega)]
  rw [e1, IntKind.wrap_u64]
  omega
/-- Where the one has nothing but noughts below bit i, and the other one nothing else, both together are their sum. -/
theorem or_sum (n d i : Nat) (hn : n < 2 ^ i) (h : n + d * 2 ^ i < 18446744073709551616) : bits .or .u64 (n : Int) ((d * 2 ^ i : Nat) : Int) = ((n + d * 2 ^ i : Nat) : Int) := by
  rw [or64 _ _ (by omega) (by omega), Nat.mul_comm d, Nat.or_comm, ← Nat.two_pow_add_eq_or_of_lt hn, Nat.add_comm]
theorem or1 {x : Int} (h : 0 ≤ x) (h2 : x < 9223372036854775808) : bits .or .u64 (x * 2) 1 = 2 * x + 1 := by
  obtain ⟨m, rfl⟩ : ∃ m : Nat, x = m := ⟨x.toNat, by omega⟩
  have e : (m : Int) * 2 = ((2 ^ 1 * m : Nat) : Int) := by omega
  rw [e, show (1 : Int) = ((1 : Nat) : Int) from rfl, or64 _ _ (by omega) (by omega), ← Nat.two_pow_add_eq_or_of_lt (by omega)]
  omega

set_option maxHeartbeats 1000000 in
set_option maxRecDepth 100000 in
theorem num (n : Nat) (hn : Fits n) (w : World) :
    Calls Tryd.prog 19 #[.int .u64 n] w (New (numL n) w) := by
  have hten := numL_ten hn.lt
  go_enter Tryd.func19, Tryd.ntmps19
  go_wp2_with fail
  go_loopw [0, 3] (fun k v wr => ∃ (m : Nat) (pre : List Int), k = .int .u64 m ∧ Fits m ∧ Hid (numL n = pre ++ numL m) ∧ Hid (wr.ownsRow w.heap.size 5 1 v pre.length (bv pre)) ∧ Below w.heap.size w wr) (fun k _ _ => (intOf k).toNat)
  case atStart => exact ⟨n, [], rfl, hn, rfl, World.ownsRow_nil _ _ _ _, Below.refl _ _⟩
  case round =>
    obtain ⟨m, pre, rfl, hm, HN, HO, hb⟩ := hrel
    have hlen : pre.length + (numL m).length ≤ 10 := by
      have := HN.out
      rw [this, List.length_append] at hten
      exact hten
    have hs := hb.size
    by_cases hlt : m < 128
    · go_wp2_with (refine wpList_append_sl rfl (.tmp 14) (.tmp 17) 22 rfl w.heap.size 5 Tryd.underlying22 zero_u8 _ pre.length pre rfl (HO.out.alloc _) _ 1 1 [(m : Int)] rfl rfl (Sl.new1 _ _ _ ?c1) (by omega) (by simp; omega) ?_; (case c1 => unfold B; omega); intro v1 w1 hown1 hg1; have hb1 : Below w.heap.size w w1 := below_grown (hb.alloc hs _) (by simp; omega) hg1 (fun k hk => (HO.out.lt k hk).1); have HO1 := aside hown1; clear hown1 hg1)
      go_ret
      refine ⟨v1, rfl, ?_, hb1⟩
      rw [HN.out, numL_one hlt]
      simpa using HO1.out
    · have hor := or128 (x := (m : Int) % 256) (by omega)
      have e : (m : Int) % 256 % 128 + 128 = ((m % 128 + 128 : Nat) : Int) := by omega
      rw [e] at hor
      clear e
      go_wp2_with (refine wpList_append_sl rfl (.tmp 6) (.tmp 10) 22 rfl w.heap.size 5 Tryd.underlying22 zero_u8 _ pre.length pre rfl (HO.out.alloc _) _ 1 1 [((m % 128 + 128 : Nat) : Int)] rfl rfl (Sl.new1 _ _ _ ?c1) (by omega) (by simp; omega) ?_; (case c1 => unfold B; omega); intro v1 w1 hown1 hg1; have hb1 : Below w.heap.size w w1 := below_grown (hb.alloc hs _) (by simp; omega) hg1 (fun k hk => (HO.out.lt k hk).1); have HO1 := aside hown1; clear hown1 hg1)
      go_roundw
      case rel =>
        refine ⟨m / 128, pre ++ [((m % 128 + 128 : Nat) : Int)], by simp, hm.le (by omega), ?_, by simpa using HO1, hb1⟩
        have := HN.out
        rw [numL_more (n := m) (by omega)] at this
        exact aside (by rw [this]; simp)
      case measure => simp [intOf]; omega

/-- A number of either sign as one from 0 on, and back. -/
def foldI (k : Int) : Int := if 0 ≤ k then 2 * k else 2 * (-1 - k) + 1
def unfoldI (n : Int) : Int := if n % 2 = 0 then n / 2 else -1 - n / 2
theorem ret_int {k : IntKind} {a b : Int} (h : a = b) : Ending.returned (.int k a) = .returned (.int k b) := by rw [h]

theorem and1 {x : Int} (h : 0 ≤ x) (h2 : x ≤ 18446744073709551615) : bits .and .u64 x 1 = x % 2 := by
  obtain ⟨m, rfl⟩ : ∃ m : Nat, x = m := ⟨x.toNat, by omega⟩
  show IntKind.u64.wrap ((((BitVec.ofInt 64 (m : Int) &&& BitVec.ofInt 64 1).toNat : Nat)) : Int) = _
  have e1 : (BitVec.ofInt 64 (m : Int) &&& BitVec.ofInt 64 1).toNat = m % 2 := by
    rw [BitVec.toNat_and, BitVec.ofInt_natCast, BitVec.toNat_ofNat, Nat.mod_eq_of_lt (by omega)]
    show m &&& 1 = m % 2
    rw [Nat.and_one_is_mod]
  rw [e1, IntKind.wrap_u64]
  omega

/-- A text in bytes. -/
def textL (s : List Int) : List Int := numL s.length ++ s
end Go.Proofs.YthdpipllighegaaDoor.EncC
