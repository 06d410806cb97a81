/- Plain facts on numbers in bytes: the digits of a number to the base 128, and the number that bytes begin with. No condition. | What enc.Num, enc.Fold, enc.Unfold and enc.Text return: contracts. | Plain facts on the digits that bytes begin with, each with whether it is the last one. No condition. | What enc.digits hands to a loop: a contract. | What enc.Get returns: a contract. | Bytes in regions that draw their order: laws for the walk. No condition. | A region that draws its order, whose calls wait for one another, and in which nothing that was there is written anew: one order serves every order. No condition. -/
import Derived.WalkKit
import Derived.Test.YtechkdhehipliaaGreatDoorRowInJ3
import Derived.RangeFuncNested
import Derived.RangeFuncBound
import Derived.RangeFuncCalls
import Derived.RangeFuncLeaves
import Derived.Shelf.Abstract
import Derived.Shelf.RegionOpen
import Derived.OwnWalkIn
import Derived.TacticsInMore
import Derived.LoopNIn
import Derived.LoopIn
import Derived.Deep.RegionLaw
import Derived.BigQuiet
import Derived.Lib.QuietBelow
import Derived.OrdersHeld
namespace Go.Proofs.YtechkdhehipliaaGreatDoor.EncM
set_option maxRecDepth 100000

/-- A number of 64 bits. -/
def Fits (n : Nat) : Prop := n < 18446744073709551616
theorem Fits.lt {n : Nat} (h : Fits n) : n < 18446744073709551616 := h
theorem Fits.le {n m : Nat} (h : Fits n) (hm : m ≤ n) : Fits m := Nat.lt_of_le_of_lt hm h

/-- A number in bytes: its digits to the base 128, the lowest one first, each but the last one with 128 more. -/
def numL (n : Nat) : List Int := if h : n < 128 then [(n : Int)] else ((n % 128 + 128 : Nat) : Int) :: numL (n / 128)
termination_by n
decreasing_by omega
theorem numL_one {n : Nat} (h : n < 128) : numL n = [(n : Int)] := by rw [numL, dif_pos h]
theorem numL_more {n : Nat} (h : 128 ≤ n) : numL n = ((n % 128 + 128 : Nat) : Int) :: numL (n / 128) := by rw [numL, dif_neg (by omega)]
theorem numL_pos (n : Nat) : 0 < (numL n).length := by
  by_cases h : n < 128
  · rw [numL_one h]; simp
  · rw [numL_more (by omega)]; simp
theorem numL_len (k n : Nat) (h : n < 2 ^ (7 * (k + 1))) : (numL n).length ≤ k + 1 := by
  induction k generalizing n with
  | zero => rw [numL_one (by simpa using h)]; simp
  | succ k ih =>
    by_cases h1 : n < 128
    · rw [numL_one h1]; simp
    · rw [numL_more (by omega), List.length_cons]
      have := ih (n / 128) (by
        rw [show 7 * (k + 1 + 1) = 7 * (k + 1) + 7 by omega, Nat.pow_add] at h
        omega)
      omega
theorem numL_ten {n : Nat} (h : n < 18446744073709551616) : (numL n).length ≤ 10 := numL_len 9 n (by omega)
theorem numL_range (n : Nat) : ∀ x ∈ numL n, 0 ≤ x ∧ x ≤ 255 := by
  induction n using Nat.strongRecOn with
  | _ n ih =>
    by_cases h : n < 128
    · rw [numL_one h]; simp; omega
    · rw [numL_more (by omega)]
      intro x hx
      rcases List.mem_cons.1 hx with rfl | hx
      · omega
      · exact ih (n / 128) (by omega) x hx
/-- A greater number has no fewer bytes. -/
theorem numL_mono (n m : Nat) (h : m ≤ n) : (numL m).length ≤ (numL n).length := by
  induction n using Nat.strongRecOn generalizing m with
  | _ n ih =>
    by_cases hm : m < 128
    · rw [numL_one hm]
      have := numL_pos n
      simp; omega
    · rw [numL_more (by omega : 128 ≤ m), numL_more (by omega : 128 ≤ n), List.length_cons, List.length_cons]
      have := ih (n / 128) (by omega) (m / 128) (by omega)
      omega
theorem numL_len1 (n : Nat) : (numL n).length = 1 ↔ n < 128 := by
  by_cases h : n < 128
  · rw [numL_one h]; simp [h]
  · rw [numL_more (by omega), List.length_cons]
    have := numL_pos (n / 128)
    omega
theorem numL_len2 (n : Nat) : 2 < (numL n).length ↔ 16384 ≤ n := by
  by_cases h : n < 128
  · rw [numL_one h]; simp; omega
  · rw [numL_more (by omega), List.length_cons]
    have h1 := numL_len1 (n / 128)
    have := numL_pos (n / 128)
    omega
/-- Only the last byte is below 128. -/
theorem numL_last (n i : Nat) (h : i < (numL n).length) : (numL n).getD i 0 < 128 ↔ i = (numL n).length - 1 := by
  induction n using Nat.strongRecOn generalizing i with
  | _ n ih =>
    by_cases hn : n < 128
    · rw [numL_one hn] at h ⊢
      simp at h
      subst h
      simp; omega
    · rw [numL_more (by omega)] at h ⊢
      have hp := numL_pos (n / 128)
      cases i with
      | zero =>
        rw [List.getD_cons_zero, List.length_cons]
        omega
      | succ i =>
        rw [List.length_cons] at h
        rw [List.getD_cons_succ, List.length_cons]
        have := ih (n / 128) (by omega) i (by omega)
        omega

/-- The number that bytes begin with, and how many bytes that has: by bytes, from place i on, n being what the bytes ahead are. -/
def getG (i n : Nat) : List Int → Nat × Nat
  | [] => (0, 0)
  | b :: r =>
    if 10 ≤ i then (0, 0)
    else if 18446744073709551616 ≤ n + (b % 128).toNat * 2 ^ (7 * i) then (0, 0)
    else if b < 128 then (if (b % 128).toNat = 0 ∧ 0 < i then (0, 0) else (n + (b % 128).toNat * 2 ^ (7 * i), i + 1))
    else getG (i + 1) (n + (b % 128).toNat * 2 ^ (7 * i)) r
def getL (bs : List Int) : Nat × Nat := getG 0 0 bs

theorem pw_succ (i : Nat) : 2 ^ (7 * (i + 1)) = 128 * 2 ^ (7 * i) := by
  rw [show 7 * (i + 1) = 7 * i + 7 by omega, Nat.pow_add]
  omega

/-- What is put is got, whatever stands behind. -/
theorem getG_num (m i n : Nat) (r : List Int) (hn : n < 2 ^ (7 * i)) (hm : n + m * 2 ^ (7 * i) < 18446744073709551616) (h0 : m ≠ 0 ∨ i = 0) :
    getG i n (numL m ++ r) = (n + m * 2 ^ (7 * i), i + (numL m).length) := by
  have hi : ∀ m i : Nat, m * 2 ^ (7 * i) < 18446744073709551616 → (m ≠ 0 ∨ i = 0) → i < 10 := by
    intro m i h h0
    rcases h0 with h0 | h0
    · by_cases hi : i < 10
      · exact hi
      · have h1 : 2 ^ 70 ≤ 2 ^ (7 * i) := Nat.pow_le_pow_right (by omega) (by omega)
        have h2 : 1 * 2 ^ (7 * i) ≤ m * 2 ^ (7 * i) := Nat.mul_le_mul_right _ (by omega)
        omega
    · omega
  induction m using Nat.strongRecOn generalizing i n with
  | _ m ih =>
    have hi10 := hi m i (by omega) h0
    by_cases hs : m < 128
    · rw [numL_one hs]
      simp only [List.cons_append, List.nil_append, getG]
      have e : ((m : Int) % 128).toNat = m := by omega
      rw [e, if_neg (by omega), if_neg (by omega), if_pos (by omega), if_neg (by omega)]
      simp
    · rw [numL_more (by omega)]
      simp only [List.cons_append, getG]
      have e : (((m % 128 + 128 : Nat) : Int) % 128).toNat = m % 128 := by omega
      have hd : m % 128 * 2 ^ (7 * i) + m / 128 * 2 ^ (7 * (i + 1)) = m * 2 ^ (7 * i) := by
        rw [pw_succ, ← Nat.mul_assoc, ← Nat.add_mul]
        congr 1
        omega
      have hle : m % 128 * 2 ^ (7 * i) ≤ 127 * 2 ^ (7 * i) := Nat.mul_le_mul_right _ (by omega)
      have hp := pw_succ i
      rw [e, if_neg (by omega), if_neg (by omega), if_neg (by omega), ih (m / 128) (by omega) (i + 1) _ (by omega) (by omega) (by omega)]
      refine Prod.ext ?_ ?_
      · show n + m % 128 * 2 ^ (7 * i) + m / 128 * 2 ^ (7 * (i + 1)) = n + m * 2 ^ (7 * i)
        omega
      · simp only [List.length_cons]
        omega
theorem getL_num (m : Nat) (r : List Int) (hm : m < 18446744073709551616) : getL (numL m ++ r) = (m, (numL m).length) := by
  have := getG_num m 0 0 r (by simp) (by simpa using hm) (.inr rfl)
  simpa [getL] using this

/-- What is got is put as the same bytes. -/
theorem getG_back (bs : List Int) (hb : ∀ x ∈ bs, 0 ≤ x ∧ x ≤ 255) (i n N k : Nat) (h : getG i n bs = (N, k)) (hk : k ≠ 0) (hn : n < 2 ^ (7 * i)) :
    ∃ m, N = n + m * 2 ^ (7 * i) ∧ (m ≠ 0 ∨ i = 0) ∧ N < 18446744073709551616 ∧ i < k ∧ k ≤ 10 ∧ k - i ≤ bs.length ∧ bs.take (k - i) = numL m := by
  induction bs generalizing i n with
  | nil => simp [getG] at h; omega
  | cons b r ih =>
    have hbb := hb b (by simp)
    simp only [getG] at h
    by_cases h10 : 10 ≤ i
    · rw [if_pos h10] at h; simp at h; omega
    rw [if_neg h10] at h
    by_cases hov : 18446744073709551616 ≤ n + (b % 128).toNat * 2 ^ (7 * i)
    · rw [if_pos hov] at h; simp at h; omega
    rw [if_neg hov] at h
    by_cases hlt : b < 128
    · rw [if_pos hlt] at h
      by_cases hz : (b % 128).toNat = 0 ∧ 0 < i
      · rw [if_pos hz] at h; simp at h; omega
      · rw [if_neg hz] at h
        simp only [Prod.mk.injEq] at h
        obtain ⟨rfl, rfl⟩ := h
        refine ⟨(b % 128).toNat, rfl, by omega, by omega, by omega, by omega, by simp, ?_⟩
        rw [show i + 1 - i = 1 by omega, numL_one (by omega)]
        simp
        omega
    · rw [if_neg hlt] at h
      have hle : (b % 128).toNat * 2 ^ (7 * i) ≤ 127 * 2 ^ (7 * i) := Nat.mul_le_mul_right _ (by omega)
      have hp := pw_succ i
      obtain ⟨m, h1, h2, h3, h4, h5, h6, h7⟩ := ih (fun x hx => hb x (by simp [hx])) (i + 1) _ h (by omega)
      have hm : m ≠ 0 := by omega
      refine ⟨(b % 128).toNat + 128 * m, ?_, by omega, h3, by omega, h5, by rw [List.length_cons]; omega, ?_⟩
      · rw [h1, pw_succ, Nat.add_mul, Nat.add_assoc, Nat.mul_comm 128 m, Nat.mul_assoc]
      · rw [show k - i = (k - (i + 1)) + 1 by omega, List.take_succ_cons, h7, numL_more (n := (b % 128).toNat + 128 * m) (by omega), show ((b % 128).toNat + 128 * m) / 128 = m by omega]
        congr 1
        omega
theorem getL_back {bs : List Int} (hb : ∀ x ∈ bs, 0 ≤ x ∧ x ≤ 255) {N k : Nat} (h : getL bs = (N, k)) (hk : k ≠ 0) :
    N < 18446744073709551616 ∧ 0 < k ∧ k ≤ 10 ∧ k ≤ bs.length ∧ bs.take k = numL N := by
  obtain ⟨m, h1, _, h3, h4, h5, h6, h7⟩ := getG_back bs hb 0 0 N k h hk (by simp)
  have e : m = N := by simp at h1; omega
  subst e
  exact ⟨h3, h4, h5, by omega, by simpa using h7⟩
theorem getG_zero (bs : List Int) (i n : Nat) (h : (getG i n bs).2 = 0) : getG i n bs = (0, 0) := by
  induction bs generalizing i n with
  | nil => rfl
  | cons b r ih =>
    simp only [getG] at h ⊢
    by_cases h1 : 10 ≤ i
    · rw [if_pos h1]
    rw [if_neg h1] at h ⊢
    by_cases h2 : 18446744073709551616 ≤ n + (b % 128).toNat * 2 ^ (7 * i)
    · rw [if_pos h2]
    rw [if_neg h2] at h ⊢
    by_cases h3 : b < 128
    · rw [if_pos h3] at h ⊢
      by_cases h4 : (b % 128).toNat = 0 ∧ 0 < i
      · rw [if_pos h4]
      · rw [if_neg h4] at h
        simp at h
    · rw [if_neg h3] at h ⊢
      exact ih _ _ h
theorem getL_zero {bs : List Int} (h : (getL bs).2 = 0) : getL bs = (0, 0) := getG_zero bs 0 0 h
/-- How much is got, at most. -/
theorem getL_le {bs : List Int} (hb : ∀ x ∈ bs, 0 ≤ x ∧ x ≤ 255) : (getL bs).1 < 18446744073709551616 ∧ (getL bs).2 ≤ 10 ∧ (getL bs).2 ≤ bs.length := by
  by_cases h : (getL bs).2 = 0
  · rw [getL_zero h]; simp
  · obtain ⟨h1, _, h3, h4, _⟩ := getL_back hb (N := (getL bs).1) (k := (getL bs).2) rfl h
    exact ⟨h1, h3, h4⟩
theorem numL_inj {n m : Nat} (hn : n < 18446744073709551616) (hm : m < 18446744073709551616) (h : numL n = numL m) : n = m := by
  have h1 := getL_num n [] hn
  have h2 := getL_num m [] hm
  rw [h] at h1
  rw [h1] at h2
  exact (Prod.mk.inj h2).1
/-- A beginning of a number's bytes makes none. -/
theorem getL_cut (n k : Nat) (hn : n < 18446744073709551616) (hk : k < (numL n).length) : getL ((numL n).take k) = (0, 0) := by
  by_cases h : (getL ((numL n).take k)).2 = 0
  · exact getL_zero h
  · have hb : ∀ x ∈ (numL n).take k, 0 ≤ x ∧ x ≤ 255 := fun x hx => numL_range n x (List.mem_of_mem_take hx)
    obtain ⟨h1, h2, h3, h4, h5⟩ := getL_back hb (N := (getL ((numL n).take k)).1) (k := (getL ((numL n).take k)).2) rfl h
    have e := getL_num _ ((numL n).drop (getL ((numL n).take k)).2) h1
    rw [← h5, List.take_take, Nat.min_eq_left (by simp at h4; omega), List.take_append_drop] at e
    have e2 := getL_num n [] hn
    rw [List.append_nil] at e2
    rw [e] at e2
    have := (Prod.mk.inj e2).2
    simp at this h4
    omega
end Go.Proofs.YtechkdhehipliaaGreatDoor.EncM
namespace Go.Proofs.YtechkdhehipliaaGreatDoor.EncC
set_option maxRecDepth 100000
open Go.RowKit Byt EncM

theorem or128 {x : Int} (h : 0 ≤ x ∧ x ≤ 255) : bits .or .u8 x 128 = x % 128 + 128 := by
  have key : ∀ y : Fin 256, bits .or .u8 (y.val : Int) 128 = (y.val : Int) % 128 + 128 := by decide +kernel
  have := key ⟨x.toNat, by omega⟩
  have e : ((x.toNat : Nat) : Int) = x := by omega
  simpa [e] using this
/-- Words of 64 bits joined bit by bit. -/
theorem or64 (x y : Nat) (hx : x < 18446744073709551616) (hy : y < 18446744073709551616) : bits .or .u64 (x : Int) (y : Int) = ((x ||| y : Nat) : Int) := by
  show IntKind.u64.wrap ((((BitVec.ofInt 64 (x : Int) ||| BitVec.ofInt 64 (y : Int)).toNat : Nat)) : Int) = _
  have h1 : x ||| y < 2 ^ 64 := Nat.or_lt_two_pow (by omega) (by omega)
  have e1 : (BitVec.ofInt 64 (x : Int) ||| BitVec.ofInt 64 (y : Int)).toNat = x ||| y := by
    rw [BitVec.toNat_or, BitVec.ofInt_natCast, BitVec.ofInt_natCast, BitVec.toNat_ofNat, BitVec.toNat_ofNat, Nat.mod_eq_of_lt (by omega), Nat.mod_eq_of_lt (by omega)]
  rw [e1, IntKind.wrap_u64]
  omega
/-- Where the one has nothing but noughts below bit i, and the other one nothing else, both together are their sum. -/
theorem or_sum (n d i : Nat) (hn : n < 2 ^ i) (h : n + d * 2 ^ i < 18446744073709551616) : bits .or .u64 (n : Int) ((d * 2 ^ i : Nat) : Int) = ((n + d * 2 ^ i : Nat) : Int) := by
  rw [or64 _ _ (by omega) (by omega), Nat.mul_comm d, Nat.or_comm, ← Nat.two_pow_add_eq_or_of_lt hn, Nat.add_comm]
theorem or1 {x : Int} (h : 0 ≤ x) (h2 : x < 9223372036854775808) : bits .or .u64 (x * 2) 1 = 2 * x + 1 := by
  obtain ⟨m, rfl⟩ : ∃ m : Nat, x = m := ⟨x.toNat, by omega⟩
  have e : (m : Int) * 2 = ((2 ^ 1 * m : Nat) : Int) := by omega
  rw [e, show (1 : Int) = ((1 : Nat) : Int) from rfl, or64 _ _ (by omega) (by omega), ← Nat.two_pow_add_eq_or_of_lt (by omega)]
  omega

set_option maxHeartbeats 1000000 in
set_option maxRecDepth 100000 in
theorem num (n : Nat) (hn : Fits n) (w : World) :
    Calls Tryz.prog 73 #[.int .u64 n] w (New (numL n) w) := by
  have hten := numL_ten hn.lt
  go_enter Tryz.func73, Tryz.ntmps73
  go_wp2_with fail
  go_loopw [0, 3] (fun k v wr => ∃ (m : Nat) (pre : List Int), k = .int .u64 m ∧ Fits m ∧ Hid (numL n = pre ++ numL m) ∧ Hid (wr.ownsRow w.heap.size 5 1 v pre.length (bv pre)) ∧ Below w.heap.size w wr) (fun k _ _ => (intOf k).toNat)
  case atStart => exact ⟨n, [], rfl, hn, rfl, World.ownsRow_nil _ _ _ _, Below.refl _ _⟩
  case round =>
    obtain ⟨m, pre, rfl, hm, HN, HO, hb⟩ := hrel
    have hlen : pre.length + (numL m).length ≤ 10 := by
      have := HN.out
      rw [this, List.length_append] at hten
      exact hten
    have hs := hb.size
    by_cases hlt : m < 128
    · go_wp2_with (refine wpList_append_sl rfl (.tmp 14) (.tmp 17) 53 rfl w.heap.size 5 Tryz.underlying53 zero_u8 _ pre.length pre rfl (HO.out.alloc _) _ 1 1 [(m : Int)] rfl rfl (Sl.new1 _ _ _ ?c1) (by omega) (by simp; omega) ?_; (case c1 => unfold B; omega); intro v1 w1 hown1 hg1; have hb1 : Below w.heap.size w w1 := below_grown (hb.alloc hs _) (by simp; omega) hg1 (fun k hk => (HO.out.lt k hk).1); have HO1 := aside hown1; clear hown1 hg1)
      go_ret
      refine ⟨v1, rfl, ?_, hb1⟩
      rw [HN.out, numL_one hlt]
      simpa using HO1.out
    · have hor := or128 (x := (m : Int) % 256) (by omega)
      have e : (m : Int) % 256 % 128 + 128 = ((m % 128 + 128 : Nat) : Int) := by omega
      rw [e] at hor
      clear e
      go_wp2_with (refine wpList_append_sl rfl (.tmp 6) (.tmp 10) 53 rfl w.heap.size 5 Tryz.underlying53 zero_u8 _ pre.length pre rfl (HO.out.alloc _) _ 1 1 [((m % 128 + 128 : Nat) : Int)] rfl rfl (Sl.new1 _ _ _ ?c1) (by omega) (by simp; omega) ?_; (case c1 => unfold B; omega); intro v1 w1 hown1 hg1; have hb1 : Below w.heap.size w w1 := below_grown (hb.alloc hs _) (by simp; omega) hg1 (fun k hk => (HO.out.lt k hk).1); have HO1 := aside hown1; clear hown1 hg1)
      go_roundw
      case rel =>
        refine ⟨m / 128, pre ++ [((m % 128 + 128 : Nat) : Int)], by simp, hm.le (by omega), ?_, by simpa using HO1, hb1⟩
        have := HN.out
        rw [numL_more (n := m) (by omega)] at this
        exact aside (by rw [this]; simp)
      case measure => simp [intOf]; omega

/-- A number of either sign as one from 0 on, and back. -/
def foldI (k : Int) : Int := if 0 ≤ k then 2 * k else 2 * (-1 - k) + 1
def unfoldI (n : Int) : Int := if n % 2 = 0 then n / 2 else -1 - n / 2
theorem ret_int {k : IntKind} {a b : Int} (h : a = b) : Ending.returned (.int k a) = .returned (.int k b) := by rw [h]

set_option maxRecDepth 100000 in
theorem fold (k : Int) (hk : -9223372036854775808 ≤ k ∧ k ≤ 9223372036854775807) (w : World) :
    Calls Tryz.prog 74 #[.int .i64 k] w fun e w' => e = .returned (.int .u64 (foldI k)) ∧ w = w' := by
  obtain ⟨h1, h2⟩ := hk
  by_cases h0 : 0 ≤ k
  · go_enter Tryz.func74, Tryz.ntmps74
    go_wp2
    go_ret
    refine ⟨ret_int ?_, rfl⟩
    unfold foldI
    rw [if_pos h0]
    omega
  · go_enter Tryz.func74, Tryz.ntmps74
    go_wp2
    go_ret
    refine ⟨ret_int ?_, rfl⟩
    unfold foldI
    rw [if_neg (by omega), or1 (by omega) (by omega)]
theorem and1 {x : Int} (h : 0 ≤ x) (h2 : x ≤ 18446744073709551615) : bits .and .u64 x 1 = x % 2 := by
  obtain ⟨m, rfl⟩ : ∃ m : Nat, x = m := ⟨x.toNat, by omega⟩
  show IntKind.u64.wrap ((((BitVec.ofInt 64 (m : Int) &&& BitVec.ofInt 64 1).toNat : Nat)) : Int) = _
  have e1 : (BitVec.ofInt 64 (m : Int) &&& BitVec.ofInt 64 1).toNat = m % 2 := by
    rw [BitVec.toNat_and, BitVec.ofInt_natCast, BitVec.toNat_ofNat, Nat.mod_eq_of_lt (by omega)]
    show m &&& 1 = m % 2
    rw [Nat.and_one_is_mod]
  rw [e1, IntKind.wrap_u64]
  omega

/-- A text in bytes. -/
def textL (s : List Int) : List Int := numL s.length ++ s
set_option maxRecDepth 100000 in
theorem text (s : ByteArray) (hs : s.size ≤ 1099511627776) (w : World) :
    Calls Tryz.prog 99 #[.string s] w (New (textL (bytesL s)) w) := by
  have hn := num s.size (by unfold Fits; omega) w
  have hl := numL_len 9 s.size (by omega)
  go_enter Tryz.func99, Tryz.ntmps99
  go_wp2_with fail
  refine hn.mono ?_
  clear hn
  rintro e w1 ⟨v, rfl, hown, hb⟩
  have HO := aside hown
  clear hown
  have hs1 := hb.size
  go_wp2_with (refine wpList_append_str rfl (.tmp 6) (.tmp 7) 53 9 rfl w.heap.size 5 Tryz.underlying53 Tryz.underlying9 zero_u8 v _ (numL s.size) rfl HO.out s rfl (by omega) hs1 ?_; intro v2 w2 hown2 hg2; have hb2 : Below w.heap.size w w2 := below_grown hb hs1 hg2 (fun k hk => (HO.out.lt k hk).1); have HO2 := aside hown2; clear hown2 hg2)
  go_ret
  refine ⟨v2, rfl, ?_, hb2⟩
  have h := HO2.out
  unfold textL
  rw [bytesL_length, List.length_append, bytesL_length]
  exact h
end Go.Proofs.YtechkdhehipliaaGreatDoor.EncC
namespace Go.Proofs.YtechkdhehipliaaGreatDoor.EncP
set_option maxRecDepth 100000
open EncM

/-- A digit, and whether it is the last one. -/
abbrev Dg : Type := { p : Int × Bool // 0 ≤ p.1 ∧ p.1 < 128 }
def dg (b : Int) : Dg := ⟨(b % 128, decide (b < 128)), by constructor <;> simp <;> omega⟩
/-- The first k of them. -/
def dgs (bs : List Int) (k : Nat) : List Dg := (bs.take k).map dg
theorem dgs_length {bs : List Int} {k : Nat} (h : k ≤ bs.length) : (dgs bs k).length = k := by simp [dgs, h]
theorem dgs_succ {bs : List Int} {k : Nat} (h : k < bs.length) : dgs bs (k + 1) = dgs bs k ++ [dg (bs[k]?.getD 0)] := by
  unfold dgs
  rw [List.take_succ_eq_append_getElem h, List.map_append, List.getElem?_eq_getElem h]
  rfl

/-- As getG, by digits. -/
def getP (i n : Nat) : List Dg → Nat × Nat
  | [] => (0, 0)
  | x :: r =>
    if 18446744073709551616 ≤ n + x.1.1.toNat * 2 ^ (7 * i) then (0, 0)
    else if x.1.2 = true then (if x.1.1.toNat = 0 ∧ 0 < i then (0, 0) else (n + x.1.1.toNat * 2 ^ (7 * i), i + 1))
    else getP (i + 1) (n + x.1.1.toNat * 2 ^ (7 * i)) r
theorem getP_G (bs : List Int) (i n : Nat) (hi : i ≤ 10) : getP i n (dgs bs (10 - i)) = getG i n bs := by
  induction bs generalizing i n with
  | nil => simp [dgs, getP, getG]
  | cons b r ih =>
    by_cases h10 : 10 ≤ i
    · obtain rfl : i = 10 := by omega
      simp [dgs, getP, getG]
    · obtain ⟨k, hk⟩ : ∃ k, 10 - i = k + 1 := ⟨10 - i - 1, by omega⟩
      have hk' : 10 - (i + 1) = k := by omega
      have ih' := ih (i + 1) (n + (b % 128).toNat * 2 ^ (7 * i)) (by omega)
      rw [hk'] at ih'
      rw [hk]
      simp only [dgs, List.take_succ_cons, List.map_cons, getP, getG, if_neg h10, dg]
      simp only [dgs] at ih'
      by_cases h1 : 18446744073709551616 ≤ n + (b % 128).toNat * 2 ^ (7 * i)
      · rw [if_pos h1, if_pos h1]
      · rw [if_neg h1, if_neg h1]
        by_cases h2 : b < 128
        · rw [if_pos (by simpa using h2), if_pos h2]
        · rw [if_neg (by simpa using h2), if_neg h2]
          exact ih'
theorem getP_L (bs : List Int) : getP 0 0 (dgs bs 10) = getL bs := getP_G bs 0 0 (by omega)

/-- A digit within the number: it goes in, and comes back; one beyond it does not. -/
theorem back_in (i d n : Nat) (h : n + d * 2 ^ (7 * i) < 18446744073709551616) : d * 2 ^ (7 * i) % 18446744073709551616 / 2 ^ (7 * i) = d := by
  rw [Nat.mod_eq_of_lt (by omega)]
  exact Nat.mul_div_cancel _ (Nat.pow_pos (by omega))
theorem back_out (i d n : Nat) (hi : i < 10) (hd : d < 128) (hn : n < 2 ^ (7 * i)) (h : 18446744073709551616 ≤ n + d * 2 ^ (7 * i)) : d * 2 ^ (7 * i) % 18446744073709551616 / 2 ^ (7 * i) ≠ d := by
  have hc : i = 0 ∨ i = 1 ∨ i = 2 ∨ i = 3 ∨ i = 4 ∨ i = 5 ∨ i = 6 ∨ i = 7 ∨ i = 8 ∨ i = 9 := by omega
  rcases hc with rfl | rfl | rfl | rfl | rfl | rfl | rfl | rfl | rfl | rfl
  all_goals
    simp only [Nat.mul_zero, Nat.reduceMul, Nat.reducePow] at hn h ⊢
    omega
end Go.Proofs.YtechkdhehipliaaGreatDoor.EncP
namespace Go.Proofs.YtechkdhehipliaaGreatDoor.EncD
set_option maxRecDepth 100000
open Go.RowKit Go.Shelf Byt EncM EncP
attribute [local go_sem] Oper.semAt_some

/-- What the function to range over tells of a digit. -/
abbrev told (x : Dg) : Array Value := #[.int .u64 x.1.1, .bool x.1.2]




end Go.Proofs.YtechkdhehipliaaGreatDoor.EncD
namespace Go.Proofs.YtechkdhehipliaaGreatDoor.EncG
set_option maxRecDepth 100000
open Go.RowKit Go.Shelf Byt EncM EncP EncD EncC
attribute [local go_sem] Oper.semAt_some

theorem stays {X Y : World} {row : Option Nat} {g : Nat} {t : TypeId} {v : Value} (h : Boxed X g t v) (hg : X.grownBy Y row) (hr : ∀ r, row = some r → ∃ o : Obj, X.heap[r]? = some o ∧ o.isCells = false) : Boxed Y g t v :=
  h.kept hg (fun e => by obtain ⟨o, ho, hc⟩ := hr g e.symm; rw [show X.heap[g]? = _ from h] at ho; cases ho; cases hc)

/-- Between two digits: what those that came are together, and that none of them is the last one. -/
def Inv (N : Nat) (pre : List Dg) (W : World) : Prop :=
  ∃ n : Nat, n < 2 ^ (7 * pre.length) ∧ (∀ rest, getP 0 0 (pre ++ rest) = getP pre.length n rest) ∧ (∀ p ∈ pre, p.1.2 = false) ∧
    Boxed W N 90 (.int .u64 0) ∧ Boxed W (N + 1) 3 (.int .i64 0) ∧ Boxed W (N + 1 + 1) 90 (.int .u64 n) ∧ Boxed W (N + 1 + 1 + 1) 3 (.int .i64 pre.length)
/-- Where the loop was left: what is answered. -/
def Out (N : Nat) (c : Code) (pre : List Dg) (W : World) : Prop :=
  c = .ret ∧ ∃ n k : Nat, (∀ rest, getP 0 0 (pre ++ rest) = (n, k)) ∧ Boxed W N 90 (.int .u64 n) ∧ Boxed W (N + 1) 3 (.int .i64 k)


end Go.Proofs.YtechkdhehipliaaGreatDoor.EncG
namespace Go.Proofs.YtechkdhehipliaaGreatDoor.BytR
set_option maxRecDepth 100000
open Go.RowKit Byt

/-- 'append' of a slice of bytes inside a region that draws its order. -/
theorem step_append_sl {P : Program} {w : World} {ops : Array Oper} {o : Oper} {a : Act} {K : Act → World → Prop} {Q : Exit → Act → World → Prop} {E : Prop} (hgd : o.guard = none) (s x : Operand) (t : TypeId)
    (ho : o.op = .call { callee := .builtin .append, args := #[s, x], argTypes := #[t, t] })
    (base : Nat) (e : TypeId) (ht : P.underlying t = some (.slice e)) (hz : (P.info? e).map (fun i => (i.zero, i.size, i.bytes)) = some (some (.int .u8 0), 1, 1))
    (v : Value) (n : Nat) (xs : List Int) (hs : a.eval s = v) (hown : w.ownsRow base e 1 v n (bv xs))
    (A : Option Addr) (m c : Nat) (l : List Int) (hx : a.eval x = .slice A m c) (hm : l.length = m) (hr : Sl w A c l)
    (h63 : n + m ≤ 1099511627900) (hbase : base ≤ w.heap.size)
    (h : ∀ v' w', w'.ownsRow base e 1 v' (n + m) (bv (xs ++ l)) → w.grownBy w' v.ownBlock → K (a.put o.dst v') w') :
    if Region.wanted o (yielded ops a.tmps) = true then Oper.wp P o a w K Q else E := by
  have hw : Region.wanted o (yielded ops a.tmps) = true := by simp [Region.wanted, hgd]
  rw [if_pos hw]
  obtain ⟨i, hi, z0, z1, z2⟩ := info_parts hz
  subst hm
  have key : ∃ v' w', (Builtin.append_ #[t, t] o.type #[v, .slice A l.length c]).run P w = .ok v' w' ∧ w'.ownsRow base e 1 v' (n + l.length) (bv (xs ++ l)) ∧ w.grownBy w' v.ownBlock := by
    obtain ⟨h1, h2, h4, h5⟩ := hr
    rcases h5 with ⟨rfl, rfl, rfl⟩ | ⟨ad, rfl, hc⟩
    · exact ⟨v, w, run_append_owned_none (P := P) (w := w) base t o.type e i 1 ht hi v n (bv xs) hown, by simpa using hown, grown_of_below (Below.refl _ _) _⟩
    · obtain ⟨v', w', q1, q2, q3, _⟩ := run_append_own (P := P) w base t o.type e i (.int .u8 0) 1 1 ht hi z0 z1 z2 rfl (by decide) v n (bv xs) hown ad l.length c (bv l) (by rw [bv_length]; omega) (fun j u hu => by
        have hj : j < l.length := by
          have := (List.getElem?_eq_some_iff.1 hu).1
          simpa [bv] using this
        rw [bv_at _ hj] at hu
        rw [hc j hj, ← hu]) (bv_one _) (by unfold maxLen; omega) (by omega) hbase
      exact ⟨v', w', q1, by rw [bv_append]; exact q2, q3⟩
  obtain ⟨v', w', q1, q2, q3⟩ := key
  unfold Oper.wp execOp
  simp only [ho, resolve, invoke, builtin, Sem.run_bind, Sem.run_pure, Result.andThen_ok, List.map_toArray, List.map_cons, List.map_nil, hs, hx, q1]
  exact h v' w' q2 q3
end Go.Proofs.YtechkdhehipliaaGreatDoor.BytR
namespace Go.Proofs.YtechkdhehipliaaGreatDoor.Byt
open Go.RowKit
/-- A block known whole, as a slice. -/
theorem Sl.of_cells {w : World} {g : Nat} {l : List Int} {t : TypeId} {fr : Nat × Nat} (h : w.heap[g]? = some (.cells (bv l).toArray t fr)) (hl : l.length ≤ maxLen) (hb : ∀ x ∈ l, B x) : Sl w (some ⟨g, 0, none⟩) l.length l := by
  refine ⟨Nat.le_refl _, hl, hb, .inr ⟨_, rfl, fun i hi => ?_⟩⟩
  rw [Addr.add_lit, Nat.zero_add, cell_of_row w g i _ t fr h, List.getElem?_toArray, bv_at _ hi]
end Go.Proofs.YtechkdhehipliaaGreatDoor.Byt
namespace Go.Proofs.YtechkdhehipliaaGreatDoor.Grow
set_option maxRecDepth 100000
open Go Go.Sort Go.RowKit

section
variable {P : Program} {ops : Array Oper} {Q : Exit → Act → World → Prop} {md : Region.Mode}

/-- Whatever order is picked from here on, and each operation leaves all that was there as it was. -/
def M (P : Program) (md : Region.Mode) (ops : Array Oper) (Q : Exit → Act → World → Prop) : Nat → Array Bool → Act → World → Prop
  | 0, listed, a, w => Region.ready md ops listed = [] ∧ Q .normal a w
  | fuel + 1, listed, a, w => (Region.ready md ops listed = [] → Q .normal a w) ∧
    ∀ i ∈ Region.ready md ops listed, wpOp P ops Q i (fun a' w' => Below w.heap.size w w' ∧ M P md ops Q fuel (listed.setIfInBounds i true) a' w') a w
theorem M.any : ∀ (fuel : Nat) (listed : Array Bool) (a : Act) (w : World), M P md ops Q fuel listed a w → wpAny P md ops Q fuel listed a w
  | 0, _, _, _, h => h
  | fuel + 1, _, _, _, h => ⟨h.1, fun i hi => wpOp_mono (fun a' w' h' => M.any fuel _ a' w' h'.2) (h.2 i hi)⟩

/-- What reads in all worlds that grew from w reads in all that grew from one of these. -/
theorem later {o : Oper} {v : Value} {a : Act} {w w' : World} (h : YieldsIf P ops (Below w.heap.size w) o v a) (hb : Below w.heap.size w w') : YieldsIf P ops (Below w'.heap.size w') o v a :=
  h.imp (fun ⟨h1, h2⟩ => ⟨h1, fun u hu => h2 u (hb.trans (hu.mono hb.size))⟩) id

/-- An operation that only reads may come first. -/
theorem M.first {i : Nat} {oi : Oper} {v : Value} (hi : ops[i]? = some oi) (hs : Region.noSelect ops = true)
    (hQ : ∀ c a w, Q (.panic c) (a.put oi.dst v) w → Q (.panic c) a w) (fuel : Nat) :
    ∀ (listed : Array Bool) (a : Act) (w : World),
      (∀ j oj, ops[j]? = some oj → j ≠ i → listed.getD j true = false → (∀ e ∈ oj.after, Region.binds md e = true → e.on ≠ i) → oi.apart ops oj = true) →
      i ∈ Region.ready md ops listed → YieldsIf P ops (Below w.heap.size w) oi v a →
      M P md ops Q fuel (listed.setIfInBounds i true) (a.put oi.dst v) w → M P md ops Q (fuel + 1) listed a w := by
  have sel := fun (j : Nat) (o : Oper) (cs : Array SelectCase) (b : Bool) (h : ops[j]? = some o) => Region.noSelect_spec hs j o cs b h
  induction fuel with
  | zero =>
    intro listed a w _ hr hy H
    refine ⟨fun h0 => absurd hr (by rw [h0]; simp), fun j hj => ?_⟩
    by_cases e : j = i
    · subst e
      exact hy.wpOp hi (Below.refl _ _) ⟨Below.refl _ _, H⟩
    · exact absurd (ready_mono hj e) (by rw [H.1]; simp)
  | succ fuel ih =>
    intro listed a w hf hr hy H
    refine ⟨fun h0 => absurd hr (by rw [h0]; simp), fun j hj => ?_⟩
    by_cases e : j = i
    · subst e
      exact hy.wpOp hi (Below.refl _ _) ⟨Below.refl _ _, H⟩
    · have hstep := H.2 j (ready_mono hj e)
      obtain ⟨hun, oj, hoj, hall⟩ := mem_ready.1 hj
      have hno : ∀ x ∈ oj.after, Region.binds md x = true → x.on ≠ i := by
        intro x hx hb hxi
        have p1 := hall x hx hb
        have p0 := (mem_ready.1 hr).1
        rw [hxi] at p1
        by_cases hlt : i < listed.size
        · simp [hlt] at p0 p1
          rw [p0] at p1
          cases p1
        · simp [Array.getElem?_eq_none (Nat.le_of_not_lt hlt)] at p1
      refine wpOp_mono (fun a' w' h3 => ⟨h3.2.1, ?_⟩) (wpOp_putIf hoj (hf j oj hoj e hun hno) (fun cs b => sel i oi cs b hi) (fun cs b => sel j oj cs b hoj) hQ hy hstep)
      obtain ⟨y1, y2, y3⟩ := h3
      refine ih (listed.setIfInBounds j true) a' w' (fun k ok hk hki hku hkn => hf k ok hk hki ?_ hkn) (ready_mono hr (fun h => e h.symm)) (later y1 y2) ?_
      · by_cases ejk : j = k
        · subst ejk; exact hun
        · rwa [getD_set_ne true ejk] at hku
      · rw [Array.setIfInBounds_comm _ _ e]
        exact y3

/-- Operations that yield a value, and enter no function. -/
def plain (o : Oper) : Bool := match o.op with
  | .move _ | .assign _ | .pick .. | .load .. | .binOp .. | .unOp .. | .convert .. | .slice .. | .fieldAddr .. | .field .. | .indexAddr .. | .index .. | .lookup .. | .extract .. | .build .. | .makeInterface .. => true
  | .call { callee := .builtin .len, .. } | .call { callee := .builtin .cap, .. } | .call { callee := .builtin .min, .. } | .call { callee := .builtin .max, .. } => true
  | _ => false
theorem value_of {α : Type} {s : Sem α} {g : α → Value} {w w' : World} {n : Next} (h : (do pure (Next.value (g (← s))) : Sem Next).run P w = .ok n w') : ∃ v, n = .value v := by
  rw [Sem.run_bind] at h
  cases hq : s.run P w with
  | ok x u =>
    rw [hq] at h
    simp [Result.andThen] at h
    exact ⟨g x, h.1.symm⟩
  | halt x u => rw [hq] at h; simp [Result.andThen] at h
theorem plain_value {o : Oper} (hp : plain o = true) {ρ : Operand → Value} {w w' : World} {n : Next} (h : (execOp ρ o).run P w = .ok n w') : ∃ v, n = .value v := by
  unfold execOp at h
  unfold plain at hp
  cases hop : o.op <;> simp only [hop] at h hp
  case call c =>
    obtain ⟨callee, args, argTypes⟩ := c
    cases callee with
    | builtin b =>
      cases b <;> first | (exfalso; simp at hp; done) | (simp only [resolve, Sem.run_bind, Sem.run_pure, Result.andThen_ok, invoke, builtin] at h; exact value_of (g := id) (by rw [Sem.run_bind]; exact h))
    | _ => exfalso; simp at hp
  case move x => simp at h; exact ⟨_, h.1.symm⟩
  case assign x => simp at h; exact ⟨_, h.1.symm⟩
  all_goals first | (cases hp; done) | exact value_of (g := id) h | exact value_of h

/-- The order that is walked: each operation by its number, with whether it only reads. -/
def orderB (md : Region.Mode) (ops : Array Oper) : List (Nat × Bool) → Array Bool → Bool
  | [], listed => (Region.ready md ops listed).isEmpty
  | (i, true) :: r, listed => (Region.ready md ops listed).contains i && Region.free md ops listed i && ((ops[i]?).map plain).getD false && orderB md ops r (listed.setIfInBounds i true)
  | (i, false) :: r, listed => Region.ready md ops listed == [i] && orderB md ops r (listed.setIfInBounds i true)
/-- Such an order, if there is one. -/
def orderOf (md : Region.Mode) (ops : Array Oper) : Nat → Array Bool → List (Nat × Bool)
  | 0, _ => []
  | fuel + 1, listed =>
    match (Region.ready md ops listed).find? fun i => Region.free md ops listed i && ((ops[i]?).map plain).getD false with
    | some i => (i, true) :: orderOf md ops fuel (listed.setIfInBounds i true)
    | none => match Region.ready md ops listed with
      | i :: _ => (i, false) :: orderOf md ops fuel (listed.setIfInBounds i true)
      | [] => []

/-- What is asked of each operation, in that order. -/
def Seq (P : Program) (ops : Array Oper) (Q : Exit → Act → World → Prop) : List (Nat × Bool) → Act → World → Prop
  | [], a, w => Q .normal a w
  | (i, true) :: r, a, w => ∃ o, ops[i]? = some o ∧ ∃ v, YieldsIf P ops (Below w.heap.size w) o v a ∧ Seq P ops Q r (a.put o.dst v) w
  | (i, false) :: r, a, w => ∃ o, ops[i]? = some o ∧ wpList P ops (Exit.then (fun a' w' => Below w.heap.size w w' ∧ Seq P ops Q r a' w') Q) [o] a w

theorem seq_M (hs : Region.noSelect ops = true) (hQ : ∀ c a d v w, Q (.panic c) (a.put d v) w → Q (.panic c) a w) : ∀ (l : List (Nat × Bool)) (listed : Array Bool) (a : Act) (w : World),
    orderB md ops l listed = true → Seq P ops Q l a w → M P md ops Q l.length listed a w
  | [], listed, a, w, hB, h => ⟨by simpa [orderB] using hB, h⟩
  | (i, true) :: r, listed, a, w, hB, ⟨o, ho, v, hy, h⟩ => by
    simp only [orderB, Bool.and_eq_true] at hB
    obtain ⟨⟨⟨h1, h2⟩, _⟩, h4⟩ := hB
    exact M.first ho hs (fun c a w => hQ c a o.dst v w) r.length listed a w (Region.free_spec ho h2) (by simpa using h1) hy (seq_M hs hQ r _ _ _ h4 h)
  | (i, false) :: r, listed, a, w, hB, ⟨o, ho, h⟩ => by
    simp only [orderB, Bool.and_eq_true, beq_iff_eq] at hB
    obtain ⟨h1, h4⟩ := hB
    refine ⟨fun h0 => (by rw [h1] at h0; cases h0), fun j hj => ?_⟩
    rw [h1] at hj
    obtain rfl : j = i := by simpa using hj
    unfold wpOp
    simp only [ho]
    unfold wpList at h
    split
    · rename_i hw
      rw [if_pos hw] at h
      rcases h with h | ⟨h, a', w', hl⟩
      · refine .inl ?_
        unfold Oper.wp at h ⊢
        generalize (execOp a.eval o).run P w = x at h ⊢
        have on : ∀ a' w', wpList P ops (Exit.then (fun a' w' => Below w.heap.size w w' ∧ Seq P ops Q r a' w') Q) [] a' w' → Below w.heap.size w w' ∧ M P md ops Q r.length (listed.setIfInBounds j true) a' w' := by
          intro a' w' hh
          unfold wpList at hh
          exact ⟨hh.1, seq_M hs hQ r _ _ _ h4 hh.2⟩
        cases x with
        | ok n u =>
          cases n <;> simp only [Oper.upon] at h ⊢
          case enter f args =>
            refine Calls.mono h fun e w'' he => ?_
            cases e with
            | returned v => exact on _ _ he
            | panicked c => exact he
            | outgrown => exact he
          case row row args => exact Rows.mono h fun v w'' he => on _ _ he
          all_goals exact on _ _ h
        | halt x u => cases x <;> simp only [Oper.upon] at h ⊢; exact h
      · exact .inr ⟨h, a', w', hl⟩
    · rename_i hw
      rw [if_neg hw] at h
      unfold wpList at h
      exact ⟨h.1, seq_M hs hQ r _ _ _ h4 h.2⟩

/-- One order serves every order. -/
theorem region {id : Nat} {a : Act} {w : World} {l : List Oper} (order : List (Nat × Bool)) (hm : P.follows .mixedOrders = true) (hs : Region.noSelect l.toArray = true)
    (hl : order.length = l.toArray.size) (hB : orderB .any l.toArray order (Array.replicate l.toArray.size false) = true) (hQ : ∀ c a d v w, Q (.panic c) (a.put d v) w → Q (.panic c) a w)
    (h : Seq P l.toArray Q order a w.drew) : (Code.region id l.toArray true).wp P Q a w := by
  refine wp_region_any hm (M.any _ _ _ _ ?_)
  have := seq_M (md := .any) hs hQ order (Array.replicate l.toArray.size false) a w.drew hB h
  rw [hl] at this
  exact this

/-- The operation of that number. -/
def nth : List Oper → Nat → Option Oper
  | [], _ => none
  | o :: _, 0 => some o
  | _ :: l, n + 1 => nth l n
theorem nth_at : ∀ (l : List Oper) (i : Nat), l.toArray[i]? = nth l i
  | [], i => by simp [nth]
  | o :: l, 0 => by simp [nth]
  | o :: l, n + 1 => by
    have := nth_at l n
    simp only [List.getElem?_toArray] at this
    simp [nth, this]

/-- One operation that only reads: in every world that grew from this one it yields one and the same. -/
theorem reads {l : List Oper} {i : Nat} {o : Oper} {r : List (Nat × Bool)} {a : Act} {w : World} (hn : nth l i = some o) (hp : plain o = true)
    (h : wpQuiet P l.toArray (fun w' => ∃ p : Regrown, w' = grow (redrawn w p.d) p.os) (fun a' => Seq P l.toArray Q r a' w) [o] a) : Seq P l.toArray Q ((i, true) :: r) a w := by
  have ho := (nth_at l i).trans hn
  unfold wpQuiet at h
  split at h
  · rename_i hw
    obtain ⟨v, h1, h2⟩ := h
    refine ⟨o, ho, v, .inl ⟨hw, fun u hu => ?_⟩, h2⟩
    have q := h1 u (regrown_of_below hu)
    unfold Oper.quietAt at q
    cases hx : (execOp a.eval o).run P u with
    | ok n u' =>
      obtain ⟨x, rfl⟩ := plain_value hp hx
      rw [hx] at q
      obtain ⟨rfl, rfl⟩ := q
      rfl
    | halt x u' => rw [hx] at q; exact q.elim
  · rename_i hw
    exact ⟨o, ho, undef, .inr ⟨by simpa using hw, rfl⟩, h⟩
/-- What follows a call. -/
def On (P : Program) (ops : Array Oper) (Q : Exit → Act → World → Prop) (r : List (Nat × Bool)) (w : World) (a' : Act) (w' : World) : Prop := Below w.heap.size w w' ∧ Seq P ops Q r a' w'
/-- One operation that acts: a call. -/
theorem acts {l : List Oper} {i : Nat} {o : Oper} {r : List (Nat × Bool)} {a : Act} {w : World} (hn : nth l i = some o)
    (h : wpList P l.toArray (Exit.then (On P l.toArray Q r w) Q) [o] a w) : Seq P l.toArray Q ((i, false) :: r) a w := ⟨o, (nth_at l i).trans hn, h⟩
theorem ends {a : Act} {w : World} (h : Q .normal a w) : Seq P ops Q [] a w := h
end
/-- A fact for every world that grew. -/
theorem grown {w : World} {f : World → Prop} (h : ∀ u, Below w.heap.size w u → f u) : ∀ d os, f (grow (redrawn w d) os) := fun d os => h _ (below_regrown w d os)
end Go.Proofs.YtechkdhehipliaaGreatDoor.Grow
