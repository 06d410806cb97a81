/- Plain facts on numbers in bytes: the digits of a number to the base 128, and the number that bytes begin with. No condition. | What enc.Num, enc.Fold, enc.Unfold and enc.Text return: contracts. | Plain facts on the digits that bytes begin with, each with whether it is the last one. No condition. | What enc.digits hands to a loop: a contract. | What enc.Get returns: a contract. | Bytes in regions that draw their order: laws for the walk. No condition. -/
import Derived.WalkKit
import Derived.Test.YteojkfbnenfmkaaDoorRowInJ3
import Derived.RangeFuncNested
import Derived.RangeFuncBound
import Derived.RangeFuncCalls
import Derived.RangeFuncLeaves
import Derived.Shelf.Abstract
import Derived.Shelf.RegionOpen
import Derived.OwnWalkIn
import Derived.TacticsInMore
import Derived.LoopNIn
import Derived.LoopIn
import Derived.Deep.RegionLaw
namespace Go.Proofs.YteojkfbnenfmkaaDoor.EncM
set_option maxRecDepth 100000

/-- A number of 64 bits. -/
def Fits (n : Nat) : Prop := n < 18446744073709551616
theorem Fits.lt {n : Nat} (h : Fits n) : n < 18446744073709551616 := h
theorem Fits.le {n m : Nat} (h : Fits n) (hm : m ≤ n) : Fits m := Nat.lt_of_le_of_lt hm h

/-- A number in bytes: its digits to the base 128, the lowest one first, each but the last one with 128 more. -/
def numL (n : Nat) : List Int := if h : n < 128 then [(n : Int)] else ((n % 128 + 128 : Nat) : Int) :: numL (n / 128)
termination_by n
decreasing_by omega
theorem numL_one {n : Nat} (h : n < 128) : numL n = [(n : Int)] := by rw [numL, dif_pos h]
theorem numL_more {n : Nat} (h : 128 ≤ n) : numL n = ((n % 128 + 128 : Nat) : Int) :: numL (n / 128) := by rw [numL, dif_neg (by omega)]
theorem numL_pos (n : Nat) : 0 < (numL n).length := by
  by_cases h : n < 128
  · rw [numL_one h]; simp
  · rw [numL_more (by omega)]; simp
theorem numL_len (k n : Nat) (h : n < 2 ^ (7 * (k + 1))) : (numL n).length ≤ k + 1 := by
  induction k generalizing n with
  | zero => rw [numL_one (by simpa using h)]; simp
  | succ k ih =>
    by_cases h1 : n < 128
    · rw [numL_one h1]; simp
    · rw [numL_more (by omega), List.length_cons]
      have := ih (n / 128) (by
        rw [show 7 * (k + 1 + 1) = 7 * (k + 1) + 7 by omega, Nat.pow_add] at h
        omega)
      omega
theorem numL_ten {n : Nat} (h : n < 18446744073709551616) : (numL n).length ≤ 10 := numL_len 9 n (by omega)
theorem numL_range (n : Nat) : ∀ x ∈ numL n, 0 ≤ x ∧ x ≤ 255 := by
  induction n using Nat.strongRecOn with
  | _ n ih =>
    by_cases h : n < 128
    · rw [numL_one h]; simp; omega
    · rw [numL_more (by omega)]
      intro x hx
      rcases List.mem_cons.1 hx with rfl | hx
      · omega
      · exact ih (n / 128) (by omega) x hx

/-- The number that bytes begin with, and how many bytes that has: by bytes, from place i on, n being what the bytes ahead are. -/
def getG (i n : Nat) : List Int → Nat × Nat
  | [] => (0, 0)
  | b :: r =>
    if 10 ≤ i then (0, 0)
    else if 18446744073709551616 ≤ n + (b % 128).toNat * 2 ^ (7 * i) then (0, 0)
    else if b < 128 then (if (b % 128).toNat = 0 ∧ 0 < i then (0, 0) else (n + (b % 128).toNat * 2 ^ (7 * i), i + 1))
    else getG (i + 1) (n + (b % 128).toNat * 2 ^ (7 * i)) r
def getL (bs : List Int) : Nat × Nat := getG 0 0 bs

theorem pw_succ (i : Nat) : 2 ^ (7 * (i + 1)) = 128 * 2 ^ (7 * i) := by
  rw [show 7 * (i + 1) = 7 * i + 7 by omega, Nat.pow_add]
  omega

/-- What is put is got, whatever stands behind. -/
theorem getG_num (m i n : Nat) (r : List Int) (hn : n < 2 ^ (7 * i)) (hm : n + m * 2 ^ (7 * i) < 18446744073709551616) (h0 : m ≠ 0 ∨ i = 0) :
    getG i n (numL m ++ r) = (n + m * 2 ^ (7 * i), i + (numL m).length) := by
  have hi : ∀ m i : Nat, m * 2 ^ (7 * i) < 18446744073709551616 → (m ≠ 0 ∨ i = 0) → i < 10 := by
    intro m i h h0
    rcases h0 with h0 | h0
    · by_cases hi : i < 10
      · exact hi
      · have h1 : 2 ^ 70 ≤ 2 ^ (7 * i) := Nat.pow_le_pow_right (by omega) (by omega)
        have h2 : 1 * 2 ^ (7 * i) ≤ m * 2 ^ (7 * i) := Nat.mul_le_mul_right _ (by omega)
        omega
    · omega
  induction m using Nat.strongRecOn generalizing i n with
  | _ m ih =>
    have hi10 := hi m i (by omega) h0
    by_cases hs : m < 128
    · rw [numL_one hs]
      simp only [List.cons_append, List.nil_append, getG]
      have e : ((m : Int) % 128).toNat = m := by omega
      rw [e, if_neg (by omega), if_neg (by omega), if_pos (by omega), if_neg (by omega)]
      simp
    · rw [numL_more (by omega)]
      simp only [List.cons_append, getG]
      have e : (((m % 128 + 128 : Nat) : Int) % 128).toNat = m % 128 := by omega
      have hd : m % 128 * 2 ^ (7 * i) + m / 128 * 2 ^ (7 * (i + 1)) = m * 2 ^ (7 * i) := by
        rw [pw_succ, ← Nat.mul_assoc, ← Nat.add_mul]
        congr 1
        omega
      have hle : m % 128 * 2 ^ (7 * i) ≤ 127 * 2 ^ (7 * i) := Nat.mul_le_mul_right _ (by omega)
      have hp := pw_succ i
      rw [e, if_neg (by omega), if_neg (by omega), if_neg (by omega), ih (m / 128) (by omega) (i + 1) _ (by omega) (by omega) (by omega)]
      refine Prod.ext ?_ ?_
      · show n + m % 128 * 2 ^ (7 * i) + m / 128 * 2 ^ (7 * (i + 1)) = n + m * 2 ^ (7 * i)
        omega
      · simp only [List.length_cons]
        omega
theorem getL_num (m : Nat) (r : List Int) (hm : m < 18446744073709551616) : getL (numL m ++ r) = (m, (numL m).length) := by
  have := getG_num m 0 0 r (by simp) (by simpa using hm) (.inr rfl)
  simpa [getL] using this

end Go.Proofs.YteojkfbnenfmkaaDoor.EncM
namespace Go.Proofs.YteojkfbnenfmkaaDoor.EncC
set_option maxRecDepth 100000
open Go.RowKit Byt EncM

theorem or128 {x : Int} (h : 0 ≤ x ∧ x ≤ 255) : bits .or .u8 x 128 = x % 128 + 128 := by
  have key : ∀ y : Fin 256, bits .or .u8 (y.val : Int) 128 = (y.val : Int) % 128 + 128 := by decide +kernel
  have := key ⟨x.toNat, by omega⟩
  have e : ((x.toNat : Nat) : Int) = x := by omega
  simpa [e] using this
/-- Words of 64 bits joined bit by bit. -/
theorem or64 (x y : Nat) (hx : x < 18446744073709551616) (hy : y < 18446744073709551616) : bits .or .u64 (x : Int) (y : Int) = ((x ||| y : Nat) : Int) := by
  show IntKind.u64.wrap ((((BitVec.ofInt 64 (x : Int) ||| BitVec.ofInt 64 (y : Int)).toNat : Nat)) : Int) = _
  have h1 : x ||| y < 2 ^ 64 := Nat.or_lt_two_pow (by omega) (by omega)
  have e1 : (BitVec.ofInt 64 (x : Int) ||| BitVec.ofInt 64 (y : Int)).toNat = x ||| y := by
    rw [BitVec.toNat_or, BitVec.ofInt_natCast, BitVec.ofInt_natCast, BitVec.toNat_ofNat, BitVec.toNat_ofNat, Nat.mod_eq_of_lt (by omega), Nat.mod_eq_of_lt (by omega)]
  rw [e1, IntKind.wrap_u64]
  omega
theorem or1 {x : Int} (h : 0 ≤ x) (h2 : x < 9223372036854775808) : bits .or .u64 (x * 2) 1 = 2 * x + 1 := by
  obtain ⟨m, rfl⟩ : ∃ m : Nat, x = m := ⟨x.toNat, by omega⟩
  have e : (m : Int) * 2 = ((2 ^ 1 * m : Nat) : Int) := by omega
  rw [e, show (1 : Int) = ((1 : Nat) : Int) from rfl, or64 _ _ (by omega) (by omega), ← Nat.two_pow_add_eq_or_of_lt (by omega)]
  omega

set_option maxHeartbeats 1000000 in
set_option maxRecDepth 100000 in
theorem num (n : Nat) (hn : Fits n) (w : World) :
    Calls Tryd.prog 54 #[.int .u64 n] w (New (numL n) w) := by
  have hten := numL_ten hn.lt
  go_enter Tryd.func54, Tryd.ntmps54
  go_wp2_with fail
  go_loopw [0, 3] (fun k v wr => ∃ (m : Nat) (pre : List Int), k = .int .u64 m ∧ Fits m ∧ Hid (numL n = pre ++ numL m) ∧ Hid (wr.ownsRow w.heap.size 5 1 v pre.length (bv pre)) ∧ Below w.heap.size w wr) (fun k _ _ => (intOf k).toNat)
  case atStart => exact ⟨n, [], rfl, hn, rfl, World.ownsRow_nil _ _ _ _, Below.refl _ _⟩
  case round =>
    obtain ⟨m, pre, rfl, hm, HN, HO, hb⟩ := hrel
    have hlen : pre.length + (numL m).length ≤ 10 := by
      have := HN.out
      rw [this, List.length_append] at hten
      exact hten
    have hs := hb.size
    by_cases hlt : m < 128
    · go_wp2_with (refine wpList_append_sl rfl (.tmp 14) (.tmp 17) 66 rfl w.heap.size 5 Tryd.underlying66 zero_u8 _ pre.length pre rfl (HO.out.alloc _) _ 1 1 [(m : Int)] rfl rfl (Sl.new1 _ _ _ ?c1) (by omega) (by simp; omega) ?_; (case c1 => unfold B; omega); intro v1 w1 hown1 hg1; have hb1 : Below w.heap.size w w1 := below_grown (hb.alloc hs _) (by simp; omega) hg1 (fun k hk => (HO.out.lt k hk).1); have HO1 := aside hown1; clear hown1 hg1)
      go_ret
      refine ⟨v1, rfl, ?_, hb1⟩
      rw [HN.out, numL_one hlt]
      simpa using HO1.out
    · have hor := or128 (x := (m : Int) % 256) (by omega)
      have e : (m : Int) % 256 % 128 + 128 = ((m % 128 + 128 : Nat) : Int) := by omega
      rw [e] at hor
      clear e
      go_wp2_with (refine wpList_append_sl rfl (.tmp 6) (.tmp 10) 66 rfl w.heap.size 5 Tryd.underlying66 zero_u8 _ pre.length pre rfl (HO.out.alloc _) _ 1 1 [((m % 128 + 128 : Nat) : Int)] rfl rfl (Sl.new1 _ _ _ ?c1) (by omega) (by simp; omega) ?_; (case c1 => unfold B; omega); intro v1 w1 hown1 hg1; have hb1 : Below w.heap.size w w1 := below_grown (hb.alloc hs _) (by simp; omega) hg1 (fun k hk => (HO.out.lt k hk).1); have HO1 := aside hown1; clear hown1 hg1)
      go_roundw
      case rel =>
        refine ⟨m / 128, pre ++ [((m % 128 + 128 : Nat) : Int)], by simp, hm.le (by omega), ?_, by simpa using HO1, hb1⟩
        have := HN.out
        rw [numL_more (n := m) (by omega)] at this
        exact aside (by rw [this]; simp)
      case measure => simp [intOf]; omega

/-- A number of either sign as one from 0 on, and back. -/
def foldI (k : Int) : Int := if 0 ≤ k then 2 * k else 2 * (-1 - k) + 1
def unfoldI (n : Int) : Int := if n % 2 = 0 then n / 2 else -1 - n / 2
theorem ret_int {k : IntKind} {a b : Int} (h : a = b) : Ending.returned (.int k a) = .returned (.int k b) := by rw [h]

set_option maxRecDepth 100000 in
theorem fold (k : Int) (hk : -9223372036854775808 ≤ k ∧ k ≤ 9223372036854775807) (w : World) :
    Calls Tryd.prog 55 #[.int .i64 k] w fun e w' => e = .returned (.int .u64 (foldI k)) ∧ w = w' := by
  obtain ⟨h1, h2⟩ := hk
  by_cases h0 : 0 ≤ k
  · go_enter Tryd.func55, Tryd.ntmps55
    go_wp2
    go_ret
    refine ⟨ret_int ?_, rfl⟩
    unfold foldI
    rw [if_pos h0]
    omega
  · go_enter Tryd.func55, Tryd.ntmps55
    go_wp2
    go_ret
    refine ⟨ret_int ?_, rfl⟩
    unfold foldI
    rw [if_neg (by omega), or1 (by omega) (by omega)]

/-- A text in bytes. -/
def textL (s : List Int) : List Int := numL s.length ++ s
set_option maxRecDepth 100000 in
theorem text (s : ByteArray) (hs : s.size ≤ 1099511627776) (w : World) :
    Calls Tryd.prog 66 #[.string s] w (New (textL (bytesL s)) w) := by
  have hn := num s.size (by unfold Fits; omega) w
  have hl := numL_len 9 s.size (by omega)
  go_enter Tryd.func66, Tryd.ntmps66
  go_wp2_with fail
  refine hn.mono ?_
  clear hn
  rintro e w1 ⟨v, rfl, hown, hb⟩
  have HO := aside hown
  clear hown
  have hs1 := hb.size
  go_wp2_with (refine wpList_append_str rfl (.tmp 6) (.tmp 7) 66 9 rfl w.heap.size 5 Tryd.underlying66 Tryd.underlying9 zero_u8 v _ (numL s.size) rfl HO.out s rfl (by omega) hs1 ?_; intro v2 w2 hown2 hg2; have hb2 : Below w.heap.size w w2 := below_grown hb hs1 hg2 (fun k hk => (HO.out.lt k hk).1); have HO2 := aside hown2; clear hown2 hg2)
  go_ret
  refine ⟨v2, rfl, ?_, hb2⟩
  have h := HO2.out
  unfold textL
  rw [bytesL_length, List.length_append, bytesL_length]
  exact h
end Go.Proofs.YteojkfbnenfmkaaDoor.EncC
namespace Go.Proofs.YteojkfbnenfmkaaDoor.EncP
set_option maxRecDepth 100000
open EncM



end Go.Proofs.YteojkfbnenfmkaaDoor.EncP
namespace Go.Proofs.YteojkfbnenfmkaaDoor.EncD
set_option maxRecDepth 100000
open Go.RowKit Go.Shelf Byt EncM EncP
attribute [local go_sem] Oper.semAt_some





end Go.Proofs.YteojkfbnenfmkaaDoor.EncD
namespace Go.Proofs.YteojkfbnenfmkaaDoor.EncG
set_option maxRecDepth 100000
open Go.RowKit Go.Shelf Byt EncM EncP EncD EncC
attribute [local go_sem] Oper.semAt_some




end Go.Proofs.YteojkfbnenfmkaaDoor.EncG
namespace Go.Proofs.YteojkfbnenfmkaaDoor.BytR
set_option maxRecDepth 100000
open Go.RowKit Byt

end Go.Proofs.YteojkfbnenfmkaaDoor.BytR
namespace Go.Proofs.YteojkfbnenfmkaaDoor.Byt
open Go.RowKit
end Go.Proofs.YteojkfbnenfmkaaDoor.Byt
