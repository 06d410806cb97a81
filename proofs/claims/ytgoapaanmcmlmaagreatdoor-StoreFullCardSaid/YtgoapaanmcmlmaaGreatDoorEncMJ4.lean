/- Plain facts on numbers in bytes: the digits of a number to the base 128, and the number that bytes begin with. No condition. | What enc.Num, enc.Fold, enc.Unfold and enc.Text return: contracts. | Plain facts on the digits that bytes begin with, each with whether it is the last one. No condition. | What enc.digits hands to a loop: a contract. -/
import Derived.WalkKit
import Derived.Test.YtgoapaanmcmlmaaGreatDoorRowInJ3
import Derived.RangeFuncNested
import Derived.RangeFuncBound
import Derived.RangeFuncCalls
import Derived.RangeFuncLeaves
import Derived.Shelf.Abstract
import Derived.Shelf.RegionOpen
import Derived.OwnWalkIn
import Derived.TacticsInMore
import Derived.LoopNIn
import Derived.LoopIn
namespace Go.Proofs.YtgoapaanmcmlmaaGreatDoor.EncM
set_option maxRecDepth 100000
def Fits (n : Nat) : Prop := n < 18446744073709551616
theorem Fits.lt {n : Nat} (h : Fits n) : n < 18446744073709551616 := h
theorem Fits.le {n m : Nat} (h : Fits n) (hm : m ≤ n) : Fits m := Nat.lt_of_le_of_lt hm h
def numL (n : Nat) : List Int := if h : n < 128 then [(n : Int)] else ((n % 128 + 128 : Nat) : Int) :: numL (n / 128)
termination_by n
decreasing_by omega
theorem numL_one {n : Nat} (h : n < 128) : numL n = [(n : Int)] := by rw [numL, dif_pos h]
theorem numL_more {n : Nat} (h : 128 ≤ n) : numL n = ((n % 128 + 128 : Nat) : Int) :: numL (n / 128) := by rw [numL, dif_neg (by omega)]
theorem numL_pos (n : Nat) : 0 < (numL n).length := by
 by_cases h : n < 128
 · rw [numL_one h]; simp
 · rw [numL_more (by omega)]; simp
theorem numL_len (k n : Nat) (h : n < 2 ^ (7 * (k + 1))) : (numL n).length ≤ k + 1 := by
 induction k generalizing n with
 | zero => rw [numL_one (by simpa using h)]; simp
 | succ k ih =>
   by_cases h1 : n < 128
   · rw [numL_one h1]; simp
   · rw [numL_more (by omega), List.length_cons]
     have := ih (n / 128) (by
       rw [show 7 * (k + 1 + 1) = 7 * (k + 1) + 7 by omega, Nat.pow_add] at h
       omega)
     omega
theorem numL_ten {n : Nat} (h : n < 18446744073709551616) : (numL n).length ≤ 10 := numL_len 9 n (by omega)
theorem numL_range (n : Nat) : ∀ x ∈ numL n, 0 ≤ x ∧ x ≤ 255 := by
 induction n using Nat.strongRecOn with
 | _ n ih =>
   by_cases h : n < 128
   · rw [numL_one h]; simp; omega
   · rw [numL_more (by omega)]
     intro x hx
     rcases List.mem_cons.1 hx with rfl | hx
     · omega
     · exact ih (n / 128) (by omega) x hx
def getG (i n : Nat) : List Int → Nat × Nat
 | [] => (0, 0)
 | b :: r =>
   if 10 ≤ i then (0, 0)
   else if 18446744073709551616 ≤ n + (b % 128).toNat * 2 ^ (7 * i) then (0, 0)
   else if b < 128 then (if (b % 128).toNat = 0 ∧ 0 < i then (0, 0) else (n + (b % 128).toNat * 2 ^ (7 * i), i + 1))
   else getG (i + 1) (n + (b % 128).toNat * 2 ^ (7 * i)) r
def getL (bs : List Int) : Nat × Nat := getG 0 0 bs
theorem pw_succ (i : Nat) : 2 ^ (7 * (i + 1)) = 128 * 2 ^ (7 * i) := by
 rw [show 7 * (i + 1) = 7 * i + 7 by omega, Nat.pow_add]
 omega
theorem getG_num (m i n : Nat) (r : List Int) (hn : n < 2 ^ (7 * i)) (hm : n + m * 2 ^ (7 * i) < 18446744073709551616) (h0 : m ≠ 0 ∨ i = 0) :
   getG i n (numL m ++ r) = (n + m * 2 ^ (7 * i), i + (numL m).length) := by
 have hi : ∀ m i : Nat, m * 2 ^ (7 * i) < 18446744073709551616 → (m ≠ 0 ∨ i = 0) → i < 10 := by
   intro m i h h0
   rcases h0 with h0 | h0
   · by_cases hi : i < 10
     · exact hi
     · have h1 : 2 ^ 70 ≤ 2 ^ (7 * i) := Nat.pow_le_pow_right (by omega) (by omega)
       have h2 : 1 * 2 ^ (7 * i) ≤ m * 2 ^ (7 * i) := Nat.mul_le_mul_right _ (by omega)
       omega
   · omega
 induction m using Nat.strongRecOn generalizing i n with
 | _ m ih =>
   have hi10 := hi m i (by omega) h0
   by_cases hs : m < 128
   · rw [numL_one hs]
     simp only [List.cons_append, List.nil_append, getG]
     have e : ((m : Int) % 128).toNat = m := by omega
     rw [e, if_neg (by omega), if_neg (by omega), if_pos (by omega), if_neg (by omega)]
     simp
   · rw [numL_more (by omega)]
     simp only [List.cons_append, getG]
     have e : (((m % 128 + 128 : Nat) : Int) % 128).toNat = m % 128 := by omega
     have hd : m % 128 * 2 ^ (7 * i) + m / 128 * 2 ^ (7 * (i + 1)) = m * 2 ^ (7 * i) := by
       rw [pw_succ, ← Nat.mul_assoc, ← Nat.add_mul]
       congr 1
       omega
     have hle : m % 128 * 2 ^ (7 * i) ≤ 127 * 2 ^ (7 * i) := Nat.mul_le_mul_right _ (by omega)
     have hp := pw_succ i
     rw [e, if_neg (by omega), if_neg (by omega), if_neg (by omega), ih (m / 128) (by omega) (i + 1) _ (by omega) (by omega) (by omega)]
     refine Prod.ext ?_ ?_
     · show n + m % 128 * 2 ^ (7 * i) + m / 128 * 2 ^ (7 * (i + 1)) = n + m * 2 ^ (7 * i)
       omega
     · simp only [List.length_cons]
       omega
theorem getL_num (m : Nat) (r : List Int) (hm : m < 18446744073709551616) : getL (numL m ++ r) = (m, (numL m).length) := by
 have := getG_num m 0 0 r (by simp) (by simpa using hm) (.inr rfl)
 simpa [getL] using this
theorem getG_back (bs : List Int) (hb : ∀ x ∈ bs, 0 ≤ x ∧ x ≤ 255) (i n N k : Nat) (h : getG i n bs = (N, k)) (hk : k ≠ 0) (hn : n < 2 ^ (7 * i)) :
   ∃ m, N = n + m * 2 ^ (7 * i) ∧ (m ≠ 0 ∨ i = 0) ∧ N < 18446744073709551616 ∧ i < k ∧ k ≤ 10 ∧ k - i ≤ bs.length ∧ bs.take (k - i) = numL m := by
 induction bs generalizing i n with
 | nil => simp [getG] at h; omega
 | cons b r ih =>
   have hbb := hb b (by simp)
   simp only [getG] at h
   by_cases h10 : 10 ≤ i
   · rw [if_pos h10] at h; simp at h; omega
   rw [if_neg h10] at h
   by_cases hov : 18446744073709551616 ≤ n + (b % 128).toNat * 2 ^ (7 * i)
   · rw [if_pos hov] at h; simp at h; omega
   rw [if_neg hov] at h
   by_cases hlt : b < 128
   · rw [if_pos hlt] at h
     by_cases hz : (b % 128).toNat = 0 ∧ 0 < i
     · rw [if_pos hz] at h; simp at h; omega
     · rw [if_neg hz] at h
       simp only [Prod.mk.injEq] at h
       obtain ⟨rfl, rfl⟩ := h
       refine ⟨(b % 128).toNat, rfl, by omega, by omega, by omega, by omega, by simp, ?_⟩
       rw [show i + 1 - i = 1 by omega, numL_one (by omega)]
       simp
       omega
   · rw [if_neg hlt] at h
     have hle : (b % 128).toNat * 2 ^ (7 * i) ≤ 127 * 2 ^ (7 * i) := Nat.mul_le_mul_right _ (by omega)
     have hp := pw_succ i
     obtain ⟨m, h1, h2, h3, h4, h5, h6, h7⟩ := ih (fun x hx => hb x (by simp [hx])) (i + 1) _ h (by omega)
     have hm : m ≠ 0 := by omega
     refine ⟨(b % 128).toNat + 128 * m, ?_, by omega, h3, by omega, h5, by rw [List.length_cons]; omega, ?_⟩
     · rw [h1, pw_succ, Nat.add_mul, Nat.add_assoc, Nat.mul_comm 128 m, Nat.mul_assoc]
     · rw [show k - i = (k - (i + 1)) + 1 by omega, List.take_succ_cons, h7, numL_more (n := (b % 128).toNat + 128 * m) (by omega), show ((b % 128).toNat + 128 * m) / 128 = m by omega]
       congr 1
       omega
theorem getL_back {bs : List Int} (hb : ∀ x ∈ bs, 0 ≤ x ∧ x ≤ 255) {N k : Nat} (h : getL bs = (N, k)) (hk : k ≠ 0) :
   N < 18446744073709551616 ∧ 0 < k ∧ k ≤ 10 ∧ k ≤ bs.length ∧ bs.take k = numL N := by
 obtain ⟨m, h1, _, h3, h4, h5, h6, h7⟩ := getG_back bs hb 0 0 N k h hk (by simp)
 have e : m = N := by simp at h1; omega
 subst e
 exact ⟨h3, h4, h5, by omega, by simpa using h7⟩
theorem getG_zero (bs : List Int) (i n : Nat) (h : (getG i n bs).2 = 0) : getG i n bs = (0, 0) := by
 induction bs generalizing i n with
 | nil => rfl
 | cons b r ih =>
   simp only [getG] at h ⊢
   by_cases h1 : 10 ≤ i
   · rw [if_pos h1]
   rw [if_neg h1] at h ⊢
   by_cases h2 : 18446744073709551616 ≤ n + (b % 128).toNat * 2 ^ (7 * i)
   · rw [if_pos h2]
   rw [if_neg h2] at h ⊢
   by_cases h3 : b < 128
   · rw [if_pos h3] at h ⊢
     by_cases h4 : (b % 128).toNat = 0 ∧ 0 < i
     · rw [if_pos h4]
     · rw [if_neg h4] at h
       simp at h
   · rw [if_neg h3] at h ⊢
     exact ih _ _ h
theorem getL_zero {bs : List Int} (h : (getL bs).2 = 0) : getL bs = (0, 0) := getG_zero bs 0 0 h
theorem getL_le {bs : List Int} (hb : ∀ x ∈ bs, 0 ≤ x ∧ x ≤ 255) : (getL bs).1 < 18446744073709551616 ∧ (getL bs).2 ≤ 10 ∧ (getL bs).2 ≤ bs.length := by
 by_cases h : (getL bs).2 = 0
 · rw [getL_zero h]; simp
 · obtain ⟨h1, _, h3, h4, _⟩ := getL_back hb (N := (getL bs).1) (k := (getL bs).2) rfl h
   exact ⟨h1, h3, h4⟩
theorem getL_cut (n k : Nat) (hn : n < 18446744073709551616) (hk : k < (numL n).length) : getL ((numL n).take k) = (0, 0) := by
 by_cases h : (getL ((numL n).take k)).2 = 0
 · exact getL_zero h
 · have hb : ∀ x ∈ (numL n).take k, 0 ≤ x ∧ x ≤ 255 := fun x hx => numL_range n x (List.mem_of_mem_take hx)
   obtain ⟨h1, h2, h3, h4, h5⟩ := getL_back hb (N := (getL ((numL n).take k)).1) (k := (getL ((numL n).take k)).2) rfl h
   have e := getL_num _ ((numL n).drop (getL ((numL n).take k)).2) h1
   rw [← h5, List.take_take, Nat.min_eq_left (by simp at h4; omega), List.take_append_drop] at e
   have e2 := getL_num n [] hn
   rw [List.append_nil] at e2
   rw [e] at e2
   have := (Prod.mk.inj e2).2
   simp at this h4
   omega
end Go.Proofs.YtgoapaanmcmlmaaGreatDoor.EncM
namespace Go.Proofs.YtgoapaanmcmlmaaGreatDoor.EncC
set_option maxRecDepth 100000
open Go.RowKit Byt EncM
theorem or128 {x : Int} (h : 0 ≤ x ∧ x ≤ 255) : bits .or .u8 x 128 = x % 128 + 128 := by
 have key : ∀ y : Fin 256, bits .or .u8 (y.val : Int) 128 = (y.val : Int) % 128 + 128 := by decide +kernel
 have := key ⟨x.toNat, by omega⟩
 have e : ((x.toNat : Nat) : Int) = x := by omega
 simpa [e] using this
theorem or64 (x y : Nat) (hx : x < 18446744073709551616) (hy : y < 18446744073709551616) : bits .or .u64 (x : Int) (y : Int) = ((x ||| y : Nat) : Int) := by
 show IntKind.u64.wrap ((((BitVec.ofInt 64 (x : Int) ||| BitVec.ofInt 64 (y : Int)).toNat : Nat)) : Int) = _
 have h1 : x ||| y < 2 ^ 64 := Nat.or_lt_two_pow (by omega) (by omega)
 have e1 : (BitVec.ofInt 64 (x : Int) ||| BitVec.ofInt 64 (y : Int)).toNat = x ||| y := by
   rw [BitVec.toNat_or, BitVec.ofInt_natCast, BitVec.ofInt_natCast, BitVec.toNat_ofNat, BitVec.toNat_ofNat, Nat.mod_eq_of_lt (by omega), Nat.mod_eq_of_lt (by omega)]
 rw [e1, IntKind.wrap_u64]
 omega
theorem or_sum (n d i : Nat) (hn : n < 2 ^ i) (h : n + d * 2 ^ i < 18446744073709551616) : bits .or .u64 (n : Int) ((d * 2 ^ i : Nat) : Int) = ((n + d * 2 ^ i : Nat) : Int) := by
 rw [or64 _ _ (by omega) (by omega), Nat.mul_comm d, Nat.or_comm, ← Nat.two_pow_add_eq_or_of_lt hn, Nat.add_comm]
theorem or1 {x : Int} (h : 0 ≤ x) (h2 : x < 9223372036854775808) : bits .or .u64 (x * 2) 1 = 2 * x + 1 := by
 obtain ⟨m, rfl⟩ : ∃ m : Nat, x = m := ⟨x.toNat, by omega⟩
 have e : (m : Int) * 2 = ((2 ^ 1 * m : Nat) : Int) := by omega
 rw [e, show (1 : Int) = ((1 : Nat) : Int) from rfl, or64 _ _ (by omega) (by omega), ← Nat.two_pow_add_eq_or_of_lt (by omega)]
 omega
set_option maxHeartbeats 1000000 in
set_option maxRecDepth 100000 in
theorem num (n : Nat) (hn : Fits n) (w : World) :
   Calls Tryz.prog 42 #[.int .u64 n] w (New (numL n) w) := by
 have hten := numL_ten hn.lt
 go_enter Tryz.func42, Tryz.ntmps42
 go_wp2_with fail
 go_loopw [0, 3] (fun k v wr => ∃ (m : Nat) (pre : List Int), k = .int .u64 m ∧ Fits m ∧ Hid (numL n = pre ++ numL m) ∧ Hid (wr.ownsRow w.heap.size 5 1 v pre.length (bv pre)) ∧ Below w.heap.size w wr) (fun k _ _ => (intOf k).toNat)
 case atStart => exact ⟨n, [], rfl, hn, rfl, World.ownsRow_nil _ _ _ _, Below.refl _ _⟩
 case round =>
   obtain ⟨m, pre, rfl, hm, HN, HO, hb⟩ := hrel
   have hlen : pre.length + (numL m).length ≤ 10 := by
     have := HN.out
     rw [this, List.length_append] at hten
     exact hten
   have hs := hb.size
   by_cases hlt : m < 128
   · go_wp2_with (refine wpList_append_sl rfl (.tmp 14) (.tmp 17) 22 rfl w.heap.size 5 Tryz.underlying22 zero_u8 _ pre.length pre rfl (HO.out.alloc _) _ 1 1 [(m : Int)] rfl rfl (Sl.new1 _ _ _ ?c1) (by omega) (by simp; omega) ?_; (case c1 => unfold B; omega); intro v1 w1 hown1 hg1; have hb1 : Below w.heap.size w w1 := below_grown (hb.alloc hs _) (by simp; omega) hg1 (fun k hk => (HO.out.lt k hk).1); have HO1 := aside hown1; clear hown1 hg1)
     go_ret
     refine ⟨v1, rfl, ?_, hb1⟩
     rw [HN.out, numL_one hlt]
     simpa using HO1.out
   · have hor := or128 (x := (m : Int) % 256) (by omega)
     have e : (m : Int) % 256 % 128 + 128 = ((m % 128 + 128 : Nat) : Int) := by omega
     rw [e] at hor
     clear e
     go_wp2_with (refine wpList_append_sl rfl (.tmp 6) (.tmp 10) 22 rfl w.heap.size 5 Tryz.underlying22 zero_u8 _ pre.length pre rfl (HO.out.alloc _) _ 1 1 [((m % 128 + 128 : Nat) : Int)] rfl rfl (Sl.new1 _ _ _ ?c1) (by omega) (by simp; omega) ?_; (case c1 => unfold B; omega); intro v1 w1 hown1 hg1; have hb1 : Below w.heap.size w w1 := below_grown (hb.alloc hs _) (by simp; omega) hg1 (fun k hk => (HO.out.lt k hk).1); have HO1 := aside hown1; clear hown1 hg1)
     go_roundw
     case rel =>
       refine ⟨m / 128, pre ++ [((m % 128 + 128 : Nat) : Int)], by simp, hm.le (by omega), ?_, by simpa using HO1, hb1⟩
       have := HN.out
       rw [numL_more (n := m) (by omega)] at this
       exact aside (by rw [this]; simp)
     case measure => simp [intOf]; omega
def foldI (k : Int) : Int := if 0 ≤ k then 2 * k else 2 * (-1 - k) + 1
def unfoldI (n : Int) : Int := if n % 2 = 0 then n / 2 else -1 - n / 2
theorem ret_int {k : IntKind} {a b : Int} (h : a = b) : Ending.returned (.int k a) = .returned (.int k b) := by rw [h]
set_option maxRecDepth 100000 in
theorem fold (k : Int) (hk : -9223372036854775808 ≤ k ∧ k ≤ 9223372036854775807) (w : World) :
   Calls Tryz.prog 43 #[.int .i64 k] w fun e w' => e = .returned (.int .u64 (foldI k)) ∧ w = w' := by
 obtain ⟨h1, h2⟩ := hk
 by_cases h0 : 0 ≤ k
 · go_enter Tryz.func43, Tryz.ntmps43
   go_wp2
   go_ret
   refine ⟨ret_int ?_, rfl⟩
   unfold foldI
   rw [if_pos h0]
   omega
 · go_enter Tryz.func43, Tryz.ntmps43
   go_wp2
   go_ret
   refine ⟨ret_int ?_, rfl⟩
   unfold foldI
   rw [if_neg (by omega), or1 (by omega) (by omega)]
theorem and1 {x : Int} (h : 0 ≤ x) (h2 : x ≤ 18446744073709551615) : bits .and .u64 x 1 = x % 2 := by
 obtain ⟨m, rfl⟩ : ∃ m : Nat, x = m := ⟨x.toNat, by omega⟩
 show IntKind.u64.wrap ((((BitVec.ofInt 64 (m : Int) &&& BitVec.ofInt 64 1).toNat : Nat)) : Int) = _
 have e1 : (BitVec.ofInt 64 (m : Int) &&& BitVec.ofInt 64 1).toNat = m % 2 := by
   rw [BitVec.toNat_and, BitVec.ofInt_natCast, BitVec.toNat_ofNat, Nat.mod_eq_of_lt (by omega)]
   show m &&& 1 = m % 2
   rw [Nat.and_one_is_mod]
 rw [e1, IntKind.wrap_u64]
 omega
set_option maxRecDepth 100000 in
theorem unfold (n : Int) (hn : 0 ≤ n ∧ n ≤ 18446744073709551615) (w : World) :
   Calls Tryz.prog 116 #[.int .u64 n] w fun e w' => e = .returned (.int .i64 (unfoldI n)) ∧ w = w' := by
 obtain ⟨h1, h2⟩ := hn
 have ha := and1 h1 h2
 by_cases h0 : n % 2 = 0
 · rw [h0] at ha
   have HU := aside h0
   clear h0
   go_enter Tryz.func116, Tryz.ntmps116
   go_wp2
   go_ret
   exact ⟨ret_int (by unfold unfoldI; rw [if_pos HU.out]), rfl⟩
 · rw [show n % 2 = 1 by omega] at ha
   have HU := aside h0
   clear h0
   go_enter Tryz.func116, Tryz.ntmps116
   go_wp2
   go_ret
   exact ⟨ret_int (by unfold unfoldI; rw [if_neg HU.out]), rfl⟩
def textL (s : List Int) : List Int := numL s.length ++ s
set_option maxRecDepth 100000 in
theorem text (s : ByteArray) (hs : s.size ≤ 1099511627776) (w : World) :
   Calls Tryz.prog 83 #[.string s] w (New (textL (bytesL s)) w) := by
 have hn := num s.size (by unfold Fits; omega) w
 have hl := numL_len 9 s.size (by omega)
 go_enter Tryz.func83, Tryz.ntmps83
 go_wp2_with fail
 refine hn.mono ?_
 clear hn
 rintro e w1 ⟨v, rfl, hown, hb⟩
 have HO := aside hown
 clear hown
 have hs1 := hb.size
 go_wp2_with (refine wpList_append_str rfl (.tmp 6) (.tmp 7) 22 9 rfl w.heap.size 5 Tryz.underlying22 Tryz.underlying9 zero_u8 v _ (numL s.size) rfl HO.out s rfl (by omega) hs1 ?_; intro v2 w2 hown2 hg2; have hb2 : Below w.heap.size w w2 := below_grown hb hs1 hg2 (fun k hk => (HO.out.lt k hk).1); have HO2 := aside hown2; clear hown2 hg2)
 go_ret
 refine ⟨v2, rfl, ?_, hb2⟩
 have h := HO2.out
 unfold textL
 rw [bytesL_length, List.length_append, bytesL_length]
 exact h
end Go.Proofs.YtgoapaanmcmlmaaGreatDoor.EncC
namespace Go.Proofs.YtgoapaanmcmlmaaGreatDoor.EncP
set_option maxRecDepth 100000
open EncM
abbrev Dg : Type := { p : Int × Bool // 0 ≤ p.1 ∧ p.1 < 128 }
def dg (b : Int) : Dg := ⟨(b % 128, decide (b < 128)), by constructor <;> simp <;> omega⟩
def dgs (bs : List Int) (k : Nat) : List Dg := (bs.take k).map dg
theorem dgs_length {bs : List Int} {k : Nat} (h : k ≤ bs.length) : (dgs bs k).length = k := by simp [dgs, h]
theorem dgs_succ {bs : List Int} {k : Nat} (h : k < bs.length) : dgs bs (k + 1) = dgs bs k ++ [dg (bs[k]?.getD 0)] := by
 unfold dgs
 rw [List.take_succ_eq_append_getElem h, List.map_append, List.getElem?_eq_getElem h]
 rfl
def getP (i n : Nat) : List Dg → Nat × Nat
 | [] => (0, 0)
 | x :: r =>
   if 18446744073709551616 ≤ n + x.1.1.toNat * 2 ^ (7 * i) then (0, 0)
   else if x.1.2 = true then (if x.1.1.toNat = 0 ∧ 0 < i then (0, 0) else (n + x.1.1.toNat * 2 ^ (7 * i), i + 1))
   else getP (i + 1) (n + x.1.1.toNat * 2 ^ (7 * i)) r
theorem getP_G (bs : List Int) (i n : Nat) (hi : i ≤ 10) : getP i n (dgs bs (10 - i)) = getG i n bs := by
 induction bs generalizing i n with
 | nil => simp [dgs, getP, getG]
 | cons b r ih =>
   by_cases h10 : 10 ≤ i
   · obtain rfl : i = 10 := by omega
     simp [dgs, getP, getG]
   · obtain ⟨k, hk⟩ : ∃ k, 10 - i = k + 1 := ⟨10 - i - 1, by omega⟩
     have hk' : 10 - (i + 1) = k := by omega
     have ih' := ih (i + 1) (n + (b % 128).toNat * 2 ^ (7 * i)) (by omega)
     rw [hk'] at ih'
     rw [hk]
     simp only [dgs, List.take_succ_cons, List.map_cons, getP, getG, if_neg h10, dg]
     simp only [dgs] at ih'
     by_cases h1 : 18446744073709551616 ≤ n + (b % 128).toNat * 2 ^ (7 * i)
     · rw [if_pos h1, if_pos h1]
     · rw [if_neg h1, if_neg h1]
       by_cases h2 : b < 128
       · rw [if_pos (by simpa using h2), if_pos h2]
       · rw [if_neg (by simpa using h2), if_neg h2]
         exact ih'
theorem getP_L (bs : List Int) : getP 0 0 (dgs bs 10) = getL bs := getP_G bs 0 0 (by omega)
theorem back_in (i d n : Nat) (h : n + d * 2 ^ (7 * i) < 18446744073709551616) : d * 2 ^ (7 * i) % 18446744073709551616 / 2 ^ (7 * i) = d := by
 rw [Nat.mod_eq_of_lt (by omega)]
 exact Nat.mul_div_cancel _ (Nat.pow_pos (by omega))
theorem back_out (i d n : Nat) (hi : i < 10) (hd : d < 128) (hn : n < 2 ^ (7 * i)) (h : 18446744073709551616 ≤ n + d * 2 ^ (7 * i)) : d * 2 ^ (7 * i) % 18446744073709551616 / 2 ^ (7 * i) ≠ d := by
 have hc : i = 0 ∨ i = 1 ∨ i = 2 ∨ i = 3 ∨ i = 4 ∨ i = 5 ∨ i = 6 ∨ i = 7 ∨ i = 8 ∨ i = 9 := by omega
 rcases hc with rfl | rfl | rfl | rfl | rfl | rfl | rfl | rfl | rfl | rfl
 all_goals
   simp only [Nat.mul_zero, Nat.reduceMul, Nat.reducePow] at hn h ⊢
   omega
end Go.Proofs.YtgoapaanmcmlmaaGreatDoor.EncP
namespace Go.Proofs.YtgoapaanmcmlmaaGreatDoor.EncD
set_option maxRecDepth 100000
open Go.RowKit Go.Shelf Byt EncM EncP
attribute [local go_sem] Oper.semAt_some
abbrev told (x : Dg) : Array Value := #[.int .u64 x.1.1, .bool x.1.2]
set_option maxRecDepth 100000 in
set_option maxHeartbeats 2000000 in
theorem digits1 (F : Fence) (n : Nat) (hF : F.fn 157) (hro : F.round = none) (hn : 1 ≤ n) (l Bs n0 b off len cap : Nat) (bs : List Int) (hlen : bs.length = len) (hcap : len ≤ cap) (hmax : cap ≤ maxLen) (hB : ∀ x ∈ bs, B x) (hb : b < n0) (J Jx : List Dg → World → Prop)
   (hY : ∀ pre x W, J pre W → pre.length < 10 → YieldAt F (n - 1) Tryz.prog l (told x) W fun e W' =>
     (e = .returned (.bool true) ∧ J (pre ++ [x]) W' ∧ Below n0 W W') ∨ (e = .returned (.bool false) ∧ Jx (pre ++ [x]) W'))
   (W : World) (hBs : W.cell? ⟨Bs, 0, none⟩ = some (.slice (some ⟨b, off, none⟩) len cap)) (hc : ∀ j, j < len → W.cell? ⟨b, off + j, none⟩ = some (.int .u8 (bs[j]?.getD 0))) (h0 : J [] W) :
   CallsIn F n Tryz.prog 157 #[.func (.yield l) #[] #[], .pointer (some ⟨Bs, 0, none⟩)] W fun e W' => (∃ v, e = .returned v) ∧
     ((∃ ys, (ys = dgs bs 10 ∨ ∃ ini x, ys = ini ++ [x] ∧ x.1.2 = true) ∧ J ys W') ∨ (∃ pre, (∃ k, k ≤ 10 ∧ pre = dgs bs k) ∧ Jx pre W')) := by
 have HC := aside hc
 have HL := aside hlen
 unfold maxLen at hmax
 clear hc hlen
 refine callsIn_of_wp Tryz.func157 rfl hF ?_ hro
 simp only [Tryz.ntmps157, List.size_toArray, List.length_cons, List.length_nil, Nat.reduceAdd, Nat.reduceSub, Array.replicate_succ, Array.replicate_zero, List.push_toArray, List.append_toArray, List.nil_append, List.cons_append]
 gi_wp2
 all_goals
   obtain ⟨M, m1, m2, m3, m4⟩ : ∃ M : Nat, M ≤ len ∧ M ≤ 10 ∧ (10 < len → 10 ≤ M) ∧ (len ≤ 10 → len ≤ M) := ⟨min len 10, by omega, by omega, by omega, by omega⟩
   try rw [show (max 10 0 : Int) = 10 from rfl]
   gi_loopw [12] (fun i wr => ∃ k : Nat, k ≤ M ∧ i = .int .i64 k ∧ J (dgs bs k) wr ∧ Below n0 W wr) (fun i _ => M - (intOf i).toNat)
   case atStart => exact ⟨0, Nat.zero_le _, rfl, h0, Below.refl _ _⟩
   case round =>
     obtain ⟨k, hk, rfl, hJs, hnx⟩ := hrel
     have hkl : k ≤ bs.length := by have := HL.out; omega
     by_cases hlt : k < M
     · obtain ⟨y, hy0⟩ : ∃ y, bs[k]?.getD 0 = y := ⟨_, rfl⟩
       have hyB : B y := by
         rw [← hy0, List.getElem?_eq_getElem (by have := HL.out; omega)]
         exact hB _ (List.getElem_mem _)
       have hcx : wr.cell? ⟨b, off + k, none⟩ = some (.int .u8 y) := by rw [← hy0]; exact (hnx.cell (p := ⟨b, off + k, none⟩) hb).trans (HC.out k (by omega))
       have hsucc := dgs_succ (bs := bs) (k := k) (by have := HL.out; omega)
       rw [hy0] at hsucc
       have HSu := aside hsucc
       obtain ⟨fn, tmps, assign, body, hy, hR⟩ := hY _ (dg y) wr hJs (by rw [dgs_length hkl]; omega)
       dsimp only [told, dg] at hy
       clear hsucc hy0 hY
       obtain ⟨y0, y1⟩ := hyB
       gi_wp2
       refine hR.mono ?_
       clear hR
       rintro e W3 (⟨rfl, hJ3, hk3⟩ | ⟨rfl, hJx3⟩)
       · by_cases hy2 : y < 128
         · have t1 : decide (y < 128) = true := by simpa using hy2
           gi_wp2
           refine bodyPost_ret (results_none rfl _ _ _) rfl ?_
           exact ⟨⟨_, rfl⟩, .inl ⟨_, .inr ⟨_, _, rfl, t1⟩, hJ3⟩⟩
         · have t1 : decide (y < 128) = false := by simpa using hy2
           gi_wp2
           go_roundw
           case rel => exact ⟨k + 1, by omega, by simp, by rw [HSu.out]; exact hJ3, hnx.trans hk3⟩
           case measure => simp [intOf]; omega
       · gi_wp2
         refine bodyPost_ret (results_none rfl _ _ _) rfl ?_
         exact ⟨⟨_, rfl⟩, .inr ⟨_, ⟨k + 1, by omega, HSu.out.symm⟩, hJx3⟩⟩
     · gi_wp2
       go_end0
       refine ⟨⟨_, rfl⟩, .inl ⟨_, .inl ?_, hJs⟩⟩
       have hl := HL.out
       rcases Nat.lt_or_ge 10 len with h9 | h9
       · rw [show k = 10 by omega]
       · unfold dgs
         rw [List.take_of_length_le (by omega), List.take_of_length_le (by omega)]
set_option maxRecDepth 100000 in
set_option maxHeartbeats 1000000 in
theorem digits1_none (F : Fence) (n : Nat) (hF : F.fn 157) (hro : F.round = none) (l Bs cap : Nat) (A : Option Addr) (J : List Dg → World → Prop)
   (W : World) (hBs : W.cell? ⟨Bs, 0, none⟩ = some (.slice A 0 cap)) (h0 : J [] W) :
   CallsIn F n Tryz.prog 157 #[.func (.yield l) #[] #[], .pointer (some ⟨Bs, 0, none⟩)] W fun e W' => (∃ v, e = .returned v) ∧ J [] W' := by
 refine callsIn_of_wp Tryz.func157 rfl hF ?_ hro
 simp only [Tryz.ntmps157, List.size_toArray, List.length_cons, List.length_nil, Nat.reduceAdd, Nat.reduceSub, Array.replicate_succ, Array.replicate_zero, List.push_toArray, List.append_toArray, List.nil_append, List.cons_append]
 gi_wp2
 gi_loopw [12] (fun i wr => i = .int .i64 0 ∧ J [] wr) (fun _ _ => 0)
 case atStart => exact ⟨rfl, h0⟩
 case round =>
   obtain ⟨rfl, hJs⟩ := hrel
   gi_wp2
   go_end0
   exact ⟨⟨_, rfl⟩, hJs⟩
set_option maxHeartbeats 1000000 in
theorem digits (F : Fence) (n : Nat) (hF : F.fn 145) (hro : F.round = none) (A : Option Addr) (len cap : Nat) (w : World) :
   CallsIn F n Tryz.prog 145 #[.slice A len cap] w fun e w' => e = .returned (.func (.func 157) #[] #[.pointer (some ⟨w.heap.size, 0, none⟩)]) ∧ w' = w.alloc (.cells #[.slice A len cap] 22) := by
 refine callsIn_of_wp Tryz.func145 rfl hF ?_ hro
 simp only [Tryz.ntmps145, List.size_toArray, List.length_cons, List.length_nil, Nat.reduceAdd, Nat.reduceSub, Array.replicate_succ, Array.replicate_zero, List.push_toArray, List.append_toArray, List.nil_append, List.cons_append]
 gi_wp2
 go_ret
 exact ⟨rfl, rfl⟩
theorem digits_stops (F : Fence) (n : Nat) (hF : F.fn 157) (hro : F.round = none) (hn : 1 ≤ n) (Bs n0 : Nat) (A : Option Addr) (cap : Nat) (bs : List Int) (w w0 : World) (hBs : Bs < w.heap.size) (hn0 : n0 ≤ w.heap.size) (hw0 : w0.heap.size ≤ n0) (hbw : Below w0.heap.size w0 w)
   (hc : w.cell? ⟨Bs, 0, none⟩ = some (.slice A bs.length cap)) (hS : Sl w0 A cap bs) :
   SeqStopsK F n Tryz.prog 157 #[.pointer (some ⟨Bs, 0, none⟩)] told (Below n0) (fun ys => ys = dgs bs 10 ∨ ∃ ini x, ys = ini ++ [x] ∧ x.1.2 = true) (fun pre => ∃ k, k ≤ 10 ∧ pre = dgs bs k) 10 w := fun l J Jx W hW _ _ hY h0 => by
 have hc' := (hW.cell (p := ⟨Bs, 0, none⟩) hBs).trans hc
 by_cases hp : 0 < bs.length
 · obtain ⟨b, off, rfl, hb, hcs⟩ := hS.plain hp
   have hbW : Below w0.heap.size w0 W := hbw.trans (hW.mono (Nat.le_trans hw0 hn0))
   refine digits1 F n hF hro hn l Bs n0 b off bs.length cap bs rfl hS.1 hS.2.1 hS.bytes (by omega) J Jx hY W hc' (fun j hj => ?_) h0
   rw [← List.getD_eq_getElem?_getD]
   exact (hbW.cell (p := ⟨b, off + j, none⟩) hb).trans (hcs j hj)
 · have e : bs = [] := List.eq_nil_of_length_eq_zero (by omega)
   subst e
   exact (digits1_none F n hF hro l Bs cap A J W hc' h0).mono fun e W' ⟨he, hj⟩ => ⟨he, .inl ⟨_, .inl rfl, hj⟩⟩
end Go.Proofs.YtgoapaanmcmlmaaGreatDoor.EncD
