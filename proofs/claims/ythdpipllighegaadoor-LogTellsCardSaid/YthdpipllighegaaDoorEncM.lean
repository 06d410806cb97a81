/- Plain facts on numbers in bytes: the digits of a number to the base 128, and the number that bytes begin with. No condition. -/
import Derived.WalkKit
namespace Go.Proofs.YthdpipllighegaaDoor.EncM
set_option maxRecDepth 100000

/-- A number of 64 bits. -/
def Fits (n : Nat) : Prop := n < 18446744073709551616
theorem Fits.lt {n : Nat} (h : Fits n) : n < 18446744073709551616 := h
theorem Fits.le {n m : Nat} (h : Fits n) (hm : m ≤ n) : Fits m := Nat.lt_of_le_of_lt hm h

/-- A number in bytes: its digits to the base 128, the lowest one first, each but the last one with 128 more. -/
def numL (n : Nat) : List Int := if h : n < 128 then [(n : Int)] else ((n % 128 + 128 : Nat) : Int) :: numL (n / 128)
termination_by n
decreasing_by omega
theorem numL_one {n : Nat} (h : n < 128) : numL n = [(n : Int)] := by rw [numL, dif_pos h]
theorem numL_more {n : Nat} (h : 128 ≤ n) : numL n = ((n % 128 + 128 : Nat) : Int) :: numL (n / 128) := by rw [numL, dif_neg (by omega)]
theorem numL_pos (n : Nat) : 0 < (numL n).length := by
  by_cases h : n < 128
  · rw [numL_one h]; simp
  · rw [numL_more (by omega)]; simp
theorem numL_len (k n : Nat) (h : n < 2 ^ (7 * (k + 1))) : (numL n).length ≤ k + 1 := by
  induction k generalizing n with
  | zero => rw [numL_one (by simpa using h)]; simp
  | succ k ih =>
    by_cases h1 : n < 128
    · rw [numL_one h1]; simp
    · rw [numL_more (by omega), List.length_cons]
      have := ih (n / 128) (by
        rw [show 7 * (k + 1 + 1) = 7 * (k + 1) + 7 by omega, Nat.pow_add] at h
        omega)
      omega
theorem numL_ten {n : Nat} (h : n < 18446744073709551616) : (numL n).length ≤ 10 := numL_len 9 n (by omega)
theorem numL_range (n : Nat) : ∀ x ∈ numL n, 0 ≤ x ∧ x ≤ 255 := by
  induction n using Nat.strongRecOn with
  | _ n ih =>
    by_cases h : n < 128
    · rw [numL_one h]; simp; omega
    · rw [numL_more (by omega)]
      intro x hx
      rcases List.mem_cons.1 hx with rfl | hx
      · omega
      · exact ih (n / 128) (by omega) x hx
/-- A greater number has no fewer bytes. -/
theorem numL_mono (n m : Nat) (h : m ≤ n) : (numL m).length ≤ (numL n).length := by
  induction n using Nat.strongRecOn generalizing m with
  | _ n ih =>
    by_cases hm : m < 128
    · rw [numL_one hm]
      have := numL_pos n
      simp; omega
    · rw [numL_more (by omega : 128 ≤ m), numL_more (by omega : 128 ≤ n), List.length_cons, List.length_cons]
      have := ih (n / 128) (by omega) (m / 128) (by omega)
      omega
theorem numL_len1 (n : Nat) : (numL n).length = 1 ↔ n < 128 := by
  by_cases h : n < 128
  · rw [numL_one h]; simp [h]
  · rw [numL_more (by omega), List.length_cons]
    have := numL_pos (n / 128)
    omega
theorem numL_len2 (n : Nat) : 2 < (numL n).length ↔ 16384 ≤ n := by
  by_cases h : n < 128
  · rw [numL_one h]; simp; omega
  · rw [numL_more (by omega), List.length_cons]
    have h1 := numL_len1 (n / 128)
    have := numL_pos (n / 128)
    omega
/-- Only the last byte is below 128. -/
theorem numL_last (n i : Nat) (h : i < (numL n).length) : (numL n).getD i 0 < 128 ↔ i = (numL n).length - 1 := by
  induction n using Nat.strongRecOn generalizing i with
  | _ n ih =>
    by_cases hn : n < 128
    · rw [numL_one hn] at h ⊢
      simp at h
      subst h
      simp; omega
    · rw [numL_more (by omega)] at h ⊢
      have hp := numL_pos (n / 128)
      cases i with
      | zero =>
        rw [List.getD_cons_zero, List.length_cons]
        omega
      | succ i =>
        rw [List.length_cons] at h
        rw [List.getD_cons_succ, List.length_cons]
        have := ih (n / 128) (by omega) i (by omega)
        omega

/-- The number that bytes begin with, and how many bytes that has: by bytes, from place i on, n being what the bytes ahead are. -/
def getG (i n : Nat) : List Int → Nat × Nat
  | [] => (0, 0)
  | b :: r =>
    if 10 ≤ i then (0, 0)
    else if 18446744073709551616 ≤ n + (b % 128).toNat * 2 ^ (7 * i) then (0, 0)
    else if b < 128 then (if (b % 128).toNat = 0 ∧ 0 < i then (0, 0) else (n + (b % 128).toNat * 2 ^ (7 * i), i + 1))
    else getG (i + 1) (n + (b % 128).toNat * 2 ^ (7 * i)) r
def getL (bs : List Int) : Nat × Nat := getG 0 0 bs

theorem pw_succ (i : Nat) : 2 ^ (7 * (i + 1)) = 128 * 2 ^ (7 * i) := by
  rw [show 7 * (i + 1) = 7 * i + 7 by omega, Nat.pow_add]
  omega

/-- What is put is got, whatever stands behind. -/
theorem getG_num (m i n : Nat) (r : List Int) (hn : n < 2 ^ (7 * i)) (hm : n + m * 2 ^ (7 * i) < 18446744073709551616) (h0 : m ≠ 0 ∨ i = 0) :
    getG i n (numL m ++ r) = (n + m * 2 ^ (7 * i), i + (numL m).length) := by
  have hi : ∀ m i : Nat, m * 2 ^ (7 * i) < 18446744073709551616 → (m ≠ 0 ∨ i = 0) → i < 10 := by
    intro m i h h0
    rcases h0 with h0 | h0
    · by_cases hi : i < 10
      · exact hi
      · have h1 : 2 ^ 70 ≤ 2 ^ (7 * i) := Nat.pow_le_pow_right (by omega) (by omega)
        have h2 : 1 * 2 ^ (7 * i) ≤ m * 2 ^ (7 * i) := Nat.mul_le_mul_right _ (by omega)
        omega
    · omega
  induction m using Nat.strongRecOn generalizing i n with
  | _ m ih =>
    have hi10 := hi m i (by omega) h0
    by_cases hs : m < 128
    · rw [numL_one hs]
      simp only [List.cons_append, List.nil_append, getG]
      have e : ((m : Int) % 128).toNat = m := by omega
      rw [e, if_neg (by omega), if_neg (by omega), if_pos (by omega), if_neg (by omega)]
      simp
    · rw [numL_more (by omega)]
      simp only [List.cons_append, getG]
      have e : (((m % 128 + 128 : Nat) : Int) % 128).toNat = m % 128 := by omega
      have hd : m % 128 * 2 ^ (7 * i) + m / 128 * 2 ^ (7 * (i + 1)) = m * 2 ^ (7 * i) := by
        rw [pw_succ, ← Nat.mul_assoc, ← Nat.add_mul]
        congr 1
        omega
      have hle : m % 128 * 2 ^ (7 * i) ≤ 127 * 2 ^ (7 * i) := Nat.mul_le_mul_right _ (by omega)
      have hp := pw_succ i
      rw [e, if_neg (by omega), if_neg (by omega), if_neg (by omega), ih (m / 128) (by omega) (i + 1) _ (by omega) (by omega) (by omega)]
      refine Prod.ext ?_ ?_
      · show n + m % 128 * 2 ^ (7 * i) + m / 128 * 2 ^ (7 * (i + 1)) = n + m * 2 ^ (7 * i)
        omega
      · simp only [List.length_cons]
        omega
theorem getL_num (m : Nat) (r : List Int) (hm : m < 18446744073709551616) : getL (numL m ++ r) = (m, (numL m).length) := by
  have := getG_num m 0 0 r (by simp) (by simpa using hm) (.inr rfl)
  simpa [getL] using this

/-- What is got is put as the same bytes. -/
theorem getG_back (bs : List Int) (hb : ∀ x ∈ bs, 0 ≤ x ∧ x ≤ 255) (i n N k : Nat) (h : getG i n bs = (N, k)) (hk : k ≠ 0) (hn : n < 2 ^ (7 * i)) :
    ∃ m, N = n + m * 2 ^ (7 * i) ∧ (m ≠ 0 ∨ i = 0) ∧ N < 18446744073709551616 ∧ i < k ∧ k ≤ 10 ∧ k - i ≤ bs.length ∧ bs.take (k - i) = numL m := by
  induction bs generalizing i n with
  | nil => simp [getG] at h; omega
  | cons b r ih =>
    have hbb := hb b (by simp)
    simp only [getG] at h
    by_cases h10 : 10 ≤ i
    · rw [if_pos h10] at h; simp at h; omega
    rw [if_neg h10] at h
    by_cases hov : 18446744073709551616 ≤ n + (b % 128).toNat * 2 ^ (7 * i)
    · rw [if_pos hov] at h; simp at h; omega
    rw [if_neg hov] at h
    by_cases hlt : b < 128
    · rw [if_pos hlt] at h
      by_cases hz : (b % 128).toNat = 0 ∧ 0 < i
      · rw [if_pos hz] at h; simp at h; omega
      · rw [if_neg hz] at h
        simp only [Prod.mk.injEq] at h
        obtain ⟨rfl, rfl⟩ := h
        refine ⟨(b % 128).toNat, rfl, by omega, by omega, by omega, by omega, by simp, ?_⟩
        rw [show i + 1 - i = 1 by omega, numL_one (by omega)]
        simp
        omega
    · rw [if_neg hlt] at h
      have hle : (b % 128).toNat * 2 ^ (7 * i) ≤ 127 * 2 ^ (7 * i) := Nat.mul_le_mul_right _ (by omega)
      have hp := pw_succ i
      obtain ⟨m, h1, h2, h3, h4, h5, h6, h7⟩ := ih (fun x hx => hb x (by simp [hx])) (i + 1) _ h (by omega)
      have hm : m ≠ 0 := by omega
      refine ⟨(b % 128).toNat + 128 * m, ?_, by omega, h3, by omega, h5, by rw [List.length_cons]; omega, ?_⟩
      · rw [h1, pw_succ, Nat.add_mul, Nat.add_assoc, Nat.mul_comm 128 m, Nat.mul_assoc]
      · rw [show k - i = (k - (i + 1)) + 1 by omega, List.take_succ_cons, h7, numL_more (n := (b % 128).toNat + 128 * m) (by omega), show ((b % 128).toNat + 128 * m) / 128 = m by omega]
        congr 1
        omega
theorem getL_back {bs : List Int} (hb : ∀ x ∈ bs, 0 ≤ x ∧ x ≤ 255) {N k : Nat} (h : getL bs = (N, k)) (hk : k ≠ 0) :
    N < 18446744073709551616 ∧ 0 < k ∧ k ≤ 10 ∧ k ≤ bs.length ∧ bs.take k = numL N := by
  obtain ⟨m, h1, _, h3, h4, h5, h6, h7⟩ := getG_back bs hb 0 0 N k h hk (by simp)
  have e : m = N := by simp at h1; omega
  subst e
  exact ⟨h3, h4, h5, by omega, by simpa using h7⟩
theorem getG_zero (bs : List Int) (i n : Nat) (h : (getG i n bs).2 = 0) : getG i n bs = (0, 0) := by
  induction bs generalizing i n with
  | nil => rfl
  | cons b r ih =>
    simp only [getG] at h ⊢
    by_cases h1 : 10 ≤ i
    · rw [if_pos h1]
    rw [if_neg h1] at h ⊢
    by_cases h2 : 18446744073709551616 ≤ n + (b % 128).toNat * 2 ^ (7 * i)
    · rw [if_pos h2]
    rw [if_neg h2] at h ⊢
    by_cases h3 : b < 128
    · rw [if_pos h3] at h ⊢
      by_cases h4 : (b % 128).toNat = 0 ∧ 0 < i
      · rw [if_pos h4]
      · rw [if_neg h4] at h
        simp at h
    · rw [if_neg h3] at h ⊢
      exact ih _ _ h
theorem getL_zero {bs : List Int} (h : (getL bs).2 = 0) : getL bs = (0, 0) := getG_zero bs 0 0 h
/-- How much is got, at most. -/
theorem getL_le {bs : List Int} (hb : ∀ x ∈ bs, 0 ≤ x ∧ x ≤ 255) : (getL bs).1 < 18446744073709551616 ∧ (getL bs).2 ≤ 10 ∧ (getL bs).2 ≤ bs.length := by
  by_cases h : (getL bs).2 = 0
  · rw [getL_zero h]; simp
  · obtain ⟨h1, _, h3, h4, _⟩ := getL_back hb (N := (getL bs).1) (k := (getL bs).2) rfl h
    exact ⟨h1, h3, h4⟩
theorem numL_inj {n m : Nat} (hn : n < 18446744073709551616) (hm : m < 18446744073709551616) (h : numL n = numL m) : n = m := by
  have h1 := getL_num n [] hn
  have h2 := getL_num m [] hm
  rw [h] at h1
  rw [h1] at h2
  exact (Prod.mk.inj h2).1
/-- A beginning of a number's bytes makes none. -/
theorem getL_cut (n k : Nat) (hn : n < 18446744073709551616) (hk : k < (numL n).length) : getL ((numL n).take k) = (0, 0) := by
  by_cases h : (getL ((numL n).take k)).2 = 0
  · exact getL_zero h
  · have hb : ∀ x ∈ (numL n).take k, 0 ≤ x ∧ x ≤ 255 := fun x hx => numL_range n x (List.mem_of_mem_take hx)
    obtain ⟨h1, h2, h3, h4, h5⟩ := getL_back hb (N := (getL ((numL n).take k)).1) (k := (getL ((numL n).take k)).2) rfl h
    have e := getL_num _ ((numL n).drop (getL ((numL n).take k)).2) h1
    rw [← h5, List.take_take, Nat.min_eq_left (by simp at h4; omega), List.take_append_drop] at e
    have e2 := getL_num n [] hn
    rw [List.append_nil] at e2
    rw [e] at e2
    have := (Prod.mk.inj e2).2
    simp at this h4
    omega
end Go.Proofs.YthdpipllighegaaDoor.EncM
