/- Plain facts on the digits that bytes begin with, each with whether it is the last one. No condition. -/
import Derived.Test.YthdpipllighegaaDoorEncM
namespace Go.Proofs.YthdpipllighegaaDoor.EncP
set_option maxRecDepth 100000
open EncM

/-- A digit, and whether it is the last one. -/
abbrev Dg : Type := { p : Int × Bool // 0 ≤ p.1 ∧ p.1 < 128 }
def dg (b : Int) : Dg := ⟨(b % 128, decide (b < 128)), by constructor <;> simp <;> omega⟩
/-- The first k of them. -/
def dgs (bs : List Int) (k : Nat) : List Dg := (bs.take k).map dg
theorem dgs_length {bs : List Int} {k : Nat} (h : k ≤ bs.length) : (dgs bs k).length = k := by simp [dgs, h]
theorem dgs_succ {bs : List Int} {k : Nat} (h : k < bs.length) : dgs bs (k + 1) = dgs bs k ++ [dg (bs[k]?.getD 0)] := by
  unfold dgs
  rw [List.take_succ_eq_append_getElem h, List.map_append, List.getElem?_eq_getElem h]
  rfl

/-- As getG, by digits. -/
def getP (i n : Nat) : List Dg → Nat × Nat
  | [] => (0, 0)
  | x :: r =>
    if 18446744073709551616 ≤ n + x.1.1.toNat * 2 ^ (7 * i) then (0, 0)
    else if x.1.2 = true then (if x.1.1.toNat = 0 ∧ 0 < i then (0, 0) else (n + x.1.1.toNat * 2 ^ (7 * i), i + 1))
    else getP (i + 1) (n + x.1.1.toNat * 2 ^ (7 * i)) r
theorem getP_G (bs : List Int) (i n : Nat) (hi : i ≤ 10) : getP i n (dgs bs (10 - i)) = getG i n bs := by
  induction bs generalizing i n with
  | nil => simp [dgs, getP, getG]
  | cons b r ih =>
    by_cases h10 : 10 ≤ i
    · obtain rfl : i = 10 := by omega
      simp [dgs, getP, getG]
    · obtain ⟨k, hk⟩ : ∃ k, 10 - i = k + 1 := ⟨10 - i - 1, by omega⟩
      have hk' : 10 - (i + 1) = k := by omega
      have ih' := ih (i + 1) (n + (b % 128).toNat * 2 ^ (7 * i)) (by omega)
      rw [hk'] at ih'
      rw [hk]
      simp only [dgs, List.take_succ_cons, List.map_cons, getP, getG, if_neg h10, dg]
      simp only [dgs] at ih'
      by_cases h1 : 18446744073709551616 ≤ n + (b % 128).toNat * 2 ^ (7 * i)
      · rw [if_pos h1, if_pos h1]
      · rw [if_neg h1, if_neg h1]
        by_cases h2 : b < 128
        · rw [if_pos (by simpa using h2), if_pos h2]
        · rw [if_neg (by simpa using h2), if_neg h2]
          exact ih'
theorem getP_L (bs : List Int) : getP 0 0 (dgs bs 10) = getL bs := getP_G bs 0 0 (by omega)

/-- A digit within the number: it goes in, and comes back; one beyond it does not. -/
theorem back_in (i d n : Nat) (h : n + d * 2 ^ (7 * i) < 18446744073709551616) : d * 2 ^ (7 * i) % 18446744073709551616 / 2 ^ (7 * i) = d := by
  rw [Nat.mod_eq_of_lt (by omega)]
  exact Nat.mul_div_cancel _ (Nat.pow_pos (by omega))
theorem back_out (i d n : Nat) (hi : i < 10) (hd : d < 128) (hn : n < 2 ^ (7 * i)) (h : 18446744073709551616 ≤ n + d * 2 ^ (7 * i)) : d * 2 ^ (7 * i) % 18446744073709551616 / 2 ^ (7 * i) ≠ d := by
  have hc : i = 0 ∨ i = 1 ∨ i = 2 ∨ i = 3 ∨ i = 4 ∨ i = 5 ∨ i = 6 ∨ i = 7 ∨ i = 8 ∨ i = 9 := by omega
  rcases hc with rfl | rfl | rfl | rfl | rfl | rfl | rfl | rfl | rfl | rfl
  all_goals
    simp only [Nat.mul_zero, Nat.reduceMul, Nat.reducePow] at hn h ⊢
    omega
end Go.Proofs.YthdpipllighegaaDoor.EncP
