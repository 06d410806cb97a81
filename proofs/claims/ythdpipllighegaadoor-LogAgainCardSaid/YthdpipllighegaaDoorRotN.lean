/- Plain facts on words of 32 bits gone round, picked, and put together by most. No condition. -/
import Derived.Test.YthdpipllighegaaDoorRotM
namespace Go.Proofs.YthdpipllighegaaDoor.RotN
set_option maxRecDepth 100000
open RotM

theorem bit_rotr (x : BitVec 32) (k i : Nat) (hk : k < 32) (hi : i < 32) : (rotr x k).getLsbD i = x.getLsbD ((i + k) % 32) := by
  unfold rotr
  rw [BitVec.getLsbD_or, BitVec.getLsbD_ushiftRight, BitVec.getLsbD_shiftLeft]
  by_cases h : i + k < 32
  · have h1 : i < 32 - k := by omega
    rw [Nat.mod_eq_of_lt h]
    simp [h1, Nat.add_comm]
  · have h1 : ¬ i < 32 - k := by omega
    have h2 : (i + k) % 32 = i - (32 - k) := by omega
    rw [h2, BitVec.getLsbD_of_ge x (k + i) (by omega)]
    simp [h1, hi]

theorem rotr_rotr (x : BitVec 32) (j k m : Nat) (hj : j < 32) (hk : k < 32) (hm : m < 32) (h : (j + k) % 32 = m) : rotr (rotr x j) k = rotr x m := by
  apply BitVec.eq_of_getLsbD_eq
  intro i hi
  rw [bit_rotr _ k i hk hi, bit_rotr x j _ hj (by omega), bit_rotr x m i hm hi]
  congr 1
  omega
theorem rotr_zero (x : BitVec 32) : rotr x 0 = x := by
  apply BitVec.eq_of_getLsbD_eq
  intro i hi
  rw [bit_rotr x 0 i (by omega) hi]
  congr 1
  omega
theorem rotr_none (k : Nat) (hk : k < 32) : rotr 0#32 k = 0#32 := by
  apply BitVec.eq_of_getLsbD_eq
  intro i hi
  rw [bit_rotr _ k i hk hi]
  simp
theorem rotr_all (k : Nat) (hk : k < 32) : rotr (BitVec.allOnes 32) k = BitVec.allOnes 32 := by
  apply BitVec.eq_of_getLsbD_eq
  intro i hi
  rw [bit_rotr _ k i hk hi, BitVec.getLsbD_allOnes, BitVec.getLsbD_allOnes]
  simp [hi, Nat.mod_lt]

theorem bit_pick (p a b : BitVec 32) (i : Nat) (hi : i < 32) : (pickW p a b).getLsbD i = (p.getLsbD i && a.getLsbD i || !p.getLsbD i && b.getLsbD i) := by
  unfold pickW
  simp [hi]
theorem bit_most (a b c : BitVec 32) (i : Nat) : (mostW a b c).getLsbD i = (a.getLsbD i && b.getLsbD i || a.getLsbD i && c.getLsbD i || b.getLsbD i && c.getLsbD i) := by
  unfold mostW
  simp

theorem pick_same (p b : BitVec 32) : pickW p b b = b := by
  apply BitVec.eq_of_getLsbD_eq
  intro i hi
  rw [bit_pick p b b i hi]
  cases p.getLsbD i <;> simp
theorem pick_all (a b : BitVec 32) : pickW (BitVec.allOnes 32) a b = a := by
  apply BitVec.eq_of_getLsbD_eq
  intro i hi
  rw [bit_pick _ a b i hi, BitVec.getLsbD_allOnes]
  simp [hi]
theorem pick_none (a b : BitVec 32) : pickW 0#32 a b = b := by
  apply BitVec.eq_of_getLsbD_eq
  intro i hi
  rw [bit_pick _ a b i hi]
  simp
theorem pick_self (x y : BitVec 32) : pickW x x y = x ||| y := by
  apply BitVec.eq_of_getLsbD_eq
  intro i hi
  rw [bit_pick _ _ _ i hi, BitVec.getLsbD_or]
  cases x.getLsbD i <;> simp
theorem pick_and (x y : BitVec 32) : pickW x y 0#32 = x &&& y := by
  apply BitVec.eq_of_getLsbD_eq
  intro i hi
  rw [bit_pick _ _ _ i hi, BitVec.getLsbD_and]
  simp
theorem most_same (a b : BitVec 32) : mostW a a b = a := by
  apply BitVec.eq_of_getLsbD_eq
  intro i hi
  rw [bit_most]
  cases a.getLsbD i <;> simp
theorem most_and (x y : BitVec 32) : mostW x y 0#32 = x &&& y := by
  apply BitVec.eq_of_getLsbD_eq
  intro i hi
  rw [bit_most, BitVec.getLsbD_and]
  simp
theorem most_or (x y : BitVec 32) : mostW x y (BitVec.allOnes 32) = x ||| y := by
  apply BitVec.eq_of_getLsbD_eq
  intro i hi
  rw [bit_most, BitVec.getLsbD_or, BitVec.getLsbD_allOnes]
  cases x.getLsbD i <;> simp [hi]
theorem most_swap (a b c : BitVec 32) : mostW b a c = mostW a b c := by
  apply BitVec.eq_of_getLsbD_eq
  intro i hi
  rw [bit_most, bit_most]
  cases a.getLsbD i <;> cases b.getLsbD i <;> simp
theorem most_turn (a b c : BitVec 32) : mostW c b a = mostW a b c := by
  apply BitVec.eq_of_getLsbD_eq
  intro i hi
  rw [bit_most, bit_most]
  cases a.getLsbD i <;> cases b.getLsbD i <;> cases c.getLsbD i <;> simp

theorem u_none : u 0#32 = 0 := by decide
theorem u_all : u (BitVec.allOnes 32) = 4294967295 := by decide
theorem u_zero_iff (x : BitVec 32) : u x = 0 ↔ x = 0#32 := ⟨fun h => u_inj (h.trans u_none.symm), fun h => by rw [h]; exact u_none⟩
theorem rotr_zero_iff (x : BitVec 32) (k : Nat) (hk : k < 32) : rotr x k = 0#32 ↔ x = 0#32 := by
  constructor
  · intro h
    have := congrArg (fun y => rotr y ((32 - k) % 32)) h
    simp only [rotr_none _ (Nat.mod_lt _ (by decide))] at this
    rw [rotr_rotr x k _ 0 hk (Nat.mod_lt _ (by decide)) (by omega) (by omega), rotr_zero] at this
    exact this
  · intro h
    rw [h]
    exact rotr_none k hk
end Go.Proofs.YthdpipllighegaaDoor.RotN
