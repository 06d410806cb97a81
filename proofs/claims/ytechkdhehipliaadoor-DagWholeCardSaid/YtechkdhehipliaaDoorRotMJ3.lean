/- Plain facts on words of 32 bits: a Go uint32 is the number of a bit vector, and the model's bit operations are the bit vector's own. No condition. | Plain facts on words of 32 bits gone round, picked, and put together by most. No condition. | Plain facts on SHA-256's words, rnds and blocks: what a block of sixteen words makes of eight words. No condition. -/
import Derived.WalkKit
import Derived.ProofKit
namespace Go.Proofs.YtechkdhehipliaaDoor.RotM
set_option maxRecDepth 100000
open Go.RowKit

/-- The number of a word of 32 bits. -/
def u (x : BitVec 32) : Int := (x.toNat : Int)

theorem u_range (x : BitVec 32) : 0 ≤ u x ∧ u x ≤ 4294967295 := by
  have := x.isLt
  unfold u; omega

theorem u_inj {x y : BitVec 32} (h : u x = u y) : x = y := by
  unfold u at h
  exact BitVec.eq_of_toNat_eq (by omega)

theorem u_of {a : Int} (h : (Lit.int .u32 a).wf = true) : ∃ x : BitVec 32, a = u x := by
  have hr : 0 ≤ a ∧ a ≤ 4294967295 := by simpa [Lit.wf, IntKind.min, IntKind.max, IntKind.bits, IntKind.signed] using h
  refine ⟨BitVec.ofNat 32 a.toNat, ?_⟩
  unfold u
  rw [BitVec.toNat_ofNat]
  omega

theorem wf_u (x : BitVec 32) : (Lit.int .u32 (u x)).wf = true := by
  have := u_range x
  simp [Lit.wf, IntKind.min, IntKind.max, IntKind.bits, IntKind.signed]; omega

theorem i64_range {a : Int} (h : (Lit.int .i64 a).wf = true) : -9223372036854775808 ≤ a ∧ a ≤ 9223372036854775807 := by
  simpa [Lit.wf, IntKind.min, IntKind.max, IntKind.bits, IntKind.signed] using h

theorem ofInt_u (x : BitVec 32) : BitVec.ofInt 32 (u x) = x := by
  unfold u
  rw [BitVec.ofInt_natCast]
  simp

theorem wrap_u (x : BitVec 32) : IntKind.u32.wrap (u x) = u x := by
  rw [IntKind.wrap_u32]
  have := u_range x
  omega

theorem bits_or (x y : BitVec 32) : bits .or .u32 (u x) (u y) = u (x ||| y) := by
  show IntKind.u32.wrap (u (BitVec.ofInt 32 (u x) ||| BitVec.ofInt 32 (u y))) = _
  rw [ofInt_u, ofInt_u, wrap_u]
theorem bits_and (x y : BitVec 32) : bits .and .u32 (u x) (u y) = u (x &&& y) := by
  show IntKind.u32.wrap (u (BitVec.ofInt 32 (u x) &&& BitVec.ofInt 32 (u y))) = _
  rw [ofInt_u, ofInt_u, wrap_u]
theorem bits_xor (x y : BitVec 32) : bits .xor .u32 (u x) (u y) = u (x ^^^ y) := by
  show IntKind.u32.wrap (u (BitVec.ofInt 32 (u x) ^^^ BitVec.ofInt 32 (u y))) = _
  rw [ofInt_u, ofInt_u, wrap_u]
theorem max_u : IntKind.u32.max = u (BitVec.allOnes 32) := by decide
theorem bits_not (x : BitVec 32) : bits .xor .u32 IntKind.u32.max (u x) = u (~~~x) := by
  rw [max_u, bits_xor, BitVec.allOnes_xor]

/-- Go's x>>k and x<<k of a word. -/
theorem shr_u (x : BitVec 32) (k : Nat) : u x / 2 ^ k = u (x >>> k) := by
  unfold u
  rw [BitVec.toNat_ushiftRight, Nat.shiftRight_eq_div_pow]
  simp
theorem shl_u (x : BitVec 32) (k : Nat) : u x * 2 ^ k % 4294967296 = u (x <<< k) := by
  unfold u
  rw [BitVec.toNat_shiftLeft, Nat.shiftLeft_eq, Int.natCast_emod, Int.natCast_mul, Int.natCast_pow]
  rfl

/-- A word gone round to the right by k. -/
def rotr (x : BitVec 32) (k : Nat) : BitVec 32 := x >>> k ||| x <<< (32 - k)
/-- Bits of two words, taken by a third one. -/
def pickW (p a b : BitVec 32) : BitVec 32 := p &&& a ||| ~~~p &&& b
/-- The bits that two of three have. -/
def mostW (a b c : BitVec 32) : BitVec 32 := a &&& b ||| a &&& c ||| b &&& c

theorem and31 (n : Int) : bits .and .u32 (n % 4294967296) 31 = n % 32 := by
  have h0 : 0 ≤ n % 4294967296 := Int.emod_nonneg _ (by decide)
  have h1 : n % 4294967296 < 4294967296 := Int.emod_lt_of_pos _ (by decide)
  have := bits_mask .u32 32 (by decide) (fun m a b => by rw [IntKind.wrap_u32]; omega) 5 (by decide) (n % 4294967296) h0 (by simpa using h1)
  have h31 : ((2 : Int) ^ 5 - 1) = 31 := by decide
  have h32 : ((2 : Int) ^ 5) = 32 := by decide
  rw [h31, h32] at this
  rw [this]
  omega

/-- b - (p & b) is what b has beside p. -/
theorem sub_and (p b : BitVec 32) : u b - u (p &&& b) = u (~~~p &&& b) := by
  have hx : (p &&& b) + (~~~p &&& b) = b := by
    rw [BitVec.add_eq_or_of_and_eq_zero]
    · ext i; simp only [BitVec.getElem_or, BitVec.getElem_and, BitVec.getElem_not]; cases p[i] <;> simp
    · ext i; simp only [BitVec.getElem_and, BitVec.getElem_not]; cases p[i] <;> simp
  have hn := congrArg BitVec.toNat hx
  rw [BitVec.toNat_add] at hn
  have h1 : (p &&& b).toNat ≤ b.toNat := by rw [BitVec.toNat_and]; exact Nat.and_le_right
  have h2 : (~~~p &&& b).toNat ≤ b.toNat := by rw [BitVec.toNat_and]; exact Nat.and_le_right
  have hb := b.isLt
  unfold u
  by_cases hc : (p &&& b).toNat + (~~~p &&& b).toNat < 2 ^ 32
  · rw [Nat.mod_eq_of_lt hc] at hn; omega
  · exfalso
    have : ((p &&& b).toNat + (~~~p &&& b).toNat) % 2 ^ 32 = (p &&& b).toNat + (~~~p &&& b).toNat - 2 ^ 32 := by
      rw [Nat.mod_eq_sub_mod (by omega), Nat.mod_eq_of_lt (by omega)]
    rw [this] at hn
    omega

/-- Bit k of a word, as Go finds it out: halved k times, is it odd? -/
theorem bit_u (x : BitVec 32) (k : Nat) : (u (x >>> k) % 2 == 1) = x.getLsbD k := by
  rw [BitVec.getLsbD, Nat.testBit_eq_decide_div_mod_eq]
  have h : u (x >>> k) = ((x.toNat / 2 ^ k : Nat) : Int) := by
    unfold u; rw [BitVec.toNat_ushiftRight, Nat.shiftRight_eq_div_pow]
  rw [h, Bool.eq_iff_iff]
  simp only [beq_iff_eq, decide_eq_true_eq]
  omega

theorem join_u (i : Nat) (x y : Int) (m : Int) (hm : (2 : Int) ^ i = m) (hx0 : 0 ≤ x) (hx : x % m = 0) (hx1 : x < 4294967296) (hy0 : 0 ≤ y) (hy : y < m) (hy1 : y < 4294967296) : bits .or .u32 x y = x + y :=
  bits_join .u32 32 (by decide) (fun n a b => by rw [IntKind.wrap_u32]; omega) i x y hx0 (by rw [hm]; exact hx) (by simpa using hx1) hy0 (by rw [hm]; exact hy) (by simpa using hy1)

/-- Four bytes, each in its place, are one number. -/
theorem or_four (b0 b1 b2 b3 : Int) (r0 : 0 ≤ b0 ∧ b0 ≤ 255) (r1 : 0 ≤ b1 ∧ b1 ≤ 255) (r2 : 0 ≤ b2 ∧ b2 ≤ 255) (r3 : 0 ≤ b3 ∧ b3 ≤ 255) :
    bits .or .u32 (bits .or .u32 (bits .or .u32 (b0 * 16777216) (b1 * 65536)) (b2 * 256)) b3 = 16777216 * b0 + 65536 * b1 + 256 * b2 + b3 := by
  rw [join_u 24 (b0 * 16777216) (b1 * 65536) 16777216 (by decide) (by omega) (by omega) (by omega) (by omega) (by omega) (by omega)]
  rw [join_u 16 _ (b2 * 256) 65536 (by decide) (by omega) (by omega) (by omega) (by omega) (by omega) (by omega)]
  rw [join_u 8 _ b3 256 (by decide) (by omega) (by omega) (by omega) (by omega) (by omega) (by omega)]
  omega
end Go.Proofs.YtechkdhehipliaaDoor.RotM
namespace Go.Proofs.YtechkdhehipliaaDoor.RotN
set_option maxRecDepth 100000
open RotM

theorem bit_rotr (x : BitVec 32) (k i : Nat) (hk : k < 32) (hi : i < 32) : (rotr x k).getLsbD i = x.getLsbD ((i + k) % 32) := by
  unfold rotr
  rw [BitVec.getLsbD_or, BitVec.getLsbD_ushiftRight, BitVec.getLsbD_shiftLeft]
  by_cases h : i + k < 32
  · have h1 : i < 32 - k := by omega
    rw [Nat.mod_eq_of_lt h]
    simp [h1, Nat.add_comm]
  · have h1 : ¬ i < 32 - k := by omega
    have h2 : (i + k) % 32 = i - (32 - k) := by omega
    rw [h2, BitVec.getLsbD_of_ge x (k + i) (by omega)]
    simp [h1, hi]

theorem rotr_rotr (x : BitVec 32) (j k m : Nat) (hj : j < 32) (hk : k < 32) (hm : m < 32) (h : (j + k) % 32 = m) : rotr (rotr x j) k = rotr x m := by
  apply BitVec.eq_of_getLsbD_eq
  intro i hi
  rw [bit_rotr _ k i hk hi, bit_rotr x j _ hj (by omega), bit_rotr x m i hm hi]
  congr 1
  omega
theorem rotr_zero (x : BitVec 32) : rotr x 0 = x := by
  apply BitVec.eq_of_getLsbD_eq
  intro i hi
  rw [bit_rotr x 0 i (by omega) hi]
  congr 1
  omega
theorem rotr_none (k : Nat) (hk : k < 32) : rotr 0#32 k = 0#32 := by
  apply BitVec.eq_of_getLsbD_eq
  intro i hi
  rw [bit_rotr _ k i hk hi]
  simp
theorem rotr_all (k : Nat) (hk : k < 32) : rotr (BitVec.allOnes 32) k = BitVec.allOnes 32 := by
  apply BitVec.eq_of_getLsbD_eq
  intro i hi
  rw [bit_rotr _ k i hk hi, BitVec.getLsbD_allOnes, BitVec.getLsbD_allOnes]
  simp [hi, Nat.mod_lt]

theorem bit_pick (p a b : BitVec 32) (i : Nat) (hi : i < 32) : (pickW p a b).getLsbD i = (p.getLsbD i && a.getLsbD i || !p.getLsbD i && b.getLsbD i) := by
  unfold pickW
  simp [hi]
theorem bit_most (a b c : BitVec 32) (i : Nat) : (mostW a b c).getLsbD i = (a.getLsbD i && b.getLsbD i || a.getLsbD i && c.getLsbD i || b.getLsbD i && c.getLsbD i) := by
  unfold mostW
  simp

theorem pick_same (p b : BitVec 32) : pickW p b b = b := by
  apply BitVec.eq_of_getLsbD_eq
  intro i hi
  rw [bit_pick p b b i hi]
  cases p.getLsbD i <;> simp
theorem pick_all (a b : BitVec 32) : pickW (BitVec.allOnes 32) a b = a := by
  apply BitVec.eq_of_getLsbD_eq
  intro i hi
  rw [bit_pick _ a b i hi, BitVec.getLsbD_allOnes]
  simp [hi]
theorem pick_none (a b : BitVec 32) : pickW 0#32 a b = b := by
  apply BitVec.eq_of_getLsbD_eq
  intro i hi
  rw [bit_pick _ a b i hi]
  simp
theorem pick_self (x y : BitVec 32) : pickW x x y = x ||| y := by
  apply BitVec.eq_of_getLsbD_eq
  intro i hi
  rw [bit_pick _ _ _ i hi, BitVec.getLsbD_or]
  cases x.getLsbD i <;> simp
theorem pick_and (x y : BitVec 32) : pickW x y 0#32 = x &&& y := by
  apply BitVec.eq_of_getLsbD_eq
  intro i hi
  rw [bit_pick _ _ _ i hi, BitVec.getLsbD_and]
  simp
theorem most_same (a b : BitVec 32) : mostW a a b = a := by
  apply BitVec.eq_of_getLsbD_eq
  intro i hi
  rw [bit_most]
  cases a.getLsbD i <;> simp
theorem most_and (x y : BitVec 32) : mostW x y 0#32 = x &&& y := by
  apply BitVec.eq_of_getLsbD_eq
  intro i hi
  rw [bit_most, BitVec.getLsbD_and]
  simp
theorem most_or (x y : BitVec 32) : mostW x y (BitVec.allOnes 32) = x ||| y := by
  apply BitVec.eq_of_getLsbD_eq
  intro i hi
  rw [bit_most, BitVec.getLsbD_or, BitVec.getLsbD_allOnes]
  cases x.getLsbD i <;> simp [hi]
theorem most_swap (a b c : BitVec 32) : mostW b a c = mostW a b c := by
  apply BitVec.eq_of_getLsbD_eq
  intro i hi
  rw [bit_most, bit_most]
  cases a.getLsbD i <;> cases b.getLsbD i <;> simp
theorem most_turn (a b c : BitVec 32) : mostW c b a = mostW a b c := by
  apply BitVec.eq_of_getLsbD_eq
  intro i hi
  rw [bit_most, bit_most]
  cases a.getLsbD i <;> cases b.getLsbD i <;> cases c.getLsbD i <;> simp

theorem u_none : u 0#32 = 0 := by decide
theorem u_all : u (BitVec.allOnes 32) = 4294967295 := by decide
theorem u_zero_iff (x : BitVec 32) : u x = 0 ↔ x = 0#32 := ⟨fun h => u_inj (h.trans u_none.symm), fun h => by rw [h]; exact u_none⟩
theorem rotr_zero_iff (x : BitVec 32) (k : Nat) (hk : k < 32) : rotr x k = 0#32 ↔ x = 0#32 := by
  constructor
  · intro h
    have := congrArg (fun y => rotr y ((32 - k) % 32)) h
    simp only [rotr_none _ (Nat.mod_lt _ (by decide))] at this
    rw [rotr_rotr x k _ 0 hk (Nat.mod_lt _ (by decide)) (by omega) (by omega), rotr_zero] at this
    exact this
  · intro h
    rw [h]
    exact rotr_none k hk
end Go.Proofs.YtechkdhehipliaaDoor.RotN
namespace Go.Proofs.YtechkdhehipliaaDoor.ShaM
set_option maxRecDepth 100000
open RotM RotN Go.RowKit

theorem add_u (x y : BitVec 32) : (u x + u y) % 4294967296 = u (x + y) := by
  unfold u
  rw [BitVec.toNat_add]
  omega

theorem sum6 (z t p x s m : BitVec 32) : (u z + u t + u p + u x + (u s + u m)) % 4294967296 = u (z + t + p + x + (s + m)) := by
  unfold u
  simp only [BitVec.toNat_add]
  omega
theorem sum5 (d z t p x : BitVec 32) : (u d + (u z + u t + u p + u x)) % 4294967296 = u (d + (z + t + p + x)) := by
  unfold u
  simp only [BitVec.toNat_add]
  omega
theorem sum4 (z t p x : BitVec 32) : (u z + u t + u p + u x) % 4294967296 = u (z + t + p + x) := by
  unfold u
  simp only [BitVec.toNat_add]
  omega

/-- What a schedule's word takes of an earlier one. -/
def s0 (x : BitVec 32) : BitVec 32 := rotr x 7 ^^^ rotr x 18 ^^^ x >>> 3
def s1 (x : BitVec 32) : BitVec 32 := rotr x 17 ^^^ rotr x 19 ^^^ x >>> 10
/-- The twist of a word gone round by three numbers. -/
def tw (x : BitVec 32) (i j k : Nat) : BitVec 32 := rotr x i ^^^ rotr x j ^^^ rotr x k

theorem shr3 (x : BitVec 32) : u x / (8 : Int) = u (x >>> 3) := shr_u x 3
theorem shr10 (x : BitVec 32) : u x / (1024 : Int) = u (x >>> 10) := shr_u x 10
theorem wd_sum (a b x y : BitVec 32) : (u a + u b + Go.bits .xor .u32 (Go.bits .xor .u32 (u (rotr x 7)) (u (rotr x 18))) (u x / 8) + Go.bits .xor .u32 (Go.bits .xor .u32 (u (rotr y 17)) (u (rotr y 19))) (u y / 1024)) % 4294967296 = u (a + b + s0 x + s1 y) := by
  rw [shr3, shr10, bits_xor, bits_xor, bits_xor, bits_xor, sum4]
  rfl

/-- Word n of the schedule of the sixteen words m. -/
def wd (m : Nat → BitVec 32) (n : Nat) : BitVec 32 :=
  if n < 16 then m n else wd m (n - 16) + wd m (n - 7) + s0 (wd m (n - 15)) + s1 (wd m (n - 2))
termination_by n
theorem wd_low (m : Nat → BitVec 32) {n : Nat} (h : n < 16) : wd m n = m n := by
  rw [wd, if_pos h]
theorem wd_high (m : Nat → BitVec 32) {n : Nat} (h : 16 ≤ n) : wd m n = wd m (n - 16) + wd m (n - 7) + s0 (wd m (n - 15)) + s1 (wd m (n - 2)) := by
  rw [wd, if_neg (by omega)]

/-- Eight words. -/
structure H8 where
  (a b c d e f g z : BitVec 32)
def H8.w (h : H8) (i : Nat) : BitVec 32 := [h.a, h.b, h.c, h.d, h.e, h.f, h.g, h.z].getD i 0
/-- The eight words as Go's array of them. -/
def H8.vals (h : H8) : Array Value := #[.int .u32 (u h.a), .int .u32 (u h.b), .int .u32 (u h.c), .int .u32 (u h.d), .int .u32 (u h.e), .int .u32 (u h.f), .int .u32 (u h.g), .int .u32 (u h.z)]
theorem H8.vals_at (h : H8) {i : Nat} (hi : i < 8) : h.vals[i]? = some (.int .u32 (u (h.w i))) := by
  match i, hi with
  | 0, _ | 1, _ | 2, _ | 3, _ | 4, _ | 5, _ | 6, _ | 7, _ => rfl
theorem H8.size_vals (h : H8) : h.vals.size = 8 := rfl

/-- One step: x is a word and its constant together. -/
def rnd (h : H8) (x : BitVec 32) : H8 :=
  ⟨h.z + tw h.e 6 11 25 + pickW h.e h.f h.g + x + (tw h.a 2 13 22 + mostW h.a h.b h.c), h.a, h.b, h.c, h.d + (h.z + tw h.e 6 11 25 + pickW h.e h.f h.g + x), h.e, h.f, h.g⟩

/-- n rnds. -/
def rnds (h : H8) (x : Nat → BitVec 32) : Nat → H8
  | 0 => h
  | n + 1 => rnd (rnds h x n) (x n)

def H8.add (h k : H8) : H8 := ⟨h.a + k.a, h.b + k.b, h.c + k.c, h.d + k.d, h.e + k.e, h.f + k.f, h.g + k.g, h.z + k.z⟩
theorem H8.add_w (h k : H8) {i : Nat} (hi : i < 8) : (h.add k).w i = h.w i + k.w i := by
  match i, hi with
  | 0, _ | 1, _ | 2, _ | 3, _ | 4, _ | 5, _ | 6, _ | 7, _ => rfl
/-- The first i words of h.add k, the others of h. -/
def H8.part (h k : H8) (i : Nat) : H8 :=
  ⟨if 0 < i then h.a + k.a else h.a, if 1 < i then h.b + k.b else h.b, if 2 < i then h.c + k.c else h.c, if 3 < i then h.d + k.d else h.d,
   if 4 < i then h.e + k.e else h.e, if 5 < i then h.f + k.f else h.f, if 6 < i then h.g + k.g else h.g, if 7 < i then h.z + k.z else h.z⟩
theorem H8.part_none (h k : H8) : h.part k 0 = h := by simp [H8.part]
theorem H8.part_all (h k : H8) : h.part k 8 = h.add k := by simp [H8.part, H8.add]
theorem H8.part_w (h k : H8) {i : Nat} (hi : i < 8) : (h.part k i).w i = h.w i := by
  match i, hi with
  | 0, _ | 1, _ | 2, _ | 3, _ | 4, _ | 5, _ | 6, _ | 7, _ => simp [H8.part, H8.w]
theorem H8.part_set (h k : H8) {i : Nat} (hi : i < 8) : (h.part k i).vals.setIfInBounds i (.int .u32 (u (h.w i + k.w i))) = (h.part k (i + 1)).vals := by
  match i, hi with
  | 0, _ | 1, _ | 2, _ | 3, _ | 4, _ | 5, _ | 6, _ | 7, _ => simp [H8.part, H8.w, H8.vals]

/-- The table of constants. -/
def ks : List (BitVec 32) := [
  0x428a2f98, 0x71374491, 0xb5c0fbcf, 0xe9b5dba5, 0x3956c25b, 0x59f111f1, 0x923f82a4, 0xab1c5ed5,
  0xd807aa98, 0x12835b01, 0x243185be, 0x550c7dc3, 0x72be5d74, 0x80deb1fe, 0x9bdc06a7, 0xc19bf174,
  0xe49b69c1, 0xefbe4786, 0x0fc19dc6, 0x240ca1cc, 0x2de92c6f, 0x4a7484aa, 0x5cb0a9dc, 0x76f988da,
  0x983e5152, 0xa831c66d, 0xb00327c8, 0xbf597fc7, 0xc6e00bf3, 0xd5a79147, 0x06ca6351, 0x14292967,
  0x27b70a85, 0x2e1b2138, 0x4d2c6dfc, 0x53380d13, 0x650a7354, 0x766a0abb, 0x81c2c92e, 0x92722c85,
  0xa2bfe8a1, 0xa81a664b, 0xc24b8b70, 0xc76c51a3, 0xd192e819, 0xd6990624, 0xf40e3585, 0x106aa070,
  0x19a4c116, 0x1e376c08, 0x2748774c, 0x34b0bcb5, 0x391c0cb3, 0x4ed8aa4a, 0x5b9cca4f, 0x682e6ff3,
  0x748f82ee, 0x78a5636f, 0x84c87814, 0x8cc70208, 0x90befffa, 0xa4506ceb, 0xbef9a3f7, 0xc67178f2]
def kc (i : Nat) : BitVec 32 := ks.getD i 0

/-- What a block of the words m makes of h. -/
def blockS (h : H8) (m : Nat → BitVec 32) : H8 := h.add (rnds h (fun i => kc i + wd m i) 64)
def startS : H8 := ⟨0x6a09e667, 0xbb67ae85, 0x3c6ef372, 0xa54ff53a, 0x510e527f, 0x9b05688c, 0x1f83d9ab, 0x5be0cd19⟩
end Go.Proofs.YtechkdhehipliaaDoor.ShaM
