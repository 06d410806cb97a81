/- Plain facts on words of 32 bits: a Go uint32 is the number of a bit vector, and the model's bit operations are the bit vector's own. No condition. -/
import Derived.WalkKit
import Derived.ProofKit
namespace Go.Proofs.YthdpipllighegaaDoor.RotM
set_option maxRecDepth 100000
open Go.RowKit

/-- The number of a word of 32 bits. -/
def u (x : BitVec 32) : Int := (x.toNat : Int)

theorem u_range (x : BitVec 32) : 0 ≤ u x ∧ u x ≤ 4294967295 := by
  have := x.isLt
  unfold u; omega

theorem u_inj {x y : BitVec 32} (h : u x = u y) : x = y := by
  unfold u at h
  exact BitVec.eq_of_toNat_eq (by omega)

theorem u_of {a : Int} (h : (Lit.int .u32 a).wf = true) : ∃ x : BitVec 32, a = u x := by
  have hr : 0 ≤ a ∧ a ≤ 4294967295 := by simpa [Lit.wf, IntKind.min, IntKind.max, IntKind.bits, IntKind.signed] using h
  refine ⟨BitVec.ofNat 32 a.toNat, ?_⟩
  unfold u
  rw [BitVec.toNat_ofNat]
  omega

theorem wf_u (x : BitVec 32) : (Lit.int .u32 (u x)).wf = true := by
  have := u_range x
  simp [Lit.wf, IntKind.min, IntKind.max, IntKind.bits, IntKind.signed]; omega

theorem i64_range {a : Int} (h : (Lit.int .i64 a).wf = true) : -9223372036854775808 ≤ a ∧ a ≤ 9223372036854775807 := by
  simpa [Lit.wf, IntKind.min, IntKind.max, IntKind.bits, IntKind.signed] using h

theorem ofInt_u (x : BitVec 32) : BitVec.ofInt 32 (u x) = x := by
  unfold u
  rw [BitVec.ofInt_natCast]
  simp

theorem wrap_u (x : BitVec 32) : IntKind.u32.wrap (u x) = u x := by
  rw [IntKind.wrap_u32]
  have := u_range x
  omega

theorem bits_or (x y : BitVec 32) : bits .or .u32 (u x) (u y) = u (x ||| y) := by
  show IntKind.u32.wrap (u (BitVec.ofInt 32 (u x) ||| BitVec.ofInt 32 (u y))) = _
  rw [ofInt_u, ofInt_u, wrap_u]
theorem bits_and (x y : BitVec 32) : bits .and .u32 (u x) (u y) = u (x &&& y) := by
  show IntKind.u32.wrap (u (BitVec.ofInt 32 (u x) &&& BitVec.ofInt 32 (u y))) = _
  rw [ofInt_u, ofInt_u, wrap_u]
theorem bits_xor (x y : BitVec 32) : bits .xor .u32 (u x) (u y) = u (x ^^^ y) := by
  show IntKind.u32.wrap (u (BitVec.ofInt 32 (u x) ^^^ BitVec.ofInt 32 (u y))) = _
  rw [ofInt_u, ofInt_u, wrap_u]
theorem max_u : IntKind.u32.max = u (BitVec.allOnes 32) := by decide
theorem bits_not (x : BitVec 32) : bits .xor .u32 IntKind.u32.max (u x) = u (~~~x) := by
  rw [max_u, bits_xor, BitVec.allOnes_xor]

/-- Go's x>>k and x<<k of a word. -/
theorem shr_u (x : BitVec 32) (k : Nat) : u x / 2 ^ k = u (x >>> k) := by
  unfold u
  rw [BitVec.toNat_ushiftRight, Nat.shiftRight_eq_div_pow]
  simp
theorem shl_u (x : BitVec 32) (k : Nat) : u x * 2 ^ k % 4294967296 = u (x <<< k) := by
  unfold u
  rw [BitVec.toNat_shiftLeft, Nat.shiftLeft_eq, Int.natCast_emod, Int.natCast_mul, Int.natCast_pow]
  rfl

/-- A word gone round to the right by k. -/
def rotr (x : BitVec 32) (k : Nat) : BitVec 32 := x >>> k ||| x <<< (32 - k)
/-- Bits of two words, taken by a third one. -/
def pickW (p a b : BitVec 32) : BitVec 32 := p &&& a ||| ~~~p &&& b
/-- The bits that two of three have. -/
def mostW (a b c : BitVec 32) : BitVec 32 := a &&& b ||| a &&& c ||| b &&& c

theorem and31 (n : Int) : bits .and .u32 (n % 4294967296) 31 = n % 32 := by
  have h0 : 0 ≤ n % 4294967296 := Int.emod_nonneg _ (by decide)
  have h1 : n % 4294967296 < 4294967296 := Int.emod_lt_of_pos _ (by decide)
  have := bits_mask .u32 32 (by decide) (fun m a b => by rw [IntKind.wrap_u32]; omega) 5 (by decide) (n % 4294967296) h0 (by simpa using h1)
  have h31 : ((2 : Int) ^ 5 - 1) = 31 := by decide
  have h32 : ((2 : Int) ^ 5) = 32 := by decide
  rw [h31, h32] at this
  rw [this]
  omega

/-- b - (p & b) is what b has beside p. -/
theorem sub_and (p b : BitVec 32) : u b - u (p &&& b) = u (~~~p &&& b) := by
  have hx : (p &&& b) + (~~~p &&& b) = b := by
    rw [BitVec.add_eq_or_of_and_eq_zero]
    · ext i; simp only [BitVec.getElem_or, BitVec.getElem_and, BitVec.getElem_not]; cases p[i] <;> simp
    · ext i; simp only [BitVec.getElem_and, BitVec.getElem_not]; cases p[i] <;> simp
  have hn := congrArg BitVec.toNat hx
  rw [BitVec.toNat_add] at hn
  have h1 : (p &&& b).toNat ≤ b.toNat := by rw [BitVec.toNat_and]; exact Nat.and_le_right
  have h2 : (~~~p &&& b).toNat ≤ b.toNat := by rw [BitVec.toNat_and]; exact Nat.and_le_right
  have hb := b.isLt
  unfold u
  by_cases hc : (p &&& b).toNat + (~~~p &&& b).toNat < 2 ^ 32
  · rw [Nat.mod_eq_of_lt hc] at hn; omega
  · exfalso
    have : ((p &&& b).toNat + (~~~p &&& b).toNat) % 2 ^ 32 = (p &&& b).toNat + (~~~p &&& b).toNat - 2 ^ 32 := by
      rw [Nat.mod_eq_sub_mod (by omega), Nat.mod_eq_of_lt (by omega)]
    rw [this] at hn
    omega

/-- Bit k of a word, as Go finds it out: halved k times, is it odd? -/
theorem bit_u (x : BitVec 32) (k : Nat) : (u (x >>> k) % 2 == 1) = x.getLsbD k := by
  rw [BitVec.getLsbD, Nat.testBit_eq_decide_div_mod_eq]
  have h : u (x >>> k) = ((x.toNat / 2 ^ k : Nat) : Int) := by
    unfold u; rw [BitVec.toNat_ushiftRight, Nat.shiftRight_eq_div_pow]
  rw [h, Bool.eq_iff_iff]
  simp only [beq_iff_eq, decide_eq_true_eq]
  omega

theorem join_u (i : Nat) (x y : Int) (m : Int) (hm : (2 : Int) ^ i = m) (hx0 : 0 ≤ x) (hx : x % m = 0) (hx1 : x < 4294967296) (hy0 : 0 ≤ y) (hy : y < m) (hy1 : y < 4294967296) : bits .or .u32 x y = x + y :=
  bits_join .u32 32 (by decide) (fun n a b => by rw [IntKind.wrap_u32]; omega) i x y hx0 (by rw [hm]; exact hx) (by simpa using hx1) hy0 (by rw [hm]; exact hy) (by simpa using hy1)

/-- Four bytes, each in its place, are one number. -/
theorem or_four (b0 b1 b2 b3 : Int) (r0 : 0 ≤ b0 ∧ b0 ≤ 255) (r1 : 0 ≤ b1 ∧ b1 ≤ 255) (r2 : 0 ≤ b2 ∧ b2 ≤ 255) (r3 : 0 ≤ b3 ∧ b3 ≤ 255) :
    bits .or .u32 (bits .or .u32 (bits .or .u32 (b0 * 16777216) (b1 * 65536)) (b2 * 256)) b3 = 16777216 * b0 + 65536 * b1 + 256 * b2 + b3 := by
  rw [join_u 24 (b0 * 16777216) (b1 * 65536) 16777216 (by decide) (by omega) (by omega) (by omega) (by omega) (by omega) (by omega)]
  rw [join_u 16 _ (b2 * 256) 65536 (by decide) (by omega) (by omega) (by omega) (by omega) (by omega) (by omega)]
  rw [join_u 8 _ b3 256 (by decide) (by omega) (by omega) (by omega) (by omega) (by omega) (by omega)]
  omega
end Go.Proofs.YthdpipllighegaaDoor.RotM
