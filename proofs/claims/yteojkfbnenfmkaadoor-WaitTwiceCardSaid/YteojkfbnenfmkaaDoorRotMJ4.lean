/- Plain facts on words of 32 bits: a Go uint32 is the number of a bit vector, and the model's bit operations are the bit vector's own. No condition. | Plain facts on words of 32 bits gone round, picked, and put together by most. No condition. | Plain facts on SHA-256's words, rnds and blocks: what a block of sixteen words makes of eight words. No condition. | What each function of package rot, and of the document's answers to it, returns: contracts. -/
import Derived.WalkKit
import Derived.ProofKit
import Derived.Test.YteojkfbnenfmkaaDoorRows
import Derived.OpenShut
import Derived.Handy
namespace Go.Proofs.YteojkfbnenfmkaaDoor.RotM
set_option maxRecDepth 100000
open Go.RowKit

/-- The number of a word of 32 bits. -/
def u (x : BitVec 32) : Int := (x.toNat : Int)

theorem u_range (x : BitVec 32) : 0 ≤ u x ∧ u x ≤ 4294967295 := by
  have := x.isLt
  unfold u; omega


theorem u_of {a : Int} (h : (Lit.int .u32 a).wf = true) : ∃ x : BitVec 32, a = u x := by
  have hr : 0 ≤ a ∧ a ≤ 4294967295 := by simpa [Lit.wf, IntKind.min, IntKind.max, IntKind.bits, IntKind.signed] using h
  refine ⟨BitVec.ofNat 32 a.toNat, ?_⟩
  unfold u
  rw [BitVec.toNat_ofNat]
  omega



theorem ofInt_u (x : BitVec 32) : BitVec.ofInt 32 (u x) = x := by
  unfold u
  rw [BitVec.ofInt_natCast]
  simp

theorem wrap_u (x : BitVec 32) : IntKind.u32.wrap (u x) = u x := by
  rw [IntKind.wrap_u32]
  have := u_range x
  omega

theorem bits_or (x y : BitVec 32) : bits .or .u32 (u x) (u y) = u (x ||| y) := by
  show IntKind.u32.wrap (u (BitVec.ofInt 32 (u x) ||| BitVec.ofInt 32 (u y))) = _
  rw [ofInt_u, ofInt_u, wrap_u]
theorem bits_and (x y : BitVec 32) : bits .and .u32 (u x) (u y) = u (x &&& y) := by
  show IntKind.u32.wrap (u (BitVec.ofInt 32 (u x) &&& BitVec.ofInt 32 (u y))) = _
  rw [ofInt_u, ofInt_u, wrap_u]
theorem bits_xor (x y : BitVec 32) : bits .xor .u32 (u x) (u y) = u (x ^^^ y) := by
  show IntKind.u32.wrap (u (BitVec.ofInt 32 (u x) ^^^ BitVec.ofInt 32 (u y))) = _
  rw [ofInt_u, ofInt_u, wrap_u]
theorem max_u : IntKind.u32.max = u (BitVec.allOnes 32) := by decide
theorem bits_not (x : BitVec 32) : bits .xor .u32 IntKind.u32.max (u x) = u (~~~x) := by
  rw [max_u, bits_xor, BitVec.allOnes_xor]

/-- Go's x>>k and x<<k of a word. -/
theorem shr_u (x : BitVec 32) (k : Nat) : u x / 2 ^ k = u (x >>> k) := by
  unfold u
  rw [BitVec.toNat_ushiftRight, Nat.shiftRight_eq_div_pow]
  simp
theorem shl_u (x : BitVec 32) (k : Nat) : u x * 2 ^ k % 4294967296 = u (x <<< k) := by
  unfold u
  rw [BitVec.toNat_shiftLeft, Nat.shiftLeft_eq, Int.natCast_emod, Int.natCast_mul, Int.natCast_pow]
  rfl

/-- A word gone round to the right by k. -/
def rotr (x : BitVec 32) (k : Nat) : BitVec 32 := x >>> k ||| x <<< (32 - k)
/-- Bits of two words, taken by a third one. -/
def pickW (p a b : BitVec 32) : BitVec 32 := p &&& a ||| ~~~p &&& b
/-- The bits that two of three have. -/
def mostW (a b c : BitVec 32) : BitVec 32 := a &&& b ||| a &&& c ||| b &&& c

theorem and31 (n : Int) : bits .and .u32 (n % 4294967296) 31 = n % 32 := by
  have h0 : 0 ≤ n % 4294967296 := Int.emod_nonneg _ (by decide)
  have h1 : n % 4294967296 < 4294967296 := Int.emod_lt_of_pos _ (by decide)
  have := bits_mask .u32 32 (by decide) (fun m a b => by rw [IntKind.wrap_u32]; omega) 5 (by decide) (n % 4294967296) h0 (by simpa using h1)
  have h31 : ((2 : Int) ^ 5 - 1) = 31 := by decide
  have h32 : ((2 : Int) ^ 5) = 32 := by decide
  rw [h31, h32] at this
  rw [this]
  omega



theorem join_u (i : Nat) (x y : Int) (m : Int) (hm : (2 : Int) ^ i = m) (hx0 : 0 ≤ x) (hx : x % m = 0) (hx1 : x < 4294967296) (hy0 : 0 ≤ y) (hy : y < m) (hy1 : y < 4294967296) : bits .or .u32 x y = x + y :=
  bits_join .u32 32 (by decide) (fun n a b => by rw [IntKind.wrap_u32]; omega) i x y hx0 (by rw [hm]; exact hx) (by simpa using hx1) hy0 (by rw [hm]; exact hy) (by simpa using hy1)

/-- Four bytes, each in its place, are one number. -/
theorem or_four (b0 b1 b2 b3 : Int) (r0 : 0 ≤ b0 ∧ b0 ≤ 255) (r1 : 0 ≤ b1 ∧ b1 ≤ 255) (r2 : 0 ≤ b2 ∧ b2 ≤ 255) (r3 : 0 ≤ b3 ∧ b3 ≤ 255) :
    bits .or .u32 (bits .or .u32 (bits .or .u32 (b0 * 16777216) (b1 * 65536)) (b2 * 256)) b3 = 16777216 * b0 + 65536 * b1 + 256 * b2 + b3 := by
  rw [join_u 24 (b0 * 16777216) (b1 * 65536) 16777216 (by decide) (by omega) (by omega) (by omega) (by omega) (by omega) (by omega)]
  rw [join_u 16 _ (b2 * 256) 65536 (by decide) (by omega) (by omega) (by omega) (by omega) (by omega) (by omega)]
  rw [join_u 8 _ b3 256 (by decide) (by omega) (by omega) (by omega) (by omega) (by omega) (by omega)]
  omega
end Go.Proofs.YteojkfbnenfmkaaDoor.RotM
namespace Go.Proofs.YteojkfbnenfmkaaDoor.RotN
set_option maxRecDepth 100000
open RotM





end Go.Proofs.YteojkfbnenfmkaaDoor.RotN
namespace Go.Proofs.YteojkfbnenfmkaaDoor.ShaM
set_option maxRecDepth 100000
open RotM RotN Go.RowKit

theorem add_u (x y : BitVec 32) : (u x + u y) % 4294967296 = u (x + y) := by
  unfold u
  rw [BitVec.toNat_add]
  omega

theorem sum6 (z t p x s m : BitVec 32) : (u z + u t + u p + u x + (u s + u m)) % 4294967296 = u (z + t + p + x + (s + m)) := by
  unfold u
  simp only [BitVec.toNat_add]
  omega
theorem sum5 (d z t p x : BitVec 32) : (u d + (u z + u t + u p + u x)) % 4294967296 = u (d + (z + t + p + x)) := by
  unfold u
  simp only [BitVec.toNat_add]
  omega
theorem sum4 (z t p x : BitVec 32) : (u z + u t + u p + u x) % 4294967296 = u (z + t + p + x) := by
  unfold u
  simp only [BitVec.toNat_add]
  omega

/-- What a schedule's word takes of an earlier one. -/
def s0 (x : BitVec 32) : BitVec 32 := rotr x 7 ^^^ rotr x 18 ^^^ x >>> 3
def s1 (x : BitVec 32) : BitVec 32 := rotr x 17 ^^^ rotr x 19 ^^^ x >>> 10
/-- The twist of a word gone round by three numbers. -/
def tw (x : BitVec 32) (i j k : Nat) : BitVec 32 := rotr x i ^^^ rotr x j ^^^ rotr x k

theorem shr3 (x : BitVec 32) : u x / (8 : Int) = u (x >>> 3) := shr_u x 3
theorem shr10 (x : BitVec 32) : u x / (1024 : Int) = u (x >>> 10) := shr_u x 10
theorem wd_sum (a b x y : BitVec 32) : (u a + u b + Go.bits .xor .u32 (Go.bits .xor .u32 (u (rotr x 7)) (u (rotr x 18))) (u x / 8) + Go.bits .xor .u32 (Go.bits .xor .u32 (u (rotr y 17)) (u (rotr y 19))) (u y / 1024)) % 4294967296 = u (a + b + s0 x + s1 y) := by
  rw [shr3, shr10, bits_xor, bits_xor, bits_xor, bits_xor, sum4]
  rfl

/-- Word n of the schedule of the sixteen words m. -/
def wd (m : Nat → BitVec 32) (n : Nat) : BitVec 32 :=
  if n < 16 then m n else wd m (n - 16) + wd m (n - 7) + s0 (wd m (n - 15)) + s1 (wd m (n - 2))
termination_by n
theorem wd_low (m : Nat → BitVec 32) {n : Nat} (h : n < 16) : wd m n = m n := by
  rw [wd, if_pos h]
theorem wd_high (m : Nat → BitVec 32) {n : Nat} (h : 16 ≤ n) : wd m n = wd m (n - 16) + wd m (n - 7) + s0 (wd m (n - 15)) + s1 (wd m (n - 2)) := by
  rw [wd, if_neg (by omega)]

/-- Eight words. -/
structure H8 where
  (a b c d e f g z : BitVec 32)
def H8.w (h : H8) (i : Nat) : BitVec 32 := [h.a, h.b, h.c, h.d, h.e, h.f, h.g, h.z].getD i 0
/-- The eight words as Go's array of them. -/
def H8.vals (h : H8) : Array Value := #[.int .u32 (u h.a), .int .u32 (u h.b), .int .u32 (u h.c), .int .u32 (u h.d), .int .u32 (u h.e), .int .u32 (u h.f), .int .u32 (u h.g), .int .u32 (u h.z)]
theorem H8.vals_at (h : H8) {i : Nat} (hi : i < 8) : h.vals[i]? = some (.int .u32 (u (h.w i))) := by
  match i, hi with
  | 0, _ | 1, _ | 2, _ | 3, _ | 4, _ | 5, _ | 6, _ | 7, _ => rfl

/-- One step: x is a word and its constant together. -/
def rnd (h : H8) (x : BitVec 32) : H8 :=
  ⟨h.z + tw h.e 6 11 25 + pickW h.e h.f h.g + x + (tw h.a 2 13 22 + mostW h.a h.b h.c), h.a, h.b, h.c, h.d + (h.z + tw h.e 6 11 25 + pickW h.e h.f h.g + x), h.e, h.f, h.g⟩

/-- n rnds. -/
def rnds (h : H8) (x : Nat → BitVec 32) : Nat → H8
  | 0 => h
  | n + 1 => rnd (rnds h x n) (x n)

def H8.add (h k : H8) : H8 := ⟨h.a + k.a, h.b + k.b, h.c + k.c, h.d + k.d, h.e + k.e, h.f + k.f, h.g + k.g, h.z + k.z⟩
/-- The first i words of h.add k, the others of h. -/
def H8.part (h k : H8) (i : Nat) : H8 :=
  ⟨if 0 < i then h.a + k.a else h.a, if 1 < i then h.b + k.b else h.b, if 2 < i then h.c + k.c else h.c, if 3 < i then h.d + k.d else h.d,
   if 4 < i then h.e + k.e else h.e, if 5 < i then h.f + k.f else h.f, if 6 < i then h.g + k.g else h.g, if 7 < i then h.z + k.z else h.z⟩
theorem H8.part_none (h k : H8) : h.part k 0 = h := by simp [H8.part]
theorem H8.part_all (h k : H8) : h.part k 8 = h.add k := by simp [H8.part, H8.add]
theorem H8.part_w (h k : H8) {i : Nat} (hi : i < 8) : (h.part k i).w i = h.w i := by
  match i, hi with
  | 0, _ | 1, _ | 2, _ | 3, _ | 4, _ | 5, _ | 6, _ | 7, _ => simp [H8.part, H8.w]
theorem H8.part_set (h k : H8) {i : Nat} (hi : i < 8) : (h.part k i).vals.setIfInBounds i (.int .u32 (u (h.w i + k.w i))) = (h.part k (i + 1)).vals := by
  match i, hi with
  | 0, _ | 1, _ | 2, _ | 3, _ | 4, _ | 5, _ | 6, _ | 7, _ => simp [H8.part, H8.w, H8.vals]

/-- The table of constants. -/
def ks : List (BitVec 32) := [
  0x428a2f98, 0x71374491, 0xb5c0fbcf, 0xe9b5dba5, 0x3956c25b, 0x59f111f1, 0x923f82a4, 0xab1c5ed5,
  0xd807aa98, 0x12835b01, 0x243185be, 0x550c7dc3, 0x72be5d74, 0x80deb1fe, 0x9bdc06a7, 0xc19bf174,
  0xe49b69c1, 0xefbe4786, 0x0fc19dc6, 0x240ca1cc, 0x2de92c6f, 0x4a7484aa, 0x5cb0a9dc, 0x76f988da,
  0x983e5152, 0xa831c66d, 0xb00327c8, 0xbf597fc7, 0xc6e00bf3, 0xd5a79147, 0x06ca6351, 0x14292967,
  0x27b70a85, 0x2e1b2138, 0x4d2c6dfc, 0x53380d13, 0x650a7354, 0x766a0abb, 0x81c2c92e, 0x92722c85,
  0xa2bfe8a1, 0xa81a664b, 0xc24b8b70, 0xc76c51a3, 0xd192e819, 0xd6990624, 0xf40e3585, 0x106aa070,
  0x19a4c116, 0x1e376c08, 0x2748774c, 0x34b0bcb5, 0x391c0cb3, 0x4ed8aa4a, 0x5b9cca4f, 0x682e6ff3,
  0x748f82ee, 0x78a5636f, 0x84c87814, 0x8cc70208, 0x90befffa, 0xa4506ceb, 0xbef9a3f7, 0xc67178f2]
def kc (i : Nat) : BitVec 32 := ks.getD i 0

/-- What a block of the words m makes of h. -/
def blockS (h : H8) (m : Nat → BitVec 32) : H8 := h.add (rnds h (fun i => kc i + wd m i) 64)
def startS : H8 := ⟨0x6a09e667, 0xbb67ae85, 0x3c6ef372, 0xa54ff53a, 0x510e527f, 0x9b05688c, 0x1f83d9ab, 0x5be0cd19⟩
end Go.Proofs.YteojkfbnenfmkaaDoor.ShaM
namespace Go.Proofs.YteojkfbnenfmkaaDoor.RotC
set_option maxRecDepth 100000
open Go.RowKit RotM

theorem ret_u {a b : Int} (h : a = b) : Ending.returned (.int .u32 a) = .returned (.int .u32 b) := by rw [h]
theorem pick (p a b : BitVec 32) (w : World) :
    Calls Tryd.prog 87 #[.int .u32 (u p), .int .u32 (u a), .int .u32 (u b)] w fun e w' => e = .returned (.int .u32 (u (pickW p a b))) ∧ w = w' := by
  go_enter Tryd.func87, Tryd.ntmps87
  go_wp2
  go_ret
  exact ⟨ret_u (by rw [bits_and, bits_not, bits_and, bits_or]; rfl), rfl⟩
theorem most (a b c : BitVec 32) (w : World) :
    Calls Tryd.prog 88 #[.int .u32 (u a), .int .u32 (u b), .int .u32 (u c)] w fun e w' => e = .returned (.int .u32 (u (mostW a b c))) ∧ w = w' := by
  go_enter Tryd.func88, Tryd.ntmps88
  go_wp2
  go_ret
  exact ⟨ret_u (by rw [bits_and, bits_and, bits_and, bits_or, bits_or]; rfl), rfl⟩
set_option maxHeartbeats 400000 in
theorem right (x : BitVec 32) (n : Int) (w : World) :
    Calls Tryd.prog 85 #[.int .u32 (u x), .int .i64 n] w fun e w' => e = .returned (.int .u32 (u (rotr x (n % 32).toNat))) ∧ w = w' := by
  have hx := u_range x
  have h31 := and31 n
  obtain ⟨k, hk⟩ : ∃ k : Nat, n % 32 = k := ⟨(n % 32).toNat, by omega⟩
  have hk32 : k < 32 := by omega
  rw [hk] at h31
  rw [hk]
  clear hk
  go_enter Tryd.func85, Tryd.ntmps85
  go_wp2
  go_ret
  exact ⟨ret_u (by rw [shr_u, shl_u, bits_or]; rfl), rfl⟩
/-- The four bytes of a word, and the eight of a long one, as values. -/
def fourV (a : Int) : Array Value := #[.int .u8 (a / 16777216), .int .u8 (a / 65536 % 256), .int .u8 (a / 256 % 256), .int .u8 (a % 256)]
def longV (a : Int) : Array Value := #[.int .u8 (a / 72057594037927936), .int .u8 (a / 281474976710656 % 256), .int .u8 (a / 1099511627776 % 256), .int .u8 (a / 4294967296 % 256), .int .u8 (a / 16777216 % 256), .int .u8 (a / 65536 % 256), .int .u8 (a / 256 % 256), .int .u8 (a % 256)]
theorem four (a : Int) (ha : 0 ≤ a ∧ a ≤ 4294967295) (w : World) :
    Calls Tryd.prog 71 #[.int .u32 a] w fun e w' => e = .returned (.agg (fourV a)) ∧ w' = w.alloc (.cells (fourV a) 107) := by
  go_enter Tryd.func71, Tryd.ntmps71
  go_wp2
  exact bodyPost_ret (v := .agg (fourV a)) (by simp [results, Tryd.results71, go_sem, fourV]) rfl ⟨rfl, rfl⟩
end Go.Proofs.YteojkfbnenfmkaaDoor.RotC
