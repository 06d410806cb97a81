/- Plain facts on SHA-256's words, rnds and blocks: what a block of sixteen words makes of eight words. No condition. -/
import Derived.Test.YthdpipllighegaaDoorRotN
namespace Go.Proofs.YthdpipllighegaaDoor.ShaM
set_option maxRecDepth 100000
open RotM RotN Go.RowKit

theorem add_u (x y : BitVec 32) : (u x + u y) % 4294967296 = u (x + y) := by
  unfold u
  rw [BitVec.toNat_add]
  omega

theorem sum6 (z t p x s m : BitVec 32) : (u z + u t + u p + u x + (u s + u m)) % 4294967296 = u (z + t + p + x + (s + m)) := by
  unfold u
  simp only [BitVec.toNat_add]
  omega
theorem sum5 (d z t p x : BitVec 32) : (u d + (u z + u t + u p + u x)) % 4294967296 = u (d + (z + t + p + x)) := by
  unfold u
  simp only [BitVec.toNat_add]
  omega
theorem sum4 (z t p x : BitVec 32) : (u z + u t + u p + u x) % 4294967296 = u (z + t + p + x) := by
  unfold u
  simp only [BitVec.toNat_add]
  omega

/-- What a schedule's word takes of an earlier one. -/
def s0 (x : BitVec 32) : BitVec 32 := rotr x 7 ^^^ rotr x 18 ^^^ x >>> 3
def s1 (x : BitVec 32) : BitVec 32 := rotr x 17 ^^^ rotr x 19 ^^^ x >>> 10
/-- The twist of a word gone round by three numbers. -/
def tw (x : BitVec 32) (i j k : Nat) : BitVec 32 := rotr x i ^^^ rotr x j ^^^ rotr x k

theorem shr3 (x : BitVec 32) : u x / (8 : Int) = u (x >>> 3) := shr_u x 3
theorem shr10 (x : BitVec 32) : u x / (1024 : Int) = u (x >>> 10) := shr_u x 10
theorem wd_sum (a b x y : BitVec 32) : (u a + u b + Go.bits .xor .u32 (Go.bits .xor .u32 (u (rotr x 7)) (u (rotr x 18))) (u x / 8) + Go.bits .xor .u32 (Go.bits .xor .u32 (u (rotr y 17)) (u (rotr y 19))) (u y / 1024)) % 4294967296 = u (a + b + s0 x + s1 y) := by
  rw [shr3, shr10, bits_xor, bits_xor, bits_xor, bits_xor, sum4]
  rfl

/-- Word n of the schedule of the sixteen words m. -/
def wd (m : Nat → BitVec 32) (n : Nat) : BitVec 32 :=
  if n < 16 then m n else wd m (n - 16) + wd m (n - 7) + s0 (wd m (n - 15)) + s1 (wd m (n - 2))
termination_by n
theorem wd_low (m : Nat → BitVec 32) {n : Nat} (h : n < 16) : wd m n = m n := by
  rw [wd, if_pos h]
theorem wd_high (m : Nat → BitVec 32) {n : Nat} (h : 16 ≤ n) : wd m n = wd m (n - 16) + wd m (n - 7) + s0 (wd m (n - 15)) + s1 (wd m (n - 2)) := by
  rw [wd, if_neg (by omega)]

/-- Eight words. -/
structure H8 where
  (a b c d e f g z : BitVec 32)
def H8.w (h : H8) (i : Nat) : BitVec 32 := [h.a, h.b, h.c, h.d, h.e, h.f, h.g, h.z].getD i 0
/-- The eight words as Go's array of them. -/
def H8.vals (h : H8) : Array Value := #[.int .u32 (u h.a), .int .u32 (u h.b), .int .u32 (u h.c), .int .u32 (u h.d), .int .u32 (u h.e), .int .u32 (u h.f), .int .u32 (u h.g), .int .u32 (u h.z)]
theorem H8.vals_at (h : H8) {i : Nat} (hi : i < 8) : h.vals[i]? = some (.int .u32 (u (h.w i))) := by
  match i, hi with
  | 0, _ | 1, _ | 2, _ | 3, _ | 4, _ | 5, _ | 6, _ | 7, _ => rfl
theorem H8.size_vals (h : H8) : h.vals.size = 8 := rfl

/-- One step: x is a word and its constant together. -/
def rnd (h : H8) (x : BitVec 32) : H8 :=
  ⟨h.z + tw h.e 6 11 25 + pickW h.e h.f h.g + x + (tw h.a 2 13 22 + mostW h.a h.b h.c), h.a, h.b, h.c, h.d + (h.z + tw h.e 6 11 25 + pickW h.e h.f h.g + x), h.e, h.f, h.g⟩

/-- n rnds. -/
def rnds (h : H8) (x : Nat → BitVec 32) : Nat → H8
  | 0 => h
  | n + 1 => rnd (rnds h x n) (x n)

def H8.add (h k : H8) : H8 := ⟨h.a + k.a, h.b + k.b, h.c + k.c, h.d + k.d, h.e + k.e, h.f + k.f, h.g + k.g, h.z + k.z⟩
theorem H8.add_w (h k : H8) {i : Nat} (hi : i < 8) : (h.add k).w i = h.w i + k.w i := by
  match i, hi with
  | 0, _ | 1, _ | 2, _ | 3, _ | 4, _ | 5, _ | 6, _ | 7, _ => rfl
/-- The first i words of h.add k, the others of h. -/
def H8.part (h k : H8) (i : Nat) : H8 :=
  ⟨if 0 < i then h.a + k.a else h.a, if 1 < i then h.b + k.b else h.b, if 2 < i then h.c + k.c else h.c, if 3 < i then h.d + k.d else h.d,
   if 4 < i then h.e + k.e else h.e, if 5 < i then h.f + k.f else h.f, if 6 < i then h.g + k.g else h.g, if 7 < i then h.z + k.z else h.z⟩
theorem H8.part_none (h k : H8) : h.part k 0 = h := by simp [H8.part]
theorem H8.part_all (h k : H8) : h.part k 8 = h.add k := by simp [H8.part, H8.add]
theorem H8.part_w (h k : H8) {i : Nat} (hi : i < 8) : (h.part k i).w i = h.w i := by
  match i, hi with
  | 0, _ | 1, _ | 2, _ | 3, _ | 4, _ | 5, _ | 6, _ | 7, _ => simp [H8.part, H8.w]
theorem H8.part_set (h k : H8) {i : Nat} (hi : i < 8) : (h.part k i).vals.setIfInBounds i (.int .u32 (u (h.w i + k.w i))) = (h.part k (i + 1)).vals := by
  match i, hi with
  | 0, _ | 1, _ | 2, _ | 3, _ | 4, _ | 5, _ | 6, _ | 7, _ => simp [H8.part, H8.w, H8.vals]

/-- The table of constants. -/
def ks : List (BitVec 32) := [
  0x428a2f98, 0x71374491, 0xb5c0fbcf, 0xe9b5dba5, 0x3956c25b, 0x59f111f1, 0x923f82a4, 0xab1c5ed5,
  0xd807aa98, 0x12835b01, 0x243185be, 0x550c7dc3, 0x72be5d74, 0x80deb1fe, 0x9bdc06a7, 0xc19bf174,
  0xe49b69c1, 0xefbe4786, 0x0fc19dc6, 0x240ca1cc, 0x2de92c6f, 0x4a7484aa, 0x5cb0a9dc, 0x76f988da,
  0x983e5152, 0xa831c66d, 0xb00327c8, 0xbf597fc7, 0xc6e00bf3, 0xd5a79147, 0x06ca6351, 0x14292967,
  0x27b70a85, 0x2e1b2138, 0x4d2c6dfc, 0x53380d13, 0x650a7354, 0x766a0abb, 0x81c2c92e, 0x92722c85,
  0xa2bfe8a1, 0xa81a664b, 0xc24b8b70, 0xc76c51a3, 0xd192e819, 0xd6990624, 0xf40e3585, 0x106aa070,
  0x19a4c116, 0x1e376c08, 0x2748774c, 0x34b0bcb5, 0x391c0cb3, 0x4ed8aa4a, 0x5b9cca4f, 0x682e6ff3,
  0x748f82ee, 0x78a5636f, 0x84c87814, 0x8cc70208, 0x90befffa, 0xa4506ceb, 0xbef9a3f7, 0xc67178f2]
def kc (i : Nat) : BitVec 32 := ks.getD i 0

/-- What a block of the words m makes of h. -/
def blockS (h : H8) (m : Nat → BitVec 32) : H8 := h.add (rnds h (fun i => kc i + wd m i) 64)
def startS : H8 := ⟨0x6a09e667, 0xbb67ae85, 0x3c6ef372, 0xa54ff53a, 0x510e527f, 0x9b05688c, 0x1f83d9ab, 0x5be0cd19⟩
end Go.Proofs.YthdpipllighegaaDoor.ShaM
