/- Plain facts on words of 32 bits: a Go uint32 is the number of a bit vector, and the model's bit operations are the bit vector's own. No condition. | Plain facts on words of 32 bits gone round, picked, and put together by most. No condition. | Plain facts on SHA-256's words, rnds and blocks: what a block of sixteen words makes of eight words. No condition. | What each function of package rot, and of the document's answers to it, returns: contracts. | What rot.Long, rot.Word, and the document's answers to these, return: contracts. | The contracts of rot.Right, rot.Pick and rot.Most once more, at numbers that are given otherwise than as words. | The contracts of Four and Long once more, with the bytes named. | Small facts on worlds that every walk uses: what lies below a block stays so through draws; a block known whole, and what a store makes of it. | What sha.twist, sha.step and sha.Start return: contracts. -/
import Derived.WalkKit
import Derived.ProofKit
import Derived.Test.YtgoapaanmcmlmaaGreatDoorRows
import Derived.OpenShut
import Derived.Handy
import Derived.Deep.QuietTactic
import Derived.BigQuiet
import Derived.StillTailTactics
import Derived.Laws.Tables
import Derived.Deep.WholeRow
import Derived.Laws.MakeOwn
namespace Go.Proofs.YtgoapaanmcmlmaaGreatDoor.RotM
set_option maxRecDepth 100000
open Go.RowKit
def u (x : BitVec 32) : Int := (x.toNat : Int)
theorem u_range (x : BitVec 32) : 0 ≤ u x ∧ u x ≤ 4294967295 := by
 have := x.isLt
 unfold u; omega
theorem u_of {a : Int} (h : (Lit.int .u32 a).wf = true) : ∃ x : BitVec 32, a = u x := by
 have hr : 0 ≤ a ∧ a ≤ 4294967295 := by simpa [Lit.wf, IntKind.min, IntKind.max, IntKind.bits, IntKind.signed] using h
 refine ⟨BitVec.ofNat 32 a.toNat, ?_⟩
 unfold u
 rw [BitVec.toNat_ofNat]
 omega
theorem ofInt_u (x : BitVec 32) : BitVec.ofInt 32 (u x) = x := by
 unfold u
 rw [BitVec.ofInt_natCast]
 simp
theorem wrap_u (x : BitVec 32) : IntKind.u32.wrap (u x) = u x := by
 rw [IntKind.wrap_u32]
 have := u_range x
 omega
theorem bits_or (x y : BitVec 32) : bits .or .u32 (u x) (u y) = u (x ||| y) := by
 show IntKind.u32.wrap (u (BitVec.ofInt 32 (u x) ||| BitVec.ofInt 32 (u y))) = _
 rw [ofInt_u, ofInt_u, wrap_u]
theorem bits_and (x y : BitVec 32) : bits .and .u32 (u x) (u y) = u (x &&& y) := by
 show IntKind.u32.wrap (u (BitVec.ofInt 32 (u x) &&& BitVec.ofInt 32 (u y))) = _
 rw [ofInt_u, ofInt_u, wrap_u]
theorem bits_xor (x y : BitVec 32) : bits .xor .u32 (u x) (u y) = u (x ^^^ y) := by
 show IntKind.u32.wrap (u (BitVec.ofInt 32 (u x) ^^^ BitVec.ofInt 32 (u y))) = _
 rw [ofInt_u, ofInt_u, wrap_u]
theorem max_u : IntKind.u32.max = u (BitVec.allOnes 32) := by decide
theorem bits_not (x : BitVec 32) : bits .xor .u32 IntKind.u32.max (u x) = u (~~~x) := by
 rw [max_u, bits_xor, BitVec.allOnes_xor]
theorem shr_u (x : BitVec 32) (k : Nat) : u x / 2 ^ k = u (x >>> k) := by
 unfold u
 rw [BitVec.toNat_ushiftRight, Nat.shiftRight_eq_div_pow]
 simp
theorem shl_u (x : BitVec 32) (k : Nat) : u x * 2 ^ k % 4294967296 = u (x <<< k) := by
 unfold u
 rw [BitVec.toNat_shiftLeft, Nat.shiftLeft_eq, Int.natCast_emod, Int.natCast_mul, Int.natCast_pow]
 rfl
def rotr (x : BitVec 32) (k : Nat) : BitVec 32 := x >>> k ||| x <<< (32 - k)
def pickW (p a b : BitVec 32) : BitVec 32 := p &&& a ||| ~~~p &&& b
def mostW (a b c : BitVec 32) : BitVec 32 := a &&& b ||| a &&& c ||| b &&& c
theorem and31 (n : Int) : bits .and .u32 (n % 4294967296) 31 = n % 32 := by
 have h0 : 0 ≤ n % 4294967296 := Int.emod_nonneg _ (by decide)
 have h1 : n % 4294967296 < 4294967296 := Int.emod_lt_of_pos _ (by decide)
 have := bits_mask .u32 32 (by decide) (fun m a b => by rw [IntKind.wrap_u32]; omega) 5 (by decide) (n % 4294967296) h0 (by simpa using h1)
 have h31 : ((2 : Int) ^ 5 - 1) = 31 := by decide
 have h32 : ((2 : Int) ^ 5) = 32 := by decide
 rw [h31, h32] at this
 rw [this]
 omega
theorem sub_and (p b : BitVec 32) : u b - u (p &&& b) = u (~~~p &&& b) := by
 have hx : (p &&& b) + (~~~p &&& b) = b := by
   rw [BitVec.add_eq_or_of_and_eq_zero]
   · ext i; simp only [BitVec.getElem_or, BitVec.getElem_and, BitVec.getElem_not]; cases p[i] <;> simp
   · ext i; simp only [BitVec.getElem_and, BitVec.getElem_not]; cases p[i] <;> simp
 have hn := congrArg BitVec.toNat hx
 rw [BitVec.toNat_add] at hn
 have h1 : (p &&& b).toNat ≤ b.toNat := by rw [BitVec.toNat_and]; exact Nat.and_le_right
 have h2 : (~~~p &&& b).toNat ≤ b.toNat := by rw [BitVec.toNat_and]; exact Nat.and_le_right
 have hb := b.isLt
 unfold u
 by_cases hc : (p &&& b).toNat + (~~~p &&& b).toNat < 2 ^ 32
 · rw [Nat.mod_eq_of_lt hc] at hn; omega
 · exfalso
   have : ((p &&& b).toNat + (~~~p &&& b).toNat) % 2 ^ 32 = (p &&& b).toNat + (~~~p &&& b).toNat - 2 ^ 32 := by
     rw [Nat.mod_eq_sub_mod (by omega), Nat.mod_eq_of_lt (by omega)]
   rw [this] at hn
   omega
theorem join_u (i : Nat) (x y : Int) (m : Int) (hm : (2 : Int) ^ i = m) (hx0 : 0 ≤ x) (hx : x % m = 0) (hx1 : x < 4294967296) (hy0 : 0 ≤ y) (hy : y < m) (hy1 : y < 4294967296) : bits .or .u32 x y = x + y :=
 bits_join .u32 32 (by decide) (fun n a b => by rw [IntKind.wrap_u32]; omega) i x y hx0 (by rw [hm]; exact hx) (by simpa using hx1) hy0 (by rw [hm]; exact hy) (by simpa using hy1)
theorem or_four (b0 b1 b2 b3 : Int) (r0 : 0 ≤ b0 ∧ b0 ≤ 255) (r1 : 0 ≤ b1 ∧ b1 ≤ 255) (r2 : 0 ≤ b2 ∧ b2 ≤ 255) (r3 : 0 ≤ b3 ∧ b3 ≤ 255) :
   bits .or .u32 (bits .or .u32 (bits .or .u32 (b0 * 16777216) (b1 * 65536)) (b2 * 256)) b3 = 16777216 * b0 + 65536 * b1 + 256 * b2 + b3 := by
 rw [join_u 24 (b0 * 16777216) (b1 * 65536) 16777216 (by decide) (by omega) (by omega) (by omega) (by omega) (by omega) (by omega)]
 rw [join_u 16 _ (b2 * 256) 65536 (by decide) (by omega) (by omega) (by omega) (by omega) (by omega) (by omega)]
 rw [join_u 8 _ b3 256 (by decide) (by omega) (by omega) (by omega) (by omega) (by omega) (by omega)]
 omega
end Go.Proofs.YtgoapaanmcmlmaaGreatDoor.RotM
namespace Go.Proofs.YtgoapaanmcmlmaaGreatDoor.RotN
set_option maxRecDepth 100000
open RotM
end Go.Proofs.YtgoapaanmcmlmaaGreatDoor.RotN
namespace Go.Proofs.YtgoapaanmcmlmaaGreatDoor.ShaM
set_option maxRecDepth 100000
open RotM RotN Go.RowKit
theorem add_u (x y : BitVec 32) : (u x + u y) % 4294967296 = u (x + y) := by
 unfold u
 rw [BitVec.toNat_add]
 omega
theorem sum6 (z t p x s m : BitVec 32) : (u z + u t + u p + u x + (u s + u m)) % 4294967296 = u (z + t + p + x + (s + m)) := by
 unfold u
 simp only [BitVec.toNat_add]
 omega
theorem sum5 (d z t p x : BitVec 32) : (u d + (u z + u t + u p + u x)) % 4294967296 = u (d + (z + t + p + x)) := by
 unfold u
 simp only [BitVec.toNat_add]
 omega
theorem sum4 (z t p x : BitVec 32) : (u z + u t + u p + u x) % 4294967296 = u (z + t + p + x) := by
 unfold u
 simp only [BitVec.toNat_add]
 omega
def s0 (x : BitVec 32) : BitVec 32 := rotr x 7 ^^^ rotr x 18 ^^^ x >>> 3
def s1 (x : BitVec 32) : BitVec 32 := rotr x 17 ^^^ rotr x 19 ^^^ x >>> 10
def tw (x : BitVec 32) (i j k : Nat) : BitVec 32 := rotr x i ^^^ rotr x j ^^^ rotr x k
theorem shr3 (x : BitVec 32) : u x / (8 : Int) = u (x >>> 3) := shr_u x 3
theorem shr10 (x : BitVec 32) : u x / (1024 : Int) = u (x >>> 10) := shr_u x 10
theorem wd_sum (a b x y : BitVec 32) : (u a + u b + Go.bits .xor .u32 (Go.bits .xor .u32 (u (rotr x 7)) (u (rotr x 18))) (u x / 8) + Go.bits .xor .u32 (Go.bits .xor .u32 (u (rotr y 17)) (u (rotr y 19))) (u y / 1024)) % 4294967296 = u (a + b + s0 x + s1 y) := by
 rw [shr3, shr10, bits_xor, bits_xor, bits_xor, bits_xor, sum4]
 rfl
def wd (m : Nat → BitVec 32) (n : Nat) : BitVec 32 :=
 if n < 16 then m n else wd m (n - 16) + wd m (n - 7) + s0 (wd m (n - 15)) + s1 (wd m (n - 2))
termination_by n
theorem wd_low (m : Nat → BitVec 32) {n : Nat} (h : n < 16) : wd m n = m n := by
 rw [wd, if_pos h]
theorem wd_high (m : Nat → BitVec 32) {n : Nat} (h : 16 ≤ n) : wd m n = wd m (n - 16) + wd m (n - 7) + s0 (wd m (n - 15)) + s1 (wd m (n - 2)) := by
 rw [wd, if_neg (by omega)]
structure H8 where
 (a b c d e f g z : BitVec 32)
def H8.w (h : H8) (i : Nat) : BitVec 32 := [h.a, h.b, h.c, h.d, h.e, h.f, h.g, h.z].getD i 0
def H8.vals (h : H8) : Array Value := #[.int .u32 (u h.a), .int .u32 (u h.b), .int .u32 (u h.c), .int .u32 (u h.d), .int .u32 (u h.e), .int .u32 (u h.f), .int .u32 (u h.g), .int .u32 (u h.z)]
theorem H8.vals_at (h : H8) {i : Nat} (hi : i < 8) : h.vals[i]? = some (.int .u32 (u (h.w i))) := by
 match i, hi with
 | 0, _ | 1, _ | 2, _ | 3, _ | 4, _ | 5, _ | 6, _ | 7, _ => rfl
def rnd (h : H8) (x : BitVec 32) : H8 :=
 ⟨h.z + tw h.e 6 11 25 + pickW h.e h.f h.g + x + (tw h.a 2 13 22 + mostW h.a h.b h.c), h.a, h.b, h.c, h.d + (h.z + tw h.e 6 11 25 + pickW h.e h.f h.g + x), h.e, h.f, h.g⟩
def rnds (h : H8) (x : Nat → BitVec 32) : Nat → H8
 | 0 => h
 | n + 1 => rnd (rnds h x n) (x n)
def H8.add (h k : H8) : H8 := ⟨h.a + k.a, h.b + k.b, h.c + k.c, h.d + k.d, h.e + k.e, h.f + k.f, h.g + k.g, h.z + k.z⟩
def H8.part (h k : H8) (i : Nat) : H8 :=
 ⟨if 0 < i then h.a + k.a else h.a, if 1 < i then h.b + k.b else h.b, if 2 < i then h.c + k.c else h.c, if 3 < i then h.d + k.d else h.d,
  if 4 < i then h.e + k.e else h.e, if 5 < i then h.f + k.f else h.f, if 6 < i then h.g + k.g else h.g, if 7 < i then h.z + k.z else h.z⟩
theorem H8.part_none (h k : H8) : h.part k 0 = h := by simp [H8.part]
theorem H8.part_all (h k : H8) : h.part k 8 = h.add k := by simp [H8.part, H8.add]
theorem H8.part_w (h k : H8) {i : Nat} (hi : i < 8) : (h.part k i).w i = h.w i := by
 match i, hi with
 | 0, _ | 1, _ | 2, _ | 3, _ | 4, _ | 5, _ | 6, _ | 7, _ => simp [H8.part, H8.w]
theorem H8.part_set (h k : H8) {i : Nat} (hi : i < 8) : (h.part k i).vals.setIfInBounds i (.int .u32 (u (h.w i + k.w i))) = (h.part k (i + 1)).vals := by
 match i, hi with
 | 0, _ | 1, _ | 2, _ | 3, _ | 4, _ | 5, _ | 6, _ | 7, _ => simp [H8.part, H8.w, H8.vals]
def ks : List (BitVec 32) := [
 0x428a2f98, 0x71374491, 0xb5c0fbcf, 0xe9b5dba5, 0x3956c25b, 0x59f111f1, 0x923f82a4, 0xab1c5ed5,
 0xd807aa98, 0x12835b01, 0x243185be, 0x550c7dc3, 0x72be5d74, 0x80deb1fe, 0x9bdc06a7, 0xc19bf174,
 0xe49b69c1, 0xefbe4786, 0x0fc19dc6, 0x240ca1cc, 0x2de92c6f, 0x4a7484aa, 0x5cb0a9dc, 0x76f988da,
 0x983e5152, 0xa831c66d, 0xb00327c8, 0xbf597fc7, 0xc6e00bf3, 0xd5a79147, 0x06ca6351, 0x14292967,
 0x27b70a85, 0x2e1b2138, 0x4d2c6dfc, 0x53380d13, 0x650a7354, 0x766a0abb, 0x81c2c92e, 0x92722c85,
 0xa2bfe8a1, 0xa81a664b, 0xc24b8b70, 0xc76c51a3, 0xd192e819, 0xd6990624, 0xf40e3585, 0x106aa070,
 0x19a4c116, 0x1e376c08, 0x2748774c, 0x34b0bcb5, 0x391c0cb3, 0x4ed8aa4a, 0x5b9cca4f, 0x682e6ff3,
 0x748f82ee, 0x78a5636f, 0x84c87814, 0x8cc70208, 0x90befffa, 0xa4506ceb, 0xbef9a3f7, 0xc67178f2]
def kc (i : Nat) : BitVec 32 := ks.getD i 0
def blockS (h : H8) (m : Nat → BitVec 32) : H8 := h.add (rnds h (fun i => kc i + wd m i) 64)
def startS : H8 := ⟨0x6a09e667, 0xbb67ae85, 0x3c6ef372, 0xa54ff53a, 0x510e527f, 0x9b05688c, 0x1f83d9ab, 0x5be0cd19⟩
end Go.Proofs.YtgoapaanmcmlmaaGreatDoor.ShaM
namespace Go.Proofs.YtgoapaanmcmlmaaGreatDoor.RotC
set_option maxRecDepth 100000
open Go.RowKit RotM
theorem ret_u {a b : Int} (h : a = b) : Ending.returned (.int .u32 a) = .returned (.int .u32 b) := by rw [h]
theorem pick (p a b : BitVec 32) (w : World) :
   Calls Tryz.prog 163 #[.int .u32 (u p), .int .u32 (u a), .int .u32 (u b)] w fun e w' => e = .returned (.int .u32 (u (pickW p a b))) ∧ w = w' := by
 go_enter Tryz.func163, Tryz.ntmps163
 go_wp2
 go_ret
 exact ⟨ret_u (by rw [bits_and, bits_not, bits_and, bits_or]; rfl), rfl⟩
theorem most (a b c : BitVec 32) (w : World) :
   Calls Tryz.prog 164 #[.int .u32 (u a), .int .u32 (u b), .int .u32 (u c)] w fun e w' => e = .returned (.int .u32 (u (mostW a b c))) ∧ w = w' := by
 go_enter Tryz.func164, Tryz.ntmps164
 go_wp2
 go_ret
 exact ⟨ret_u (by rw [bits_and, bits_and, bits_and, bits_or, bits_or]; rfl), rfl⟩
set_option maxHeartbeats 400000 in
theorem right (x : BitVec 32) (n : Int) (w : World) :
   Calls Tryz.prog 161 #[.int .u32 (u x), .int .i64 n] w fun e w' => e = .returned (.int .u32 (u (rotr x (n % 32).toNat))) ∧ w = w' := by
 have hx := u_range x
 have h31 := and31 n
 obtain ⟨k, hk⟩ : ∃ k : Nat, n % 32 = k := ⟨(n % 32).toNat, by omega⟩
 have hk32 : k < 32 := by omega
 rw [hk] at h31
 rw [hk]
 clear hk
 go_enter Tryz.func161, Tryz.ntmps161
 go_wp2
 go_ret
 exact ⟨ret_u (by rw [shr_u, shl_u, bits_or]; rfl), rfl⟩
def fourV (a : Int) : Array Value := #[.int .u8 (a / 16777216), .int .u8 (a / 65536 % 256), .int .u8 (a / 256 % 256), .int .u8 (a % 256)]
def longV (a : Int) : Array Value := #[.int .u8 (a / 72057594037927936), .int .u8 (a / 281474976710656 % 256), .int .u8 (a / 1099511627776 % 256), .int .u8 (a / 4294967296 % 256), .int .u8 (a / 16777216 % 256), .int .u8 (a / 65536 % 256), .int .u8 (a / 256 % 256), .int .u8 (a % 256)]
theorem four (a : Int) (ha : 0 ≤ a ∧ a ≤ 4294967295) (w : World) :
   Calls Tryz.prog 151 #[.int .u32 a] w fun e w' => e = .returned (.agg (fourV a)) ∧ w' = w.alloc (.cells (fourV a) 119) := by
 go_enter Tryz.func151, Tryz.ntmps151
 go_wp2
 exact bodyPost_ret (v := .agg (fourV a)) (by simp [results, Tryz.results151, go_sem, fourV]) rfl ⟨rfl, rfl⟩
end Go.Proofs.YtgoapaanmcmlmaaGreatDoor.RotC
namespace Go.Proofs.YtgoapaanmcmlmaaGreatDoor.RotD
set_option maxRecDepth 100000
open Go.RowKit RotM RotC
theorem below_drewN (w : World) (n : Nat) : Below w.heap.size w (w.drewN n) := ⟨rfl, rfl, rfl, Nat.le_refl _, fun _ _ => rfl⟩
theorem two_u {a b : Int} {c : Bool} (h : a = b) : Ending.returned (.tuple #[.int .u32 a, .bool c]) = .returned (.tuple #[.int .u32 b, .bool c]) := by rw [h]
theorem agg8 {b0 b1 b2 b3 b4 b5 b6 b7 c0 c1 c2 c3 c4 c5 c6 c7 : Int} (h0 : b0 = c0) (h1 : b1 = c1) (h2 : b2 = c2) (h3 : b3 = c3) (h4 : b4 = c4) (h5 : b5 = c5) (h6 : b6 = c6) (h7 : b7 = c7) :
   Ending.returned (.agg #[.int .u8 b0, .int .u8 b1, .int .u8 b2, .int .u8 b3, .int .u8 b4, .int .u8 b5, .int .u8 b6, .int .u8 b7]) = .returned (.agg #[.int .u8 c0, .int .u8 c1, .int .u8 c2, .int .u8 c3, .int .u8 c4, .int .u8 c5, .int .u8 c6, .int .u8 c7]) := by
 subst h0 h1 h2 h3 h4 h5 h6 h7; rfl
set_option maxHeartbeats 1000000 in
theorem long (a : Int) (ha : 0 ≤ a ∧ a ≤ 18446744073709551615) (w : World) :
   Calls Tryz.prog 148 #[.int .u64 a] w fun e w' => e = .returned (.agg (longV a)) ∧ Below w.heap.size w w' := by
 go_enter Tryz.func148, Tryz.ntmps148
 go_wp2
 go_returns
 refine ⟨agg8 ?_ ?_ ?_ ?_ ?_ ?_ ?_ ?_, ?_⟩
 all_goals first | omega | go_grown
theorem word_no (A : Option Addr) (len cap : Nat) (at_ : Int) (hl : len ≤ 100) (ha : -9223372036854775808 ≤ at_ ∧ at_ ≤ 9223372036854775807) (h : at_ < 0 ∨ (len : Int) - 4 < at_) (w : World) :
   Calls Tryz.prog 160 #[.slice A len cap, .int .i64 at_] w fun e w' => e = .returned (.tuple #[.int .u32 0, .bool false]) ∧ w = w' := by
 by_cases h0 : at_ < 0
 · go_enter Tryz.func160, Tryz.ntmps160
   go_wp2
   go_ret2
   exact ⟨rfl, rfl⟩
 · have h1 : (len : Int) - at_ < 4 := by omega
   go_enter Tryz.func160, Tryz.ntmps160
   go_wp2
   go_ret2
   exact ⟨rfl, rfl⟩
def four4 (b0 b1 b2 b3 : Int) : Int := 16777216 * b0 + 65536 * b1 + 256 * b2 + b3
set_option maxHeartbeats 1000000 in
theorem word_yes (b off len cap k : Nat) (b0 b1 b2 b3 : Int) (hl : len ≤ 100) (hc : len ≤ cap) (hk : k + 4 ≤ len) (w : World)
   (c0 : w.cell? ⟨b, off + k, none⟩ = some (.int .u8 b0)) (c1 : w.cell? ⟨b, off + (k + 1), none⟩ = some (.int .u8 b1)) (c2 : w.cell? ⟨b, off + (k + 2), none⟩ = some (.int .u8 b2)) (c3 : w.cell? ⟨b, off + (k + 3), none⟩ = some (.int .u8 b3))
   (r0 : 0 ≤ b0 ∧ b0 ≤ 255) (r1 : 0 ≤ b1 ∧ b1 ≤ 255) (r2 : 0 ≤ b2 ∧ b2 ≤ 255) (r3 : 0 ≤ b3 ∧ b3 ≤ 255) :
   Calls Tryz.prog 160 #[.slice (some ⟨b, off, none⟩) len cap, .int .i64 (k : Int)] w fun e w' => e = .returned (.tuple #[.int .u32 (four4 b0 b1 b2 b3), .bool true]) ∧ Below w.heap.size w w' := by
 have d1 : w.cell? ⟨b, off + k + 1, none⟩ = some (.int .u8 b1) := c1
 have d2 : w.cell? ⟨b, off + k + 2, none⟩ = some (.int .u8 b2) := c2
 have d3 : w.cell? ⟨b, off + k + 3, none⟩ = some (.int .u8 b3) := c3
 clear c1 c2 c3
 have harr : ∀ (x : Addr) (c : Nat) (w : World), Sem.run Tryz.prog (Instr.arrayAt 119 (.slice (some x) 4 c)) w = .ok (.pointer (some x)) w := fun x c w => by simp [Instr.arrayAt, run_underlying Tryz.underlying119]
 go_enter Tryz.func160, Tryz.ntmps160
 go_wp2
 go_ret2
 exact ⟨two_u (or_four b0 b1 b2 b3 r0 r1 r2 r3), by go_grown⟩
end Go.Proofs.YtgoapaanmcmlmaaGreatDoor.RotD
namespace Go.Proofs.YtgoapaanmcmlmaaGreatDoor.RotF
set_option maxRecDepth 100000
open Go.RowKit RotM RotN
theorem aside {p : Prop} (h : p) : Hid p := h
end Go.Proofs.YtgoapaanmcmlmaaGreatDoor.RotF
namespace Go.Proofs.YtgoapaanmcmlmaaGreatDoor.RotG
set_option maxRecDepth 100000
open Go.RowKit RotM RotC RotD RotN
def B (b : Int) : Prop := 0 ≤ b ∧ b ≤ 255
theorem four4_range {b0 b1 b2 b3 : Int} (r0 : B b0) (r1 : B b1) (r2 : B b2) (r3 : B b3) : 0 ≤ four4 b0 b1 b2 b3 ∧ four4 b0 b1 b2 b3 ≤ 4294967295 := by
 unfold B at r0 r1 r2 r3
 unfold four4
 omega
def At (w : World) (g : Nat) (cs : Array Value) : Prop := ∃ t, w.heap[g]? = some (.cells cs t (0, 0))
theorem At.lt {w : World} {g : Nat} {cs : Array Value} (h : At w g cs) : g < w.heap.size := by
 obtain ⟨t, ht⟩ := h
 exact (Array.getElem?_eq_some_iff.1 ht).1
theorem At.new (w : World) (cs : Array Value) (t : TypeId) : At (w.alloc (.cells cs t)) w.heap.size cs := ⟨t, heap_alloc_new w _⟩
theorem At.alloc {w : World} {g : Nat} {cs : Array Value} (h : At w g cs) (o : Obj) : At (w.alloc o) g cs := by
 have hl := h.lt
 obtain ⟨t, ht⟩ := h
 exact ⟨t, (Below.heap_alloc w o g hl).trans ht⟩
theorem At.below {w w' : World} {k g : Nat} {cs : Array Value} (h : At w g cs) (hb : Below k w w') (hg : g < k) : At w' g cs := by
 obtain ⟨t, ht⟩ := h
 exact ⟨t, (hb.block g hg).trans ht⟩
theorem At.cell {w : World} {g : Nat} {cs : Array Value} (h : At w g cs) (i : Nat) : w.cell? ⟨g, i, none⟩ = cs[i]? := by
 obtain ⟨t, ht⟩ := h
 exact cell_of_row w g i cs t (0, 0) ht
end Go.Proofs.YtgoapaanmcmlmaaGreatDoor.RotG
namespace Go.Proofs.YtgoapaanmcmlmaaGreatDoor.RotG
set_option maxRecDepth 100000
open Go.RowKit
theorem At.drewN {w : World} {g : Nat} {cs : Array Value} (h : At w g cs) (n : Nat) : At (w.drewN n) g cs := h
theorem At.drew {w : World} {g : Nat} {cs : Array Value} (h : At w g cs) : At w.drew g cs := h
theorem At.old2 (w : World) (cs : Array Value) (t : TypeId) (o : Obj) : At ((w.alloc (.cells cs t)).alloc o) w.heap.size cs := ⟨t, heap_alloc2_old w _ o⟩
theorem At.new2 (w : World) (cs : Array Value) (t : TypeId) (o : Obj) : At ((w.alloc o).alloc (.cells cs t)) (w.heap.size + 1) cs := ⟨t, heap_alloc2_new w o _⟩
theorem At.frozen {w : World} {g : Nat} {cs : Array Value} (h : At w g cs) (i : Nat) : w.frozen? ⟨g, i, none⟩ = false := by
 obtain ⟨t, ht⟩ := h
 exact frozen_of_row w g i cs t ht
theorem At.set {w : World} {g : Nat} {cs : Array Value} (h : At w g cs) (i : Nat) (v : Value) : At (w.setCell ⟨g, i, none⟩ v) g (cs.setIfInBounds i v) := by
 obtain ⟨t, ht⟩ := h
 exact ⟨t, heap_setCell_same w g i cs t v ht⟩
theorem At.set_other {w : World} {g : Nat} {cs : Array Value} (h : At w g cs) {a : Addr} (ha : g ≠ a.block) (v : Value) : At (w.setCell a v) g cs := by
 obtain ⟨t, ht⟩ := h
 exact ⟨t, (heap_setCell_other w a g v ha).trans ht⟩
theorem At.row {w : World} {g : Nat} {cs : Array Value} (h : At w g cs) (ds : Array Value) : At (w.setRow g ds) g ds := by
 obtain ⟨t, ht⟩ := h
 exact ⟨t, setRow_heap w g cs ds t (0, 0) ht⟩
theorem At.row_other {w : World} {g k : Nat} {cs : Array Value} (h : At w g cs) (hk : g ≠ k) (ds : Array Value) : At (w.setRow k ds) g cs := by
 obtain ⟨t, ht⟩ := h
 exact ⟨t, (setRow_other w k g ds hk).trans ht⟩
end Go.Proofs.YtgoapaanmcmlmaaGreatDoor.RotG
namespace Go.Proofs.YtgoapaanmcmlmaaGreatDoor.Small
open Go.RowKit RotG
theorem below_drew {k : Nat} {w w' : World} (h : Below k w w') (n : Nat) : Below k w (w'.drewN n) := ⟨h.os, h.tape, h.output, h.size, h.block⟩
theorem below_drew1 {k : Nat} {w w' : World} (h : Below k w w') : Below k w w'.drew := ⟨h.os, h.tape, h.output, h.size, h.block⟩
theorem below_row {B g : Nat} {w0 w : World} (hb : Below B w0 w) (hg : B ≤ g) (cs : Array Value) : Below B w0 (w.setRow g cs) :=
 hb.trans ⟨rfl, rfl, rfl, by simp [World.setRow], fun k hk => setRow_other w g k cs (by omega)⟩
theorem wpList_load_at {P : Program} {ops : Array Oper} {rest : List Oper} {o : Oper} {a : Act} {w : World} {Q : Exit → Act → World → Prop} (hgd : o.guard = none) (ty : TypeId) (x : Operand) (ho : o.op = .load ty x)
   (g : Nat) (hx : a.eval x = .pointer (some ⟨g, 0, none⟩)) (cs : Array Value) (d : TypeDesc) (hg : At w g cs)
   (hu : P.underlying ty = some d) (hd : (match d with | .struct _ | .array _ _ => true | _ => false) = true) (hi : (P.info? ty).map (·.size) = some cs.size)
   (h : wpList P ops Q rest (a.put o.dst (.agg cs)) w) : wpList P ops Q (o :: rest) a w := by
 obtain ⟨t, ht⟩ := hg
 exact wpList_load_row hgd ty x ho g hx t cs (0, 0) d ht hu hd hi h
theorem wpList_store_at {P : Program} {ops : Array Oper} {rest : List Oper} {o : Oper} {a : Act} {w : World} {Q : Exit → Act → World → Prop} (hgd : o.guard = none) (ty : TypeId) (x y : Operand) (ho : o.op = .store ty x y)
   (g : Nat) (cells : Array Value) (hx : a.eval x = .pointer (some ⟨g, 0, none⟩)) (hy : a.eval y = .agg cells)
   (old : Array Value) (hg : At w g old) (hi : (P.info? ty).map (·.size) = some cells.size)
   (hold : old.size = cells.size) (h1 : cells.all (·.oneCell') = true)
   (h : wpList P ops Q rest (a.put o.dst undef) (w.setRow g cells)) : wpList P ops Q (o :: rest) a w := by
 obtain ⟨t, ht⟩ := hg
 exact wpList_store_row hgd ty x y ho g cells hx hy t old ht hi hold h1 h
theorem wpList_store_last {P : Program} {ops : Array Oper} {rest : List Oper} {o : Oper} {a : Act} {w : World} {Q : Exit → Act → World → Prop} (hgd : o.guard = none) (ty : TypeId) (x y : Operand) (ho : o.op = .store ty x y)
   (w0 : World) (old cells : Array Value) (t : TypeId) (hw : w = w0.alloc (.cells old t)) (g : Nat) (hx : a.eval x = .pointer (some ⟨g, 0, none⟩)) (hg : g = w0.heap.size) (hy : a.eval y = .agg cells)
   (hi : (P.info? ty).map (·.size) = some cells.size) (hold : old.size = cells.size) (h1 : cells.all (·.oneCell') = true)
   (h : wpList P ops Q rest (a.put o.dst undef) (w0.alloc (.cells cells t))) : wpList P ops Q (o :: rest) a w := by
 subst hw
 subst hg
 refine wpList_store_row hgd ty x y ho w0.heap.size cells hx hy t old (heap_alloc_new w0 _) hi hold h1 ?_
 rw [World.setRow_alloc_new]
 exact h
theorem wpStill_load_row {P : Program} {ops : Array Oper} {w : World} {Q : Act → Prop} {a : Act} {o : Oper} {rest : List Oper} (hgd : o.guard = none) (ty : TypeId) (x : Operand) (ho : o.op = .load ty x)
   (g : Nat) (hx : a.eval x = .pointer (some ⟨g, 0, none⟩)) (t : TypeId) (cs : Array Value) (fr : Nat × Nat) (d : TypeDesc) (hg : w.heap[g]? = some (.cells cs t fr))
   (hu : P.underlying ty = some d) (hd : (match d with | .struct _ | .array _ _ => true | _ => false) = true) (hi : (P.info? ty).map (·.size) = some cs.size)
   (h : wpStill P ops w Q rest (a.put o.dst (.agg cs))) : wpStill P ops w Q (o :: rest) a := by
 refine wpStill_step (fun K hK => ?_)
 have hw : Region.wanted o (yielded ops a.tmps) = true := by simp [Region.wanted, hgd]
 rw [if_pos hw]
 unfold Oper.still execOp
 simp only [ho, hx, Instr.loadAt, Instr.sureAddr, Sem.run_bind, Sem.run_pure, Result.andThen_ok, run_loadVar_row w g t ty cs fr d hg hu hd hi]
 exact ⟨rfl, hK _ h⟩
theorem wpStill_load_at {P : Program} {ops : Array Oper} {w : World} {Q : Act → Prop} {a : Act} {o : Oper} {rest : List Oper} (hgd : o.guard = none) (ty : TypeId) (x : Operand) (ho : o.op = .load ty x)
   (g : Nat) (hx : a.eval x = .pointer (some ⟨g, 0, none⟩)) (cs : Array Value) (d : TypeDesc) (hg : At w g cs)
   (hu : P.underlying ty = some d) (hd : (match d with | .struct _ | .array _ _ => true | _ => false) = true) (hi : (P.info? ty).map (·.size) = some cs.size)
   (h : wpStill P ops w Q rest (a.put o.dst (.agg cs))) : wpStill P ops w Q (o :: rest) a := by
 obtain ⟨t, ht⟩ := hg
 exact wpStill_load_row hgd ty x ho g hx t cs (0, 0) d ht hu hd hi h
theorem results_at {P : Program} {fn : Func} {p : Tmp} {ty : TypeId} (h : fn.results = #[.cell p ty]) (tmps : Array Value) (w : World) (g : Nat) (cs : Array Value) (d : TypeDesc)
   (hp : tmps.getD p undef = .pointer (some ⟨g, 0, none⟩)) (hg : At w g cs)
   (hu : P.underlying ty = some d) (hd : (match d with | .struct _ | .array _ _ => true | _ => false) = true) (hi : (P.info? ty).map (·.size) = some cs.size) :
   (results fn tmps).run P w = .ok (.agg cs) w := by
 obtain ⟨t, ht⟩ := hg
 exact results_cell_row h tmps w g t cs (0, 0) d hp ht hu hd hi
theorem results_at_tmp {P : Program} {fn : Func} {p q : Tmp} {ty : TypeId} (h : fn.results = #[.cell p ty, .tmp q]) (tmps : Array Value) (w : World) (g : Nat) (cs : Array Value) (d : TypeDesc) (v : Value)
   (hp : tmps.getD p undef = .pointer (some ⟨g, 0, none⟩)) (hq : tmps.getD q undef = v) (hg : At w g cs)
   (hu : P.underlying ty = some d) (hd : (match d with | .struct _ | .array _ _ => true | _ => false) = true) (hi : (P.info? ty).map (·.size) = some cs.size) :
   (results fn tmps).run P w = .ok (.tuple #[.agg cs, v]) w := by
 obtain ⟨t, ht⟩ := hg
 have hp' : tmps[p]?.getD undef = .pointer (some ⟨g, 0, none⟩) := by simpa using hp
 have hq' : tmps[q]?.getD undef = v := by simpa using hq
 simp [results, h, hp', hq', asAddr, run_loadVar_row w g t ty cs (0, 0) d ht hu hd hi]
theorem made_replicate (z : Value) (n : Nat) : madeCells #[z] n = (List.replicate n z).toArray := by
 apply Array.ext_getElem?
 intro i
 by_cases h : i < n
 · simp [madeCells, h, Nat.mod_one]
 · simp [madeCells, h]
theorem wpList_make_at {P : Program} {ops : Array Oper} {rest : List Oper} {o : Oper} {a : Act} {w : World} {Q : Exit → Act → World → Prop} (hgd : o.guard = none) (ty : TypeId) (x y : Operand) (ho : o.op = .makeSlice ty x y)
   (e : TypeId) (z : Value) (hu : P.underlying ty = some (.slice e)) (hz : (P.info? e).map (fun i => (i.zero, i.size, i.bytes)) = some (some z, 1, 1)) (hz1 : z.cells = #[z])
   (N : Int) (hx : a.eval x = .int .i64 N) (hy : a.eval y = .int .i64 N) (n : Nat) (hN : N = n) (hn : n ≤ 281474976710656)
   (h : wpList P ops Q rest (a.put o.dst (.slice (some ⟨w.heap.size, 0, none⟩) n n)) (w.alloc (.cells (List.replicate n z).toArray e))) : wpList P ops Q (o :: rest) a w := by
 refine wpList_plain hgd fun K hK => ?_
 subst hN
 cases hq : P.info? e with
 | none => simp [hq] at hz
 | some i =>
   simp [hq] at hz
   obtain ⟨z0, z1, z2⟩ := hz
   have hrun := run_make (P := P) w ty e i z hu hq z0 .i64 .i64 n n (by omega) (by omega) (by rw [z2]; omega) (by omega)
   rw [hz1, z1, Nat.mul_one, Int.toNat_natCast, made_replicate] at hrun
   unfold Oper.wp
   simp [execOp, ho, hx, hy, hrun, Result.andThen]
   exact hK _ _ h
end Go.Proofs.YtgoapaanmcmlmaaGreatDoor.Small
namespace Go.Proofs.YtgoapaanmcmlmaaGreatDoor.ShaC
set_option maxRecDepth 100000
open Go.RowKit RotM RotN RotC RotD ShaM RotG Small
set_option maxHeartbeats 400000 in
theorem twist (x : BitVec 32) (i j k : Int) (w : World) :
   Calls Tryz.prog 162 #[.int .u32 (u x), .int .i64 i, .int .i64 j, .int .i64 k] w fun e w' => e = .returned (.int .u32 (u (tw x (i % 32).toNat (j % 32).toNat (k % 32).toNat))) ∧ w = w' := by
 go_enter Tryz.func162, Tryz.ntmps162
 go_wp2_with fail
 refine (right x i _).mono ?_
 rintro e w' ⟨rfl, rfl⟩
 go_wp2_with fail
 refine (right x j _).mono ?_
 rintro e w' ⟨rfl, rfl⟩
 go_wp2_with fail
 refine (right x k _).mono ?_
 rintro e w' ⟨rfl, rfl⟩
 go_wp2_with fail
 go_ret
 exact ⟨ret_u (by rw [bits_xor, bits_xor]; rfl), rfl⟩
theorem twist6 (x : BitVec 32) (w : World) :
   Calls Tryz.prog 162 #[.int .u32 (u x), .int .i64 6, .int .i64 11, .int .i64 25] w fun e w' => e = .returned (.int .u32 (u (tw x 6 11 25))) ∧ w = w' := twist x 6 11 25 w
theorem twist2 (x : BitVec 32) (w : World) :
   Calls Tryz.prog 162 #[.int .u32 (u x), .int .i64 2, .int .i64 13, .int .i64 22] w fun e w' => e = .returned (.int .u32 (u (tw x 2 13 22))) ∧ w = w' := twist x 2 13 22 w
theorem rightK (x : BitVec 32) (n : Int) (j : Nat) (h : (n % 32).toNat = j) (w : World) :
   Calls Tryz.prog 161 #[.int .u32 (u x), .int .i64 n] w fun e w' => e = .returned (.int .u32 (u (rotr x j))) ∧ w = w' := by
 subst h
 exact right x n w
theorem start (w : World) :
   Calls Tryz.prog 129 #[] w fun e w' => e = .returned (.agg startS.vals) ∧ Below w.heap.size w w' := by
 go_enter Tryz.func129, Tryz.ntmps129
 go_wp2
 exact bodyPost_ret (v := .agg startS.vals) (by simp [results, Tryz.results129, go_sem]; rfl) rfl ⟨rfl, by go_grown⟩
set_option maxHeartbeats 1000000 in
theorem step1 (a b c d e f g z x : BitVec 32) (w : World) :
   Calls Tryz.prog 150 #[.agg #[.int .u32 (u a), .int .u32 (u b), .int .u32 (u c), .int .u32 (u d), .int .u32 (u e), .int .u32 (u f), .int .u32 (u g), .int .u32 (u z)], .int .u32 (u x)] w fun r w' => r = .returned (.agg (rnd ⟨a, b, c, d, e, f, g, z⟩ x).vals) ∧ Below w.heap.size w w' := by
 go_enter Tryz.func150, Tryz.ntmps150
 go_wp2
 go_quiet (fail)
 go_wp2_with fail
 refine (twist6 e _).mono ?_
 rintro r w' ⟨rfl, rfl⟩
 go_wp2_with fail
 refine (pick e f g _).mono ?_
 rintro r w' ⟨rfl, rfl⟩
 go_wp2_with fail
 refine (twist2 a _).mono ?_
 rintro r w' ⟨rfl, rfl⟩
 go_wp2_with fail
 refine (most a b c _).mono ?_
 rintro r w' ⟨rfl, rfl⟩
 go_wp2_with fail
 go_returns
 refine ⟨by rw [sum6, sum5]; rfl, ?_⟩
 go_grown
 exact below_drew (by go_grown) _
theorem step (h : H8) (x : BitVec 32) (w : World) :
   Calls Tryz.prog 150 #[.agg h.vals, .int .u32 (u x)] w fun r w' => r = .returned (.agg (rnd h x).vals) ∧ Below w.heap.size w w' := by
 obtain ⟨a, b, c, d, e, f, g, z⟩ := h
 exact step1 a b c d e f g z x w
end Go.Proofs.YtgoapaanmcmlmaaGreatDoor.ShaC
