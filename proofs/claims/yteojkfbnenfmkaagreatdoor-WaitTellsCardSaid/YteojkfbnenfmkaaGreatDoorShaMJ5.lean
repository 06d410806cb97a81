/- Plain facts on SHA-256's words, rnds and blocks: what a block of sixteen words makes of eight words. No condition. | What each function of package rot, and of the document's answers to it, returns: contracts. | What rot.Long, rot.Word, and the document's answers to these, return: contracts. | The contracts of rot.Right, rot.Pick and rot.Most once more, at numbers that are given otherwise than as words. | The contracts of Four and Long once more, with the bytes named. -/
import Derived.Test.YteojkfbnenfmkaaGreatDoorDgMJ4
import Derived.Test.YteojkfbnenfmkaaGreatDoorRows
import Derived.OpenShut
import Derived.Handy
import Derived.Deep.QuietTactic
import Derived.BigQuiet
namespace Go.Proofs.YteojkfbnenfmkaaGreatDoor.ShaM
set_option maxRecDepth 100000
open RotM RotN Go.RowKit

theorem add_u (x y : BitVec 32) : (u x + u y) % 4294967296 = u (x + y) := by
  unfold u
  rw [BitVec.toNat_add]
  omega

theorem sum6 (z t p x s m : BitVec 32) : (u z + u t + u p + u x + (u s + u m)) % 4294967296 = u (z + t + p + x + (s + m)) := by
  unfold u
  simp only [BitVec.toNat_add]
  omega
theorem sum5 (d z t p x : BitVec 32) : (u d + (u z + u t + u p + u x)) % 4294967296 = u (d + (z + t + p + x)) := by
  unfold u
  simp only [BitVec.toNat_add]
  omega
theorem sum4 (z t p x : BitVec 32) : (u z + u t + u p + u x) % 4294967296 = u (z + t + p + x) := by
  unfold u
  simp only [BitVec.toNat_add]
  omega

/-- What a schedule's word takes of an earlier one. -/
def s0 (x : BitVec 32) : BitVec 32 := rotr x 7 ^^^ rotr x 18 ^^^ x >>> 3
def s1 (x : BitVec 32) : BitVec 32 := rotr x 17 ^^^ rotr x 19 ^^^ x >>> 10
/-- The twist of a word gone round by three numbers. -/
def tw (x : BitVec 32) (i j k : Nat) : BitVec 32 := rotr x i ^^^ rotr x j ^^^ rotr x k

theorem shr3 (x : BitVec 32) : u x / (8 : Int) = u (x >>> 3) := shr_u x 3
theorem shr10 (x : BitVec 32) : u x / (1024 : Int) = u (x >>> 10) := shr_u x 10
theorem wd_sum (a b x y : BitVec 32) : (u a + u b + Go.bits .xor .u32 (Go.bits .xor .u32 (u (rotr x 7)) (u (rotr x 18))) (u x / 8) + Go.bits .xor .u32 (Go.bits .xor .u32 (u (rotr y 17)) (u (rotr y 19))) (u y / 1024)) % 4294967296 = u (a + b + s0 x + s1 y) := by
  rw [shr3, shr10, bits_xor, bits_xor, bits_xor, bits_xor, sum4]
  rfl

/-- Word n of the schedule of the sixteen words m. -/
def wd (m : Nat → BitVec 32) (n : Nat) : BitVec 32 :=
  if n < 16 then m n else wd m (n - 16) + wd m (n - 7) + s0 (wd m (n - 15)) + s1 (wd m (n - 2))
termination_by n
theorem wd_low (m : Nat → BitVec 32) {n : Nat} (h : n < 16) : wd m n = m n := by
  rw [wd, if_pos h]
theorem wd_high (m : Nat → BitVec 32) {n : Nat} (h : 16 ≤ n) : wd m n = wd m (n - 16) + wd m (n - 7) + s0 (wd m (n - 15)) + s1 (wd m (n - 2)) := by
  rw [wd, if_neg (by omega)]

/-- Eight words. -/
structure H8 where
  (a b c d e f g z : BitVec 32)
def H8.w (h : H8) (i : Nat) : BitVec 32 := [h.a, h.b, h.c, h.d, h.e, h.f, h.g, h.z].getD i 0
/-- The eight words as Go's array of them. -/
def H8.vals (h : H8) : Array Value := #[.int .u32 (u h.a), .int .u32 (u h.b), .int .u32 (u h.c), .int .u32 (u h.d), .int .u32 (u h.e), .int .u32 (u h.f), .int .u32 (u h.g), .int .u32 (u h.z)]
theorem H8.vals_at (h : H8) {i : Nat} (hi : i < 8) : h.vals[i]? = some (.int .u32 (u (h.w i))) := by
  match i, hi with
  | 0, _ | 1, _ | 2, _ | 3, _ | 4, _ | 5, _ | 6, _ | 7, _ => rfl

/-- One step: x is a word and its constant together. -/
def rnd (h : H8) (x : BitVec 32) : H8 :=
  ⟨h.z + tw h.e 6 11 25 + pickW h.e h.f h.g + x + (tw h.a 2 13 22 + mostW h.a h.b h.c), h.a, h.b, h.c, h.d + (h.z + tw h.e 6 11 25 + pickW h.e h.f h.g + x), h.e, h.f, h.g⟩

/-- n rnds. -/
def rnds (h : H8) (x : Nat → BitVec 32) : Nat → H8
  | 0 => h
  | n + 1 => rnd (rnds h x n) (x n)

def H8.add (h k : H8) : H8 := ⟨h.a + k.a, h.b + k.b, h.c + k.c, h.d + k.d, h.e + k.e, h.f + k.f, h.g + k.g, h.z + k.z⟩
/-- The first i words of h.add k, the others of h. -/
def H8.part (h k : H8) (i : Nat) : H8 :=
  ⟨if 0 < i then h.a + k.a else h.a, if 1 < i then h.b + k.b else h.b, if 2 < i then h.c + k.c else h.c, if 3 < i then h.d + k.d else h.d,
   if 4 < i then h.e + k.e else h.e, if 5 < i then h.f + k.f else h.f, if 6 < i then h.g + k.g else h.g, if 7 < i then h.z + k.z else h.z⟩
theorem H8.part_none (h k : H8) : h.part k 0 = h := by simp [H8.part]
theorem H8.part_all (h k : H8) : h.part k 8 = h.add k := by simp [H8.part, H8.add]
theorem H8.part_w (h k : H8) {i : Nat} (hi : i < 8) : (h.part k i).w i = h.w i := by
  match i, hi with
  | 0, _ | 1, _ | 2, _ | 3, _ | 4, _ | 5, _ | 6, _ | 7, _ => simp [H8.part, H8.w]
theorem H8.part_set (h k : H8) {i : Nat} (hi : i < 8) : (h.part k i).vals.setIfInBounds i (.int .u32 (u (h.w i + k.w i))) = (h.part k (i + 1)).vals := by
  match i, hi with
  | 0, _ | 1, _ | 2, _ | 3, _ | 4, _ | 5, _ | 6, _ | 7, _ => simp [H8.part, H8.w, H8.vals]

/-- The table of constants. -/
def ks : List (BitVec 32) := [
  0x428a2f98, 0x71374491, 0xb5c0fbcf, 0xe9b5dba5, 0x3956c25b, 0x59f111f1, 0x923f82a4, 0xab1c5ed5,
  0xd807aa98, 0x12835b01, 0x243185be, 0x550c7dc3, 0x72be5d74, 0x80deb1fe, 0x9bdc06a7, 0xc19bf174,
  0xe49b69c1, 0xefbe4786, 0x0fc19dc6, 0x240ca1cc, 0x2de92c6f, 0x4a7484aa, 0x5cb0a9dc, 0x76f988da,
  0x983e5152, 0xa831c66d, 0xb00327c8, 0xbf597fc7, 0xc6e00bf3, 0xd5a79147, 0x06ca6351, 0x14292967,
  0x27b70a85, 0x2e1b2138, 0x4d2c6dfc, 0x53380d13, 0x650a7354, 0x766a0abb, 0x81c2c92e, 0x92722c85,
  0xa2bfe8a1, 0xa81a664b, 0xc24b8b70, 0xc76c51a3, 0xd192e819, 0xd6990624, 0xf40e3585, 0x106aa070,
  0x19a4c116, 0x1e376c08, 0x2748774c, 0x34b0bcb5, 0x391c0cb3, 0x4ed8aa4a, 0x5b9cca4f, 0x682e6ff3,
  0x748f82ee, 0x78a5636f, 0x84c87814, 0x8cc70208, 0x90befffa, 0xa4506ceb, 0xbef9a3f7, 0xc67178f2]
def kc (i : Nat) : BitVec 32 := ks.getD i 0

/-- What a block of the words m makes of h. -/
def blockS (h : H8) (m : Nat → BitVec 32) : H8 := h.add (rnds h (fun i => kc i + wd m i) 64)
def startS : H8 := ⟨0x6a09e667, 0xbb67ae85, 0x3c6ef372, 0xa54ff53a, 0x510e527f, 0x9b05688c, 0x1f83d9ab, 0x5be0cd19⟩
end Go.Proofs.YteojkfbnenfmkaaGreatDoor.ShaM
namespace Go.Proofs.YteojkfbnenfmkaaGreatDoor.RotC
set_option maxRecDepth 100000
open Go.RowKit RotM

theorem ret_u {a b : Int} (h : a = b) : Ending.returned (.int .u32 a) = .returned (.int .u32 b) := by rw [h]
theorem pick (p a b : BitVec 32) (w : World) :
    Calls Tryz.prog 104 #[.int .u32 (u p), .int .u32 (u a), .int .u32 (u b)] w fun e w' => e = .returned (.int .u32 (u (pickW p a b))) ∧ w = w' := by
  go_enter Tryz.func104, Tryz.ntmps104
  go_wp2
  go_ret
  exact ⟨ret_u (by rw [bits_and, bits_not, bits_and, bits_or]; rfl), rfl⟩
theorem most (a b c : BitVec 32) (w : World) :
    Calls Tryz.prog 105 #[.int .u32 (u a), .int .u32 (u b), .int .u32 (u c)] w fun e w' => e = .returned (.int .u32 (u (mostW a b c))) ∧ w = w' := by
  go_enter Tryz.func105, Tryz.ntmps105
  go_wp2
  go_ret
  exact ⟨ret_u (by rw [bits_and, bits_and, bits_and, bits_or, bits_or]; rfl), rfl⟩
set_option maxHeartbeats 400000 in
theorem right (x : BitVec 32) (n : Int) (w : World) :
    Calls Tryz.prog 102 #[.int .u32 (u x), .int .i64 n] w fun e w' => e = .returned (.int .u32 (u (rotr x (n % 32).toNat))) ∧ w = w' := by
  have hx := u_range x
  have h31 := and31 n
  obtain ⟨k, hk⟩ : ∃ k : Nat, n % 32 = k := ⟨(n % 32).toNat, by omega⟩
  have hk32 : k < 32 := by omega
  rw [hk] at h31
  rw [hk]
  clear hk
  go_enter Tryz.func102, Tryz.ntmps102
  go_wp2
  go_ret
  exact ⟨ret_u (by rw [shr_u, shl_u, bits_or]; rfl), rfl⟩
/-- The four bytes of a word, and the eight of a long one, as values. -/
def fourV (a : Int) : Array Value := #[.int .u8 (a / 16777216), .int .u8 (a / 65536 % 256), .int .u8 (a / 256 % 256), .int .u8 (a % 256)]
def longV (a : Int) : Array Value := #[.int .u8 (a / 72057594037927936), .int .u8 (a / 281474976710656 % 256), .int .u8 (a / 1099511627776 % 256), .int .u8 (a / 4294967296 % 256), .int .u8 (a / 16777216 % 256), .int .u8 (a / 65536 % 256), .int .u8 (a / 256 % 256), .int .u8 (a % 256)]
theorem four (a : Int) (ha : 0 ≤ a ∧ a ≤ 4294967295) (w : World) :
    Calls Tryz.prog 84 #[.int .u32 a] w fun e w' => e = .returned (.agg (fourV a)) ∧ w' = w.alloc (.cells (fourV a) 92) := by
  go_enter Tryz.func84, Tryz.ntmps84
  go_wp2
  exact bodyPost_ret (v := .agg (fourV a)) (by simp [results, Tryz.results84, go_sem, fourV]) rfl ⟨rfl, rfl⟩
end Go.Proofs.YteojkfbnenfmkaaGreatDoor.RotC
namespace Go.Proofs.YteojkfbnenfmkaaGreatDoor.RotD
set_option maxRecDepth 100000
open Go.RowKit RotM RotC

theorem below_drewN (w : World) (n : Nat) : Below w.heap.size w (w.drewN n) := ⟨rfl, rfl, rfl, Nat.le_refl _, fun _ _ => rfl⟩
theorem two_u {a b : Int} {c : Bool} (h : a = b) : Ending.returned (.tuple #[.int .u32 a, .bool c]) = .returned (.tuple #[.int .u32 b, .bool c]) := by rw [h]
theorem agg8 {b0 b1 b2 b3 b4 b5 b6 b7 c0 c1 c2 c3 c4 c5 c6 c7 : Int} (h0 : b0 = c0) (h1 : b1 = c1) (h2 : b2 = c2) (h3 : b3 = c3) (h4 : b4 = c4) (h5 : b5 = c5) (h6 : b6 = c6) (h7 : b7 = c7) :
    Ending.returned (.agg #[.int .u8 b0, .int .u8 b1, .int .u8 b2, .int .u8 b3, .int .u8 b4, .int .u8 b5, .int .u8 b6, .int .u8 b7]) = .returned (.agg #[.int .u8 c0, .int .u8 c1, .int .u8 c2, .int .u8 c3, .int .u8 c4, .int .u8 c5, .int .u8 c6, .int .u8 c7]) := by
  subst h0 h1 h2 h3 h4 h5 h6 h7; rfl
set_option maxHeartbeats 1000000 in
theorem long (a : Int) (ha : 0 ≤ a ∧ a ≤ 18446744073709551615) (w : World) :
    Calls Tryz.prog 81 #[.int .u64 a] w fun e w' => e = .returned (.agg (longV a)) ∧ Below w.heap.size w w' := by
  go_enter Tryz.func81, Tryz.ntmps81
  go_wp2
  go_returns
  refine ⟨agg8 ?_ ?_ ?_ ?_ ?_ ?_ ?_ ?_, ?_⟩
  all_goals first | omega | go_grown
/-- No word: a place below 0, or fewer than four bytes from there on. -/
theorem word_no (A : Option Addr) (len cap : Nat) (at_ : Int) (hl : len ≤ 100) (ha : -9223372036854775808 ≤ at_ ∧ at_ ≤ 9223372036854775807) (h : at_ < 0 ∨ (len : Int) - 4 < at_) (w : World) :
    Calls Tryz.prog 101 #[.slice A len cap, .int .i64 at_] w fun e w' => e = .returned (.tuple #[.int .u32 0, .bool false]) ∧ w = w' := by
  by_cases h0 : at_ < 0
  · go_enter Tryz.func101, Tryz.ntmps101
    go_wp2
    go_ret2
    exact ⟨rfl, rfl⟩
  · have h1 : (len : Int) - at_ < 4 := by omega
    go_enter Tryz.func101, Tryz.ntmps101
    go_wp2
    go_ret2
    exact ⟨rfl, rfl⟩
/-- The number of four bytes, the highest one first. -/
def four4 (b0 b1 b2 b3 : Int) : Int := 16777216 * b0 + 65536 * b1 + 256 * b2 + b3
set_option maxHeartbeats 1000000 in
theorem word_yes (b off len cap k : Nat) (b0 b1 b2 b3 : Int) (hl : len ≤ 100) (hc : len ≤ cap) (hk : k + 4 ≤ len) (w : World)
    (c0 : w.cell? ⟨b, off + k, none⟩ = some (.int .u8 b0)) (c1 : w.cell? ⟨b, off + (k + 1), none⟩ = some (.int .u8 b1)) (c2 : w.cell? ⟨b, off + (k + 2), none⟩ = some (.int .u8 b2)) (c3 : w.cell? ⟨b, off + (k + 3), none⟩ = some (.int .u8 b3))
    (r0 : 0 ≤ b0 ∧ b0 ≤ 255) (r1 : 0 ≤ b1 ∧ b1 ≤ 255) (r2 : 0 ≤ b2 ∧ b2 ≤ 255) (r3 : 0 ≤ b3 ∧ b3 ≤ 255) :
    Calls Tryz.prog 101 #[.slice (some ⟨b, off, none⟩) len cap, .int .i64 (k : Int)] w fun e w' => e = .returned (.tuple #[.int .u32 (four4 b0 b1 b2 b3), .bool true]) ∧ Below w.heap.size w w' := by
  have d1 : w.cell? ⟨b, off + k + 1, none⟩ = some (.int .u8 b1) := c1
  have d2 : w.cell? ⟨b, off + k + 2, none⟩ = some (.int .u8 b2) := c2
  have d3 : w.cell? ⟨b, off + k + 3, none⟩ = some (.int .u8 b3) := c3
  clear c1 c2 c3
  have harr : ∀ (x : Addr) (c : Nat) (w : World), Sem.run Tryz.prog (Instr.arrayAt 92 (.slice (some x) 4 c)) w = .ok (.pointer (some x)) w := fun x c w => by simp [Instr.arrayAt, run_underlying Tryz.underlying92]
  go_enter Tryz.func101, Tryz.ntmps101
  go_wp2
  go_ret2
  exact ⟨two_u (or_four b0 b1 b2 b3 r0 r1 r2 r3), by go_grown⟩
end Go.Proofs.YteojkfbnenfmkaaGreatDoor.RotD
namespace Go.Proofs.YteojkfbnenfmkaaGreatDoor.RotF
set_option maxRecDepth 100000
open Go.RowKit RotM RotN

/-- A fact laid aside, so that the walk does not rewrite by it. -/
theorem aside {p : Prop} (h : p) : Hid p := h

end Go.Proofs.YteojkfbnenfmkaaGreatDoor.RotF
namespace Go.Proofs.YteojkfbnenfmkaaGreatDoor.RotG
set_option maxRecDepth 100000
open Go.RowKit RotM RotC RotD RotN

/-- A byte. -/
def B (b : Int) : Prop := 0 ≤ b ∧ b ≤ 255
theorem four4_range {b0 b1 b2 b3 : Int} (r0 : B b0) (r1 : B b1) (r2 : B b2) (r3 : B b3) : 0 ≤ four4 b0 b1 b2 b3 ∧ four4 b0 b1 b2 b3 ≤ 4294967295 := by
  unfold B at r0 r1 r2 r3
  unfold four4
  omega
/-- Block g of the world is just these cells. -/
def At (w : World) (g : Nat) (cs : Array Value) : Prop := ∃ t, w.heap[g]? = some (.cells cs t (0, 0))
theorem At.lt {w : World} {g : Nat} {cs : Array Value} (h : At w g cs) : g < w.heap.size := by
  obtain ⟨t, ht⟩ := h
  exact (Array.getElem?_eq_some_iff.1 ht).1
theorem At.new (w : World) (cs : Array Value) (t : TypeId) : At (w.alloc (.cells cs t)) w.heap.size cs := ⟨t, heap_alloc_new w _⟩
theorem At.alloc {w : World} {g : Nat} {cs : Array Value} (h : At w g cs) (o : Obj) : At (w.alloc o) g cs := by
  have hl := h.lt
  obtain ⟨t, ht⟩ := h
  exact ⟨t, (Below.heap_alloc w o g hl).trans ht⟩
theorem At.below {w w' : World} {k g : Nat} {cs : Array Value} (h : At w g cs) (hb : Below k w w') (hg : g < k) : At w' g cs := by
  obtain ⟨t, ht⟩ := h
  exact ⟨t, (hb.block g hg).trans ht⟩
theorem At.cell {w : World} {g : Nat} {cs : Array Value} (h : At w g cs) (i : Nat) : w.cell? ⟨g, i, none⟩ = cs[i]? := by
  obtain ⟨t, ht⟩ := h
  exact cell_of_row w g i cs t (0, 0) ht
end Go.Proofs.YteojkfbnenfmkaaGreatDoor.RotG
