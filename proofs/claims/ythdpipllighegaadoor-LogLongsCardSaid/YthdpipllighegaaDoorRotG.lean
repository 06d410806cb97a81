/- The contracts of Four and Long once more, with the bytes named. -/
import Derived.Test.YthdpipllighegaaDoorRotDJ2
namespace Go.Proofs.YthdpipllighegaaDoor.RotG
set_option maxRecDepth 100000
open Go.RowKit RotM RotC RotD RotN

/-- A byte. -/
def B (b : Int) : Prop := 0 ≤ b ∧ b ≤ 255
theorem bytes_of (a : Int) (h : 0 ≤ a ∧ a ≤ 4294967295) : ∃ b0 b1 b2 b3 : Int, B b0 ∧ B b1 ∧ B b2 ∧ B b3 ∧ four4 b0 b1 b2 b3 = a := by
  unfold B four4
  exact ⟨a / 16777216, a / 65536 % 256, a / 256 % 256, a % 256, by omega, by omega, by omega, by omega, by omega⟩
theorem four4_range {b0 b1 b2 b3 : Int} (r0 : B b0) (r1 : B b1) (r2 : B b2) (r3 : B b3) : 0 ≤ four4 b0 b1 b2 b3 ∧ four4 b0 b1 b2 b3 ≤ 4294967295 := by
  unfold B at r0 r1 r2 r3
  unfold four4
  omega
theorem fourV_at {b0 b1 b2 b3 : Int} (r1 : B b1) (r2 : B b2) (r3 : B b3) : fourV (four4 b0 b1 b2 b3) = #[.int .u8 b0, .int .u8 b1, .int .u8 b2, .int .u8 b3] := by
  unfold B at r1 r2 r3
  unfold fourV four4
  rw [show (16777216 * b0 + 65536 * b1 + 256 * b2 + b3) / 16777216 = b0 from by omega, show (16777216 * b0 + 65536 * b1 + 256 * b2 + b3) / 65536 % 256 = b1 from by omega,
    show (16777216 * b0 + 65536 * b1 + 256 * b2 + b3) / 256 % 256 = b2 from by omega, show (16777216 * b0 + 65536 * b1 + 256 * b2 + b3) % 256 = b3 from by omega]
theorem fourB (b0 b1 b2 b3 : Int) (r0 : B b0) (r1 : B b1) (r2 : B b2) (r3 : B b3) (a : Int) (ha : four4 b0 b1 b2 b3 = a) (w : World) :
    Calls Tryd.prog 48 #[.int .u32 a] w fun e w' => e = .returned (.agg #[.int .u8 b0, .int .u8 b1, .int .u8 b2, .int .u8 b3]) ∧ Below w.heap.size w w' := by
  subst ha
  refine (four _ (four4_range r0 r1 r2 r3) w).mono fun e w' ⟨he, hw⟩ => ⟨?_, ?_⟩
  · rw [he, fourV_at r1 r2 r3]
  · subst hw
    go_grown
theorem longV_at {b0 b1 b2 b3 c0 c1 c2 c3 : Int} (r1 : B b1) (r2 : B b2) (r3 : B b3) (s0 : B c0) (s1 : B c1) (s2 : B c2) (s3 : B c3) (a : Int) (ha : 4294967296 * four4 b0 b1 b2 b3 + four4 c0 c1 c2 c3 = a) :
    longV a = #[.int .u8 b0, .int .u8 b1, .int .u8 b2, .int .u8 b3, .int .u8 c0, .int .u8 c1, .int .u8 c2, .int .u8 c3] := by
  unfold B at r1 r2 r3 s0 s1 s2 s3
  unfold four4 at ha
  unfold longV
  rw [show a / 72057594037927936 = b0 from by omega, show a / 281474976710656 % 256 = b1 from by omega, show a / 1099511627776 % 256 = b2 from by omega, show a / 4294967296 % 256 = b3 from by omega,
    show a / 16777216 % 256 = c0 from by omega, show a / 65536 % 256 = c1 from by omega, show a / 256 % 256 = c2 from by omega, show a % 256 = c3 from by omega]
theorem longs_of (a : Int) (h : 0 ≤ a ∧ a ≤ 18446744073709551615) : ∃ b0 b1 b2 b3 c0 c1 c2 c3 : Int, B b0 ∧ B b1 ∧ B b2 ∧ B b3 ∧ B c0 ∧ B c1 ∧ B c2 ∧ B c3 ∧ 4294967296 * four4 b0 b1 b2 b3 + four4 c0 c1 c2 c3 = a := by
  obtain ⟨b0, b1, b2, b3, r0, r1, r2, r3, e⟩ := bytes_of (a / 4294967296) (by omega)
  obtain ⟨c0, c1, c2, c3, s0, s1, s2, s3, e'⟩ := bytes_of (a % 4294967296) (by omega)
  exact ⟨b0, b1, b2, b3, c0, c1, c2, c3, r0, r1, r2, r3, s0, s1, s2, s3, by omega⟩
theorem longB (b0 b1 b2 b3 c0 c1 c2 c3 : Int) (r0 : B b0) (r1 : B b1) (r2 : B b2) (r3 : B b3) (s0 : B c0) (s1 : B c1) (s2 : B c2) (s3 : B c3) (a : Int) (ha : 4294967296 * four4 b0 b1 b2 b3 + four4 c0 c1 c2 c3 = a) (w : World) :
    Calls Tryd.prog 45 #[.int .u64 a] w fun e w' => e = .returned (.agg #[.int .u8 b0, .int .u8 b1, .int .u8 b2, .int .u8 b3, .int .u8 c0, .int .u8 c1, .int .u8 c2, .int .u8 c3]) ∧ Below w.heap.size w w' := by
  have h1 := four4_range r0 r1 r2 r3
  have h2 := four4_range s0 s1 s2 s3
  refine (long a (by omega) w).mono fun e w' ⟨he, hw⟩ => ⟨?_, hw⟩
  rw [he, longV_at r1 r2 r3 s0 s1 s2 s3 a ha]
/-- Block g of the world is just these cells. -/
def At (w : World) (g : Nat) (cs : Array Value) : Prop := ∃ t, w.heap[g]? = some (.cells cs t (0, 0))
theorem At.lt {w : World} {g : Nat} {cs : Array Value} (h : At w g cs) : g < w.heap.size := by
  obtain ⟨t, ht⟩ := h
  exact (Array.getElem?_eq_some_iff.1 ht).1
theorem At.new (w : World) (cs : Array Value) (t : TypeId) : At (w.alloc (.cells cs t)) w.heap.size cs := ⟨t, heap_alloc_new w _⟩
theorem At.alloc {w : World} {g : Nat} {cs : Array Value} (h : At w g cs) (o : Obj) : At (w.alloc o) g cs := by
  have hl := h.lt
  obtain ⟨t, ht⟩ := h
  exact ⟨t, (Below.heap_alloc w o g hl).trans ht⟩
theorem At.below {w w' : World} {k g : Nat} {cs : Array Value} (h : At w g cs) (hb : Below k w w') (hg : g < k) : At w' g cs := by
  obtain ⟨t, ht⟩ := h
  exact ⟨t, (hb.block g hg).trans ht⟩
theorem At.cell {w : World} {g : Nat} {cs : Array Value} (h : At w g cs) (i : Nat) : w.cell? ⟨g, i, none⟩ = cs[i]? := by
  obtain ⟨t, ht⟩ := h
  exact cell_of_row w g i cs t (0, 0) ht
end Go.Proofs.YthdpipllighegaaDoor.RotG
