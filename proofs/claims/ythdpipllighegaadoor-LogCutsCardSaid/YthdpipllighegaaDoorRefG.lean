/- The contracts of the document's Four and Long once more, with the bytes named. -/
import Derived.Test.YthdpipllighegaaDoorRotG
import Derived.Test.YthdpipllighegaaDoorRefCJ2
namespace Go.Proofs.YthdpipllighegaaDoor.RotG
set_option maxRecDepth 100000
open Go.RowKit RotM RotC RotD RotN

theorem reffourB (b0 b1 b2 b3 : Int) (r0 : B b0) (r1 : B b1) (r2 : B b2) (r3 : B b3) (a : Int) (ha : four4 b0 b1 b2 b3 = a) (w : World) :
    Calls Tryd.prog 31 #[.int .u32 a] w fun e w' => e = .returned (.agg #[.int .u8 b0, .int .u8 b1, .int .u8 b2, .int .u8 b3]) ∧ Below w.heap.size w w' := by
  subst ha
  refine (reffour _ (four4_range r0 r1 r2 r3) w).mono fun e w' ⟨he, hw⟩ => ⟨?_, ?_⟩
  · rw [he, fourV_at r1 r2 r3]
  · subst hw
    go_grown
theorem reflongB (b0 b1 b2 b3 c0 c1 c2 c3 : Int) (r0 : B b0) (r1 : B b1) (r2 : B b2) (r3 : B b3) (s0 : B c0) (s1 : B c1) (s2 : B c2) (s3 : B c3) (a : Int) (ha : 4294967296 * four4 b0 b1 b2 b3 + four4 c0 c1 c2 c3 = a) (w : World) :
    Calls Tryd.prog 37 #[.int .u64 a] w fun e w' => e = .returned (.agg #[.int .u8 b0, .int .u8 b1, .int .u8 b2, .int .u8 b3, .int .u8 c0, .int .u8 c1, .int .u8 c2, .int .u8 c3]) ∧ Below w.heap.size w w' := by
  have h1 := four4_range r0 r1 r2 r3
  have h2 := four4_range s0 s1 s2 s3
  refine (reflong a (by omega) w).mono fun e w' ⟨he, hw⟩ => ⟨?_, hw⟩
  rw [he, longV_at r1 r2 r3 s0 s1 s2 s3 a ha]
end Go.Proofs.YthdpipllighegaaDoor.RotG
