/- The contracts of rot.Right, rot.Pick and rot.Most once more, at numbers that are given otherwise than as words. -/
import Derived.Test.YtfndeemngimjcaaDoorRotD
import Derived.Test.YtfndeemngimjcaaDoorRotN
namespace Go.Proofs.YtfndeemngimjcaaDoor.RotF
open Go.RowKit RotM RotN

/-- A fact laid aside, so that the walk does not rewrite by it. -/
theorem aside {p : Prop} (h : p) : Hid p := h

theorem pickI (i j k r : Int) (p a b : BitVec 32) (hi : u p = i) (hj : u a = j) (hk : u b = k) (hr : u (pickW p a b) = r) (w : World) :
    Calls Tryd.prog 34 #[.int .u32 i, .int .u32 j, .int .u32 k] w fun e w' => e = .returned (.int .u32 r) ∧ w = w' := by
  subst hi hj hk hr
  exact RotC.pick p a b w
theorem mostI (i j k r : Int) (a b c : BitVec 32) (hi : u a = i) (hj : u b = j) (hk : u c = k) (hr : u (mostW a b c) = r) (w : World) :
    Calls Tryd.prog 35 #[.int .u32 i, .int .u32 j, .int .u32 k] w fun e w' => e = .returned (.int .u32 r) ∧ w = w' := by
  subst hi hj hk hr
  exact RotC.most a b c w
theorem rightI (i n r : Int) (x : BitVec 32) (hi : u x = i) (hr : u (rotr x (n % 32).toNat) = r) (w : World) :
    Calls Tryd.prog 32 #[.int .u32 i, .int .i64 n] w fun e w' => e = .returned (.int .u32 r) ∧ w = w' := by
  subst hi hr
  exact RotC.right x n w
end Go.Proofs.YtfndeemngimjcaaDoor.RotF
