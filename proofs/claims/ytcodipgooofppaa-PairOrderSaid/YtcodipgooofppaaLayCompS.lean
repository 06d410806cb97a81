/- A contract of the library's, laid at this program: slices.Compact at texts. -/
import Derived.Shelf.SlLaysN
import Derived.Test.YtcodipgooofppaaProg
namespace Go.Proofs
open Go.Shelf
def Try.compStrs_ren : Go.Shelf.Ren := ⟨fun | 44 => 31 | n => n, fun | 0 => 0 | 3 => 3 | 4 => 4 | 25 => 34 | 26 => 9 | n => n, fun | n => n⟩
theorem Try.compStrs : Go.Proofs.SlLaysN.n44 Try.prog Try.compStrs_ren := {
  mixed := by kernel_rfl
  f44 := ⟨Try.f31.name, by decide, Try.func31.trans (congrArg some (by kernel_rfl))⟩
  t0 := Try.underlying0
  a0 := Try.isAgg0
  z0 := Try.sizeOf0
  v0 := Try.zeroValue0
  t3 := Try.underlying3
  a3 := Try.isAgg3
  z3 := Try.sizeOf3
  v3 := Try.zeroValue3
  t4 := Try.underlying4
  a4 := Try.isAgg4
  z4 := Try.sizeOf4
  v4 := Try.zeroValue4
  t25 := Try.underlying34
  a25 := Try.isAgg34
  z25 := Try.sizeOf34
  v25 := Try.zeroValue34
  t26 := Try.underlying9
  a26 := Try.isAgg9
  z26 := Try.sizeOf9
  v26 := Try.zeroValue9
  i26 := by kernel_rfl }
end Go.Proofs
