/- Which bytes are no commit, by the numbers that they begin with, by what stands behind these. No condition. | What ops.gets and its functions, and ops.Get, return: contracts. | What ops.Get returns: contracts. | The project's reader of package commit: in memory, and what its num, id and op return, or panic with: contracts. -/
import Derived.Test.YteojkfbnenfmkaaDoorRefEJ10
import Derived.Test.YteojkfbnenfmkaaDoorOpsP
import Derived.Test.YteojkfbnenfmkaaDoorEncEJ4
import Derived.Test.YteojkfbnenfmkaaDoorEncMJ6
import Derived.WalkLawsBesides
import Derived.Laws.CopyRow
namespace Go.Proofs.YteojkfbnenfmkaaDoor.CmQ
set_option maxRecDepth 100000
open Byt EncM EncC EncE EncT OpsM IdM CmM CmG

/-- The four numbers, one behind the other. -/
structure Four (bs l1 l2 l3 l4 : List Int) (a b g n ka kb kg kn : Nat) : Prop where
  h1 : getL bs = (a, ka)
  e1 : bs.drop ka = l1
  h2 : getL l1 = (b, kb)
  e2 : l1.drop kb = l2
  h3 : getL l2 = (g, kg)
  e3 : l2.drop kg = l3
  h4 : getL l3 = (n, kn)
  e4 : l3.drop kn = l4
section
variable {bs l1 l2 l3 l4 : List Int} {a b g n ka kb kg kn : Nat} (F : Four bs l1 l2 l3 l4 a b g n ka kb kg kn) (hB : ∀ x ∈ bs, B x)
include F
include hB
end
end Go.Proofs.YteojkfbnenfmkaaDoor.CmQ
namespace Go.Proofs.YteojkfbnenfmkaaDoor.OpsG
set_option maxRecDepth 100000
open Go Go.RowKit Go.Sort Byt OpsM OpsK OpsW OpsC EncM EncC EncG EncE

/-- What a function that tells the rest of an operation answers. -/
def GOut (q : Option (Opn × List Int)) (w : World) (e : Ending) (w' : World) : Prop :=
  Below w.heap.size w w' ∧ match q with
    | none => ∃ o A n c, e = .returned (.tuple #[.agg (opc o), .slice A n c, .bool false])
    | some (o, r) => ∃ A c, e = .returned (.tuple #[.agg (opc o), .slice A r.length c, .bool true]) ∧ Sl w' A c r
theorem GOut.some {w w' : World} {e : Ending} {o : Opn} {r : List Int} (A : Option Addr) (c : Nat) (h : e = .returned (.tuple #[.agg (opc o), .slice A r.length c, .bool true])) (hS : Sl w' A c r) (hb : Below w.heap.size w w') : GOut (some (o, r)) w e w' := ⟨hb, A, c, h, hS⟩



end Go.Proofs.YteojkfbnenfmkaaDoor.OpsG
namespace Go.Proofs.YteojkfbnenfmkaaDoor.OpsH
set_option maxRecDepth 100000
open Go Go.RowKit Go.Sort Byt OpsM OpsK OpsW OpsC EncM EncC EncG EncE OpsG

/-- What a function that gets an operation answers. -/
def GetOut (q : Option (Opn × List Int)) (w : World) (e : Ending) (w' : World) : Prop :=
  Below w.heap.size w w' ∧ match q with
    | none => e = .returned (.tuple #[.agg (opc noOp), .slice none 0 0, .int .i64 2])
    | some (o, r) => ∃ A c, e = .returned (.tuple #[.agg (opc o), .slice A r.length c, .int .i64 0]) ∧ Sl w' A c r
theorem GetOut.some {q : Option (Opn × List Int)} {w w' : World} {e : Ending} {o : Opn} {r : List Int} (hq : q = some (o, r)) (A : Option Addr) (c : Nat) (h : e = .returned (.tuple #[.agg (opc o), .slice A r.length c, .int .i64 0])) (hS : Sl w' A c r) (hb : Below w.heap.size w w') : GetOut q w e w' := by subst hq; exact ⟨hb, A, c, h, hS⟩




end Go.Proofs.YteojkfbnenfmkaaDoor.OpsH
namespace Go.Proofs.YteojkfbnenfmkaaDoor.CmE
set_option maxRecDepth 100000
open Go Go.Sort Go.RowKit Byt EncM EncC IdM IdW IdB OpsM OpsW CmM StW CmW CmD CmG

/-- Bytes that are left, in a slice. -/
structure Pd where
  a : Option Addr
  k : Nat
  l : List Int
end Go.Proofs.YteojkfbnenfmkaaDoor.CmE
