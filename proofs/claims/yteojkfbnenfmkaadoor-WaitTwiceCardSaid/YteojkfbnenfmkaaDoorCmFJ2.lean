/- What the project's reader of package commit returns, or panics with, as it takes a commit: a contract. | What the project's Get of package commit returns: a contract. -/
import Derived.Test.YteojkfbnenfmkaaDoorCmQJ4
import Derived.Test.YteojkfbnenfmkaaDoorCmV
import Derived.Test.YteojkfbnenfmkaaDoorCmRJ6
import Derived.Defers
import Derived.Recover
namespace Go.Proofs.YteojkfbnenfmkaaDoor.CmF
set_option maxRecDepth 100000
open Go Go.Sort Go.RowKit Byt EncM EncC IdM IdW IdB OpsM OpsW CmM StW CmW CmD CmG CmQ CmE

theorem results_c {fn : Func} {p : Tmp} (h : fn.results = #[.cell p 29]) (tmps : Array Value) (w : World) (g : Nat) (v : Cv)
    (hp : tmps.getD p undef = .pointer (some ⟨g, 0, none⟩)) (hg : Cel.Box CE w g v) : (results fn tmps).run Tryd.prog w = .ok (.agg (cc v)) w := by
  obtain ⟨t, ht⟩ := hg
  have hp' : tmps[p]?.getD undef = .pointer (some ⟨g, 0, none⟩) := by simpa using hp
  have hl := run_loadVar_row w g t 29 (CE.enc v).toArray (0, 0) _ ht CE.under CE.row (CE.size' v)
  simp [results, h, hp', asAddr, hl]
  rfl
/-- What a round of the loop over ids keeps. -/
structure Inv (na nb ng : Int) (l4 : List Int) (k : Nat) (rd : Pd) (cv : Cv) : Prop where
  com : cv.c = ⟨na, nb, ng, cv.c.ps, noO⟩
  nil : (Value.slice cv.a cv.c.ps.length cv.k = .slice none 0 0) ∨ 0 < cv.c.ps.length
  ids : idsL k l4 = some (cv.c.ps, rd.l)
theorem Inv.length {na nb ng : Int} {l4 : List Int} {k : Nat} {rd : Pd} {cv : Cv} (h : Inv na nb ng l4 k rd cv) : cv.c.ps.length = k ∧ rd.l.length ≤ l4.length := by
  obtain ⟨l1, l2⟩ := idsL_len k h.ids
  exact ⟨l1, by omega⟩
end Go.Proofs.YteojkfbnenfmkaaDoor.CmF
namespace Go.Proofs.YteojkfbnenfmkaaDoor.CmI
set_option maxRecDepth 100000
open Go Go.Sort Go.RowKit Byt EncM EncC IdM IdW IdB OpsM OpsW CmM StW CmW CmD CmG CmE CmF CmY

end Go.Proofs.YteojkfbnenfmkaaDoor.CmI
