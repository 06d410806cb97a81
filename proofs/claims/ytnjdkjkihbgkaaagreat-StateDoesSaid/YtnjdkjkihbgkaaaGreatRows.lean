/-
  No cell of these rows narrows 'for every input' (looked for: loops, veiled, ifaces, maps, wideKeys, modest, calm, conditions, laid).
  DERIVED. THE GIVEN ROWS OF THIS SEAT. 3 by the template 'for every input the law returns true; each argument reads behind the call as it read before'; 0 by the template 'total and deterministic' (their statements: YtnjdkjkihbgkaaaGreatTotals.lean).
  GIVEN WITH THE SEED: the statements are not yours to turn. If you find one false, say at which input.
  Laid BY PROGRAM, IN A SANDBOX (cutbox-rows.mjs): the forced cells as the released guide's own fill.sh prints them over the translation 7d76a39591e4ace9… (all of the seat's roots in one cut). By AI agents, Wed Nov 11 2026. No macro, syntax, notation, axiom, sorry.
-/
import Derived.Test.YtnjdkjkihbgkaaaGreatChecked
import GoSem.Claim
import GoSem.ClaimJoined
import GoSem.ClaimMapViews
import Derived.JoinedTies
import Derived.KernelRfl
namespace Go.Proofs.YtnjdkjkihbgkaaaGreat
/- THE CELL 'sum', in the pinned program and in every row, IS THE sha256 OF THE DUMP (.gsa) THAT YtnjdkjkihbgkaaaGreatProg.lean LOADS. Nothing in Lean hashes anything: it is a label: what it is worth is what the hold of that sum in a sandbox is worth. -/
noncomputable def Tryz.pinned : Pinned := { name := "ytnjdkjkihbgkaaagreat", sum := "7d76a39591e4ace92bd97f3d0e3199c17eea6038b3fc2c6f71d6ad339989ed35", checked := Tryz.checked }
namespace Rows
def none {H : Type} : Left H := { results := [], args := [] }

/-- 'anabranchlaw09.StateDoes': WHATEVER THE INPUT: true; the input reads as it did. -/
def stateDoesSpec : ChangeSpec := { name := "stateDoes", fn := fun _ => fun
  | [d1, d2, d3, d4] => { results := [.lit (.bool true)], args := [d1, d2, d3, d4] }
  | _ => none }
def stateDoesRow : OpenClaim := { program := "ytnjdkjkihbgkaaagreat", sum := "7d76a39591e4ace92bd97f3d0e3199c17eea6038b3fc2c6f71d6ad339989ed35", func := "anabranch/anabranchlaw09.StateDoes", spec := "stateDoes", unfollowed := true, recurses := true, plainKeys := false, apart := false }
def StateDoesSaid : Prop := stateDoesRow.holds Tryz.pinned (OpenSpec.ofChange stateDoesSpec)

/-- ITS FALSE NEIGHBOUR: 'it returns false'. Refute it at one input. -/
def stateDoesWrong : ChangeSpec := { name := "stateDoes", fn := fun _ => fun
  | [d1, d2, d3, d4] => { results := [.lit (.bool false)], args := [d1, d2, d3, d4] }
  | _ => none }
def StateDoesWrongFalsely : Prop := stateDoesRow.holds Tryz.pinned (OpenSpec.ofChange stateDoesWrong)

/-- 'anabranchlaw09.StateMerges': WHATEVER THE INPUT: true; the input reads as it did. -/
def stateMergesSpec : ChangeSpec := { name := "stateMerges", fn := fun _ => fun
  | [d1, d2, d3] => { results := [.lit (.bool true)], args := [d1, d2, d3] }
  | _ => none }
def stateMergesRow : OpenClaim := { program := "ytnjdkjkihbgkaaagreat", sum := "7d76a39591e4ace92bd97f3d0e3199c17eea6038b3fc2c6f71d6ad339989ed35", func := "anabranch/anabranchlaw09.StateMerges", spec := "stateMerges", unfollowed := true, recurses := true, plainKeys := false, apart := false }
def StateMergesSaid : Prop := stateMergesRow.holds Tryz.pinned (OpenSpec.ofChange stateMergesSpec)

/-- ITS FALSE NEIGHBOUR: 'it returns false'. Refute it at one input. -/
def stateMergesWrong : ChangeSpec := { name := "stateMerges", fn := fun _ => fun
  | [d1, d2, d3] => { results := [.lit (.bool false)], args := [d1, d2, d3] }
  | _ => none }
def StateMergesWrongFalsely : Prop := stateMergesRow.holds Tryz.pinned (OpenSpec.ofChange stateMergesWrong)

/-- 'anabranchlaw09.StateKeeps': WHATEVER THE INPUT: true; the input reads as it did. -/
def stateKeepsSpec : ChangeSpec := { name := "stateKeeps", fn := fun _ => fun
  | [d1, d2, d3, d4, d5] => { results := [.lit (.bool true)], args := [d1, d2, d3, d4, d5] }
  | _ => none }
def stateKeepsRow : OpenClaim := { program := "ytnjdkjkihbgkaaagreat", sum := "7d76a39591e4ace92bd97f3d0e3199c17eea6038b3fc2c6f71d6ad339989ed35", func := "anabranch/anabranchlaw09.StateKeeps", spec := "stateKeeps", unfollowed := true, recurses := true, plainKeys := false, apart := false }
def StateKeepsSaid : Prop := stateKeepsRow.holds Tryz.pinned (OpenSpec.ofChange stateKeepsSpec)

/-- ITS FALSE NEIGHBOUR: 'it returns false'. Refute it at one input. -/
def stateKeepsWrong : ChangeSpec := { name := "stateKeeps", fn := fun _ => fun
  | [d1, d2, d3, d4, d5] => { results := [.lit (.bool false)], args := [d1, d2, d3, d4, d5] }
  | _ => none }
def StateKeepsWrongFalsely : Prop := stateKeepsRow.holds Tryz.pinned (OpenSpec.ofChange stateKeepsWrong)

/- THE SECOND FORM. 'bulk': how many values and letters a reading holds, each counted each time it is reached (what is shared counts as often as it is met; a slice's spare places count too). A statement '..UptoSaid' is the law's where the arguments, and the package variables that the reading takes, are together of bulk at most 1048576: NARROWER than '..Said'. Prove '..Said' where nothing that the law and all that it calls make is longer than what came in: it says more and counts as full. Else prove '..UptoSaid'. A law counts once. -/
mutual
def uptoBulk {H : Type} : DataW H → Nat
  | .lit (.string bytes) => bytes.length + 1
  | .lit _ => 1
  | .nil => 1
  | .ptr d => uptoBulk d + 1
  | .slice elems spare => uptoBulkAll elems + uptoBulkAll spare + 1
  | .agg parts => uptoBulkAll parts + 1
  | .iface _ d => uptoBulk d + 1
  | .map entries => uptoBulkEntries entries + 1
  | .held _ => 1
def uptoBulkAll {H : Type} : List (DataW H) → Nat
  | [] => 0
  | d :: r => uptoBulk d + uptoBulkAll r
def uptoBulkEntries {H : Type} : List (Lit × DataW H) → Nat
  | [] => 0
  | x :: r => uptoBulkEntry x + uptoBulkEntries r
def uptoBulkEntry {H : Type} : Lit × DataW H → Nat
  | (.string bytes, d) => bytes.length + uptoBulk d + 1
  | (_, d) => uptoBulk d + 1
 end
def uptoSmall : (H : Type) → List (DataW H) → Bool := fun _ ds => decide (uptoBulkAll ds ≤ 1048576)
def OpenSpec.upto (s : _root_.Go.ChangeSpec) : _root_.Go.OpenSpec := { _root_.Go.OpenSpec.ofChange s with cond := some uptoSmall }

/-- 'anabranchlaw09.StateDoes', WHERE WHAT IT READS IS OF BULK AT MOST 1048576: true; the input reads as it did. -/
def stateDoesUptoRow : OpenClaim := { program := "ytnjdkjkihbgkaaagreat", sum := "7d76a39591e4ace92bd97f3d0e3199c17eea6038b3fc2c6f71d6ad339989ed35", func := "anabranch/anabranchlaw09.StateDoes", spec := "stateDoes", unfollowed := true, recurses := true, plainKeys := false, apart := false, narrowed := true }
def StateDoesUptoSaid : Prop := stateDoesUptoRow.holds Tryz.pinned (OpenSpec.upto stateDoesSpec)

/-- 'anabranchlaw09.StateMerges', WHERE WHAT IT READS IS OF BULK AT MOST 1048576: true; the input reads as it did. -/
def stateMergesUptoRow : OpenClaim := { program := "ytnjdkjkihbgkaaagreat", sum := "7d76a39591e4ace92bd97f3d0e3199c17eea6038b3fc2c6f71d6ad339989ed35", func := "anabranch/anabranchlaw09.StateMerges", spec := "stateMerges", unfollowed := true, recurses := true, plainKeys := false, apart := false, narrowed := true }
def StateMergesUptoSaid : Prop := stateMergesUptoRow.holds Tryz.pinned (OpenSpec.upto stateMergesSpec)

/-- 'anabranchlaw09.StateKeeps', WHERE WHAT IT READS IS OF BULK AT MOST 1048576: true; the input reads as it did. -/
def stateKeepsUptoRow : OpenClaim := { program := "ytnjdkjkihbgkaaagreat", sum := "7d76a39591e4ace92bd97f3d0e3199c17eea6038b3fc2c6f71d6ad339989ed35", func := "anabranch/anabranchlaw09.StateKeeps", spec := "stateKeeps", unfollowed := true, recurses := true, plainKeys := false, apart := false, narrowed := true }
def StateKeepsUptoSaid : Prop := stateKeepsUptoRow.holds Tryz.pinned (OpenSpec.upto stateKeepsSpec)

end Rows
end Go.Proofs.YtnjdkjkihbgkaaaGreat
