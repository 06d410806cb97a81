/-
  No cell of these rows narrows 'for every input' (looked for: loops, veiled, ifaces, maps, wideKeys, modest, calm, conditions, laid).
  DERIVED. THE GIVEN ROWS OF THIS SEAT. 5 by the template 'for every input the law returns true; each argument reads behind the call as it read before'; 0 by the template 'total and deterministic' (their statements: YtffefbhpndjdlaaTotals.lean).
  GIVEN WITH THE SEED: the statements are not yours to turn. If you find one false, say at which input.
  Laid BY PROGRAM, IN A SANDBOX (cutbox-rows.mjs): the forced cells as the released guide's own fill.sh prints them over the translation f1d18a5d2eba644f… (all of the seat's roots in one cut). By AI agents, Wed Nov 11 2026. No macro, syntax, notation, axiom, sorry.
-/
import Derived.Test.YtffefbhpndjdlaaChecked
import GoSem.Claim
import GoSem.ClaimJoined
import GoSem.ClaimMapViews
import Derived.JoinedTies
import Derived.KernelRfl
namespace Go.Proofs.Ytffefbhpndjdlaa
/- THE CELL 'sum', in the pinned program and in every row, IS THE sha256 OF THE DUMP (.gsa) THAT YtffefbhpndjdlaaProg.lean LOADS. Nothing in Lean hashes anything: it is a label: what it is worth is what the hold of that sum in a sandbox is worth. -/
noncomputable def Try.pinned : Pinned := { name := "ytffefbhpndjdlaa", sum := "f1d18a5d2eba644f2b1c93b39a73da4afda51f5cd33d510ddb017bda2e7afa25", checked := Try.checked }
namespace Rows
def none {H : Type} : Left H := { results := [], args := [] }

/-- 'anabranchlaw07.RegTells': WHATEVER THE INPUT: true; the input reads as it did. -/
def regTellsSpec : ChangeSpec := { name := "regTells", fn := fun _ => fun
  | [d1, d2, d3, d4] => { results := [.lit (.bool true)], args := [d1, d2, d3, d4] }
  | _ => none }
def regTellsRow : OpenClaim := { program := "ytffefbhpndjdlaa", sum := "f1d18a5d2eba644f2b1c93b39a73da4afda51f5cd33d510ddb017bda2e7afa25", func := "anabranch/anabranchlaw07.RegTells", spec := "regTells", unfollowed := true, recurses := true, apart := false }
def RegTellsSaid : Prop := regTellsRow.holds Try.pinned (OpenSpec.ofChange regTellsSpec)

/-- ITS FALSE NEIGHBOUR: 'it returns false'. Refute it at one input. -/
def regTellsWrong : ChangeSpec := { name := "regTells", fn := fun _ => fun
  | [d1, d2, d3, d4] => { results := [.lit (.bool false)], args := [d1, d2, d3, d4] }
  | _ => none }
def RegTellsWrongFalsely : Prop := regTellsRow.holds Try.pinned (OpenSpec.ofChange regTellsWrong)

/-- 'anabranchlaw07.RegMerges': WHATEVER THE INPUT: true; the input reads as it did. -/
def regMergesSpec : ChangeSpec := { name := "regMerges", fn := fun _ => fun
  | [d1, d2, d3, d4] => { results := [.lit (.bool true)], args := [d1, d2, d3, d4] }
  | _ => none }
def regMergesRow : OpenClaim := { program := "ytffefbhpndjdlaa", sum := "f1d18a5d2eba644f2b1c93b39a73da4afda51f5cd33d510ddb017bda2e7afa25", func := "anabranch/anabranchlaw07.RegMerges", spec := "regMerges", unfollowed := true, recurses := true, apart := false }
def RegMergesSaid : Prop := regMergesRow.holds Try.pinned (OpenSpec.ofChange regMergesSpec)

/-- ITS FALSE NEIGHBOUR: 'it returns false'. Refute it at one input. -/
def regMergesWrong : ChangeSpec := { name := "regMerges", fn := fun _ => fun
  | [d1, d2, d3, d4] => { results := [.lit (.bool false)], args := [d1, d2, d3, d4] }
  | _ => none }
def RegMergesWrongFalsely : Prop := regMergesRow.holds Try.pinned (OpenSpec.ofChange regMergesWrong)

/-- 'anabranchlaw07.RegNewer': WHATEVER THE INPUT: true; the input reads as it did. -/
def regNewerSpec : ChangeSpec := { name := "regNewer", fn := fun _ => fun
  | [d1, d2, d3] => { results := [.lit (.bool true)], args := [d1, d2, d3] }
  | _ => none }
def regNewerRow : OpenClaim := { program := "ytffefbhpndjdlaa", sum := "f1d18a5d2eba644f2b1c93b39a73da4afda51f5cd33d510ddb017bda2e7afa25", func := "anabranch/anabranchlaw07.RegNewer", spec := "regNewer", unfollowed := true, recurses := true, apart := false }
def RegNewerSaid : Prop := regNewerRow.holds Try.pinned (OpenSpec.ofChange regNewerSpec)

/-- ITS FALSE NEIGHBOUR: 'it returns false'. Refute it at one input. -/
def regNewerWrong : ChangeSpec := { name := "regNewer", fn := fun _ => fun
  | [d1, d2, d3] => { results := [.lit (.bool false)], args := [d1, d2, d3] }
  | _ => none }
def RegNewerWrongFalsely : Prop := regNewerRow.holds Try.pinned (OpenSpec.ofChange regNewerWrong)

/-- 'anabranchlaw07.RegPuts': WHATEVER THE INPUT: true; the input reads as it did. -/
def regPutsSpec : ChangeSpec := { name := "regPuts", fn := fun _ => fun
  | [d1, d2, d3] => { results := [.lit (.bool true)], args := [d1, d2, d3] }
  | _ => none }
def regPutsRow : OpenClaim := { program := "ytffefbhpndjdlaa", sum := "f1d18a5d2eba644f2b1c93b39a73da4afda51f5cd33d510ddb017bda2e7afa25", func := "anabranch/anabranchlaw07.RegPuts", spec := "regPuts", unfollowed := true, recurses := true, apart := false }
def RegPutsSaid : Prop := regPutsRow.holds Try.pinned (OpenSpec.ofChange regPutsSpec)

/-- ITS FALSE NEIGHBOUR: 'it returns false'. Refute it at one input. -/
def regPutsWrong : ChangeSpec := { name := "regPuts", fn := fun _ => fun
  | [d1, d2, d3] => { results := [.lit (.bool false)], args := [d1, d2, d3] }
  | _ => none }
def RegPutsWrongFalsely : Prop := regPutsRow.holds Try.pinned (OpenSpec.ofChange regPutsWrong)

/-- 'anabranchlaw07.RegOld': WHATEVER THE INPUT: true; the input reads as it did. -/
def regOldSpec : ChangeSpec := { name := "regOld", fn := fun _ => fun
  | [d1, d2, d3] => { results := [.lit (.bool true)], args := [d1, d2, d3] }
  | _ => none }
def regOldRow : OpenClaim := { program := "ytffefbhpndjdlaa", sum := "f1d18a5d2eba644f2b1c93b39a73da4afda51f5cd33d510ddb017bda2e7afa25", func := "anabranch/anabranchlaw07.RegOld", spec := "regOld", unfollowed := true, recurses := true, apart := false }
def RegOldSaid : Prop := regOldRow.holds Try.pinned (OpenSpec.ofChange regOldSpec)

/-- ITS FALSE NEIGHBOUR: 'it returns false'. Refute it at one input. -/
def regOldWrong : ChangeSpec := { name := "regOld", fn := fun _ => fun
  | [d1, d2, d3] => { results := [.lit (.bool false)], args := [d1, d2, d3] }
  | _ => none }
def RegOldWrongFalsely : Prop := regOldRow.holds Try.pinned (OpenSpec.ofChange regOldWrong)

/- THE SECOND FORM. 'bulk': how many values and letters a reading holds, each counted each time it is reached (what is shared counts as often as it is met; a slice's spare places count too). A statement '..UptoSaid' is the law's where the arguments, and the package variables that the reading takes, are together of bulk at most 1048576: NARROWER than '..Said'. Prove '..Said' where nothing that the law and all that it calls make is longer than what came in: it says more and counts as full. Else prove '..UptoSaid'. A law counts once. -/
mutual
def uptoBulk {H : Type} : DataW H → Nat
  | .lit (.string bytes) => bytes.length + 1
  | .lit _ => 1
  | .nil => 1
  | .ptr d => uptoBulk d + 1
  | .slice elems spare => uptoBulkAll elems + uptoBulkAll spare + 1
  | .agg parts => uptoBulkAll parts + 1
  | .iface _ d => uptoBulk d + 1
  | .map entries => uptoBulkEntries entries + 1
  | .held _ => 1
def uptoBulkAll {H : Type} : List (DataW H) → Nat
  | [] => 0
  | d :: r => uptoBulk d + uptoBulkAll r
def uptoBulkEntries {H : Type} : List (Lit × DataW H) → Nat
  | [] => 0
  | x :: r => uptoBulkEntry x + uptoBulkEntries r
def uptoBulkEntry {H : Type} : Lit × DataW H → Nat
  | (.string bytes, d) => bytes.length + uptoBulk d + 1
  | (_, d) => uptoBulk d + 1
 end
def uptoSmall : (H : Type) → List (DataW H) → Bool := fun _ ds => decide (uptoBulkAll ds ≤ 1048576)
def OpenSpec.upto (s : _root_.Go.ChangeSpec) : _root_.Go.OpenSpec := { _root_.Go.OpenSpec.ofChange s with cond := some uptoSmall }

/-- 'anabranchlaw07.RegTells', WHERE WHAT IT READS IS OF BULK AT MOST 1048576: true; the input reads as it did. -/
def regTellsUptoRow : OpenClaim := { program := "ytffefbhpndjdlaa", sum := "f1d18a5d2eba644f2b1c93b39a73da4afda51f5cd33d510ddb017bda2e7afa25", func := "anabranch/anabranchlaw07.RegTells", spec := "regTells", unfollowed := true, recurses := true, apart := false, narrowed := true }
def RegTellsUptoSaid : Prop := regTellsUptoRow.holds Try.pinned (OpenSpec.upto regTellsSpec)

/-- 'anabranchlaw07.RegMerges', WHERE WHAT IT READS IS OF BULK AT MOST 1048576: true; the input reads as it did. -/
def regMergesUptoRow : OpenClaim := { program := "ytffefbhpndjdlaa", sum := "f1d18a5d2eba644f2b1c93b39a73da4afda51f5cd33d510ddb017bda2e7afa25", func := "anabranch/anabranchlaw07.RegMerges", spec := "regMerges", unfollowed := true, recurses := true, apart := false, narrowed := true }
def RegMergesUptoSaid : Prop := regMergesUptoRow.holds Try.pinned (OpenSpec.upto regMergesSpec)

/-- 'anabranchlaw07.RegNewer', WHERE WHAT IT READS IS OF BULK AT MOST 1048576: true; the input reads as it did. -/
def regNewerUptoRow : OpenClaim := { program := "ytffefbhpndjdlaa", sum := "f1d18a5d2eba644f2b1c93b39a73da4afda51f5cd33d510ddb017bda2e7afa25", func := "anabranch/anabranchlaw07.RegNewer", spec := "regNewer", unfollowed := true, recurses := true, apart := false, narrowed := true }
def RegNewerUptoSaid : Prop := regNewerUptoRow.holds Try.pinned (OpenSpec.upto regNewerSpec)

/-- 'anabranchlaw07.RegPuts', WHERE WHAT IT READS IS OF BULK AT MOST 1048576: true; the input reads as it did. -/
def regPutsUptoRow : OpenClaim := { program := "ytffefbhpndjdlaa", sum := "f1d18a5d2eba644f2b1c93b39a73da4afda51f5cd33d510ddb017bda2e7afa25", func := "anabranch/anabranchlaw07.RegPuts", spec := "regPuts", unfollowed := true, recurses := true, apart := false, narrowed := true }
def RegPutsUptoSaid : Prop := regPutsUptoRow.holds Try.pinned (OpenSpec.upto regPutsSpec)

/-- 'anabranchlaw07.RegOld', WHERE WHAT IT READS IS OF BULK AT MOST 1048576: true; the input reads as it did. -/
def regOldUptoRow : OpenClaim := { program := "ytffefbhpndjdlaa", sum := "f1d18a5d2eba644f2b1c93b39a73da4afda51f5cd33d510ddb017bda2e7afa25", func := "anabranch/anabranchlaw07.RegOld", spec := "regOld", unfollowed := true, recurses := true, apart := false, narrowed := true }
def RegOldUptoSaid : Prop := regOldUptoRow.holds Try.pinned (OpenSpec.upto regOldSpec)

end Rows
end Go.Proofs.Ytffefbhpndjdlaa
