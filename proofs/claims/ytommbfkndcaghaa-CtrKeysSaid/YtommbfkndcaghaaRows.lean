/-
  No cell of these rows narrows 'for every input' (looked for: loops, veiled, ifaces, maps, wideKeys, modest, calm, conditions, laid).
  DERIVED. THE GIVEN ROWS OF THIS SEAT. 6 by the template 'for every input the law returns true; each argument reads behind the call as it read before'; 0 by the template 'total and deterministic' (their statements: YtommbfkndcaghaaTotals.lean).
  GIVEN WITH THE SEED: the statements are not yours to turn. If you find one false, say at which input.
  Laid BY PROGRAM, IN A SANDBOX (cutbox-rows.mjs): the forced cells as the released guide's own fill.sh prints them over the translation 857261e22926a80c… (all of the seat's roots in one cut). By AI agents, Wed Nov 11 2026. No macro, syntax, notation, axiom, sorry.
-/
import Derived.Test.YtommbfkndcaghaaChecked
import GoSem.Claim
import GoSem.ClaimJoined
import GoSem.ClaimMapViews
import Derived.JoinedTies
import Derived.KernelRfl
namespace Go.Proofs.Ytommbfkndcaghaa
/- THE CELL 'sum', in the pinned program and in every row, IS THE sha256 OF THE DUMP (.gsa) THAT YtommbfkndcaghaaProg.lean LOADS. Nothing in Lean hashes anything: it is a label: what it is worth is what the hold of that sum in a sandbox is worth. -/
noncomputable def Try.pinned : Pinned := { name := "ytommbfkndcaghaa", sum := "857261e22926a80ccf141a90859a8e95dbc51befd2fb8b5a98d70fcd13e6de5c", checked := Try.checked }
namespace Rows
def none {H : Type} : Left H := { results := [], args := [] }

/-- 'anabranchlaw06.CtrTells': WHATEVER THE INPUT: true; the input reads as it did. -/
def ctrTellsSpec : ChangeSpec := { name := "ctrTells", fn := fun _ => fun
  | [d1, d2, d3, d4, d5] => { results := [.lit (.bool true)], args := [d1, d2, d3, d4, d5] }
  | _ => none }
def ctrTellsRow : OpenClaim := { program := "ytommbfkndcaghaa", sum := "857261e22926a80ccf141a90859a8e95dbc51befd2fb8b5a98d70fcd13e6de5c", func := "anabranch/anabranchlaw06.CtrTells", spec := "ctrTells", recurses := true, apart := false }
def CtrTellsSaid : Prop := ctrTellsRow.holds Try.pinned (OpenSpec.ofChange ctrTellsSpec)

/-- ITS FALSE NEIGHBOUR: 'it returns false'. Refute it at one input. -/
def ctrTellsWrong : ChangeSpec := { name := "ctrTells", fn := fun _ => fun
  | [d1, d2, d3, d4, d5] => { results := [.lit (.bool false)], args := [d1, d2, d3, d4, d5] }
  | _ => none }
def CtrTellsWrongFalsely : Prop := ctrTellsRow.holds Try.pinned (OpenSpec.ofChange ctrTellsWrong)

/-- 'anabranchlaw06.CtrIncs': WHATEVER THE INPUT: true; the input reads as it did. -/
def ctrIncsSpec : ChangeSpec := { name := "ctrIncs", fn := fun _ => fun
  | [d1, d2, d3, d4] => { results := [.lit (.bool true)], args := [d1, d2, d3, d4] }
  | _ => none }
def ctrIncsRow : OpenClaim := { program := "ytommbfkndcaghaa", sum := "857261e22926a80ccf141a90859a8e95dbc51befd2fb8b5a98d70fcd13e6de5c", func := "anabranch/anabranchlaw06.CtrIncs", spec := "ctrIncs", recurses := true, apart := false }
def CtrIncsSaid : Prop := ctrIncsRow.holds Try.pinned (OpenSpec.ofChange ctrIncsSpec)

/-- ITS FALSE NEIGHBOUR: 'it returns false'. Refute it at one input. -/
def ctrIncsWrong : ChangeSpec := { name := "ctrIncs", fn := fun _ => fun
  | [d1, d2, d3, d4] => { results := [.lit (.bool false)], args := [d1, d2, d3, d4] }
  | _ => none }
def CtrIncsWrongFalsely : Prop := ctrIncsRow.holds Try.pinned (OpenSpec.ofChange ctrIncsWrong)

/-- 'anabranchlaw06.CtrMerges': WHATEVER THE INPUT: true; the input reads as it did. -/
def ctrMergesSpec : ChangeSpec := { name := "ctrMerges", fn := fun _ => fun
  | [d1, d2, d3, d4, d5, d6] => { results := [.lit (.bool true)], args := [d1, d2, d3, d4, d5, d6] }
  | _ => none }
def ctrMergesRow : OpenClaim := { program := "ytommbfkndcaghaa", sum := "857261e22926a80ccf141a90859a8e95dbc51befd2fb8b5a98d70fcd13e6de5c", func := "anabranch/anabranchlaw06.CtrMerges", spec := "ctrMerges", recurses := true, apart := false }
def CtrMergesSaid : Prop := ctrMergesRow.holds Try.pinned (OpenSpec.ofChange ctrMergesSpec)

/-- ITS FALSE NEIGHBOUR: 'it returns false'. Refute it at one input. -/
def ctrMergesWrong : ChangeSpec := { name := "ctrMerges", fn := fun _ => fun
  | [d1, d2, d3, d4, d5, d6] => { results := [.lit (.bool false)], args := [d1, d2, d3, d4, d5, d6] }
  | _ => none }
def CtrMergesWrongFalsely : Prop := ctrMergesRow.holds Try.pinned (OpenSpec.ofChange ctrMergesWrong)

/-- 'anabranchlaw06.CtrBase': WHATEVER THE INPUT: true; the input reads as it did. -/
def ctrBaseSpec : ChangeSpec := { name := "ctrBase", fn := fun _ => fun
  | [d1, d2, d3, d4] => { results := [.lit (.bool true)], args := [d1, d2, d3, d4] }
  | _ => none }
def ctrBaseRow : OpenClaim := { program := "ytommbfkndcaghaa", sum := "857261e22926a80ccf141a90859a8e95dbc51befd2fb8b5a98d70fcd13e6de5c", func := "anabranch/anabranchlaw06.CtrBase", spec := "ctrBase", recurses := true, apart := false }
def CtrBaseSaid : Prop := ctrBaseRow.holds Try.pinned (OpenSpec.ofChange ctrBaseSpec)

/-- ITS FALSE NEIGHBOUR: 'it returns false'. Refute it at one input. -/
def ctrBaseWrong : ChangeSpec := { name := "ctrBase", fn := fun _ => fun
  | [d1, d2, d3, d4] => { results := [.lit (.bool false)], args := [d1, d2, d3, d4] }
  | _ => none }
def CtrBaseWrongFalsely : Prop := ctrBaseRow.holds Try.pinned (OpenSpec.ofChange ctrBaseWrong)

/-- 'anabranchlaw06.CtrNone': WHATEVER THE INPUT: true; the input reads as it did. -/
def ctrNoneSpec : ChangeSpec := { name := "ctrNone", fn := fun _ => fun
  | [d1, d2] => { results := [.lit (.bool true)], args := [d1, d2] }
  | _ => none }
def ctrNoneRow : OpenClaim := { program := "ytommbfkndcaghaa", sum := "857261e22926a80ccf141a90859a8e95dbc51befd2fb8b5a98d70fcd13e6de5c", func := "anabranch/anabranchlaw06.CtrNone", spec := "ctrNone", recurses := true, apart := false }
def CtrNoneSaid : Prop := ctrNoneRow.holds Try.pinned (OpenSpec.ofChange ctrNoneSpec)

/-- ITS FALSE NEIGHBOUR: 'it returns false'. Refute it at one input. -/
def ctrNoneWrong : ChangeSpec := { name := "ctrNone", fn := fun _ => fun
  | [d1, d2] => { results := [.lit (.bool false)], args := [d1, d2] }
  | _ => none }
def CtrNoneWrongFalsely : Prop := ctrNoneRow.holds Try.pinned (OpenSpec.ofChange ctrNoneWrong)

/-- 'anabranchlaw06.CtrKeys': WHATEVER THE INPUT: true; the input reads as it did. -/
def ctrKeysSpec : ChangeSpec := { name := "ctrKeys", fn := fun _ => fun
  | [d1, d2, d3, d4] => { results := [.lit (.bool true)], args := [d1, d2, d3, d4] }
  | _ => none }
def ctrKeysRow : OpenClaim := { program := "ytommbfkndcaghaa", sum := "857261e22926a80ccf141a90859a8e95dbc51befd2fb8b5a98d70fcd13e6de5c", func := "anabranch/anabranchlaw06.CtrKeys", spec := "ctrKeys", recurses := true, apart := false }
def CtrKeysSaid : Prop := ctrKeysRow.holds Try.pinned (OpenSpec.ofChange ctrKeysSpec)

/-- ITS FALSE NEIGHBOUR: 'it returns false'. Refute it at one input. -/
def ctrKeysWrong : ChangeSpec := { name := "ctrKeys", fn := fun _ => fun
  | [d1, d2, d3, d4] => { results := [.lit (.bool false)], args := [d1, d2, d3, d4] }
  | _ => none }
def CtrKeysWrongFalsely : Prop := ctrKeysRow.holds Try.pinned (OpenSpec.ofChange ctrKeysWrong)

/- THE SECOND FORM. 'bulk': how many values and letters a reading holds, each counted each time it is reached (what is shared counts as often as it is met; a slice's spare places count too). A statement '..UptoSaid' is the law's where the arguments, and the package variables that the reading takes, are together of bulk at most 1048576: NARROWER than '..Said'. Prove '..Said' where nothing that the law and all that it calls make is longer than what came in: it says more and counts as full. Else prove '..UptoSaid'. A law counts once. -/
mutual
def uptoBulk {H : Type} : DataW H → Nat
  | .lit (.string bytes) => bytes.length + 1
  | .lit _ => 1
  | .nil => 1
  | .ptr d => uptoBulk d + 1
  | .slice elems spare => uptoBulkAll elems + uptoBulkAll spare + 1
  | .agg parts => uptoBulkAll parts + 1
  | .iface _ d => uptoBulk d + 1
  | .map entries => uptoBulkEntries entries + 1
  | .held _ => 1
def uptoBulkAll {H : Type} : List (DataW H) → Nat
  | [] => 0
  | d :: r => uptoBulk d + uptoBulkAll r
def uptoBulkEntries {H : Type} : List (Lit × DataW H) → Nat
  | [] => 0
  | x :: r => uptoBulkEntry x + uptoBulkEntries r
def uptoBulkEntry {H : Type} : Lit × DataW H → Nat
  | (.string bytes, d) => bytes.length + uptoBulk d + 1
  | (_, d) => uptoBulk d + 1
 end
def uptoSmall : (H : Type) → List (DataW H) → Bool := fun _ ds => decide (uptoBulkAll ds ≤ 1048576)
def OpenSpec.upto (s : _root_.Go.ChangeSpec) : _root_.Go.OpenSpec := { _root_.Go.OpenSpec.ofChange s with cond := some uptoSmall }

/-- 'anabranchlaw06.CtrTells', WHERE WHAT IT READS IS OF BULK AT MOST 1048576: true; the input reads as it did. -/
def ctrTellsUptoRow : OpenClaim := { program := "ytommbfkndcaghaa", sum := "857261e22926a80ccf141a90859a8e95dbc51befd2fb8b5a98d70fcd13e6de5c", func := "anabranch/anabranchlaw06.CtrTells", spec := "ctrTells", recurses := true, apart := false, narrowed := true }
def CtrTellsUptoSaid : Prop := ctrTellsUptoRow.holds Try.pinned (OpenSpec.upto ctrTellsSpec)

/-- 'anabranchlaw06.CtrIncs', WHERE WHAT IT READS IS OF BULK AT MOST 1048576: true; the input reads as it did. -/
def ctrIncsUptoRow : OpenClaim := { program := "ytommbfkndcaghaa", sum := "857261e22926a80ccf141a90859a8e95dbc51befd2fb8b5a98d70fcd13e6de5c", func := "anabranch/anabranchlaw06.CtrIncs", spec := "ctrIncs", recurses := true, apart := false, narrowed := true }
def CtrIncsUptoSaid : Prop := ctrIncsUptoRow.holds Try.pinned (OpenSpec.upto ctrIncsSpec)

/-- 'anabranchlaw06.CtrMerges', WHERE WHAT IT READS IS OF BULK AT MOST 1048576: true; the input reads as it did. -/
def ctrMergesUptoRow : OpenClaim := { program := "ytommbfkndcaghaa", sum := "857261e22926a80ccf141a90859a8e95dbc51befd2fb8b5a98d70fcd13e6de5c", func := "anabranch/anabranchlaw06.CtrMerges", spec := "ctrMerges", recurses := true, apart := false, narrowed := true }
def CtrMergesUptoSaid : Prop := ctrMergesUptoRow.holds Try.pinned (OpenSpec.upto ctrMergesSpec)

/-- 'anabranchlaw06.CtrBase', WHERE WHAT IT READS IS OF BULK AT MOST 1048576: true; the input reads as it did. -/
def ctrBaseUptoRow : OpenClaim := { program := "ytommbfkndcaghaa", sum := "857261e22926a80ccf141a90859a8e95dbc51befd2fb8b5a98d70fcd13e6de5c", func := "anabranch/anabranchlaw06.CtrBase", spec := "ctrBase", recurses := true, apart := false, narrowed := true }
def CtrBaseUptoSaid : Prop := ctrBaseUptoRow.holds Try.pinned (OpenSpec.upto ctrBaseSpec)

/-- 'anabranchlaw06.CtrNone', WHERE WHAT IT READS IS OF BULK AT MOST 1048576: true; the input reads as it did. -/
def ctrNoneUptoRow : OpenClaim := { program := "ytommbfkndcaghaa", sum := "857261e22926a80ccf141a90859a8e95dbc51befd2fb8b5a98d70fcd13e6de5c", func := "anabranch/anabranchlaw06.CtrNone", spec := "ctrNone", recurses := true, apart := false, narrowed := true }
def CtrNoneUptoSaid : Prop := ctrNoneUptoRow.holds Try.pinned (OpenSpec.upto ctrNoneSpec)

/-- 'anabranchlaw06.CtrKeys', WHERE WHAT IT READS IS OF BULK AT MOST 1048576: true; the input reads as it did. -/
def ctrKeysUptoRow : OpenClaim := { program := "ytommbfkndcaghaa", sum := "857261e22926a80ccf141a90859a8e95dbc51befd2fb8b5a98d70fcd13e6de5c", func := "anabranch/anabranchlaw06.CtrKeys", spec := "ctrKeys", recurses := true, apart := false, narrowed := true }
def CtrKeysUptoSaid : Prop := ctrKeysUptoRow.holds Try.pinned (OpenSpec.upto ctrKeysSpec)

end Rows
end Go.Proofs.Ytommbfkndcaghaa
