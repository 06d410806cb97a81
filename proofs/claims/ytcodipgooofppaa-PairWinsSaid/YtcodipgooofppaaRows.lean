/-
  No cell of these rows narrows 'for every input' (looked for: loops, veiled, ifaces, maps, wideKeys, modest, calm, conditions, laid).
  DERIVED. THE GIVEN ROWS OF THIS SEAT. 6 by the template 'for every input the law returns true; each argument reads behind the call as it read before'; 0 by the template 'total and deterministic' (their statements: YtcodipgooofppaaTotals.lean).
  GIVEN WITH THE SEED: the statements are not yours to turn. If you find one false, say at which input.
  Laid BY PROGRAM, IN A SANDBOX (cutbox-rows.mjs): the forced cells as the released guide's own fill.sh prints them over the translation 2cedb12529b2054f… (all of the seat's roots in one cut). By AI agents, Wed Nov 11 2026. No macro, syntax, notation, axiom, sorry.
-/
import Derived.Test.YtcodipgooofppaaChecked
import GoSem.Claim
import GoSem.ClaimJoined
import GoSem.ClaimMapViews
import Derived.JoinedTies
import Derived.KernelRfl
namespace Go.Proofs.Ytcodipgooofppaa
/- THE CELL 'sum', in the pinned program and in every row, IS THE sha256 OF THE DUMP (.gsa) THAT YtcodipgooofppaaProg.lean LOADS. Nothing in Lean hashes anything: it is a label: what it is worth is what the hold of that sum in a sandbox is worth. -/
noncomputable def Try.pinned : Pinned := { name := "ytcodipgooofppaa", sum := "2cedb12529b2054f5465092564ecfa64ce2c142a48f6bdd217e829b948332b2e", checked := Try.checked }
namespace Rows
def none {H : Type} : Left H := { results := [], args := [] }

/-- 'anabranchlaw08.PairTells': WHATEVER THE INPUT: true; the input reads as it did. -/
def pairTellsSpec : ChangeSpec := { name := "pairTells", fn := fun _ => fun
  | [d1, d2, d3, d4] => { results := [.lit (.bool true)], args := [d1, d2, d3, d4] }
  | _ => none }
def pairTellsRow : OpenClaim := { program := "ytcodipgooofppaa", sum := "2cedb12529b2054f5465092564ecfa64ce2c142a48f6bdd217e829b948332b2e", func := "anabranch/anabranchlaw08.PairTells", spec := "pairTells", unfollowed := true, recurses := true, plainKeys := false, apart := false }
def PairTellsSaid : Prop := pairTellsRow.holds Try.pinned (OpenSpec.ofChange pairTellsSpec)

/-- ITS FALSE NEIGHBOUR: 'it returns false'. Refute it at one input. -/
def pairTellsWrong : ChangeSpec := { name := "pairTells", fn := fun _ => fun
  | [d1, d2, d3, d4] => { results := [.lit (.bool false)], args := [d1, d2, d3, d4] }
  | _ => none }
def PairTellsWrongFalsely : Prop := pairTellsRow.holds Try.pinned (OpenSpec.ofChange pairTellsWrong)

/-- 'anabranchlaw08.PairWins': WHATEVER THE INPUT: true; the input reads as it did. -/
def pairWinsSpec : ChangeSpec := { name := "pairWins", fn := fun _ => fun
  | [d1, d2, d3, d4] => { results := [.lit (.bool true)], args := [d1, d2, d3, d4] }
  | _ => none }
def pairWinsRow : OpenClaim := { program := "ytcodipgooofppaa", sum := "2cedb12529b2054f5465092564ecfa64ce2c142a48f6bdd217e829b948332b2e", func := "anabranch/anabranchlaw08.PairWins", spec := "pairWins", unfollowed := true, recurses := true, plainKeys := false, apart := false }
def PairWinsSaid : Prop := pairWinsRow.holds Try.pinned (OpenSpec.ofChange pairWinsSpec)

/-- ITS FALSE NEIGHBOUR: 'it returns false'. Refute it at one input. -/
def pairWinsWrong : ChangeSpec := { name := "pairWins", fn := fun _ => fun
  | [d1, d2, d3, d4] => { results := [.lit (.bool false)], args := [d1, d2, d3, d4] }
  | _ => none }
def PairWinsWrongFalsely : Prop := pairWinsRow.holds Try.pinned (OpenSpec.ofChange pairWinsWrong)

/-- 'anabranchlaw08.PairMerges': WHATEVER THE INPUT: true; the input reads as it did. -/
def pairMergesSpec : ChangeSpec := { name := "pairMerges", fn := fun _ => fun
  | [d1, d2, d3] => { results := [.lit (.bool true)], args := [d1, d2, d3] }
  | _ => none }
def pairMergesRow : OpenClaim := { program := "ytcodipgooofppaa", sum := "2cedb12529b2054f5465092564ecfa64ce2c142a48f6bdd217e829b948332b2e", func := "anabranch/anabranchlaw08.PairMerges", spec := "pairMerges", unfollowed := true, recurses := true, plainKeys := false, apart := false }
def PairMergesSaid : Prop := pairMergesRow.holds Try.pinned (OpenSpec.ofChange pairMergesSpec)

/-- ITS FALSE NEIGHBOUR: 'it returns false'. Refute it at one input. -/
def pairMergesWrong : ChangeSpec := { name := "pairMerges", fn := fun _ => fun
  | [d1, d2, d3] => { results := [.lit (.bool false)], args := [d1, d2, d3] }
  | _ => none }
def PairMergesWrongFalsely : Prop := pairMergesRow.holds Try.pinned (OpenSpec.ofChange pairMergesWrong)

/-- 'anabranchlaw08.PairElems': WHATEVER THE INPUT: true; the input reads as it did. -/
def pairElemsSpec : ChangeSpec := { name := "pairElems", fn := fun _ => fun
  | [d1, d2] => { results := [.lit (.bool true)], args := [d1, d2] }
  | _ => none }
def pairElemsRow : OpenClaim := { program := "ytcodipgooofppaa", sum := "2cedb12529b2054f5465092564ecfa64ce2c142a48f6bdd217e829b948332b2e", func := "anabranch/anabranchlaw08.PairElems", spec := "pairElems", unfollowed := true, recurses := true, plainKeys := false, apart := false }
def PairElemsSaid : Prop := pairElemsRow.holds Try.pinned (OpenSpec.ofChange pairElemsSpec)

/-- ITS FALSE NEIGHBOUR: 'it returns false'. Refute it at one input. -/
def pairElemsWrong : ChangeSpec := { name := "pairElems", fn := fun _ => fun
  | [d1, d2] => { results := [.lit (.bool false)], args := [d1, d2] }
  | _ => none }
def PairElemsWrongFalsely : Prop := pairElemsRow.holds Try.pinned (OpenSpec.ofChange pairElemsWrong)

/-- 'anabranchlaw08.PairOrder': WHATEVER THE INPUT: true; the input reads as it did. -/
def pairOrderSpec : ChangeSpec := { name := "pairOrder", fn := fun _ => fun
  | [d1, d2, d3] => { results := [.lit (.bool true)], args := [d1, d2, d3] }
  | _ => none }
def pairOrderRow : OpenClaim := { program := "ytcodipgooofppaa", sum := "2cedb12529b2054f5465092564ecfa64ce2c142a48f6bdd217e829b948332b2e", func := "anabranch/anabranchlaw08.PairOrder", spec := "pairOrder", unfollowed := true, recurses := true, plainKeys := false, apart := false }
def PairOrderSaid : Prop := pairOrderRow.holds Try.pinned (OpenSpec.ofChange pairOrderSpec)

/-- ITS FALSE NEIGHBOUR: 'it returns false'. Refute it at one input. -/
def pairOrderWrong : ChangeSpec := { name := "pairOrder", fn := fun _ => fun
  | [d1, d2, d3] => { results := [.lit (.bool false)], args := [d1, d2, d3] }
  | _ => none }
def PairOrderWrongFalsely : Prop := pairOrderRow.holds Try.pinned (OpenSpec.ofChange pairOrderWrong)

/-- 'anabranchlaw08.PairThree': WHATEVER THE INPUT: true; the input reads as it did. -/
def pairThreeSpec : ChangeSpec := { name := "pairThree", fn := fun _ => fun
  | [d1, d2, d3, d4] => { results := [.lit (.bool true)], args := [d1, d2, d3, d4] }
  | _ => none }
def pairThreeRow : OpenClaim := { program := "ytcodipgooofppaa", sum := "2cedb12529b2054f5465092564ecfa64ce2c142a48f6bdd217e829b948332b2e", func := "anabranch/anabranchlaw08.PairThree", spec := "pairThree", unfollowed := true, recurses := true, plainKeys := false, apart := false }
def PairThreeSaid : Prop := pairThreeRow.holds Try.pinned (OpenSpec.ofChange pairThreeSpec)

/-- ITS FALSE NEIGHBOUR: 'it returns false'. Refute it at one input. -/
def pairThreeWrong : ChangeSpec := { name := "pairThree", fn := fun _ => fun
  | [d1, d2, d3, d4] => { results := [.lit (.bool false)], args := [d1, d2, d3, d4] }
  | _ => none }
def PairThreeWrongFalsely : Prop := pairThreeRow.holds Try.pinned (OpenSpec.ofChange pairThreeWrong)

/- THE SECOND FORM. 'bulk': how many values and letters a reading holds, each counted each time it is reached (what is shared counts as often as it is met; a slice's spare places count too). A statement '..UptoSaid' is the law's where the arguments, and the package variables that the reading takes, are together of bulk at most 1048576: NARROWER than '..Said'. Prove '..Said' where nothing that the law and all that it calls make is longer than what came in: it says more and counts as full. Else prove '..UptoSaid'. A law counts once. -/
mutual
def uptoBulk {H : Type} : DataW H → Nat
  | .lit (.string bytes) => bytes.length + 1
  | .lit _ => 1
  | .nil => 1
  | .ptr d => uptoBulk d + 1
  | .slice elems spare => uptoBulkAll elems + uptoBulkAll spare + 1
  | .agg parts => uptoBulkAll parts + 1
  | .iface _ d => uptoBulk d + 1
  | .map entries => uptoBulkEntries entries + 1
  | .held _ => 1
def uptoBulkAll {H : Type} : List (DataW H) → Nat
  | [] => 0
  | d :: r => uptoBulk d + uptoBulkAll r
def uptoBulkEntries {H : Type} : List (Lit × DataW H) → Nat
  | [] => 0
  | x :: r => uptoBulkEntry x + uptoBulkEntries r
def uptoBulkEntry {H : Type} : Lit × DataW H → Nat
  | (.string bytes, d) => bytes.length + uptoBulk d + 1
  | (_, d) => uptoBulk d + 1
 end
def uptoSmall : (H : Type) → List (DataW H) → Bool := fun _ ds => decide (uptoBulkAll ds ≤ 1048576)
def OpenSpec.upto (s : _root_.Go.ChangeSpec) : _root_.Go.OpenSpec := { _root_.Go.OpenSpec.ofChange s with cond := some uptoSmall }

/-- 'anabranchlaw08.PairTells', WHERE WHAT IT READS IS OF BULK AT MOST 1048576: true; the input reads as it did. -/
def pairTellsUptoRow : OpenClaim := { program := "ytcodipgooofppaa", sum := "2cedb12529b2054f5465092564ecfa64ce2c142a48f6bdd217e829b948332b2e", func := "anabranch/anabranchlaw08.PairTells", spec := "pairTells", unfollowed := true, recurses := true, plainKeys := false, apart := false, narrowed := true }
def PairTellsUptoSaid : Prop := pairTellsUptoRow.holds Try.pinned (OpenSpec.upto pairTellsSpec)

/-- 'anabranchlaw08.PairWins', WHERE WHAT IT READS IS OF BULK AT MOST 1048576: true; the input reads as it did. -/
def pairWinsUptoRow : OpenClaim := { program := "ytcodipgooofppaa", sum := "2cedb12529b2054f5465092564ecfa64ce2c142a48f6bdd217e829b948332b2e", func := "anabranch/anabranchlaw08.PairWins", spec := "pairWins", unfollowed := true, recurses := true, plainKeys := false, apart := false, narrowed := true }
def PairWinsUptoSaid : Prop := pairWinsUptoRow.holds Try.pinned (OpenSpec.upto pairWinsSpec)

/-- 'anabranchlaw08.PairMerges', WHERE WHAT IT READS IS OF BULK AT MOST 1048576: true; the input reads as it did. -/
def pairMergesUptoRow : OpenClaim := { program := "ytcodipgooofppaa", sum := "2cedb12529b2054f5465092564ecfa64ce2c142a48f6bdd217e829b948332b2e", func := "anabranch/anabranchlaw08.PairMerges", spec := "pairMerges", unfollowed := true, recurses := true, plainKeys := false, apart := false, narrowed := true }
def PairMergesUptoSaid : Prop := pairMergesUptoRow.holds Try.pinned (OpenSpec.upto pairMergesSpec)

/-- 'anabranchlaw08.PairElems', WHERE WHAT IT READS IS OF BULK AT MOST 1048576: true; the input reads as it did. -/
def pairElemsUptoRow : OpenClaim := { program := "ytcodipgooofppaa", sum := "2cedb12529b2054f5465092564ecfa64ce2c142a48f6bdd217e829b948332b2e", func := "anabranch/anabranchlaw08.PairElems", spec := "pairElems", unfollowed := true, recurses := true, plainKeys := false, apart := false, narrowed := true }
def PairElemsUptoSaid : Prop := pairElemsUptoRow.holds Try.pinned (OpenSpec.upto pairElemsSpec)

/-- 'anabranchlaw08.PairOrder', WHERE WHAT IT READS IS OF BULK AT MOST 1048576: true; the input reads as it did. -/
def pairOrderUptoRow : OpenClaim := { program := "ytcodipgooofppaa", sum := "2cedb12529b2054f5465092564ecfa64ce2c142a48f6bdd217e829b948332b2e", func := "anabranch/anabranchlaw08.PairOrder", spec := "pairOrder", unfollowed := true, recurses := true, plainKeys := false, apart := false, narrowed := true }
def PairOrderUptoSaid : Prop := pairOrderUptoRow.holds Try.pinned (OpenSpec.upto pairOrderSpec)

/-- 'anabranchlaw08.PairThree', WHERE WHAT IT READS IS OF BULK AT MOST 1048576: true; the input reads as it did. -/
def pairThreeUptoRow : OpenClaim := { program := "ytcodipgooofppaa", sum := "2cedb12529b2054f5465092564ecfa64ce2c142a48f6bdd217e829b948332b2e", func := "anabranch/anabranchlaw08.PairThree", spec := "pairThree", unfollowed := true, recurses := true, plainKeys := false, apart := false, narrowed := true }
def PairThreeUptoSaid : Prop := pairThreeUptoRow.holds Try.pinned (OpenSpec.upto pairThreeSpec)

end Rows
end Go.Proofs.Ytcodipgooofppaa
