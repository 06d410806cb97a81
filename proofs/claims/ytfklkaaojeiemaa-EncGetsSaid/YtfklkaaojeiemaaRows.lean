/-
  No cell of these rows narrows 'for every input' (looked for: loops, veiled, ifaces, maps, wideKeys, modest, calm, conditions, laid).
  DERIVED. THE GIVEN ROWS OF THIS SEAT. 7 by the template 'for every input the law returns true; each argument reads behind the call as it read before'; 0 by the template 'total and deterministic' (their statements: YtfklkaaojeiemaaTotals.lean).
  GIVEN WITH THE SEED: the statements are not yours to turn. If you find one false, say at which input.
  Laid BY PROGRAM, IN A SANDBOX (cutbox-rows.mjs): the forced cells as the released guide's own fill.sh prints them over the translation 8fd67905a9a8636c… (all of the seat's roots in one cut). By AI agents, Wed Nov 11 2026. No macro, syntax, notation, axiom, sorry.
-/
import Derived.Test.YtfklkaaojeiemaaChecked
import GoSem.Claim
import GoSem.ClaimJoined
import GoSem.ClaimMapViews
import Derived.JoinedTies
import Derived.KernelRfl
namespace Go.Proofs.Ytfklkaaojeiemaa
/- THE CELL 'sum', in the pinned program and in every row, IS THE sha256 OF THE DUMP (.gsa) THAT YtfklkaaojeiemaaProg.lean LOADS. Nothing in Lean hashes anything: it is a label: what it is worth is what the hold of that sum in a sandbox is worth. -/
noncomputable def Try.pinned : Pinned := { name := "ytfklkaaojeiemaa", sum := "8fd67905a9a8636c6892d5ff42943a212c5b1631a00868bb6c1dfb29572eae10", checked := Try.checked }
namespace Rows
def none {H : Type} : Left H := { results := [], args := [] }

/-- 'anabranchlaw03.EncPuts': WHATEVER THE INPUT: true; the input reads as it did. -/
def encPutsSpec : ChangeSpec := { name := "encPuts", fn := fun _ => fun
  | [d1, d2, d3] => { results := [.lit (.bool true)], args := [d1, d2, d3] }
  | _ => none }
def encPutsRow : OpenClaim := { program := "ytfklkaaojeiemaa", sum := "8fd67905a9a8636c6892d5ff42943a212c5b1631a00868bb6c1dfb29572eae10", func := "anabranch/anabranchlaw03.EncPuts", spec := "encPuts", unfollowed := true, recurses := true, apart := false }
def EncPutsSaid : Prop := encPutsRow.holds Try.pinned (OpenSpec.ofChange encPutsSpec)

/-- ITS FALSE NEIGHBOUR: 'it returns false'. Refute it at one input. -/
def encPutsWrong : ChangeSpec := { name := "encPuts", fn := fun _ => fun
  | [d1, d2, d3] => { results := [.lit (.bool false)], args := [d1, d2, d3] }
  | _ => none }
def EncPutsWrongFalsely : Prop := encPutsRow.holds Try.pinned (OpenSpec.ofChange encPutsWrong)

/-- 'anabranchlaw03.EncGets': WHATEVER THE INPUT: true; the input reads as it did. -/
def encGetsSpec : ChangeSpec := { name := "encGets", fn := fun _ => fun
  | [d1, d2] => { results := [.lit (.bool true)], args := [d1, d2] }
  | _ => none }
def encGetsRow : OpenClaim := { program := "ytfklkaaojeiemaa", sum := "8fd67905a9a8636c6892d5ff42943a212c5b1631a00868bb6c1dfb29572eae10", func := "anabranch/anabranchlaw03.EncGets", spec := "encGets", unfollowed := true, recurses := true, apart := false }
def EncGetsSaid : Prop := encGetsRow.holds Try.pinned (OpenSpec.ofChange encGetsSpec)

/-- ITS FALSE NEIGHBOUR: 'it returns false'. Refute it at one input. -/
def encGetsWrong : ChangeSpec := { name := "encGets", fn := fun _ => fun
  | [d1, d2] => { results := [.lit (.bool false)], args := [d1, d2] }
  | _ => none }
def EncGetsWrongFalsely : Prop := encGetsRow.holds Try.pinned (OpenSpec.ofChange encGetsWrong)

/-- 'anabranchlaw03.EncBack': WHATEVER THE INPUT: true; the input reads as it did. -/
def encBackSpec : ChangeSpec := { name := "encBack", fn := fun _ => fun
  | [d1, d2, d3] => { results := [.lit (.bool true)], args := [d1, d2, d3] }
  | _ => none }
def encBackRow : OpenClaim := { program := "ytfklkaaojeiemaa", sum := "8fd67905a9a8636c6892d5ff42943a212c5b1631a00868bb6c1dfb29572eae10", func := "anabranch/anabranchlaw03.EncBack", spec := "encBack", unfollowed := true, recurses := true, apart := false }
def EncBackSaid : Prop := encBackRow.holds Try.pinned (OpenSpec.ofChange encBackSpec)

/-- ITS FALSE NEIGHBOUR: 'it returns false'. Refute it at one input. -/
def encBackWrong : ChangeSpec := { name := "encBack", fn := fun _ => fun
  | [d1, d2, d3] => { results := [.lit (.bool false)], args := [d1, d2, d3] }
  | _ => none }
def EncBackWrongFalsely : Prop := encBackRow.holds Try.pinned (OpenSpec.ofChange encBackWrong)

/-- 'anabranchlaw03.EncSigns': WHATEVER THE INPUT: true; the input reads as it did. -/
def encSignsSpec : ChangeSpec := { name := "encSigns", fn := fun _ => fun
  | [d1, d2] => { results := [.lit (.bool true)], args := [d1, d2] }
  | _ => none }
def encSignsRow : OpenClaim := { program := "ytfklkaaojeiemaa", sum := "8fd67905a9a8636c6892d5ff42943a212c5b1631a00868bb6c1dfb29572eae10", func := "anabranch/anabranchlaw03.EncSigns", spec := "encSigns", unfollowed := true, recurses := true, apart := false }
def EncSignsSaid : Prop := encSignsRow.holds Try.pinned (OpenSpec.ofChange encSignsSpec)

/-- ITS FALSE NEIGHBOUR: 'it returns false'. Refute it at one input. -/
def encSignsWrong : ChangeSpec := { name := "encSigns", fn := fun _ => fun
  | [d1, d2] => { results := [.lit (.bool false)], args := [d1, d2] }
  | _ => none }
def EncSignsWrongFalsely : Prop := encSignsRow.holds Try.pinned (OpenSpec.ofChange encSignsWrong)

/-- 'anabranchlaw03.EncLongs': WHATEVER THE INPUT: true; the input reads as it did. -/
def encLongsSpec : ChangeSpec := { name := "encLongs", fn := fun _ => fun
  | [d1, d2] => { results := [.lit (.bool true)], args := [d1, d2] }
  | _ => none }
def encLongsRow : OpenClaim := { program := "ytfklkaaojeiemaa", sum := "8fd67905a9a8636c6892d5ff42943a212c5b1631a00868bb6c1dfb29572eae10", func := "anabranch/anabranchlaw03.EncLongs", spec := "encLongs", unfollowed := true, recurses := true, apart := false }
def EncLongsSaid : Prop := encLongsRow.holds Try.pinned (OpenSpec.ofChange encLongsSpec)

/-- ITS FALSE NEIGHBOUR: 'it returns false'. Refute it at one input. -/
def encLongsWrong : ChangeSpec := { name := "encLongs", fn := fun _ => fun
  | [d1, d2] => { results := [.lit (.bool false)], args := [d1, d2] }
  | _ => none }
def EncLongsWrongFalsely : Prop := encLongsRow.holds Try.pinned (OpenSpec.ofChange encLongsWrong)

/-- 'anabranchlaw03.EncMost': WHATEVER THE INPUT: true; the input reads as it did. -/
def encMostSpec : ChangeSpec := { name := "encMost", fn := fun _ => fun
  | [d1, d2, d3] => { results := [.lit (.bool true)], args := [d1, d2, d3] }
  | _ => none }
def encMostRow : OpenClaim := { program := "ytfklkaaojeiemaa", sum := "8fd67905a9a8636c6892d5ff42943a212c5b1631a00868bb6c1dfb29572eae10", func := "anabranch/anabranchlaw03.EncMost", spec := "encMost", unfollowed := true, recurses := true, apart := false }
def EncMostSaid : Prop := encMostRow.holds Try.pinned (OpenSpec.ofChange encMostSpec)

/-- ITS FALSE NEIGHBOUR: 'it returns false'. Refute it at one input. -/
def encMostWrong : ChangeSpec := { name := "encMost", fn := fun _ => fun
  | [d1, d2, d3] => { results := [.lit (.bool false)], args := [d1, d2, d3] }
  | _ => none }
def EncMostWrongFalsely : Prop := encMostRow.holds Try.pinned (OpenSpec.ofChange encMostWrong)

/-- 'anabranchlaw03.EncOnly': WHATEVER THE INPUT: true; the input reads as it did. -/
def encOnlySpec : ChangeSpec := { name := "encOnly", fn := fun _ => fun
  | [d1, d2, d3, d4] => { results := [.lit (.bool true)], args := [d1, d2, d3, d4] }
  | _ => none }
def encOnlyRow : OpenClaim := { program := "ytfklkaaojeiemaa", sum := "8fd67905a9a8636c6892d5ff42943a212c5b1631a00868bb6c1dfb29572eae10", func := "anabranch/anabranchlaw03.EncOnly", spec := "encOnly", unfollowed := true, recurses := true, apart := false }
def EncOnlySaid : Prop := encOnlyRow.holds Try.pinned (OpenSpec.ofChange encOnlySpec)

/-- ITS FALSE NEIGHBOUR: 'it returns false'. Refute it at one input. -/
def encOnlyWrong : ChangeSpec := { name := "encOnly", fn := fun _ => fun
  | [d1, d2, d3, d4] => { results := [.lit (.bool false)], args := [d1, d2, d3, d4] }
  | _ => none }
def EncOnlyWrongFalsely : Prop := encOnlyRow.holds Try.pinned (OpenSpec.ofChange encOnlyWrong)

/- THE SECOND FORM. 'bulk': how many values and letters a reading holds, each counted each time it is reached (what is shared counts as often as it is met; a slice's spare places count too). A statement '..UptoSaid' is the law's where the arguments, and the package variables that the reading takes, are together of bulk at most 1048576: NARROWER than '..Said'. Prove '..Said' where nothing that the law and all that it calls make is longer than what came in: it says more and counts as full. Else prove '..UptoSaid'. A law counts once. -/
mutual
def uptoBulk {H : Type} : DataW H → Nat
  | .lit (.string bytes) => bytes.length + 1
  | .lit _ => 1
  | .nil => 1
  | .ptr d => uptoBulk d + 1
  | .slice elems spare => uptoBulkAll elems + uptoBulkAll spare + 1
  | .agg parts => uptoBulkAll parts + 1
  | .iface _ d => uptoBulk d + 1
  | .map entries => uptoBulkEntries entries + 1
  | .held _ => 1
def uptoBulkAll {H : Type} : List (DataW H) → Nat
  | [] => 0
  | d :: r => uptoBulk d + uptoBulkAll r
def uptoBulkEntries {H : Type} : List (Lit × DataW H) → Nat
  | [] => 0
  | x :: r => uptoBulkEntry x + uptoBulkEntries r
def uptoBulkEntry {H : Type} : Lit × DataW H → Nat
  | (.string bytes, d) => bytes.length + uptoBulk d + 1
  | (_, d) => uptoBulk d + 1
 end
def uptoSmall : (H : Type) → List (DataW H) → Bool := fun _ ds => decide (uptoBulkAll ds ≤ 1048576)
def OpenSpec.upto (s : _root_.Go.ChangeSpec) : _root_.Go.OpenSpec := { _root_.Go.OpenSpec.ofChange s with cond := some uptoSmall }

/-- 'anabranchlaw03.EncPuts', WHERE WHAT IT READS IS OF BULK AT MOST 1048576: true; the input reads as it did. -/
def encPutsUptoRow : OpenClaim := { program := "ytfklkaaojeiemaa", sum := "8fd67905a9a8636c6892d5ff42943a212c5b1631a00868bb6c1dfb29572eae10", func := "anabranch/anabranchlaw03.EncPuts", spec := "encPuts", unfollowed := true, recurses := true, apart := false, narrowed := true }
def EncPutsUptoSaid : Prop := encPutsUptoRow.holds Try.pinned (OpenSpec.upto encPutsSpec)

/-- 'anabranchlaw03.EncGets', WHERE WHAT IT READS IS OF BULK AT MOST 1048576: true; the input reads as it did. -/
def encGetsUptoRow : OpenClaim := { program := "ytfklkaaojeiemaa", sum := "8fd67905a9a8636c6892d5ff42943a212c5b1631a00868bb6c1dfb29572eae10", func := "anabranch/anabranchlaw03.EncGets", spec := "encGets", unfollowed := true, recurses := true, apart := false, narrowed := true }
def EncGetsUptoSaid : Prop := encGetsUptoRow.holds Try.pinned (OpenSpec.upto encGetsSpec)

/-- 'anabranchlaw03.EncBack', WHERE WHAT IT READS IS OF BULK AT MOST 1048576: true; the input reads as it did. -/
def encBackUptoRow : OpenClaim := { program := "ytfklkaaojeiemaa", sum := "8fd67905a9a8636c6892d5ff42943a212c5b1631a00868bb6c1dfb29572eae10", func := "anabranch/anabranchlaw03.EncBack", spec := "encBack", unfollowed := true, recurses := true, apart := false, narrowed := true }
def EncBackUptoSaid : Prop := encBackUptoRow.holds Try.pinned (OpenSpec.upto encBackSpec)

/-- 'anabranchlaw03.EncSigns', WHERE WHAT IT READS IS OF BULK AT MOST 1048576: true; the input reads as it did. -/
def encSignsUptoRow : OpenClaim := { program := "ytfklkaaojeiemaa", sum := "8fd67905a9a8636c6892d5ff42943a212c5b1631a00868bb6c1dfb29572eae10", func := "anabranch/anabranchlaw03.EncSigns", spec := "encSigns", unfollowed := true, recurses := true, apart := false, narrowed := true }
def EncSignsUptoSaid : Prop := encSignsUptoRow.holds Try.pinned (OpenSpec.upto encSignsSpec)

/-- 'anabranchlaw03.EncLongs', WHERE WHAT IT READS IS OF BULK AT MOST 1048576: true; the input reads as it did. -/
def encLongsUptoRow : OpenClaim := { program := "ytfklkaaojeiemaa", sum := "8fd67905a9a8636c6892d5ff42943a212c5b1631a00868bb6c1dfb29572eae10", func := "anabranch/anabranchlaw03.EncLongs", spec := "encLongs", unfollowed := true, recurses := true, apart := false, narrowed := true }
def EncLongsUptoSaid : Prop := encLongsUptoRow.holds Try.pinned (OpenSpec.upto encLongsSpec)

/-- 'anabranchlaw03.EncMost', WHERE WHAT IT READS IS OF BULK AT MOST 1048576: true; the input reads as it did. -/
def encMostUptoRow : OpenClaim := { program := "ytfklkaaojeiemaa", sum := "8fd67905a9a8636c6892d5ff42943a212c5b1631a00868bb6c1dfb29572eae10", func := "anabranch/anabranchlaw03.EncMost", spec := "encMost", unfollowed := true, recurses := true, apart := false, narrowed := true }
def EncMostUptoSaid : Prop := encMostUptoRow.holds Try.pinned (OpenSpec.upto encMostSpec)

/-- 'anabranchlaw03.EncOnly', WHERE WHAT IT READS IS OF BULK AT MOST 1048576: true; the input reads as it did. -/
def encOnlyUptoRow : OpenClaim := { program := "ytfklkaaojeiemaa", sum := "8fd67905a9a8636c6892d5ff42943a212c5b1631a00868bb6c1dfb29572eae10", func := "anabranch/anabranchlaw03.EncOnly", spec := "encOnly", unfollowed := true, recurses := true, apart := false, narrowed := true }
def EncOnlyUptoSaid : Prop := encOnlyUptoRow.holds Try.pinned (OpenSpec.upto encOnlySpec)

end Rows
end Go.Proofs.Ytfklkaaojeiemaa
