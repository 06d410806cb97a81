/-
  NARROWER THAN 'FOR EVERY INPUT', by the rows' own cells (each row's printed sentence says how): CommitTells: laid · CommitGets: laid · CommitBack: laid · CommitOnly: laid · CommitKinds: laid · CommitParts: laid.
  DERIVED. THE GIVEN ROWS OF THIS SEAT. 6 by the template 'for every input the law returns true; each argument reads behind the call as it read before'; 0 by the template 'total and deterministic' (their statements: YtnphlpebeflpkaaDoorTotals.lean).
  GIVEN WITH THE SEED: the statements are not yours to turn. If you find one false, say at which input.
  Laid BY PROGRAM, IN A SANDBOX (cutbox-rows.mjs): the forced cells as the released guide's own fill.sh prints them over the translation 05fc3dd41e4a55a4… (all of the seat's roots in one cut). By AI agents, Wed Nov 11 2026. No macro, syntax, notation, axiom, sorry.
-/
import Derived.Test.YtnphlpebeflpkaaDoorChecked
import GoSem.Claim
import GoSem.ClaimJoined
import GoSem.ClaimMapViews
import Derived.JoinedTies
import Derived.KernelRfl
namespace Go.Proofs.YtnphlpebeflpkaaDoor
/- THE CELL 'sum', in the pinned program and in every row, IS THE sha256 OF THE DUMP (.gsa) THAT YtnphlpebeflpkaaDoorProg.lean LOADS. Nothing in Lean hashes anything: it is a label: what it is worth is what the hold of that sum in a sandbox is worth. -/
noncomputable def Tryd.pinned : Pinned := { name := "ytnphlpebeflpkaadoor", sum := "05fc3dd41e4a55a44577b2bac3e47eebdd5b6f153144a434e9b2c93659dae9ef", checked := Tryd.checked }
namespace Rows
def none {H : Type} : Left H := { results := [], args := [] }

/- WHAT THE LISTED PACKAGE-LEVEL VARIABLES READ AS WHEN THE CALL BEGINS. Each datum BY PROGRAM (the guide's laid-datum.mjs) off the statement by which the dump's own 'gosem.cut.vars' lays the variable. In a bare row this is a premise. The card (YtnphlpebeflpkaaDoorCards.lean) ties it to the program's text. -/
def laid_anabranch_sha_constants {H : Type} : DataW H := .agg [.lit (.int .u32 1116352408), .lit (.int .u32 1899447441), .lit (.int .u32 3049323471), .lit (.int .u32 3921009573), .lit (.int .u32 961987163), .lit (.int .u32 1508970993), .lit (.int .u32 2453635748), .lit (.int .u32 2870763221), .lit (.int .u32 3624381080), .lit (.int .u32 310598401), .lit (.int .u32 607225278), .lit (.int .u32 1426881987), .lit (.int .u32 1925078388), .lit (.int .u32 2162078206), .lit (.int .u32 2614888103), .lit (.int .u32 3248222580), .lit (.int .u32 3835390401), .lit (.int .u32 4022224774), .lit (.int .u32 264347078), .lit (.int .u32 604807628), .lit (.int .u32 770255983), .lit (.int .u32 1249150122), .lit (.int .u32 1555081692), .lit (.int .u32 1996064986), .lit (.int .u32 2554220882), .lit (.int .u32 2821834349), .lit (.int .u32 2952996808), .lit (.int .u32 3210313671), .lit (.int .u32 3336571891), .lit (.int .u32 3584528711), .lit (.int .u32 113926993), .lit (.int .u32 338241895), .lit (.int .u32 666307205), .lit (.int .u32 773529912), .lit (.int .u32 1294757372), .lit (.int .u32 1396182291), .lit (.int .u32 1695183700), .lit (.int .u32 1986661051), .lit (.int .u32 2177026350), .lit (.int .u32 2456956037), .lit (.int .u32 2730485921), .lit (.int .u32 2820302411), .lit (.int .u32 3259730800), .lit (.int .u32 3345764771), .lit (.int .u32 3516065817), .lit (.int .u32 3600352804), .lit (.int .u32 4094571909), .lit (.int .u32 275423344), .lit (.int .u32 430227734), .lit (.int .u32 506948616), .lit (.int .u32 659060556), .lit (.int .u32 883997877), .lit (.int .u32 958139571), .lit (.int .u32 1322822218), .lit (.int .u32 1537002063), .lit (.int .u32 1747873779), .lit (.int .u32 1955562222), .lit (.int .u32 2024104815), .lit (.int .u32 2227730452), .lit (.int .u32 2361852424), .lit (.int .u32 2428436474), .lit (.int .u32 2756734187), .lit (.int .u32 3204031479), .lit (.int .u32 3329325298)]

/-- 'anabranchlaw10.CommitTells': WHATEVER THE INPUT: true; the input reads as it did. -/
def commitTellsSpec : ChangeSpec := { name := "commitTells", fn := fun _ => fun
  | [d1, d2] => { results := [.lit (.bool true)], args := [d1, d2] }
  | _ => none }
def commitTellsRow : OpenClaim := { program := "ytnphlpebeflpkaadoor", sum := "05fc3dd41e4a55a44577b2bac3e47eebdd5b6f153144a434e9b2c93659dae9ef", func := "anabranch/anabranchlaw10.CommitTells", spec := "commitTells", unfollowed := true, recurses := true, named := ["anabranch/sha.constants"], apart := false, laid := [("anabranch/sha.constants", laid_anabranch_sha_constants)] }
def CommitTellsSaid : Prop := commitTellsRow.holds Tryd.pinned (OpenSpec.ofChange commitTellsSpec)

/-- ITS FALSE NEIGHBOUR: 'it returns false'. Refute it at one input. -/
def commitTellsWrong : ChangeSpec := { name := "commitTells", fn := fun _ => fun
  | [d1, d2] => { results := [.lit (.bool false)], args := [d1, d2] }
  | _ => none }
def CommitTellsWrongFalsely : Prop := commitTellsRow.holds Tryd.pinned (OpenSpec.ofChange commitTellsWrong)

/-- 'anabranchlaw10.CommitGets': WHATEVER THE INPUT: true; the input reads as it did. -/
def commitGetsSpec : ChangeSpec := { name := "commitGets", fn := fun _ => fun
  | [d] => { results := [.lit (.bool true)], args := [d] }
  | _ => none }
def commitGetsRow : OpenClaim := { program := "ytnphlpebeflpkaadoor", sum := "05fc3dd41e4a55a44577b2bac3e47eebdd5b6f153144a434e9b2c93659dae9ef", func := "anabranch/anabranchlaw10.CommitGets", spec := "commitGets", unfollowed := true, recurses := true, named := ["anabranch/sha.constants"], apart := false, laid := [("anabranch/sha.constants", laid_anabranch_sha_constants)] }
def CommitGetsSaid : Prop := commitGetsRow.holds Tryd.pinned (OpenSpec.ofChange commitGetsSpec)

/-- ITS FALSE NEIGHBOUR: 'it returns false'. Refute it at one input. -/
def commitGetsWrong : ChangeSpec := { name := "commitGets", fn := fun _ => fun
  | [d] => { results := [.lit (.bool false)], args := [d] }
  | _ => none }
def CommitGetsWrongFalsely : Prop := commitGetsRow.holds Tryd.pinned (OpenSpec.ofChange commitGetsWrong)

/-- 'anabranchlaw10.CommitBack': WHATEVER THE INPUT: true; the input reads as it did. -/
def commitBackSpec : ChangeSpec := { name := "commitBack", fn := fun _ => fun
  | [d1, d2] => { results := [.lit (.bool true)], args := [d1, d2] }
  | _ => none }
def commitBackRow : OpenClaim := { program := "ytnphlpebeflpkaadoor", sum := "05fc3dd41e4a55a44577b2bac3e47eebdd5b6f153144a434e9b2c93659dae9ef", func := "anabranch/anabranchlaw10.CommitBack", spec := "commitBack", unfollowed := true, recurses := true, named := ["anabranch/sha.constants"], apart := false, laid := [("anabranch/sha.constants", laid_anabranch_sha_constants)] }
def CommitBackSaid : Prop := commitBackRow.holds Tryd.pinned (OpenSpec.ofChange commitBackSpec)

/-- ITS FALSE NEIGHBOUR: 'it returns false'. Refute it at one input. -/
def commitBackWrong : ChangeSpec := { name := "commitBack", fn := fun _ => fun
  | [d1, d2] => { results := [.lit (.bool false)], args := [d1, d2] }
  | _ => none }
def CommitBackWrongFalsely : Prop := commitBackRow.holds Tryd.pinned (OpenSpec.ofChange commitBackWrong)

/-- 'anabranchlaw10.CommitOnly': WHATEVER THE INPUT: true; the input reads as it did. -/
def commitOnlySpec : ChangeSpec := { name := "commitOnly", fn := fun _ => fun
  | [d1, d2] => { results := [.lit (.bool true)], args := [d1, d2] }
  | _ => none }
def commitOnlyRow : OpenClaim := { program := "ytnphlpebeflpkaadoor", sum := "05fc3dd41e4a55a44577b2bac3e47eebdd5b6f153144a434e9b2c93659dae9ef", func := "anabranch/anabranchlaw10.CommitOnly", spec := "commitOnly", unfollowed := true, recurses := true, named := ["anabranch/sha.constants"], apart := false, laid := [("anabranch/sha.constants", laid_anabranch_sha_constants)] }
def CommitOnlySaid : Prop := commitOnlyRow.holds Tryd.pinned (OpenSpec.ofChange commitOnlySpec)

/-- ITS FALSE NEIGHBOUR: 'it returns false'. Refute it at one input. -/
def commitOnlyWrong : ChangeSpec := { name := "commitOnly", fn := fun _ => fun
  | [d1, d2] => { results := [.lit (.bool false)], args := [d1, d2] }
  | _ => none }
def CommitOnlyWrongFalsely : Prop := commitOnlyRow.holds Tryd.pinned (OpenSpec.ofChange commitOnlyWrong)

/-- 'anabranchlaw10.CommitKinds': WHATEVER THE INPUT: true; the input reads as it did. -/
def commitKindsSpec : ChangeSpec := { name := "commitKinds", fn := fun _ => fun
  | [d] => { results := [.lit (.bool true)], args := [d] }
  | _ => none }
def commitKindsRow : OpenClaim := { program := "ytnphlpebeflpkaadoor", sum := "05fc3dd41e4a55a44577b2bac3e47eebdd5b6f153144a434e9b2c93659dae9ef", func := "anabranch/anabranchlaw10.CommitKinds", spec := "commitKinds", unfollowed := true, recurses := true, named := ["anabranch/sha.constants"], apart := false, laid := [("anabranch/sha.constants", laid_anabranch_sha_constants)] }
def CommitKindsSaid : Prop := commitKindsRow.holds Tryd.pinned (OpenSpec.ofChange commitKindsSpec)

/-- ITS FALSE NEIGHBOUR: 'it returns false'. Refute it at one input. -/
def commitKindsWrong : ChangeSpec := { name := "commitKinds", fn := fun _ => fun
  | [d] => { results := [.lit (.bool false)], args := [d] }
  | _ => none }
def CommitKindsWrongFalsely : Prop := commitKindsRow.holds Tryd.pinned (OpenSpec.ofChange commitKindsWrong)

/-- 'anabranchlaw10.CommitParts': WHATEVER THE INPUT: true; the input reads as it did. -/
def commitPartsSpec : ChangeSpec := { name := "commitParts", fn := fun _ => fun
  | [d1, d2, d3] => { results := [.lit (.bool true)], args := [d1, d2, d3] }
  | _ => none }
def commitPartsRow : OpenClaim := { program := "ytnphlpebeflpkaadoor", sum := "05fc3dd41e4a55a44577b2bac3e47eebdd5b6f153144a434e9b2c93659dae9ef", func := "anabranch/anabranchlaw10.CommitParts", spec := "commitParts", unfollowed := true, recurses := true, named := ["anabranch/sha.constants"], apart := false, laid := [("anabranch/sha.constants", laid_anabranch_sha_constants)] }
def CommitPartsSaid : Prop := commitPartsRow.holds Tryd.pinned (OpenSpec.ofChange commitPartsSpec)

/-- ITS FALSE NEIGHBOUR: 'it returns false'. Refute it at one input. -/
def commitPartsWrong : ChangeSpec := { name := "commitParts", fn := fun _ => fun
  | [d1, d2, d3] => { results := [.lit (.bool false)], args := [d1, d2, d3] }
  | _ => none }
def CommitPartsWrongFalsely : Prop := commitPartsRow.holds Tryd.pinned (OpenSpec.ofChange commitPartsWrong)

/- THE SECOND FORM. 'bulk': how many values and letters a reading holds, each counted each time it is reached (what is shared counts as often as it is met; a slice's spare places count too). A statement '..UptoSaid' is the law's where the arguments, and the package variables that the reading takes, are together of bulk at most 1048576: NARROWER than '..Said'. Prove '..Said' where nothing that the law and all that it calls make is longer than what came in: it says more and counts as full. Else prove '..UptoSaid'. A law counts once. -/
mutual
def uptoBulk {H : Type} : DataW H → Nat
  | .lit (.string bytes) => bytes.length + 1
  | .lit _ => 1
  | .nil => 1
  | .ptr d => uptoBulk d + 1
  | .slice elems spare => uptoBulkAll elems + uptoBulkAll spare + 1
  | .agg parts => uptoBulkAll parts + 1
  | .iface _ d => uptoBulk d + 1
  | .map entries => uptoBulkEntries entries + 1
  | .held _ => 1
def uptoBulkAll {H : Type} : List (DataW H) → Nat
  | [] => 0
  | d :: r => uptoBulk d + uptoBulkAll r
def uptoBulkEntries {H : Type} : List (Lit × DataW H) → Nat
  | [] => 0
  | x :: r => uptoBulkEntry x + uptoBulkEntries r
def uptoBulkEntry {H : Type} : Lit × DataW H → Nat
  | (.string bytes, d) => bytes.length + uptoBulk d + 1
  | (_, d) => uptoBulk d + 1
 end
def uptoSmall : (H : Type) → List (DataW H) → Bool := fun _ ds => decide (uptoBulkAll ds ≤ 1048576)
def OpenSpec.upto (s : _root_.Go.ChangeSpec) : _root_.Go.OpenSpec := { _root_.Go.OpenSpec.ofChange s with cond := some uptoSmall }

/-- 'anabranchlaw10.CommitTells', WHERE WHAT IT READS IS OF BULK AT MOST 1048576: true; the input reads as it did. -/
def commitTellsUptoRow : OpenClaim := { program := "ytnphlpebeflpkaadoor", sum := "05fc3dd41e4a55a44577b2bac3e47eebdd5b6f153144a434e9b2c93659dae9ef", func := "anabranch/anabranchlaw10.CommitTells", spec := "commitTells", unfollowed := true, recurses := true, named := ["anabranch/sha.constants"], apart := false, laid := [("anabranch/sha.constants", laid_anabranch_sha_constants)], narrowed := true }
def CommitTellsUptoSaid : Prop := commitTellsUptoRow.holds Tryd.pinned (OpenSpec.upto commitTellsSpec)

/-- 'anabranchlaw10.CommitGets', WHERE WHAT IT READS IS OF BULK AT MOST 1048576: true; the input reads as it did. -/
def commitGetsUptoRow : OpenClaim := { program := "ytnphlpebeflpkaadoor", sum := "05fc3dd41e4a55a44577b2bac3e47eebdd5b6f153144a434e9b2c93659dae9ef", func := "anabranch/anabranchlaw10.CommitGets", spec := "commitGets", unfollowed := true, recurses := true, named := ["anabranch/sha.constants"], apart := false, laid := [("anabranch/sha.constants", laid_anabranch_sha_constants)], narrowed := true }
def CommitGetsUptoSaid : Prop := commitGetsUptoRow.holds Tryd.pinned (OpenSpec.upto commitGetsSpec)

/-- 'anabranchlaw10.CommitBack', WHERE WHAT IT READS IS OF BULK AT MOST 1048576: true; the input reads as it did. -/
def commitBackUptoRow : OpenClaim := { program := "ytnphlpebeflpkaadoor", sum := "05fc3dd41e4a55a44577b2bac3e47eebdd5b6f153144a434e9b2c93659dae9ef", func := "anabranch/anabranchlaw10.CommitBack", spec := "commitBack", unfollowed := true, recurses := true, named := ["anabranch/sha.constants"], apart := false, laid := [("anabranch/sha.constants", laid_anabranch_sha_constants)], narrowed := true }
def CommitBackUptoSaid : Prop := commitBackUptoRow.holds Tryd.pinned (OpenSpec.upto commitBackSpec)

/-- 'anabranchlaw10.CommitOnly', WHERE WHAT IT READS IS OF BULK AT MOST 1048576: true; the input reads as it did. -/
def commitOnlyUptoRow : OpenClaim := { program := "ytnphlpebeflpkaadoor", sum := "05fc3dd41e4a55a44577b2bac3e47eebdd5b6f153144a434e9b2c93659dae9ef", func := "anabranch/anabranchlaw10.CommitOnly", spec := "commitOnly", unfollowed := true, recurses := true, named := ["anabranch/sha.constants"], apart := false, laid := [("anabranch/sha.constants", laid_anabranch_sha_constants)], narrowed := true }
def CommitOnlyUptoSaid : Prop := commitOnlyUptoRow.holds Tryd.pinned (OpenSpec.upto commitOnlySpec)

/-- 'anabranchlaw10.CommitKinds', WHERE WHAT IT READS IS OF BULK AT MOST 1048576: true; the input reads as it did. -/
def commitKindsUptoRow : OpenClaim := { program := "ytnphlpebeflpkaadoor", sum := "05fc3dd41e4a55a44577b2bac3e47eebdd5b6f153144a434e9b2c93659dae9ef", func := "anabranch/anabranchlaw10.CommitKinds", spec := "commitKinds", unfollowed := true, recurses := true, named := ["anabranch/sha.constants"], apart := false, laid := [("anabranch/sha.constants", laid_anabranch_sha_constants)], narrowed := true }
def CommitKindsUptoSaid : Prop := commitKindsUptoRow.holds Tryd.pinned (OpenSpec.upto commitKindsSpec)

/-- 'anabranchlaw10.CommitParts', WHERE WHAT IT READS IS OF BULK AT MOST 1048576: true; the input reads as it did. -/
def commitPartsUptoRow : OpenClaim := { program := "ytnphlpebeflpkaadoor", sum := "05fc3dd41e4a55a44577b2bac3e47eebdd5b6f153144a434e9b2c93659dae9ef", func := "anabranch/anabranchlaw10.CommitParts", spec := "commitParts", unfollowed := true, recurses := true, named := ["anabranch/sha.constants"], apart := false, laid := [("anabranch/sha.constants", laid_anabranch_sha_constants)], narrowed := true }
def CommitPartsUptoSaid : Prop := commitPartsUptoRow.holds Tryd.pinned (OpenSpec.upto commitPartsSpec)

end Rows
end Go.Proofs.YtnphlpebeflpkaaDoor
