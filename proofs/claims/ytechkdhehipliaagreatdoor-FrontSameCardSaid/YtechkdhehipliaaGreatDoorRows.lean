/-
  NARROWER THAN 'FOR EVERY INPUT', by the rows' own cells (each row's printed sentence says how): DagTells: laid · DagAnc: laid · FrontTells: laid · FrontJoins: laid · FrontSame: laid · FrontLast: laid · FrontNext: laid · FrontGen: laid · FrontBase: laid.
  DERIVED. THE GIVEN ROWS OF THIS SEAT. 9 by the template 'for every input the law returns true; each argument reads behind the call as it read before'; 0 by the template 'total and deterministic' (their statements: YtechkdhehipliaaGreatDoorTotals.lean).
  GIVEN WITH THE SEED: the statements are not yours to turn. If you find one false, say at which input.
  Laid BY PROGRAM, IN A SANDBOX (cutbox-rows.mjs): the forced cells as the released guide's own fill.sh prints them over the translation 3893346188f2b95f… (all of the seat's roots in one cut). By AI agents, Wed Nov 11 2026. No macro, syntax, notation, axiom, sorry.
-/
import Derived.Test.YtechkdhehipliaaGreatDoorChecked
import GoSem.Claim
import GoSem.ClaimJoined
import GoSem.ClaimMapViews
import Derived.JoinedTies
import Derived.KernelRfl
namespace Go.Proofs.YtechkdhehipliaaGreatDoor
/- THE CELL 'sum', in the pinned program and in every row, IS THE sha256 OF THE DUMP (.gsa) THAT YtechkdhehipliaaGreatDoorProg.lean LOADS. Nothing in Lean hashes anything: it is a label: what it is worth is what the hold of that sum in a sandbox is worth. -/
noncomputable def Tryz.pinned : Pinned := { name := "ytechkdhehipliaagreatdoor", sum := "3893346188f2b95f3df34af2a0971bbddaa772206eef6c8168bc62a508446ea4", checked := Tryz.checked }
namespace Rows
def none {H : Type} : Left H := { results := [], args := [] }

/- WHAT THE LISTED PACKAGE-LEVEL VARIABLES READ AS WHEN THE CALL BEGINS. Each datum BY PROGRAM (the guide's laid-datum.mjs) off the statement by which the dump's own 'gosem.cut.vars' lays the variable. In a bare row this is a premise. The card (YtechkdhehipliaaGreatDoorCards.lean) ties it to the program's text. -/
def laid_anabranch_sha_constants {H : Type} : DataW H := .agg [.lit (.int .u32 1116352408), .lit (.int .u32 1899447441), .lit (.int .u32 3049323471), .lit (.int .u32 3921009573), .lit (.int .u32 961987163), .lit (.int .u32 1508970993), .lit (.int .u32 2453635748), .lit (.int .u32 2870763221), .lit (.int .u32 3624381080), .lit (.int .u32 310598401), .lit (.int .u32 607225278), .lit (.int .u32 1426881987), .lit (.int .u32 1925078388), .lit (.int .u32 2162078206), .lit (.int .u32 2614888103), .lit (.int .u32 3248222580), .lit (.int .u32 3835390401), .lit (.int .u32 4022224774), .lit (.int .u32 264347078), .lit (.int .u32 604807628), .lit (.int .u32 770255983), .lit (.int .u32 1249150122), .lit (.int .u32 1555081692), .lit (.int .u32 1996064986), .lit (.int .u32 2554220882), .lit (.int .u32 2821834349), .lit (.int .u32 2952996808), .lit (.int .u32 3210313671), .lit (.int .u32 3336571891), .lit (.int .u32 3584528711), .lit (.int .u32 113926993), .lit (.int .u32 338241895), .lit (.int .u32 666307205), .lit (.int .u32 773529912), .lit (.int .u32 1294757372), .lit (.int .u32 1396182291), .lit (.int .u32 1695183700), .lit (.int .u32 1986661051), .lit (.int .u32 2177026350), .lit (.int .u32 2456956037), .lit (.int .u32 2730485921), .lit (.int .u32 2820302411), .lit (.int .u32 3259730800), .lit (.int .u32 3345764771), .lit (.int .u32 3516065817), .lit (.int .u32 3600352804), .lit (.int .u32 4094571909), .lit (.int .u32 275423344), .lit (.int .u32 430227734), .lit (.int .u32 506948616), .lit (.int .u32 659060556), .lit (.int .u32 883997877), .lit (.int .u32 958139571), .lit (.int .u32 1322822218), .lit (.int .u32 1537002063), .lit (.int .u32 1747873779), .lit (.int .u32 1955562222), .lit (.int .u32 2024104815), .lit (.int .u32 2227730452), .lit (.int .u32 2361852424), .lit (.int .u32 2428436474), .lit (.int .u32 2756734187), .lit (.int .u32 3204031479), .lit (.int .u32 3329325298)]

/-- 'anabranchlaw11.DagTells': WHATEVER THE INPUT: true; the input reads as it did. -/
def dagTellsSpec : ChangeSpec := { name := "dagTells", fn := fun _ => fun
  | [d1, d2] => { results := [.lit (.bool true)], args := [d1, d2] }
  | _ => none }
def dagTellsRow : OpenClaim := { program := "ytechkdhehipliaagreatdoor", sum := "3893346188f2b95f3df34af2a0971bbddaa772206eef6c8168bc62a508446ea4", func := "anabranch/anabranchlaw11.DagTells", spec := "dagTells", unfollowed := true, recurses := true, named := ["anabranch/sha.constants"], plainKeys := false, apart := false, laid := [("anabranch/sha.constants", laid_anabranch_sha_constants)] }
def DagTellsSaid : Prop := dagTellsRow.holds Tryz.pinned (OpenSpec.ofChange dagTellsSpec)

/-- ITS FALSE NEIGHBOUR: 'it returns false'. Refute it at one input. -/
def dagTellsWrong : ChangeSpec := { name := "dagTells", fn := fun _ => fun
  | [d1, d2] => { results := [.lit (.bool false)], args := [d1, d2] }
  | _ => none }
def DagTellsWrongFalsely : Prop := dagTellsRow.holds Tryz.pinned (OpenSpec.ofChange dagTellsWrong)

/-- 'anabranchlaw11.DagAnc': WHATEVER THE INPUT: true; the input reads as it did. -/
def dagAncSpec : ChangeSpec := { name := "dagAnc", fn := fun _ => fun
  | [d1, d2, d3] => { results := [.lit (.bool true)], args := [d1, d2, d3] }
  | _ => none }
def dagAncRow : OpenClaim := { program := "ytechkdhehipliaagreatdoor", sum := "3893346188f2b95f3df34af2a0971bbddaa772206eef6c8168bc62a508446ea4", func := "anabranch/anabranchlaw11.DagAnc", spec := "dagAnc", unfollowed := true, recurses := true, named := ["anabranch/sha.constants"], plainKeys := false, apart := false, laid := [("anabranch/sha.constants", laid_anabranch_sha_constants)] }
def DagAncSaid : Prop := dagAncRow.holds Tryz.pinned (OpenSpec.ofChange dagAncSpec)

/-- ITS FALSE NEIGHBOUR: 'it returns false'. Refute it at one input. -/
def dagAncWrong : ChangeSpec := { name := "dagAnc", fn := fun _ => fun
  | [d1, d2, d3] => { results := [.lit (.bool false)], args := [d1, d2, d3] }
  | _ => none }
def DagAncWrongFalsely : Prop := dagAncRow.holds Tryz.pinned (OpenSpec.ofChange dagAncWrong)

/-- 'anabranchlaw12.FrontTells': WHATEVER THE INPUT: true; the input reads as it did. -/
def frontTellsSpec : ChangeSpec := { name := "frontTells", fn := fun _ => fun
  | [d1, d2, d3, d4, d5] => { results := [.lit (.bool true)], args := [d1, d2, d3, d4, d5] }
  | _ => none }
def frontTellsRow : OpenClaim := { program := "ytechkdhehipliaagreatdoor", sum := "3893346188f2b95f3df34af2a0971bbddaa772206eef6c8168bc62a508446ea4", func := "anabranch/anabranchlaw12.FrontTells", spec := "frontTells", unfollowed := true, recurses := true, named := ["anabranch/sha.constants"], plainKeys := false, apart := false, laid := [("anabranch/sha.constants", laid_anabranch_sha_constants)] }
def FrontTellsSaid : Prop := frontTellsRow.holds Tryz.pinned (OpenSpec.ofChange frontTellsSpec)

/-- ITS FALSE NEIGHBOUR: 'it returns false'. Refute it at one input. -/
def frontTellsWrong : ChangeSpec := { name := "frontTells", fn := fun _ => fun
  | [d1, d2, d3, d4, d5] => { results := [.lit (.bool false)], args := [d1, d2, d3, d4, d5] }
  | _ => none }
def FrontTellsWrongFalsely : Prop := frontTellsRow.holds Tryz.pinned (OpenSpec.ofChange frontTellsWrong)

/-- 'anabranchlaw12.FrontJoins': WHATEVER THE INPUT: true; the input reads as it did. -/
def frontJoinsSpec : ChangeSpec := { name := "frontJoins", fn := fun _ => fun
  | [d1, d2, d3] => { results := [.lit (.bool true)], args := [d1, d2, d3] }
  | _ => none }
def frontJoinsRow : OpenClaim := { program := "ytechkdhehipliaagreatdoor", sum := "3893346188f2b95f3df34af2a0971bbddaa772206eef6c8168bc62a508446ea4", func := "anabranch/anabranchlaw12.FrontJoins", spec := "frontJoins", unfollowed := true, recurses := true, named := ["anabranch/sha.constants"], plainKeys := false, apart := false, laid := [("anabranch/sha.constants", laid_anabranch_sha_constants)] }
def FrontJoinsSaid : Prop := frontJoinsRow.holds Tryz.pinned (OpenSpec.ofChange frontJoinsSpec)

/-- ITS FALSE NEIGHBOUR: 'it returns false'. Refute it at one input. -/
def frontJoinsWrong : ChangeSpec := { name := "frontJoins", fn := fun _ => fun
  | [d1, d2, d3] => { results := [.lit (.bool false)], args := [d1, d2, d3] }
  | _ => none }
def FrontJoinsWrongFalsely : Prop := frontJoinsRow.holds Tryz.pinned (OpenSpec.ofChange frontJoinsWrong)

/-- 'anabranchlaw12.FrontSame': WHATEVER THE INPUT: true; the input reads as it did. -/
def frontSameSpec : ChangeSpec := { name := "frontSame", fn := fun _ => fun
  | [d1, d2] => { results := [.lit (.bool true)], args := [d1, d2] }
  | _ => none }
def frontSameRow : OpenClaim := { program := "ytechkdhehipliaagreatdoor", sum := "3893346188f2b95f3df34af2a0971bbddaa772206eef6c8168bc62a508446ea4", func := "anabranch/anabranchlaw12.FrontSame", spec := "frontSame", unfollowed := true, recurses := true, named := ["anabranch/sha.constants"], plainKeys := false, apart := false, laid := [("anabranch/sha.constants", laid_anabranch_sha_constants)] }
def FrontSameSaid : Prop := frontSameRow.holds Tryz.pinned (OpenSpec.ofChange frontSameSpec)

/-- ITS FALSE NEIGHBOUR: 'it returns false'. Refute it at one input. -/
def frontSameWrong : ChangeSpec := { name := "frontSame", fn := fun _ => fun
  | [d1, d2] => { results := [.lit (.bool false)], args := [d1, d2] }
  | _ => none }
def FrontSameWrongFalsely : Prop := frontSameRow.holds Tryz.pinned (OpenSpec.ofChange frontSameWrong)

/-- 'anabranchlaw12.FrontLast': WHATEVER THE INPUT: true; the input reads as it did. -/
def frontLastSpec : ChangeSpec := { name := "frontLast", fn := fun _ => fun
  | [d] => { results := [.lit (.bool true)], args := [d] }
  | _ => none }
def frontLastRow : OpenClaim := { program := "ytechkdhehipliaagreatdoor", sum := "3893346188f2b95f3df34af2a0971bbddaa772206eef6c8168bc62a508446ea4", func := "anabranch/anabranchlaw12.FrontLast", spec := "frontLast", unfollowed := true, recurses := true, named := ["anabranch/sha.constants"], plainKeys := false, apart := false, laid := [("anabranch/sha.constants", laid_anabranch_sha_constants)] }
def FrontLastSaid : Prop := frontLastRow.holds Tryz.pinned (OpenSpec.ofChange frontLastSpec)

/-- ITS FALSE NEIGHBOUR: 'it returns false'. Refute it at one input. -/
def frontLastWrong : ChangeSpec := { name := "frontLast", fn := fun _ => fun
  | [d] => { results := [.lit (.bool false)], args := [d] }
  | _ => none }
def FrontLastWrongFalsely : Prop := frontLastRow.holds Tryz.pinned (OpenSpec.ofChange frontLastWrong)

/-- 'anabranchlaw12.FrontNext': WHATEVER THE INPUT: true; the input reads as it did. -/
def frontNextSpec : ChangeSpec := { name := "frontNext", fn := fun _ => fun
  | [d1, d2, d3] => { results := [.lit (.bool true)], args := [d1, d2, d3] }
  | _ => none }
def frontNextRow : OpenClaim := { program := "ytechkdhehipliaagreatdoor", sum := "3893346188f2b95f3df34af2a0971bbddaa772206eef6c8168bc62a508446ea4", func := "anabranch/anabranchlaw12.FrontNext", spec := "frontNext", unfollowed := true, recurses := true, named := ["anabranch/sha.constants"], plainKeys := false, apart := false, laid := [("anabranch/sha.constants", laid_anabranch_sha_constants)] }
def FrontNextSaid : Prop := frontNextRow.holds Tryz.pinned (OpenSpec.ofChange frontNextSpec)

/-- ITS FALSE NEIGHBOUR: 'it returns false'. Refute it at one input. -/
def frontNextWrong : ChangeSpec := { name := "frontNext", fn := fun _ => fun
  | [d1, d2, d3] => { results := [.lit (.bool false)], args := [d1, d2, d3] }
  | _ => none }
def FrontNextWrongFalsely : Prop := frontNextRow.holds Tryz.pinned (OpenSpec.ofChange frontNextWrong)

/-- 'anabranchlaw12.FrontGen': WHATEVER THE INPUT: true; the input reads as it did. -/
def frontGenSpec : ChangeSpec := { name := "frontGen", fn := fun _ => fun
  | [d] => { results := [.lit (.bool true)], args := [d] }
  | _ => none }
def frontGenRow : OpenClaim := { program := "ytechkdhehipliaagreatdoor", sum := "3893346188f2b95f3df34af2a0971bbddaa772206eef6c8168bc62a508446ea4", func := "anabranch/anabranchlaw12.FrontGen", spec := "frontGen", unfollowed := true, recurses := true, named := ["anabranch/sha.constants"], plainKeys := false, apart := false, laid := [("anabranch/sha.constants", laid_anabranch_sha_constants)] }
def FrontGenSaid : Prop := frontGenRow.holds Tryz.pinned (OpenSpec.ofChange frontGenSpec)

/-- ITS FALSE NEIGHBOUR: 'it returns false'. Refute it at one input. -/
def frontGenWrong : ChangeSpec := { name := "frontGen", fn := fun _ => fun
  | [d] => { results := [.lit (.bool false)], args := [d] }
  | _ => none }
def FrontGenWrongFalsely : Prop := frontGenRow.holds Tryz.pinned (OpenSpec.ofChange frontGenWrong)

/-- 'anabranchlaw12.FrontBase': WHATEVER THE INPUT: true; the input reads as it did. -/
def frontBaseSpec : ChangeSpec := { name := "frontBase", fn := fun _ => fun
  | [d1, d2, d3, d4] => { results := [.lit (.bool true)], args := [d1, d2, d3, d4] }
  | _ => none }
def frontBaseRow : OpenClaim := { program := "ytechkdhehipliaagreatdoor", sum := "3893346188f2b95f3df34af2a0971bbddaa772206eef6c8168bc62a508446ea4", func := "anabranch/anabranchlaw12.FrontBase", spec := "frontBase", unfollowed := true, recurses := true, named := ["anabranch/sha.constants"], plainKeys := false, apart := false, laid := [("anabranch/sha.constants", laid_anabranch_sha_constants)] }
def FrontBaseSaid : Prop := frontBaseRow.holds Tryz.pinned (OpenSpec.ofChange frontBaseSpec)

/-- ITS FALSE NEIGHBOUR: 'it returns false'. Refute it at one input. -/
def frontBaseWrong : ChangeSpec := { name := "frontBase", fn := fun _ => fun
  | [d1, d2, d3, d4] => { results := [.lit (.bool false)], args := [d1, d2, d3, d4] }
  | _ => none }
def FrontBaseWrongFalsely : Prop := frontBaseRow.holds Tryz.pinned (OpenSpec.ofChange frontBaseWrong)

/- THE SECOND FORM. 'bulk': how many values and letters a reading holds, each counted each time it is reached (what is shared counts as often as it is met; a slice's spare places count too). A statement '..UptoSaid' is the law's where the arguments, and the package variables that the reading takes, are together of bulk at most 1048576: NARROWER than '..Said'. Prove '..Said' where nothing that the law and all that it calls make is longer than what came in: it says more and counts as full. Else prove '..UptoSaid'. A law counts once. -/
mutual
def uptoBulk {H : Type} : DataW H → Nat
  | .lit (.string bytes) => bytes.length + 1
  | .lit _ => 1
  | .nil => 1
  | .ptr d => uptoBulk d + 1
  | .slice elems spare => uptoBulkAll elems + uptoBulkAll spare + 1
  | .agg parts => uptoBulkAll parts + 1
  | .iface _ d => uptoBulk d + 1
  | .map entries => uptoBulkEntries entries + 1
  | .held _ => 1
def uptoBulkAll {H : Type} : List (DataW H) → Nat
  | [] => 0
  | d :: r => uptoBulk d + uptoBulkAll r
def uptoBulkEntries {H : Type} : List (Lit × DataW H) → Nat
  | [] => 0
  | x :: r => uptoBulkEntry x + uptoBulkEntries r
def uptoBulkEntry {H : Type} : Lit × DataW H → Nat
  | (.string bytes, d) => bytes.length + uptoBulk d + 1
  | (_, d) => uptoBulk d + 1
 end
def uptoSmall : (H : Type) → List (DataW H) → Bool := fun _ ds => decide (uptoBulkAll ds ≤ 1048576)
def OpenSpec.upto (s : _root_.Go.ChangeSpec) : _root_.Go.OpenSpec := { _root_.Go.OpenSpec.ofChange s with cond := some uptoSmall }

/-- 'anabranchlaw11.DagTells', WHERE WHAT IT READS IS OF BULK AT MOST 1048576: true; the input reads as it did. -/
def dagTellsUptoRow : OpenClaim := { program := "ytechkdhehipliaagreatdoor", sum := "3893346188f2b95f3df34af2a0971bbddaa772206eef6c8168bc62a508446ea4", func := "anabranch/anabranchlaw11.DagTells", spec := "dagTells", unfollowed := true, recurses := true, named := ["anabranch/sha.constants"], plainKeys := false, apart := false, laid := [("anabranch/sha.constants", laid_anabranch_sha_constants)], narrowed := true }
def DagTellsUptoSaid : Prop := dagTellsUptoRow.holds Tryz.pinned (OpenSpec.upto dagTellsSpec)

/-- 'anabranchlaw11.DagAnc', WHERE WHAT IT READS IS OF BULK AT MOST 1048576: true; the input reads as it did. -/
def dagAncUptoRow : OpenClaim := { program := "ytechkdhehipliaagreatdoor", sum := "3893346188f2b95f3df34af2a0971bbddaa772206eef6c8168bc62a508446ea4", func := "anabranch/anabranchlaw11.DagAnc", spec := "dagAnc", unfollowed := true, recurses := true, named := ["anabranch/sha.constants"], plainKeys := false, apart := false, laid := [("anabranch/sha.constants", laid_anabranch_sha_constants)], narrowed := true }
def DagAncUptoSaid : Prop := dagAncUptoRow.holds Tryz.pinned (OpenSpec.upto dagAncSpec)

/-- 'anabranchlaw12.FrontTells', WHERE WHAT IT READS IS OF BULK AT MOST 1048576: true; the input reads as it did. -/
def frontTellsUptoRow : OpenClaim := { program := "ytechkdhehipliaagreatdoor", sum := "3893346188f2b95f3df34af2a0971bbddaa772206eef6c8168bc62a508446ea4", func := "anabranch/anabranchlaw12.FrontTells", spec := "frontTells", unfollowed := true, recurses := true, named := ["anabranch/sha.constants"], plainKeys := false, apart := false, laid := [("anabranch/sha.constants", laid_anabranch_sha_constants)], narrowed := true }
def FrontTellsUptoSaid : Prop := frontTellsUptoRow.holds Tryz.pinned (OpenSpec.upto frontTellsSpec)

/-- 'anabranchlaw12.FrontJoins', WHERE WHAT IT READS IS OF BULK AT MOST 1048576: true; the input reads as it did. -/
def frontJoinsUptoRow : OpenClaim := { program := "ytechkdhehipliaagreatdoor", sum := "3893346188f2b95f3df34af2a0971bbddaa772206eef6c8168bc62a508446ea4", func := "anabranch/anabranchlaw12.FrontJoins", spec := "frontJoins", unfollowed := true, recurses := true, named := ["anabranch/sha.constants"], plainKeys := false, apart := false, laid := [("anabranch/sha.constants", laid_anabranch_sha_constants)], narrowed := true }
def FrontJoinsUptoSaid : Prop := frontJoinsUptoRow.holds Tryz.pinned (OpenSpec.upto frontJoinsSpec)

/-- 'anabranchlaw12.FrontSame', WHERE WHAT IT READS IS OF BULK AT MOST 1048576: true; the input reads as it did. -/
def frontSameUptoRow : OpenClaim := { program := "ytechkdhehipliaagreatdoor", sum := "3893346188f2b95f3df34af2a0971bbddaa772206eef6c8168bc62a508446ea4", func := "anabranch/anabranchlaw12.FrontSame", spec := "frontSame", unfollowed := true, recurses := true, named := ["anabranch/sha.constants"], plainKeys := false, apart := false, laid := [("anabranch/sha.constants", laid_anabranch_sha_constants)], narrowed := true }
def FrontSameUptoSaid : Prop := frontSameUptoRow.holds Tryz.pinned (OpenSpec.upto frontSameSpec)

/-- 'anabranchlaw12.FrontLast', WHERE WHAT IT READS IS OF BULK AT MOST 1048576: true; the input reads as it did. -/
def frontLastUptoRow : OpenClaim := { program := "ytechkdhehipliaagreatdoor", sum := "3893346188f2b95f3df34af2a0971bbddaa772206eef6c8168bc62a508446ea4", func := "anabranch/anabranchlaw12.FrontLast", spec := "frontLast", unfollowed := true, recurses := true, named := ["anabranch/sha.constants"], plainKeys := false, apart := false, laid := [("anabranch/sha.constants", laid_anabranch_sha_constants)], narrowed := true }
def FrontLastUptoSaid : Prop := frontLastUptoRow.holds Tryz.pinned (OpenSpec.upto frontLastSpec)

/-- 'anabranchlaw12.FrontNext', WHERE WHAT IT READS IS OF BULK AT MOST 1048576: true; the input reads as it did. -/
def frontNextUptoRow : OpenClaim := { program := "ytechkdhehipliaagreatdoor", sum := "3893346188f2b95f3df34af2a0971bbddaa772206eef6c8168bc62a508446ea4", func := "anabranch/anabranchlaw12.FrontNext", spec := "frontNext", unfollowed := true, recurses := true, named := ["anabranch/sha.constants"], plainKeys := false, apart := false, laid := [("anabranch/sha.constants", laid_anabranch_sha_constants)], narrowed := true }
def FrontNextUptoSaid : Prop := frontNextUptoRow.holds Tryz.pinned (OpenSpec.upto frontNextSpec)

/-- 'anabranchlaw12.FrontGen', WHERE WHAT IT READS IS OF BULK AT MOST 1048576: true; the input reads as it did. -/
def frontGenUptoRow : OpenClaim := { program := "ytechkdhehipliaagreatdoor", sum := "3893346188f2b95f3df34af2a0971bbddaa772206eef6c8168bc62a508446ea4", func := "anabranch/anabranchlaw12.FrontGen", spec := "frontGen", unfollowed := true, recurses := true, named := ["anabranch/sha.constants"], plainKeys := false, apart := false, laid := [("anabranch/sha.constants", laid_anabranch_sha_constants)], narrowed := true }
def FrontGenUptoSaid : Prop := frontGenUptoRow.holds Tryz.pinned (OpenSpec.upto frontGenSpec)

/-- 'anabranchlaw12.FrontBase', WHERE WHAT IT READS IS OF BULK AT MOST 1048576: true; the input reads as it did. -/
def frontBaseUptoRow : OpenClaim := { program := "ytechkdhehipliaagreatdoor", sum := "3893346188f2b95f3df34af2a0971bbddaa772206eef6c8168bc62a508446ea4", func := "anabranch/anabranchlaw12.FrontBase", spec := "frontBase", unfollowed := true, recurses := true, named := ["anabranch/sha.constants"], plainKeys := false, apart := false, laid := [("anabranch/sha.constants", laid_anabranch_sha_constants)], narrowed := true }
def FrontBaseUptoSaid : Prop := frontBaseUptoRow.holds Tryz.pinned (OpenSpec.upto frontBaseSpec)

end Rows
end Go.Proofs.YtechkdhehipliaaGreatDoor
