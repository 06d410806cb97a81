/- What the document's Knows of package dag returns: a contract. | What the document's one of package dag returns (is a commit fine, by its parents?): a contract. | What the document's Closed of package dag returns: a contract. | What the document's answers Sort, Both, Common and Without return: contracts. | What the document's Find, Part and Anc of package dag return: contracts. | What the walks of package wait's laws need of its three functions. No condition. | Plain facts that the laws of package wait lean on, round by round: what any of some commits is, what is missing, what waits behind some. No condition. | Parts of slices of structs, whatever their fields. No condition. -/
import Derived.Test.YteojkfbnenfmkaaDoorIdBJ5
import Derived.Test.YteojkfbnenfmkaaDoorDgR
import Derived.Deep.LoopGhost
import Derived.Test.YteojkfbnenfmkaaDoorIdV
import Derived.Maps.AppendAt
import Derived.Test.YteojkfbnenfmkaaDoorDgMJ2
import Derived.Test.YteojkfbnenfmkaaDoorPadMJ3
import Derived.Test.YteojkfbnenfmkaaDoorCmRJ6
import Derived.Test.YteojkfbnenfmkaaDoorRowS
namespace Go.Proofs.YteojkfbnenfmkaaDoor.DgK
set_option maxRecDepth 100000
open Go Go.Sort Go.RowKit Byt IdM IdW OpsM OpsW CmM StW CmW CmX CmY DgM DgN DgP DgW DgT DgR

end Go.Proofs.YteojkfbnenfmkaaDoor.DgK
namespace Go.Proofs.YteojkfbnenfmkaaDoor.DgO
set_option maxRecDepth 100000
open Go Go.Sort Go.RowKit Byt IdM IdW OpsM OpsW CmM StW CmW CmX CmY DgM DgN DgP DgW DgT DgR DgK
open Classical

end Go.Proofs.YteojkfbnenfmkaaDoor.DgO
namespace Go.Proofs.YteojkfbnenfmkaaDoor.DgC
set_option maxRecDepth 100000
open Go Go.Sort Go.RowKit Byt IdM IdW OpsM OpsW CmM StW CmW CmX CmY DgM DgN DgP DgW DgT DgR DgK DgO
open Classical

end Go.Proofs.YteojkfbnenfmkaaDoor.DgC
namespace Go.Proofs.YteojkfbnenfmkaaDoor.IdX
set_option maxRecDepth 100000
open Go Go.Sort Go.RowKit IdM Byt IdW IdC IdV IdB

/-- A part of a slice of ids. -/
theorem SlI.part {w : World} {A : Option Addr} {cap : Nat} {l : List Idn} (h : SlI w A cap l) (i j : Nat) (hij : i ≤ j) (hj : j ≤ l.length) :
    ∃ A' cap', sliced A i j cap 32 = .slice A' (j - i) cap' ∧ SlI w A' cap' ((l.drop i).take (j - i)) ∧ ((l.drop i).take (j - i)).length = j - i := by
  obtain ⟨h1, h2, h5⟩ := h
  have hl : ((l.drop i).take (j - i)).length = j - i := by simp; omega
  rcases h5 with ⟨rfl, rfl, rfl⟩ | ⟨x, rfl, hc⟩
  · simp at hj
    obtain rfl : j = 0 := hj
    obtain rfl : i = 0 := by omega
    exact ⟨none, 0, by simp [sliced], by simpa using SlI.nil w, hl⟩
  · by_cases hci : cap = i
    · refine ⟨some x, cap - i, by simp [sliced, hci], ⟨by rw [hl]; omega, by omega, .inr ⟨x, rfl, fun k hk => ?_⟩⟩, hl⟩
      rw [flat_length, hl] at hk
      omega
    · refine ⟨some (x.add (i * 32)), cap - i, by simp [sliced, hci], ⟨by rw [hl]; omega, by omega, .inr ⟨_, rfl, fun k hk => ?_⟩⟩, hl⟩
      have hk' := hk
      rw [flat_length, hl] at hk'
      rw [Addr.add_add, hc (i * 32 + k) (by rw [flat_length]; omega)]
      congr 2
      rw [flat_take, flat_drop, List.getD_eq_getElem?_getD, List.getD_eq_getElem?_getD, List.getElem?_take, if_pos (by omega), List.getElem?_drop]


end Go.Proofs.YteojkfbnenfmkaaDoor.IdX
namespace Go.Proofs.YteojkfbnenfmkaaDoor.DgF
set_option maxRecDepth 100000
open Go Go.Sort Go.RowKit Byt IdM IdW OpsM OpsW CmM StW CmW CmX CmY DgM DgN DgP DgW DgT DgR DgK DgO DgC
open Classical

/-- Commits in a slice are handed back. -/
def NewC (m : List Com) (w : World) (e : Ending) (w' : World) : Prop := ∃ A cap l, e = .returned (.slice A (List.length l) cap) ∧ SlK w' A cap l ∧ coms l = m ∧ Below w.heap.size w w'
theorem own_in {w : World} {base n : Nat} {v : Value} {l : List Cv} (h : w.ownsRow base 29 8 v n (RowS.flat KE l)) (he : ∀ x ∈ l, In w x ∧ Fit x.c) : ∃ A cap, v = .slice A l.length cap ∧ SlK w A cap l := by
  obtain ⟨A, cap, e, S⟩ := RowS.SlR.own (E := KE) h
  exact ⟨A, cap, e, S, he⟩
end Go.Proofs.YteojkfbnenfmkaaDoor.DgF
namespace Go.Proofs.YteojkfbnenfmkaaDoor.WtF
set_option maxRecDepth 100000
open Go Go.Sort Go.RowKit Byt IdM IdW OpsM OpsW CmM StW CmW CmX CmY DgM DgW DgR DgF WtM
open Classical

/-- What a call tells of the first one that is ready, and the others. -/
def ReadyOut (l : List Com) (h : List Idn) (w : World) (e : Ending) (w' : World) : Prop :=
  ∃ v A cap r, e = .returned (.tuple #[.agg (cc v), .slice A (List.length r) cap, .bool (readyI l h).isSome]) ∧ v.c = readyC l h ∧ In w' v ∧ Fit v.c ∧ coms r = readyR l h ∧ SlK w' A cap r ∧ Below w.heap.size w w'
/-- Few commits of few parents. -/
def Few20 (l : List Cv) : Prop := l.length ≤ 20 ∧ ∀ v ∈ l, v.c.ps.length ≤ 20
structure Put1 : Prop where
  put : ∀ (A : Option Addr) (cap : Nat) (l : List Cv) (v : Cv) (w : World), SlK w A cap l → Few20 l → In w v → Fit v.c → v.c.ps.length ≤ 20 → ShaE.KIn w → Calls Tryd.prog 11 #[.slice A l.length cap, .agg (cc v)] w (NewC (putW (coms l) v.c) w)
structure Ready1 : Prop where
  ready : ∀ (A A' : Option Addr) (cap cap' : Nat) (l : List Cv) (h : List Idn) (w : World), SlK w A cap l → Few20 l → SlI w A' cap' h → h.length ≤ 20 → ShaE.KIn w → Calls Tryd.prog 16 #[.slice A l.length cap, .slice A' h.length cap'] w (ReadyOut (coms l) h w)
structure Missing1 : Prop where
  missing : ∀ (A A' : Option Addr) (cap cap' : Nat) (l : List Cv) (h : List Idn) (w : World), SlK w A cap l → Few20 l → SlI w A' cap' h → h.length ≤ 20 → ShaE.KIn w → Calls Tryd.prog 18 #[.slice A l.length cap, .slice A' h.length cap'] w (NewD (missW hashK (coms l) h) w)
end Go.Proofs.YteojkfbnenfmkaaDoor.WtF
namespace Go.Proofs.YteojkfbnenfmkaaDoor.WtN
set_option maxRecDepth 100000
open IdM CmM CmY DgM WtM
open Classical

/-- Any of the first ones, with one more. -/
theorem any_step {α : Type} {l : List α} {i : Nat} {x : α} (p : α → Bool) (h : l[i]? = some x) : (l.take (i + 1)).any p = ((l.take i).any p || p x) := by
  obtain ⟨hi, e⟩ := List.getElem?_eq_some_iff.1 h
  rw [List.take_succ_eq_append_getElem hi, e, List.any_append]
  simp
/-- All put, with one more. -/
theorem allW_step {l : List Com} {i : Nat} {c : Com} (h : l[i]? = some c) : allW (l.take (i + 1)) = putW (allW (l.take i)) c := by
  obtain ⟨hi, e⟩ := List.getElem?_eq_some_iff.1 h
  unfold allW
  rw [List.take_succ_eq_append_getElem hi, e, List.foldl_append]
  rfl
/-- Is one among some the same? -/
theorem any_same (l : List Com) (c : Com) : (l.any fun d => CmR.sameK d c) = decide (c ∈ l) := by
  rw [Bool.eq_iff_iff, List.any_eq_true, decide_eq_true_eq]
  constructor
  · rintro ⟨d, hd, e⟩
    rwa [← CmR.sameK_iff.1 e]
  · exact fun h => ⟨c, h, CmR.sameK_iff.2 rfl⟩
/-- Is a commit's own hash this one? -/
theorem own_iff (c : Com) (a : Idn) : (decide (putN c = 0) && decide (hashI c = a)) = (mayK c && decide (hashK c = a)) := by
  cases h : mayK c with
  | false =>
    obtain ⟨_, h2, _⟩ := putB_no h
    rw [h2]
    simp
  | true =>
    obtain ⟨_, h2, h3⟩ := putB_yes h
    rw [h2, h3]
    simp
/-- What is missing, told by what the rounds have gathered. -/
theorem miss_is (l : List Com) (h : List Idn) (a : Idn) : decide (a ∈ missW hashK l h) = ((l.any fun c => decide (a ∈ c.ps)) && (!(l.any fun c => mayK c && decide (hashK c = a)) && !decide (a ∈ h))) := by
  rw [Bool.eq_iff_iff, decide_eq_true_eq, mem_missW]
  simp only [Bool.and_eq_true, List.any_eq_true, decide_eq_true_eq, Bool.not_eq_true', decide_eq_false_iff_not]
  constructor
  · rintro ⟨h1, h2, h3⟩
    refine ⟨h1, ?_, h2⟩
    rw [Bool.eq_false_iff]
    intro hn
    rw [List.any_eq_true] at hn
    obtain ⟨c, hc, e⟩ := hn
    rw [Bool.and_eq_true, decide_eq_true_eq] at e
    exact h3 ⟨c, hc, e.1, e.2⟩
  · rintro ⟨h1, h2, h3⟩
    refine ⟨h1, h3, ?_⟩
    rintro ⟨c, hc, e1, e2⟩
    rw [Bool.eq_false_iff] at h2
    exact h2 (List.any_eq_true.2 ⟨c, hc, by rw [e1, Bool.true_and, decide_eq_true_eq]; exact e2⟩)
/-- One more that is not ready. -/
theorem busy_step {l : List Com} {h : List Idn} {i : Nat} {c : Com} (hi : l[i]? = some c) (hb : ∀ j d, j < i → l[j]? = some d → freeB h d = false) (hf : freeB h c = false) : ∀ j d, j < i + 1 → l[j]? = some d → freeB h d = false := by
  intro j d hj hd
  by_cases e : j = i
  · subst e
    rw [hi] at hd
    cases hd
    exact hf
  · exact hb j d (by omega) hd
theorem busy_all {l : List Com} {h : List Idn} (hb : ∀ j d, j < l.length → l[j]? = some d → freeB h d = false) : readyI l h = none := by
  refine readyI_no fun c hc => ?_
  obtain ⟨j, hj, e⟩ := List.mem_iff_getElem.1 hc
  exact hb j c hj (by rw [List.getElem?_eq_getElem hj, e])
end Go.Proofs.YteojkfbnenfmkaaDoor.WtN
namespace Go.Proofs.YteojkfbnenfmkaaDoor.RowP
set_option maxRecDepth 100000
open Go Go.RowKit Byt RowS

variable {α : Type} (E : Enc α)
theorem size_e (w : World) : (sizeOf (Tryd.prog.elem E.S)).run Tryd.prog w = .ok E.k w := by
  obtain ⟨i, hi, z0, z1, _⟩ := info_parts E.info
  rw [E.elem]
  simp [sizeOf, typeInfo, hi, z1]
theorem under_e : Tryd.prog.underlying E.S = some (.slice (Tryd.prog.elem E.S)) := by rw [E.elem, E.slice]
theorem run_part_h (w : World) (A : Option Addr) (len cap : Nat) (k : IntKind) (j : Nat) (hj : j ≤ cap) :
    (Instr.sliceAt E.S (.slice A len cap) none (some (.int k j)) none).run Tryd.prog w = .ok (sliced A 0 j cap E.k) w := by
  rw [run_sliceAt_slice w _ _ _ _ _ (under_e E), run_slice_h w _ A len cap (under_e E) k j (by omega) (by omega), size_e]
  simp [Result.andThen]
theorem run_part_l (w : World) (A : Option Addr) (len cap : Nat) (k : IntKind) (i : Nat) (hi : i ≤ len) :
    (Instr.sliceAt E.S (.slice A len cap) (some (.int k i)) none none).run Tryd.prog w = .ok (sliced A i len cap E.k) w := by
  rw [run_sliceAt_slice w _ _ _ _ _ (under_e E), run_slice_l w _ A len cap (under_e E) k i (by omega) (by omega), size_e]
  simp [Result.andThen]
variable {E}
/-- The first ones of a slice. -/
theorem ahead {w : World} {A : Option Addr} {cap : Nat} {l : List α} (S : SlR E w A cap l) (j : Nat) (hj : j ≤ l.length) :
    ∃ A' cap', (∀ (W : World) (k : IntKind), (Instr.sliceAt E.S (.slice A l.length cap) none (some (.int k j)) none).run Tryd.prog W = .ok (.slice A' j cap') W) ∧ SlR E w A' cap' (l.take j) := by
  obtain ⟨A', cap', h1, h2, _⟩ := SlR.part S 0 j (Nat.zero_le _) hj
  refine ⟨A', cap', fun W k => ?_, by simpa using h2⟩
  rw [run_part_h E W A l.length cap k j (by have := S.1; omega), h1, Nat.sub_zero]
/-- The others. -/
theorem behind {w : World} {A : Option Addr} {cap : Nat} {l : List α} (S : SlR E w A cap l) (i : Nat) (hi : i ≤ l.length) :
    ∃ A' cap', (∀ (W : World) (k : IntKind), (Instr.sliceAt E.S (.slice A l.length cap) (some (.int k i)) none none).run Tryd.prog W = .ok (.slice A' (l.length - i) cap') W) ∧ SlR E w A' cap' (l.drop i) := by
  obtain ⟨A', cap', h1, h2, _⟩ := SlR.part S i l.length hi (Nat.le_refl _)
  refine ⟨A', cap', fun W k => ?_, ?_⟩
  · rw [run_part_l E W A l.length cap k i hi, h1]
  · rwa [List.take_of_length_le (by simp)] at h2
end Go.Proofs.YteojkfbnenfmkaaDoor.RowP
