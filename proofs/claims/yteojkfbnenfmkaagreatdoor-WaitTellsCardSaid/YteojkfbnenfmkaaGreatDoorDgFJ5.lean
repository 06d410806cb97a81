/- What the document's Find, Part and Anc of package dag return: contracts. | What the walks of package wait's laws need of its three functions. No condition. | As Grow, where the last operation may write what was there: it waits for all others. No condition. | As GrowL, where operations that act need not wait for one another: of these every order is walked, as a tree; what only reads is taken first. No condition. | Parts of slices of structs, whatever their fields. No condition. -/
import Derived.Test.YteojkfbnenfmkaaGreatDoorForksJ6
import Derived.Test.YteojkfbnenfmkaaGreatDoorIdX
import Derived.Test.YteojkfbnenfmkaaGreatDoorDgMJ4
import Derived.Test.YteojkfbnenfmkaaGreatDoorPadMJ3
import Derived.Test.YteojkfbnenfmkaaGreatDoorRowSJ2
namespace Go.Proofs.YteojkfbnenfmkaaGreatDoor.DgF
set_option maxRecDepth 100000
open Go Go.Sort Go.RowKit Byt IdM IdW OpsM OpsW CmM StW CmW CmX CmY DgM DgN DgP DgW DgT DgR DgK DgO DgC
open Classical

/-- Commits in a slice are handed back. -/
def NewC (m : List Com) (w : World) (e : Ending) (w' : World) : Prop := ∃ A cap l, e = .returned (.slice A (List.length l) cap) ∧ SlK w' A cap l ∧ coms l = m ∧ Below w.heap.size w w'
theorem own_in {w : World} {base n : Nat} {v : Value} {l : List Cv} (h : w.ownsRow base 29 8 v n (RowS.flat KE l)) (he : ∀ x ∈ l, In w x ∧ Fit x.c) : ∃ A cap, v = .slice A l.length cap ∧ SlK w A cap l := by
  obtain ⟨A, cap, e, S⟩ := RowS.SlR.own (E := KE) h
  exact ⟨A, cap, e, S, he⟩
end Go.Proofs.YteojkfbnenfmkaaGreatDoor.DgF
namespace Go.Proofs.YteojkfbnenfmkaaGreatDoor.WtF
set_option maxRecDepth 100000
open Go Go.Sort Go.RowKit Byt IdM IdW OpsM OpsW CmM StW CmW CmX CmY DgM DgW DgR DgF WtM
open Classical

/-- What a call tells of the first one that is ready, and the others. -/
def ReadyOut (l : List Com) (h : List Idn) (w : World) (e : Ending) (w' : World) : Prop :=
  ∃ v A cap r, e = .returned (.tuple #[.agg (cc v), .slice A (List.length r) cap, .bool (readyI l h).isSome]) ∧ v.c = readyC l h ∧ In w' v ∧ Fit v.c ∧ coms r = readyR l h ∧ SlK w' A cap r ∧ Below w.heap.size w w'
/-- Few commits of few parents. -/
def Few20 (l : List Cv) : Prop := l.length ≤ 20 ∧ ∀ v ∈ l, v.c.ps.length ≤ 20
structure Put1 : Prop where
  put : ∀ (A : Option Addr) (cap : Nat) (l : List Cv) (v : Cv) (w : World), SlK w A cap l → Few20 l → In w v → Fit v.c → v.c.ps.length ≤ 20 → ShaE.KIn w → Calls Tryz.prog 8 #[.slice A l.length cap, .agg (cc v)] w (NewC (putW (coms l) v.c) w)
structure Ready1 : Prop where
  ready : ∀ (A A' : Option Addr) (cap cap' : Nat) (l : List Cv) (h : List Idn) (w : World), SlK w A cap l → Few20 l → SlI w A' cap' h → h.length ≤ 20 → ShaE.KIn w → Calls Tryz.prog 10 #[.slice A l.length cap, .slice A' h.length cap'] w (ReadyOut (coms l) h w)
structure Missing1 : Prop where
  missing : ∀ (A A' : Option Addr) (cap cap' : Nat) (l : List Cv) (h : List Idn) (w : World), SlK w A cap l → Few20 l → SlI w A' cap' h → h.length ≤ 20 → ShaE.KIn w → Calls Tryz.prog 14 #[.slice A l.length cap, .slice A' h.length cap'] w (NewD (missW hashK (coms l) h) w)
end Go.Proofs.YteojkfbnenfmkaaGreatDoor.WtF
namespace Go.Proofs.YteojkfbnenfmkaaGreatDoor.GrowL
set_option maxRecDepth 100000
open Go Go.Sort Go.RowKit

section
variable {P : Program} {ops : Array Oper} {Q : Exit → Act → World → Prop} {md : Region.Mode}

/-- Operation j waits for operation i, straight or by others. -/
def ahead (md : Region.Mode) (ops : Array Oper) (i : Nat) : Nat → Nat → Bool
  | 0, _ => false
  | fuel + 1, j => match ops[j]? with
    | none => false
    | some o => o.after.toList.any fun e => Region.binds md e && (e.on == i || ahead md ops i fuel e.on)
/-- What is listed has all listed that it waits for. -/
def Shut (md : Region.Mode) (ops : Array Oper) (listed : Array Bool) : Prop :=
  ∀ j o, ops[j]? = some o → listed.getD j false = true → ∀ e ∈ o.after, Region.binds md e = true → listed.getD e.on false = true
theorem Shut.none (n : Nat) : Shut md ops (Array.replicate n false) := fun j o _ hl => by
  by_cases h : j < n
  · simp [h] at hl
  · simp [h] at hl
theorem Shut.set {i : Nat} {listed : Array Bool} (h : Shut md ops listed) (hi : i ∈ Region.ready md ops listed) : Shut md ops (listed.setIfInBounds i true) := by
  intro j o ho hl e he hb
  refine getD_set_true ?_
  by_cases hij : i = j
  · subst hij
    obtain ⟨_, o', ho', hall⟩ := mem_ready.1 hi
    obtain rfl : o = o' := Option.some.inj (ho.symm.trans ho')
    exact hall e he hb
  · rw [getD_set_ne false hij] at hl
    exact h j o ho hl e he hb
theorem ahead_listed {i : Nat} {listed : Array Bool} (hS : Shut md ops listed) : ∀ (fuel j : Nat), ahead md ops i fuel j = true → (listed.getD j false = true ∨ j ∈ Region.ready md ops listed) → listed.getD i false = true
  | 0, _, h, _ => by simp [ahead] at h
  | fuel + 1, j, h, hj => by
    unfold ahead at h
    cases ho : ops[j]? with
    | none => rw [ho] at h; cases h
    | some o =>
      rw [ho] at h
      simp only [List.any_eq_true, Bool.and_eq_true, Bool.or_eq_true, beq_iff_eq] at h
      obtain ⟨e, he, hb, h⟩ := h
      have he : e ∈ o.after := Array.mem_toList_iff.1 he
      have hl : listed.getD e.on false = true := by
        rcases hj with hj | hj
        · exact hS j o ho hj e he hb
        · obtain ⟨_, o', ho', hall⟩ := mem_ready.1 hj
          obtain rfl : o = o' := Option.some.inj (ho.symm.trans ho')
          exact hall e he hb
      rcases h with h | h
      · rw [← h]; exact hl
      · exact ahead_listed hS fuel e.on h (.inl hl)
theorem not_both {i : Nat} {listed : Array Bool} (h1 : listed.getD i true = false) (h2 : listed.getD i false = true) : False := by
  by_cases hlt : i < listed.size
  · simp [hlt] at h1 h2
    rw [h1] at h2
    cases h2
  · simp [Array.getElem?_eq_none (Nat.le_of_not_lt hlt)] at h2

/-- Whatever order is picked from here on, and each operation but L leaves all that was there as it was. -/
def M (L : Nat) (P : Program) (md : Region.Mode) (ops : Array Oper) (Q : Exit → Act → World → Prop) : Nat → Array Bool → Act → World → Prop
  | 0, listed, a, w => Region.ready md ops listed = [] ∧ Q .normal a w
  | fuel + 1, listed, a, w => (Region.ready md ops listed = [] → Q .normal a w) ∧
    ∀ i ∈ Region.ready md ops listed, wpOp P ops Q i (fun a' w' => (i ≠ L → Below w.heap.size w w') ∧ M L P md ops Q fuel (listed.setIfInBounds i true) a' w') a w
theorem M.any {L : Nat} : ∀ (fuel : Nat) (listed : Array Bool) (a : Act) (w : World), M L P md ops Q fuel listed a w → wpAny P md ops Q fuel listed a w
  | 0, _, _, _, h => h
  | fuel + 1, _, _, _, h => ⟨h.1, fun i hi => wpOp_mono (fun a' w' h' => M.any fuel _ a' w' h'.2) (h.2 i hi)⟩

/-- An operation that only reads, and that L waits for, may come first. -/
theorem M.first {L i : Nat} {oi : Oper} {v : Value} (hi : ops[i]? = some oi) (hs : Region.noSelect ops = true) {af : Nat} (hA : ahead md ops i af L = true)
    (hQ : ∀ c a w, Q (.panic c) (a.put oi.dst v) w → Q (.panic c) a w) (fuel : Nat) :
    ∀ (listed : Array Bool) (a : Act) (w : World), Shut md ops listed →
      (∀ j oj, ops[j]? = some oj → j ≠ i → listed.getD j true = false → (∀ e ∈ oj.after, Region.binds md e = true → e.on ≠ i) → oi.apart ops oj = true) →
      i ∈ Region.ready md ops listed → YieldsIf P ops (Below w.heap.size w) oi v a →
      M L P md ops Q fuel (listed.setIfInBounds i true) (a.put oi.dst v) w → M L P md ops Q (fuel + 1) listed a w := by
  have sel := fun (j : Nat) (o : Oper) (cs : Array SelectCase) (b : Bool) (h : ops[j]? = some o) => Region.noSelect_spec hs j o cs b h
  induction fuel with
  | zero =>
    intro listed a w _ _ hr hy H
    refine ⟨fun h0 => absurd hr (by rw [h0]; simp), fun j hj => ?_⟩
    by_cases e : j = i
    · subst e
      exact hy.wpOp hi (Below.refl _ _) ⟨fun _ => Below.refl _ _, H⟩
    · exact absurd (ready_mono hj e) (by rw [H.1]; simp)
  | succ fuel ih =>
    intro listed a w hS hf hr hy H
    refine ⟨fun h0 => absurd hr (by rw [h0]; simp), fun j hj => ?_⟩
    by_cases e : j = i
    · subst e
      exact hy.wpOp hi (Below.refl _ _) ⟨fun _ => Below.refl _ _, H⟩
    · have hjL : j ≠ L := by
        rintro rfl
        exact not_both (mem_ready.1 hr).1 (ahead_listed hS af j hA (.inr hj))
      have hstep := H.2 j (ready_mono hj e)
      obtain ⟨hun, oj, hoj, hall⟩ := mem_ready.1 hj
      have hno : ∀ x ∈ oj.after, Region.binds md x = true → x.on ≠ i := by
        intro x hx hb hxi
        have p1 := hall x hx hb
        rw [hxi] at p1
        exact not_both (mem_ready.1 hr).1 p1
      refine wpOp_mono (fun a' w' h3 => ⟨h3.2.1, ?_⟩) (wpOp_putIf hoj (hf j oj hoj e hun hno) (fun cs b => sel i oi cs b hi) (fun cs b => sel j oj cs b hoj) hQ hy hstep)
      obtain ⟨y1, y2, y3⟩ := h3
      refine ih (listed.setIfInBounds j true) a' w' (hS.set hj) (fun k ok hk hki hku hkn => hf k ok hk hki ?_ hkn) (ready_mono hr (fun h => e h.symm)) (Grow.later y1 (y2 hjL)) ?_
      · by_cases ejk : j = k
        · subst ejk; exact hun
        · rwa [getD_set_ne true ejk] at hku
      · rw [Array.setIfInBounds_comm _ _ e]
        exact y3

/-- As Grow.plain, checks for nil besides. -/
def plain (o : Oper) : Bool := match o.op with
  | .nilCheck _ => true
  | _ => Grow.plain o




end
end Go.Proofs.YteojkfbnenfmkaaGreatDoor.GrowL
namespace Go.Proofs.YteojkfbnenfmkaaGreatDoor.GrowT
set_option maxRecDepth 100000
open Go Go.Sort Go.RowKit GrowL
open Forks (Tree One)

section
variable {P : Program} {ops : Array Oper} {Q : Exit → Act → World → Prop} {md : Region.Mode}

/-- What is asked of a tree. -/
def treeB (L : Nat) (md : Region.Mode) (ops : Array Oper) : Tree → Array Bool → Bool
  | .ends, listed => (Region.ready md ops listed).isEmpty
  | .free i t, listed => ((Region.ready md ops listed).contains i && Region.free md ops listed i && ((ops[i]?).map GrowL.plain).getD false && GrowL.ahead md ops i ops.size L) && treeB L md ops t (listed.setIfInBounds i true)
  | .act i t, listed => Region.ready md ops listed == [i] && treeB L md ops t (listed.setIfInBounds i true)
  | .two i t j u, listed => Region.ready md ops listed == [i, j] && (t.size == u.size && (treeB L md ops t (listed.setIfInBounds i true) && treeB L md ops u (listed.setIfInBounds j true)))
/-- What is asked of each operation, in these orders. -/
def Seq (L : Nat) (P : Program) (ops : Array Oper) (Q : Exit → Act → World → Prop) : Tree → Act → World → Prop
  | .ends, a, w => Q .normal a w
  | .free i t, a, w => ∃ o, ops[i]? = some o ∧ ∃ v, YieldsIf P ops (Below w.heap.size w) o v a ∧ Seq L P ops Q t (a.put o.dst v) w
  | .act i t, a, w => One P ops Q i (fun a' w' => Below w.heap.size w w' ∧ Seq L P ops Q t a' w') a w ∨ (i = L ∧ One P ops Q i (fun a' w' => Seq L P ops Q t a' w') a w)
  | .two i t j u, a, w => One P ops Q i (fun a' w' => Below w.heap.size w w' ∧ Seq L P ops Q t a' w') a w ∧ One P ops Q j (fun a' w' => Below w.heap.size w w' ∧ Seq L P ops Q u a' w') a w

theorem seq_M {L : Nat} (hs : Region.noSelect ops = true) (hQ : ∀ c a d v w, Q (.panic c) (a.put d v) w → Q (.panic c) a w) : ∀ (t : Tree) (listed : Array Bool) (a : Act) (w : World), Shut md ops listed →
    treeB L md ops t listed = true → Seq L P ops Q t a w → M L P md ops Q t.size listed a w
  | .ends, listed, a, w, _, hB, h => ⟨by simpa [treeB] using hB, h⟩
  | .free i t, listed, a, w, hS, hB, ⟨o, ho, v, hy, h⟩ => by
    simp only [treeB, Bool.and_eq_true] at hB
    obtain ⟨⟨⟨⟨h1, h2⟩, _⟩, h3⟩, h4⟩ := hB
    have hr : i ∈ Region.ready md ops listed := by simpa using h1
    exact M.first ho hs h3 (fun c a w => hQ c a o.dst v w) t.size listed a w hS (Region.free_spec ho h2) hr hy (seq_M hs hQ t _ _ _ (hS.set hr) h4 h)
  | .act i t, listed, a, w, hS, hB, h => by
    simp only [treeB, Bool.and_eq_true, beq_iff_eq] at hB
    obtain ⟨h1, h4⟩ := hB
    have hS' : Shut md ops (listed.setIfInBounds i true) := hS.set (by rw [h1]; simp)
    refine ⟨fun h0 => (by rw [h1] at h0; cases h0), fun j hj => ?_⟩
    rw [h1] at hj
    obtain rfl : j = i := by simpa using hj
    rcases h with h | ⟨e, h⟩
    · exact h.op (fun a' w' hh => ⟨fun _ => hh.1, seq_M hs hQ t _ _ _ hS' h4 hh.2⟩)
    · exact h.op (fun a' w' hh => ⟨fun hne => absurd e hne, seq_M hs hQ t _ _ _ hS' h4 hh⟩)
  | .two i t j u, listed, a, w, hS, hB, h => by
    simp only [treeB, Bool.and_eq_true, beq_iff_eq] at hB
    obtain ⟨h1, h2, h3, h4⟩ := hB
    have hI : Shut md ops (listed.setIfInBounds i true) := hS.set (by rw [h1]; simp)
    have hJ : Shut md ops (listed.setIfInBounds j true) := hS.set (by rw [h1]; simp)
    refine ⟨fun h0 => (by rw [h1] at h0; cases h0), fun k hk => ?_⟩
    rw [h1] at hk
    obtain rfl | rfl : k = i ∨ k = j := by simpa using hk
    · exact h.1.op (fun a' w' hh => ⟨fun _ => hh.1, seq_M hs hQ t _ _ _ hI h3 hh.2⟩)
    · exact h.2.op (fun a' w' hh => ⟨fun _ => hh.1, by rw [h2]; exact seq_M hs hQ u _ _ _ hJ h4 hh.2⟩)

/-- These orders serve every order. -/
theorem region (L : Nat) {id : Nat} {a : Act} {w : World} {l : List Oper} (t : Tree) (hm : P.follows .mixedOrders = true) (hs : Region.noSelect l.toArray = true)
    (hl : t.size = l.toArray.size) (hB : treeB L .any l.toArray t (Array.replicate l.toArray.size false) = true) (hQ : ∀ c a d v w, Q (.panic c) (a.put d v) w → Q (.panic c) a w)
    (h : Seq L P l.toArray Q t a w.drew) : (Code.region id l.toArray true).wp P Q a w := by
  refine wp_region_any hm (M.any (L := L) _ _ _ _ ?_)
  have := seq_M (md := .any) hs hQ t (Array.replicate l.toArray.size false) a w.drew (Shut.none _) hB h
  rw [hl] at this
  exact this

/-- One operation that only reads: in every world that grew from this one it yields one and the same. -/
theorem reads {L : Nat} {l : List Oper} {i : Nat} {o : Oper} {t : Tree} {a : Act} {w : World} (hn : Grow.nth l i = some o) (hp : Grow.plain o = true)
    (h : wpQuiet P l.toArray (fun w' => ∃ p : Regrown, w' = grow (redrawn w p.d) p.os) (fun a' => Seq L P l.toArray Q t a' w) [o] a) : Seq L P l.toArray Q (.free i t) a w := by
  have ho := (Grow.nth_at l i).trans hn
  unfold wpQuiet at h
  split at h
  · rename_i hw
    obtain ⟨v, h1, h2⟩ := h
    refine ⟨o, ho, v, .inl ⟨hw, fun u hu => ?_⟩, h2⟩
    have q := h1 u (regrown_of_below hu)
    unfold Oper.quietAt at q
    cases hx : (execOp a.eval o).run P u with
    | ok n u' =>
      obtain ⟨x, rfl⟩ := Grow.plain_value hp hx
      rw [hx] at q
      obtain ⟨rfl, rfl⟩ := q
      rfl
    | halt x u' => rw [hx] at q; exact q.elim
  · rename_i hw
    exact ⟨o, ho, undef, .inr ⟨by simpa using hw, rfl⟩, h⟩
/-- What follows an operation that leaves all that was there. -/
def On (L : Nat) (P : Program) (ops : Array Oper) (Q : Exit → Act → World → Prop) (t : Tree) (w : World) (a' : Act) (w' : World) : Prop := Below w.heap.size w w' ∧ Seq L P ops Q t a' w'
/-- One operation that acts, and waits for all others but those behind it. -/
theorem acts {L : Nat} {l : List Oper} {i : Nat} {o : Oper} {t : Tree} {a : Act} {w : World} (hn : Grow.nth l i = some o)
    (h : wpList P l.toArray (Exit.then (On L P l.toArray Q t w) Q) [o] a w) : Seq L P l.toArray Q (.act i t) a w :=
  .inl ⟨o, (Grow.nth_at l i).trans hn, h⟩
/-- Two that act, in either order. -/
theorem forks {L : Nat} {l : List Oper} {i j : Nat} {o p : Oper} {t u : Tree} {a : Act} {w : World} (hn : Grow.nth l i = some o) (hm : Grow.nth l j = some p)
    (h : wpList P l.toArray (Exit.then (On L P l.toArray Q t w) Q) [o] a w) (h' : wpList P l.toArray (Exit.then (On L P l.toArray Q u w) Q) [p] a w) : Seq L P l.toArray Q (.two i t j u) a w :=
  ⟨⟨o, (Grow.nth_at l i).trans hn, h⟩, ⟨p, (Grow.nth_at l j).trans hm, h'⟩⟩
/-- What follows operation L, where others wait for it. -/
def Mid (L : Nat) (P : Program) (ops : Array Oper) (Q : Exit → Act → World → Prop) (t : Tree) (a' : Act) (w' : World) : Prop := Seq L P ops Q t a' w'
theorem mid {L : Nat} {l : List Oper} {o : Oper} {t : Tree} {a : Act} {w : World} (hn : Grow.nth l L = some o)
    (h : wpList P l.toArray (Exit.then (Mid L P l.toArray Q t) Q) [o] a w) : Seq L P l.toArray Q (.act L t) a w :=
  .inr ⟨rfl, o, (Grow.nth_at l L).trans hn, h⟩
theorem on_mid {L : Nat} {t : Tree} {a : Act} {w : World} (h : Seq L P ops Q t a w) : Mid L P ops Q t a w := h
theorem ends {L : Nat} {a : Act} {w : World} (h : Q .normal a w) : Seq L P ops Q .ends a w := h
end
end Go.Proofs.YteojkfbnenfmkaaGreatDoor.GrowT
namespace Go.Proofs.YteojkfbnenfmkaaGreatDoor.RowP
set_option maxRecDepth 100000
open Go Go.RowKit Byt RowS

variable {α : Type} (E : Enc α)
theorem size_e (w : World) : (sizeOf (Tryz.prog.elem E.S)).run Tryz.prog w = .ok E.k w := by
  obtain ⟨i, hi, z0, z1, _⟩ := info_parts E.info
  rw [E.elem]
  simp [sizeOf, typeInfo, hi, z1]
theorem under_e : Tryz.prog.underlying E.S = some (.slice (Tryz.prog.elem E.S)) := by rw [E.elem, E.slice]
theorem run_part_h (w : World) (A : Option Addr) (len cap : Nat) (k : IntKind) (j : Nat) (hj : j ≤ cap) :
    (Instr.sliceAt E.S (.slice A len cap) none (some (.int k j)) none).run Tryz.prog w = .ok (sliced A 0 j cap E.k) w := by
  rw [run_sliceAt_slice w _ _ _ _ _ (under_e E), run_slice_h w _ A len cap (under_e E) k j (by omega) (by omega), size_e]
  simp [Result.andThen]
theorem run_part_l (w : World) (A : Option Addr) (len cap : Nat) (k : IntKind) (i : Nat) (hi : i ≤ len) :
    (Instr.sliceAt E.S (.slice A len cap) (some (.int k i)) none none).run Tryz.prog w = .ok (sliced A i len cap E.k) w := by
  rw [run_sliceAt_slice w _ _ _ _ _ (under_e E), run_slice_l w _ A len cap (under_e E) k i (by omega) (by omega), size_e]
  simp [Result.andThen]
variable {E}
/-- The first ones of a slice. -/
theorem ahead {w : World} {A : Option Addr} {cap : Nat} {l : List α} (S : SlR E w A cap l) (j : Nat) (hj : j ≤ l.length) :
    ∃ A' cap', (∀ (W : World) (k : IntKind), (Instr.sliceAt E.S (.slice A l.length cap) none (some (.int k j)) none).run Tryz.prog W = .ok (.slice A' j cap') W) ∧ SlR E w A' cap' (l.take j) := by
  obtain ⟨A', cap', h1, h2, _⟩ := SlR.part S 0 j (Nat.zero_le _) hj
  refine ⟨A', cap', fun W k => ?_, by simpa using h2⟩
  rw [run_part_h E W A l.length cap k j (by have := S.1; omega), h1, Nat.sub_zero]
/-- The others. -/
theorem behind {w : World} {A : Option Addr} {cap : Nat} {l : List α} (S : SlR E w A cap l) (i : Nat) (hi : i ≤ l.length) :
    ∃ A' cap', (∀ (W : World) (k : IntKind), (Instr.sliceAt E.S (.slice A l.length cap) (some (.int k i)) none none).run Tryz.prog W = .ok (.slice A' (l.length - i) cap') W) ∧ SlR E w A' cap' (l.drop i) := by
  obtain ⟨A', cap', h1, h2, _⟩ := SlR.part S i l.length hi (Nat.le_refl _)
  refine ⟨A', cap', fun W k => ?_, ?_⟩
  · rw [run_part_l E W A l.length cap k i hi, h1]
  · rwa [List.take_of_length_le (by simp)] at h2
end Go.Proofs.YteojkfbnenfmkaaGreatDoor.RowP
