/- As GrowL, where operations that act need not wait for one another: of these every order is walked, as a tree; what only reads is taken first. No condition. -/
import Derived.Test.YtgoapaanmcmlmaaGreatDoorIdXJ10
namespace Go.Proofs.YtgoapaanmcmlmaaGreatDoor.GrowT
set_option maxRecDepth 100000
open Go Go.Sort Go.RowKit GrowL
open Forks (Tree One)
section
variable {P : Program} {ops : Array Oper} {Q : Exit → Act → World → Prop} {md : Region.Mode}
def treeB (L : Nat) (md : Region.Mode) (ops : Array Oper) : Tree → Array Bool → Bool
 | .ends, listed => (Region.ready md ops listed).isEmpty
 | .free i t, listed => ((Region.ready md ops listed).contains i && Region.free md ops listed i && ((ops[i]?).map GrowL.plain).getD false && GrowL.ahead md ops i ops.size L) && treeB L md ops t (listed.setIfInBounds i true)
 | .act i t, listed => Region.ready md ops listed == [i] && treeB L md ops t (listed.setIfInBounds i true)
 | .two i t j u, listed => Region.ready md ops listed == [i, j] && (t.size == u.size && (treeB L md ops t (listed.setIfInBounds i true) && treeB L md ops u (listed.setIfInBounds j true)))
def Seq (L : Nat) (P : Program) (ops : Array Oper) (Q : Exit → Act → World → Prop) : Tree → Act → World → Prop
 | .ends, a, w => Q .normal a w
 | .free i t, a, w => ∃ o, ops[i]? = some o ∧ ∃ v, YieldsIf P ops (Below w.heap.size w) o v a ∧ Seq L P ops Q t (a.put o.dst v) w
 | .act i t, a, w => One P ops Q i (fun a' w' => Below w.heap.size w w' ∧ Seq L P ops Q t a' w') a w ∨ (i = L ∧ One P ops Q i (fun a' w' => Seq L P ops Q t a' w') a w)
 | .two i t j u, a, w => One P ops Q i (fun a' w' => Below w.heap.size w w' ∧ Seq L P ops Q t a' w') a w ∧ One P ops Q j (fun a' w' => Below w.heap.size w w' ∧ Seq L P ops Q u a' w') a w
theorem seq_M {L : Nat} (hs : Region.noSelect ops = true) (hQ : ∀ c a d v w, Q (.panic c) (a.put d v) w → Q (.panic c) a w) : ∀ (t : Tree) (listed : Array Bool) (a : Act) (w : World), Shut md ops listed →
   treeB L md ops t listed = true → Seq L P ops Q t a w → M L P md ops Q t.size listed a w
 | .ends, listed, a, w, _, hB, h => ⟨by simpa [treeB] using hB, h⟩
 | .free i t, listed, a, w, hS, hB, ⟨o, ho, v, hy, h⟩ => by
   simp only [treeB, Bool.and_eq_true] at hB
   obtain ⟨⟨⟨⟨h1, h2⟩, _⟩, h3⟩, h4⟩ := hB
   have hr : i ∈ Region.ready md ops listed := by simpa using h1
   exact M.first ho hs h3 (fun c a w => hQ c a o.dst v w) t.size listed a w hS (Region.free_spec ho h2) hr hy (seq_M hs hQ t _ _ _ (hS.set hr) h4 h)
 | .act i t, listed, a, w, hS, hB, h => by
   simp only [treeB, Bool.and_eq_true, beq_iff_eq] at hB
   obtain ⟨h1, h4⟩ := hB
   have hS' : Shut md ops (listed.setIfInBounds i true) := hS.set (by rw [h1]; simp)
   refine ⟨fun h0 => (by rw [h1] at h0; cases h0), fun j hj => ?_⟩
   rw [h1] at hj
   obtain rfl : j = i := by simpa using hj
   rcases h with h | ⟨e, h⟩
   · exact h.op (fun a' w' hh => ⟨fun _ => hh.1, seq_M hs hQ t _ _ _ hS' h4 hh.2⟩)
   · exact h.op (fun a' w' hh => ⟨fun hne => absurd e hne, seq_M hs hQ t _ _ _ hS' h4 hh⟩)
 | .two i t j u, listed, a, w, hS, hB, h => by
   simp only [treeB, Bool.and_eq_true, beq_iff_eq] at hB
   obtain ⟨h1, h2, h3, h4⟩ := hB
   have hI : Shut md ops (listed.setIfInBounds i true) := hS.set (by rw [h1]; simp)
   have hJ : Shut md ops (listed.setIfInBounds j true) := hS.set (by rw [h1]; simp)
   refine ⟨fun h0 => (by rw [h1] at h0; cases h0), fun k hk => ?_⟩
   rw [h1] at hk
   obtain rfl | rfl : k = i ∨ k = j := by simpa using hk
   · exact h.1.op (fun a' w' hh => ⟨fun _ => hh.1, seq_M hs hQ t _ _ _ hI h3 hh.2⟩)
   · exact h.2.op (fun a' w' hh => ⟨fun _ => hh.1, by rw [h2]; exact seq_M hs hQ u _ _ _ hJ h4 hh.2⟩)
theorem region (L : Nat) {id : Nat} {a : Act} {w : World} {l : List Oper} (t : Tree) (hm : P.follows .mixedOrders = true) (hs : Region.noSelect l.toArray = true)
   (hl : t.size = l.toArray.size) (hB : treeB L .any l.toArray t (Array.replicate l.toArray.size false) = true) (hQ : ∀ c a d v w, Q (.panic c) (a.put d v) w → Q (.panic c) a w)
   (h : Seq L P l.toArray Q t a w.drew) : (Code.region id l.toArray true).wp P Q a w := by
 refine wp_region_any hm (M.any (L := L) _ _ _ _ ?_)
 have := seq_M (md := .any) hs hQ t (Array.replicate l.toArray.size false) a w.drew (Shut.none _) hB h
 rw [hl] at this
 exact this
theorem reads {L : Nat} {l : List Oper} {i : Nat} {o : Oper} {t : Tree} {a : Act} {w : World} (hn : Grow.nth l i = some o) (hp : Grow.plain o = true)
   (h : wpQuiet P l.toArray (fun w' => ∃ p : Regrown, w' = grow (redrawn w p.d) p.os) (fun a' => Seq L P l.toArray Q t a' w) [o] a) : Seq L P l.toArray Q (.free i t) a w := by
 have ho := (Grow.nth_at l i).trans hn
 unfold wpQuiet at h
 split at h
 · rename_i hw
   obtain ⟨v, h1, h2⟩ := h
   refine ⟨o, ho, v, .inl ⟨hw, fun u hu => ?_⟩, h2⟩
   have q := h1 u (regrown_of_below hu)
   unfold Oper.quietAt at q
   cases hx : (execOp a.eval o).run P u with
   | ok n u' =>
     obtain ⟨x, rfl⟩ := Grow.plain_value hp hx
     rw [hx] at q
     obtain ⟨rfl, rfl⟩ := q
     rfl
   | halt x u' => rw [hx] at q; exact q.elim
 · rename_i hw
   exact ⟨o, ho, undef, .inr ⟨by simpa using hw, rfl⟩, h⟩
def On (L : Nat) (P : Program) (ops : Array Oper) (Q : Exit → Act → World → Prop) (t : Tree) (w : World) (a' : Act) (w' : World) : Prop := Below w.heap.size w w' ∧ Seq L P ops Q t a' w'
theorem acts {L : Nat} {l : List Oper} {i : Nat} {o : Oper} {t : Tree} {a : Act} {w : World} (hn : Grow.nth l i = some o)
   (h : wpList P l.toArray (Exit.then (On L P l.toArray Q t w) Q) [o] a w) : Seq L P l.toArray Q (.act i t) a w :=
 .inl ⟨o, (Grow.nth_at l i).trans hn, h⟩
theorem forks {L : Nat} {l : List Oper} {i j : Nat} {o p : Oper} {t u : Tree} {a : Act} {w : World} (hn : Grow.nth l i = some o) (hm : Grow.nth l j = some p)
   (h : wpList P l.toArray (Exit.then (On L P l.toArray Q t w) Q) [o] a w) (h' : wpList P l.toArray (Exit.then (On L P l.toArray Q u w) Q) [p] a w) : Seq L P l.toArray Q (.two i t j u) a w :=
 ⟨⟨o, (Grow.nth_at l i).trans hn, h⟩, ⟨p, (Grow.nth_at l j).trans hm, h'⟩⟩
def Mid (L : Nat) (P : Program) (ops : Array Oper) (Q : Exit → Act → World → Prop) (t : Tree) (a' : Act) (w' : World) : Prop := Seq L P ops Q t a' w'
theorem mid {L : Nat} {l : List Oper} {o : Oper} {t : Tree} {a : Act} {w : World} (hn : Grow.nth l L = some o)
   (h : wpList P l.toArray (Exit.then (Mid L P l.toArray Q t) Q) [o] a w) : Seq L P l.toArray Q (.act L t) a w :=
 .inr ⟨rfl, o, (Grow.nth_at l L).trans hn, h⟩
theorem on_mid {L : Nat} {t : Tree} {a : Act} {w : World} (h : Seq L P ops Q t a w) : Mid L P ops Q t a w := h
theorem ends {L : Nat} {a : Act} {w : World} (h : Q .normal a w) : Seq L P ops Q .ends a w := h
end
end Go.Proofs.YtgoapaanmcmlmaaGreatDoor.GrowT
