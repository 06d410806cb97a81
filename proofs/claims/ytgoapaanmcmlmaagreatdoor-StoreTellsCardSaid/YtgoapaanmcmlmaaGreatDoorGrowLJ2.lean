/- As Grow, where the last operation may write what was there: it waits for all others. No condition. | As GrowL, where operations that act need not wait for one another: of these every order is walked, as a tree; what only reads is taken first. No condition. -/
import Derived.Test.YtgoapaanmcmlmaaGreatDoorForksJ3
namespace Go.Proofs.YtgoapaanmcmlmaaGreatDoor.GrowL
set_option maxRecDepth 100000
open Go Go.Sort Go.RowKit
section
variable {P : Program} {ops : Array Oper} {Q : Exit → Act → World → Prop} {md : Region.Mode}
def ahead (md : Region.Mode) (ops : Array Oper) (i : Nat) : Nat → Nat → Bool
 | 0, _ => false
 | fuel + 1, j => match ops[j]? with
   | none => false
   | some o => o.after.toList.any fun e => Region.binds md e && (e.on == i || ahead md ops i fuel e.on)
def Shut (md : Region.Mode) (ops : Array Oper) (listed : Array Bool) : Prop :=
 ∀ j o, ops[j]? = some o → listed.getD j false = true → ∀ e ∈ o.after, Region.binds md e = true → listed.getD e.on false = true
theorem Shut.none (n : Nat) : Shut md ops (Array.replicate n false) := fun j o _ hl => by
 by_cases h : j < n
 · simp [h] at hl
 · simp [h] at hl
theorem Shut.set {i : Nat} {listed : Array Bool} (h : Shut md ops listed) (hi : i ∈ Region.ready md ops listed) : Shut md ops (listed.setIfInBounds i true) := by
 intro j o ho hl e he hb
 refine getD_set_true ?_
 by_cases hij : i = j
 · subst hij
   obtain ⟨_, o', ho', hall⟩ := mem_ready.1 hi
   obtain rfl : o = o' := Option.some.inj (ho.symm.trans ho')
   exact hall e he hb
 · rw [getD_set_ne false hij] at hl
   exact h j o ho hl e he hb
theorem ahead_listed {i : Nat} {listed : Array Bool} (hS : Shut md ops listed) : ∀ (fuel j : Nat), ahead md ops i fuel j = true → (listed.getD j false = true ∨ j ∈ Region.ready md ops listed) → listed.getD i false = true
 | 0, _, h, _ => by simp [ahead] at h
 | fuel + 1, j, h, hj => by
   unfold ahead at h
   cases ho : ops[j]? with
   | none => rw [ho] at h; cases h
   | some o =>
     rw [ho] at h
     simp only [List.any_eq_true, Bool.and_eq_true, Bool.or_eq_true, beq_iff_eq] at h
     obtain ⟨e, he, hb, h⟩ := h
     have he : e ∈ o.after := Array.mem_toList_iff.1 he
     have hl : listed.getD e.on false = true := by
       rcases hj with hj | hj
       · exact hS j o ho hj e he hb
       · obtain ⟨_, o', ho', hall⟩ := mem_ready.1 hj
         obtain rfl : o = o' := Option.some.inj (ho.symm.trans ho')
         exact hall e he hb
     rcases h with h | h
     · rw [← h]; exact hl
     · exact ahead_listed hS fuel e.on h (.inl hl)
theorem not_both {i : Nat} {listed : Array Bool} (h1 : listed.getD i true = false) (h2 : listed.getD i false = true) : False := by
 by_cases hlt : i < listed.size
 · simp [hlt] at h1 h2
   rw [h1] at h2
   cases h2
 · simp [Array.getElem?_eq_none (Nat.le_of_not_lt hlt)] at h2
def M (L : Nat) (P : Program) (md : Region.Mode) (ops : Array Oper) (Q : Exit → Act → World → Prop) : Nat → Array Bool → Act → World → Prop
 | 0, listed, a, w => Region.ready md ops listed = [] ∧ Q .normal a w
 | fuel + 1, listed, a, w => (Region.ready md ops listed = [] → Q .normal a w) ∧
   ∀ i ∈ Region.ready md ops listed, wpOp P ops Q i (fun a' w' => (i ≠ L → Below w.heap.size w w') ∧ M L P md ops Q fuel (listed.setIfInBounds i true) a' w') a w
theorem M.any {L : Nat} : ∀ (fuel : Nat) (listed : Array Bool) (a : Act) (w : World), M L P md ops Q fuel listed a w → wpAny P md ops Q fuel listed a w
 | 0, _, _, _, h => h
 | fuel + 1, _, _, _, h => ⟨h.1, fun i hi => wpOp_mono (fun a' w' h' => M.any fuel _ a' w' h'.2) (h.2 i hi)⟩
theorem M.first {L i : Nat} {oi : Oper} {v : Value} (hi : ops[i]? = some oi) (hs : Region.noSelect ops = true) {af : Nat} (hA : ahead md ops i af L = true)
   (hQ : ∀ c a w, Q (.panic c) (a.put oi.dst v) w → Q (.panic c) a w) (fuel : Nat) :
   ∀ (listed : Array Bool) (a : Act) (w : World), Shut md ops listed →
     (∀ j oj, ops[j]? = some oj → j ≠ i → listed.getD j true = false → (∀ e ∈ oj.after, Region.binds md e = true → e.on ≠ i) → oi.apart ops oj = true) →
     i ∈ Region.ready md ops listed → YieldsIf P ops (Below w.heap.size w) oi v a →
     M L P md ops Q fuel (listed.setIfInBounds i true) (a.put oi.dst v) w → M L P md ops Q (fuel + 1) listed a w := by
 have sel := fun (j : Nat) (o : Oper) (cs : Array SelectCase) (b : Bool) (h : ops[j]? = some o) => Region.noSelect_spec hs j o cs b h
 induction fuel with
 | zero =>
   intro listed a w _ _ hr hy H
   refine ⟨fun h0 => absurd hr (by rw [h0]; simp), fun j hj => ?_⟩
   by_cases e : j = i
   · subst e
     exact hy.wpOp hi (Below.refl _ _) ⟨fun _ => Below.refl _ _, H⟩
   · exact absurd (ready_mono hj e) (by rw [H.1]; simp)
 | succ fuel ih =>
   intro listed a w hS hf hr hy H
   refine ⟨fun h0 => absurd hr (by rw [h0]; simp), fun j hj => ?_⟩
   by_cases e : j = i
   · subst e
     exact hy.wpOp hi (Below.refl _ _) ⟨fun _ => Below.refl _ _, H⟩
   · have hjL : j ≠ L := by
       rintro rfl
       exact not_both (mem_ready.1 hr).1 (ahead_listed hS af j hA (.inr hj))
     have hstep := H.2 j (ready_mono hj e)
     obtain ⟨hun, oj, hoj, hall⟩ := mem_ready.1 hj
     have hno : ∀ x ∈ oj.after, Region.binds md x = true → x.on ≠ i := by
       intro x hx hb hxi
       have p1 := hall x hx hb
       rw [hxi] at p1
       exact not_both (mem_ready.1 hr).1 p1
     refine wpOp_mono (fun a' w' h3 => ⟨h3.2.1, ?_⟩) (wpOp_putIf hoj (hf j oj hoj e hun hno) (fun cs b => sel i oi cs b hi) (fun cs b => sel j oj cs b hoj) hQ hy hstep)
     obtain ⟨y1, y2, y3⟩ := h3
     refine ih (listed.setIfInBounds j true) a' w' (hS.set hj) (fun k ok hk hki hku hkn => hf k ok hk hki ?_ hkn) (ready_mono hr (fun h => e h.symm)) (Grow.later y1 (y2 hjL)) ?_
     · by_cases ejk : j = k
       · subst ejk; exact hun
       · rwa [getD_set_ne true ejk] at hku
     · rw [Array.setIfInBounds_comm _ _ e]
       exact y3
def plain (o : Oper) : Bool := match o.op with
 | .nilCheck _ => true
 | _ => Grow.plain o
def orderB (L : Nat) (md : Region.Mode) (ops : Array Oper) : List (Nat × Bool) → Array Bool → Bool
 | [], listed => (Region.ready md ops listed).isEmpty
 | (i, true) :: r, listed => ((Region.ready md ops listed).contains i && Region.free md ops listed i && ((ops[i]?).map plain).getD false && ahead md ops i ops.size L) && orderB L md ops r (listed.setIfInBounds i true)
 | (i, false) :: r, listed => Region.ready md ops listed == [i] && orderB L md ops r (listed.setIfInBounds i true)
def Seq (L : Nat) (P : Program) (ops : Array Oper) (Q : Exit → Act → World → Prop) : List (Nat × Bool) → Act → World → Prop
 | [], a, w => Q .normal a w
 | (i, true) :: r, a, w => ∃ o, ops[i]? = some o ∧ ∃ v, YieldsIf P ops (Below w.heap.size w) o v a ∧ Seq L P ops Q r (a.put o.dst v) w
 | (i, false) :: r, a, w => Forks.One P ops Q i (fun a' w' => Below w.heap.size w w' ∧ Seq L P ops Q r a' w') a w ∨ (i = L ∧ Forks.One P ops Q i (fun a' w' => Seq L P ops Q r a' w') a w)
theorem seq_M {L : Nat} (hs : Region.noSelect ops = true) (hQ : ∀ c a d v w, Q (.panic c) (a.put d v) w → Q (.panic c) a w) : ∀ (l : List (Nat × Bool)) (listed : Array Bool) (a : Act) (w : World), Shut md ops listed →
   orderB L md ops l listed = true → Seq L P ops Q l a w → M L P md ops Q l.length listed a w
 | [], listed, a, w, _, hB, h => ⟨by simpa [orderB] using hB, h⟩
 | (i, true) :: r, listed, a, w, hS, hB, ⟨o, ho, v, hy, h⟩ => by
   simp only [orderB, Bool.and_eq_true] at hB
   obtain ⟨⟨⟨⟨h1, h2⟩, _⟩, h3⟩, h4⟩ := hB
   have hr : i ∈ Region.ready md ops listed := by simpa using h1
   exact M.first ho hs h3 (fun c a w => hQ c a o.dst v w) r.length listed a w hS (Region.free_spec ho h2) hr hy (seq_M hs hQ r _ _ _ (hS.set hr) h4 h)
 | (i, false) :: r, listed, a, w, hS, hB, h => by
   simp only [orderB, Bool.and_eq_true, beq_iff_eq] at hB
   obtain ⟨h1, h4⟩ := hB
   have hS' : Shut md ops (listed.setIfInBounds i true) := hS.set (by rw [h1]; simp)
   refine ⟨fun h0 => (by rw [h1] at h0; cases h0), fun j hj => ?_⟩
   rw [h1] at hj
   obtain rfl : j = i := by simpa using hj
   rcases h with h | ⟨e, h⟩
   · exact h.op (fun a' w' hh => ⟨fun _ => hh.1, seq_M hs hQ r _ _ _ hS' h4 hh.2⟩)
   · exact h.op (fun a' w' hh => ⟨fun hne => absurd e hne, seq_M hs hQ r _ _ _ hS' h4 hh⟩)
theorem region (L : Nat) {id : Nat} {a : Act} {w : World} {l : List Oper} (order : List (Nat × Bool)) (hm : P.follows .mixedOrders = true) (hs : Region.noSelect l.toArray = true)
   (hl : order.length = l.toArray.size) (hB : orderB L .any l.toArray order (Array.replicate l.toArray.size false) = true) (hQ : ∀ c a d v w, Q (.panic c) (a.put d v) w → Q (.panic c) a w)
   (h : Seq L P l.toArray Q order a w.drew) : (Code.region id l.toArray true).wp P Q a w := by
 refine wp_region_any hm (M.any (L := L) _ _ _ _ ?_)
 have := seq_M (md := .any) hs hQ order (Array.replicate l.toArray.size false) a w.drew (Shut.none _) hB h
 rw [hl] at this
 exact this
theorem reads {L : Nat} {l : List Oper} {i : Nat} {o : Oper} {r : List (Nat × Bool)} {a : Act} {w : World} (hn : Grow.nth l i = some o) (hp : Grow.plain o = true)
   (h : wpQuiet P l.toArray (fun w' => ∃ p : Regrown, w' = grow (redrawn w p.d) p.os) (fun a' => Seq L P l.toArray Q r a' w) [o] a) : Seq L P l.toArray Q ((i, true) :: r) a w := by
 have ho := (Grow.nth_at l i).trans hn
 unfold wpQuiet at h
 split at h
 · rename_i hw
   obtain ⟨v, h1, h2⟩ := h
   refine ⟨o, ho, v, .inl ⟨hw, fun u hu => ?_⟩, h2⟩
   have q := h1 u (regrown_of_below hu)
   unfold Oper.quietAt at q
   cases hx : (execOp a.eval o).run P u with
   | ok n u' =>
     obtain ⟨x, rfl⟩ := Grow.plain_value hp hx
     rw [hx] at q
     obtain ⟨rfl, rfl⟩ := q
     rfl
   | halt x u' => rw [hx] at q; exact q.elim
 · rename_i hw
   exact ⟨o, ho, undef, .inr ⟨by simpa using hw, rfl⟩, h⟩
def On (L : Nat) (P : Program) (ops : Array Oper) (Q : Exit → Act → World → Prop) (r : List (Nat × Bool)) (w : World) (a' : Act) (w' : World) : Prop := Below w.heap.size w w' ∧ Seq L P ops Q r a' w'
theorem acts {L : Nat} {l : List Oper} {i : Nat} {o : Oper} {r : List (Nat × Bool)} {a : Act} {w : World} (hn : Grow.nth l i = some o)
   (h : wpList P l.toArray (Exit.then (On L P l.toArray Q r w) Q) [o] a w) : Seq L P l.toArray Q ((i, false) :: r) a w :=
 .inl ⟨o, (Grow.nth_at l i).trans hn, h⟩
def Done (Q : Exit → Act → World → Prop) (a' : Act) (w' : World) : Prop := Q .normal a' w'
theorem last {L : Nat} {l : List Oper} {o : Oper} {a : Act} {w : World} (hn : Grow.nth l L = some o)
   (h : wpList P l.toArray (Exit.then (Done Q) Q) [o] a w) : Seq L P l.toArray Q [(L, false)] a w :=
 .inr ⟨rfl, o, (Grow.nth_at l L).trans hn, h⟩
theorem done {a : Act} {w : World} (h : Q .normal a w) : Done Q a w := h
end
end Go.Proofs.YtgoapaanmcmlmaaGreatDoor.GrowL
namespace Go.Proofs.YtgoapaanmcmlmaaGreatDoor.GrowT
set_option maxRecDepth 100000
open Go Go.Sort Go.RowKit GrowL
open Forks (Tree One)
section
variable {P : Program} {ops : Array Oper} {Q : Exit → Act → World → Prop} {md : Region.Mode}
def treeB (L : Nat) (md : Region.Mode) (ops : Array Oper) : Tree → Array Bool → Bool
 | .ends, listed => (Region.ready md ops listed).isEmpty
 | .free i t, listed => ((Region.ready md ops listed).contains i && Region.free md ops listed i && ((ops[i]?).map GrowL.plain).getD false && GrowL.ahead md ops i ops.size L) && treeB L md ops t (listed.setIfInBounds i true)
 | .act i t, listed => Region.ready md ops listed == [i] && treeB L md ops t (listed.setIfInBounds i true)
 | .two i t j u, listed => Region.ready md ops listed == [i, j] && (t.size == u.size && (treeB L md ops t (listed.setIfInBounds i true) && treeB L md ops u (listed.setIfInBounds j true)))
def Seq (L : Nat) (P : Program) (ops : Array Oper) (Q : Exit → Act → World → Prop) : Tree → Act → World → Prop
 | .ends, a, w => Q .normal a w
 | .free i t, a, w => ∃ o, ops[i]? = some o ∧ ∃ v, YieldsIf P ops (Below w.heap.size w) o v a ∧ Seq L P ops Q t (a.put o.dst v) w
 | .act i t, a, w => One P ops Q i (fun a' w' => Below w.heap.size w w' ∧ Seq L P ops Q t a' w') a w ∨ (i = L ∧ One P ops Q i (fun a' w' => Seq L P ops Q t a' w') a w)
 | .two i t j u, a, w => One P ops Q i (fun a' w' => Below w.heap.size w w' ∧ Seq L P ops Q t a' w') a w ∧ One P ops Q j (fun a' w' => Below w.heap.size w w' ∧ Seq L P ops Q u a' w') a w
theorem seq_M {L : Nat} (hs : Region.noSelect ops = true) (hQ : ∀ c a d v w, Q (.panic c) (a.put d v) w → Q (.panic c) a w) : ∀ (t : Tree) (listed : Array Bool) (a : Act) (w : World), Shut md ops listed →
   treeB L md ops t listed = true → Seq L P ops Q t a w → M L P md ops Q t.size listed a w
 | .ends, listed, a, w, _, hB, h => ⟨by simpa [treeB] using hB, h⟩
 | .free i t, listed, a, w, hS, hB, ⟨o, ho, v, hy, h⟩ => by
   simp only [treeB, Bool.and_eq_true] at hB
   obtain ⟨⟨⟨⟨h1, h2⟩, _⟩, h3⟩, h4⟩ := hB
   have hr : i ∈ Region.ready md ops listed := by simpa using h1
   exact M.first ho hs h3 (fun c a w => hQ c a o.dst v w) t.size listed a w hS (Region.free_spec ho h2) hr hy (seq_M hs hQ t _ _ _ (hS.set hr) h4 h)
 | .act i t, listed, a, w, hS, hB, h => by
   simp only [treeB, Bool.and_eq_true, beq_iff_eq] at hB
   obtain ⟨h1, h4⟩ := hB
   have hS' : Shut md ops (listed.setIfInBounds i true) := hS.set (by rw [h1]; simp)
   refine ⟨fun h0 => (by rw [h1] at h0; cases h0), fun j hj => ?_⟩
   rw [h1] at hj
   obtain rfl : j = i := by simpa using hj
   rcases h with h | ⟨e, h⟩
   · exact h.op (fun a' w' hh => ⟨fun _ => hh.1, seq_M hs hQ t _ _ _ hS' h4 hh.2⟩)
   · exact h.op (fun a' w' hh => ⟨fun hne => absurd e hne, seq_M hs hQ t _ _ _ hS' h4 hh⟩)
 | .two i t j u, listed, a, w, hS, hB, h => by
   simp only [treeB, Bool.and_eq_true, beq_iff_eq] at hB
   obtain ⟨h1, h2, h3, h4⟩ := hB
   have hI : Shut md ops (listed.setIfInBounds i true) := hS.set (by rw [h1]; simp)
   have hJ : Shut md ops (listed.setIfInBounds j true) := hS.set (by rw [h1]; simp)
   refine ⟨fun h0 => (by rw [h1] at h0; cases h0), fun k hk => ?_⟩
   rw [h1] at hk
   obtain rfl | rfl : k = i ∨ k = j := by simpa using hk
   · exact h.1.op (fun a' w' hh => ⟨fun _ => hh.1, seq_M hs hQ t _ _ _ hI h3 hh.2⟩)
   · exact h.2.op (fun a' w' hh => ⟨fun _ => hh.1, by rw [h2]; exact seq_M hs hQ u _ _ _ hJ h4 hh.2⟩)
theorem region (L : Nat) {id : Nat} {a : Act} {w : World} {l : List Oper} (t : Tree) (hm : P.follows .mixedOrders = true) (hs : Region.noSelect l.toArray = true)
   (hl : t.size = l.toArray.size) (hB : treeB L .any l.toArray t (Array.replicate l.toArray.size false) = true) (hQ : ∀ c a d v w, Q (.panic c) (a.put d v) w → Q (.panic c) a w)
   (h : Seq L P l.toArray Q t a w.drew) : (Code.region id l.toArray true).wp P Q a w := by
 refine wp_region_any hm (M.any (L := L) _ _ _ _ ?_)
 have := seq_M (md := .any) hs hQ t (Array.replicate l.toArray.size false) a w.drew (Shut.none _) hB h
 rw [hl] at this
 exact this
theorem reads {L : Nat} {l : List Oper} {i : Nat} {o : Oper} {t : Tree} {a : Act} {w : World} (hn : Grow.nth l i = some o) (hp : Grow.plain o = true)
   (h : wpQuiet P l.toArray (fun w' => ∃ p : Regrown, w' = grow (redrawn w p.d) p.os) (fun a' => Seq L P l.toArray Q t a' w) [o] a) : Seq L P l.toArray Q (.free i t) a w := by
 have ho := (Grow.nth_at l i).trans hn
 unfold wpQuiet at h
 split at h
 · rename_i hw
   obtain ⟨v, h1, h2⟩ := h
   refine ⟨o, ho, v, .inl ⟨hw, fun u hu => ?_⟩, h2⟩
   have q := h1 u (regrown_of_below hu)
   unfold Oper.quietAt at q
   cases hx : (execOp a.eval o).run P u with
   | ok n u' =>
     obtain ⟨x, rfl⟩ := Grow.plain_value hp hx
     rw [hx] at q
     obtain ⟨rfl, rfl⟩ := q
     rfl
   | halt x u' => rw [hx] at q; exact q.elim
 · rename_i hw
   exact ⟨o, ho, undef, .inr ⟨by simpa using hw, rfl⟩, h⟩
def On (L : Nat) (P : Program) (ops : Array Oper) (Q : Exit → Act → World → Prop) (t : Tree) (w : World) (a' : Act) (w' : World) : Prop := Below w.heap.size w w' ∧ Seq L P ops Q t a' w'
theorem acts {L : Nat} {l : List Oper} {i : Nat} {o : Oper} {t : Tree} {a : Act} {w : World} (hn : Grow.nth l i = some o)
   (h : wpList P l.toArray (Exit.then (On L P l.toArray Q t w) Q) [o] a w) : Seq L P l.toArray Q (.act i t) a w :=
 .inl ⟨o, (Grow.nth_at l i).trans hn, h⟩
theorem forks {L : Nat} {l : List Oper} {i j : Nat} {o p : Oper} {t u : Tree} {a : Act} {w : World} (hn : Grow.nth l i = some o) (hm : Grow.nth l j = some p)
   (h : wpList P l.toArray (Exit.then (On L P l.toArray Q t w) Q) [o] a w) (h' : wpList P l.toArray (Exit.then (On L P l.toArray Q u w) Q) [p] a w) : Seq L P l.toArray Q (.two i t j u) a w :=
 ⟨⟨o, (Grow.nth_at l i).trans hn, h⟩, ⟨p, (Grow.nth_at l j).trans hm, h'⟩⟩
def Mid (L : Nat) (P : Program) (ops : Array Oper) (Q : Exit → Act → World → Prop) (t : Tree) (a' : Act) (w' : World) : Prop := Seq L P ops Q t a' w'
theorem mid {L : Nat} {l : List Oper} {o : Oper} {t : Tree} {a : Act} {w : World} (hn : Grow.nth l L = some o)
   (h : wpList P l.toArray (Exit.then (Mid L P l.toArray Q t) Q) [o] a w) : Seq L P l.toArray Q (.act L t) a w :=
 .inr ⟨rfl, o, (Grow.nth_at l L).trans hn, h⟩
theorem on_mid {L : Nat} {t : Tree} {a : Act} {w : World} (h : Seq L P ops Q t a w) : Mid L P ops Q t a w := h
theorem ends {L : Nat} {a : Act} {w : World} (h : Q .normal a w) : Seq L P ops Q .ends a w := h
end
end Go.Proofs.YtgoapaanmcmlmaaGreatDoor.GrowT
