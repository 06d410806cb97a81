/- As Grow, where the last operation may write what was there: it waits for all others. No condition. | Plain facts on what the document's Eval tells, place by place. No condition. | What slices.Equal returns of two lists of counts, of registers, of pairs: contracts. -/
import Derived.Test.YtgmdhaepiclkcaaGreatDoorCmRJ6
import Derived.Test.YtgmdhaepiclkcaaGreatDoorEaAJ11
import Derived.Test.YtgmdhaepiclkcaaGreatDoorDgNJ21
import Derived.Test.YtgmdhaepiclkcaaGreatDoorOpenPJ18
namespace Go.Proofs.YtgmdhaepiclkcaaGreatDoor.GrowL
set_option maxRecDepth 100000
open Go Go.Sort Go.RowKit
section
variable {P : Program} {ops : Array Oper} {Q : Exit → Act → World → Prop} {md : Region.Mode}
def ahead (md : Region.Mode) (ops : Array Oper) (i : Nat) : Nat → Nat → Bool
 | 0, _ => false
 | fuel + 1, j => match ops[j]? with
   | none => false
   | some o => o.after.toList.any fun e => Region.binds md e && (e.on == i || ahead md ops i fuel e.on)
def Shut (md : Region.Mode) (ops : Array Oper) (listed : Array Bool) : Prop :=
 ∀ j o, ops[j]? = some o → listed.getD j false = true → ∀ e ∈ o.after, Region.binds md e = true → listed.getD e.on false = true
theorem Shut.none (n : Nat) : Shut md ops (Array.replicate n false) := fun j o _ hl => by
 by_cases h : j < n
 · simp [h] at hl
 · simp [h] at hl
theorem Shut.set {i : Nat} {listed : Array Bool} (h : Shut md ops listed) (hi : i ∈ Region.ready md ops listed) : Shut md ops (listed.setIfInBounds i true) := by
 intro j o ho hl e he hb
 refine getD_set_true ?_
 by_cases hij : i = j
 · subst hij
   obtain ⟨_, o', ho', hall⟩ := mem_ready.1 hi
   obtain rfl : o = o' := Option.some.inj (ho.symm.trans ho')
   exact hall e he hb
 · rw [getD_set_ne false hij] at hl
   exact h j o ho hl e he hb
theorem ahead_listed {i : Nat} {listed : Array Bool} (hS : Shut md ops listed) : ∀ (fuel j : Nat), ahead md ops i fuel j = true → (listed.getD j false = true ∨ j ∈ Region.ready md ops listed) → listed.getD i false = true
 | 0, _, h, _ => by simp [ahead] at h
 | fuel + 1, j, h, hj => by
   unfold ahead at h
   cases ho : ops[j]? with
   | none => rw [ho] at h; cases h
   | some o =>
     rw [ho] at h
     simp only [List.any_eq_true, Bool.and_eq_true, Bool.or_eq_true, beq_iff_eq] at h
     obtain ⟨e, he, hb, h⟩ := h
     have he : e ∈ o.after := Array.mem_toList_iff.1 he
     have hl : listed.getD e.on false = true := by
       rcases hj with hj | hj
       · exact hS j o ho hj e he hb
       · obtain ⟨_, o', ho', hall⟩ := mem_ready.1 hj
         obtain rfl : o = o' := Option.some.inj (ho.symm.trans ho')
         exact hall e he hb
     rcases h with h | h
     · rw [← h]; exact hl
     · exact ahead_listed hS fuel e.on h (.inl hl)
theorem not_both {i : Nat} {listed : Array Bool} (h1 : listed.getD i true = false) (h2 : listed.getD i false = true) : False := by
 by_cases hlt : i < listed.size
 · simp [hlt] at h1 h2
   rw [h1] at h2
   cases h2
 · simp [Array.getElem?_eq_none (Nat.le_of_not_lt hlt)] at h2
def M (L : Nat) (P : Program) (md : Region.Mode) (ops : Array Oper) (Q : Exit → Act → World → Prop) : Nat → Array Bool → Act → World → Prop
 | 0, listed, a, w => Region.ready md ops listed = [] ∧ Q .normal a w
 | fuel + 1, listed, a, w => (Region.ready md ops listed = [] → Q .normal a w) ∧
   ∀ i ∈ Region.ready md ops listed, wpOp P ops Q i (fun a' w' => (i ≠ L → Below w.heap.size w w') ∧ M L P md ops Q fuel (listed.setIfInBounds i true) a' w') a w
theorem M.any {L : Nat} : ∀ (fuel : Nat) (listed : Array Bool) (a : Act) (w : World), M L P md ops Q fuel listed a w → wpAny P md ops Q fuel listed a w
 | 0, _, _, _, h => h
 | fuel + 1, _, _, _, h => ⟨h.1, fun i hi => wpOp_mono (fun a' w' h' => M.any fuel _ a' w' h'.2) (h.2 i hi)⟩
theorem M.first {L i : Nat} {oi : Oper} {v : Value} (hi : ops[i]? = some oi) (hs : Region.noSelect ops = true) {af : Nat} (hA : ahead md ops i af L = true)
   (hQ : ∀ c a w, Q (.panic c) (a.put oi.dst v) w → Q (.panic c) a w) (fuel : Nat) :
   ∀ (listed : Array Bool) (a : Act) (w : World), Shut md ops listed →
     (∀ j oj, ops[j]? = some oj → j ≠ i → listed.getD j true = false → (∀ e ∈ oj.after, Region.binds md e = true → e.on ≠ i) → oi.apart ops oj = true) →
     i ∈ Region.ready md ops listed → YieldsIf P ops (Below w.heap.size w) oi v a →
     M L P md ops Q fuel (listed.setIfInBounds i true) (a.put oi.dst v) w → M L P md ops Q (fuel + 1) listed a w := by
 have sel := fun (j : Nat) (o : Oper) (cs : Array SelectCase) (b : Bool) (h : ops[j]? = some o) => Region.noSelect_spec hs j o cs b h
 induction fuel with
 | zero =>
   intro listed a w _ _ hr hy H
   refine ⟨fun h0 => absurd hr (by rw [h0]; simp), fun j hj => ?_⟩
   by_cases e : j = i
   · subst e
     exact hy.wpOp hi (Below.refl _ _) ⟨fun _ => Below.refl _ _, H⟩
   · exact absurd (ready_mono hj e) (by rw [H.1]; simp)
 | succ fuel ih =>
   intro listed a w hS hf hr hy H
   refine ⟨fun h0 => absurd hr (by rw [h0]; simp), fun j hj => ?_⟩
   by_cases e : j = i
   · subst e
     exact hy.wpOp hi (Below.refl _ _) ⟨fun _ => Below.refl _ _, H⟩
   · have hjL : j ≠ L := by
       rintro rfl
       exact not_both (mem_ready.1 hr).1 (ahead_listed hS af j hA (.inr hj))
     have hstep := H.2 j (ready_mono hj e)
     obtain ⟨hun, oj, hoj, hall⟩ := mem_ready.1 hj
     have hno : ∀ x ∈ oj.after, Region.binds md x = true → x.on ≠ i := by
       intro x hx hb hxi
       have p1 := hall x hx hb
       rw [hxi] at p1
       exact not_both (mem_ready.1 hr).1 p1
     refine wpOp_mono (fun a' w' h3 => ⟨h3.2.1, ?_⟩) (wpOp_putIf hoj (hf j oj hoj e hun hno) (fun cs b => sel i oi cs b hi) (fun cs b => sel j oj cs b hoj) hQ hy hstep)
     obtain ⟨y1, y2, y3⟩ := h3
     refine ih (listed.setIfInBounds j true) a' w' (hS.set hj) (fun k ok hk hki hku hkn => hf k ok hk hki ?_ hkn) (ready_mono hr (fun h => e h.symm)) (Grow.later y1 (y2 hjL)) ?_
     · by_cases ejk : j = k
       · subst ejk; exact hun
       · rwa [getD_set_ne true ejk] at hku
     · rw [Array.setIfInBounds_comm _ _ e]
       exact y3
def plain (o : Oper) : Bool := match o.op with
 | .nilCheck _ => true
 | _ => Grow.plain o
def orderB (L : Nat) (md : Region.Mode) (ops : Array Oper) : List (Nat × Bool) → Array Bool → Bool
 | [], listed => (Region.ready md ops listed).isEmpty
 | (i, true) :: r, listed => ((Region.ready md ops listed).contains i && Region.free md ops listed i && ((ops[i]?).map plain).getD false && ahead md ops i ops.size L) && orderB L md ops r (listed.setIfInBounds i true)
 | (i, false) :: r, listed => Region.ready md ops listed == [i] && orderB L md ops r (listed.setIfInBounds i true)
def Seq (L : Nat) (P : Program) (ops : Array Oper) (Q : Exit → Act → World → Prop) : List (Nat × Bool) → Act → World → Prop
 | [], a, w => Q .normal a w
 | (i, true) :: r, a, w => ∃ o, ops[i]? = some o ∧ ∃ v, YieldsIf P ops (Below w.heap.size w) o v a ∧ Seq L P ops Q r (a.put o.dst v) w
 | (i, false) :: r, a, w => Forks.One P ops Q i (fun a' w' => Below w.heap.size w w' ∧ Seq L P ops Q r a' w') a w ∨ (i = L ∧ Forks.One P ops Q i (fun a' w' => Seq L P ops Q r a' w') a w)
theorem seq_M {L : Nat} (hs : Region.noSelect ops = true) (hQ : ∀ c a d v w, Q (.panic c) (a.put d v) w → Q (.panic c) a w) : ∀ (l : List (Nat × Bool)) (listed : Array Bool) (a : Act) (w : World), Shut md ops listed →
   orderB L md ops l listed = true → Seq L P ops Q l a w → M L P md ops Q l.length listed a w
 | [], listed, a, w, _, hB, h => ⟨by simpa [orderB] using hB, h⟩
 | (i, true) :: r, listed, a, w, hS, hB, ⟨o, ho, v, hy, h⟩ => by
   simp only [orderB, Bool.and_eq_true] at hB
   obtain ⟨⟨⟨⟨h1, h2⟩, _⟩, h3⟩, h4⟩ := hB
   have hr : i ∈ Region.ready md ops listed := by simpa using h1
   exact M.first ho hs h3 (fun c a w => hQ c a o.dst v w) r.length listed a w hS (Region.free_spec ho h2) hr hy (seq_M hs hQ r _ _ _ (hS.set hr) h4 h)
 | (i, false) :: r, listed, a, w, hS, hB, h => by
   simp only [orderB, Bool.and_eq_true, beq_iff_eq] at hB
   obtain ⟨h1, h4⟩ := hB
   have hS' : Shut md ops (listed.setIfInBounds i true) := hS.set (by rw [h1]; simp)
   refine ⟨fun h0 => (by rw [h1] at h0; cases h0), fun j hj => ?_⟩
   rw [h1] at hj
   obtain rfl : j = i := by simpa using hj
   rcases h with h | ⟨e, h⟩
   · exact h.op (fun a' w' hh => ⟨fun _ => hh.1, seq_M hs hQ r _ _ _ hS' h4 hh.2⟩)
   · exact h.op (fun a' w' hh => ⟨fun hne => absurd e hne, seq_M hs hQ r _ _ _ hS' h4 hh⟩)
theorem region (L : Nat) {id : Nat} {a : Act} {w : World} {l : List Oper} (order : List (Nat × Bool)) (hm : P.follows .mixedOrders = true) (hs : Region.noSelect l.toArray = true)
   (hl : order.length = l.toArray.size) (hB : orderB L .any l.toArray order (Array.replicate l.toArray.size false) = true) (hQ : ∀ c a d v w, Q (.panic c) (a.put d v) w → Q (.panic c) a w)
   (h : Seq L P l.toArray Q order a w.drew) : (Code.region id l.toArray true).wp P Q a w := by
 refine wp_region_any hm (M.any (L := L) _ _ _ _ ?_)
 have := seq_M (md := .any) hs hQ order (Array.replicate l.toArray.size false) a w.drew (Shut.none _) hB h
 rw [hl] at this
 exact this
theorem reads {L : Nat} {l : List Oper} {i : Nat} {o : Oper} {r : List (Nat × Bool)} {a : Act} {w : World} (hn : Grow.nth l i = some o) (hp : Grow.plain o = true)
   (h : wpQuiet P l.toArray (fun w' => ∃ p : Regrown, w' = grow (redrawn w p.d) p.os) (fun a' => Seq L P l.toArray Q r a' w) [o] a) : Seq L P l.toArray Q ((i, true) :: r) a w := by
 have ho := (Grow.nth_at l i).trans hn
 unfold wpQuiet at h
 split at h
 · rename_i hw
   obtain ⟨v, h1, h2⟩ := h
   refine ⟨o, ho, v, .inl ⟨hw, fun u hu => ?_⟩, h2⟩
   have q := h1 u (regrown_of_below hu)
   unfold Oper.quietAt at q
   cases hx : (execOp a.eval o).run P u with
   | ok n u' =>
     obtain ⟨x, rfl⟩ := Grow.plain_value hp hx
     rw [hx] at q
     obtain ⟨rfl, rfl⟩ := q
     rfl
   | halt x u' => rw [hx] at q; exact q.elim
 · rename_i hw
   exact ⟨o, ho, undef, .inr ⟨by simpa using hw, rfl⟩, h⟩
theorem checks {L : Nat} {l : List Oper} {i : Nat} {o : Oper} {r : List (Nat × Bool)} {a : Act} {w : World} (hn : Grow.nth l i = some o) (hgd : o.guard = none) (x : Operand) (ho : o.op = .nilCheck x) (p : Addr) (hx : a.eval x = .pointer (some p))
   (h : Seq L P l.toArray Q r (a.put o.dst (.pointer (some p))) w) : Seq L P l.toArray Q ((i, true) :: r) a w := by
 refine ⟨o, (Grow.nth_at l i).trans hn, .pointer (some p), .inl ⟨by simp [Region.wanted, hgd], fun u _ => ?_⟩, h⟩
 unfold execOp
 simp only [ho, hx]
 rfl
def On (L : Nat) (P : Program) (ops : Array Oper) (Q : Exit → Act → World → Prop) (r : List (Nat × Bool)) (w : World) (a' : Act) (w' : World) : Prop := Below w.heap.size w w' ∧ Seq L P ops Q r a' w'
theorem acts {L : Nat} {l : List Oper} {i : Nat} {o : Oper} {r : List (Nat × Bool)} {a : Act} {w : World} (hn : Grow.nth l i = some o)
   (h : wpList P l.toArray (Exit.then (On L P l.toArray Q r w) Q) [o] a w) : Seq L P l.toArray Q ((i, false) :: r) a w :=
 .inl ⟨o, (Grow.nth_at l i).trans hn, h⟩
def Done (Q : Exit → Act → World → Prop) (a' : Act) (w' : World) : Prop := Q .normal a' w'
theorem last {L : Nat} {l : List Oper} {o : Oper} {a : Act} {w : World} (hn : Grow.nth l L = some o)
   (h : wpList P l.toArray (Exit.then (Done Q) Q) [o] a w) : Seq L P l.toArray Q [(L, false)] a w :=
 .inr ⟨rfl, o, (Grow.nth_at l L).trans hn, h⟩
theorem done {a : Act} {w : World} (h : Q .normal a w) : Done Q a w := h
end
end Go.Proofs.YtgmdhaepiclkcaaGreatDoor.GrowL
namespace Go.Proofs.YtgmdhaepiclkcaaGreatDoor.EaS
set_option maxRecDepth 100000
open Go Go.Sort Go.RowKit Byt IdM IdW OpsM OpsW RowS CmM CmW CmX CmY DgM DgN DgP DgW DgT DgR DgK DgC DgF FrM FrN EaM EaN EaR EaH
open Classical
theorem ev_else {H : Com → Idn} {l : List Com} {s : StM.St} {c : Com} (h : c.op.kind = 3 ∨ (c.op.kind = 2 ∧ Gone H l c)) : evS H l s c = s := by
 unfold evS
 rw [if_neg (by omega), if_neg (by omega), if_neg (fun q => h.elim (fun e => by omega) fun e => q.2 e.2)]
theorem ev_step {H : Com → Idn} {l : List Com} {s : StM.St} {c : Com} (h : c.op.kind = 0 ∨ c.op.kind = 1 ∨ (c.op.kind = 2 ∧ ¬ Gone H l c)) : evS H l s c = StM.stepS s c.op c.node c.seq c.gen := by
 unfold evS StM.stepS
 rcases h with h | h | ⟨h, hg⟩
 · rw [if_pos h, if_pos h]
 · rw [if_neg (by omega), if_pos h, if_neg (by omega), if_pos h]
   rfl
 · rw [if_neg (by omega), if_neg (by omega), if_pos ⟨h, hg⟩, if_neg (by omega), if_neg (by omega), if_pos h]
   rfl
structure Wide (c : Com) : Prop where
 node : CtrL.In64 c.node
 seq : CtrL.In64 c.seq
 gen : CtrL.In64 c.gen
theorem wide_of {c : Com} (h : Fit c) : Wide c := ⟨h.node, h.seq, h.gen⟩
theorem ev_fits {H : Com → Idn} {l : List Com} {s : StM.St} {c : Com} (hf : StW.Fits s) (hm : StM.mayS s = true) (hc : Fine c) (hw : Wide c) : StW.Fits (evS H l s c) := by
 by_cases h : c.op.kind = 0 ∨ c.op.kind = 1 ∨ (c.op.kind = 2 ∧ ¬ Gone H l c)
 · rw [ev_step h]
   exact StY.step_fits hf (StM.okD_iff.2 ⟨hm, hc.op, hc.ev, hc.gen⟩) hw.node hw.seq hw.gen
 · have hk := StM.kind_may hc.op
   rw [ev_else]
   · exact hf
   · by_cases h3 : c.op.kind = 3
     · exact .inl h3
     · refine .inr ⟨by omega, Classical.byContradiction fun g => h (.inr (.inr ⟨by omega, g⟩))⟩
theorem fold_fits {H : Com → Idn} {l : List Com} : ∀ (m : List Com) (s : StM.St), StW.Fits s → StM.mayS s = true → (∀ c ∈ m, Fine c) → (∀ c ∈ m, Wide c) → StW.Fits (m.foldl (evS H l) s)
 | [], _, hf, _, _, _ => hf
 | c :: m, s, hf, hm, hc, hw => fold_fits m _ (ev_fits hf hm (hc c (by simp)) (hw c (by simp))) (ev_may hm (hc c (by simp))) (fun d hd => hc d (by simp [hd])) fun d hd => hw d (by simp [hd])
theorem fits_noS : StW.Fits StM.noS := ⟨fun c hc => absurd hc (by simp [StM.noS]), fun c hc => absurd hc (by simp [StM.noS]), fun c hc => absurd hc (by simp [StM.noS])⟩
noncomputable def upS (l : List Com) (k : Nat) : StM.St := (l.take k).foldl (evS hashK l) StM.noS
theorem up_all (l : List Com) : upS l l.length = evalK hashK l := by
 unfold upS evalK
 rw [List.take_length]
theorem up_facts {l : List Com} (hl : ∀ c ∈ l, Fine c) (hw : ∀ c ∈ l, Wide c) (k : Nat) : StM.mayS (upS l k) = true ∧ StW.Fits (upS l k) ∧ StW.Len k (upS l k) := by
 have ht : ∀ c ∈ l.take k, c ∈ l := fun c hc => List.mem_of_mem_take hc
 refine ⟨fold_may _ _ may_noS fun c hc => hl c (ht c hc), fold_fits _ _ fits_noS may_noS (fun c hc => hl c (ht c hc)) fun c hc => hw c (ht c hc), ?_⟩
 have := fold_len (H := hashK) (l := l) (l.take k) StM.noS 0 ⟨Nat.le_refl _, Nat.le_refl _, Nat.le_refl _⟩
 have h2 : (l.take k).length ≤ k := by rw [List.length_take]; omega
 obtain ⟨h3, h4, h5⟩ := this
 unfold upS
 exact ⟨by omega, by omega, by omega⟩
end Go.Proofs.YtgmdhaepiclkcaaGreatDoor.EaS
namespace Go.Proofs.YtgmdhaepiclkcaaGreatDoor.StV
set_option maxRecDepth 100000
open Go Go.RowKit Byt OpsM OpsK Rise RowS
theorem ret_bool {a b : Bool} (h : a = b) : Ending.returned (.bool a) = .returned (.bool b) := by rw [h]
section
open CtrM RowS CtrW CtrS
set_option maxRecDepth 100000 in
set_option maxHeartbeats 4000000 in
theorem equal_c (A : Option Addr) (cap : Nat) (a : List Cn) (A' : Option Addr) (cap' : Nat) (b : List Cn) (w : World) (S : SlR E w A cap a) (S' : SlR E w A' cap' b) :
   Calls Tryz.prog 53 #[.slice A a.length cap, .slice A' b.length cap'] w fun e w' => e = .returned (.bool (sameB a b)) ∧ Below w.heap.size w w' := by
 have hmax : a.length ≤ 9223372036854775807 := by have := S.1; have := S.2.1; unfold maxLen at this; omega
 have hmax' : b.length ≤ 9223372036854775807 := by have := S'.1; have := S'.2.1; unfold maxLen at this; omega
 have hcap := S.1
 have hcap' := S'.1
 obtain ⟨r, hr0⟩ : ∃ r, sameB a b = r := ⟨_, rfl⟩
 rw [hr0]
 have HR0 := aside hr0
 clear hr0
 by_cases hl : a.length = b.length
 · have t0 : ((a.length : Int) != (b.length : Int)) = false := by simp; omega
   have HL := aside hl
   clear hl
   go_enter Tryz.func53, Tryz.ntmps53
   go_wp2
   clear t0
   go_loopw [13] (fun i wr => ∃ j : Nat, j ≤ a.length ∧ i = .int .i64 j ∧ Hid (r = sameB (a.drop j) (b.drop j)) ∧ Below w.heap.size w wr) (fun i _ => a.length - (intOf i).toNat)
   case atStart => exact ⟨0, Nat.zero_le _, rfl, aside HR0.out.symm, Below.refl _ _⟩
   case round =>
     obtain ⟨j, hj, rfl, HG, kb⟩ := hrel
     by_cases hlt : j < a.length
     · have hlt' : j < b.length := by have := HL.out; omega
       obtain ⟨p, off, rfl, hbw, hr⟩ := CtrW.plain S (by omega)
       obtain ⟨p', off', rfl, hbw', hr'⟩ := CtrW.plain S' (by omega)
       obtain ⟨x, hx⟩ : ∃ x, a[j]? = some x := ⟨_, List.getElem?_eq_getElem hlt⟩
       obtain ⟨y, hy⟩ : ∃ y, b[j]? = some y := ⟨_, List.getElem?_eq_getElem hlt'⟩
       obtain ⟨c0, c1⟩ := cells (range_below (hr j x hx) kb)
       obtain ⟨d0, d1⟩ := cells (range_below (hr' j y hy) kb)
       have p0 : (j : Int) < a.length := by omega
       have p1 : (j : Int) < b.length := by omega
       have m0 : ((j : Int)).toNat = j := by omega
       have HG2 := HG.out
       rw [getD_drop hx, getD_drop hy] at HG2
       have heq := fun W => equal W x y
       clear hr hr' S S' hx hy HG
       cases hs : sameN x y with
       | true =>
         have HR : Hid (r = sameB (a.drop (j + 1)) (b.drop (j + 1))) := aside (by rw [HG2, sameB, hs]; rfl)
         rw [hs] at heq
         clear HG2 hs
         go_wp2
         go_quiet (fail)
         go_wp2
         go_roundw
         case rel => exact ⟨j + 1, by omega, by go_num, HR, below_drew kb _⟩
         case measure => simp [intOf]; omega
       | false =>
         have HR : Hid (r = false) := aside (by rw [HG2, sameB, hs]; rfl)
         rw [hs] at heq
         clear HG2 hs
         go_wp2
         go_quiet (fail)
         go_wp2
         go_ret
         exact ⟨ret_bool HR.out.symm, below_drew kb _⟩
     · have HR : Hid (r = true) := aside (by
         have := HG.out
         rwa [List.drop_of_length_le (by omega), List.drop_of_length_le (by have := HL.out; omega)] at this)
       clear S S' HG
       go_wp2
       go_ret
       exact ⟨ret_bool HR.out.symm, kb⟩
 · have t0 : ((a.length : Int) != (b.length : Int)) = true := by simp; omega
   have HR : Hid (r = false) := aside (HR0.out.symm.trans (sameB_len hl))
   clear hl
   go_enter Tryz.func53, Tryz.ntmps53
   go_wp2
   go_ret
   exact ⟨ret_bool HR.out.symm, Below.refl _ _⟩
end
section
open RegM RowS RowB RegW RegS
set_option maxRecDepth 100000 in
set_option maxHeartbeats 4000000 in
theorem equal_r (A : Option Addr) (cap : Nat) (a : List Rg) (A' : Option Addr) (cap' : Nat) (b : List Rg) (w : World) (S : SlR E w A cap a) (S' : SlR E w A' cap' b) :
   Calls Tryz.prog 54 #[.slice A a.length cap, .slice A' b.length cap'] w fun e w' => e = .returned (.bool (sameB a b)) ∧ Below w.heap.size w w' := by
 have hmax : a.length ≤ 9223372036854775807 := by have := S.1; have := S.2.1; unfold maxLen at this; omega
 have hmax' : b.length ≤ 9223372036854775807 := by have := S'.1; have := S'.2.1; unfold maxLen at this; omega
 have hcap := S.1
 have hcap' := S'.1
 obtain ⟨r, hr0⟩ : ∃ r, sameB a b = r := ⟨_, rfl⟩
 rw [hr0]
 have HR0 := aside hr0
 clear hr0
 by_cases hl : a.length = b.length
 · have t0 : ((a.length : Int) != (b.length : Int)) = false := by simp; omega
   have HL := aside hl
   clear hl
   go_enter Tryz.func54, Tryz.ntmps54
   go_wp2
   clear t0
   go_loopw [13] (fun i wr => ∃ j : Nat, j ≤ a.length ∧ i = .int .i64 j ∧ Hid (r = sameB (a.drop j) (b.drop j)) ∧ Below w.heap.size w wr) (fun i _ => a.length - (intOf i).toNat)
   case atStart => exact ⟨0, Nat.zero_le _, rfl, aside HR0.out.symm, Below.refl _ _⟩
   case round =>
     obtain ⟨j, hj, rfl, HG, kb⟩ := hrel
     by_cases hlt : j < a.length
     · have hlt' : j < b.length := by have := HL.out; omega
       obtain ⟨p, off, rfl, hbw, hr⟩ := RegW.plain S (by omega)
       obtain ⟨p', off', rfl, hbw', hr'⟩ := RegW.plain S' (by omega)
       obtain ⟨x, hx⟩ : ∃ x, a[j]? = some x := ⟨_, List.getElem?_eq_getElem hlt⟩
       obtain ⟨y, hy⟩ : ∃ y, b[j]? = some y := ⟨_, List.getElem?_eq_getElem hlt'⟩
       obtain ⟨c0, c1, c2, c3, c4⟩ := cells (range_below (hr j x hx) kb)
       obtain ⟨d0, d1, d2, d3, d4⟩ := cells (range_below (hr' j y hy) kb)
       have p0 : (j : Int) < a.length := by omega
       have p1 : (j : Int) < b.length := by omega
       have m0 : ((j : Int)).toNat = j := by omega
       have HG2 := HG.out
       rw [getD_drop hx, getD_drop hy] at HG2
       have heq := fun W => equal W x y
       unfold rc at heq
       clear hr hr' S S' hx hy HG
       cases hs : sameN x y with
       | true =>
         have HR : Hid (r = sameB (a.drop (j + 1)) (b.drop (j + 1))) := aside (by rw [HG2, sameB, hs]; rfl)
         rw [hs] at heq
         clear HG2 hs
         go_wp2
         go_quiet (fail)
         go_wp2
         go_roundw
         case rel => exact ⟨j + 1, by omega, by go_num, HR, below_drew kb _⟩
         case measure => simp [intOf]; omega
       | false =>
         have HR : Hid (r = false) := aside (by rw [HG2, sameB, hs]; rfl)
         rw [hs] at heq
         clear HG2 hs
         go_wp2
         go_quiet (fail)
         go_wp2
         go_ret
         exact ⟨ret_bool HR.out.symm, below_drew kb _⟩
     · have HR : Hid (r = true) := aside (by
         have := HG.out
         rwa [List.drop_of_length_le (by omega), List.drop_of_length_le (by have := HL.out; omega)] at this)
       clear S S' HG
       go_wp2
       go_ret
       exact ⟨ret_bool HR.out.symm, kb⟩
 · have t0 : ((a.length : Int) != (b.length : Int)) = true := by simp; omega
   have HR : Hid (r = false) := aside (HR0.out.symm.trans (sameB_len hl))
   clear hl
   go_enter Tryz.func54, Tryz.ntmps54
   go_wp2
   go_ret
   exact ⟨ret_bool HR.out.symm, Below.refl _ _⟩
end
section
open PairM PairN RowS RowB PairW PairS
set_option maxRecDepth 100000 in
set_option maxHeartbeats 4000000 in
theorem equal_p (A : Option Addr) (cap : Nat) (a : List Pr) (A' : Option Addr) (cap' : Nat) (b : List Pr) (w : World) (S : SlR E w A cap a) (S' : SlR E w A' cap' b) :
   Calls Tryz.prog 55 #[.slice A a.length cap, .slice A' b.length cap'] w fun e w' => e = .returned (.bool (sameB a b)) ∧ Below w.heap.size w w' := by
 have hmax : a.length ≤ 9223372036854775807 := by have := S.1; have := S.2.1; unfold maxLen at this; omega
 have hmax' : b.length ≤ 9223372036854775807 := by have := S'.1; have := S'.2.1; unfold maxLen at this; omega
 have hcap := S.1
 have hcap' := S'.1
 obtain ⟨r, hr0⟩ : ∃ r, sameB a b = r := ⟨_, rfl⟩
 rw [hr0]
 have HR0 := aside hr0
 clear hr0
 by_cases hl : a.length = b.length
 · have t0 : ((a.length : Int) != (b.length : Int)) = false := by simp; omega
   have HL := aside hl
   clear hl
   go_enter Tryz.func55, Tryz.ntmps55
   go_wp2
   clear t0
   go_loopw [13] (fun i wr => ∃ j : Nat, j ≤ a.length ∧ i = .int .i64 j ∧ Hid (r = sameB (a.drop j) (b.drop j)) ∧ Below w.heap.size w wr) (fun i _ => a.length - (intOf i).toNat)
   case atStart => exact ⟨0, Nat.zero_le _, rfl, aside HR0.out.symm, Below.refl _ _⟩
   case round =>
     obtain ⟨j, hj, rfl, HG, kb⟩ := hrel
     by_cases hlt : j < a.length
     · have hlt' : j < b.length := by have := HL.out; omega
       obtain ⟨p, off, rfl, hbw, hr⟩ := PairW.plain S (by omega)
       obtain ⟨p', off', rfl, hbw', hr'⟩ := PairW.plain S' (by omega)
       obtain ⟨x, hx⟩ : ∃ x, a[j]? = some x := ⟨_, List.getElem?_eq_getElem hlt⟩
       obtain ⟨y, hy⟩ : ∃ y, b[j]? = some y := ⟨_, List.getElem?_eq_getElem hlt'⟩
       obtain ⟨c0, c1, c2, c3⟩ := cells (range_below (hr j x hx) kb)
       obtain ⟨d0, d1, d2, d3⟩ := cells (range_below (hr' j y hy) kb)
       have p0 : (j : Int) < a.length := by omega
       have p1 : (j : Int) < b.length := by omega
       have m0 : ((j : Int)).toNat = j := by omega
       have HG2 := HG.out
       rw [getD_drop hx, getD_drop hy] at HG2
       have heq := fun W => equal W x y
       unfold pc at heq
       clear hr hr' S S' hx hy HG
       cases hs : sameN x y with
       | true =>
         have HR : Hid (r = sameB (a.drop (j + 1)) (b.drop (j + 1))) := aside (by rw [HG2, sameB, hs]; rfl)
         rw [hs] at heq
         clear HG2 hs
         go_wp2
         go_quiet (fail)
         go_wp2
         go_roundw
         case rel => exact ⟨j + 1, by omega, by go_num, HR, below_drew kb _⟩
         case measure => simp [intOf]; omega
       | false =>
         have HR : Hid (r = false) := aside (by rw [HG2, sameB, hs]; rfl)
         rw [hs] at heq
         clear HG2 hs
         go_wp2
         go_quiet (fail)
         go_wp2
         go_ret
         exact ⟨ret_bool HR.out.symm, below_drew kb _⟩
     · have HR : Hid (r = true) := aside (by
         have := HG.out
         rwa [List.drop_of_length_le (by omega), List.drop_of_length_le (by have := HL.out; omega)] at this)
       clear S S' HG
       go_wp2
       go_ret
       exact ⟨ret_bool HR.out.symm, kb⟩
 · have t0 : ((a.length : Int) != (b.length : Int)) = true := by simp; omega
   have HR : Hid (r = false) := aside (HR0.out.symm.trans (sameB_len hl))
   clear hl
   go_enter Tryz.func55, Tryz.ntmps55
   go_wp2
   go_ret
   exact ⟨ret_bool HR.out.symm, Below.refl _ _⟩
end
end Go.Proofs.YtgmdhaepiclkcaaGreatDoor.StV
