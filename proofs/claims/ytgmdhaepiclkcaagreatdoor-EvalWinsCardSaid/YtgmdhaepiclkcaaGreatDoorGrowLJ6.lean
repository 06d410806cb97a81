/- As Grow, where the last operation may write what was there: it waits for all others. No condition. | Plain facts on what the document's Eval tells, place by place. No condition. | What slices.Equal returns of two lists of counts, of registers, of pairs: contracts. | Texts as keys of a map of numbers. No condition. | What gather does to a map: a contract. | A contract of the library's, laid at this program: slices.Sort at texts. -/
import Derived.Test.YtgmdhaepiclkcaaGreatDoorCmRJ6
import Derived.Test.YtgmdhaepiclkcaaGreatDoorEaRJ28
import Derived.Test.YtgmdhaepiclkcaaGreatDoorDgKJ13
import Derived.Test.YtgmdhaepiclkcaaGreatDoorCmAJ3
import Derived.Test.YtgmdhaepiclkcaaGreatDoorSmallJ8
import Derived.StringKeys
import Derived.Maps.RangeWalk
import Derived.Maps.OwnSet
import Derived.Maps.OwnOps
import Derived.Test.YtgmdhaepiclkcaaGreatDoorCtrLJ3
import Derived.Test.YtgmdhaepiclkcaaGreatDoorRowBJ2
import Derived.Maps.AppendAt
import Derived.Shelf.SlLaysM
import Derived.Test.YtgmdhaepiclkcaaGreatDoorProg
namespace Go.Proofs.YtgmdhaepiclkcaaGreatDoor.GrowL
set_option maxRecDepth 100000
open Go Go.Sort Go.RowKit
section
variable {P : Program} {ops : Array Oper} {Q : Exit → Act → World → Prop} {md : Region.Mode}
def ahead (md : Region.Mode) (ops : Array Oper) (i : Nat) : Nat → Nat → Bool
 | 0, _ => false
 | fuel + 1, j => match ops[j]? with
   | none => false
   | some o => o.after.toList.any fun e => Region.binds md e && (e.on == i || ahead md ops i fuel e.on)
def Shut (md : Region.Mode) (ops : Array Oper) (listed : Array Bool) : Prop :=
 ∀ j o, ops[j]? = some o → listed.getD j false = true → ∀ e ∈ o.after, Region.binds md e = true → listed.getD e.on false = true
theorem Shut.none (n : Nat) : Shut md ops (Array.replicate n false) := fun j o _ hl => by
 by_cases h : j < n
 · simp [h] at hl
 · simp [h] at hl
theorem Shut.set {i : Nat} {listed : Array Bool} (h : Shut md ops listed) (hi : i ∈ Region.ready md ops listed) : Shut md ops (listed.setIfInBounds i true) := by
 intro j o ho hl e he hb
 refine getD_set_true ?_
 by_cases hij : i = j
 · subst hij
   obtain ⟨_, o', ho', hall⟩ := mem_ready.1 hi
   obtain rfl : o = o' := Option.some.inj (ho.symm.trans ho')
   exact hall e he hb
 · rw [getD_set_ne false hij] at hl
   exact h j o ho hl e he hb
theorem ahead_listed {i : Nat} {listed : Array Bool} (hS : Shut md ops listed) : ∀ (fuel j : Nat), ahead md ops i fuel j = true → (listed.getD j false = true ∨ j ∈ Region.ready md ops listed) → listed.getD i false = true
 | 0, _, h, _ => by simp [ahead] at h
 | fuel + 1, j, h, hj => by
   unfold ahead at h
   cases ho : ops[j]? with
   | none => rw [ho] at h; cases h
   | some o =>
     rw [ho] at h
     simp only [List.any_eq_true, Bool.and_eq_true, Bool.or_eq_true, beq_iff_eq] at h
     obtain ⟨e, he, hb, h⟩ := h
     have he : e ∈ o.after := Array.mem_toList_iff.1 he
     have hl : listed.getD e.on false = true := by
       rcases hj with hj | hj
       · exact hS j o ho hj e he hb
       · obtain ⟨_, o', ho', hall⟩ := mem_ready.1 hj
         obtain rfl : o = o' := Option.some.inj (ho.symm.trans ho')
         exact hall e he hb
     rcases h with h | h
     · rw [← h]; exact hl
     · exact ahead_listed hS fuel e.on h (.inl hl)
theorem not_both {i : Nat} {listed : Array Bool} (h1 : listed.getD i true = false) (h2 : listed.getD i false = true) : False := by
 by_cases hlt : i < listed.size
 · simp [hlt] at h1 h2
   rw [h1] at h2
   cases h2
 · simp [Array.getElem?_eq_none (Nat.le_of_not_lt hlt)] at h2
def M (L : Nat) (P : Program) (md : Region.Mode) (ops : Array Oper) (Q : Exit → Act → World → Prop) : Nat → Array Bool → Act → World → Prop
 | 0, listed, a, w => Region.ready md ops listed = [] ∧ Q .normal a w
 | fuel + 1, listed, a, w => (Region.ready md ops listed = [] → Q .normal a w) ∧
   ∀ i ∈ Region.ready md ops listed, wpOp P ops Q i (fun a' w' => (i ≠ L → Below w.heap.size w w') ∧ M L P md ops Q fuel (listed.setIfInBounds i true) a' w') a w
theorem M.any {L : Nat} : ∀ (fuel : Nat) (listed : Array Bool) (a : Act) (w : World), M L P md ops Q fuel listed a w → wpAny P md ops Q fuel listed a w
 | 0, _, _, _, h => h
 | fuel + 1, _, _, _, h => ⟨h.1, fun i hi => wpOp_mono (fun a' w' h' => M.any fuel _ a' w' h'.2) (h.2 i hi)⟩
theorem M.first {L i : Nat} {oi : Oper} {v : Value} (hi : ops[i]? = some oi) (hs : Region.noSelect ops = true) {af : Nat} (hA : ahead md ops i af L = true)
   (hQ : ∀ c a w, Q (.panic c) (a.put oi.dst v) w → Q (.panic c) a w) (fuel : Nat) :
   ∀ (listed : Array Bool) (a : Act) (w : World), Shut md ops listed →
     (∀ j oj, ops[j]? = some oj → j ≠ i → listed.getD j true = false → (∀ e ∈ oj.after, Region.binds md e = true → e.on ≠ i) → oi.apart ops oj = true) →
     i ∈ Region.ready md ops listed → YieldsIf P ops (Below w.heap.size w) oi v a →
     M L P md ops Q fuel (listed.setIfInBounds i true) (a.put oi.dst v) w → M L P md ops Q (fuel + 1) listed a w := by
 have sel := fun (j : Nat) (o : Oper) (cs : Array SelectCase) (b : Bool) (h : ops[j]? = some o) => Region.noSelect_spec hs j o cs b h
 induction fuel with
 | zero =>
   intro listed a w _ _ hr hy H
   refine ⟨fun h0 => absurd hr (by rw [h0]; simp), fun j hj => ?_⟩
   by_cases e : j = i
   · subst e
     exact hy.wpOp hi (Below.refl _ _) ⟨fun _ => Below.refl _ _, H⟩
   · exact absurd (ready_mono hj e) (by rw [H.1]; simp)
 | succ fuel ih =>
   intro listed a w hS hf hr hy H
   refine ⟨fun h0 => absurd hr (by rw [h0]; simp), fun j hj => ?_⟩
   by_cases e : j = i
   · subst e
     exact hy.wpOp hi (Below.refl _ _) ⟨fun _ => Below.refl _ _, H⟩
   · have hjL : j ≠ L := by
       rintro rfl
       exact not_both (mem_ready.1 hr).1 (ahead_listed hS af j hA (.inr hj))
     have hstep := H.2 j (ready_mono hj e)
     obtain ⟨hun, oj, hoj, hall⟩ := mem_ready.1 hj
     have hno : ∀ x ∈ oj.after, Region.binds md x = true → x.on ≠ i := by
       intro x hx hb hxi
       have p1 := hall x hx hb
       rw [hxi] at p1
       exact not_both (mem_ready.1 hr).1 p1
     refine wpOp_mono (fun a' w' h3 => ⟨h3.2.1, ?_⟩) (wpOp_putIf hoj (hf j oj hoj e hun hno) (fun cs b => sel i oi cs b hi) (fun cs b => sel j oj cs b hoj) hQ hy hstep)
     obtain ⟨y1, y2, y3⟩ := h3
     refine ih (listed.setIfInBounds j true) a' w' (hS.set hj) (fun k ok hk hki hku hkn => hf k ok hk hki ?_ hkn) (ready_mono hr (fun h => e h.symm)) (Grow.later y1 (y2 hjL)) ?_
     · by_cases ejk : j = k
       · subst ejk; exact hun
       · rwa [getD_set_ne true ejk] at hku
     · rw [Array.setIfInBounds_comm _ _ e]
       exact y3
def plain (o : Oper) : Bool := match o.op with
 | .nilCheck _ => true
 | _ => Grow.plain o
def orderB (L : Nat) (md : Region.Mode) (ops : Array Oper) : List (Nat × Bool) → Array Bool → Bool
 | [], listed => (Region.ready md ops listed).isEmpty
 | (i, true) :: r, listed => ((Region.ready md ops listed).contains i && Region.free md ops listed i && ((ops[i]?).map plain).getD false && ahead md ops i ops.size L) && orderB L md ops r (listed.setIfInBounds i true)
 | (i, false) :: r, listed => Region.ready md ops listed == [i] && orderB L md ops r (listed.setIfInBounds i true)
def Seq (L : Nat) (P : Program) (ops : Array Oper) (Q : Exit → Act → World → Prop) : List (Nat × Bool) → Act → World → Prop
 | [], a, w => Q .normal a w
 | (i, true) :: r, a, w => ∃ o, ops[i]? = some o ∧ ∃ v, YieldsIf P ops (Below w.heap.size w) o v a ∧ Seq L P ops Q r (a.put o.dst v) w
 | (i, false) :: r, a, w => Forks.One P ops Q i (fun a' w' => Below w.heap.size w w' ∧ Seq L P ops Q r a' w') a w ∨ (i = L ∧ Forks.One P ops Q i (fun a' w' => Seq L P ops Q r a' w') a w)
theorem seq_M {L : Nat} (hs : Region.noSelect ops = true) (hQ : ∀ c a d v w, Q (.panic c) (a.put d v) w → Q (.panic c) a w) : ∀ (l : List (Nat × Bool)) (listed : Array Bool) (a : Act) (w : World), Shut md ops listed →
   orderB L md ops l listed = true → Seq L P ops Q l a w → M L P md ops Q l.length listed a w
 | [], listed, a, w, _, hB, h => ⟨by simpa [orderB] using hB, h⟩
 | (i, true) :: r, listed, a, w, hS, hB, ⟨o, ho, v, hy, h⟩ => by
   simp only [orderB, Bool.and_eq_true] at hB
   obtain ⟨⟨⟨⟨h1, h2⟩, _⟩, h3⟩, h4⟩ := hB
   have hr : i ∈ Region.ready md ops listed := by simpa using h1
   exact M.first ho hs h3 (fun c a w => hQ c a o.dst v w) r.length listed a w hS (Region.free_spec ho h2) hr hy (seq_M hs hQ r _ _ _ (hS.set hr) h4 h)
 | (i, false) :: r, listed, a, w, hS, hB, h => by
   simp only [orderB, Bool.and_eq_true, beq_iff_eq] at hB
   obtain ⟨h1, h4⟩ := hB
   have hS' : Shut md ops (listed.setIfInBounds i true) := hS.set (by rw [h1]; simp)
   refine ⟨fun h0 => (by rw [h1] at h0; cases h0), fun j hj => ?_⟩
   rw [h1] at hj
   obtain rfl : j = i := by simpa using hj
   rcases h with h | ⟨e, h⟩
   · exact h.op (fun a' w' hh => ⟨fun _ => hh.1, seq_M hs hQ r _ _ _ hS' h4 hh.2⟩)
   · exact h.op (fun a' w' hh => ⟨fun hne => absurd e hne, seq_M hs hQ r _ _ _ hS' h4 hh⟩)
theorem region (L : Nat) {id : Nat} {a : Act} {w : World} {l : List Oper} (order : List (Nat × Bool)) (hm : P.follows .mixedOrders = true) (hs : Region.noSelect l.toArray = true)
   (hl : order.length = l.toArray.size) (hB : orderB L .any l.toArray order (Array.replicate l.toArray.size false) = true) (hQ : ∀ c a d v w, Q (.panic c) (a.put d v) w → Q (.panic c) a w)
   (h : Seq L P l.toArray Q order a w.drew) : (Code.region id l.toArray true).wp P Q a w := by
 refine wp_region_any hm (M.any (L := L) _ _ _ _ ?_)
 have := seq_M (md := .any) hs hQ order (Array.replicate l.toArray.size false) a w.drew (Shut.none _) hB h
 rw [hl] at this
 exact this
theorem reads {L : Nat} {l : List Oper} {i : Nat} {o : Oper} {r : List (Nat × Bool)} {a : Act} {w : World} (hn : Grow.nth l i = some o) (hp : Grow.plain o = true)
   (h : wpQuiet P l.toArray (fun w' => ∃ p : Regrown, w' = grow (redrawn w p.d) p.os) (fun a' => Seq L P l.toArray Q r a' w) [o] a) : Seq L P l.toArray Q ((i, true) :: r) a w := by
 have ho := (Grow.nth_at l i).trans hn
 unfold wpQuiet at h
 split at h
 · rename_i hw
   obtain ⟨v, h1, h2⟩ := h
   refine ⟨o, ho, v, .inl ⟨hw, fun u hu => ?_⟩, h2⟩
   have q := h1 u (regrown_of_below hu)
   unfold Oper.quietAt at q
   cases hx : (execOp a.eval o).run P u with
   | ok n u' =>
     obtain ⟨x, rfl⟩ := Grow.plain_value hp hx
     rw [hx] at q
     obtain ⟨rfl, rfl⟩ := q
     rfl
   | halt x u' => rw [hx] at q; exact q.elim
 · rename_i hw
   exact ⟨o, ho, undef, .inr ⟨by simpa using hw, rfl⟩, h⟩
theorem checks {L : Nat} {l : List Oper} {i : Nat} {o : Oper} {r : List (Nat × Bool)} {a : Act} {w : World} (hn : Grow.nth l i = some o) (hgd : o.guard = none) (x : Operand) (ho : o.op = .nilCheck x) (p : Addr) (hx : a.eval x = .pointer (some p))
   (h : Seq L P l.toArray Q r (a.put o.dst (.pointer (some p))) w) : Seq L P l.toArray Q ((i, true) :: r) a w := by
 refine ⟨o, (Grow.nth_at l i).trans hn, .pointer (some p), .inl ⟨by simp [Region.wanted, hgd], fun u _ => ?_⟩, h⟩
 unfold execOp
 simp only [ho, hx]
 rfl
def On (L : Nat) (P : Program) (ops : Array Oper) (Q : Exit → Act → World → Prop) (r : List (Nat × Bool)) (w : World) (a' : Act) (w' : World) : Prop := Below w.heap.size w w' ∧ Seq L P ops Q r a' w'
theorem acts {L : Nat} {l : List Oper} {i : Nat} {o : Oper} {r : List (Nat × Bool)} {a : Act} {w : World} (hn : Grow.nth l i = some o)
   (h : wpList P l.toArray (Exit.then (On L P l.toArray Q r w) Q) [o] a w) : Seq L P l.toArray Q ((i, false) :: r) a w :=
 .inl ⟨o, (Grow.nth_at l i).trans hn, h⟩
def Done (Q : Exit → Act → World → Prop) (a' : Act) (w' : World) : Prop := Q .normal a' w'
theorem last {L : Nat} {l : List Oper} {o : Oper} {a : Act} {w : World} (hn : Grow.nth l L = some o)
   (h : wpList P l.toArray (Exit.then (Done Q) Q) [o] a w) : Seq L P l.toArray Q [(L, false)] a w :=
 .inr ⟨rfl, o, (Grow.nth_at l L).trans hn, h⟩
theorem done {a : Act} {w : World} (h : Q .normal a w) : Done Q a w := h
end
end Go.Proofs.YtgmdhaepiclkcaaGreatDoor.GrowL
namespace Go.Proofs.YtgmdhaepiclkcaaGreatDoor.EaS
set_option maxRecDepth 100000
open Go Go.Sort Go.RowKit Byt IdM IdW OpsM OpsW RowS CmM CmW CmX CmY DgM DgN DgP DgW DgT DgR DgK DgC DgF FrM FrN EaM EaN EaR EaH
open Classical
end Go.Proofs.YtgmdhaepiclkcaaGreatDoor.EaS
namespace Go.Proofs.YtgmdhaepiclkcaaGreatDoor.StV
set_option maxRecDepth 100000
open Go Go.RowKit Byt OpsM OpsK Rise RowS
section
open CtrM RowS CtrW CtrS
end
section
open RegM RowS RowB RegW RegS
end
section
open PairM PairN RowS RowB PairW PairS
end
end Go.Proofs.YtgmdhaepiclkcaaGreatDoor.StV
namespace Go.Proofs.YtgmdhaepiclkcaaGreatDoor.StrK
set_option maxRecDepth 100000
open Go Go.RowKit Go.Maps Byt Rise
theorem law : Keyed Tryz.prog 9 := string_keyed Tryz.underlying9
def key (x : ByteArray) : Lit := .string x.data.toList
theorem keyOf_str {x : ByteArray} (hx : x.size ≤ maxLen) : keyOf Tryz.prog 9 (.string x) = some (key x) := Go.WideMaps.keyOf_string_mk Tryz.underlying9 hx
theorem key_inj {x y : ByteArray} (h : key x = key y) : x = y := by
 injection h with h
 cases x; cases y
 congr 1
 exact Array.ext' h
theorem keyOf_inv {v : Value} {kl : Lit} (h : keyOf Tryz.prog 9 v = some kl) : ∃ x : ByteArray, v = .string x := by
 obtain ⟨s, h1, _, _⟩ := Go.WideMaps.string_of_keyOf Tryz.underlying9 h
 exact ⟨s, h1⟩
theorem keyOf_key {x : ByteArray} {kl : Lit} (h : keyOf Tryz.prog 9 (.string x) = some kl) : kl = key x ∧ x.size ≤ maxLen := by
 obtain ⟨s, h1, h2, h3⟩ := Go.WideMaps.string_of_keyOf Tryz.underlying9 h
 injection h1 with h1
 subst h1
 exact ⟨h2, h3⟩
theorem same_self (x : ByteArray) : (key x).sameKey (key x) = true := by simp [Lit.sameKey, key]
def In64 (x : Int) : Prop := -9223372036854775808 ≤ x ∧ x ≤ 9223372036854775807
theorem wf64 {n : Int} (h : In64 n) : (Lit.int .i64 n).wf = true := by
 unfold In64 at h
 simp [Lit.wf, IntKind.min, IntKind.max, IntKind.bits, IntKind.signed]
 omega
def upd (v : ByteArray → Int) (y : ByteArray) (c : Int) : ByteArray → Int := fun x => if x = y then c else v x
def NumD (D : DataW Unit) (K : List ByteArray) (v : ByteArray → Int) : Prop :=
 (∀ x, Maps.has D (key x) = true ↔ x ∈ K) ∧ (∀ x, x ∈ K → ∀ z, D.atKey (key x) z = .lit (.int .i64 (v x))) ∧ ∀ x, x ∉ K → v x = 0
def NumIn (w : World) (b n : Nat) (K : List ByteArray) (v : ByteArray → Int) : Prop := ∃ D : DataW Unit, w.ownsMap Tryz.prog 9 (plainElem Tryz.prog 3) b n D ∧ NumD D K v
theorem NumIn.made (w : World) : NumIn (w.alloc (.map #[] 0)) w.heap.size 0 [] fun _ => 0 := ⟨.map [], World.ownsMap_made _ _ _ _, fun x => by simp [Maps.has], fun x hx => absurd hx (by simp), fun _ _ => rfl⟩
theorem NumIn.lt {w : World} {b n : Nat} {K : List ByteArray} {v : ByteArray → Int} (h : NumIn w b n K v) : b < w.heap.size := by obtain ⟨D, hD, _⟩ := h; exact hD.lt
theorem NumIn.kept {w w' : World} {b n : Nat} {K : List ByteArray} {v : ByteArray → Int} {row : Option Nat} (h : NumIn w b n K v) (hg : w.grownBy w' row) (hne : some b ≠ row) : NumIn w' b n K v := by
 obtain ⟨D, hD, hs⟩ := h
 exact ⟨D, hD.kept hg hne, hs⟩
theorem NumIn.below {w w' : World} {b n : Nat} {K : List ByteArray} {v : ByteArray → Int} (h : NumIn w b n K v) (hb : Below w.heap.size w w') : NumIn w' b n K v := h.kept (grown_of_below hb none) (by simp)
theorem NumIn.alloc {w : World} {b n : Nat} {K : List ByteArray} {v : ByteArray → Int} (h : NumIn w b n K v) (o : Obj) : NumIn (w.alloc o) b n K v := h.kept (World.grownBy_alloc w o none) (by simp)
theorem NumIn.congr {w : World} {b n : Nat} {K K' : List ByteArray} {v v' : ByteArray → Int} (h : NumIn w b n K v) (he : ∀ x, x ∈ K ↔ x ∈ K') (hv : ∀ x, v x = v' x) : NumIn w b n K' v' := by
 obtain ⟨D, hD, h1, h2, h3⟩ := h
 exact ⟨D, hD, fun x => by rw [h1]; simp only [he], fun x hx z => by rw [h2 x ((he x).2 hx), hv], fun x hx => by rw [← hv]; exact h3 x (fun h => hx ((he x).1 h))⟩
theorem NumIn.up {w : World} {b n m : Nat} {K : List ByteArray} {v : ByteArray → Int} (h : NumIn w b n K v) (hm : n ≤ m) : NumIn w b m K v := by
 obtain ⟨D, hD, hs⟩ := h
 exact ⟨D, hD.mono hm, hs⟩
theorem put_D {D : DataW Unit} {K : List ByteArray} {v : ByteArray → Int} (hm : Maps.IsMap D) (h : NumD D K v) {y : ByteArray} (hy : y.size ≤ maxLen) (c : Int) : NumD (D.put (key y) (.lit (.int .i64 c))) (y :: K) (upd v y c) := by
 have hk : WideAt.IsKeyLit (key y) := law.key (keyOf_str hy)
 refine ⟨fun x => ?_, fun x hx z => ?_, fun x hx => ?_⟩
 · by_cases hxy : x = y
   · subst hxy
     rw [Maps.has_put_same hm hk]
     simp
   · rw [Maps.has_put_other (fun e => hxy (key_inj e)), h.1]
     simp [hxy]
 · unfold upd
   by_cases hxy : x = y
   · subst hxy
     rw [if_pos rfl]
     exact Maps.atKey_put_same hm hk _ _
   · rw [Maps.atKey_put_other (fun e => hxy (key_inj e)), if_neg hxy]
     exact h.2.1 x (by simpa [hxy] using hx) z
 · simp only [List.mem_cons, not_or] at hx
   unfold upd
   rw [if_neg hx.1]
   exact h.2.2 x hx.2
theorem zero_int (w : World) : (zeroValue 3).run Tryz.prog w = .ok (.int .i64 0) w := by kernel_rfl
section
variable (w : World) {ops : Array Oper} {rest : List Oper} {o : Oper} {a : Act} {Q : Exit → Act → World → Prop}
theorem wpList_put (hg : o.guard = none) (m x v : Operand) (hop : o.op = Op.mapUpdate 133 m x v) (b n : Nat) (K : List ByteArray) (f : ByteArray → Int) (hm : a.eval m = .map (some b)) (h : NumIn w b n K f) (hn : n < 1000000000)
   (y : ByteArray) (hy : y.size ≤ maxLen) (c : Int) (hc : In64 c) (hx : a.eval x = .string y) (hv : a.eval v = .int .i64 c) (hK : ∀ w', NumIn w' b (n + 1) (y :: K) (upd f y c) → w.grownBy w' (some b) → wpList Tryz.prog ops Q rest (a.put o.dst undef) w') : wpList Tryz.prog ops Q (o :: rest) a w := by
 obtain ⟨D, hD, hs⟩ := h
 exact wpList_mapUpdate_own w hg m x v 133 hop 9 3 law Tryz.underlying133 _ b n D hm hD (by unfold maxLen; omega) _ _ (key y) hx hv (keyOf_str hy) _ [] (plainElem_int Tryz.underlying3 (wf64 hc))
   (fun w' h1 h2 => hK w' ⟨_, h1, put_D hD.isMap hs hy c⟩ h2)
theorem wpList_insert (hg : o.guard = none) (m x v : Operand) (hop : o.op = Op.insert 133 m x v) (b n : Nat) (K : List ByteArray) (f : ByteArray → Int) (hm : a.eval m = .map (some b)) (h : NumIn w b n K f) (hn : n < 1000000000)
   (y : ByteArray) (hy : y.size ≤ maxLen) (c : Int) (hc : In64 c) (hx : a.eval x = .string y) (hv : a.eval v = .int .i64 c) (hK : ∀ w', NumIn w' b (n + 1) (y :: K) (upd f y c) → w.grownBy w' (some b) → wpList Tryz.prog ops Q rest (a.put o.dst undef) w') : wpList Tryz.prog ops Q (o :: rest) a w := by
 obtain ⟨D, hD, hs⟩ := h
 refine wpList_plain hg fun K' hK' => ?_
 obtain ⟨w', hrun, r1, r2⟩ := hD.update law Tryz.underlying133 (by unfold maxLen; omega) (keyOf_str hy) (plainElem_int Tryz.underlying3 (wf64 hc))
 unfold Oper.wp
 simp [execOp, hop, hm, hx, hv, hrun, Result.andThen]
 exact hK' _ _ (hK w' ⟨_, r1, put_D hD.isMap hs hy c⟩ r2)
theorem wpList_find (hg : o.guard = none) (m x : Operand) (hop : o.op = Op.lookup 133 m x false) (b n : Nat) (K : List ByteArray) (f : ByteArray → Int) (hm : a.eval m = .map (some b)) (h : NumIn w b n K f)
   (y : ByteArray) (hy : y.size ≤ maxLen) (hx : a.eval x = .string y) (hK : wpList Tryz.prog ops Q rest (a.put o.dst (.int .i64 (f y))) w) : wpList Tryz.prog ops Q (o :: rest) a w := by
 obtain ⟨D, hD, hs⟩ := h
 refine wpList_lookup_own_int w hg m x 133 hop 9 3 .i64 law Tryz.underlying133 Tryz.underlying3 (zero_int w) b n D hm hD _ (key y) hx (keyOf_str hy) (fun c hat _ => ?_)
 have hc : c = f y := by
   by_cases hyK : y ∈ K
   · rw [hs.2.1 y hyK] at hat
     injection hat with hat
     injection hat with _ hat
     exact hat.symm
   · have hh : Maps.has D (key y) = false := by
       rw [← Bool.not_eq_true, hs.1 y]
       exact hyK
     rw [Maps.atKey_of_not_has hh] at hat
     rw [hs.2.2 y hyK]
     injection hat with hat
     injection hat with _ hat
     exact hat.symm
 rw [hc]
 exact hK
end
end Go.Proofs.YtgmdhaepiclkcaaGreatDoor.StrK
namespace Go.Proofs.YtgmdhaepiclkcaaGreatDoor.CtrG
set_option maxRecDepth 100000
open Go Go.RowKit Byt OpsM Rise CtrM RowS RowB CtrW StrK
theorem w64_wrap (x : Int) : w64 x = wrap64 x := by rw [w64_eq]; unfold wrap64; rfl
theorem in_wrap (x : Int) : StrK.In64 (wrap64 x) := by rw [← w64_wrap]; exact CtrL.w64_in x
def more (t : Int) (v : ByteArray → Int) (c : Cn) : ByteArray → Int := upd v c.key (w64 (v c.key + w64 (t * c.n)))
def gath (t : Int) (v : ByteArray → Int) (l : List Cn) : ByteArray → Int := l.foldl (more t) v
theorem gath_snoc (t : Int) (v : ByteArray → Int) (l : List Cn) (c : Cn) : gath t v (l ++ [c]) = more t (gath t v l) c := by simp [gath]
theorem gath_take (t : Int) (v : ByteArray → Int) {l : List Cn} {k : Nat} {c : Cn} (h : l[k]? = some c) : gath t v (l.take (k + 1)) = more t (gath t v (l.take k)) c := by
 obtain ⟨hk, rfl⟩ := List.getElem?_eq_some_iff.1 h
 rw [List.take_succ_eq_append_getElem hk, gath_snoc]
theorem keys_take {l : List Cn} {k : Nat} {c : Cn} (h : l[k]? = some c) (K : List ByteArray) (z : ByteArray) : z ∈ c.key :: (K ++ (l.take k).map Cn.key) ↔ z ∈ K ++ (l.take (k + 1)).map Cn.key := by
 obtain ⟨hk, rfl⟩ := List.getElem?_eq_some_iff.1 h
 rw [List.take_succ_eq_append_getElem hk]
 simp only [List.mem_cons, List.mem_append, List.map_append, List.map_cons, List.map_nil, List.not_mem_nil, or_false]
 constructor
 · rintro (h | h | h)
   · exact .inr (.inr h)
   · exact .inl h
   · exact .inr (.inl h)
 · rintro (h | h | h)
   · exact .inr (.inl h)
   · exact .inr (.inr h)
   · exact .inl h
theorem gath_get (t : Int) : ∀ (l : List Cn) (v : ByteArray → Int) (k : ByteArray), Rises Cn.key ltS l → CtrL.In64 (v k) → gath t v l k = w64 (v k + w64 (t * getC l k))
 | [], v, k, _, hv => by
   show v k = w64 (v k + w64 (t * 0))
   rw [Int.mul_zero, CtrL.w64_id (x := 0) (by unfold CtrL.In64; omega), Int.add_zero, CtrL.w64_id hv]
 | c :: r, v, k, h, hv => by
   obtain ⟨h1, h2⟩ := List.pairwise_cons.1 h
   show gath t (more t v c) r k = _
   by_cases hk : c.key = k
   · have hm : more t v c k = w64 (v k + w64 (t * c.n)) := by unfold more upd; rw [if_pos hk.symm, hk]
     have hr : getC r k = 0 := getC_none (fun d hd => by
       have := strictS.ne (h1 d hd)
       rw [hk] at this
       exact this.symm)
     rw [gath_get t r _ k h2 (by rw [hm]; exact CtrL.w64_in _), hm, hr, getC_cons, if_pos hk, Int.mul_zero, CtrL.w64_id (x := 0) (by unfold CtrL.In64; omega), Int.add_zero, CtrL.w64_id (CtrL.w64_in _)]
   · have hm : more t v c k = v k := by unfold more upd; rw [if_neg (fun e => hk e.symm)]
     rw [gath_get t r _ k h2 (by rw [hm]; exact hv), hm, getC_cons, if_neg hk]
set_option maxHeartbeats 4000000 in
theorem gather_ret (b n : Nat) (K : List ByteArray) (v : ByteArray → Int) (A : Option Addr) (cap : Nat) (l : List Cn) (t : Int) (w : World) (h : NumIn w b n K v) (S : SlR E w A cap l) (hf : Fits l) (hn : n ≤ 100000000) (hl : l.length ≤ 100000000) :
   Calls Tryz.prog 93 #[.map (some b), .slice A l.length cap, .int .i64 t] w fun e w' => e = .returned (.tuple #[]) ∧ NumIn w' b (n + l.length) (K ++ l.map Cn.key) (gath t v l) ∧ w.grownBy w' (some b) := by
 have hcap := S.1
 go_enter Tryz.func93, Tryz.ntmps93
 go_wp2_with fail
 go_loopw [10] (fun i wr => ∃ k : Nat, k ≤ l.length ∧ i = .int .i64 k ∧ NumIn wr b (n + k) (K ++ (l.take k).map Cn.key) (gath t v (l.take k)) ∧ w.grownBy wr (some b)) (fun i _ => l.length - (intOf i).toNat)
 case atStart => exact ⟨0, Nat.zero_le _, rfl, by simpa [gath] using h, grown_of_below (Below.refl _ _) _⟩
 case round =>
   obtain ⟨k, hk, rfl, hset, kg⟩ := hrel
   by_cases hlt : k < l.length
   · obtain ⟨g, off, rfl, hbw, hr⟩ := S.plain (by omega)
     obtain ⟨x, hx⟩ : ∃ x, l[k]? = some x := ⟨_, List.getElem?_eq_getElem hlt⟩
     have hxm := List.mem_of_getElem? hx
     obtain ⟨x1, x2, x3⟩ := hf x hxm
     have hne : g ≠ b := by
       obtain ⟨D, ⟨es, clock, hm, _⟩, _⟩ := h
       exact map_not_cells hm (hr k x hx)
     have hr1 := range_kept (hr k x hx) kg hbw hne
     have HT := aside (gath_take t v hx)
     have HK := aside (keys_take hx K)
     obtain ⟨f, hf0⟩ : ∃ f, gath t v (l.take k) = f := ⟨_, rfl⟩
     rw [hf0] at hset HT
     have p0 : (k : Int) < l.length := by omega
     have m0 : ((k : Int)).toNat = k := by omega
     have hmx : x.key.size ≤ maxLen := by unfold maxLen; omega
     clear hr S hx hf hxm hf0 h
     go_wp2_with (first
       | (refine wpList_load_at E rfl _ rfl g _ rfl x hr1 ?_)
       | (refine wpList_store_new E rfl _ _ rfl _ _ _ rfl x _ rfl rfl rfl rfl ?_; intro w2 bx kx gx sx; have c0 := bx.cell (j := 0) rfl; have c1 := bx.cell (j := 1) rfl)
       | (refine wpList_find _ rfl _ _ rfl b _ _ f rfl (hset.kept gx (by simp)) x.key hmx rfl ?_)
       | (refine wpList_put _ rfl _ _ _ rfl b _ _ f rfl (hset.kept gx (by simp)) (by omega) x.key hmx (wrap64 (f x.key + wrap64 (t * x.n))) (in_wrap _) rfl rfl ?_; intro w3 hs3 hg3))
     go_roundw
     case rel =>
       refine ⟨k + 1, by omega, by go_num, (hs3.congr HK.out (fun z => ?_)).up (by omega), ?_⟩
       · rw [HT.out, ← w64_wrap, ← w64_wrap]
         rfl
       · exact (kg.trans (gx.but _)).trans hg3
     case measure => simp [intOf]; omega
   · have e : k = l.length := by omega
     subst e
     rw [List.take_length] at hset
     go_wp2_with fail
     go_end0
     exact ⟨rfl, hset, kg⟩
end Go.Proofs.YtgmdhaepiclkcaaGreatDoor.CtrG
namespace Go.Proofs
set_option maxRecDepth 100000
open Go.Shelf
def Tryz.sortStrs_ren : Go.Shelf.Ren := ⟨fun | 6 => 172 | 8 => 151 | 9 => 209 | 19 => 184 | 20 => 185 | 21 => 228 | 22 => 229 | 23 => 230 | 24 => 231 | 25 => 232 | 26 => 233 | 27 => 234 | 28 => 235 | 29 => 236 | 31 => 220 | 32 => 221 | 36 => 242 | 37 => 243 | 38 => 244 | 39 => 245 | 41 => 247 | n => n, fun | 0 => 0 | 3 => 3 | 4 => 4 | 5 => 5 | 9 => 9 | 26 => 170 | 27 => 170 | 29 => 9 | 32 => 184 | 35 => 202 | 36 => 203 | 41 => 207 | 44 => 161 | 46 => 157 | 53 => 229 | 57 => 233 | 63 => 245 | 64 => 246 | n => n, fun | n => n⟩
theorem Tryz.sortStrs : Go.Proofs.SlLaysM.n6 Tryz.prog Tryz.sortStrs_ren := {
 mixed := by kernel_rfl
 f6 := ⟨Tryz.f172.name, by decide, Tryz.func172.trans (congrArg some (by kernel_rfl))⟩
 f8 := Tryz.func151.trans (congrArg some (by kernel_rfl))
 f9 := ⟨Tryz.f209.name, by decide, Tryz.func209.trans (congrArg some (by kernel_rfl))⟩
 f19 := Tryz.func184.trans (congrArg some (by kernel_rfl))
 f20 := Tryz.func185.trans (congrArg some (by kernel_rfl))
 f21 := ⟨Tryz.f228.name, by decide, Tryz.func228.trans (congrArg some (by kernel_rfl))⟩
 f22 := ⟨Tryz.f229.name, by decide, Tryz.func229.trans (congrArg some (by kernel_rfl))⟩
 f23 := ⟨Tryz.f230.name, by decide, Tryz.func230.trans (congrArg some (by kernel_rfl))⟩
 f24 := ⟨Tryz.f231.name, by decide, Tryz.func231.trans (congrArg some (by kernel_rfl))⟩
 f25 := ⟨Tryz.f232.name, by decide, Tryz.func232.trans (congrArg some (by kernel_rfl))⟩
 f26 := ⟨Tryz.f233.name, by decide, Tryz.func233.trans (congrArg some (by kernel_rfl))⟩
 f27 := ⟨Tryz.f234.name, by decide, Tryz.func234.trans (congrArg some (by kernel_rfl))⟩
 f28 := ⟨Tryz.f235.name, by decide, Tryz.func235.trans (congrArg some (by kernel_rfl))⟩
 f29 := ⟨Tryz.f236.name, by decide, Tryz.func236.trans (congrArg some (by kernel_rfl))⟩
 f31 := Tryz.func220.trans (congrArg some (by kernel_rfl))
 f32 := Tryz.func221.trans (congrArg some (by kernel_rfl))
 f36 := ⟨Tryz.f242.name, by decide, Tryz.func242.trans (congrArg some (by kernel_rfl))⟩
 f37 := ⟨Tryz.f243.name, by decide, Tryz.func243.trans (congrArg some (by kernel_rfl))⟩
 f38 := ⟨Tryz.f244.name, by decide, Tryz.func244.trans (congrArg some (by kernel_rfl))⟩
 f39 := ⟨Tryz.f245.name, by decide, Tryz.func245.trans (congrArg some (by kernel_rfl))⟩
 f41 := ⟨Tryz.f247.name, by decide, Tryz.func247.trans (congrArg some (by kernel_rfl))⟩
 t0 := Tryz.underlying0
 a0 := Tryz.isAgg0
 z0 := Tryz.sizeOf0
 v0 := Tryz.zeroValue0
 t3 := Tryz.underlying3
 a3 := Tryz.isAgg3
 z3 := Tryz.sizeOf3
 v3 := Tryz.zeroValue3
 t4 := Tryz.underlying4
 a4 := Tryz.isAgg4
 z4 := Tryz.sizeOf4
 v4 := Tryz.zeroValue4
 t5 := Tryz.underlying5
 a5 := Tryz.isAgg5
 z5 := Tryz.sizeOf5
 v5 := Tryz.zeroValue5
 t9 := Tryz.underlying9
 a9 := Tryz.isAgg9
 z9 := Tryz.sizeOf9
 v9 := Tryz.zeroValue9
 t26 := Tryz.underlying170
 a26 := Tryz.isAgg170
 z26 := Tryz.sizeOf170
 v26 := Tryz.zeroValue170
 t27 := Tryz.underlying170
 a27 := Tryz.isAgg170
 z27 := Tryz.sizeOf170
 v27 := Tryz.zeroValue170
 t29 := Tryz.underlying9
 a29 := Tryz.isAgg9
 z29 := Tryz.sizeOf9
 v29 := Tryz.zeroValue9
 t32 := Tryz.underlying184
 a32 := Tryz.isAgg184
 z32 := Tryz.sizeOf184
 v32 := Tryz.zeroValue184
 t35 := Tryz.underlying202
 a35 := Tryz.isAgg202
 z35 := Tryz.sizeOf202
 v35 := Tryz.zeroValue202
 t36 := Tryz.underlying203
 a36 := Tryz.isAgg203
 z36 := Tryz.sizeOf203
 v36 := Tryz.zeroValue203
 t41 := Tryz.underlying207
 a41 := Tryz.isAgg207
 z41 := Tryz.sizeOf207
 v41 := Tryz.zeroValue207
 t44 := Tryz.underlying161
 a44 := Tryz.isAgg161
 z44 := Tryz.sizeOf161
 v44 := Tryz.zeroValue161
 t46 := Tryz.underlying157
 a46 := Tryz.isAgg157
 z46 := Tryz.sizeOf157
 v46 := Tryz.zeroValue157
 t53 := Tryz.underlying229
 a53 := Tryz.isAgg229
 z53 := Tryz.sizeOf229
 v53 := Tryz.zeroValue229
 t57 := Tryz.underlying233
 a57 := Tryz.isAgg233
 z57 := Tryz.sizeOf233
 v57 := Tryz.zeroValue233
 t63 := Tryz.underlying245
 a63 := Tryz.isAgg245
 z63 := Tryz.sizeOf245
 v63 := Tryz.zeroValue245
 t64 := Tryz.underlying246
 a64 := Tryz.isAgg246
 z64 := Tryz.sizeOf246
 v64 := Tryz.zeroValue246 }
end Go.Proofs
