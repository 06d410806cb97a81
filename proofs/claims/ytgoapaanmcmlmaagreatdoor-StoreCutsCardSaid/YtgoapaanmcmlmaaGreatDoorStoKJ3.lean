/- What the project's Put, Last and size of package store return: contracts. No condition but sizes. | A region that draws its order and in which a loop's body is called, which may write: one order serves every order. No condition. | As GrowL, where all operations from one on may write what was there: they wait for all that read; also in a round of a loop over a function. No condition. -/
import Derived.Test.YtgoapaanmcmlmaaGreatDoorStGJ6
import Derived.Test.YtgoapaanmcmlmaaGreatDoorCmTJ2
import Derived.Test.YtgoapaanmcmlmaaGreatDoorOpenKJ3
import Derived.Test.YtgoapaanmcmlmaaGreatDoorIdXJ10
import Derived.OrdersIn
import Derived.RangeFuncNested
import Derived.RangeFuncCalls
import Derived.Test.YtgoapaanmcmlmaaGreatDoorStoBJ4
namespace Go.Proofs.YtgoapaanmcmlmaaGreatDoor.StoK
set_option maxRecDepth 100000
open Go Go.Sort Go.RowKit Byt IdM IdW OpsM OpsW CmM StW CmW CmX CmY CmA DgM DgW StoM StoW LogM LogD LogE LogW
set_option maxRecDepth 100000 in
set_option maxHeartbeats 8000000 in
theorem put_ret (A : Option Addr) (cap len : Nat) (b : List Int) (room : Int) (v : Cv) (w : World) (S : Sl w A cap b) (hl : b.length = len) (hm : len ≤ 900000000) (I : In w v) (hf : Fit v.c) (hK : ShaE.KIn w) :
   Calls Tryz.prog 10 #[.slice A len cap, .int .i64 room, .agg (cc v)] w (GivesN (putO b v.c room) w) := by
 have k0 := StW.below_alloc w (.cells (cc v) 29)
 have R0 : Cel.Box CE (w.alloc (.cells (cc v) 29)) w.heap.size v := Cel.Box.new w v _
 have I0 := I.below k0
 have q := CmA.put_ret v _ I0 hf
 unfold PutOut at q
 cases hmay : mayK v.c with
 | false =>
   obtain ⟨y1, y2, _⟩ := putB_no hmay
   rw [y1, y2] at q
   have HO : Hid (putO b v.c room = ([], 1)) := aside (by unfold putO; rw [hmay]; rfl)
   clear S hl hm I hf hK I0 hmay y1 y2
   go_enter Tryz.func10, Tryz.ntmps10
   go_wp2_with (first | go_skip | (refine Cel.wpList_load_box CE rfl _ rfl _ rfl v R0 ?_))
   refine q.mono ?_
   rintro e w1 ⟨A1, c1, rfl, S1, k1⟩
   have b1 := k0.trans (k1.mono k0.size)
   clear q R0 k0 k1
   go_wp2_with (first | go_skip)
   refine bodyPost_ret (v := .tuple #[.slice none 0 0, .int .i64 1]) (by simp [results, Tryz.results10, go_sem]) rfl ?_
   rw [HO.out]
   exact GivesN.none _ _ _ b1
 | true =>
   obtain ⟨y1, y2, _⟩ := putB_yes hmay
   rw [y1, y2] at q
   have HO : Hid (putO b v.c room = writeO b (putK v.c) room) := aside (by unfold putO; rw [hmay]; rfl)
   have HL := aside hl
   clear I hf I0 hmay y1 y2 hl
   go_enter Tryz.func10, Tryz.ntmps10
   go_wp2_with (first | go_skip | (refine Cel.wpList_load_box CE rfl _ rfl _ rfl v R0 ?_))
   refine q.mono ?_
   rintro e w1 ⟨A1, c1, rfl, S1, k1⟩
   have b1 := k0.trans (k1.mono k0.size)
   have q2 := write_new (room := room) (S.below b1) S1 HL.out rfl hm (hK.below b1)
   clear q R0 k0 k1 S S1
   go_wp2_with (first | go_skip)
   refine q2.mono ?_
   rintro e w2 ⟨v2, rfl, own, k2⟩
   clear q2
   go_wp2_with (first | go_skip)
   refine bodyPost_ret (v := .tuple #[v2, .int .i64 (writeO b (putK v.c) room).2]) (by simp [results, Tryz.results10, go_sem]) rfl ?_
   rw [HO.out]
   exact ⟨v2, rfl, ⟨own.1, own.2.imp id fun ⟨g, cp, cur, e1, h1, r⟩ => ⟨g, cp, cur, e1, Nat.le_trans b1.size h1, r⟩⟩, b1.trans (k2.mono b1.size)⟩
theorem last_next {l : List Com} {k : Nat} {c : Com} (h : l[k]? = some c) (node : Int) : lastL (l.take (k + 1)) node = if c.node = node then max (lastL (l.take k) node) c.seq else lastL (l.take k) node := by
 obtain ⟨hk, rfl⟩ := List.getElem?_eq_some_iff.1 h
 rw [List.take_succ_eq_append_getElem hk, lastL_snoc]
 by_cases e : (l[k]).node = node
 · rw [if_pos e]
   by_cases h : lastL (l.take k) node < (l[k]).seq
   · rw [if_pos ⟨e, h⟩]; omega
   · rw [if_neg fun q => h q.2]; omega
 · rw [if_neg e, if_neg fun q => e q.1]
set_option maxRecDepth 100000 in
set_option maxHeartbeats 8000000 in
theorem last_ret (A : Option Addr) (cap : Nat) (l : List Cv) (node : Int) (w : World) (S : SlK w A cap l) :
   Calls Tryz.prog 17 #[.slice A l.length cap, .int .i64 node] w fun e w' => e = .returned (.int .i64 (lastL (coms l) node)) ∧ Below w.heap.size w w' := by
 have hmax := S.len
 have hlc := coms_len l
 go_enter Tryz.func17, Tryz.ntmps17
 go_wp2_with (first | go_skip)
 go_loopw [5, 10] (fun s i wr => ∃ k : Nat, k ≤ l.length ∧ s = .int .i64 (lastL ((coms l).take k) node) ∧ i = .int .i64 k ∧ Below w.heap.size w wr) (fun _ i _ => l.length - (intOf i).toNat)
 case atStart => exact ⟨0, Nat.zero_le _, rfl, rfl, Below.refl _ _⟩
 case round =>
   obtain ⟨k, hk, rfl, rfl, kb⟩ := hrel
   by_cases hlt : k < l.length
   · obtain ⟨b, off, rfl, hbw, hrg⟩ := S.plain (by omega)
     obtain ⟨x, hx⟩ : ∃ x, l[k]? = some x := ⟨_, List.getElem?_eq_getElem hlt⟩
     have rx := range_on (hrg k x hx) kb
     have p0 : (k : Int) < l.length := by omega
     have m0 : ((k : Int)).toNat = k := by omega
     have HN := aside (last_next (coms_at hx) node)
     obtain ⟨g, hg⟩ : ∃ g, lastL ((coms l).take k) node = g := ⟨_, rfl⟩
     obtain ⟨n, hxn⟩ : ∃ n, x.c.node = n := ⟨_, rfl⟩
     obtain ⟨q, hxq⟩ : ∃ q, x.c.seq = q := ⟨_, rfl⟩
     rw [hg, hxn, hxq] at HN
     rw [hg]
     have HXN := aside hxn
     have HXQ := aside hxq
     clear hrg hx hg hxn hxq
     by_cases e : n = node
     · subst e
       have HM := aside (HN.out.trans (if_pos rfl))
       clear HN
       go_wp2_with (first | go_skip | (refine load_at rfl _ rfl _ _ rfl x rx ?_) | (refine Cel.wpList_store_new CE rfl _ _ rfl wr _ _ rfl x _ rfl rfl rfl rfl ?_; intro w3 B3 k3 g3 s3; have b3 := kb.trans (k3.mono kb.size); have c3 := cell_node B3; rw [HXN.out] at c3; have c4 := cell_seq B3; rw [HXQ.out] at c4; clear g3 s3))
       go_roundw
       case rel => exact ⟨k + 1, by omega, by rw [HM.out], by go_num, b3⟩
       case measure => simp [intOf]; omega
     · have HM := aside (HN.out.trans (if_neg e))
       clear HN
       go_wp2_with (first | go_skip | (refine load_at rfl _ rfl _ _ rfl x rx ?_) | (refine Cel.wpList_store_new CE rfl _ _ rfl wr _ _ rfl x _ rfl rfl rfl rfl ?_; intro w3 B3 k3 g3 s3; have b3 := kb.trans (k3.mono kb.size); have c3 := cell_node B3; rw [HXN.out] at c3; clear g3 s3))
       go_roundw
       case rel => exact ⟨k + 1, by omega, by rw [HM.out], by go_num, b3⟩
       case measure => simp [intOf]; omega
   · obtain rfl : k = l.length := by omega
     rw [List.take_of_length_le (by omega)]
     go_wp2_with (first | go_skip)
     go_ret
     exact ⟨rfl, kb⟩
set_option maxRecDepth 100000 in
set_option maxHeartbeats 4000000 in
theorem size_ret {w : World} {A : Option Addr} {cap len : Nat} {l : List Int} (S : Sl w A cap l) (hl : l.length = len) (hm : len ≤ 4000) (hK : ShaE.KIn w) :
   Calls Tryz.prog 55 #[.slice A len cap] w fun e w' => e = .returned (.int .i64 ((frameL l).length : Nat)) ∧ Below w.heap.size w w' := by
 have q := LogE.frame_ret S hl hK
 have HO : Hid (frameO l = (frameL l, 0)) := aside (by unfold frameO; rw [if_pos (by omega)])
 rw [HO.out] at q
 clear S hl hm hK HO
 go_enter Tryz.func55, Tryz.ntmps55
 go_wp2_with (first | go_skip)
 refine q.mono ?_
 rintro e w1 ⟨A1, c1, rfl, S1, k1⟩
 clear q
 go_wp2_with (first | go_skip)
 go_ret
 exact ⟨rfl, k1⟩
end Go.Proofs.YtgoapaanmcmlmaaGreatDoor.StoK
namespace Go.Proofs.YtgoapaanmcmlmaaGreatDoor.GrowI
set_option maxRecDepth 100000
open Go Go.Sort Go.RowKit Grow GrowL
section
variable {n : Nat} {P : Program} {ops : Array Oper} {Q : Exit → Act → World → Prop} {md : Region.Mode} {S : World → Prop}
def M (L : Nat) (n : Nat) (P : Program) (md : Region.Mode) (ops : Array Oper) (Q : Exit → Act → World → Prop) : Nat → Array Bool → Act → World → Prop
 | 0, listed, a, w => Region.ready md ops listed = [] ∧ Q .normal a w
 | fuel + 1, listed, a, w => (Region.ready md ops listed = [] → Q .normal a w) ∧
   ∀ i ∈ Region.ready md ops listed, wpOpIn Fence.wide n P ops Q i (fun a' w' => (i < L → Below w.heap.size w w') ∧ M L n P md ops Q fuel (listed.setIfInBounds i true) a' w') a w
theorem M.any {L : Nat} : ∀ (fuel : Nat) (listed : Array Bool) (a : Act) (w : World), M L n P md ops Q fuel listed a w → wpAnyIn Fence.wide n P md ops Q fuel listed a w
 | 0, _, _, _, h => h
 | fuel + 1, _, _, _, h => ⟨h.1, fun i hi => wpOpIn_mono (fun a' w' h' => M.any fuel _ a' w' h'.2) (h.2 i hi)⟩
theorem opIn {i : Nat} {o : Oper} {v : Value} {a : Act} (hi : ops[i]? = some o) (hy : YieldsIf P ops S o v a) {K : Act → World → Prop} {w : World} (hS : S w) (h : K (a.put o.dst v) w) : wpOpIn Fence.wide n P ops Q i K a w := by
 unfold Go.wpOpIn
 simp only [hi]
 rcases hy with ⟨hw, hv⟩ | ⟨hw, rfl⟩
 · simp only [hw, if_true, Oper.wpIn]
   refine ⟨fun _ _ => trivial, ?_⟩
   rw [show Fence.wide.round = none from rfl, Oper.semAt_none, hv w hS]
   exact h
 · simp only [hw, Bool.false_eq_true, if_false]
   exact ⟨fun _ _ => trivial, h⟩
theorem putIf {j : Nat} {oi oj : Oper} {v : Value} (hj : ops[j]? = some oj) (hap : oi.apart ops oj = true) (hsi : ∀ cs b, oi.op ≠ .select cs b) (hsj : ∀ cs b, oj.op ≠ .select cs b)
   (hQ : ∀ c a w, Q (.panic c) (a.put oi.dst v) w → Q (.panic c) a w) {K : Act → World → Prop} {a : Act} {w : World} (hy : YieldsIf P ops S oi v a) (h : wpOpIn Fence.wide n P ops Q j K (a.put oi.dst v) w) :
   wpOpIn Fence.wide n P ops Q j (fun a' w' => YieldsIf P ops S oi v a' ∧ K (a'.put oi.dst v) w') a w := by
 obtain ⟨h1, h2, h3⟩ := Oper.apart_spec hap
 have keep : ∀ (a : Act), YieldsIf P ops S oi v a → ∀ u, YieldsIf P ops S oi v (a.put oj.dst u) := fun a hy u => hy.of_same (execOp_put oi hsi a oj.dst u h3) (wanted_put oi a oj.dst u h3)
 have swap : ∀ (a : Act) (u : Value), (a.put oi.dst v).put oj.dst u = (a.put oj.dst u).put oi.dst v := fun a u => (Act.put_comm a v u h2)
 unfold wpOpIn at h ⊢
 simp only [hj] at h ⊢
 rw [wanted_put oj a oi.dst v h1] at h
 split
 · rename_i hw
   simp only [hw, if_true] at h
   refine ⟨fun _ _ => trivial, ?_⟩
   have g := h.2
   rw [show Fence.wide.round = none from rfl, Oper.semAt_none, execOp_put oj hsj a oi.dst v h1] at g
   rw [show Fence.wide.round = none from rfl, Oper.semAt_none]
   generalize (execOp a.eval oj).run P w = r at g ⊢
   cases r with
   | ok x w' =>
     cases x <;> simp only [Oper.uponIn] at g ⊢
     case value u => exact ⟨keep a hy u, by rw [← swap]; exact g⟩
     case skip => exact ⟨keep a hy _, by rw [← swap]; exact g⟩
     case defer d =>
       have hd : YieldsIf P ops S oi v { a with defers := d :: a.defers } := hy.of_same rfl rfl
       refine ⟨keep _ hd _, ?_⟩
       rw [← swap, ← Act.put_defers]
       exact g
     case enter f args =>
       refine ⟨g.1, CallsIn.mono g.2 fun e w'' he => ?_⟩
       cases e with
       | returned u => exact ⟨keep a hy u, by rw [← swap]; exact he⟩
       | panicked c => exact hQ _ _ _ he
       | outgrown => exact he
     case row row args => exact ⟨g.1, RowsIn.mono g.2 fun u w'' he => ⟨keep a hy u, by rw [← swap]; exact he⟩⟩
     case round l f tmps assign body =>
       refine ⟨g.1, RoundIn.mono g.2 fun e w'' he => ?_⟩
       cases e with
       | returned u => exact ⟨keep a hy u, by rw [← swap]; exact he⟩
       | panicked c => exact hQ _ _ _ he
       | outgrown => exact he
   | halt x w' =>
     cases x <;> simp only [Oper.uponIn] at g ⊢
     case panic u => exact hQ _ _ _ g
 · rename_i hw
   simp only [hw, Bool.false_eq_true, if_false] at h
   exact ⟨fun _ _ => trivial, keep a hy _, by rw [← swap]; exact h.2⟩
theorem M.first {L i : Nat} {oi : Oper} {v : Value} (hi : ops[i]? = some oi) (hs : Region.noSelect ops = true) {af : Nat} (hA : ∀ j, j < ops.size → L ≤ j → GrowL.ahead md ops i af j = true) (hQ : ∀ c a w, Q (.panic c) (a.put oi.dst v) w → Q (.panic c) a w) (fuel : Nat) :
   ∀ (listed : Array Bool) (a : Act) (w : World), Shut md ops listed →
     (∀ j oj, ops[j]? = some oj → j ≠ i → listed.getD j true = false → (∀ e ∈ oj.after, Region.binds md e = true → e.on ≠ i) → oi.apart ops oj = true) →
     i ∈ Region.ready md ops listed → YieldsIf P ops (Below w.heap.size w) oi v a →
     M L n P md ops Q fuel (listed.setIfInBounds i true) (a.put oi.dst v) w → M L n P md ops Q (fuel + 1) listed a w := by
 have sel := fun (j : Nat) (o : Oper) (cs : Array SelectCase) (b : Bool) (h : ops[j]? = some o) => Region.noSelect_spec hs j o cs b h
 induction fuel with
 | zero =>
   intro listed a w _ _ hr hy H
   refine ⟨fun h0 => absurd hr (by rw [h0]; simp), fun j hj => ?_⟩
   by_cases e : j = i
   · subst e
     exact opIn hi hy (Below.refl _ _) ⟨fun _ => Below.refl _ _, H⟩
   · exact absurd (ready_mono hj e) (by rw [H.1]; simp)
 | succ fuel ih =>
   intro listed a w hS hf hr hy H
   refine ⟨fun h0 => absurd hr (by rw [h0]; simp), fun j hj => ?_⟩
   by_cases e : j = i
   · subst e
     exact opIn hi hy (Below.refl _ _) ⟨fun _ => Below.refl _ _, H⟩
   · have hjL : j < L := by
       refine Nat.lt_of_not_le fun hle => ?_
       obtain ⟨_, o', ho', _⟩ := mem_ready.1 hj
       exact not_both (mem_ready.1 hr).1 (ahead_listed hS af j (hA j (Array.getElem?_eq_some_iff.1 ho').1 hle) (.inr hj))
     have hstep := H.2 j (ready_mono hj e)
     obtain ⟨hun, oj, hoj, hall⟩ := mem_ready.1 hj
     have hno : ∀ x ∈ oj.after, Region.binds md x = true → x.on ≠ i := by
       intro x hx hb hxi
       have p1 := hall x hx hb
       have p0 := (mem_ready.1 hr).1
       rw [hxi] at p1
       by_cases hlt : i < listed.size
       · simp [hlt] at p0 p1
         rw [p0] at p1
         cases p1
       · simp [Array.getElem?_eq_none (Nat.le_of_not_lt hlt)] at p1
     refine wpOpIn_mono (fun a' w' h3 => ⟨h3.2.1, ?_⟩) (putIf hoj (hf j oj hoj e hun hno) (fun cs b => sel i oi cs b hi) (fun cs b => sel j oj cs b hoj) hQ hy hstep)
     obtain ⟨y1, y2, y3⟩ := h3
     refine ih (listed.setIfInBounds j true) a' w' (hS.set hj) (fun k ok hk hki hku hkn => hf k ok hk hki ?_ hkn) (ready_mono hr (fun h => e h.symm)) (later y1 (y2 hjL)) ?_
     · by_cases ejk : j = k
       · subst ejk; exact hun
       · rwa [getD_set_ne true ejk] at hku
     · rw [Array.setIfInBounds_comm _ _ e]
       exact y3
def orderB (L : Nat) (md : Region.Mode) (ops : Array Oper) : List (Nat × Bool) → Array Bool → Bool
 | [], listed => (Region.ready md ops listed).isEmpty
 | (i, true) :: r, listed => ((Region.ready md ops listed).contains i && Region.free md ops listed i && ((ops[i]?).map Grow.plain).getD false && ((List.range ops.size).all fun j => decide (j < L) || GrowL.ahead md ops i ops.size j)) && orderB L md ops r (listed.setIfInBounds i true)
 | (i, false) :: r, listed => Region.ready md ops listed == [i] && orderB L md ops r (listed.setIfInBounds i true)
def Seq (L : Nat) (n : Nat) (P : Program) (ops : Array Oper) (Q : Exit → Act → World → Prop) : List (Nat × Bool) → Act → World → Prop
 | [], a, w => Q .normal a w
 | (i, true) :: r, a, w => ∃ o, ops[i]? = some o ∧ ∃ v, YieldsIf P ops (Below w.heap.size w) o v a ∧ Seq L n P ops Q r (a.put o.dst v) w
 | (i, false) :: r, a, w => ∃ o, ops[i]? = some o ∧ (wpListIn Fence.wide n P ops (Exit.then (fun a' w' => Below w.heap.size w w' ∧ Seq L n P ops Q r a' w') Q) [o] a w ∨ (L ≤ i ∧ wpListIn Fence.wide n P ops (Exit.then (fun a' w' => Seq L n P ops Q r a' w') Q) [o] a w))
theorem one_op {i : Nat} {o : Oper} {K : Act → World → Prop} {a : Act} {w : World} (ho : ops[i]? = some o) (h : wpListIn Fence.wide n P ops (Exit.then K Q) [o] a w) {K' : Act → World → Prop} (on : ∀ a' w', K a' w' → K' a' w') : wpOpIn Fence.wide n P ops Q i K' a w := by
 have on : ∀ a' w', wpListIn Fence.wide n P ops (Exit.then K Q) [] a' w' → K' a' w' := fun a' w' hh => by
   unfold wpListIn at hh
   exact on _ _ hh
 unfold wpOpIn
 simp only [ho]
 unfold wpListIn at h
 split
 · rename_i hw
   rw [if_pos hw] at h
   refine ⟨h.1, ?_⟩
   have g := h.2
   generalize (o.semAt Fence.wide.round a.eval).run P w = x at g ⊢
   cases x with
   | ok z u =>
     cases z <;> simp only [Oper.uponIn] at g ⊢
     case enter f args =>
       refine ⟨g.1, CallsIn.mono g.2 fun e w'' he => ?_⟩
       cases e with
       | returned v => exact on _ _ he
       | panicked c => exact he
       | outgrown => exact he
     case row row args => exact ⟨g.1, RowsIn.mono g.2 fun v w'' he => on _ _ he⟩
     case round l f tmps assign body =>
       refine ⟨g.1, RoundIn.mono g.2 fun e w'' he => ?_⟩
       cases e with
       | returned v => exact on _ _ he
       | panicked c => exact he
       | outgrown => exact he
     all_goals exact on _ _ g
   | halt x u => cases x <;> simp only [Oper.uponIn] at g ⊢; exact g
 · rename_i hw
   rw [if_neg hw] at h
   exact ⟨h.1, on _ _ h.2⟩
theorem only {L i : Nat} {listed : Array Bool} {a : Act} {w : World} {fuel : Nat} (h1 : Region.ready md ops listed = [i]) (h : wpOpIn Fence.wide n P ops Q i (fun a' w' => (i < L → Below w.heap.size w w') ∧ M L n P md ops Q fuel (listed.setIfInBounds i true) a' w') a w) : M L n P md ops Q (fuel + 1) listed a w := by
 refine ⟨fun h0 => (by rw [h1] at h0; cases h0), fun j hj => ?_⟩
 rw [h1] at hj
 obtain rfl : j = i := by simpa using hj
 exact h
theorem seq_M {L : Nat} (hs : Region.noSelect ops = true) (hQ : ∀ c a d v w, Q (.panic c) (a.put d v) w → Q (.panic c) a w) : ∀ (l : List (Nat × Bool)) (listed : Array Bool) (a : Act) (w : World), Shut md ops listed →
   orderB L md ops l listed = true → Seq L n P ops Q l a w → M L n P md ops Q l.length listed a w
 | [], listed, a, w, _, hB, h => ⟨by simpa [orderB] using hB, h⟩
 | (i, true) :: r, listed, a, w, hS, hB, ⟨o, ho, v, hy, h⟩ => by
   simp only [orderB, Bool.and_eq_true] at hB
   obtain ⟨⟨⟨⟨h1, h2⟩, _⟩, h3⟩, h4⟩ := hB
   have hr : i ∈ Region.ready md ops listed := by simpa using h1
   exact M.first ho hs (fun j hj hL => by
     have q := List.all_eq_true.1 h3 j (List.mem_range.2 hj)
     simp only [Bool.or_eq_true, decide_eq_true_eq] at q
     exact q.resolve_left (by omega)) (fun c a w => hQ c a o.dst v w) r.length listed a w hS (Region.free_spec ho h2) hr hy (seq_M hs hQ r _ _ _ (hS.set hr) h4 h)
 | (i, false) :: r, listed, a, w, hS, hB, ⟨o, ho, h⟩ => by
   simp only [orderB, Bool.and_eq_true, beq_iff_eq] at hB
   obtain ⟨h1, h4⟩ := hB
   rcases h with h | ⟨e, h⟩
   · exact only h1 (one_op ho h fun a' w' hh => ⟨fun _ => hh.1, seq_M hs hQ r _ _ _ (hS.set (by rw [h1]; simp)) h4 hh.2⟩)
   · exact only h1 (one_op ho h fun a' w' hh => ⟨fun q => absurd e (by omega), seq_M hs hQ r _ _ _ (hS.set (by rw [h1]; simp)) h4 hh⟩)
theorem region (L : Nat) {id : Nat} {a : Act} {w : World} {l : List Oper} (order : List (Nat × Bool)) (hm : P.follows .mixedOrders = true) (hs : Region.noSelect l.toArray = true)
   (hl : order.length = l.toArray.size) (hB : orderB L .any l.toArray order (Array.replicate l.toArray.size false) = true) (hQ : ∀ c a d v w, Q (.panic c) (a.put d v) w → Q (.panic c) a w)
   (h : Seq L n P l.toArray Q order a w.drew) : (Code.region id l.toArray true).wpIn Fence.wide n P Q a w := by
 refine wpIn_region_any hm (M.any (L := L) _ _ _ _ ?_)
 have := seq_M (n := n) (md := .any) hs hQ order (Array.replicate l.toArray.size false) a w.drew (Shut.none _) hB h
 rw [hl] at this
 exact this
theorem reads {L : Nat} {l : List Oper} {i : Nat} {o : Oper} {r : List (Nat × Bool)} {a : Act} {w : World} (hn : nth l i = some o) (hp : Grow.plain o = true)
   (h : wpQuiet P l.toArray (fun w' => ∃ p : Regrown, w' = grow (redrawn w p.d) p.os) (fun a' => Seq L n P l.toArray Q r a' w) [o] a) : Seq L n P l.toArray Q ((i, true) :: r) a w := by
 have ho := (nth_at l i).trans hn
 unfold wpQuiet at h
 split at h
 · rename_i hw
   obtain ⟨v, h1, h2⟩ := h
   refine ⟨o, ho, v, .inl ⟨hw, fun u hu => ?_⟩, h2⟩
   have q := h1 u (regrown_of_below hu)
   unfold Oper.quietAt at q
   cases hx : (execOp a.eval o).run P u with
   | ok n u' =>
     obtain ⟨x, rfl⟩ := Grow.plain_value hp hx
     rw [hx] at q
     obtain ⟨rfl, rfl⟩ := q
     rfl
   | halt x u' => rw [hx] at q; exact q.elim
 · rename_i hw
   exact ⟨o, ho, undef, .inr ⟨by simpa using hw, rfl⟩, h⟩
def On (L : Nat) (n : Nat) (P : Program) (ops : Array Oper) (Q : Exit → Act → World → Prop) (r : List (Nat × Bool)) (w : World) (a' : Act) (w' : World) : Prop := Below w.heap.size w w' ∧ Seq L n P ops Q r a' w'
theorem acts {L : Nat} {l : List Oper} {i : Nat} {o : Oper} {r : List (Nat × Bool)} {a : Act} {w : World} (hn : nth l i = some o)
   (h : wpListIn Fence.wide n P l.toArray (Exit.then (On L n P l.toArray Q r w) Q) [o] a w) : Seq L n P l.toArray Q ((i, false) :: r) a w :=
 ⟨o, (nth_at l i).trans hn, .inl h⟩
theorem skips {L : Nat} {l : List Oper} {i : Nat} {o : Oper} {r : List (Nat × Bool)} {a : Act} {w : World} (hn : nth l i = some o) (hw : Region.wanted o (yielded l.toArray a.tmps) = false) (h : Seq L n P l.toArray Q r (a.put o.dst undef) w) : Seq L n P l.toArray Q ((i, false) :: r) a w :=
 acts hn (by
   unfold wpListIn
   rw [if_neg (by rw [hw]; decide)]
   exact ⟨fun _ _ => trivial, Below.refl _ _, h⟩)
def Wrote (L : Nat) (n : Nat) (P : Program) (ops : Array Oper) (Q : Exit → Act → World → Prop) (r : List (Nat × Bool)) (a' : Act) (w' : World) : Prop := Seq L n P ops Q r a' w'
theorem writes {L : Nat} {l : List Oper} {i : Nat} {o : Oper} {r : List (Nat × Bool)} {a : Act} {w : World} (hL : L ≤ i) (hn : nth l i = some o)
   (h : wpListIn Fence.wide n P l.toArray (Exit.then (Wrote L n P l.toArray Q r) Q) [o] a w) : Seq L n P l.toArray Q ((i, false) :: r) a w :=
 ⟨o, (nth_at l i).trans hn, .inr ⟨hL, h⟩⟩
theorem ends {L : Nat} {a : Act} {w : World} (h : Q .normal a w) : Seq L n P ops Q [] a w := h
end
end Go.Proofs.YtgoapaanmcmlmaaGreatDoor.GrowI
namespace Go.Proofs.YtgoapaanmcmlmaaGreatDoor.GrowS
set_option maxRecDepth 100000
open Go Go.Sort Go.RowKit GrowL
section
variable {P : Program} {ops : Array Oper} {Q : Exit → Act → World → Prop} {md : Region.Mode}
def M (L : Nat) (P : Program) (md : Region.Mode) (ops : Array Oper) (Q : Exit → Act → World → Prop) : Nat → Array Bool → Act → World → Prop
 | 0, listed, a, w => Region.ready md ops listed = [] ∧ Q .normal a w
 | fuel + 1, listed, a, w => (Region.ready md ops listed = [] → Q .normal a w) ∧
   ∀ i ∈ Region.ready md ops listed, wpOp P ops Q i (fun a' w' => (i < L → Below w.heap.size w w') ∧ M L P md ops Q fuel (listed.setIfInBounds i true) a' w') a w
theorem M.any {L : Nat} : ∀ (fuel : Nat) (listed : Array Bool) (a : Act) (w : World), M L P md ops Q fuel listed a w → wpAny P md ops Q fuel listed a w
 | 0, _, _, _, h => h
 | fuel + 1, _, _, _, h => ⟨h.1, fun i hi => wpOp_mono (fun a' w' h' => M.any fuel _ a' w' h'.2) (h.2 i hi)⟩
theorem M.first {L i : Nat} {oi : Oper} {v : Value} (hi : ops[i]? = some oi) (hs : Region.noSelect ops = true) {af : Nat} (hA : ∀ j, j < ops.size → L ≤ j → GrowL.ahead md ops i af j = true)
   (hQ : ∀ c a w, Q (.panic c) (a.put oi.dst v) w → Q (.panic c) a w) (fuel : Nat) :
   ∀ (listed : Array Bool) (a : Act) (w : World), Shut md ops listed →
     (∀ j oj, ops[j]? = some oj → j ≠ i → listed.getD j true = false → (∀ e ∈ oj.after, Region.binds md e = true → e.on ≠ i) → oi.apart ops oj = true) →
     i ∈ Region.ready md ops listed → YieldsIf P ops (Below w.heap.size w) oi v a →
     M L P md ops Q fuel (listed.setIfInBounds i true) (a.put oi.dst v) w → M L P md ops Q (fuel + 1) listed a w := by
 have sel := fun (j : Nat) (o : Oper) (cs : Array SelectCase) (b : Bool) (h : ops[j]? = some o) => Region.noSelect_spec hs j o cs b h
 induction fuel with
 | zero =>
   intro listed a w _ _ hr hy H
   refine ⟨fun h0 => absurd hr (by rw [h0]; simp), fun j hj => ?_⟩
   by_cases e : j = i
   · subst e
     exact hy.wpOp hi (Below.refl _ _) ⟨fun _ => Below.refl _ _, H⟩
   · exact absurd (ready_mono hj e) (by rw [H.1]; simp)
 | succ fuel ih =>
   intro listed a w hS hf hr hy H
   refine ⟨fun h0 => absurd hr (by rw [h0]; simp), fun j hj => ?_⟩
   by_cases e : j = i
   · subst e
     exact hy.wpOp hi (Below.refl _ _) ⟨fun _ => Below.refl _ _, H⟩
   · have hjL : j < L := by
       refine Nat.lt_of_not_le fun hle => ?_
       obtain ⟨_, o', ho', _⟩ := mem_ready.1 hj
       exact not_both (mem_ready.1 hr).1 (ahead_listed hS af j (hA j (Array.getElem?_eq_some_iff.1 ho').1 hle) (.inr hj))
     have hstep := H.2 j (ready_mono hj e)
     obtain ⟨hun, oj, hoj, hall⟩ := mem_ready.1 hj
     have hno : ∀ x ∈ oj.after, Region.binds md x = true → x.on ≠ i := by
       intro x hx hb hxi
       have p1 := hall x hx hb
       rw [hxi] at p1
       exact not_both (mem_ready.1 hr).1 p1
     refine wpOp_mono (fun a' w' h3 => ⟨h3.2.1, ?_⟩) (wpOp_putIf hoj (hf j oj hoj e hun hno) (fun cs b => sel i oi cs b hi) (fun cs b => sel j oj cs b hoj) hQ hy hstep)
     obtain ⟨y1, y2, y3⟩ := h3
     refine ih (listed.setIfInBounds j true) a' w' (hS.set hj) (fun k ok hk hki hku hkn => hf k ok hk hki ?_ hkn) (ready_mono hr (fun h => e h.symm)) (Grow.later y1 (y2 hjL)) ?_
     · by_cases ejk : j = k
       · subst ejk; exact hun
       · rwa [getD_set_ne true ejk] at hku
     · rw [Array.setIfInBounds_comm _ _ e]
       exact y3
def orderB (L : Nat) (md : Region.Mode) (ops : Array Oper) : List (Nat × Bool) → Array Bool → Bool
 | [], listed => (Region.ready md ops listed).isEmpty
 | (i, true) :: r, listed => ((Region.ready md ops listed).contains i && Region.free md ops listed i && ((ops[i]?).map Grow.plain).getD false && ((List.range ops.size).all fun j => decide (j < L) || GrowL.ahead md ops i ops.size j)) && orderB L md ops r (listed.setIfInBounds i true)
 | (i, false) :: r, listed => Region.ready md ops listed == [i] && orderB L md ops r (listed.setIfInBounds i true)
def Seq (L : Nat) (P : Program) (ops : Array Oper) (Q : Exit → Act → World → Prop) : List (Nat × Bool) → Act → World → Prop
 | [], a, w => Q .normal a w
 | (i, true) :: r, a, w => ∃ o, ops[i]? = some o ∧ ∃ v, YieldsIf P ops (Below w.heap.size w) o v a ∧ Seq L P ops Q r (a.put o.dst v) w
 | (i, false) :: r, a, w => Forks.One P ops Q i (fun a' w' => Below w.heap.size w w' ∧ Seq L P ops Q r a' w') a w ∨ (L ≤ i ∧ Forks.One P ops Q i (fun a' w' => Seq L P ops Q r a' w') a w)
theorem seq_M {L : Nat} (hs : Region.noSelect ops = true) (hQ : ∀ c a d v w, Q (.panic c) (a.put d v) w → Q (.panic c) a w) : ∀ (l : List (Nat × Bool)) (listed : Array Bool) (a : Act) (w : World), Shut md ops listed →
   orderB L md ops l listed = true → Seq L P ops Q l a w → M L P md ops Q l.length listed a w
 | [], listed, a, w, _, hB, h => ⟨by simpa [orderB] using hB, h⟩
 | (i, true) :: r, listed, a, w, hS, hB, ⟨o, ho, v, hy, h⟩ => by
   simp only [orderB, Bool.and_eq_true] at hB
   obtain ⟨⟨⟨⟨h1, h2⟩, _⟩, h3⟩, h4⟩ := hB
   have hr : i ∈ Region.ready md ops listed := by simpa using h1
   exact M.first ho hs (fun j hj hL => by
     have q := List.all_eq_true.1 h3 j (List.mem_range.2 hj)
     simp only [Bool.or_eq_true, decide_eq_true_eq] at q
     exact q.resolve_left (by omega)) (fun c a w => hQ c a o.dst v w) r.length listed a w hS (Region.free_spec ho h2) hr hy (seq_M hs hQ r _ _ _ (hS.set hr) h4 h)
 | (i, false) :: r, listed, a, w, hS, hB, h => by
   simp only [orderB, Bool.and_eq_true, beq_iff_eq] at hB
   obtain ⟨h1, h4⟩ := hB
   have hS' : Shut md ops (listed.setIfInBounds i true) := hS.set (by rw [h1]; simp)
   refine ⟨fun h0 => (by rw [h1] at h0; cases h0), fun j hj => ?_⟩
   rw [h1] at hj
   obtain rfl : j = i := by simpa using hj
   rcases h with h | ⟨e, h⟩
   · exact h.op (fun a' w' hh => ⟨fun _ => hh.1, seq_M hs hQ r _ _ _ hS' h4 hh.2⟩)
   · exact h.op (fun a' w' hh => ⟨fun hne => absurd e (by omega), seq_M hs hQ r _ _ _ hS' h4 hh⟩)
theorem reads {L : Nat} {l : List Oper} {i : Nat} {o : Oper} {r : List (Nat × Bool)} {a : Act} {w : World} (hn : Grow.nth l i = some o) (hp : Grow.plain o = true)
   (h : wpQuiet P l.toArray (fun w' => ∃ p : Regrown, w' = grow (redrawn w p.d) p.os) (fun a' => Seq L P l.toArray Q r a' w) [o] a) : Seq L P l.toArray Q ((i, true) :: r) a w := by
 have ho := (Grow.nth_at l i).trans hn
 unfold wpQuiet at h
 split at h
 · rename_i hw
   obtain ⟨v, h1, h2⟩ := h
   refine ⟨o, ho, v, .inl ⟨hw, fun u hu => ?_⟩, h2⟩
   have q := h1 u (regrown_of_below hu)
   unfold Oper.quietAt at q
   cases hx : (execOp a.eval o).run P u with
   | ok n u' =>
     obtain ⟨x, rfl⟩ := Grow.plain_value hp hx
     rw [hx] at q
     obtain ⟨rfl, rfl⟩ := q
     rfl
   | halt x u' => rw [hx] at q; exact q.elim
 · rename_i hw
   exact ⟨o, ho, undef, .inr ⟨by simpa using hw, rfl⟩, h⟩
def On (L : Nat) (P : Program) (ops : Array Oper) (Q : Exit → Act → World → Prop) (r : List (Nat × Bool)) (w : World) (a' : Act) (w' : World) : Prop := Below w.heap.size w w' ∧ Seq L P ops Q r a' w'
theorem acts {L : Nat} {l : List Oper} {i : Nat} {o : Oper} {r : List (Nat × Bool)} {a : Act} {w : World} (hn : Grow.nth l i = some o)
   (h : wpList P l.toArray (Exit.then (On L P l.toArray Q r w) Q) [o] a w) : Seq L P l.toArray Q ((i, false) :: r) a w :=
 .inl ⟨o, (Grow.nth_at l i).trans hn, h⟩
def Wrote (L : Nat) (P : Program) (ops : Array Oper) (Q : Exit → Act → World → Prop) (r : List (Nat × Bool)) (a' : Act) (w' : World) : Prop := Seq L P ops Q r a' w'
theorem writes {L : Nat} {l : List Oper} {i : Nat} {o : Oper} {r : List (Nat × Bool)} {a : Act} {w : World} (hL : L ≤ i) (hn : Grow.nth l i = some o)
   (h : wpList P l.toArray (Exit.then (Wrote L P l.toArray Q r) Q) [o] a w) : Seq L P l.toArray Q ((i, false) :: r) a w :=
 .inr ⟨hL, o, (Grow.nth_at l i).trans hn, h⟩
theorem ends {L : Nat} {a : Act} {w : World} (h : Q .normal a w) : Seq L P ops Q [] a w := h
theorem region_in (L : Nat) {l n id : Nat} {a : Act} {w : World} {r : List Oper} (hq : ¬ LetsOut Q) (hc : r.all StoB.calm = true) (order : List (Nat × Bool)) (hm : P.follows .mixedOrders = true) (hs : Region.noSelect r.toArray = true)
   (hl : order.length = r.toArray.size) (hB : orderB L .any r.toArray order (Array.replicate r.toArray.size false) = true) (hQ : ∀ c a d v w, Q (.panic c) (a.put d v) w → Q (.panic c) a w)
   (h : Seq L P r.toArray Q order a w.drew) : (Code.region id r.toArray true).wpIn (Fence.wide.inRound l) n P Q a w := by
 refine wpIn_region_draw fun t => ?_
 simp only [Region.schedule, hm, Bool.true_or, if_true]
 refine StoB.ops_in hq (fun i o ho => List.all_eq_true.1 hc o ?_) _ _ _ (wpAny_sound r.toArray.size t _ a w.drew ?_)
 · rw [List.getElem?_toArray] at ho
   exact List.mem_of_getElem? ho
 · have := seq_M (md := .any) hs hQ order (Array.replicate r.toArray.size false) a w.drew (Shut.none _) hB h
   rw [hl] at this
   exact M.any (L := L) _ _ _ _ this
end
end Go.Proofs.YtgoapaanmcmlmaaGreatDoor.GrowS
