/- Plain facts on how the project tells the state of commits: what all Dels know, and states merged half by half. No condition. | What the document's Sorted of package dag returns: a contract. | What the project's Sorted of package dag returns, where known answers as the document does. No condition. -/
import Derived.Test.YtgmdhaepiclkcaaGreatDoorFrMJ4
import Derived.Test.YtgmdhaepiclkcaaGreatDoorDhCJ3
import Derived.Test.YtgmdhaepiclkcaaGreatDoorDgNJ21
import Derived.Test.YtgmdhaepiclkcaaGreatDoorDhOJ3
import Derived.Test.YtgmdhaepiclkcaaGreatDoorDhBJ4
namespace Go.Proofs.YtgmdhaepiclkcaaGreatDoor.EaP
set_option maxRecDepth 100000
open IdM CmM DgM DgX FrM FrN StM OpsM Rise EaM EaN
open Classical
section
variable {H : Com → Idn} {l : List Com}
theorem views_more {P : List Com} {c : Com} (C : Closed H P) (D : Closed H (P ++ [c])) {a : Idn} (ha : a ∈ P.map H) : views H (P ++ [c]) a = views H P a := by
 rw [views_snoc C D, if_neg fun e => ?_]
 obtain ⟨_, hn, _⟩ := (DgX.step C (D.may c (by simp))).1 D
 exact hn (by rw [← e]; exact ha)
theorem views_app (ho : InOrder H l) (C : Closed H l) (i : Nat) : ∀ n, i + n ≤ l.length → ∀ a ∈ (l.take i).map H, views H (l.take (i + n)) a = views H (l.take i) a
 | 0, _, _, _ => rfl
 | n + 1, hn, a, ha => by
   have h1 : i + n < l.length := by omega
   have e : l.take (i + (n + 1)) = l.take (i + n) ++ [l[i + n]] := by
     rw [show i + (n + 1) = (i + n) + 1 by omega, List.take_succ_eq_append_getElem h1]
   rw [e, views_more (closed_take C ho _) (by rw [← e]; exact closed_take C ho _), views_app ho C i n (by omega) a ha]
   obtain ⟨c, hc, rfl⟩ := List.mem_map.1 ha
   refine List.mem_map_of_mem ?_
   have : l.take i = (l.take (i + n)).take i := by rw [List.take_take]; congr 1; omega
   rw [this] at hc
   exact List.mem_of_mem_take hc
theorem views_all (ho : InOrder H l) (C : Closed H l) {i : Nat} (hi : i ≤ l.length) {a : Idn} (ha : a ∈ (l.take i).map H) : views H (l.take i) a = views H l a := by
 have := views_app ho C i (l.length - i) (by omega) a ha
 rw [show i + (l.length - i) = l.length by omega, List.take_length] at this
 exact this.symm
theorem par_ahead (ho : InOrder H l) (C : Closed H l) {i : Nat} {c : Com} (hc : l[i]? = some c) : ∀ a ∈ c.ps, a ∈ (l.take i).map H := fun a ha => by
 obtain ⟨hi, e⟩ := List.getElem?_eq_some_iff.1 hc
 have hs : l.take (i + 1) = l.take i ++ [c] := by rw [List.take_succ_eq_append_getElem hi, e]
 have D := closed_take C ho (i + 1)
 rw [hs] at D
 obtain ⟨_, _, T, _⟩ := (DgX.step (closed_take C ho i) (D.may c (by simp))).1 D
 exact Classical.byContradiction fun h => T.there a ha (views_none.2 h)
theorem tog_all (ho : InOrder H l) (C : Closed H l) {i : Nat} {c : Com} (hc : l[i]? = some c) (n : Int) : togS (views H (l.take i)) c.ps n = togS (views H l) c.ps n := by
 unfold togS
 congr 1
 refine List.map_congr_left fun a ha => ?_
 unfold vSeen
 rw [views_all ho C (by have := (List.getElem?_eq_some_iff.1 hc).1; omega) (par_ahead ho C hc a ha)]
def isDel (k e : ByteArray) (d : Com) : Prop := d.op.kind = 3 ∧ d.op.key = k ∧ d.op.elem = e
noncomputable def kill (H : Com → Idn) (l P : List Com) (k e : ByteArray) (n : Int) : Int := most ((P.filter fun d => decide (isDel k e d)).map fun d => togS (views H l) d.ps n)
theorem kill_yes {P : List Com} {c : Com} {k e : ByteArray} (h : isDel k e c) (n : Int) : kill H l (P ++ [c]) k e n = max (kill H l P k e n) (togS (views H l) c.ps n) := by
 unfold kill
 rw [List.filter_append, List.filter_cons_of_pos (by simpa using h), List.filter_nil, List.map_append, List.map_cons, List.map_nil, most_snoc]
theorem kill_no {P : List Com} {c : Com} {k e : ByteArray} (h : ¬ isDel k e c) (n : Int) : kill H l (P ++ [c]) k e n = kill H l P k e n := by
 unfold kill
 rw [List.filter_append, List.filter_cons_of_neg (by simpa using h), List.filter_nil, List.append_nil]
theorem below_ps (C : Closed H l) {d : Com} (hd : d ∈ l) {x : Idn} (hx : x ∈ l.map H) : Below H l d.ps x ↔ Kn H l (H d) x := by
 constructor
 · rintro ⟨_, h | ⟨y, hy, h⟩⟩
   · exact .one ⟨d, hd, rfl, h⟩
   · exact .more ⟨d, hd, rfl, hy⟩ h
 · intro h
   refine ⟨hx, ?_⟩
   cases h with
   | one h =>
     obtain ⟨e, he, q, hb⟩ := h
     rw [same_of C.nodup he hd q] at hb
     exact .inl hb
   | more h k =>
     obtain ⟨e, he, q, hb⟩ := h
     rw [same_of C.nodup he hd q] at hb
     exact .inr ⟨_, hb, k⟩
theorem kill_iff (C : Closed H l) {m : List Com} (hm : ∀ d, d ∈ m ↔ d ∈ l) {c : Com} (hc : c ∈ l) : c.seq ≤ kill H l m c.op.key c.op.elem c.node ↔ Gone H l c := by
 have hp := seq_pos (C.may c hc) (C.merge c hc)
 have hx : H c ∈ l.map H := List.mem_map_of_mem hc
 constructor
 · intro h
   unfold kill at h
   rcases most_mem ((m.filter fun d => decide (isDel c.op.key c.op.elem d)).map fun d => togS (views H l) d.ps c.node) with e | e
   · omega
   · obtain ⟨d, hd, e2⟩ := List.mem_map.1 e
     obtain ⟨h1, h2⟩ := List.mem_filter.1 hd
     obtain ⟨k1, k2, k3⟩ := of_decide_eq_true h2
     refine ⟨d, (hm d).1 h1, k1, k2, k3, (below_ps C ((hm d).1 h1) hx).1 ((below_iff C d.ps hc).1 ?_)⟩
     omega
 · rintro ⟨d, hd, h1, h2, h3, h4⟩
   have q := (below_iff C d.ps hc).2 ((below_ps C hd hx).2 h4)
   have : togS (views H l) d.ps c.node ≤ kill H l m c.op.key c.op.elem c.node := by
     unfold kill
     exact le_most (List.mem_map_of_mem (f := fun d => togS (views H l) d.ps c.node) (List.mem_filter.2 ⟨(hm d).2 hd, decide_eq_true ⟨h1, h2, h3⟩⟩))
   omega
end
def addS (x y : St) : St := joinS noS x y
def meld : List St → St
 | [] => noS
 | [x] => x
 | x :: y :: l => addS (meld ((x :: y :: l).take ((l.length + 2) / 2))) (meld ((x :: y :: l).drop ((l.length + 2) / 2)))
termination_by l => l.length
decreasing_by
 · simp only [List.length_take, List.length_cons]; omega
 · simp only [List.length_drop, List.length_cons]; omega
theorem meld_one (x : St) : meld [x] = x := by unfold meld; rfl
theorem meld_nil : meld [] = noS := by unfold meld; rfl
theorem meld_many {l : List St} (h : 2 ≤ l.length) : meld l = addS (meld (l.take (l.length / 2))) (meld (l.drop (l.length / 2))) := by
 match l, h with
 | x :: y :: l, _ =>
   conv => lhs; unfold meld
   rfl
theorem meld_ind {p : List St → Prop} (h0 : p []) (h1 : ∀ x, p [x]) (h2 : ∀ a b, p a → p b → 2 ≤ (a ++ b).length → a.length = (a ++ b).length / 2 → p (a ++ b)) : ∀ (n : Nat) (l : List St), l.length ≤ n → p l
 | _, [], _ => h0
 | _, [x], _ => h1 x
 | 0, x :: y :: l, h => by simp at h
 | n + 1, x :: y :: l, h => by
   have hl : (x :: y :: l).length = l.length + 2 := rfl
   obtain ⟨m, hm⟩ : ∃ m, x :: y :: l = m := ⟨_, rfl⟩
   rw [hm] at hl h ⊢
   have e := List.take_append_drop (m.length / 2) m
   rw [← e]
   refine h2 _ _ (meld_ind h0 h1 h2 n _ (by rw [List.length_take]; omega)) (meld_ind h0 h1 h2 n _ (by rw [List.length_drop]; omega)) (by rw [e]; omega) ?_
   rw [e, List.length_take]
   omega
theorem meld_app {a b : List St} (h : 2 ≤ (a ++ b).length) (h2 : a.length = (a ++ b).length / 2) : meld (a ++ b) = addS (meld a) (meld b) := by
 rw [meld_many h, ← h2, List.take_left, List.drop_left]
def AllMay (l : List St) : Prop := ∀ s ∈ l, mayS s = true
theorem AllMay.left {a b : List St} (h : AllMay (a ++ b)) : AllMay a := fun s hs => h s (List.mem_append_left _ hs)
theorem AllMay.right {a b : List St} (h : AllMay (a ++ b)) : AllMay b := fun s hs => h s (List.mem_append_right _ hs)
theorem meld_may (l : List St) : AllMay l → mayS (meld l) = true := by
 refine meld_ind (p := fun l => AllMay l → mayS (meld l) = true) (fun _ => by rw [meld_nil]; exact may_noS) (fun x h => by rw [meld_one]; exact h x (by simp)) (fun a b ha hb h h2 hm => ?_) l.length l (Nat.le_refl _)
 rw [meld_app h h2]
 exact join_may may_noS (ha hm.left) (hb hm.right)
def sumS (k : ByteArray) : List St → Int
 | [] => 0
 | s :: l => CtrM.getC s.c k + sumS k l
def bestS (k : ByteArray) : List St → Option RegM.Rg
 | [] => none
 | s :: l => RegL.bestO (bestS k l) (RegM.getR s.r k)
theorem sumS_app (k : ByteArray) (a b : List St) : sumS k (a ++ b) = sumS k a + sumS k b := by
 induction a with
 | nil => show sumS k b = 0 + _; omega
 | cons s a ih =>
   show CtrM.getC s.c k + sumS k (a ++ b) = CtrM.getC s.c k + sumS k a + _
   rw [ih]
   omega
theorem of_best (k : ByteArray) : ∀ l : List St, RegL.Of k (bestS k l)
 | [] => fun x h => by cases h
 | _ :: l => (of_best k l).both (RegL.of_get _ k)
theorem bestS_app (k : ByteArray) (a b : List St) : bestS k (a ++ b) = RegL.bestO (bestS k b) (bestS k a) := by
 induction a with
 | nil => exact (RegL.bestO_none _).symm
 | cons s a ih =>
   show RegL.bestO (bestS k (a ++ b)) (RegM.getR s.r k) = RegL.bestO (bestS k b) (RegL.bestO (bestS k a) (RegM.getR s.r k))
   rw [ih, RegL.bestO_three (of_best k b) (of_best k a) (RegL.of_get _ k)]
theorem add_c {x y : St} (hx : mayS x = true) (hy : mayS y = true) (k : ByteArray) : CtrM.getC (addS x y).c k = CtrM.w64 (CtrM.getC x.c k + CtrM.getC y.c k) := by
 show CtrM.getC (CtrM.mergeC [] x.c y.c) k = _
 rw [CtrL.merge_get rfl (mayS_iff.1 hx).1 (mayS_iff.1 hy).1]
 unfold CtrM.sumC
 rw [CtrM.getC_none (l := []) (fun _ hc => by cases hc), Int.sub_zero, CtrL.w64_id (CtrL.w64_in _)]
theorem meld_c (k : ByteArray) (l : List St) : AllMay l → (∀ s ∈ l, CtrL.InL s.c) → CtrM.getC (meld l).c k = CtrM.w64 (sumS k l) := by
 refine meld_ind (p := fun l => AllMay l → (∀ s ∈ l, CtrL.InL s.c) → CtrM.getC (meld l).c k = CtrM.w64 (sumS k l)) (fun _ _ => by rw [meld_nil]; rfl) (fun x h hi => ?_) (fun a b ha hb h h2 hm hi => ?_) l.length l (Nat.le_refl _)
 · rw [meld_one]
   show _ = CtrM.w64 (CtrM.getC x.c k + 0)
   rw [Int.add_zero, CtrL.w64_id (CtrL.getC_in (hi x (by simp)) k)]
 · rw [meld_app h h2, add_c (meld_may _ hm.left) (meld_may _ hm.right), ha hm.left fun s hs => hi s (List.mem_append_left _ hs), hb hm.right fun s hs => hi s (List.mem_append_right _ hs), sumS_app]
   simp only [CtrM.w64_eq]
   omega
theorem meld_r (k : ByteArray) (l : List St) : AllMay l → RegM.getR (meld l).r k = bestS k l := by
 refine meld_ind (p := fun l => AllMay l → RegM.getR (meld l).r k = bestS k l) (fun _ => by rw [meld_nil]; rfl) (fun x h => ?_) (fun a b ha hb h h2 hm => ?_) l.length l (Nat.le_refl _)
 · rw [meld_one]
   show _ = RegL.bestO none (RegM.getR x.r k)
   cases RegM.getR x.r k <;> rfl
 · rw [meld_app h h2]
   show RegM.getR (RegL.mergeR (meld a).r (meld b).r) k = _
   rw [RegL.merge_get (mayS_iff.1 (meld_may _ hm.left)).2.1 (mayS_iff.1 (meld_may _ hm.right)).2.1, ha hm.left, hb hm.right, bestS_app]
theorem meld_p (x : PairM.Pr) (l : List St) : AllMay l → (x ∈ (meld l).p ↔ ∃ s ∈ l, x ∈ s.p) := by
 refine meld_ind (p := fun l => AllMay l → (x ∈ (meld l).p ↔ ∃ s ∈ l, x ∈ s.p)) (fun _ => by rw [meld_nil]; simp [noS]) (fun s h => by rw [meld_one]; simp) (fun a b ha hb h h2 hm => ?_) l.length l (Nat.le_refl _)
 rw [meld_app h h2]
 show x ∈ PairM.mergeP [] (meld a).p (meld b).p ↔ _
 rw [PairM.merge_mem rfl (mayS_iff.1 (meld_may _ hm.left)).2.2 (mayS_iff.1 (meld_may _ hm.right)).2.2]
 unfold PairM.inM
 rw [ha hm.left, hb hm.right]
 constructor
 · rintro (⟨⟨s, hs, h⟩, _⟩ | ⟨⟨s, hs, h⟩, _⟩)
   · exact ⟨s, List.mem_append_left _ hs, h⟩
   · exact ⟨s, List.mem_append_right _ hs, h⟩
 · rintro ⟨s, hs, h⟩
   rcases List.mem_append.1 hs with hs | hs
   · exact .inl ⟨⟨s, hs, h⟩, .inr (by simp)⟩
   · by_cases q : ∃ s ∈ a, x ∈ s.p
     · exact .inl ⟨q, .inr (by simp)⟩
     · exact .inr ⟨⟨s, hs, h⟩, q, by simp⟩
structure LenS (n : Nat) (s : St) : Prop where
 c : s.c.length ≤ n
 r : s.r.length ≤ n
 p : s.p.length ≤ n
theorem mergeC_len {a b : List CtrM.Cn} : (CtrM.mergeC [] a b).length ≤ a.length + b.length := by
 by_cases h : CtrM.mayC [] = true ∧ CtrM.mayC a = true ∧ CtrM.mayC b = true
 · rw [CtrM.mergeC_fold h]
   have := CtrM.mergeF_length [] a b ([] ++ a ++ b) []
   simpa using this
 · rw [CtrL.merge_no (by
     by_cases h1 : CtrM.mayC [] = true
     · by_cases h2 : CtrM.mayC a = true
       · by_cases h3 : CtrM.mayC b = true
         · exact absurd ⟨h1, h2, h3⟩ h
         · exact .inr (.inr (by simpa using h3))
       · exact .inr (.inl (by simpa using h2))
     · exact .inl (by simpa using h1))]
   simp
theorem add_len {x y : St} {n m : Nat} (hx : mayS x = true) (hy : mayS y = true) (h1 : LenS n x) (h2 : LenS m y) : LenS (n + m) (addS x y) := by
 have k1 := mergeC_len (a := x.c) (b := y.c)
 have k2 := RegL.merge_length x.r y.r
 have k3 := PairM.merge_length (base := []) (a := x.p) (b := y.p) rfl (mayS_iff.1 hx).2.2 (mayS_iff.1 hy).2.2
 have := h1.c
 have := h1.r
 have := h1.p
 have := h2.c
 have := h2.r
 have := h2.p
 exact ⟨by show (CtrM.mergeC [] x.c y.c).length ≤ _; omega, by show (RegL.mergeR x.r y.r).length ≤ _; omega, by show (PairM.mergeP [] x.p y.p).length ≤ _; omega⟩
theorem meld_len (l : List St) : AllMay l → (∀ s ∈ l, LenS 1 s) → LenS l.length (meld l) := by
 refine meld_ind (p := fun l => AllMay l → (∀ s ∈ l, LenS 1 s) → LenS l.length (meld l)) (fun _ _ => by rw [meld_nil]; exact ⟨by simp [noS], by simp [noS], by simp [noS]⟩) (fun x h hi => by rw [meld_one]; exact hi x (by simp)) (fun a b ha hb h h2 hm hi => ?_) l.length l (Nat.le_refl _)
 rw [meld_app h h2, List.length_append]
 exact add_len (meld_may _ hm.left) (meld_may _ hm.right) (ha hm.left fun s hs => hi s (List.mem_append_left _ hs)) (hb hm.right fun s hs => hi s (List.mem_append_right _ hs))
section
variable {H : Com → Idn} {l : List Com}
def solo (c : Com) : St := stepS noS c.op c.node c.seq c.gen
noncomputable def keepB (H : Com → Idn) (l : List Com) (c : Com) : Bool := decide (¬ (c.op.kind = 2 ∧ Gone H l c))
noncomputable def alone (H : Com → Idn) (l m : List Com) : List St := (m.filter (keepB H l)).map solo
theorem solo_ev {c : Com} (hk : keepB H l c = true) (_hc : Fine c) : solo c = evS H l noS c := by
 have hn : ¬ (c.op.kind = 2 ∧ Gone H l c) := of_decide_eq_true hk
 unfold solo stepS evS
 by_cases h0 : c.op.kind = 0
 · rw [if_pos h0, if_pos h0]
 · rw [if_neg h0, if_neg h0]
   by_cases h1 : c.op.kind = 1
   · rw [if_pos h1, if_pos h1]; rfl
   · rw [if_neg h1, if_neg h1]
     by_cases h2 : c.op.kind = 2
     · rw [if_pos h2, if_pos ⟨h2, fun g => hn ⟨h2, g⟩⟩]; rfl
     · rw [if_neg h2, if_neg fun q => h2 q.1]
       rfl
theorem alone_mem {m : List Com} {s : St} (h : s ∈ alone H l m) : ∃ c ∈ m, keepB H l c = true ∧ s = solo c := by
 obtain ⟨c, hc, rfl⟩ := List.mem_map.1 h
 obtain ⟨h1, h2⟩ := List.mem_filter.1 hc
 exact ⟨c, h1, h2, rfl⟩
theorem solo_may {c : Com} (hc : Fine c) : mayS (solo c) = true := step_may (okD_iff.2 ⟨may_noS, hc.op, hc.ev, hc.gen⟩)
theorem solo_len (c : Com) : LenS 1 (solo c) := by
 unfold solo stepS
 split
 · refine ⟨?_, by simp [noS], by simp [noS]⟩
   show (CtrM.incC [] _ _).length ≤ 1
   unfold CtrM.incC
   split
   · have := CtrM.putC_length c.op.key (CtrM.w64 (CtrM.getC [] c.op.key + c.op.n)) []
     simpa using this
   · simp
 · split
   · exact ⟨by simp [noS], by have := RegL.put_length [] (regO c.op c.node c.seq c.gen); simpa [noS] using this, by simp [noS]⟩
   · split
     · exact ⟨by simp [noS], by simp [noS], by have := PairM.add_length [] (pairO c.op c.node c.seq); simpa [noS] using this⟩
     · exact ⟨by simp [noS], by simp [noS], by have := PairM.del_length [] c.op.key c.op.elem; show (PairM.delP [] c.op.key c.op.elem).length ≤ 1; rw [List.length_nil] at this; omega⟩
theorem solo_in {c : Com} (hk : keepB H l c = true) (hc : Fine c) : CtrL.InL (solo c).c := by
 rw [solo_ev hk hc]
 exact ev_in in_noS
theorem alone_c (k : ByteArray) : ∀ m : List Com, (∀ c ∈ m, Fine c) → CtrM.w64 (sumS k (alone H l m)) = CtrM.w64 (cnt k m)
 | [], _ => rfl
 | c :: m, hm => by
   have ih := alone_c k m fun d hd => hm d (by simp [hd])
   have hc := hm c (by simp)
   have e : cnt k (c :: m) = (if c.op.kind = 0 ∧ c.op.key = k then c.op.n else 0) + cnt k m := rfl
   rw [e]
   unfold alone at ih ⊢
   by_cases h : keepB H l c = true
   · rw [List.filter_cons_of_pos h, List.map_cons]
     show CtrM.w64 (CtrM.getC (solo c).c k + sumS k _) = _
     rw [solo_ev h hc, ev_c may_noS hc in_noS]
     have h0 : CtrM.getC noS.c k = 0 := rfl
     rw [h0, Int.zero_add]
     generalize (if c.op.kind = 0 ∧ c.op.key = k then c.op.n else 0) = x
     simp only [CtrM.w64_eq] at ih ⊢
     omega
   · rw [List.filter_cons_of_neg h, ih]
     have h2 : c.op.kind = 2 := by
       have : ¬ ¬ (c.op.kind = 2 ∧ Gone H l c) := fun q => h (decide_eq_true q)
       exact (Classical.not_not.1 this).1
     rw [if_neg (c := c.op.kind = 0 ∧ c.op.key = k) fun q => by omega, Int.zero_add]
theorem alone_r (k : ByteArray) : ∀ m : List Com, (∀ c ∈ m, Fine c) → bestS k (alone H l m) = newR k m
 | [], _ => rfl
 | c :: m, hm => by
   have ih := alone_r k m fun d hd => hm d (by simp [hd])
   have hc := hm c (by simp)
   have e : newR k (c :: m) = RegL.bestO (newR k m) (regIf k c) := rfl
   rw [e]
   unfold alone at ih ⊢
   by_cases h : keepB H l c = true
   · rw [List.filter_cons_of_pos h, List.map_cons]
     show RegL.bestO (bestS k _) (RegM.getR (solo c).r k) = _
     rw [ih, solo_ev h hc, ev_r may_noS hc]
     have h0 : RegM.getR noS.r k = none := rfl
     rw [h0, RegL.bestO_none]
   · rw [List.filter_cons_of_neg h, ih]
     have h2 : c.op.kind = 2 := by
       have : ¬ ¬ (c.op.kind = 2 ∧ Gone H l c) := fun q => h (decide_eq_true q)
       exact (Classical.not_not.1 this).1
     unfold regIf
     rw [if_neg (c := c.op.kind = 1 ∧ c.op.key = k) fun q => by omega, RegL.bestO_none]
theorem meld_alone {m : List Com} (hm : ∀ c, c ∈ m ↔ c ∈ l) (hp : m.Perm l) (hl : ∀ c ∈ l, Fine c) : meld (alone H l m) = evalK H l := by
 have fm : ∀ c ∈ m, Fine c := fun c hc => hl c ((hm c).1 hc)
 have hall : AllMay (alone H l m) := fun s hs => by
   obtain ⟨c, hc, _, rfl⟩ := alone_mem hs
   exact solo_may (fm c hc)
 refine eval_is hl (meld_may _ hall) (fun k => ?_) (fun k => ?_) fun x => ?_
 · rw [meld_c k _ hall (fun s hs => by
     obtain ⟨c, hc, hk, rfl⟩ := alone_mem hs
     exact solo_in hk (fm c hc)), alone_c k m fm, cnt_perm k hp]
 · rw [meld_r k _ hall, alone_r k m fm, new_perm k hp]
 · rw [meld_p x _ hall]
   constructor
   · rintro ⟨s, hs, hx⟩
     obtain ⟨c, hc, hk, rfl⟩ := alone_mem hs
     rw [solo_ev hk (fm c hc), ev_p may_noS (fm c hc)] at hx
     rcases hx with hx | ⟨h1, h2, h3⟩
     · cases hx
     · exact ⟨c, (hm c).1 hc, h1, h2, h3⟩
   · rintro ⟨c, hc, h1, h2, h3⟩
     have hk : keepB H l c = true := decide_eq_true fun q => h2 q.2
     refine ⟨solo c, List.mem_map_of_mem (List.mem_filter.2 ⟨(hm c).2 hc, hk⟩), ?_⟩
     rw [solo_ev hk (hl c hc), ev_p may_noS (hl c hc)]
     exact .inr ⟨h1, h2, h3⟩
end
end Go.Proofs.YtgmdhaepiclkcaaGreatDoor.EaP
namespace Go.Proofs.YtgmdhaepiclkcaaGreatDoor.DgS
set_option maxRecDepth 100000
open Go Go.Sort Go.RowKit Byt IdM IdC IdV IdW OpsM OpsW CmM StW CmW CmX CmY DgM DgN DgP DgW DgT DgR DgK DgO DgC DgF DgI
open Classical
def IsSorted (l m : List Com) : Prop := if Closed hashK l then InOrder hashK m ∧ ∀ z, z ∈ m ↔ z ∈ l else m = []
end Go.Proofs.YtgmdhaepiclkcaaGreatDoor.DgS
namespace Go.Proofs.YtgmdhaepiclkcaaGreatDoor.DhD
set_option maxRecDepth 100000
open Go Go.Sort Go.RowKit Byt IdM IdW IdK IdS OpsM OpsW CmM StW CmW CmX CmY CmA DgM DgW DgR DgX DgY DgI DgF DgS DhO DhP DhT DhK DhC DhA DhB
open Classical
theorem sorted_perm {l m : List Com} (C : Closed hashK l) (hp : m.Perm l) (ho : InOrder hashK m) : IsSorted l m := by
 unfold IsSorted
 rw [if_pos C]
 exact ⟨ho, fun z => hp.mem_iff⟩
set_option maxRecDepth 100000 in
set_option maxHeartbeats 32000000 in
theorem sorted_ret (X : KnownRet) (A : Option Addr) (cap : Nat) (l : List Cv) (w : World) (S : SlK w A cap l) (hl : l.length ≤ 1500000000000) (hK : ShaE.KIn w) :
   Calls Tryz.prog 24 #[.slice A l.length cap] w fun e w' => ∃ m, IsSorted (coms l) m ∧ NewC m w e w' := by
 have hmax := S.len
 unfold NewC
 go_enter Tryz.func24, Tryz.ntmps24
 go_wp2_with (first | go_skip)
 refine (ids_ret A cap l w S hl hK).mono ?_
 rintro e w1 ⟨A1, c1, rfl, T1, k1⟩
 go_wp2_with (first | go_skip)
 refine (X A A1 cap c1 l _ w1 (S.below k1) T1 rfl hl).mono ?_
 rintro e w2 ⟨mo, b, rfl, hb, hv, k2⟩
 have b2 := k1.trans (k2.mono k1.size)
 by_cases C : Closed hashK (coms l)
 · rw [decide_eq_true C] at hb
   subst hb
   obtain ⟨mb, rfl, _, _⟩ := hv rfl
   have hfew : l.length ≤ 8388608 := by
     have := DgL.closed_few C
     rwa [coms_len] at this
   have hps : ∀ v ∈ l, v.c.ps.length ≤ 1500000000000 := fun v hv => by
     have := (lineB_iff.1 (mayK_iff.1 (C.may v.c (List.mem_map_of_mem hv))).1).2.2.1
     omega
   have hall : (coms l).all mayK = true := List.all_eq_true.2 fun c hc => C.may c hc
   have hid : idsD (coms l) = (coms l).map hashK := by rw [idsD, if_pos hall]
   have hil : (idsD (coms l)).length = l.length := by rw [hid, List.length_map, coms_len]
   obtain ⟨i, hi, z0, z1, z2⟩ := info_parts KE.info
   obtain ⟨w3, hmk, own3, g3⟩ := run_make_own (P := Tryz.prog) w2 w2.heap.size 22 47 i (.agg (KE.enc KE.zero).toArray) 8 Tryz.underlying22 hi z0 z1 .i64 .i64 l.length (by rw [z2]; show 96 * _ ≤ _; omega) (by unfold maxLen; omega) (Nat.le_refl _)
   have kb3 : Below w2.heap.size w2 w3 := below_grown (Below.refl _ _) (Nat.le_refl _) g3 (fun k hk => by cases hk)
   have q := order_ret A A1 cap c1 l (idsD (coms l)) w3 ((S.below b2).below kb3) ((T1.below k2).below kb3) hil hl
   have HSB := aside (S.below b2)
   have HCL := aside C
   have HID := aside hid
   have HPS := aside hps
   clear hi z0 z1 z2 g3 C hall hid hil hv T1 hps
   go_wp2_with (first | go_skip)
   refine q.mono ?_
   rintro e w4 ⟨bp, P, rfl, hbp, SP, hP, k4⟩
   have b4 := kb3.trans (k4.mono kb3.size)
   have O4 := aside (owns_below own3 k4)
   have hne : Hid (Value.ownBlock (.slice (some ⟨w2.heap.size, 0, none⟩) 0 l.length) ≠ some bp) := aside (fun e => by
     have := (own3.lt bp e).2
     omega)
   have HP := aside hP
   have HPL := aside (show P.length = l.length by rw [hP.1.length_eq, List.length_range])
   clear own3 hmk q kb3 k4 hP hbp
   go_wp2_with (first | go_skip)
   go_loopw [6, 26] (fun o i wq => ∃ (k : Nat) (us : List Cv), k ≤ l.length ∧ us.length = k ∧ i = .int .i64 k ∧ Hid (coms us = atC l (P.take k)) ∧ Hid (wq.ownsRow w2.heap.size 47 8 o us.length (RowS.flat KE us)) ∧ Hid (Held wq o us) ∧ Hid (o.ownBlock ≠ some bp) ∧ wq.heap[bp]? = some (.cells (nv P).toArray 3 (0, 0)) ∧ Below w2.heap.size w2 wq) (fun _ i _ => l.length - (intOf i).toNat)
   case atStart => exact ⟨0, [], Nat.zero_le _, rfl, rfl, aside rfl, O4, aside (Held.nil _ _), hne, SP, b4⟩
   case round =>
     clear O4 hne SP b4
     rename World => wq
     obtain ⟨k, us, hk, hnk, rfl, HU, HO, HH, HNE, SP, kb⟩ := hrel
     by_cases hlt : k < l.length
     · obtain ⟨p, hp⟩ : ∃ p, P[k]? = some p := ⟨_, List.getElem?_eq_getElem (by rw [HPL.out]; exact hlt)⟩
       have cp : wq.cell? ⟨bp, k, none⟩ = some (.int .i64 p) := by rw [cell_of_row wq bp k _ _ (0, 0) SP, List.getElem?_toArray, nv_at hp]
       have hpl : p < l.length := by simpa using HP.out.1.mem_iff.1 (List.mem_of_getElem? hp)
       obtain ⟨b, off, rfl, hbw, hrg⟩ := HSB.out.plain (by omega)
       obtain ⟨x, hx⟩ : ∃ x, l[p]? = some x := ⟨_, List.getElem?_eq_getElem hpl⟩
       have rx := range_on (hrg p x hx) kb
       have hxm := List.mem_of_getElem? hx
       have IX := (HSB.out.each x hxm).1.below kb
       have FX := aside (HSB.out.each x hxm).2
       have hcp := fun W (I : In W x) => copied_ret x W I (HPS.out x hxm)
       have p0 : (k : Int) < l.length := by omega
       have m0 : ((k : Int)).toNat = k := by omega
       have p1 : (p : Int) < l.length := by omega
       have m1 : ((p : Int)).toNat = p := by omega
       have HN := aside (atC_next hp hx)
       have hbq := (Array.getElem?_eq_some_iff.1 SP).1
       clear hrg hx hxm hp
       go_wp2_with (first | go_skip | (refine load_at rfl _ rfl _ _ rfl x rx ?_))
       refine (hcp _ IX).mono ?_
       rintro e w6 ⟨u, rfl, hu, IU, k6, hfar⟩
       have b6 := kb.trans (k6.mono kb.size)
       have O6 := aside (owns_below HO.out k6)
       have H6 := HH.out.below k6
       have P6 := blk_below SP k6
       have hlt6 : ∀ q, Value.ownBlock _ = some q → q < wq.heap.size := fun q hq => (HO.out.lt q hq).2
       have HH6 := aside (H6.snoc IU (fit_of hu FX.out) (fun b off sp e e2 => by
         have h1 := hfar b off sp e
         have h2 := hlt6 b e2
         omega))
       have HU6 := aside (show coms (us ++ [u]) = atC l (P.take (k + 1)) by rw [coms_snoc, HU.out, hu, HN.out])
       clear H6 hlt6 hfar HO HH HU hcp cp SP HN
       go_wp2_with (first | go_skip | (refine build_com rfl _ rfl u rfl ?_; intro w7 B7 k7; have b7 := b6.trans (k7.mono b6.size); have O7 := aside (owns_below O6.out k7); have H7 := aside (HH6.out.below k7); have P7 := blk_below P6 k7) | (refine RowB.wpList_append_at KE rfl (.tmp 30) (.tmp 36) rfl w2.heap.size _ us.length us rfl O7.out _ u rfl B7 (by omega) b7.size ?_; intro v8 w8 o8 g8 e8))
       have b8 : Below w2.heap.size w2 w8 := below_grown b7 b7.size g8 (fun q hq => (O7.out.lt q hq).1)
       have H8 := aside (H7.out.grown g8 e8)
       have hb7 := (Array.getElem?_eq_some_iff.1 P7).1
       have P8 : w8.heap[bp]? = _ := (g8.block bp hb7 (fun e => HNE.out e.symm)).trans P7
       have N8 : Hid (v8.ownBlock ≠ some bp) := aside (fun e => by
         rcases e8 with e8 | e8
         · rw [e8] at e; exact HNE.out e
         · rw [e8] at e
           injection e with e
           omega)
       go_roundw
       case rel => exact ⟨k + 1, us ++ [u], by omega, by simp; omega, by go_num, HU6, aside (by rw [List.length_append]; exact o8), H8, N8, P8, b8⟩
       case measure => simp [intOf]; omega
     · obtain rfl : k = l.length := by omega
       have HO2 := HO.out
       have HU2 := HU.out
       rw [show P.take l.length = P by rw [← HPL.out, List.take_length]] at HU2
       obtain ⟨A6, c6, rfl, R6⟩ := own_in HO2 HH.out.each
       have HU3 := aside HU2
       have HSO := aside (sorted_perm HCL.out (atC_perm HP.out.1) (inOrder HID.out HP.out HCL.out))
       clear HO HO2 HU HU2 HH
       go_wp2_with (first | go_skip)
       go_ret
       exact ⟨_, HSO.out, A6, c6, us, rfl, R6, HU3.out, b2.trans (kb.mono b2.size)⟩
 · rw [decide_eq_false C] at hb
   subst hb
   have HC := aside C
   clear C hv
   go_wp2_with (first | go_skip)
   go_ret
   refine ⟨[], ?_, none, 0, [], rfl, SlK.nil _, rfl, b2⟩
   unfold IsSorted
   rw [if_neg HC.out]
end Go.Proofs.YtgmdhaepiclkcaaGreatDoor.DhD
