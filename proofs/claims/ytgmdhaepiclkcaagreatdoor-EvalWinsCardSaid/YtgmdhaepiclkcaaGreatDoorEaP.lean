/- Plain facts on how the project tells the state of commits: what all Dels know, and states merged half by half. No condition. -/
import Derived.Test.YtgmdhaepiclkcaaGreatDoorFrMJ4
import Derived.Test.YtgmdhaepiclkcaaGreatDoorLaySortJ6
namespace Go.Proofs.YtgmdhaepiclkcaaGreatDoor.EaP
set_option maxRecDepth 100000
open IdM CmM DgM DgX FrM FrN StM OpsM Rise EaM EaN
open Classical
section
variable {H : Com → Idn} {l : List Com}
theorem views_more {P : List Com} {c : Com} (C : Closed H P) (D : Closed H (P ++ [c])) {a : Idn} (ha : a ∈ P.map H) : views H (P ++ [c]) a = views H P a := by
 rw [views_snoc C D, if_neg fun e => ?_]
 obtain ⟨_, hn, _⟩ := (DgX.step C (D.may c (by simp))).1 D
 exact hn (by rw [← e]; exact ha)
theorem views_app (ho : InOrder H l) (C : Closed H l) (i : Nat) : ∀ n, i + n ≤ l.length → ∀ a ∈ (l.take i).map H, views H (l.take (i + n)) a = views H (l.take i) a
 | 0, _, _, _ => rfl
 | n + 1, hn, a, ha => by
   have h1 : i + n < l.length := by omega
   have e : l.take (i + (n + 1)) = l.take (i + n) ++ [l[i + n]] := by
     rw [show i + (n + 1) = (i + n) + 1 by omega, List.take_succ_eq_append_getElem h1]
   rw [e, views_more (closed_take C ho _) (by rw [← e]; exact closed_take C ho _), views_app ho C i n (by omega) a ha]
   obtain ⟨c, hc, rfl⟩ := List.mem_map.1 ha
   refine List.mem_map_of_mem ?_
   have : l.take i = (l.take (i + n)).take i := by rw [List.take_take]; congr 1; omega
   rw [this] at hc
   exact List.mem_of_mem_take hc
theorem views_all (ho : InOrder H l) (C : Closed H l) {i : Nat} (hi : i ≤ l.length) {a : Idn} (ha : a ∈ (l.take i).map H) : views H (l.take i) a = views H l a := by
 have := views_app ho C i (l.length - i) (by omega) a ha
 rw [show i + (l.length - i) = l.length by omega, List.take_length] at this
 exact this.symm
theorem par_ahead (ho : InOrder H l) (C : Closed H l) {i : Nat} {c : Com} (hc : l[i]? = some c) : ∀ a ∈ c.ps, a ∈ (l.take i).map H := fun a ha => by
 obtain ⟨hi, e⟩ := List.getElem?_eq_some_iff.1 hc
 have hs : l.take (i + 1) = l.take i ++ [c] := by rw [List.take_succ_eq_append_getElem hi, e]
 have D := closed_take C ho (i + 1)
 rw [hs] at D
 obtain ⟨_, _, T, _⟩ := (DgX.step (closed_take C ho i) (D.may c (by simp))).1 D
 exact Classical.byContradiction fun h => T.there a ha (views_none.2 h)
theorem tog_all (ho : InOrder H l) (C : Closed H l) {i : Nat} {c : Com} (hc : l[i]? = some c) (n : Int) : togS (views H (l.take i)) c.ps n = togS (views H l) c.ps n := by
 unfold togS
 congr 1
 refine List.map_congr_left fun a ha => ?_
 unfold vSeen
 rw [views_all ho C (by have := (List.getElem?_eq_some_iff.1 hc).1; omega) (par_ahead ho C hc a ha)]
def isDel (k e : ByteArray) (d : Com) : Prop := d.op.kind = 3 ∧ d.op.key = k ∧ d.op.elem = e
noncomputable def kill (H : Com → Idn) (l P : List Com) (k e : ByteArray) (n : Int) : Int := most ((P.filter fun d => decide (isDel k e d)).map fun d => togS (views H l) d.ps n)
theorem kill_yes {P : List Com} {c : Com} {k e : ByteArray} (h : isDel k e c) (n : Int) : kill H l (P ++ [c]) k e n = max (kill H l P k e n) (togS (views H l) c.ps n) := by
 unfold kill
 rw [List.filter_append, List.filter_cons_of_pos (by simpa using h), List.filter_nil, List.map_append, List.map_cons, List.map_nil, most_snoc]
theorem kill_no {P : List Com} {c : Com} {k e : ByteArray} (h : ¬ isDel k e c) (n : Int) : kill H l (P ++ [c]) k e n = kill H l P k e n := by
 unfold kill
 rw [List.filter_append, List.filter_cons_of_neg (by simpa using h), List.filter_nil, List.append_nil]
theorem below_ps (C : Closed H l) {d : Com} (hd : d ∈ l) {x : Idn} (hx : x ∈ l.map H) : Below H l d.ps x ↔ Kn H l (H d) x := by
 constructor
 · rintro ⟨_, h | ⟨y, hy, h⟩⟩
   · exact .one ⟨d, hd, rfl, h⟩
   · exact .more ⟨d, hd, rfl, hy⟩ h
 · intro h
   refine ⟨hx, ?_⟩
   cases h with
   | one h =>
     obtain ⟨e, he, q, hb⟩ := h
     rw [same_of C.nodup he hd q] at hb
     exact .inl hb
   | more h k =>
     obtain ⟨e, he, q, hb⟩ := h
     rw [same_of C.nodup he hd q] at hb
     exact .inr ⟨_, hb, k⟩
theorem kill_iff (C : Closed H l) {m : List Com} (hm : ∀ d, d ∈ m ↔ d ∈ l) {c : Com} (hc : c ∈ l) : c.seq ≤ kill H l m c.op.key c.op.elem c.node ↔ Gone H l c := by
 have hp := seq_pos (C.may c hc) (C.merge c hc)
 have hx : H c ∈ l.map H := List.mem_map_of_mem hc
 constructor
 · intro h
   unfold kill at h
   rcases most_mem ((m.filter fun d => decide (isDel c.op.key c.op.elem d)).map fun d => togS (views H l) d.ps c.node) with e | e
   · omega
   · obtain ⟨d, hd, e2⟩ := List.mem_map.1 e
     obtain ⟨h1, h2⟩ := List.mem_filter.1 hd
     obtain ⟨k1, k2, k3⟩ := of_decide_eq_true h2
     refine ⟨d, (hm d).1 h1, k1, k2, k3, (below_ps C ((hm d).1 h1) hx).1 ((below_iff C d.ps hc).1 ?_)⟩
     omega
 · rintro ⟨d, hd, h1, h2, h3, h4⟩
   have q := (below_iff C d.ps hc).2 ((below_ps C hd hx).2 h4)
   have : togS (views H l) d.ps c.node ≤ kill H l m c.op.key c.op.elem c.node := by
     unfold kill
     exact le_most (List.mem_map_of_mem (f := fun d => togS (views H l) d.ps c.node) (List.mem_filter.2 ⟨(hm d).2 hd, decide_eq_true ⟨h1, h2, h3⟩⟩))
   omega
end
def addS (x y : St) : St := joinS noS x y
def meld : List St → St
 | [] => noS
 | [x] => x
 | x :: y :: l => addS (meld ((x :: y :: l).take ((l.length + 2) / 2))) (meld ((x :: y :: l).drop ((l.length + 2) / 2)))
termination_by l => l.length
decreasing_by
 · simp only [List.length_take, List.length_cons]; omega
 · simp only [List.length_drop, List.length_cons]; omega
theorem meld_one (x : St) : meld [x] = x := by unfold meld; rfl
theorem meld_nil : meld [] = noS := by unfold meld; rfl
theorem meld_many {l : List St} (h : 2 ≤ l.length) : meld l = addS (meld (l.take (l.length / 2))) (meld (l.drop (l.length / 2))) := by
 match l, h with
 | x :: y :: l, _ =>
   conv => lhs; unfold meld
   rfl
theorem meld_ind {p : List St → Prop} (h0 : p []) (h1 : ∀ x, p [x]) (h2 : ∀ a b, p a → p b → 2 ≤ (a ++ b).length → a.length = (a ++ b).length / 2 → p (a ++ b)) : ∀ (n : Nat) (l : List St), l.length ≤ n → p l
 | _, [], _ => h0
 | _, [x], _ => h1 x
 | 0, x :: y :: l, h => by simp at h
 | n + 1, x :: y :: l, h => by
   have hl : (x :: y :: l).length = l.length + 2 := rfl
   obtain ⟨m, hm⟩ : ∃ m, x :: y :: l = m := ⟨_, rfl⟩
   rw [hm] at hl h ⊢
   have e := List.take_append_drop (m.length / 2) m
   rw [← e]
   refine h2 _ _ (meld_ind h0 h1 h2 n _ (by rw [List.length_take]; omega)) (meld_ind h0 h1 h2 n _ (by rw [List.length_drop]; omega)) (by rw [e]; omega) ?_
   rw [e, List.length_take]
   omega
theorem meld_app {a b : List St} (h : 2 ≤ (a ++ b).length) (h2 : a.length = (a ++ b).length / 2) : meld (a ++ b) = addS (meld a) (meld b) := by
 rw [meld_many h, ← h2, List.take_left, List.drop_left]
def AllMay (l : List St) : Prop := ∀ s ∈ l, mayS s = true
theorem AllMay.left {a b : List St} (h : AllMay (a ++ b)) : AllMay a := fun s hs => h s (List.mem_append_left _ hs)
theorem AllMay.right {a b : List St} (h : AllMay (a ++ b)) : AllMay b := fun s hs => h s (List.mem_append_right _ hs)
theorem meld_may (l : List St) : AllMay l → mayS (meld l) = true := by
 refine meld_ind (p := fun l => AllMay l → mayS (meld l) = true) (fun _ => by rw [meld_nil]; exact may_noS) (fun x h => by rw [meld_one]; exact h x (by simp)) (fun a b ha hb h h2 hm => ?_) l.length l (Nat.le_refl _)
 rw [meld_app h h2]
 exact join_may may_noS (ha hm.left) (hb hm.right)
def sumS (k : ByteArray) : List St → Int
 | [] => 0
 | s :: l => CtrM.getC s.c k + sumS k l
def bestS (k : ByteArray) : List St → Option RegM.Rg
 | [] => none
 | s :: l => RegL.bestO (bestS k l) (RegM.getR s.r k)
theorem sumS_app (k : ByteArray) (a b : List St) : sumS k (a ++ b) = sumS k a + sumS k b := by
 induction a with
 | nil => show sumS k b = 0 + _; omega
 | cons s a ih =>
   show CtrM.getC s.c k + sumS k (a ++ b) = CtrM.getC s.c k + sumS k a + _
   rw [ih]
   omega
theorem of_best (k : ByteArray) : ∀ l : List St, RegL.Of k (bestS k l)
 | [] => fun x h => by cases h
 | _ :: l => (of_best k l).both (RegL.of_get _ k)
theorem bestS_app (k : ByteArray) (a b : List St) : bestS k (a ++ b) = RegL.bestO (bestS k b) (bestS k a) := by
 induction a with
 | nil => exact (RegL.bestO_none _).symm
 | cons s a ih =>
   show RegL.bestO (bestS k (a ++ b)) (RegM.getR s.r k) = RegL.bestO (bestS k b) (RegL.bestO (bestS k a) (RegM.getR s.r k))
   rw [ih, RegL.bestO_three (of_best k b) (of_best k a) (RegL.of_get _ k)]
theorem add_c {x y : St} (hx : mayS x = true) (hy : mayS y = true) (k : ByteArray) : CtrM.getC (addS x y).c k = CtrM.w64 (CtrM.getC x.c k + CtrM.getC y.c k) := by
 show CtrM.getC (CtrM.mergeC [] x.c y.c) k = _
 rw [CtrL.merge_get rfl (mayS_iff.1 hx).1 (mayS_iff.1 hy).1]
 unfold CtrM.sumC
 rw [CtrM.getC_none (l := []) (fun _ hc => by cases hc), Int.sub_zero, CtrL.w64_id (CtrL.w64_in _)]
theorem meld_c (k : ByteArray) (l : List St) : AllMay l → (∀ s ∈ l, CtrL.InL s.c) → CtrM.getC (meld l).c k = CtrM.w64 (sumS k l) := by
 refine meld_ind (p := fun l => AllMay l → (∀ s ∈ l, CtrL.InL s.c) → CtrM.getC (meld l).c k = CtrM.w64 (sumS k l)) (fun _ _ => by rw [meld_nil]; rfl) (fun x h hi => ?_) (fun a b ha hb h h2 hm hi => ?_) l.length l (Nat.le_refl _)
 · rw [meld_one]
   show _ = CtrM.w64 (CtrM.getC x.c k + 0)
   rw [Int.add_zero, CtrL.w64_id (CtrL.getC_in (hi x (by simp)) k)]
 · rw [meld_app h h2, add_c (meld_may _ hm.left) (meld_may _ hm.right), ha hm.left fun s hs => hi s (List.mem_append_left _ hs), hb hm.right fun s hs => hi s (List.mem_append_right _ hs), sumS_app]
   simp only [CtrM.w64_eq]
   omega
theorem meld_r (k : ByteArray) (l : List St) : AllMay l → RegM.getR (meld l).r k = bestS k l := by
 refine meld_ind (p := fun l => AllMay l → RegM.getR (meld l).r k = bestS k l) (fun _ => by rw [meld_nil]; rfl) (fun x h => ?_) (fun a b ha hb h h2 hm => ?_) l.length l (Nat.le_refl _)
 · rw [meld_one]
   show _ = RegL.bestO none (RegM.getR x.r k)
   cases RegM.getR x.r k <;> rfl
 · rw [meld_app h h2]
   show RegM.getR (RegL.mergeR (meld a).r (meld b).r) k = _
   rw [RegL.merge_get (mayS_iff.1 (meld_may _ hm.left)).2.1 (mayS_iff.1 (meld_may _ hm.right)).2.1, ha hm.left, hb hm.right, bestS_app]
theorem meld_p (x : PairM.Pr) (l : List St) : AllMay l → (x ∈ (meld l).p ↔ ∃ s ∈ l, x ∈ s.p) := by
 refine meld_ind (p := fun l => AllMay l → (x ∈ (meld l).p ↔ ∃ s ∈ l, x ∈ s.p)) (fun _ => by rw [meld_nil]; simp [noS]) (fun s h => by rw [meld_one]; simp) (fun a b ha hb h h2 hm => ?_) l.length l (Nat.le_refl _)
 rw [meld_app h h2]
 show x ∈ PairM.mergeP [] (meld a).p (meld b).p ↔ _
 rw [PairM.merge_mem rfl (mayS_iff.1 (meld_may _ hm.left)).2.2 (mayS_iff.1 (meld_may _ hm.right)).2.2]
 unfold PairM.inM
 rw [ha hm.left, hb hm.right]
 constructor
 · rintro (⟨⟨s, hs, h⟩, _⟩ | ⟨⟨s, hs, h⟩, _⟩)
   · exact ⟨s, List.mem_append_left _ hs, h⟩
   · exact ⟨s, List.mem_append_right _ hs, h⟩
 · rintro ⟨s, hs, h⟩
   rcases List.mem_append.1 hs with hs | hs
   · exact .inl ⟨⟨s, hs, h⟩, .inr (by simp)⟩
   · by_cases q : ∃ s ∈ a, x ∈ s.p
     · exact .inl ⟨q, .inr (by simp)⟩
     · exact .inr ⟨⟨s, hs, h⟩, q, by simp⟩
structure LenS (n : Nat) (s : St) : Prop where
 c : s.c.length ≤ n
 r : s.r.length ≤ n
 p : s.p.length ≤ n
theorem mergeC_len {a b : List CtrM.Cn} : (CtrM.mergeC [] a b).length ≤ a.length + b.length := by
 by_cases h : CtrM.mayC [] = true ∧ CtrM.mayC a = true ∧ CtrM.mayC b = true
 · rw [CtrM.mergeC_fold h]
   have := CtrM.mergeF_length [] a b ([] ++ a ++ b) []
   simpa using this
 · rw [CtrL.merge_no (by
     by_cases h1 : CtrM.mayC [] = true
     · by_cases h2 : CtrM.mayC a = true
       · by_cases h3 : CtrM.mayC b = true
         · exact absurd ⟨h1, h2, h3⟩ h
         · exact .inr (.inr (by simpa using h3))
       · exact .inr (.inl (by simpa using h2))
     · exact .inl (by simpa using h1))]
   simp
theorem add_len {x y : St} {n m : Nat} (hx : mayS x = true) (hy : mayS y = true) (h1 : LenS n x) (h2 : LenS m y) : LenS (n + m) (addS x y) := by
 have k1 := mergeC_len (a := x.c) (b := y.c)
 have k2 := RegL.merge_length x.r y.r
 have k3 := PairM.merge_length (base := []) (a := x.p) (b := y.p) rfl (mayS_iff.1 hx).2.2 (mayS_iff.1 hy).2.2
 have := h1.c
 have := h1.r
 have := h1.p
 have := h2.c
 have := h2.r
 have := h2.p
 exact ⟨by show (CtrM.mergeC [] x.c y.c).length ≤ _; omega, by show (RegL.mergeR x.r y.r).length ≤ _; omega, by show (PairM.mergeP [] x.p y.p).length ≤ _; omega⟩
theorem meld_len (l : List St) : AllMay l → (∀ s ∈ l, LenS 1 s) → LenS l.length (meld l) := by
 refine meld_ind (p := fun l => AllMay l → (∀ s ∈ l, LenS 1 s) → LenS l.length (meld l)) (fun _ _ => by rw [meld_nil]; exact ⟨by simp [noS], by simp [noS], by simp [noS]⟩) (fun x h hi => by rw [meld_one]; exact hi x (by simp)) (fun a b ha hb h h2 hm hi => ?_) l.length l (Nat.le_refl _)
 rw [meld_app h h2, List.length_append]
 exact add_len (meld_may _ hm.left) (meld_may _ hm.right) (ha hm.left fun s hs => hi s (List.mem_append_left _ hs)) (hb hm.right fun s hs => hi s (List.mem_append_right _ hs))
section
variable {H : Com → Idn} {l : List Com}
def solo (c : Com) : St := stepS noS c.op c.node c.seq c.gen
noncomputable def keepB (H : Com → Idn) (l : List Com) (c : Com) : Bool := decide (¬ (c.op.kind = 2 ∧ Gone H l c))
noncomputable def alone (H : Com → Idn) (l m : List Com) : List St := (m.filter (keepB H l)).map solo
theorem solo_ev {c : Com} (hk : keepB H l c = true) (_hc : Fine c) : solo c = evS H l noS c := by
 have hn : ¬ (c.op.kind = 2 ∧ Gone H l c) := of_decide_eq_true hk
 unfold solo stepS evS
 by_cases h0 : c.op.kind = 0
 · rw [if_pos h0, if_pos h0]
 · rw [if_neg h0, if_neg h0]
   by_cases h1 : c.op.kind = 1
   · rw [if_pos h1, if_pos h1]; rfl
   · rw [if_neg h1, if_neg h1]
     by_cases h2 : c.op.kind = 2
     · rw [if_pos h2, if_pos ⟨h2, fun g => hn ⟨h2, g⟩⟩]; rfl
     · rw [if_neg h2, if_neg fun q => h2 q.1]
       rfl
theorem alone_mem {m : List Com} {s : St} (h : s ∈ alone H l m) : ∃ c ∈ m, keepB H l c = true ∧ s = solo c := by
 obtain ⟨c, hc, rfl⟩ := List.mem_map.1 h
 obtain ⟨h1, h2⟩ := List.mem_filter.1 hc
 exact ⟨c, h1, h2, rfl⟩
theorem solo_may {c : Com} (hc : Fine c) : mayS (solo c) = true := step_may (okD_iff.2 ⟨may_noS, hc.op, hc.ev, hc.gen⟩)
theorem solo_len (c : Com) : LenS 1 (solo c) := by
 unfold solo stepS
 split
 · refine ⟨?_, by simp [noS], by simp [noS]⟩
   show (CtrM.incC [] _ _).length ≤ 1
   unfold CtrM.incC
   split
   · have := CtrM.putC_length c.op.key (CtrM.w64 (CtrM.getC [] c.op.key + c.op.n)) []
     simpa using this
   · simp
 · split
   · exact ⟨by simp [noS], by have := RegL.put_length [] (regO c.op c.node c.seq c.gen); simpa [noS] using this, by simp [noS]⟩
   · split
     · exact ⟨by simp [noS], by simp [noS], by have := PairM.add_length [] (pairO c.op c.node c.seq); simpa [noS] using this⟩
     · exact ⟨by simp [noS], by simp [noS], by have := PairM.del_length [] c.op.key c.op.elem; show (PairM.delP [] c.op.key c.op.elem).length ≤ 1; rw [List.length_nil] at this; omega⟩
theorem solo_in {c : Com} (hk : keepB H l c = true) (hc : Fine c) : CtrL.InL (solo c).c := by
 rw [solo_ev hk hc]
 exact ev_in in_noS
theorem alone_c (k : ByteArray) : ∀ m : List Com, (∀ c ∈ m, Fine c) → CtrM.w64 (sumS k (alone H l m)) = CtrM.w64 (cnt k m)
 | [], _ => rfl
 | c :: m, hm => by
   have ih := alone_c k m fun d hd => hm d (by simp [hd])
   have hc := hm c (by simp)
   have e : cnt k (c :: m) = (if c.op.kind = 0 ∧ c.op.key = k then c.op.n else 0) + cnt k m := rfl
   rw [e]
   unfold alone at ih ⊢
   by_cases h : keepB H l c = true
   · rw [List.filter_cons_of_pos h, List.map_cons]
     show CtrM.w64 (CtrM.getC (solo c).c k + sumS k _) = _
     rw [solo_ev h hc, ev_c may_noS hc in_noS]
     have h0 : CtrM.getC noS.c k = 0 := rfl
     rw [h0, Int.zero_add]
     generalize (if c.op.kind = 0 ∧ c.op.key = k then c.op.n else 0) = x
     simp only [CtrM.w64_eq] at ih ⊢
     omega
   · rw [List.filter_cons_of_neg h, ih]
     have h2 : c.op.kind = 2 := by
       have : ¬ ¬ (c.op.kind = 2 ∧ Gone H l c) := fun q => h (decide_eq_true q)
       exact (Classical.not_not.1 this).1
     rw [if_neg (c := c.op.kind = 0 ∧ c.op.key = k) fun q => by omega, Int.zero_add]
theorem alone_r (k : ByteArray) : ∀ m : List Com, (∀ c ∈ m, Fine c) → bestS k (alone H l m) = newR k m
 | [], _ => rfl
 | c :: m, hm => by
   have ih := alone_r k m fun d hd => hm d (by simp [hd])
   have hc := hm c (by simp)
   have e : newR k (c :: m) = RegL.bestO (newR k m) (regIf k c) := rfl
   rw [e]
   unfold alone at ih ⊢
   by_cases h : keepB H l c = true
   · rw [List.filter_cons_of_pos h, List.map_cons]
     show RegL.bestO (bestS k _) (RegM.getR (solo c).r k) = _
     rw [ih, solo_ev h hc, ev_r may_noS hc]
     have h0 : RegM.getR noS.r k = none := rfl
     rw [h0, RegL.bestO_none]
   · rw [List.filter_cons_of_neg h, ih]
     have h2 : c.op.kind = 2 := by
       have : ¬ ¬ (c.op.kind = 2 ∧ Gone H l c) := fun q => h (decide_eq_true q)
       exact (Classical.not_not.1 this).1
     unfold regIf
     rw [if_neg (c := c.op.kind = 1 ∧ c.op.key = k) fun q => by omega, RegL.bestO_none]
theorem meld_alone {m : List Com} (hm : ∀ c, c ∈ m ↔ c ∈ l) (hp : m.Perm l) (hl : ∀ c ∈ l, Fine c) : meld (alone H l m) = evalK H l := by
 have fm : ∀ c ∈ m, Fine c := fun c hc => hl c ((hm c).1 hc)
 have hall : AllMay (alone H l m) := fun s hs => by
   obtain ⟨c, hc, _, rfl⟩ := alone_mem hs
   exact solo_may (fm c hc)
 refine eval_is hl (meld_may _ hall) (fun k => ?_) (fun k => ?_) fun x => ?_
 · rw [meld_c k _ hall (fun s hs => by
     obtain ⟨c, hc, hk, rfl⟩ := alone_mem hs
     exact solo_in hk (fm c hc)), alone_c k m fm, cnt_perm k hp]
 · rw [meld_r k _ hall, alone_r k m fm, new_perm k hp]
 · rw [meld_p x _ hall]
   constructor
   · rintro ⟨s, hs, hx⟩
     obtain ⟨c, hc, hk, rfl⟩ := alone_mem hs
     rw [solo_ev hk (fm c hc), ev_p may_noS (fm c hc)] at hx
     rcases hx with hx | ⟨h1, h2, h3⟩
     · cases hx
     · exact ⟨c, (hm c).1 hc, h1, h2, h3⟩
   · rintro ⟨c, hc, h1, h2, h3⟩
     have hk : keepB H l c = true := decide_eq_true fun q => h2 q.2
     refine ⟨solo c, List.mem_map_of_mem (List.mem_filter.2 ⟨(hm c).2 hc, hk⟩), ?_⟩
     rw [solo_ev hk (hl c hc), ev_p may_noS (hl c hc)]
     exact .inr ⟨h1, h2, h3⟩
end
end Go.Proofs.YtgmdhaepiclkcaaGreatDoor.EaP
