/- Plain facts on commits that know one another: what is closed, what is known, sorted lists. No condition. | Plain facts on what commits know by their places in a list, and on the order in which it is found out. No condition. -/
import Derived.Test.YtgoapaanmcmlmaaGreatDoorOpsMJ4
namespace Go.Proofs.YtgoapaanmcmlmaaGreatDoor.DgM
set_option maxRecDepth 100000
open IdM CmM
open Classical
section
variable {H : Com → Idn}
def Par (H : Com → Idn) (l : List Com) (a b : Idn) : Prop := ∃ c ∈ l, H c = a ∧ b ∈ c.ps
inductive Kn (H : Com → Idn) (l : List Com) : Idn → Idn → Prop
 | one {a b : Idn} : Par H l a b → Kn H l a b
 | more {a b c : Idn} : Par H l a b → Kn H l b c → Kn H l a c
theorem Kn.trans {l : List Com} {a b c : Idn} (h : Kn H l a b) (k : Kn H l b c) : Kn H l a c := by
 induction h with
 | one h => exact .more h k
 | more h _ ih => exact .more h (ih k)
def look (H : Com → Idn) (l : List Com) (a : Idn) : Option Com := l.find? fun c => decide (H c = a)
def gAt (H : Com → Idn) (l : List Com) (a : Idn) : Int := ((look H l a).map (·.gen)).getD 0
def most (l : List Int) : Int := l.foldl max 0
theorem foldl_max (l : List Int) : ∀ m : Int, m ≤ l.foldl max m ∧ (∀ x ∈ l, x ≤ l.foldl max m) ∧ (l.foldl max m = m ∨ l.foldl max m ∈ l) := by
 induction l with
 | nil => intro m; simp
 | cons y l ih =>
   intro m
   obtain ⟨h1, h2, h3⟩ := ih (max m y)
   refine ⟨by simp only [List.foldl_cons]; omega, fun x hx => ?_, ?_⟩
   · rcases List.mem_cons.1 hx with rfl | hx
     · simp only [List.foldl_cons]; omega
     · exact h2 x hx
   · simp only [List.foldl_cons]
     rcases h3 with h3 | h3
     · rw [h3]
       by_cases h : m ≤ y
       · right; rw [Int.max_eq_right h]; simp
       · left; rw [Int.max_eq_left (by omega)]
     · right; exact List.mem_cons_of_mem _ h3
theorem le_most {l : List Int} {x : Int} (h : x ∈ l) : x ≤ most l := (foldl_max l 0).2.1 x h
structure Closed (H : Com → Idn) (l : List Com) : Prop where
 may : ∀ c ∈ l, mayK c = true
 merge : ∀ c ∈ l, isM c = false
 nodup : (l.map H).Nodup
 found : ∀ c ∈ l, ∀ a ∈ c.ps, a ∈ l.map H
 gen : ∀ c ∈ l, c.gen = 1 + most (c.ps.map (gAt H l))
 apart : ∀ c ∈ l, ∀ a ∈ c.ps, ∀ b ∈ c.ps, ¬ Kn H l a b
 node : ∀ c ∈ l, ∀ d ∈ l, c ≠ d → c.node = d.node → c.seq ≠ d.seq ∧ (d.seq < c.seq → Kn H l (H c) (H d))
theorem closed_nil : Closed H [] := ⟨by simp, by simp, by simp, by simp, by simp, by simp, by simp⟩
theorem same_of {l : List Com} (h : (l.map H).Nodup) {c d : Com} (hc : c ∈ l) (hd : d ∈ l) (e : H c = H d) : c = d := by
 induction l with
 | nil => simp at hc
 | cons x l ih =>
   rw [List.map_cons, List.nodup_cons] at h
   rcases List.mem_cons.1 hc with h1 | h1 <;> rcases List.mem_cons.1 hd with h2 | h2
   · rw [h1, h2]
   · subst h1
     exact absurd (by rw [e]; exact List.mem_map_of_mem h2) h.1
   · subst h2
     exact absurd (by rw [← e]; exact List.mem_map_of_mem h1) h.1
   · exact ih h.2 h1 h2
theorem look_some {l : List Com} (h : (l.map H).Nodup) {c : Com} (hc : c ∈ l) : look H l (H c) = some c := by
 unfold look
 cases hf : l.find? (fun d => decide (H d = H c)) with
 | none =>
   have := List.find?_eq_none.1 hf c hc
   simp at this
 | some d =>
   have h1 := List.mem_of_find?_eq_some hf
   have h2 := List.find?_some hf
   rw [same_of h h1 hc (of_decide_eq_true h2)]
theorem gAt_of {l : List Com} (h : (l.map H).Nodup) {c : Com} (hc : c ∈ l) : gAt H l (H c) = c.gen := by
 unfold gAt
 rw [look_some h hc]
 rfl
theorem par_gen {l : List Com} (C : Closed H l) {a b : Idn} (h : Par H l a b) : gAt H l b < gAt H l a := by
 obtain ⟨c, hc, rfl, hb⟩ := h
 rw [gAt_of C.nodup hc, C.gen c hc]
 have := le_most (List.mem_map_of_mem (f := gAt H l) hb)
 omega
theorem kn_gen {l : List Com} (C : Closed H l) {a b : Idn} (h : Kn H l a b) : gAt H l b < gAt H l a := by
 induction h with
 | one h => exact par_gen C h
 | more h _ ih => have := par_gen C h; omega
theorem kn_irrefl {l : List Com} (C : Closed H l) {a : Idn} : ¬ Kn H l a a := fun h => by
 have := kn_gen C h
 omega
noncomputable def part (H : Com → Idn) (l : List Com) (p : Idn → Prop) : List Com := l.filter fun c => decide (p (H c))
theorem mem_part {l : List Com} {p : Idn → Prop} {c : Com} : c ∈ part H l p ↔ c ∈ l ∧ p (H c) := by simp [part]
def Down (H : Com → Idn) (l : List Com) (p : Idn → Prop) : Prop := ∀ c ∈ l, p (H c) → ∀ a ∈ c.ps, p a
theorem par_part {l : List Com} {p : Idn → Prop} {a b : Idn} (h : Par H (part H l p) a b) : Par H l a b := by
 obtain ⟨c, hc, e, hb⟩ := h
 exact ⟨c, (mem_part.1 hc).1, e, hb⟩
theorem kn_part {l : List Com} {p : Idn → Prop} {a b : Idn} (h : Kn H (part H l p) a b) : Kn H l a b := by
 induction h with
 | one h => exact .one (par_part h)
 | more h _ ih => exact .more (par_part h) ih
theorem kn_in {l : List Com} {p : Idn → Prop} (hd : Down H l p) {a b : Idn} (h : Kn H l a b) (ha : p a) : Kn H (part H l p) a b ∧ p b := by
 induction h with
 | one h =>
   obtain ⟨c, hc, rfl, hb⟩ := h
   exact ⟨.one ⟨c, mem_part.2 ⟨hc, ha⟩, rfl, hb⟩, hd c hc ha _ hb⟩
 | more h _ ih =>
   obtain ⟨c, hc, rfl, hb⟩ := h
   obtain ⟨h1, h2⟩ := ih (hd c hc ha _ hb)
   exact ⟨.more ⟨c, mem_part.2 ⟨hc, ha⟩, rfl, hb⟩ h1, h2⟩
theorem mem_map {l : List Com} {p : Idn → Prop} {a : Idn} : a ∈ (part H l p).map H ↔ a ∈ l.map H ∧ p a := by
 rw [List.mem_map, List.mem_map]
 constructor
 · rintro ⟨c, hc, rfl⟩
   obtain ⟨h1, h2⟩ := mem_part.1 hc
   exact ⟨⟨c, h1, rfl⟩, h2⟩
 · rintro ⟨⟨c, hc, rfl⟩, h⟩
   exact ⟨c, mem_part.2 ⟨hc, h⟩, rfl⟩
theorem part_nodup {l : List Com} (C : Closed H l) (p : Idn → Prop) : ((part H l p).map H).Nodup := C.nodup.sublist (List.filter_sublist.map H)
theorem gAt_part {l : List Com} (C : Closed H l) {p : Idn → Prop} {a : Idn} (ha : a ∈ l.map H) (hp : p a) : gAt H (part H l p) a = gAt H l a := by
 obtain ⟨c, hc, rfl⟩ := List.mem_map.1 ha
 have hn := part_nodup C p
 rw [gAt_of hn (mem_part.2 ⟨hc, hp⟩), gAt_of C.nodup hc]
theorem closed_part {l : List Com} (C : Closed H l) {p : Idn → Prop} (hd : Down H l p) : Closed H (part H l p) := by
 have hn := part_nodup C p
 refine ⟨fun c hc => C.may c (mem_part.1 hc).1, fun c hc => C.merge c (mem_part.1 hc).1, hn, fun c hc a ha => ?_, fun c hc => ?_, fun c hc a ha b hb h => ?_, fun c hc d hd' hne hnode => ?_⟩
 · obtain ⟨h1, h2⟩ := mem_part.1 hc
   exact mem_map.2 ⟨C.found c h1 a ha, hd c h1 h2 a ha⟩
 · obtain ⟨h1, h2⟩ := mem_part.1 hc
   rw [C.gen c h1]
   congr 2
   exact List.map_congr_left fun a ha => (gAt_part C (C.found c h1 a ha) (hd c h1 h2 a ha)).symm
 · exact C.apart c (mem_part.1 hc).1 a ha b hb (kn_part h)
 · obtain ⟨h1, h2⟩ := mem_part.1 hc
   obtain ⟨h3, _⟩ := mem_part.1 hd'
   obtain ⟨k1, k2⟩ := C.node c h1 d h3 hne hnode
   exact ⟨k1, fun hs => (kn_in hd (k2 hs) h2).1⟩
def Below (H : Com → Idn) (l : List Com) (a : List Idn) (x : Idn) : Prop := x ∈ l.map H ∧ (x ∈ a ∨ ∃ y ∈ a, Kn H l y x)
theorem kn_perm {l m : List Com} (h : ∀ c, c ∈ l ↔ c ∈ m) {a b : Idn} (k : Kn H l a b) : Kn H m a b := by
 induction k with
 | one k => obtain ⟨c, hc, e, hb⟩ := k; exact .one ⟨c, (h c).1 hc, e, hb⟩
 | more k _ ih => obtain ⟨c, hc, e, hb⟩ := k; exact .more ⟨c, (h c).1 hc, e, hb⟩ ih
theorem closed_perm {l m : List Com} (C : Closed H l) (h : l.Perm m) : Closed H m := by
 have hm : ∀ c, c ∈ l ↔ c ∈ m := fun c => h.mem_iff
 have hm' : ∀ c, c ∈ m ↔ c ∈ l := fun c => (hm c).symm
 have hn : (m.map H).Nodup := (h.map H).nodup_iff.1 C.nodup
 have hg : ∀ a ∈ l.map H, gAt H m a = gAt H l a := fun a ha => by
   obtain ⟨c, hc, rfl⟩ := List.mem_map.1 ha
   rw [gAt_of hn ((hm c).1 hc), gAt_of C.nodup hc]
 refine ⟨fun c hc => C.may c ((hm c).2 hc), fun c hc => C.merge c ((hm c).2 hc), hn, fun c hc a ha => ?_, fun c hc => ?_, fun c hc a ha b hb k => C.apart c ((hm c).2 hc) a ha b hb (kn_perm hm' k), fun c hc d hd hne hnode => ?_⟩
 · exact (h.map H).mem_iff.1 (C.found c ((hm c).2 hc) a ha)
 · rw [C.gen c ((hm c).2 hc)]
   congr 2
   exact List.map_congr_left fun a ha => (hg a (C.found c ((hm c).2 hc) a ha)).symm
 · obtain ⟨h1, h2⟩ := C.node c ((hm c).2 hc) d ((hm d).2 hd) hne hnode
   exact ⟨h1, fun hs => kn_perm hm (h2 hs)⟩
def Ahead (H : Com → Idn) (c d : Com) : Prop := c.gen < d.gen ∨ c.gen = d.gen ∧ less (H c) (H d) = true
def InOrder (H : Com → Idn) (l : List Com) : Prop := l.Pairwise (Ahead H)
theorem ahead_asymm {c d : Com} (h : Ahead H c d) (k : Ahead H d c) : False := by
 rcases h with h | ⟨h, h'⟩ <;> rcases k with k | ⟨k, k'⟩
 · omega
 · omega
 · omega
 · rw [less_asymm h'] at k'; cases k'
theorem part_pre {t d : List Com} (hn : ((t ++ d).map H).Nodup) : part H (t ++ d) (· ∈ t.map H) = t := by
 rw [List.map_append, List.nodup_append] at hn
 unfold part
 rw [List.filter_append, List.filter_eq_self.2, List.filter_eq_nil_iff.2, List.append_nil]
 · intro c hc h
   simp only [decide_eq_true_eq] at h
   exact hn.2.2 _ h _ (List.mem_map_of_mem hc) rfl
 · intro c hc
   simp only [decide_eq_true_eq]
   exact List.mem_map_of_mem hc
theorem closed_take {l : List Com} (C : Closed H l) (ho : InOrder H l) (i : Nat) : Closed H (l.take i) := by
 have hp : l.take i = part H l (· ∈ (l.take i).map H) := by
   have hn := C.nodup
   have := part_pre (H := H) (t := l.take i) (d := l.drop i) (by rw [List.take_append_drop]; exact hn)
   rw [List.take_append_drop] at this
   exact this.symm
 rw [hp]
 refine closed_part C fun c hc h b hb => ?_
 have hcb := par_gen C ⟨c, hc, rfl, hb⟩
 obtain ⟨d, hd, e⟩ := List.mem_map.1 (C.found c hc b hb)
 rw [gAt_of C.nodup hc, ← e, gAt_of C.nodup hd] at hcb
 have hc' : c ∈ l.take i := by
   obtain ⟨c', h1, h2⟩ := List.mem_map.1 h
   rwa [← same_of C.nodup (List.mem_of_mem_take h1) hc h2]
 rw [← e]
 refine List.mem_map_of_mem ?_
 rw [← List.take_append_drop i l] at hd
 rcases List.mem_append.1 hd with hd | hd
 · exact hd
 · have ho' := ho
   unfold InOrder at ho'
   rw [← List.take_append_drop i l, List.pairwise_append] at ho'
   rcases ho'.2.2 c hc' d hd with h | h <;> omega
end
end Go.Proofs.YtgoapaanmcmlmaaGreatDoor.DgM
namespace Go.Proofs.YtgoapaanmcmlmaaGreatDoor.DgN
set_option maxRecDepth 100000
open IdM CmM DgM
open Classical
section
variable {H : Com → Idn}
def idx (all : List Idn) (a : Idn) : Option Nat := all.findIdx? fun x => decide (x = a)
def atI (all : List Idn) (a : Idn) : Int := match idx all a with
 | some p => (p : Int)
 | none => -1
theorem idx_some {all : List Idn} {a : Idn} {p : Nat} (h : idx all a = some p) : all[p]? = some a ∧ ∀ j, j < p → all[j]? ≠ some a := by
 unfold idx at h
 rw [List.findIdx?_eq_some_iff_getElem] at h
 obtain ⟨h1, h2, h3⟩ := h
 refine ⟨by rw [List.getElem?_eq_getElem h1, of_decide_eq_true h2], fun j hj e => ?_⟩
 have hjl : j < all.length := by omega
 rw [List.getElem?_eq_getElem hjl] at e
 have := h3 j hj
 simp [Option.some.inj e] at this
theorem idx_lt {all : List Idn} {a : Idn} {p : Nat} (h : idx all a = some p) : p < all.length := (List.getElem?_eq_some_iff.1 (idx_some h).1).1
theorem idx_none {all : List Idn} {a : Idn} : idx all a = none ↔ a ∉ all := by
 unfold idx
 rw [List.findIdx?_eq_none_iff]
 constructor
 · intro h ha
   have := h a ha
   simp at this
 · intro h x hx
   simp only [decide_eq_false_iff_not]
   rintro rfl
   exact h hx
theorem idx_of {all : List Idn} (h : all.Nodup) {i : Nat} {a : Idn} (hi : all[i]? = some a) : idx all a = some i := by
 cases hq : idx all a with
 | none => exact absurd (List.mem_of_getElem? hi) (idx_none.1 hq)
 | some p =>
   obtain ⟨h1, _⟩ := idx_some hq
   obtain ⟨hil, e1⟩ := List.getElem?_eq_some_iff.1 hi
   obtain ⟨hpl, e2⟩ := List.getElem?_eq_some_iff.1 h1
   rw [(List.getElem_inj h).1 (e2.trans e1.symm)]
def ParI (l : List Com) (all : List Idn) (i p : Nat) : Prop := ∃ c a, l[i]? = some c ∧ a ∈ c.ps ∧ idx all a = some p
inductive KnI (l : List Com) (all : List Idn) : Nat → Nat → Prop
 | one {i p : Nat} : ParI l all i p → KnI l all i p
 | more {i p j : Nat} : ParI l all i p → KnI l all p j → KnI l all i j
theorem kni_lt {l : List Com} {all : List Idn} {i j : Nat} (h : KnI l all i j) : i < l.length ∧ j < all.length := by
 induction h with
 | one h => obtain ⟨c, a, h1, _, h3⟩ := h; exact ⟨(List.getElem?_eq_some_iff.1 h1).1, idx_lt h3⟩
 | more h _ ih => obtain ⟨c, a, h1, _, h3⟩ := h; exact ⟨(List.getElem?_eq_some_iff.1 h1).1, ih.2⟩
theorem kni_kn {l : List Com} {i j : Nat} (h : KnI l (l.map H) i j) : ∃ a b, (l.map H)[i]? = some a ∧ (l.map H)[j]? = some b ∧ Kn H l a b := by
 have one : ∀ {i p : Nat}, ParI l (l.map H) i p → ∃ a b, (l.map H)[i]? = some a ∧ (l.map H)[p]? = some b ∧ Par H l a b := by
   rintro i p ⟨c, b, h1, h2, h3⟩
   exact ⟨H c, b, by rw [List.getElem?_map, h1]; rfl, (idx_some h3).1, c, List.mem_of_getElem? h1, rfl, h2⟩
 induction h with
 | one h => obtain ⟨a, b, h1, h2, h3⟩ := one h; exact ⟨a, b, h1, h2, .one h3⟩
 | more h _ ih =>
   obtain ⟨a, b, h1, h2, h3⟩ := one h
   obtain ⟨b', c, h4, h5, h6⟩ := ih
   rw [h2] at h4
   obtain rfl := Option.some.inj h4
   exact ⟨a, c, h1, h5, .more h3 h6⟩
theorem kn_kni {l : List Com} (hn : (l.map H).Nodup) (hf : ∀ c ∈ l, ∀ a ∈ c.ps, a ∈ l.map H) {a b : Idn} (h : Kn H l a b) : ∀ i, (l.map H)[i]? = some a → ∃ j, (l.map H)[j]? = some b ∧ KnI l (l.map H) i j := by
 have one : ∀ {a b : Idn}, Par H l a b → ∀ i, (l.map H)[i]? = some a → ∃ j, (l.map H)[j]? = some b ∧ ParI l (l.map H) i j := by
   rintro a b ⟨c, hc, rfl, hb⟩ i hi
   cases hq : idx (l.map H) b with
   | none => exact absurd (hf c hc b hb) (idx_none.1 hq)
   | some p =>
     refine ⟨p, (idx_some hq).1, c, b, ?_, hb, hq⟩
     rw [List.getElem?_map] at hi
     cases hd : l[i]? with
     | none => rw [hd] at hi; cases hi
     | some d =>
       rw [hd] at hi
       rw [same_of hn (List.mem_of_getElem? hd) hc (Option.some.inj hi)]
 induction h with
 | one h => intro i hi; obtain ⟨j, h1, h2⟩ := one h i hi; exact ⟨j, h1, .one h2⟩
 | more h _ ih =>
   intro i hi
   obtain ⟨p, h1, h2⟩ := one h i hi
   obtain ⟨j, h3, h4⟩ := ih p h1
   exact ⟨j, h3, .more h2 h4⟩
theorem kni_iff {l : List Com} (hn : (l.map H).Nodup) (hf : ∀ c ∈ l, ∀ a ∈ c.ps, a ∈ l.map H) {i j : Nat} {a b : Idn} (hi : (l.map H)[i]? = some a) (hj : (l.map H)[j]? = some b) : KnI l (l.map H) i j ↔ Kn H l a b := by
 constructor
 · intro h
   obtain ⟨a', b', h1, h2, h3⟩ := kni_kn h
   rw [hi] at h1
   rw [hj] at h2
   rw [Option.some.inj h1, Option.some.inj h2]
   exact h3
 · intro h
   obtain ⟨j', h1, h2⟩ := kn_kni hn hf h i hi
   have e := idx_of hn h1
   rw [idx_of hn hj] at e
   rw [Option.some.inj e]
   exact h2
def gI (l : List Com) (all : List Idn) (a : Idn) : Int := (((idx all a).bind fun p => l[p]?).map (·.gen)).getD 0
theorem gI_of {l : List Com} (hn : (l.map H).Nodup) {a : Idn} (ha : a ∈ l.map H) : gI l (l.map H) a = gAt H l a := by
 obtain ⟨c, hc, rfl⟩ := List.mem_map.1 ha
 obtain ⟨i, hi⟩ := List.mem_iff_getElem?.1 hc
 unfold gI
 rw [idx_of hn (i := i) (by rw [List.getElem?_map, hi]; rfl), gAt_of hn hc]
 simp [hi]
structure OneI (l : List Com) (all : List Idn) (c : Com) : Prop where
 found : ∀ a ∈ c.ps, a ∈ all
 apart : ∀ a ∈ c.ps, ∀ b ∈ c.ps, ∀ p q, idx all a = some p → idx all b = some q → ¬ KnI l all p q
 gen : c.gen = 1 + most (c.ps.map (gI l all))
structure FineI (l : List Com) (all : List Idn) (i : Nat) (c : Com) : Prop where
 merge : isM c = false
 one : OneI l all c
 first : ∀ a, all[i]? = some a → idx all a = some i
 ahead : ∀ j d, j < i → l[j]? = some d → c.node = d.node → c.seq ≠ d.seq ∧ (d.seq < c.seq → KnI l all i j) ∧ (c.seq < d.seq → KnI l all j i)
theorem closed_of {l : List Com} (hm : ∀ c ∈ l, mayK c = true) (h : ∀ i c, l[i]? = some c → FineI l (l.map H) i c) : Closed H l := by
 have hn : (l.map H).Nodup := by
   rw [List.nodup_iff_pairwise_ne, List.pairwise_iff_getElem]
   intro i j hi hj hij e
   have hjl : j < l.length := by rwa [List.length_map] at hj
   have h1 := (h j _ (List.getElem?_eq_getElem hjl)).first ((l.map H)[j]) (List.getElem?_eq_getElem hj)
   exact (idx_some h1).2 i hij (by rw [List.getElem?_eq_getElem hi, e])
 have hf : ∀ c ∈ l, ∀ a ∈ c.ps, a ∈ l.map H := fun c hc => by
   obtain ⟨i, hi⟩ := List.mem_iff_getElem?.1 hc
   exact (h i c hi).one.found
 have at_ : ∀ {i : Nat} {c : Com}, l[i]? = some c → (l.map H)[i]? = some (H c) := fun hi => by rw [List.getElem?_map, hi]; rfl
 refine ⟨hm, fun c hc => ?_, hn, hf, fun c hc => ?_, fun c hc a ha b hb k => ?_, fun c hc d hd hne hnode => ?_⟩
 · obtain ⟨i, hi⟩ := List.mem_iff_getElem?.1 hc
   exact (h i c hi).merge
 · obtain ⟨i, hi⟩ := List.mem_iff_getElem?.1 hc
   rw [(h i c hi).one.gen]
   congr 2
   exact List.map_congr_left fun a ha => gI_of hn (hf c hc a ha)
 · obtain ⟨i, hi⟩ := List.mem_iff_getElem?.1 hc
   obtain ⟨p, hp⟩ := List.mem_iff_getElem?.1 (hf c hc a ha)
   obtain ⟨q, hq⟩ := List.mem_iff_getElem?.1 (hf c hc b hb)
   exact (h i c hi).one.apart a ha b hb p q (idx_of hn hp) (idx_of hn hq) ((kni_iff hn hf hp hq).2 k)
 · obtain ⟨i, hi⟩ := List.mem_iff_getElem?.1 hc
   obtain ⟨j, hj⟩ := List.mem_iff_getElem?.1 hd
   have hij : i ≠ j := by
     rintro rfl
     rw [hi] at hj
     exact hne (Option.some.inj hj)
   rcases Nat.lt_or_ge j i with hlt | hge
   · obtain ⟨k1, k2, _⟩ := (h i c hi).ahead j d hlt hj hnode
     exact ⟨k1, fun hs => (kni_iff hn hf (at_ hi) (at_ hj)).1 (k2 hs)⟩
   · obtain ⟨k1, _, k3⟩ := (h j d hj).ahead i c (by omega) hi hnode.symm
     exact ⟨fun e => k1 e.symm, fun hs => (kni_iff hn hf (at_ hi) (at_ hj)).1 (k3 hs)⟩
theorem fine_of {l : List Com} (C : Closed H l) {i : Nat} {c : Com} (hi : l[i]? = some c) : FineI l (l.map H) i c := by
 have hc := List.mem_of_getElem? hi
 have at_ : ∀ {i : Nat} {c : Com}, l[i]? = some c → (l.map H)[i]? = some (H c) := fun hi => by rw [List.getElem?_map, hi]; rfl
 refine ⟨C.merge c hc, ⟨C.found c hc, fun a ha b hb p q hp hq k => ?_, ?_⟩, fun a ha => idx_of C.nodup ha, fun j d hji hj hnode => ?_⟩
 · exact C.apart c hc a ha b hb ((kni_iff C.nodup C.found (idx_some hp).1 (idx_some hq).1).1 k)
 · rw [C.gen c hc]
   congr 2
   exact List.map_congr_left fun a ha => (gI_of C.nodup (C.found c hc a ha)).symm
 · have hd := List.mem_of_getElem? hj
   have hne : c ≠ d := by
     rintro rfl
     have e1 := idx_of C.nodup (at_ hi)
     have e2 := idx_of C.nodup (at_ hj)
     rw [e1] at e2
     have := Option.some.inj e2
     omega
   obtain ⟨k1, k2⟩ := C.node c hc d hd hne hnode
   obtain ⟨_, k4⟩ := C.node d hd c hc (fun e => hne e.symm) hnode.symm
   exact ⟨k1, fun hs => (kni_iff C.nodup C.found (at_ hi) (at_ hj)).2 (k2 hs), fun hs => (kni_iff C.nodup C.found (at_ hj) (at_ hi)).2 (k4 hs)⟩
theorem closed_iff {l : List Com} (hm : ∀ c ∈ l, mayK c = true) : Closed H l ↔ ∀ i c, l[i]? = some c → FineI l (l.map H) i c :=
 ⟨fun C _ _ hi => fine_of C hi, closed_of hm⟩
end
end Go.Proofs.YtgoapaanmcmlmaaGreatDoor.DgN
