/- Plain facts on what commits know by their places in a list, and on the order in which it is found out. No condition. -/
import Derived.Test.YtechkdhehipliaaDoorCmAJ2
namespace Go.Proofs.YtechkdhehipliaaDoor.DgN
set_option maxRecDepth 100000
open IdM CmM DgM
open Classical

section
variable {H : Com → Idn}
/-- Where an id stands first. -/
def idx (all : List Idn) (a : Idn) : Option Nat := all.findIdx? fun x => decide (x = a)
def atI (all : List Idn) (a : Idn) : Int := match idx all a with
  | some p => (p : Int)
  | none => -1
theorem idx_some {all : List Idn} {a : Idn} {p : Nat} (h : idx all a = some p) : all[p]? = some a ∧ ∀ j, j < p → all[j]? ≠ some a := by
  unfold idx at h
  rw [List.findIdx?_eq_some_iff_getElem] at h
  obtain ⟨h1, h2, h3⟩ := h
  refine ⟨by rw [List.getElem?_eq_getElem h1, of_decide_eq_true h2], fun j hj e => ?_⟩
  have hjl : j < all.length := by omega
  rw [List.getElem?_eq_getElem hjl] at e
  have := h3 j hj
  simp [Option.some.inj e] at this
theorem idx_lt {all : List Idn} {a : Idn} {p : Nat} (h : idx all a = some p) : p < all.length := (List.getElem?_eq_some_iff.1 (idx_some h).1).1
theorem idx_none {all : List Idn} {a : Idn} : idx all a = none ↔ a ∉ all := by
  unfold idx
  rw [List.findIdx?_eq_none_iff]
  constructor
  · intro h ha
    have := h a ha
    simp at this
  · intro h x hx
    simp only [decide_eq_false_iff_not]
    rintro rfl
    exact h hx
theorem idx_of {all : List Idn} (h : all.Nodup) {i : Nat} {a : Idn} (hi : all[i]? = some a) : idx all a = some i := by
  cases hq : idx all a with
  | none => exact absurd (List.mem_of_getElem? hi) (idx_none.1 hq)
  | some p =>
    obtain ⟨h1, _⟩ := idx_some hq
    obtain ⟨hil, e1⟩ := List.getElem?_eq_some_iff.1 hi
    obtain ⟨hpl, e2⟩ := List.getElem?_eq_some_iff.1 h1
    rw [(List.getElem_inj h).1 (e2.trans e1.symm)]
/-- By places: one has the other as a parent; one knows the other. -/
def ParI (l : List Com) (all : List Idn) (i p : Nat) : Prop := ∃ c a, l[i]? = some c ∧ a ∈ c.ps ∧ idx all a = some p
inductive KnI (l : List Com) (all : List Idn) : Nat → Nat → Prop
  | one {i p : Nat} : ParI l all i p → KnI l all i p
  | more {i p j : Nat} : ParI l all i p → KnI l all p j → KnI l all i j
theorem kni_lt {l : List Com} {all : List Idn} {i j : Nat} (h : KnI l all i j) : i < l.length ∧ j < all.length := by
  induction h with
  | one h => obtain ⟨c, a, h1, _, h3⟩ := h; exact ⟨(List.getElem?_eq_some_iff.1 h1).1, idx_lt h3⟩
  | more h _ ih => obtain ⟨c, a, h1, _, h3⟩ := h; exact ⟨(List.getElem?_eq_some_iff.1 h1).1, ih.2⟩
/-- With no id twice, by ids and by places is the same. -/
theorem kni_kn {l : List Com} {i j : Nat} (h : KnI l (l.map H) i j) : ∃ a b, (l.map H)[i]? = some a ∧ (l.map H)[j]? = some b ∧ Kn H l a b := by
  have one : ∀ {i p : Nat}, ParI l (l.map H) i p → ∃ a b, (l.map H)[i]? = some a ∧ (l.map H)[p]? = some b ∧ Par H l a b := by
    rintro i p ⟨c, b, h1, h2, h3⟩
    exact ⟨H c, b, by rw [List.getElem?_map, h1]; rfl, (idx_some h3).1, c, List.mem_of_getElem? h1, rfl, h2⟩
  induction h with
  | one h => obtain ⟨a, b, h1, h2, h3⟩ := one h; exact ⟨a, b, h1, h2, .one h3⟩
  | more h _ ih =>
    obtain ⟨a, b, h1, h2, h3⟩ := one h
    obtain ⟨b', c, h4, h5, h6⟩ := ih
    rw [h2] at h4
    obtain rfl := Option.some.inj h4
    exact ⟨a, c, h1, h5, .more h3 h6⟩
theorem kn_kni {l : List Com} (hn : (l.map H).Nodup) (hf : ∀ c ∈ l, ∀ a ∈ c.ps, a ∈ l.map H) {a b : Idn} (h : Kn H l a b) : ∀ i, (l.map H)[i]? = some a → ∃ j, (l.map H)[j]? = some b ∧ KnI l (l.map H) i j := by
  have one : ∀ {a b : Idn}, Par H l a b → ∀ i, (l.map H)[i]? = some a → ∃ j, (l.map H)[j]? = some b ∧ ParI l (l.map H) i j := by
    rintro a b ⟨c, hc, rfl, hb⟩ i hi
    cases hq : idx (l.map H) b with
    | none => exact absurd (hf c hc b hb) (idx_none.1 hq)
    | some p =>
      refine ⟨p, (idx_some hq).1, c, b, ?_, hb, hq⟩
      rw [List.getElem?_map] at hi
      cases hd : l[i]? with
      | none => rw [hd] at hi; cases hi
      | some d =>
        rw [hd] at hi
        rw [same_of hn (List.mem_of_getElem? hd) hc (Option.some.inj hi)]
  induction h with
  | one h => intro i hi; obtain ⟨j, h1, h2⟩ := one h i hi; exact ⟨j, h1, .one h2⟩
  | more h _ ih =>
    intro i hi
    obtain ⟨p, h1, h2⟩ := one h i hi
    obtain ⟨j, h3, h4⟩ := ih p h1
    exact ⟨j, h3, .more h2 h4⟩
theorem kni_iff {l : List Com} (hn : (l.map H).Nodup) (hf : ∀ c ∈ l, ∀ a ∈ c.ps, a ∈ l.map H) {i j : Nat} {a b : Idn} (hi : (l.map H)[i]? = some a) (hj : (l.map H)[j]? = some b) : KnI l (l.map H) i j ↔ Kn H l a b := by
  constructor
  · intro h
    obtain ⟨a', b', h1, h2, h3⟩ := kni_kn h
    rw [hi] at h1
    rw [hj] at h2
    rw [Option.some.inj h1, Option.some.inj h2]
    exact h3
  · intro h
    obtain ⟨j', h1, h2⟩ := kn_kni hn hf h i hi
    have e := idx_of hn h1
    rw [idx_of hn hj] at e
    rw [Option.some.inj e]
    exact h2
/-- The generation of the commit at an id's place. -/
def gI (l : List Com) (all : List Idn) (a : Idn) : Int := (((idx all a).bind fun p => l[p]?).map (·.gen)).getD 0
theorem gI_of {l : List Com} (hn : (l.map H).Nodup) {a : Idn} (ha : a ∈ l.map H) : gI l (l.map H) a = gAt H l a := by
  obtain ⟨c, hc, rfl⟩ := List.mem_map.1 ha
  obtain ⟨i, hi⟩ := List.mem_iff_getElem?.1 hc
  unfold gI
  rw [idx_of hn (i := i) (by rw [List.getElem?_map, hi]; rfl), gAt_of hn hc]
  simp [hi]
/-- Is a commit fine, by its parents; by all that stand ahead of it? -/
structure OneI (l : List Com) (all : List Idn) (c : Com) : Prop where
  found : ∀ a ∈ c.ps, a ∈ all
  apart : ∀ a ∈ c.ps, ∀ b ∈ c.ps, ∀ p q, idx all a = some p → idx all b = some q → ¬ KnI l all p q
  gen : c.gen = 1 + most (c.ps.map (gI l all))
structure FineI (l : List Com) (all : List Idn) (i : Nat) (c : Com) : Prop where
  merge : isM c = false
  one : OneI l all c
  first : ∀ a, all[i]? = some a → idx all a = some i
  ahead : ∀ j d, j < i → l[j]? = some d → c.node = d.node → c.seq ≠ d.seq ∧ (d.seq < c.seq → KnI l all i j) ∧ (c.seq < d.seq → KnI l all j i)
theorem closed_of {l : List Com} (hm : ∀ c ∈ l, mayK c = true) (h : ∀ i c, l[i]? = some c → FineI l (l.map H) i c) : Closed H l := by
  have hn : (l.map H).Nodup := by
    rw [List.nodup_iff_pairwise_ne, List.pairwise_iff_getElem]
    intro i j hi hj hij e
    have hjl : j < l.length := by rwa [List.length_map] at hj
    have h1 := (h j _ (List.getElem?_eq_getElem hjl)).first ((l.map H)[j]) (List.getElem?_eq_getElem hj)
    exact (idx_some h1).2 i hij (by rw [List.getElem?_eq_getElem hi, e])
  have hf : ∀ c ∈ l, ∀ a ∈ c.ps, a ∈ l.map H := fun c hc => by
    obtain ⟨i, hi⟩ := List.mem_iff_getElem?.1 hc
    exact (h i c hi).one.found
  have at_ : ∀ {i : Nat} {c : Com}, l[i]? = some c → (l.map H)[i]? = some (H c) := fun hi => by rw [List.getElem?_map, hi]; rfl
  refine ⟨hm, fun c hc => ?_, hn, hf, fun c hc => ?_, fun c hc a ha b hb k => ?_, fun c hc d hd hne hnode => ?_⟩
  · obtain ⟨i, hi⟩ := List.mem_iff_getElem?.1 hc
    exact (h i c hi).merge
  · obtain ⟨i, hi⟩ := List.mem_iff_getElem?.1 hc
    rw [(h i c hi).one.gen]
    congr 2
    exact List.map_congr_left fun a ha => gI_of hn (hf c hc a ha)
  · obtain ⟨i, hi⟩ := List.mem_iff_getElem?.1 hc
    obtain ⟨p, hp⟩ := List.mem_iff_getElem?.1 (hf c hc a ha)
    obtain ⟨q, hq⟩ := List.mem_iff_getElem?.1 (hf c hc b hb)
    exact (h i c hi).one.apart a ha b hb p q (idx_of hn hp) (idx_of hn hq) ((kni_iff hn hf hp hq).2 k)
  · obtain ⟨i, hi⟩ := List.mem_iff_getElem?.1 hc
    obtain ⟨j, hj⟩ := List.mem_iff_getElem?.1 hd
    have hij : i ≠ j := by
      rintro rfl
      rw [hi] at hj
      exact hne (Option.some.inj hj)
    rcases Nat.lt_or_ge j i with hlt | hge
    · obtain ⟨k1, k2, _⟩ := (h i c hi).ahead j d hlt hj hnode
      exact ⟨k1, fun hs => (kni_iff hn hf (at_ hi) (at_ hj)).1 (k2 hs)⟩
    · obtain ⟨k1, _, k3⟩ := (h j d hj).ahead i c (by omega) hi hnode.symm
      exact ⟨fun e => k1 e.symm, fun hs => (kni_iff hn hf (at_ hi) (at_ hj)).1 (k3 hs)⟩
theorem fine_of {l : List Com} (C : Closed H l) {i : Nat} {c : Com} (hi : l[i]? = some c) : FineI l (l.map H) i c := by
  have hc := List.mem_of_getElem? hi
  have at_ : ∀ {i : Nat} {c : Com}, l[i]? = some c → (l.map H)[i]? = some (H c) := fun hi => by rw [List.getElem?_map, hi]; rfl
  refine ⟨C.merge c hc, ⟨C.found c hc, fun a ha b hb p q hp hq k => ?_, ?_⟩, fun a ha => idx_of C.nodup ha, fun j d hji hj hnode => ?_⟩
  · exact C.apart c hc a ha b hb ((kni_iff C.nodup C.found (idx_some hp).1 (idx_some hq).1).1 k)
  · rw [C.gen c hc]
    congr 2
    exact List.map_congr_left fun a ha => (gI_of C.nodup (C.found c hc a ha)).symm
  · have hd := List.mem_of_getElem? hj
    have hne : c ≠ d := by
      rintro rfl
      have e1 := idx_of C.nodup (at_ hi)
      have e2 := idx_of C.nodup (at_ hj)
      rw [e1] at e2
      have := Option.some.inj e2
      omega
    obtain ⟨k1, k2⟩ := C.node c hc d hd hne hnode
    obtain ⟨_, k4⟩ := C.node d hd c hc (fun e => hne e.symm) hnode.symm
    exact ⟨k1, fun hs => (kni_iff C.nodup C.found (at_ hi) (at_ hj)).2 (k2 hs), fun hs => (kni_iff C.nodup C.found (at_ hj) (at_ hi)).2 (k4 hs)⟩
theorem closed_iff {l : List Com} (hm : ∀ c ∈ l, mayK c = true) : Closed H l ↔ ∀ i c, l[i]? = some c → FineI l (l.map H) i c :=
  ⟨fun C _ _ hi => fine_of C hi, closed_of hm⟩
/-- What is found out by and by: a table of who knows whom holds it all if it holds parents, and what these know. -/
theorem table_all {l : List Com} {all : List Idn} {K : Nat → Nat → Bool} (h1 : ∀ i p, ParI l all i p → K i p = true) (h2 : ∀ i p j, ParI l all i p → K p j = true → K i j = true) {i j : Nat} (h : KnI l all i j) : K i j = true := by
  induction h with
  | one h => exact h1 _ _ h
  | more h _ ih => exact h2 _ _ _ h ih
end
end Go.Proofs.YtechkdhehipliaaDoor.DgN
