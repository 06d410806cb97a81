/- Plain facts on pairs: their order, which may be, one more, without an element, merged. No condition. -/
import Derived.Test.YtnjdkjkihbgkaaaGreatKeyMJ4
namespace Go.Proofs.YtnjdkjkihbgkaaaGreat.PairM
set_option maxRecDepth 100000
open Go Byt OpsM Rise

/-- A pair: what a key has, by an event. -/
structure Pr where
  key : ByteArray
  elem : ByteArray
  node : Int
  seq : Int
theorem Pr_ext {x y : Pr} (h1 : x.key = y.key) (h2 : x.elem = y.elem) (h3 : x.node = y.node) (h4 : x.seq = y.seq) : x = y := by
  cases x; cases y
  simp_all
instance : DecidableEq Pr := fun x y => decidable_of_iff (x.key = y.key ∧ x.elem = y.elem ∧ x.node = y.node ∧ x.seq = y.seq) ⟨fun h => Pr_ext h.1 h.2.1 h.2.2.1 h.2.2.2, fun e => by rw [e]; exact ⟨rfl, rfl, rfl, rfl⟩⟩

/-- One order behind another one. -/
structure Pre {α : Type} (lt : α → α → Bool) (eq : α → α → Prop) : Prop where
  irrefl : ∀ a, lt a a = false
  trans : ∀ a b c, lt a b = true → lt b c = true → lt a c = true
  tri : ∀ a b, lt a b = false → lt b a = false → eq a b
theorem lex {α κ : Type} [DecidableEq κ] (f : α → κ) {lt : κ → κ → Bool} (H : Strict lt) {r : α → α → Bool} {eq : α → α → Prop} (R : Pre r eq) : Pre (fun a b => if f a = f b then r a b else lt (f a) (f b)) (fun a b => f a = f b ∧ eq a b) := by
  constructor
  · intro a
    simp [R.irrefl]
  · intro a b c h1 h2
    by_cases e1 : f a = f b
    · rw [if_pos e1] at h1
      by_cases e2 : f b = f c
      · rw [if_pos e2] at h2
        rw [if_pos (e1.trans e2)]
        exact R.trans a b c h1 h2
      · rw [if_neg e2] at h2
        rw [if_neg (by rw [e1]; exact e2), e1]
        exact h2
    · rw [if_neg e1] at h1
      by_cases e2 : f b = f c
      · rw [if_neg (by rw [← e2]; exact e1), ← e2]
        exact h1
      · rw [if_neg e2] at h2
        have h3 := H.trans _ _ _ h1 h2
        rw [if_neg (H.ne h3)]
        exact h3
  · intro a b h1 h2
    by_cases e1 : f a = f b
    · rw [if_pos e1] at h1
      rw [if_pos e1.symm] at h2
      exact ⟨e1, R.tri a b h1 h2⟩
    · rw [if_neg e1] at h1
      rw [if_neg (fun e => e1 e.symm)] at h2
      exact absurd (H.tri _ _ h1 h2) e1
def ltI (a b : Int) : Bool := decide (a < b)
theorem strictI : Strict ltI := by
  constructor
  · intro a; simp [ltI]
  · intro a b c h1 h2
    simp only [ltI, decide_eq_true_eq] at *
    omega
  · intro a b h1 h2
    simp only [ltI, decide_eq_false_iff_not] at *
    omega
theorem pre_last {α κ : Type} (f : α → κ) {lt : κ → κ → Bool} (H : Strict lt) : Pre (fun a b => lt (f a) (f b)) (fun a b => f a = f b) :=
  ⟨fun _ => H.irrefl _, fun _ _ _ => H.trans _ _ _, fun _ _ => H.tri _ _⟩
/-- Which one of two is the lesser one. -/
def lessP (a b : Pr) : Bool := if a.key = b.key then if a.elem = b.elem then if a.node = b.node then ltI a.seq b.seq else ltI a.node b.node else ltS a.elem b.elem else ltS a.key b.key
theorem strictP : Strict lessP := by
  have H := lex Pr.key strictS (lex Pr.elem strictS (lex Pr.node strictI (pre_last Pr.seq strictI)))
  exact ⟨H.irrefl, H.trans, fun a b h1 h2 => by
    obtain ⟨e1, e2, e3, e4⟩ := H.tri a b h1 h2
    exact Pr_ext e1 e2 e3 e4⟩

def oneP (p : Pr) : Bool := keyL (bytesL p.key) && (keyL (bytesL p.elem) && (decide (0 ≤ p.node) && (decide (p.node < 8) && decide (1 ≤ p.seq))))
abbrev RisP (l : List Pr) : Prop := Rises id lessP l
def mayP (l : List Pr) : Bool := l.all oneP && risesB id lessP l
theorem mayP_iff {l : List Pr} : mayP l = true ↔ (∀ p ∈ l, oneP p = true) ∧ RisP l := by
  unfold mayP
  rw [Bool.and_eq_true, List.all_eq_true, risesB_iff strictP]
theorem may_nil : mayP [] = true := rfl
theorem may_one {p : Pr} : mayP [p] = oneP p := by
  unfold mayP
  simp [risesB]
/-- Pairs that may be are told by which they are. -/
theorem det {l m : List Pr} (hl : RisP l) (hm : RisP m) (h : ∀ x, x ∈ l ↔ x ∈ m) : l = m := Rises.ext strictP hl hm h

/-- One more, once. -/
def putP (l : List Pr) (p : Pr) : List Pr := if p ∈ l then l else l.filter (fun x => lessP x p) ++ p :: l.filter (fun x => lessP p x)
theorem less_or {x p : Pr} (h : x ≠ p) : lessP x p = true ∨ lessP p x = true := by
  cases h1 : lessP x p with
  | true => exact .inl rfl
  | false =>
    cases h2 : lessP p x with
    | true => exact .inr rfl
    | false => exact absurd (strictP.tri _ _ h1 h2) h
theorem put_mem {l : List Pr} {p : Pr} (x : Pr) : x ∈ putP l p ↔ x = p ∨ x ∈ l := by
  unfold putP
  split
  · rename_i h
    exact ⟨.inr, fun e => e.elim (fun e => by rw [e]; exact h) id⟩
  · rename_i h
    simp only [List.mem_append, List.mem_filter, List.mem_cons]
    constructor
    · rintro (⟨h1, _⟩ | h1 | ⟨h1, _⟩)
      · exact .inr h1
      · exact .inl h1
      · exact .inr h1
    · rintro (h1 | h1)
      · exact .inr (.inl h1)
      · rcases less_or (x := x) (p := p) (fun e => h (e ▸ h1)) with h2 | h2
        · exact .inl ⟨h1, h2⟩
        · exact .inr (.inr ⟨h1, h2⟩)
theorem put_rises {l : List Pr} {p : Pr} (h : RisP l) : RisP (putP l p) := by
  unfold putP
  split
  · exact h
  · unfold RisP Rises at *
    rw [List.pairwise_append]
    refine ⟨h.filter _, List.pairwise_cons.2 ⟨fun x hx => (List.mem_filter.1 hx).2, h.filter _⟩, fun x hx y hy => ?_⟩
    have hx2 := (List.mem_filter.1 hx).2
    rcases List.mem_cons.1 hy with rfl | hy
    · exact hx2
    · exact strictP.trans _ _ _ hx2 (List.mem_filter.1 hy).2
theorem put_may {l : List Pr} {p : Pr} (h : mayP l = true) (hp : oneP p = true) : mayP (putP l p) = true := by
  obtain ⟨h1, h2⟩ := mayP_iff.1 h
  refine mayP_iff.2 ⟨fun x hx => ?_, put_rises h2⟩
  rcases (put_mem x).1 hx with rfl | hx
  · exact hp
  · exact h1 x hx
theorem put_length (l : List Pr) (p : Pr) : (putP l p).length ≤ l.length + 1 := by
  unfold putP
  split
  · omega
  · rw [List.length_append, List.length_cons]
    have key : ∀ m : List Pr, (m.filter fun x => lessP x p).length + (m.filter fun x => lessP p x).length ≤ m.length := by
      intro m
      induction m with
      | nil => simp
      | cons x m ih =>
        rw [List.filter_cons, List.filter_cons, List.length_cons]
        cases h1 : lessP x p with
        | true => simp [strictP.asymm h1]; omega
        | false =>
          cases h2 : lessP p x with
          | true => simp; omega
          | false => simp; omega
    have := key l
    omega
/-- A row in which all behind a place are greater than one, and none ahead of it is. -/
theorem put_at {l : List Pr} {p : Pr} {k : Nat} (h : RisP l) (hp : p ∉ l) (hk : k ≤ l.length) (h1 : ∀ (i : Nat) (x : Pr), k ≤ i → l[i]? = some x → lessP p x = true) (h2 : ∀ x, 0 < k → l[k - 1]? = some x → lessP p x = false) : putP l p = l.take k ++ p :: l.drop k := by
  refine det (put_rises h) ?_ (fun x => ?_)
  · unfold RisP Rises at *
    have ht : (l.take k).Pairwise fun x y => lessP (id x) (id y) = true := h.sublist (List.take_sublist _ _)
    have hd : (l.drop k).Pairwise fun x y => lessP (id x) (id y) = true := h.sublist (List.drop_sublist _ _)
    have hgt : ∀ y ∈ l.drop k, lessP p y = true := by
      intro y hy
      obtain ⟨i, hi, rfl⟩ := List.getElem_of_mem hy
      rw [List.getElem_drop]
      exact h1 (k + i) _ (by omega) (List.getElem?_eq_getElem _)
    have hlt : ∀ x ∈ l.take k, lessP x p = true := by
      intro x hx
      have hpos : 0 < k := by
        rcases Nat.eq_zero_or_pos k with e | e
        · rw [e] at hx; simp at hx
        · exact e
      have hl : k - 1 < l.length := by omega
      have q := h2 _ hpos (List.getElem?_eq_getElem hl)
      have hlast : lessP l[k - 1] p = true := by
        rcases less_or (x := l[k - 1]) (p := p) (fun e => hp (by rw [← e]; exact List.getElem_mem _)) with h | h
        · exact h
        · rw [q] at h; cases h
      obtain ⟨i, hi, rfl⟩ := List.getElem_of_mem hx
      rw [List.getElem_take]
      rw [List.length_take] at hi
      by_cases e : i = k - 1
      · subst e
        exact hlast
      · exact strictP.trans _ _ _ (List.pairwise_iff_getElem.1 h i (k - 1) (by omega) hl (by omega)) hlast
    rw [List.pairwise_append]
    refine ⟨ht, List.pairwise_cons.2 ⟨hgt, hd⟩, fun x hx y hy => ?_⟩
    rcases List.mem_cons.1 hy with rfl | hy
    · exact hlt x hx
    · exact strictP.trans _ _ _ (hlt x hx) (hgt y hy)
  · rw [put_mem, List.mem_append, List.mem_cons]
    constructor
    · rintro (h | h)
      · exact .inr (.inl h)
      · rw [← List.take_append_drop k l] at h
        rcases List.mem_append.1 h with h | h
        · exact .inl h
        · exact .inr (.inr h)
    · rintro (h | h | h)
      · exact .inr (List.mem_of_mem_take h)
      · exact .inl h
      · exact .inr (List.mem_of_mem_drop h)

def addP (l : List Pr) (p : Pr) : List Pr := if mayP l = true ∧ oneP p = true then putP l p else []
def offB (k e : ByteArray) (x : Pr) : Bool := decide (x.key ≠ k) || decide (x.elem ≠ e)
def delP (l : List Pr) (k e : ByteArray) : List Pr := if mayP l = true then l.filter (offB k e) else []
/-- What is merged of two that come from a third one. -/
def inM (base a b : List Pr) (x : Pr) : Prop := (x ∈ a ∧ (x ∈ b ∨ x ∉ base)) ∨ (x ∈ b ∧ x ∉ a ∧ x ∉ base)
def fromA (base b : List Pr) (x : Pr) : Bool := decide (x ∈ b) || decide (x ∉ base)
def fromB (base a : List Pr) (x : Pr) : Bool := decide (x ∉ a) && decide (x ∉ base)
def mergeP (base a b : List Pr) : List Pr := if mayP base = true ∧ mayP a = true ∧ mayP b = true then (b.filter (fromB base a)).foldl putP ((a.filter (fromA base b)).foldl putP []) else []
theorem fold_mem : ∀ (m l : List Pr) (x : Pr), x ∈ m.foldl putP l ↔ x ∈ m ∨ x ∈ l
  | [], l, x => by simp
  | p :: m, l, x => by
    rw [List.foldl_cons, fold_mem m, put_mem, List.mem_cons]
    constructor
    · rintro (h | h | h)
      · exact .inl (.inr h)
      · exact .inl (.inl h)
      · exact .inr h
    · rintro ((h | h) | h)
      · exact .inr (.inl h)
      · exact .inl h
      · exact .inr (.inr h)
theorem fold_rises : ∀ (m l : List Pr), RisP l → RisP (m.foldl putP l)
  | [], _, h => h
  | _ :: m, _, h => fold_rises m _ (put_rises h)
theorem fold_length : ∀ (m l : List Pr), (m.foldl putP l).length ≤ l.length + m.length
  | [], l => by simp
  | p :: m, l => by
    have h1 := fold_length m (putP l p)
    have h2 := put_length l p
    rw [List.foldl_cons, List.length_cons]
    omega
theorem merge_no {base a b : List Pr} (h : mayP base = false ∨ mayP a = false ∨ mayP b = false) : mergeP base a b = [] := by
  unfold mergeP
  rw [if_neg]
  rintro ⟨h0, h1, h2⟩
  rcases h with h | h | h
  · rw [h] at h0; cases h0
  · rw [h] at h1; cases h1
  · rw [h] at h2; cases h2
section
variable {base a b : List Pr} (h0 : mayP base = true) (h1 : mayP a = true) (h2 : mayP b = true)
include h0 h1 h2
theorem merge_mem (x : Pr) : x ∈ mergeP base a b ↔ inM base a b x := by
  unfold mergeP inM
  rw [if_pos ⟨h0, h1, h2⟩, fold_mem, fold_mem]
  simp only [List.mem_filter, fromA, fromB, Bool.or_eq_true, Bool.and_eq_true, decide_eq_true_eq, List.not_mem_nil, or_false]
  constructor
  · rintro (h | h)
    · exact .inr h
    · exact .inl h
  · rintro (h | h)
    · exact .inr h
    · exact .inl h
theorem merge_may : mayP (mergeP base a b) = true := by
  refine mayP_iff.2 ⟨fun x hx => ?_, ?_⟩
  · rcases (merge_mem h0 h1 h2 x).1 hx with ⟨h, _⟩ | ⟨h, _⟩
    · exact (mayP_iff.1 h1).1 x h
    · exact (mayP_iff.1 h2).1 x h
  · unfold mergeP
    rw [if_pos ⟨h0, h1, h2⟩]
    exact fold_rises _ _ (fold_rises _ _ List.Pairwise.nil)
/-- What else tells what is merged. -/
theorem merge_is {m : List Pr} (hr : RisP m) (h : ∀ x, x ∈ m ↔ inM base a b x) : m = mergeP base a b :=
  det hr (mayP_iff.1 (merge_may h0 h1 h2)).2 (fun x => by rw [h, merge_mem h0 h1 h2])
theorem merge_length : (mergeP base a b).length ≤ a.length + b.length := by
  unfold mergeP
  rw [if_pos ⟨h0, h1, h2⟩]
  have q1 := fold_length (a.filter (fromA base b)) []
  have q2 := fold_length (b.filter (fromB base a)) ((a.filter (fromA base b)).foldl putP [])
  have q3 := List.length_filter_le (fromA base b) a
  have q4 := List.length_filter_le (fromB base a) b
  simp only [List.length_nil, Nat.zero_add] at q1
  omega
theorem merge_turn : mergeP base a b = mergeP base b a :=
  merge_is h0 h2 h1 (mayP_iff.1 (merge_may h0 h1 h2)).2 (fun x => by
    rw [merge_mem h0 h1 h2]
    unfold inM
    by_cases ha : x ∈ a <;> by_cases hb : x ∈ b <;> by_cases ho : x ∈ base <;> simp [ha, hb, ho])
end
theorem merge_one {base b : List Pr} (h0 : mayP base = true) (h2 : mayP b = true) : mergeP base base b = b :=
  (merge_is h0 h0 h2 (mayP_iff.1 h2).2 (fun x => by
    unfold inM
    by_cases hb : x ∈ b <;> by_cases ho : x ∈ base <;> simp [hb, ho])).symm
theorem merge_self {base a : List Pr} (h0 : mayP base = true) (h1 : mayP a = true) : mergeP base a a = a :=
  (merge_is h0 h1 h1 (mayP_iff.1 h1).2 (fun x => by
    unfold inM
    by_cases ha : x ∈ a <;> by_cases ho : x ∈ base <;> simp [ha, ho])).symm
theorem merge_three {base a b c : List Pr} (h0 : mayP base = true) (h1 : mayP a = true) (h2 : mayP b = true) (h3 : mayP c = true) : mergeP base (mergeP base a b) c = mergeP base a (mergeP base b c) :=
  merge_is h0 h1 (merge_may h0 h2 h3) (mayP_iff.1 (merge_may h0 (merge_may h0 h1 h2) h3)).2 (fun x => by
    rw [merge_mem h0 (merge_may h0 h1 h2) h3]
    unfold inM
    rw [merge_mem h0 h1 h2, merge_mem h0 h2 h3]
    unfold inM
    by_cases ha : x ∈ a <;> by_cases hb : x ∈ b <;> by_cases hc : x ∈ c <;> by_cases ho : x ∈ base <;> simp [ha, hb, hc, ho])
theorem add_is {l : List Pr} {p : Pr} (h : mayP l = true) (hp : oneP p = true) : addP l p = putP l p := if_pos ⟨h, hp⟩
theorem add_no {l : List Pr} {p : Pr} (h : mayP l = false ∨ oneP p = false) : addP l p = [] := by
  unfold addP
  rw [if_neg]
  rintro ⟨h1, h2⟩
  rcases h with h | h
  · rw [h] at h1; cases h1
  · rw [h] at h2; cases h2
theorem add_may (l : List Pr) (p : Pr) : mayP (addP l p) = true := by
  unfold addP
  split
  · rename_i h
    exact put_may h.1 h.2
  · rfl
theorem off_iff {k e : ByteArray} {x : Pr} : offB k e x = true ↔ ¬ (x.key = k ∧ x.elem = e) := by
  unfold offB
  by_cases h1 : x.key = k <;> by_cases h2 : x.elem = e <;> simp [h1, h2]
theorem del_may (l : List Pr) (k e : ByteArray) : mayP (delP l k e) = true := by
  unfold delP
  split
  · rename_i h
    obtain ⟨h1, h2⟩ := mayP_iff.1 h
    exact mayP_iff.2 ⟨fun x hx => h1 x (List.mem_filter.1 hx).1, h2.filter _⟩
  · rfl
theorem del_mem {l : List Pr} {k e : ByteArray} (h : mayP l = true) (x : Pr) : x ∈ delP l k e ↔ x ∈ l ∧ ¬ (x.key = k ∧ x.elem = e) := by
  unfold delP
  rw [if_pos h, List.mem_filter, off_iff]
theorem del_length (l : List Pr) (k e : ByteArray) : (delP l k e).length ≤ l.length := by
  unfold delP
  split
  · exact List.length_filter_le _ _
  · simp
theorem add_length (l : List Pr) (p : Pr) : (addP l p).length ≤ l.length + 1 := by
  unfold addP
  split
  · exact put_length l p
  · simp
theorem add_mem {l : List Pr} {p : Pr} (h : mayP l = true) (hp : oneP p = true) (x : Pr) : x ∈ addP l p ↔ x = p ∨ x ∈ l := by rw [add_is h hp, put_mem]
theorem ris {l : List Pr} (h : mayP l = true) : RisP l := (mayP_iff.1 h).2
theorem add_twice {l : List Pr} {p : Pr} (h : mayP l = true) (hp : oneP p = true) : addP (addP l p) p = addP l p :=
  det (ris (add_may _ _)) (ris (add_may _ _)) (fun x => by
    rw [add_mem (add_may _ _) hp, add_mem h hp]
    constructor
    · rintro (h | h)
      · exact .inl h
      · exact h
    · exact .inr)
theorem add_turn {l : List Pr} {p q : Pr} (h : mayP l = true) (hp : oneP p = true) (hq : oneP q = true) : addP (addP l p) q = addP (addP l q) p :=
  det (ris (add_may _ _)) (ris (add_may _ _)) (fun x => by
    rw [add_mem (add_may _ _) hq, add_mem h hp, add_mem (add_may _ _) hp, add_mem h hq]
    constructor <;> (rintro (h | h | h) <;> simp [h]))
theorem del_twice {l : List Pr} {k e : ByteArray} (h : mayP l = true) : delP (delP l k e) k e = delP l k e :=
  det (ris (del_may _ _ _)) (ris (del_may _ _ _)) (fun x => by
    rw [del_mem (del_may _ _ _), del_mem h]
    exact ⟨fun h => h.1, fun h => ⟨h, h.2⟩⟩)
theorem del_add {l : List Pr} {p : Pr} {k e : ByteArray} (h : mayP l = true) (hp : oneP p = true) (hn : ¬ (p.key = k ∧ p.elem = e)) : delP (addP l p) k e = addP (delP l k e) p :=
  det (ris (del_may _ _ _)) (ris (add_may _ _)) (fun x => by
    rw [del_mem (add_may _ _), add_mem h hp, add_mem (del_may _ _ _) hp, del_mem h]
    constructor
    · rintro ⟨h | h, h2⟩
      · exact .inl h
      · exact .inr ⟨h, h2⟩
    · rintro (h | ⟨h, h2⟩)
      · exact ⟨.inl h, by rw [h]; exact hn⟩
      · exact ⟨.inr h, h2⟩)
theorem sides (A B C : Prop) : ((A ∨ B) ∧ ((B ∧ ¬C) ∨ ¬B)) ∨ ((B ∧ ¬C) ∧ ¬(A ∨ B) ∧ ¬B) ↔ (A ∧ ¬B) ∨ (B ∧ ¬C) := by
  by_cases hA : A <;> by_cases hB : B <;> by_cases hC : C <;> simp [hA, hB, hC]
/-- What one side adds, and the other one takes away. -/
theorem wins {base : List Pr} {p : Pr} {k e : ByteArray} (h0 : mayP base = true) (hp : oneP p = true) (x : Pr) :
    x ∈ mergeP base (addP base p) (delP base k e) ↔ (x = p ∧ x ∉ base) ∨ (x ∈ base ∧ ¬ (x.key = k ∧ x.elem = e)) := by
  rw [merge_mem h0 (add_may _ _) (del_may _ _ _)]
  unfold inM
  rw [add_mem h0 hp, del_mem h0]
  exact sides _ _ _
end Go.Proofs.YtnjdkjkihbgkaaaGreat.PairM
