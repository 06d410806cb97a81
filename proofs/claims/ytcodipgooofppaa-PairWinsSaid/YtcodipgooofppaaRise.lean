/- Plain facts on lists that rise by a key, and on the order of texts. No condition. -/
import Derived.WalkKit
namespace Go.Proofs.Ytcodipgooofppaa.Rise
open Go

/-- An order in which of two that differ just one comes first. -/
structure Strict {κ : Type} (lt : κ → κ → Bool) : Prop where
  irrefl : ∀ a, lt a a = false
  trans : ∀ a b c, lt a b = true → lt b c = true → lt a c = true
  tri : ∀ a b, lt a b = false → lt b a = false → a = b
theorem Strict.asymm {κ : Type} {lt : κ → κ → Bool} (H : Strict lt) {a b : κ} (h : lt a b = true) : lt b a = false := by
  cases hb : lt b a with
  | false => rfl
  | true =>
    have := H.trans a b a h hb
    rw [H.irrefl] at this
    cases this
theorem Strict.ne {κ : Type} {lt : κ → κ → Bool} (H : Strict lt) {a b : κ} (h : lt a b = true) : a ≠ b := by
  rintro rfl
  rw [H.irrefl] at h
  cases h

/-- Texts, byte by byte. -/
theorem less_irrefl : ∀ l : List UInt8, Op.bytesLess l l = false
  | [] => rfl
  | a :: l => by simp [Op.bytesLess, less_irrefl l]
theorem less_trans : ∀ a b c : List UInt8, Op.bytesLess a b = true → Op.bytesLess b c = true → Op.bytesLess a c = true
  | _, [], c, h, _ => by cases ‹List UInt8› <;> simp [Op.bytesLess] at h
  | _, _ :: _, [], _, h => by simp [Op.bytesLess] at h
  | [], _ :: _, _ :: _, _, _ => rfl
  | x :: a, y :: b, z :: c, h, h2 => by
    simp only [Op.bytesLess, Bool.or_eq_true, Bool.and_eq_true, decide_eq_true_eq, beq_iff_eq] at h h2 ⊢
    rcases h with h | ⟨rfl, h⟩
    · rcases h2 with h2 | ⟨rfl, _⟩
      · exact .inl (UInt8.lt_trans h h2)
      · exact .inl h
    · rcases h2 with h2 | ⟨rfl, h2⟩
      · exact .inl h2
      · exact .inr ⟨rfl, less_trans a b c h h2⟩
theorem less_tri : ∀ a b : List UInt8, Op.bytesLess a b = false → Op.bytesLess b a = false → a = b
  | [], [], _, _ => rfl
  | [], _ :: _, h, _ => by simp [Op.bytesLess] at h
  | _ :: _, [], _, h => by simp [Op.bytesLess] at h
  | x :: a, y :: b, h, h2 => by
    simp only [Op.bytesLess, Bool.or_eq_false_iff, Bool.and_eq_false_iff, decide_eq_false_iff_not, beq_eq_false_iff_ne] at h h2
    obtain ⟨h1, h3⟩ := h
    obtain ⟨h4, h5⟩ := h2
    have e : x = y := by
      rw [UInt8.lt_iff_toNat_lt] at h1 h4
      apply UInt8.toNat_inj.1
      omega
    subst e
    simp only [ne_eq, not_true_eq_false, false_or] at h3 h5
    rw [less_tri a b h3 h5]
def ltS (a b : ByteArray) : Bool := Op.bytesLess a.toList b.toList
theorem toList_inj {a b : ByteArray} (h : a.toList = b.toList) : a = b := by
  rw [ByteArray.toList_eq, ByteArray.toList_eq] at h
  cases a; cases b
  congr 1
  exact Array.ext' h
theorem strictS : Strict ltS :=
  ⟨fun _ => less_irrefl _, fun _ _ _ => less_trans _ _ _, fun _ _ h1 h2 => toList_inj (less_tri _ _ h1 h2)⟩

section
variable {α κ : Type} (f : α → κ) (lt : κ → κ → Bool)
/-- Does a list rise? -/
def Rises (l : List α) : Prop := l.Pairwise fun x y => lt (f x) (f y) = true
def risesB : List α → Bool
  | [] => true
  | [_] => true
  | x :: y :: r => lt (f x) (f y) && risesB (y :: r)
variable {f lt}
theorem risesB_iff (H : Strict lt) : ∀ l : List α, risesB f lt l = true ↔ Rises f lt l
  | [] => by simp [risesB, Rises]
  | [x] => by simp [risesB, Rises]
  | x :: y :: r => by
    have ih := risesB_iff H (y :: r)
    simp only [risesB, Bool.and_eq_true, ih]
    unfold Rises
    constructor
    · rintro ⟨h1, h2⟩
      refine List.pairwise_cons.2 ⟨fun z hz => ?_, h2⟩
      rcases List.mem_cons.1 hz with rfl | hz
      · exact h1
      · exact H.trans _ _ _ h1 ((List.pairwise_cons.1 h2).1 z hz)
    · intro h
      obtain ⟨h1, h2⟩ := List.pairwise_cons.1 h
      exact ⟨h1 y (by simp), h2⟩
theorem risesB_snoc : ∀ (l : List α) (x : α), risesB f lt (l ++ [x]) = (risesB f lt l && (match l.getLast? with | none => true | some y => lt (f y) (f x)))
  | [], x => by simp [risesB]
  | [y], x => by simp [risesB]
  | y :: z :: r, x => by
    have ih := risesB_snoc (z :: r) x
    simp only [List.cons_append] at ih ⊢
    simp only [risesB, ih, List.getLast?_cons_cons, Bool.and_assoc]
theorem risesB_take {l : List α} {k : Nat} (h : k + 1 < l.length) : risesB f lt (l.take (k + 2)) = (risesB f lt (l.take (k + 1)) && lt (f (l[k]'(by omega))) (f l[k + 1])) := by
  rw [List.take_succ_eq_append_getElem (by omega), risesB_snoc]
  have e : (l.take (k + 1)).getLast? = some (l[k]'(by omega)) := by
    rw [List.take_succ_eq_append_getElem (by omega), List.getLast?_append]
    rfl
  rw [e]
theorem risesB_not {l : List α} {k : Nat} (h : k + 1 < l.length) (hn : lt (f (l[k]'(by omega))) (f l[k + 1]) = false) : risesB f lt l = false := by
  induction l generalizing k with
  | nil => simp at h
  | cons x r ih =>
    cases r with
    | nil => simp at h
    | cons y r =>
      cases k with
      | zero =>
        simp only [List.getElem_cons_zero, List.getElem_cons_succ] at hn
        simp [risesB, hn]
      | succ k =>
        simp only [List.getElem_cons_succ] at hn
        have := ih (k := k) (by simpa using h) (by simpa using hn)
        simp [risesB, this]
/-- Two that rise, and have the same elements, are the same. -/
theorem Rises.ext (H : Strict lt) : ∀ {l m : List α}, Rises f lt l → Rises f lt m → (∀ x, x ∈ l ↔ x ∈ m) → l = m
  | [], [], _, _, _ => rfl
  | [], y :: m, _, _, h => by have := (h y).2 (by simp); simp at this
  | x :: l, [], _, _, h => by have := (h x).1 (by simp); simp at this
  | x :: l, y :: m, hl, hm, h => by
    obtain ⟨l1, l2⟩ := List.pairwise_cons.1 hl
    obtain ⟨m1, m2⟩ := List.pairwise_cons.1 hm
    have e : x = y := by
      rcases List.mem_cons.1 ((h x).1 (by simp)) with hx | hx
      · exact hx
      · rcases List.mem_cons.1 ((h y).2 (by simp)) with hy | hy
        · exact hy.symm
        · have a1 := m1 x hx
          have a2 := l1 y hy
          rw [H.asymm a1] at a2
          cases a2
    subst e
    have : l = m := Rises.ext H l2 m2 (fun z => by
      constructor
      · intro hz
        rcases List.mem_cons.1 ((h z).1 (by simp [hz])) with rfl | hz'
        · have := l1 z hz
          rw [H.irrefl] at this
          cases this
        · exact hz'
      · intro hz
        rcases List.mem_cons.1 ((h z).2 (by simp [hz])) with rfl | hz'
        · have := m1 z hz
          rw [H.irrefl] at this
          cases this
        · exact hz')
    rw [this]
theorem Rises.filter {l : List α} (h : Rises f lt l) (p : α → Bool) : Rises f lt (l.filter p) := List.Pairwise.filter p h
/-- Of one key there is one at most. -/
theorem Rises.one (H : Strict lt) {l : List α} (h : Rises f lt l) {x y : α} (hx : x ∈ l) (hy : y ∈ l) (e : f x = f y) : x = y := by
  induction l with
  | nil => simp at hx
  | cons z l ih =>
    obtain ⟨h1, h2⟩ := List.pairwise_cons.1 h
    rcases List.mem_cons.1 hx with rfl | hx'
    · rcases List.mem_cons.1 hy with rfl | hy'
      · rfl
      · have := h1 y hy'
        rw [e, H.irrefl] at this
        cases this
    · rcases List.mem_cons.1 hy with rfl | hy'
      · have := h1 x hx'
        rw [e, H.irrefl] at this
        cases this
      · exact ih h2 hx' hy'
end
end Go.Proofs.Ytcodipgooofppaa.Rise
