/- Plain facts on a key's elements; pairs told from the front. No condition. -/
import Derived.Test.YtnjdkjkihbgkaaaPairM
namespace Go.Proofs.Ytnjdkjkihbgkaaa.PairN
set_option maxRecDepth 100000
open Go Byt OpsM Rise PairM

/-- The elements of a key, one that stands there several times, one behind the other, once. -/
def elemsF (k : ByteArray) : Option ByteArray → List Pr → List ByteArray
  | _, [] => []
  | last, x :: r => if x.key ≠ k ∨ last = some x.elem then elemsF k last r else x.elem :: elemsF k (some x.elem) r
def elemsP (l : List Pr) (k : ByteArray) : List ByteArray := elemsF k none l
theorem less_same {x y : Pr} (h : lessP x y = true) (hk : x.key = y.key) : x.elem = y.elem ∨ ltS x.elem y.elem = true := by
  unfold lessP at h
  rw [if_pos hk] at h
  by_cases he : x.elem = y.elem
  · exact .inl he
  · rw [if_neg he] at h
    exact .inr h
theorem some_rises (k : ByteArray) : ∀ (l : List Pr) (e0 : ByteArray), RisP l → (∀ x ∈ l, x.key = k → e0 = x.elem ∨ ltS e0 x.elem = true) →
    Rises id ltS (elemsF k (some e0) l) ∧ (∀ e ∈ elemsF k (some e0) l, ltS e0 e = true) ∧ ∀ e, e ∈ elemsF k (some e0) l ↔ e ≠ e0 ∧ ∃ x ∈ l, x.key = k ∧ x.elem = e
  | [], e0, _, _ => ⟨List.Pairwise.nil, fun e h => by simp [elemsF] at h, fun e => by simp [elemsF]⟩
  | x :: r, e0, hr, h0 => by
    obtain ⟨h1, h2⟩ := List.pairwise_cons.1 hr
    unfold elemsF
    by_cases hk : x.key = k
    · by_cases he : e0 = x.elem
      · rw [if_pos (.inr (by rw [he]))]
        obtain ⟨q1, q2, q3⟩ := some_rises k r e0 h2 (fun y hy => h0 y (by simp [hy]))
        refine ⟨q1, q2, fun e => ?_⟩
        rw [q3]
        constructor
        · rintro ⟨a, y, hy, b⟩
          exact ⟨a, y, by simp [hy], b⟩
        · rintro ⟨a, y, hy, b, c⟩
          rcases List.mem_cons.1 hy with rfl | hy
          · exact absurd (c.symm.trans he.symm) a
          · exact ⟨a, y, hy, b, c⟩
      · rw [if_neg (by
          rintro (h | h)
          · exact h hk
          · exact he (Option.some.inj h))]
        have hlt : ltS e0 x.elem = true := (h0 x (by simp) hk).resolve_left he
        obtain ⟨q1, q2, q3⟩ := some_rises k r x.elem h2 (fun y hy hyk => less_same (h1 y hy) (hk.trans hyk.symm))
        refine ⟨List.pairwise_cons.2 ⟨fun e hE => q2 e hE, q1⟩, fun e hE => ?_, fun e => ?_⟩
        · rcases List.mem_cons.1 hE with rfl | hE
          · exact hlt
          · exact strictS.trans _ _ _ hlt (q2 e hE)
        · rw [List.mem_cons, q3]
          constructor
          · rintro (rfl | ⟨a, y, hy, b⟩)
            · exact ⟨fun h => he h.symm, x, by simp, hk, rfl⟩
            · refine ⟨?_, y, by simp [hy], b⟩
              rintro rfl
              have := q2 e ((q3 e).2 ⟨a, y, hy, b⟩)
              rw [strictS.asymm hlt] at this
              cases this
          · rintro ⟨a, y, hy, b, c⟩
            rcases List.mem_cons.1 hy with rfl | hy
            · exact .inl c.symm
            · by_cases hx : e = x.elem
              · exact .inl hx
              · exact .inr ⟨hx, y, hy, b, c⟩
    · rw [if_pos (.inl hk)]
      obtain ⟨q1, q2, q3⟩ := some_rises k r e0 h2 (fun y hy => h0 y (by simp [hy]))
      refine ⟨q1, q2, fun e => ?_⟩
      rw [q3]
      constructor
      · rintro ⟨a, y, hy, b⟩
        exact ⟨a, y, by simp [hy], b⟩
      · rintro ⟨a, y, hy, b, c⟩
        rcases List.mem_cons.1 hy with rfl | hy
        · exact absurd b hk
        · exact ⟨a, y, hy, b, c⟩
theorem none_rises (k : ByteArray) : ∀ (l : List Pr), RisP l → Rises id ltS (elemsP l k) ∧ ∀ e, e ∈ elemsP l k ↔ ∃ x ∈ l, x.key = k ∧ x.elem = e
  | [], _ => ⟨List.Pairwise.nil, fun e => by simp [elemsP, elemsF]⟩
  | x :: r, hr => by
    obtain ⟨h1, h2⟩ := List.pairwise_cons.1 hr
    unfold elemsP elemsF
    by_cases hk : x.key = k
    · rw [if_neg (by
        rintro (h | h)
        · exact h hk
        · cases h)]
      obtain ⟨q1, q2, q3⟩ := some_rises k r x.elem h2 (fun y hy hyk => less_same (h1 y hy) (hk.trans hyk.symm))
      refine ⟨List.pairwise_cons.2 ⟨fun e hE => q2 e hE, q1⟩, fun e => ?_⟩
      rw [List.mem_cons, q3]
      constructor
      · rintro (rfl | ⟨_, y, hy, b⟩)
        · exact ⟨x, by simp, hk, rfl⟩
        · exact ⟨y, by simp [hy], b⟩
      · rintro ⟨y, hy, b, c⟩
        rcases List.mem_cons.1 hy with rfl | hy
        · exact .inl c.symm
        · by_cases hx : e = x.elem
          · exact .inl hx
          · exact .inr ⟨hx, y, hy, b, c⟩
    · rw [if_pos (.inl hk)]
      obtain ⟨q1, q2⟩ := none_rises k r h2
      refine ⟨q1, fun e => ?_⟩
      have := q2 e
      unfold elemsP at this
      rw [this]
      constructor
      · rintro ⟨y, hy, b⟩
        exact ⟨y, by simp [hy], b⟩
      · rintro ⟨y, hy, b, c⟩
        rcases List.mem_cons.1 hy with rfl | hy
        · exact absurd b hk
        · exact ⟨y, hy, b, c⟩
theorem elems_rises {l : List Pr} (h : mayP l = true) (k : ByteArray) : Rises id ltS (elemsP l k) := (none_rises k l (ris h)).1
theorem elems_mem {l : List Pr} (h : mayP l = true) (k e : ByteArray) : e ∈ elemsP l k ↔ ∃ x ∈ l, x.key = k ∧ x.elem = e := (none_rises k l (ris h)).2 e
theorem elemsF_length (k : ByteArray) : ∀ (l : List Pr) (o : Option ByteArray), (elemsF k o l).length ≤ l.length
  | [], _ => by simp [elemsF]
  | x :: r, o => by
    unfold elemsF
    split
    · have := elemsF_length k r o
      simp only [List.length_cons]
      omega
    · have := elemsF_length k r (some x.elem)
      simp only [List.length_cons]
      omega
theorem elems_length (l : List Pr) (k : ByteArray) : (elemsP l k).length ≤ l.length := elemsF_length k l none
theorem elemsF_sub (k : ByteArray) : ∀ (l : List Pr) (o : Option ByteArray) (e : ByteArray), e ∈ elemsF k o l → ∃ x ∈ l, x.elem = e
  | [], _, e, h => by simp [elemsF] at h
  | x :: r, o, e, h => by
    unfold elemsF at h
    split at h
    · obtain ⟨y, hy, q⟩ := elemsF_sub k r _ e h
      exact ⟨y, by simp [hy], q⟩
    · rcases List.mem_cons.1 h with rfl | h
      · exact ⟨x, by simp, rfl⟩
      · obtain ⟨y, hy, q⟩ := elemsF_sub k r _ e h
        exact ⟨y, by simp [hy], q⟩
/-- An element more, and none of it. -/
theorem elems_add_del {l : List Pr} {p : Pr} (h : mayP l = true) (hp : oneP p = true) : (elemsP (addP l p) p.key).length = (elemsP (delP l p.key p.elem) p.key).length + 1 ∧ p.elem ∈ elemsP (addP l p) p.key ∧ p.elem ∉ elemsP (delP l p.key p.elem) p.key := by
  have m1 := fun e => elems_mem (add_may l p) p.key e
  have m2 := fun e => elems_mem (del_may l p.key p.elem) p.key e
  have i1 : p.elem ∈ elemsP (addP l p) p.key := (m1 _).2 ⟨p, (add_mem h hp p).2 (.inl rfl), rfl, rfl⟩
  have i2 : p.elem ∉ elemsP (delP l p.key p.elem) p.key := fun q => by
    obtain ⟨x, hx, a, b⟩ := (m2 _).1 q
    exact ((del_mem h x).1 hx).2 ⟨a, b⟩
  refine ⟨?_, i1, i2⟩
  have r1 := elems_rises (add_may l p) p.key
  have e : elemsP (delP l p.key p.elem) p.key = (elemsP (addP l p) p.key).filter fun e => decide (e ≠ p.elem) := by
    refine Rises.ext strictS (elems_rises (del_may _ _ _) _) (r1.filter _) (fun e => ?_)
    rw [m2, List.mem_filter, m1, decide_eq_true_eq]
    constructor
    · rintro ⟨x, hx, a, b⟩
      obtain ⟨c, d⟩ := (del_mem h x).1 hx
      exact ⟨⟨x, (add_mem h hp x).2 (.inr c), a, b⟩, fun q => d ⟨a, b.trans q⟩⟩
    · rintro ⟨⟨x, hx, a, b⟩, hn⟩
      rcases (add_mem h hp x).1 hx with rfl | hx
      · exact absurd b.symm hn
      · exact ⟨x, (del_mem h x).2 ⟨hx, fun q => hn (b.symm.trans q.2)⟩, a, b⟩
  rw [e]
  have key : ∀ m : List ByteArray, Rises id ltS m → ∀ e0 ∈ m, m.length = (m.filter fun e => decide (e ≠ e0)).length + 1 := by
    intro m
    induction m with
    | nil => intro _ e0 h0; simp at h0
    | cons x m ih =>
      intro hr e0 h0
      obtain ⟨h1, h2⟩ := List.pairwise_cons.1 hr
      by_cases hx : x = e0
      · subst hx
        have hall : m.filter (fun e => decide (e ≠ x)) = m := List.filter_eq_self.2 (fun y hy => by
          rw [decide_eq_true_eq]
          exact fun q => strictS.ne (h1 y hy) q.symm)
        rw [List.filter_cons, if_neg (by simp), hall, List.length_cons]
      · rcases List.mem_cons.1 h0 with q | h0
        · exact absurd q.symm hx
        · rw [List.filter_cons, if_pos (by simpa using hx), List.length_cons, List.length_cons, ih h2 e0 h0]
  exact key _ r1 _ i1

/-- Pairs told from the front. -/
theorem all_take (l : List Pr) (k : Nat) (h : k < l.length) : (l.take (k + 1)).all oneP = ((l.take k).all oneP && oneP l[k]) := by
  rw [List.take_succ_eq_append_getElem h, List.all_append]
  simp
theorem may_first {l : List Pr} (h : 0 < l.length) : mayP (l.take 1) = oneP l[0] := by
  unfold mayP
  rw [all_take l 0 h]
  have e : risesB id lessP (l.take 1) = true := by
    rw [List.take_succ_eq_append_getElem h]
    rfl
  rw [e]
  simp
theorem may_next {l : List Pr} {k : Nat} (h : k + 1 < l.length) (hm : mayP (l.take (k + 1)) = true) : mayP (l.take (k + 2)) = (oneP l[k + 1] && lessP (l[k]'(by omega)) l[k + 1]) := by
  unfold mayP at hm ⊢
  rw [Bool.and_eq_true] at hm
  rw [all_take l (k + 1) h, risesB_take h, hm.1, hm.2]
  simp
theorem may_bad {l : List Pr} {k : Nat} (h : k < l.length) (hn : oneP l[k] = false) : mayP l = false := by
  unfold mayP
  rw [show l.all oneP = false from List.all_eq_false.2 ⟨l[k], List.getElem_mem h, by rw [hn]; simp⟩]
  rfl
theorem may_fall {l : List Pr} {k : Nat} (h : k + 1 < l.length) (hn : lessP (l[k]'(by omega)) l[k + 1] = false) : mayP l = false := by
  unfold mayP
  rw [risesB_not h hn, Bool.and_false]
end Go.Proofs.Ytnjdkjkihbgkaaa.PairN
