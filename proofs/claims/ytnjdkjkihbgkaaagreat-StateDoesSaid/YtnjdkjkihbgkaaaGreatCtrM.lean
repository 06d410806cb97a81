/- Plain facts on counts: which may be, what a key counts, with more, and merged. No condition. -/
import Derived.Test.YtnjdkjkihbgkaaaGreatKeyMJ4
namespace Go.Proofs.YtnjdkjkihbgkaaaGreat.CtrM
set_option maxRecDepth 100000
open Go Byt OpsM Rise

/-- What a key counts. -/
structure Cn where
  key : ByteArray
  n : Int
def okC (c : Cn) : Bool := keyL (bytesL c.key) && decide (c.n ≠ 0)
def risC (l : List Cn) : Bool := risesB Cn.key ltS l
def mayC (l : List Cn) : Bool := l.all okC && risC l
def getC : List Cn → ByteArray → Int
  | [], _ => 0
  | c :: r, k => if c.key = k then c.n else getC r k
theorem getC_cons (c : Cn) (r : List Cn) (k : ByteArray) : getC (c :: r) k = if c.key = k then c.n else getC r k := rfl
theorem mayC_iff {l : List Cn} : mayC l = true ↔ (∀ c ∈ l, okC c = true) ∧ Rises Cn.key ltS l := by
  unfold mayC risC
  rw [Bool.and_eq_true, List.all_eq_true, risesB_iff strictS]
theorem okC_iff {c : Cn} : okC c = true ↔ keyL (bytesL c.key) = true ∧ c.n ≠ 0 := by
  unfold okC
  rw [Bool.and_eq_true, decide_eq_true_eq]
theorem getC_none : ∀ {l : List Cn} {k : ByteArray}, (∀ c ∈ l, c.key ≠ k) → getC l k = 0
  | [], _, _ => rfl
  | c :: r, k, h => by
    unfold getC
    rw [if_neg (h c (by simp)), getC_none (fun d hd => h d (by simp [hd]))]
theorem getC_mem : ∀ {l : List Cn} (_ : Rises Cn.key ltS l) {c : Cn} (_ : c ∈ l), getC l c.key = c.n
  | [], _, c, h => by simp at h
  | d :: r, hr, c, h => by
    unfold getC
    obtain ⟨h1, h2⟩ := List.pairwise_cons.1 hr
    rcases List.mem_cons.1 h with rfl | hc
    · rw [if_pos rfl]
    · rw [if_neg (strictS.ne (h1 c hc)), getC_mem h2 hc]
theorem getC_ex : ∀ {l : List Cn} {k : ByteArray}, getC l k ≠ 0 → ∃ c ∈ l, c.key = k ∧ c.n = getC l k
  | [], _, h => absurd rfl h
  | c :: r, k, h => by
    unfold getC at h ⊢
    by_cases hk : c.key = k
    · rw [if_pos hk]
      exact ⟨c, by simp, hk, rfl⟩
    · rw [if_neg hk] at h ⊢
      obtain ⟨d, hd, e⟩ := getC_ex h
      exact ⟨d, by simp [hd], e⟩
/-- Counts that may be are told by what each key counts. -/
theorem mem_iff {l : List Cn} (h : mayC l = true) (c : Cn) : c ∈ l ↔ getC l c.key = c.n ∧ c.n ≠ 0 := by
  obtain ⟨h1, h2⟩ := mayC_iff.1 h
  constructor
  · intro hc
    exact ⟨getC_mem h2 hc, (okC_iff.1 (h1 c hc)).2⟩
  · rintro ⟨e, hn⟩
    obtain ⟨d, hd, e1, e2⟩ := getC_ex (l := l) (k := c.key) (by rw [e]; exact hn)
    have : d = c := by
      cases d; cases c
      simp only at e1 e2 e
      rw [e] at e2
      rw [e1, e2]
    rw [← this]
    exact hd
theorem det {l m : List Cn} (hl : mayC l = true) (hm : mayC m = true) (h : ∀ k, getC l k = getC m k) : l = m := by
  refine Rises.ext strictS (mayC_iff.1 hl).2 (mayC_iff.1 hm).2 (fun c => ?_)
  rw [mem_iff hl, mem_iff hm, h]
theorem getC_key {l : List Cn} (h : mayC l = true) {k : ByteArray} (hk : getC l k ≠ 0) : keyL (bytesL k) = true := by
  obtain ⟨c, hc, e, _⟩ := getC_ex hk
  rw [← e]
  exact (okC_iff.1 ((mayC_iff.1 h).1 c hc)).1

/-- Counts told from the front. -/
theorem all_take (l : List Cn) (k : Nat) (h : k < l.length) : (l.take (k + 1)).all okC = ((l.take k).all okC && okC l[k]) := by
  rw [List.take_succ_eq_append_getElem h, List.all_append]
  simp
theorem mayC_first {l : List Cn} (h : 0 < l.length) : mayC (l.take 1) = okC l[0] := by
  unfold mayC
  rw [all_take l 0 h]
  have e : risC (l.take 1) = true := by
    rw [List.take_succ_eq_append_getElem h]
    rfl
  rw [e]
  simp
theorem mayC_next {l : List Cn} {k : Nat} (h : k + 1 < l.length) (hm : mayC (l.take (k + 1)) = true) : mayC (l.take (k + 2)) = (okC l[k + 1] && ltS (l[k]'(by omega)).key l[k + 1].key) := by
  unfold mayC risC at hm ⊢
  rw [Bool.and_eq_true] at hm
  rw [all_take l (k + 1) h, risesB_take h, hm.1, hm.2]
  simp
theorem mayC_no {l : List Cn} {k : Nat} (h : k < l.length) (hn : okC l[k] = false) : mayC l = false := by
  unfold mayC
  rw [show l.all okC = false from List.all_eq_false.2 ⟨l[k], List.getElem_mem h, by rw [hn]; simp⟩]
  rfl
theorem mayC_fall {l : List Cn} {k : Nat} (h : k + 1 < l.length) (hn : ltS (l[k]'(by omega)).key l[k + 1].key = false) : mayC l = false := by
  unfold mayC risC
  rw [risesB_not h hn, Bool.and_false]
/-- Counts where a key has a number: what stands ahead of it, it, and what stands behind. -/
def one (k : ByteArray) (n : Int) : List Cn := if n ≠ 0 then [⟨k, n⟩] else []
def putC (k : ByteArray) (n : Int) : Bool → List Cn → List Cn
  | done, [] => if done = true then [] else one k n
  | done, c :: r => (if done = false ∧ ltS c.key k = false then one k n else []) ++ (if c.key = k then [] else [c]) ++ putC k n (done || !ltS c.key k) r
theorem putC_done (k : ByteArray) (n : Int) : ∀ l : List Cn, putC k n true l = l.filter fun c => decide (c.key ≠ k)
  | [] => rfl
  | c :: r => by
    rw [putC, if_neg (by simp), Bool.true_or, putC_done k n r, List.filter_cons]
    by_cases h : c.key = k <;> simp [h]
theorem one_mem {k : ByteArray} {n : Int} {c : Cn} : c ∈ one k n ↔ c = ⟨k, n⟩ ∧ n ≠ 0 := by
  unfold one
  split
  · rename_i h; simp [h]
  · rename_i h; simp at h; simp [h]
theorem putC_mem (k : ByteArray) (n : Int) : ∀ (l : List Cn) (c : Cn), c ∈ putC k n false l ↔ (c = ⟨k, n⟩ ∧ n ≠ 0) ∨ (c ∈ l ∧ c.key ≠ k)
  | [], c => by
    rw [putC, if_neg (by simp), one_mem]
    simp
  | d :: r, c => by
    rw [putC]
    cases hd : ltS d.key k with
    | true =>
      have hne := strictS.ne hd
      rw [if_neg (by simp), if_neg hne]
      simp only [Bool.not_true, Bool.or_false, List.nil_append, List.mem_append, putC_mem k n r c, List.mem_cons, List.not_mem_nil, or_false]
      constructor
      · rintro (rfl | h | ⟨h1, h2⟩)
        · exact .inr ⟨.inl rfl, hne⟩
        · exact .inl h
        · exact .inr ⟨.inr h1, h2⟩
      · rintro (h | ⟨rfl | h1, h2⟩)
        · exact .inr (.inl h)
        · exact .inl rfl
        · exact .inr (.inr ⟨h1, h2⟩)
    | false =>
      rw [if_pos (by simp)]
      simp only [Bool.not_false, Bool.or_true, putC_done, List.mem_append, one_mem, List.mem_filter, decide_eq_true_eq, List.mem_cons]
      by_cases h : d.key = k
      · rw [if_pos h]
        simp only [List.not_mem_nil, or_false]
        constructor
        · rintro (h1 | ⟨h1, h2⟩)
          · exact .inl h1
          · exact .inr ⟨.inr h1, h2⟩
        · rintro (h1 | ⟨rfl | h1, h2⟩)
          · exact .inl h1
          · exact absurd h h2
          · exact .inr ⟨h1, h2⟩
      · rw [if_neg h]
        simp only [List.mem_singleton]
        constructor
        · rintro ((h1 | rfl) | ⟨h1, h2⟩)
          · exact .inl h1
          · exact .inr ⟨.inl rfl, h⟩
          · exact .inr ⟨.inr h1, h2⟩
        · rintro (h1 | ⟨rfl | h1, h2⟩)
          · exact .inl (.inl h1)
          · exact .inl (.inr rfl)
          · exact .inr ⟨h1, h2⟩
theorem putC_rises (k : ByteArray) (n : Int) : ∀ {l : List Cn}, Rises Cn.key ltS l → Rises Cn.key ltS (putC k n false l)
  | [], _ => by
    rw [putC, if_neg (by simp)]
    unfold one
    split <;> simp [Rises]
  | d :: r, h => by
    obtain ⟨h1, h2⟩ := List.pairwise_cons.1 h
    rw [putC]
    cases hd : ltS d.key k with
    | true =>
      rw [if_neg (by simp), if_neg (strictS.ne hd)]
      simp only [Bool.not_true, Bool.or_false, List.nil_append, List.singleton_append]
      refine List.pairwise_cons.2 ⟨fun c hc => ?_, putC_rises k n h2⟩
      rcases (putC_mem k n r c).1 hc with ⟨rfl, _⟩ | ⟨hc, _⟩
      · exact hd
      · exact h1 c hc
    | false =>
      rw [if_pos (by simp)]
      simp only [Bool.not_false, Bool.or_true, putC_done]
      have hall : ∀ c ∈ d :: r, c.key ≠ k → ltS k c.key = true := by
        intro c hc hne
        have hdc : ltS c.key k = false := by
          rcases List.mem_cons.1 hc with rfl | hc
          · exact hd
          · cases hck : ltS c.key k with
            | false => rfl
            | true =>
              have := strictS.trans _ _ _ (h1 c hc) hck
              rw [hd] at this
              cases this
        cases hkc : ltS k c.key with
        | true => rfl
        | false => exact absurd (strictS.tri _ _ hdc hkc) hne
      have e : (if d.key = k then ([] : List Cn) else [d]) ++ r.filter (fun c => decide (c.key ≠ k)) = (d :: r).filter fun c => decide (c.key ≠ k) := by
        rw [List.filter_cons]
        by_cases hk : d.key = k <;> simp [hk]
      rw [List.append_assoc, e]
      refine List.pairwise_append.2 ⟨?_, h.filter _, fun a ha b hb => ?_⟩
      · unfold one
        split <;> simp
      · obtain ⟨rfl, _⟩ := one_mem.1 ha
        simp only [List.mem_filter, decide_eq_true_eq] at hb
        exact hall b hb.1 hb.2
theorem getC_put {k : ByteArray} {n : Int} {l : List Cn} (h : Rises Cn.key ltS l) (k' : ByteArray) : getC (putC k n false l) k' = if k' = k then n else getC l k' := by
  have hr := putC_rises k n h
  by_cases hk : k' = k
  · rw [if_pos hk]
    subst hk
    by_cases hn : n = 0
    · rw [hn]
      refine getC_none (fun c hc => ?_)
      rcases (putC_mem k' 0 l c).1 hc with ⟨_, h0⟩ | ⟨_, hne⟩
      · exact absurd rfl h0
      · exact hne
    · exact getC_mem hr (c := ⟨k', n⟩) ((putC_mem k' n l _).2 (.inl ⟨rfl, hn⟩))
  · rw [if_neg hk]
    by_cases h0 : getC l k' = 0
    · rw [h0]
      by_cases hx : getC (putC k n false l) k' = 0
      · exact hx
      · exfalso
        obtain ⟨c, hc, e, e2⟩ := getC_ex hx
        rcases (putC_mem k n l c).1 hc with ⟨rfl, _⟩ | ⟨hc, _⟩
        · exact hk e.symm
        · have := getC_mem h hc
          rw [e, h0] at this
          rw [← e2, ← this] at hx
          exact hx rfl
    · obtain ⟨c, hc, e, e2⟩ := getC_ex h0
      have := getC_mem hr (c := c) ((putC_mem k n l c).2 (.inr ⟨hc, by rw [e]; exact hk⟩))
      rw [e] at this
      rw [this, e2]
theorem putC_may {k : ByteArray} {n : Int} {l : List Cn} (h : mayC l = true) (hk : keyL (bytesL k) = true) : mayC (putC k n false l) = true := by
  obtain ⟨h1, h2⟩ := mayC_iff.1 h
  refine mayC_iff.2 ⟨fun c hc => ?_, putC_rises k n h2⟩
  rcases (putC_mem k n l c).1 hc with ⟨rfl, h0⟩ | ⟨hc, _⟩
  · exact okC_iff.2 ⟨hk, h0⟩
  · exact h1 c hc

theorem one_length (k : ByteArray) (n : Int) : (one k n).length ≤ 1 := by unfold one; split <;> simp
theorem putC_length (k : ByteArray) (n : Int) : ∀ l : List Cn, (putC k n false l).length ≤ l.length + 1
  | [] => by
    rw [putC, if_neg (by simp)]
    have := one_length k n
    simp
    omega
  | c :: r => by
    rw [putC]
    have h1 := one_length k n
    have h2 := putC_length k n r
    have h3 : (putC k n true r).length ≤ r.length := by rw [putC_done]; exact List.length_filter_le _ _
    have h4 : (if c.key = k then ([] : List Cn) else [c]).length ≤ 1 := by split <;> simp
    cases ltS c.key k with
    | true =>
      rw [if_neg (by simp)]
      simp only [Bool.not_true, Bool.or_false, List.length_append, List.length_nil, List.length_cons]
      omega
    | false =>
      rw [if_pos (by simp)]
      simp only [Bool.not_false, Bool.or_true, List.length_append, List.length_cons]
      omega
/-- Numbers of 64 bits wrap around. -/
def w64 (x : Int) : Int := IntKind.i64.wrap x
theorem w64_eq (x : Int) : w64 x = (x + 9223372036854775808) % 18446744073709551616 - 9223372036854775808 := by
  unfold w64
  rw [IntKind.wrap_i64]
/-- With more, and merged. -/
def incC (l : List Cn) (k : ByteArray) (n : Int) : List Cn := if mayC l = true ∧ keyL (bytesL k) = true then putC k (w64 (getC l k + n)) false l else []
def sumC (base a b : List Cn) (k : ByteArray) : Int := w64 (w64 (getC a k + getC b k) - getC base k)
def mergeC (base a b : List Cn) : List Cn :=
  if mayC base = true ∧ mayC a = true ∧ mayC b = true then (base ++ a ++ b).foldl (fun out c => putC c.key (sumC base a b c.key) false out) [] else []
def mergeF (base a b : List Cn) (out : List Cn) (c : Cn) : List Cn := putC c.key (sumC base a b c.key) false out
theorem mergeC_fold {base a b : List Cn} (h : mayC base = true ∧ mayC a = true ∧ mayC b = true) : mergeC base a b = (base ++ a ++ b).foldl (mergeF base a b) [] := by
  unfold mergeC
  rw [if_pos h]
  rfl
theorem mergeF_length (base a b : List Cn) : ∀ (l out : List Cn), (l.foldl (mergeF base a b) out).length ≤ out.length + l.length
  | [], out => by simp
  | c :: r, out => by
    rw [List.foldl_cons]
    have h1 := mergeF_length base a b r (mergeF base a b out c)
    have h2 : (mergeF base a b out c).length ≤ out.length + 1 := putC_length _ _ _
    rw [List.length_cons]
    omega
end Go.Proofs.YtnjdkjkihbgkaaaGreat.CtrM
