/- Plain facts on counts with more, and merged. No condition. -/
import Derived.Test.YtommbfkndcaghaaCtrM
namespace Go.Proofs.Ytommbfkndcaghaa.CtrL
open Go Byt OpsM Rise CtrM

/-- A number of 64 bits, of either sign. -/
def In64 (x : Int) : Prop := -9223372036854775808 ≤ x ∧ x ≤ 9223372036854775807
def InL (l : List Cn) : Prop := ∀ c ∈ l, In64 c.n
theorem w64_in (x : Int) : In64 (w64 x) := by unfold In64; rw [w64_eq]; omega
theorem w64_id {x : Int} (h : In64 x) : w64 x = x := by unfold In64 at h; rw [w64_eq]; omega
theorem getC_in {l : List Cn} (h : InL l) (k : ByteArray) : In64 (getC l k) := by
  by_cases h0 : getC l k = 0
  · rw [h0]; unfold In64; omega
  · obtain ⟨c, hc, _, e⟩ := getC_ex h0
    rw [← e]
    exact h c hc

/-- With more. -/
theorem inc_may {l : List Cn} {k : ByteArray} (n : Int) (h : mayC l = true) (hk : keyL (bytesL k) = true) : mayC (incC l k n) = true := by
  unfold incC
  rw [if_pos ⟨h, hk⟩]
  exact putC_may h hk
theorem inc_get {l : List Cn} {k : ByteArray} (n : Int) (h : mayC l = true) (hk : keyL (bytesL k) = true) (k' : ByteArray) : getC (incC l k n) k' = if k' = k then w64 (getC l k + n) else getC l k' := by
  unfold incC
  rw [if_pos ⟨h, hk⟩]
  exact getC_put (mayC_iff.1 h).2 k'
theorem inc_no {l : List Cn} {k : ByteArray} (n : Int) (h : mayC l = false ∨ keyL (bytesL k) = false) : incC l k n = [] := by
  unfold incC
  rw [if_neg]
  rintro ⟨a, b⟩
  rcases h with h | h
  · rw [a] at h; cases h
  · rw [b] at h; cases h
theorem putC_sub {k : ByteArray} {n : Int} {l : List Cn} {c : Cn} (h : c ∈ putC k n false l) : c = ⟨k, n⟩ ∨ c ∈ l := by
  rcases (putC_mem k n l c).1 h with ⟨e, _⟩ | ⟨e, _⟩
  · exact .inl e
  · exact .inr e
theorem inc_in {l : List Cn} (k : ByteArray) (n : Int) (h : InL l) : InL (incC l k n) := by
  intro c hc
  unfold incC at hc
  split at hc
  · rcases putC_sub hc with rfl | hc
    · exact w64_in _
    · exact h c hc
  · simp at hc

/-- Merged. -/
theorem sum_zero {base a b : List Cn} {k : ByteArray} (h0 : ∀ c ∈ base, c.key ≠ k) (h1 : ∀ c ∈ a, c.key ≠ k) (h2 : ∀ c ∈ b, c.key ≠ k) : sumC base a b k = 0 := by
  unfold sumC
  rw [getC_none h0, getC_none h1, getC_none h2]
  rfl
theorem fold_may (base a b : List Cn) : ∀ (l out : List Cn), mayC out = true → (∀ c ∈ l, keyL (bytesL c.key) = true) → mayC (l.foldl (mergeF base a b) out) = true
  | [], out, h, _ => h
  | c :: r, out, h, hk => by
    rw [List.foldl_cons]
    exact fold_may base a b r _ (putC_may h (hk c (by simp))) (fun d hd => hk d (by simp [hd]))
theorem fold_get (base a b : List Cn) (k : ByteArray) : ∀ (l out : List Cn), mayC out = true → (∀ c ∈ l, keyL (bytesL c.key) = true) → getC (l.foldl (mergeF base a b) out) k = if ∃ c ∈ l, c.key = k then sumC base a b k else getC out k
  | [], out, h, _ => by simp
  | c :: r, out, h, hk => by
    have hm : mayC (mergeF base a b out c) = true := putC_may (n := sumC base a b c.key) h (hk c (by simp))
    rw [List.foldl_cons, fold_get base a b k r _ hm (fun d hd => hk d (by simp [hd]))]
    by_cases hr : ∃ d ∈ r, d.key = k
    · rw [if_pos hr, if_pos]
      obtain ⟨d, hd, e⟩ := hr
      exact ⟨d, by simp [hd], e⟩
    · rw [if_neg hr]
      show getC (putC c.key (sumC base a b c.key) false out) k = _
      rw [getC_put (mayC_iff.1 h).2]
      by_cases hc : c.key = k
      · rw [if_pos hc.symm, if_pos ⟨c, by simp, hc⟩, hc]
      · rw [if_neg (fun e => hc e.symm), if_neg]
        rintro ⟨d, hd, e⟩
        rcases List.mem_cons.1 hd with rfl | hd
        · exact hc e
        · exact hr ⟨d, hd, e⟩
theorem keys_ok {l : List Cn} (h : mayC l = true) : ∀ c ∈ l, keyL (bytesL c.key) = true := fun c hc => (okC_iff.1 ((mayC_iff.1 h).1 c hc)).1
section
variable {base a b : List Cn} (h0 : mayC base = true) (h1 : mayC a = true) (h2 : mayC b = true)
include h0 h1 h2
theorem all_ok : ∀ c ∈ base ++ a ++ b, keyL (bytesL c.key) = true := by
  intro c hc
  rcases List.mem_append.1 hc with hc | hc
  · rcases List.mem_append.1 hc with hc | hc
    · exact keys_ok h0 c hc
    · exact keys_ok h1 c hc
  · exact keys_ok h2 c hc
theorem merge_may : mayC (mergeC base a b) = true := by
  rw [mergeC_fold ⟨h0, h1, h2⟩]
  exact fold_may base a b _ _ rfl (all_ok h0 h1 h2)
theorem merge_get (k : ByteArray) : getC (mergeC base a b) k = sumC base a b k := by
  rw [mergeC_fold ⟨h0, h1, h2⟩, fold_get base a b k _ _ rfl (all_ok h0 h1 h2)]
  by_cases h : ∃ c ∈ base ++ a ++ b, c.key = k
  · rw [if_pos h]
  · rw [if_neg h, sum_zero]
    · rfl
    · intro c hc e; exact h ⟨c, by simp [hc], e⟩
    · intro c hc e; exact h ⟨c, by simp [hc], e⟩
    · intro c hc e; exact h ⟨c, by simp [hc], e⟩
/-- What else tells what is merged. -/
theorem merge_is {m : List Cn} (hm : mayC m = true) (h : ∀ k, getC m k = sumC base a b k) : m = mergeC base a b :=
  det hm (merge_may h0 h1 h2) (fun k => by rw [h, merge_get h0 h1 h2])
theorem merge_in : InL (mergeC base a b) := by
  intro c hc
  obtain ⟨e, _⟩ := (mem_iff (merge_may h0 h1 h2) c).1 hc
  rw [← e, merge_get h0 h1 h2]
  exact w64_in _
theorem merge_turn : mergeC base a b = mergeC base b a :=
  det (merge_may h0 h1 h2) (merge_may h0 h2 h1) (fun k => by
    rw [merge_get h0 h1 h2, merge_get h0 h2 h1]
    unfold sumC
    rw [Int.add_comm])
end
theorem merge_no {base a b : List Cn} (h : mayC base = false ∨ mayC a = false ∨ mayC b = false) : mergeC base a b = [] := by
  unfold mergeC
  rw [if_neg]
  rintro ⟨x, y, z⟩
  rcases h with h | h | h
  · rw [x] at h; cases h
  · rw [y] at h; cases h
  · rw [z] at h; cases h
theorem merge_one {base b : List Cn} (h0 : mayC base = true) (h2 : mayC b = true) (hb : InL b) : mergeC base base b = b :=
  det (merge_may h0 h0 h2) h2 (fun k => by
    rw [merge_get h0 h0 h2]
    have h := getC_in hb k
    unfold In64 at h
    unfold sumC
    rw [w64_eq, w64_eq]
    omega)
theorem merge_sum {base : List Cn} {k : ByteArray} (n m : Int) (h0 : mayC base = true) (hk : keyL (bytesL k) = true) (hb : InL base) : mergeC base (incC base k n) (incC base k m) = incC (incC base k n) k m :=
  det (merge_may h0 (inc_may n h0 hk) (inc_may m h0 hk)) (inc_may m (inc_may n h0 hk) hk) (fun x => by
    rw [merge_get h0 (inc_may n h0 hk) (inc_may m h0 hk), inc_get m (inc_may n h0 hk) hk]
    unfold sumC
    rw [inc_get n h0 hk, inc_get m h0 hk, inc_get n h0 hk]
    have h := getC_in hb x
    unfold In64 at h
    by_cases hx : x = k
    · subst hx
      simp only [if_true, w64_eq]
      omega
    · simp only [if_neg hx, w64_eq]
      omega)
theorem merge_three {base a b c : List Cn} (h0 : mayC base = true) (h1 : mayC a = true) (h2 : mayC b = true) (h3 : mayC c = true) : mergeC base (mergeC base a b) c = mergeC base a (mergeC base b c) :=
  det (merge_may h0 (merge_may h0 h1 h2) h3) (merge_may h0 h1 (merge_may h0 h2 h3)) (fun k => by
    rw [merge_get h0 (merge_may h0 h1 h2) h3, merge_get h0 h1 (merge_may h0 h2 h3)]
    unfold sumC
    rw [merge_get h0 h1 h2, merge_get h0 h2 h3]
    unfold sumC
    simp only [w64_eq]
    omega)
theorem inc_back {l : List Cn} {k : ByteArray} (n : Int) (h : mayC l = true) (hk : keyL (bytesL k) = true) (hb : InL l) : incC (incC l k n) k (-n) = l :=
  det (inc_may _ (inc_may n h hk) hk) h (fun x => by
    rw [inc_get _ (inc_may n h hk) hk, inc_get n h hk, inc_get n h hk]
    have h := getC_in hb x
    unfold In64 at h
    by_cases hx : x = k
    · subst hx
      simp only [if_true, w64_eq]
      omega
    · rw [if_neg hx, if_neg hx])
theorem inc_zero {l : List Cn} {k : ByteArray} (h : mayC l = true) (hk : keyL (bytesL k) = true) (hb : InL l) : incC l k 0 = l :=
  det (inc_may _ h hk) h (fun x => by
    rw [inc_get _ h hk]
    have h := getC_in hb x
    unfold In64 at h
    by_cases hx : x = k
    · subst hx
      rw [if_pos rfl, w64_eq]
      omega
    · rw [if_neg hx])
theorem may_nil : mayC [] = true := rfl
theorem merge_nil_left {l : List Cn} (h : mayC l = true) (hb : InL l) : mergeC [] l [] = l := by
  rw [merge_turn may_nil h may_nil, merge_one may_nil h hb]
theorem merge_nil_right {l : List Cn} (h : mayC l = true) (hb : InL l) : mergeC [] [] l = l := merge_one may_nil h hb
/-- A key is there just if it counts something. -/
theorem key_iff {l : List Cn} (h : mayC l = true) (k : ByteArray) : (∃ c ∈ l, c.key = k) ↔ getC l k ≠ 0 := by
  constructor
  · rintro ⟨c, hc, rfl⟩
    obtain ⟨e, hn⟩ := (mem_iff h c).1 hc
    rw [e]
    exact hn
  · intro hn
    obtain ⟨c, hc, e, _⟩ := getC_ex hn
    exact ⟨c, hc, e⟩
end Go.Proofs.Ytommbfkndcaghaa.CtrL
