/- What the laws on counts ask of lists. No condition. -/
import Derived.Test.YtommbfkndcaghaaCtrS
import Derived.Test.YtommbfkndcaghaaCtrQ
import Derived.Test.YtommbfkndcaghaaCtrL
import Derived.Test.YtommbfkndcaghaaOpenC
namespace Go.Proofs.Ytommbfkndcaghaa.CtrX
open Go Go.RowKit Byt OpsM Rise CtrM RowS CtrW CtrS CtrL OpenC

theorem inl_of {l : List Cn} (h : ∀ c ∈ l, OpenC.Good c) : InL l := fun c hc => (h c hc).2
theorem max_of {l : List Cn} (h : ∀ c ∈ l, OpenC.Good c) : ∀ c ∈ l, c.key.size ≤ maxLen := fun c hc => (h c hc).1
theorem few_len {l : List Cn} (h : fewB l = true) : l.length ≤ 30 := by
  unfold fewB at h
  simp only [Bool.and_eq_true, decide_eq_true_eq] at h
  exact h.1
theorem few_fits {l : List Cn} (h : fewB l = true) (hg : InL l) : Fits l := by
  unfold fewB at h
  simp only [Bool.and_eq_true, decide_eq_true_eq, List.all_eq_true] at h
  intro c hc
  have h1 := h.2 c hc
  have h2 := hg c hc
  unfold In64 at h2
  exact ⟨by omega, h2.1, h2.2⟩
theorem may_fits {l : List Cn} (h : mayC l = true) (hg : InL l) : Fits l := by
  intro c hc
  have h1 := keyL_len (keys_ok h c hc)
  have h2 := hg c hc
  have h3 := bytesL_length c.key
  unfold In64 at h2
  exact ⟨by omega, h2.1, h2.2⟩
theorem nil_fits : Fits [] := fun c hc => by simp at hc
theorem inc_fits {l : List Cn} (k : ByteArray) (n : Int) (hg : InL l) : Fits (incC l k n) := by
  cases hm : mayC l with
  | false => rw [inc_no n (.inl hm)]; exact nil_fits
  | true =>
    cases hk : keyL (bytesL k) with
    | false => rw [inc_no n (.inr hk)]; exact nil_fits
    | true => exact may_fits (inc_may n hm hk) (inc_in k n hg)
theorem merge_all {base a b : List Cn} : (mayC base = true ∧ mayC a = true ∧ mayC b = true) ∨ mergeC base a b = [] := by
  by_cases h : mayC base = true ∧ mayC a = true ∧ mayC b = true
  · exact .inl h
  · exact .inr (by unfold mergeC; rw [if_neg h])
theorem merge_fits (base a b : List Cn) : Fits (mergeC base a b) := by
  rcases merge_all (base := base) (a := a) (b := b) with ⟨h0, h1, h2⟩ | h
  · exact may_fits (merge_may h0 h1 h2) (merge_in h0 h1 h2)
  · rw [h]; exact nil_fits
theorem inc_len (l : List Cn) (k : ByteArray) (n : Int) : (incC l k n).length ≤ l.length + 1 := by
  unfold incC
  split
  · exact putC_length _ _ _
  · simp
theorem merge_len (base a b : List Cn) : (mergeC base a b).length ≤ base.length + a.length + b.length := by
  unfold mergeC
  split
  · have := mergeF_length base a b (base ++ a ++ b) []
    unfold mergeF at this
    simp only [List.length_append, List.length_nil, Nat.zero_add] at this
    exact this
  · simp
theorem same_yes {a b : List Cn} (h : a = b) : sameB a b = true := sameB_iff.2 h
/-- The chapter's example. -/
def a1 : List Cn := [⟨⟨#[97]⟩, 1⟩]
def a3 : List Cn := [⟨⟨#[97]⟩, 3⟩]
def b5 : List Cn := [⟨⟨#[98]⟩, 5⟩]
def ab : List Cn := [⟨⟨#[97]⟩, 2⟩, ⟨⟨#[98]⟩, 5⟩]
theorem merge_ex : mergeC a1 a3 b5 = ab := by kernel_rfl
theorem may_ab : mayC ab = true := by kernel_rfl
theorem get_ab : getC ab ⟨#[98]⟩ = 5 := by kernel_rfl
theorem inc_ab : incC ab ⟨#[98]⟩ (-5) = [⟨⟨#[97]⟩, 2⟩] := by kernel_rfl
end Go.Proofs.Ytommbfkndcaghaa.CtrX
