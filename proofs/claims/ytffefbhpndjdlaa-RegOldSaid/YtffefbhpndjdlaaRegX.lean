/- What the laws on registers ask of lists. No condition. -/
import Derived.Test.YtffefbhpndjdlaaRegU
import Derived.Test.YtffefbhpndjdlaaOpenG
namespace Go.Proofs.Ytffefbhpndjdlaa.RegX
open Go Go.RowKit Byt OpsM Rise RegM RegL RowS RowB RegW RegG RegS RegQ RegU

theorem max_of {l : List Rg} (h : ∀ c ∈ l, OpenG.Good c) : ∀ c ∈ l, c.key.size ≤ maxLen ∧ c.elem.size ≤ maxLen := fun c hc => ⟨(h c hc).key, (h c hc).elem⟩
theorem few_len {l : List Rg} (h : fewB l = true) : l.length ≤ 30 := by
  unfold fewB at h
  simp only [Bool.and_eq_true, decide_eq_true_eq] at h
  exact h.1
theorem few_fits {l : List Rg} (h : fewB l = true) (hg : ∀ c ∈ l, OpenG.Good c) : Fits l := by
  unfold fewB at h
  simp only [Bool.and_eq_true, decide_eq_true_eq, List.all_eq_true] at h
  intro c hc
  have h1 := h.2 c hc
  have h2 := hg c hc
  exact ⟨by omega, by omega, h2.gen, h2.node, h2.seq⟩
theorem one_of {c : Rg} (h : OpenG.Good c) : ∀ x ∈ [c], OpenG.Good x := fun x hx => by
  simp at hx
  rw [hx]
  exact h
theorem two_of {c d : Rg} (h : OpenG.Good c) (h2 : OpenG.Good d) : ∀ x ∈ [c, d], OpenG.Good x := fun x hx => by
  simp at hx
  rcases hx with rfl | rfl
  · exact h
  · exact h2
theorem fit_one {c : Rg} (h : fewB [c] = true) (hg : OpenG.Good c) : Fit c := few_fits h (one_of hg) c (by simp)
theorem fit_two {c d : Rg} (h : fewB [c, d] = true) (hg : OpenG.Good c) (hg2 : OpenG.Good d) : Fit c ∧ Fit d := ⟨few_fits h (two_of hg hg2) c (by simp), few_fits h (two_of hg hg2) d (by simp)⟩
theorem fits_one {c : Rg} (h : Fit c) : Fits [c] := fun x hx => by
  simp at hx
  rw [hx]
  exact h
theorem may_one {c : Rg} : mayR [c] = oneR c := by
  unfold mayR
  simp [risesB]
theorem merge_fits {a b : List Rg} (ha : Fits a) (hb : Fits b) : Fits (mergeR a b) := by
  unfold mergeR
  split
  · exact fold_fits b a ha hb
  · intro x hx; simp at hx
/-- What a key has, as a register, and whether it has one. -/
def vR (o : Option Rg) : Rg := o.getD noR
theorem gv_eq (o : Option Rg) : gv o = .tuple #[.agg (rc (vR o)), .bool o.isSome] := by cases o <;> rfl
theorem equal_yes {x y : Rg} (h : x = y) (w : World) : (Op.equalIn 10000 26 (.agg (E.enc x).toArray) (.agg (E.enc y).toArray)).run Try.prog w = .ok true w := by
  have := equal w x y
  rw [sameN_iff.2 h] at this
  exact this
theorem equal_no {x y : Rg} (h : x ≠ y) (w : World) : (Op.equalIn 10000 26 (.agg (E.enc x).toArray) (.agg (E.enc y).toArray)).run Try.prog w = .ok false w := by
  have := equal w x y
  cases e : sameN x y with
  | false =>
    rw [e] at this
    exact this
  | true => exact absurd (sameN_iff.1 e) h
/-- Two registers compared. -/
theorem equal_is {x y : Rg} {b : Bool} (h : b = true ↔ x = y) (w : World) : (Op.equalIn 10000 26 (.agg (E.enc x).toArray) (.agg (E.enc y).toArray)).run Try.prog w = .ok b w := by
  cases b with
  | true => exact equal_yes (h.1 rfl) w
  | false => exact equal_no (fun e => by cases h.2 e) w
/-- The chapter's example. -/
def ax : Rg := ⟨⟨#[97]⟩, ⟨#[120]⟩, 2, 0, 1⟩
def ay : Rg := ⟨⟨#[97]⟩, ⟨#[121]⟩, 1, 1, 1⟩
theorem merge_ex : mergeR [ay] [ax] = [ax] := by kernel_rfl
theorem newer_ex : newerB ax ay = true := by kernel_rfl
theorem may_ex : mayR [ax] = true := by kernel_rfl
theorem put_ex : putR [ax] ay = [ax] := by kernel_rfl
theorem get_ex : getR [ax] ⟨#[97]⟩ = some ax := by kernel_rfl
end Go.Proofs.Ytffefbhpndjdlaa.RegX
