/- Which texts may be keys: plain facts. No condition. -/
import Derived.WalkKit
namespace Go.Proofs.Ytcodipgooofppaa.OpsM

/-- May a byte stand in a key? May a text be one? -/
def signB (x : Int) : Bool := (decide (97 ≤ x) && decide (x ≤ 122)) || (decide (48 ≤ x) && decide (x ≤ 57))
def keyL (l : List Int) : Bool := decide (1 ≤ l.length) && decide (l.length ≤ 8) && l.all signB
theorem keyL_len {l : List Int} (h : keyL l = true) : 1 ≤ l.length ∧ l.length ≤ 8 := by
  unfold keyL at h
  simp only [Bool.and_eq_true, decide_eq_true_eq] at h
  exact h.1
end Go.Proofs.Ytcodipgooofppaa.OpsM
