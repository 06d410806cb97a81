/- Two operations compared; whether an operation's texts are short. No condition. -/
import Derived.Test.YtkjhjaeglgoepaaOpsC
namespace Go.Proofs.Ytkjhjaeglgoepaa.OpsE
open Go Go.RowKit Go.Sort Byt OpsM OpsK OpsW OpsC

/-- Are two operations the same? -/
def sameB (x y : Opn) : Bool := decide (x.kind = y.kind) && (decide (x.key.toList = y.key.toList) && (decide (x.elem.toList = y.elem.toList) && decide (x.n = y.n)))
theorem sameB_iff {x y : Opn} : sameB x y = true ↔ x = y := by
  unfold sameB
  simp only [Bool.and_eq_true, decide_eq_true_eq]
  constructor
  · rintro ⟨h1, h2, h3, h4⟩
    cases x; cases y
    simp only at h1 h2 h3 h4
    rw [toList_inj] at h2 h3
    subst h1 h2 h3 h4
    rfl
  · rintro rfl; exact ⟨rfl, rfl, rfl, rfl⟩
theorem sameB_self (x : Opn) : sameB x x = true := sameB_iff.2 rfl
theorem equal (w : World) (x y : Opn) : (Op.equalIn 10000 23 (.agg (opc x)) (.agg (opc y))).run Try.prog w = .ok (sameB x y) w := by
  have hS : Try.prog.underlying 23 = some (.struct (Try.prog.fieldsOf 23)) := by kernel_rfl
  rw [show (10000 : Nat) = 9999 + 1 from rfl, run_equalIn_agg w 9999 23 _ _ hS (by kernel_rfl)]
  simp only [Program.fieldsOf, Try.underlying23, opc]
  go_simp
  unfold sameB
  split
  · split
    · split
      · split <;> simp_all
      · simp_all
    · simp_all
  · simp_all
theorem equal_yes (x : Opn) : ∀ W : World, (Op.equalIn 10000 23 (.agg (opc x)) (.agg (opc x))).run Try.prog W = .ok true W := fun W => by rw [equal, sameB_self]

def shortB (o : Opn) : Bool := decide (o.key.size ≤ 100) && decide (o.elem.size ≤ 100)
set_option maxHeartbeats 1000000 in
theorem short (o : Opn) (w : World) (hf : Fit o) :
    Calls Try.prog 9 #[.agg (opc o)] w fun e w' => e = .returned (.bool (shortB o)) ∧ Below w.heap.size w w' := by
  have O1 := OpAt.new w o 23
  have c1 := O1.key
  have c2 := O1.elem
  obtain ⟨k1, k2⟩ := (⟨hf.key, hf.elem⟩ : _ ∧ _)
  unfold maxLen at k1 k2
  by_cases h1 : o.key.size ≤ 100
  · by_cases h2 : o.elem.size ≤ 100
    · have HR : Hid (shortB o = true) := aside (by unfold shortB; simp [h1, h2])
      go_enter Try.func9, Try.ntmps9
      go_wp2
      go_ret
      refine ⟨ret_bool ?_, below_alloc _ _⟩
      rw [HR.out]
      try (simp; try omega)
    · have HR : Hid (shortB o = false) := aside (by unfold shortB; simp [h2])
      go_enter Try.func9, Try.ntmps9
      go_wp2
      go_ret
      refine ⟨ret_bool ?_, below_alloc _ _⟩
      rw [HR.out]
      try (simp; try omega)
  · have HR : Hid (shortB o = false) := aside (by unfold shortB; simp [h1])
    go_enter Try.func9, Try.ntmps9
    go_wp2
    go_ret
    refine ⟨ret_bool ?_, below_alloc _ _⟩
    rw [HR.out]
    try (simp; try omega)

/-- One that may be is one that a walk may meet. -/
theorem mayO_fit {o : Opn} (h : mayO o = true) : Fit o := by
  obtain ⟨hk, hr⟩ := mayO_kind h
  have h1 := keyL_len hk
  have h2 := bytesL_length o.key
  have h3 := bytesL_length o.elem
  rcases hr with ⟨h0, hs⟩ | ⟨h0, he⟩
  · rw [stepB_iff] at hs
    obtain ⟨a, b, _, d⟩ := hs
    rw [d] at h3
    simp at h3
    exact ⟨by unfold I64; omega, by unfold I64; omega, by unfold maxLen; omega, by unfold maxLen; omega⟩
  · rw [elemB_iff] at he
    have := keyL_len he.1
    exact ⟨by unfold I64; omega, by unfold I64; omega, by unfold maxLen; omega, by unfold maxLen; omega⟩
/-- A guarded operation that is wanted, as one without a guard. -/
theorem unguard {P : Program} {ops : Array Oper} {rest : List Oper} {o : Oper} {a : Act} {w : World} {Q : Exit → Act → World → Prop} (hw : Region.wanted o (yielded ops a.tmps) = true)
    (h : wpList P ops Q ({ o with guard := none } :: rest) a w) : wpList P ops Q (o :: rest) a w := by
  unfold wpList at h ⊢
  rw [if_pos hw]
  rw [if_pos (by simp [Region.wanted])] at h
  exact h
end Go.Proofs.Ytkjhjaeglgoepaa.OpsE
