/- Sums of bytes as ids: what the project's Sum, and the document's, return. No condition. | What ops.sign and ops.Key return: contracts. -/
import Derived.Test.YteojkfbnenfmkaaDoorShaHJ10
import Derived.Test.YteojkfbnenfmkaaDoorIdW
import Derived.Test.YteojkfbnenfmkaaDoorEncEJ4
import Derived.Test.YteojkfbnenfmkaaDoorRowInJ3
namespace Go.Proofs.YteojkfbnenfmkaaDoor.CmS
set_option maxRecDepth 100000
open Go Go.RowKit IdM IdW Byt

theorem four_B (a : Int) (h : 0 ≤ a ∧ a ≤ 4294967295) : ∀ x ∈ PadM.four8 a, 0 ≤ x ∧ x ≤ 255 := by
  intro x hx
  simp only [PadM.four8, List.mem_cons, List.not_mem_nil, or_false] at hx
  rcases hx with rfl | rfl | rfl | rfl <;> omega
theorem sum_B (l : List Int) : ∀ x ∈ ShaH.sumL l, 0 ≤ x ∧ x ≤ 255 := by
  intro x hx
  unfold ShaH.sumL ShaG.idL at hx
  rw [List.mem_flatMap] at hx
  obtain ⟨i, _, hi⟩ := hx
  exact four_B _ (RotM.u_range _) x hi
/-- The id that bytes have. -/
def sumI (l : List Int) : Idn := ⟨ShaH.sumL l, ShaH.sumL_length l, sum_B l⟩
theorem rowL_of {w : World} {A : Option Addr} {cap : Nat} {l : List Int} (h : Sl w A cap l) : RowIn.RowL .u8 w A l.length cap l := by
  obtain ⟨h1, h2, h3, h4⟩ := h
  refine ⟨h1, h2, ⟨Nat.le_refl _, h1⟩, fun x hx => ?_, ?_⟩
  · have := h3 x hx
    simpa [B, Lit.wf, IntKind.min, IntKind.max, IntKind.bits, IntKind.signed] using this
  · rcases h4 with ⟨r1, r2, r3⟩ | ⟨x, r1, r2⟩
    · exact .inl ⟨r1, by rw [r2]; rfl, r3⟩
    · exact .inr ⟨x, r1, r2⟩
theorem psum {w : World} {A : Option Addr} {cap len : Nat} {l : List Int} (h : Sl w A cap l) (hl : l.length = len) (hm : len ≤ 1099511627776) (hK : ShaE.KIn w) :
    Calls Tryd.prog 42 #[.slice A len cap] w fun e w' => e = .returned (.agg (cs (sumI l))) ∧ Below w.heap.size w w' := by
  subst hl
  have := ShaH.sumW (rowL_of h) hm hK
  rw [List.take_of_length_le (Nat.le_refl _)] at this
  exact this
end Go.Proofs.YteojkfbnenfmkaaDoor.CmS
namespace Go.Proofs.YteojkfbnenfmkaaDoor.OpsK
set_option maxRecDepth 100000
open Go.RowKit Byt OpsM

theorem ret_bool {a b : Bool} (h : a = b) : Ending.returned (.bool a) = .returned (.bool b) := by rw [h]
theorem parts {x : Int} (_h : B x) : (x ≤ 47 ∧ signB x = false) ∨ (48 ≤ x ∧ x ≤ 57 ∧ signB x = true) ∨ (58 ≤ x ∧ x ≤ 96 ∧ signB x = false) ∨ (97 ≤ x ∧ x ≤ 122 ∧ signB x = true) ∨ (123 ≤ x ∧ signB x = false) := by
  have hb : signB x = true ↔ (97 ≤ x ∧ x ≤ 122) ∨ (48 ≤ x ∧ x ≤ 57) := by
    unfold signB
    simp only [Bool.or_eq_true, Bool.and_eq_true, decide_eq_true_eq]
  have hf : signB x = false ↔ ¬ ((97 ≤ x ∧ x ≤ 122) ∨ (48 ≤ x ∧ x ≤ 57)) := by
    rw [← hb]
    simp
  rw [hb, hf]
  omega
theorem sign (x : Int) (hx : B x) (w : World) :
    Calls Tryd.prog 63 #[.int .u8 x] w fun e w' => e = .returned (.bool (signB x)) ∧ w = w' := by
  have hB := hx
  unfold B at hB
  obtain ⟨b0, b1⟩ := hB
  rcases parts hx with ⟨h1, hs⟩ | ⟨h1, h2, hs⟩ | ⟨h1, h2, hs⟩ | ⟨h1, h2, hs⟩ | ⟨h1, hs⟩
  all_goals
    have HS := aside hs
    clear hs
    go_enter Tryd.func63, Tryd.ntmps63
    go_wp2
    go_ret
    refine ⟨ret_bool ?_, rfl⟩
    rw [HS.out]
    try (simp; try omega)

theorem all_take (l : List Int) (k : Nat) (h : k < l.length) : (l.take (k + 1)).all signB = ((l.take k).all signB && signB (l.getD k 0)) := by
  rw [List.take_add_one, List.all_append, List.getElem?_eq_getElem h, List.getD_eq_getElem?_getD, List.getElem?_eq_getElem h]
  simp
theorem keyL_all {l : List Int} (h : 1 ≤ l.length ∧ l.length ≤ 8) (ha : l.all signB = true) : keyL l = true := by
  unfold keyL
  simp [h.1, h.2, ha]
theorem all_false {l : List Int} {k : Nat} (h : k < l.length) (hs : signB (l.getD k 0) = false) : l.all signB = false := by
  rw [List.all_eq_false]
  refine ⟨l[k], List.getElem_mem h, ?_⟩
  rw [List.getD_eq_getElem?_getD, List.getElem?_eq_getElem h] at hs
  simpa using hs
theorem keyL_no {l : List Int} {k : Nat} (h : k < l.length) (hs : signB (l.getD k 0) = false) : keyL l = false := by
  unfold keyL
  rw [all_false h hs]
  simp
theorem keyL_out {l : List Int} (h : ¬ (1 ≤ l.length ∧ l.length ≤ 8)) : keyL l = false := by
  unfold keyL
  rw [Bool.and_eq_false_iff]
  left
  rw [Bool.and_eq_false_iff, decide_eq_false_iff_not, decide_eq_false_iff_not]
  omega
theorem byte_at (s : ByteArray) (k : Nat) (h : k < s.size) : (bytesL s).getD k 0 = (s[k].toNat : Int) := by
  unfold bytesL
  have h1 : k < s.data.toList.length := by simpa using h
  rw [List.getD_eq_getElem?_getD, List.getElem?_map, List.getElem?_eq_getElem h1]
  rfl

set_option maxHeartbeats 1000000 in
theorem key (s : ByteArray) (hs : s.size ≤ maxLen) (w : World) :
    Calls Tryd.prog 48 #[.string s] w fun e w' => e = .returned (.bool (keyL (bytesL s))) ∧ w = w' := by
  unfold maxLen at hs
  have hl := bytesL_length s
  by_cases h1 : s.size < 1
  · have HR := aside (keyL_out (l := bytesL s) (by omega))
    clear hl
    go_enter Tryd.func48, Tryd.ntmps48
    go_wp2
    go_ret
    exact ⟨ret_bool HR.out.symm, rfl⟩
  · by_cases h8 : 8 < s.size
    · have HR := aside (keyL_out (l := bytesL s) (by omega))
      clear hl
      go_enter Tryd.func48, Tryd.ntmps48
      go_wp2
      go_ret
      exact ⟨ret_bool HR.out.symm, rfl⟩
    · have HL := aside hl
      clear hl
      go_enter Tryd.func48, Tryd.ntmps48
      go_wp2
      go_loop [14] (fun i => ∃ k : Nat, k ≤ s.size ∧ i = .int .i64 k ∧ Hid (((bytesL s).take k).all signB = true)) (fun i => s.size - (intOf i).toNat)
      case atStart => exact ⟨0, Nat.zero_le _, rfl, aside (by simp)⟩
      case round =>
        obtain ⟨k, hk, rfl, HA⟩ := hrel
        by_cases hlt : k < s.size
        · have hb := byte_at s k hlt
          have hB : B (s[k].toNat : Int) := by have := s[k].toNat_lt; unfold B; omega
          have hsg := sign (s[k].toNat : Int) hB
          cases hs : signB (s[k].toNat : Int) with
          | true =>
            rw [hs] at hsg
            have HS : Hid (signB ((bytesL s).getD k 0) = true) := aside (by rw [hb, hs])
            clear hb hs hB
            go_wp2_with (first | (refine (hsg _).mono ?_; rintro e w' ⟨rfl, rfl⟩))
            go_round
            case rel => exact ⟨k + 1, by omega, by go_num, aside (by rw [all_take _ _ (by rw [HL.out]; exact hlt), HA.out, HS.out]; rfl)⟩
            case measure => simp [intOf]; omega
          | false =>
            rw [hs] at hsg
            have HS : Hid (signB ((bytesL s).getD k 0) = false) := aside (by rw [hb, hs])
            clear hb hs hB
            go_wp2_with (first | (refine (hsg _).mono ?_; rintro e w' ⟨rfl, rfl⟩))
            go_ret
            exact ⟨ret_bool (keyL_no (by rw [HL.out]; exact hlt) HS.out).symm, rfl⟩
        · go_wp2
          go_ret
          refine ⟨ret_bool (keyL_all (by rw [HL.out]; omega) ?_).symm, rfl⟩
          have := HA.out
          rwa [List.take_of_length_le (by rw [HL.out]; omega)] at this
end Go.Proofs.YteojkfbnenfmkaaDoor.OpsK
