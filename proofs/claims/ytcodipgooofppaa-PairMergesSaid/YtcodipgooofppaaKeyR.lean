/- What the document's Key of package ops returns: a contract. -/
import Derived.Test.YtcodipgooofppaaOpsK
namespace Go.Proofs.Ytcodipgooofppaa.OpsR
open Go Go.RowKit Byt OpsM OpsK

set_option maxHeartbeats 2000000 in
theorem key_any (s : ByteArray) (hs : s.size ≤ maxLen) (w : World) :
    Calls Try.prog 25 #[.string s] w fun e w' => e = .returned (.bool (keyL (bytesL s))) ∧ w = w' := by
  unfold maxLen at hs
  have hl := bytesL_length s
  have HL := aside hl
  clear hl
  go_enter Try.func25, Try.ntmps25
  go_wp2
  go_loop [3] (fun i => ∃ k : Nat, k ≤ s.size ∧ i = .int .i64 k ∧ Hid (((bytesL s).take k).all signB = true)) (fun i => s.size - (intOf i).toNat)
  case atStart => exact ⟨0, Nat.zero_le _, rfl, aside (by simp)⟩
  case round =>
    obtain ⟨k, hk, rfl, HA⟩ := hrel
    by_cases hlt : k < s.size
    · have hb := byte_at s k hlt
      have hB : B (s[k].toNat : Int) := by have := s[k].toNat_lt; unfold B; omega
      have hp := parts hB
      have hB0 : 0 ≤ (s[k].toNat : Int) := by omega
      rcases hp with ⟨h1, hs⟩ | ⟨h1, h2, hs⟩ | ⟨h1, h2, hs⟩ | ⟨h1, h2, hs⟩ | ⟨h1, hs⟩
      · rw [← hb] at hs
        have HS := aside hs
        clear hs hb hB
        go_wp2
        go_ret
        exact ⟨ret_bool (keyL_no (by rw [HL.out]; exact hlt) HS.out).symm, rfl⟩
      · rw [← hb] at hs
        have HS := aside hs
        clear hs hb hB
        have d57 : decide ((s[k].toNat : Int) ≤ 57) = true := by simp; omega
        go_wp2
        go_round
        case rel => exact ⟨k + 1, by omega, by go_num, aside (by rw [all_take _ _ (by rw [HL.out]; exact hlt), HA.out, HS.out]; rfl)⟩
        case measure => simp [intOf]; omega
      · rw [← hb] at hs
        have HS := aside hs
        clear hs hb hB
        have d57 : decide ((s[k].toNat : Int) ≤ 57) = false := by simp; omega
        go_wp2
        go_ret
        exact ⟨ret_bool (keyL_no (by rw [HL.out]; exact hlt) HS.out).symm, rfl⟩
      · rw [← hb] at hs
        have HS := aside hs
        clear hs hb hB
        have d122 : decide ((s[k].toNat : Int) ≤ 122) = true := by simp; omega
        go_wp2
        go_round
        case rel => exact ⟨k + 1, by omega, by go_num, aside (by rw [all_take _ _ (by rw [HL.out]; exact hlt), HA.out, HS.out]; rfl)⟩
        case measure => simp [intOf]; omega
      · rw [← hb] at hs
        have HS := aside hs
        clear hs hb hB
        have d122 : decide ((s[k].toNat : Int) ≤ 122) = false := by simp; omega
        have d57 : decide ((s[k].toNat : Int) ≤ 57) = false := by simp; omega
        go_wp2
        go_ret
        exact ⟨ret_bool (keyL_no (by rw [HL.out]; exact hlt) HS.out).symm, rfl⟩
    · have hall := HA.out
      rw [List.take_of_length_le (by rw [HL.out]; omega)] at hall
      by_cases h1 : s.size < 1
      · have HR := aside (keyL_out (l := bytesL s) (by rw [HL.out]; omega))
        clear hall
        go_wp2
        go_ret
        exact ⟨ret_bool HR.out.symm, rfl⟩
      · by_cases h8 : 8 < s.size
        · have HR := aside (keyL_out (l := bytesL s) (by rw [HL.out]; omega))
          clear hall
          go_wp2
          go_ret
          refine ⟨ret_bool ?_, rfl⟩
          rw [HR.out]
          simp
          omega
        · have HR := aside (keyL_all (l := bytesL s) (by rw [HL.out]; omega) hall)
          clear hall
          go_wp2
          go_ret
          refine ⟨ret_bool ?_, rfl⟩
          rw [HR.out]
          simp
          omega
theorem key (s : ByteArray) (hs : s.size ≤ 1099511627776) (w : World) :
    Calls Try.prog 25 #[.string s] w fun e w' => e = .returned (.bool (keyL (bytesL s))) ∧ w = w' := key_any s (by unfold maxLen; omega) w
end Go.Proofs.Ytcodipgooofppaa.OpsR
