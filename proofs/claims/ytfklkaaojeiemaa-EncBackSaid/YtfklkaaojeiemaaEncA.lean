/- The chapter's own examples: 'awake' returns true. -/
import Derived.Test.YtfklkaaojeiemaaEncE
namespace Go.Proofs.Ytfklkaaojeiemaa.EncA
open Go.RowKit Byt BytR EncM EncC EncG EncE

theorem num300 : numL 300 = [172, 2] := by
  rw [numL_more (by omega), numL_one (by omega)]
  rfl
theorem text_a : textL (bytesL ⟨#[97]⟩) = [1, 97] := by
  have e : bytesL ⟨#[97]⟩ = [97] := by kernel_rfl
  unfold textL
  rw [e, show ([97] : List Int).length = 1 from rfl, numL_one (by omega)]
  rfl
theorem get300 : getL [172, 2, 9] = (300, 2) := by kernel_rfl
theorem cut_a : cutL [1, 97, 98] 5 = some ([97], [98]) := by
  have g : getL [1, 97, 98] = (1, 1) := by kernel_rfl
  unfold cutL
  rw [g]
  decide
theorem str2 : strOf [172, 2] = ⟨#[172, 2]⟩ := by kernel_rfl
theorem str1a : strOf [1, 97] = ⟨#[1, 97]⟩ := by kernel_rfl
theorem stra : strOf [97] = ⟨#[97]⟩ := by kernel_rfl
theorem strb : strOf [98] = ⟨#[98]⟩ := by kernel_rfl
theorem fold1 : foldI (-1) = 1 := by kernel_rfl
theorem unfold1 : unfoldI 1 = -1 := by kernel_rfl

set_option maxRecDepth 100000 in
set_option maxHeartbeats 8000000 in
theorem awake (w : World) : Calls Try.prog 10 #[] w fun e w' => e = .returned (.bool true) ∧ Below w.heap.size w w' := by
  go_enter Try.func10, Try.ntmps10
  go_wp2_with fail
  have hg := get (w := w.alloc (.cells #[.int .u8 172, .int .u8 2, .int .u8 9] 5)) (Sl.of_cells (l := [172, 2, 9]) (heap_alloc_new w _) (by unfold maxLen; decide) (by unfold B; decide)) rfl
  rw [get300] at hg
  refine hg.mono ?_
  clear hg
  rintro e w1 ⟨rfl, h1⟩
  have k1 : Below w.heap.size w w1 := Below.trans (by go_grown) (h1.mono (by simp))
  clear h1
  go_wp2_with fail
  have hc := cut (w := w1.alloc (.cells #[.int .u8 1, .int .u8 97, .int .u8 98] 5)) 5 (Sl.of_cells (l := [1, 97, 98]) (heap_alloc_new w1 _) (by unfold maxLen; decide) (by unfold B; decide)) rfl (by decide) (by omega)
  unfold CutOut at hc
  rw [cut_a] at hc
  simp only [stra] at hc
  refine hc.mono ?_
  clear hc
  rintro e w2 ⟨h2, v2, rfl, hown2⟩
  have k2 : Below w.heap.size w w2 := (k1.alloc k1.size _).trans (h2.mono (by have := k1.size; simp; omega))
  obtain ⟨A2, c2, rfl, hS2⟩ := Sl.own hown2 (by unfold B; decide)
  clear h2 k1 hown2
  go_wp2_with fail
  have hn := num 300 (by unfold Fits; omega) w2
  rw [num300] at hn
  refine hn.mono ?_
  clear hn
  rintro e w3 ⟨v3, rfl, hown3, h3⟩
  have k3 : Below w.heap.size w w3 := k2.trans (h3.mono k2.size)
  have hS2' := hS2.below h3
  obtain ⟨A3, c3, rfl, hS3⟩ := Sl.own hown3 (by unfold B; decide)
  have hcv3 := hS3.conv (len := 2) rfl
  rw [str2] at hcv3
  clear h3 k2 hown3 hS2
  go_wp2_with fail
  clear hcv3 hS3
  have hf := fold (-1) (by omega)
  rw [fold1] at hf
  refine (hf _).mono ?_
  clear hf
  rintro e v ⟨rfl, rfl⟩
  go_wp2_with fail
  have hu := unfold 1 (by omega)
  rw [unfold1] at hu
  refine (hu _).mono ?_
  clear hu
  rintro e v ⟨rfl, rfl⟩
  go_wp2_with fail
  have ht := text ⟨#[97]⟩ (by decide) w3
  rw [text_a] at ht
  refine ht.mono ?_
  clear ht
  rintro e w4 ⟨v4, rfl, hown4, h4⟩
  have k4 : Below w.heap.size w w4 := k3.trans (h4.mono k3.size)
  have hS2 := hS2'.below h4
  obtain ⟨A4, c4, rfl, hS4⟩ := Sl.own hown4 (by unfold B; decide)
  have hcv4 := hS4.conv (len := 2) rfl
  have hcv2 := hS2.conv (len := 1) rfl
  rw [str1a] at hcv4
  rw [strb] at hcv2
  clear h4 k3 hown4 hS2'
  go_wp2_with fail
  go_ret
  exact ⟨rfl, k4⟩
end Go.Proofs.Ytfklkaaojeiemaa.EncA
