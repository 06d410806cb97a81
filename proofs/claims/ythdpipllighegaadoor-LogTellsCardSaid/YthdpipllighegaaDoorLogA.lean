/- The chapter's own example: 'awake' returns true. -/
import Derived.Test.YthdpipllighegaaDoorLogR
import Derived.Test.YthdpipllighegaaDoorLogW
import Derived.Test.YthdpipllighegaaDoorShaAJ2
namespace Go.Proofs.YthdpipllighegaaDoor.LogA
set_option maxRecDepth 100000
open Go Go.Sort Go.RowKit Byt RotG Small EncM EncC LogM LogC LogD LogE LogB LogW

theorem frame_nil : frameL [] = [0, 227, 176, 196, 66] := by
  unfold frameL markL
  rw [ShaA.sumL_0, numL_one (by simp)]
  rfl
theorem first_rest : frameO [] = ([0, 227, 176, 196, 66], 0) := by
  unfold frameO
  rw [if_pos (by simp), frame_nil]
theorem read_one : readL [0, 227, 176, 196, 66] = ([[]], 5) := by
  have h := readL_frame (x := []) (by simp) []
  rw [List.append_nil, readL_none firstL_nil, frame_nil] at h
  exact h
theorem len_a : (frameL [97]).length = 6 := by
  rw [frameL_len, numL_one (by simp)]
  rfl
theorem write_one : writeO [0, 227, 176, 196, 66] [97] 20 = ([0, 227, 176, 196, 66] ++ frameL [97], 0) := by
  unfold writeO
  rw [if_neg (by simp), len_a, if_neg (by simp)]
theorem mend_one : (mendL (([0, 227, 176, 196, 66] ++ frameL [97]).take 7)).length = 5 := by
  have e : catL [[], [97]] = [0, 227, 176, 196, 66] ++ frameL [97] := by
    rw [catL_cons, catL_cons, catL_nil, List.append_nil, frame_nil]
  have e1 : catL (([[], [97]] : List (List Int)).take 1) = [0, 227, 176, 196, 66] := by
    show catL [[]] = _
    rw [catL_cons, catL_nil, List.append_nil, frame_nil]
  have e2 : catL (([[], [97]] : List (List Int)).take (1 + 1)) = [0, 227, 176, 196, 66] ++ frameL [97] := e
  have h := readL_cut (l := [[], [97]]) (by simp) (want := 1) (at_ := 7) (by simp) (by rw [e1]; simp) (fun _ => by rw [e2, List.length_append, len_a]; simp)
  rw [e, e1] at h
  unfold mendL
  rw [h, List.length_take, List.length_take, List.length_append, len_a]
  rfl
theorem str5 : strOf [0, 227, 176, 196, 66] = ⟨#[0, 227, 176, 196, 66]⟩ := by kernel_rfl
set_option maxRecDepth 100000 in
set_option maxHeartbeats 8000000 in
theorem awake (w : World) (hK : ShaE.KIn w) :
    Calls Tryd.prog 7 #[] w fun e w' => e = .returned (.bool true) ∧ Below w.heap.size w w' := by
  have kcv := fun (w : World) (C : Array Value) (n c : Nat) => Lib.run_convert_bytes_const (P := Tryd.prog) w 22 5 C n c Tryd.underlying22 Tryd.underlying5
  have q1 := frame_ret (w := w) (Sl.nil w) rfl hK
  rw [first_rest] at q1
  go_enter Tryd.func7, Tryd.ntmps7
  go_wp2_with (first | go_skip)
  refine q1.mono ?_
  rintro e w1 ⟨A1, c1, rfl, S1, k1⟩
  simp only [] at S1
  clear q1
  have q2 := LogR.read_ret S1 rfl (by simp) (hK.below k1)
  rw [read_one] at q2
  go_wp2_with (first | go_skip)
  refine q2.mono ?_
  rintro e w2 ⟨A2, c2, ps, rfl, hps, S2, k2⟩
  have hl2 : ps.length = 1 := by rw [← tx_len, hps]; rfl
  have T1 := S1.below k2
  have b2 := k1.trans (k2.mono k1.size)
  clear q2 S1 k1 k2 hps
  have k3 : Below w2.heap.size w2 (w2.alloc (.cells #[.int .u8 97] 5 (1, 2))) := (Below.refl _ _).alloc (Nat.le_refl _) _
  have U1 := T1.below k3
  have b3 := b2.trans (k3.mono b2.size)
  have q3 := write_ret (room := 20) U1 (Sl.of_cells (l := [97]) (heap_alloc_new w2 _) (by simp [maxLen]) (by unfold Byt.B; decide)) rfl rfl (by simp) (hK.below b3)
  rw [write_one] at q3
  rw [hl2]
  go_wp2_with (first | go_skip)
  refine q3.mono ?_
  rintro e w4 ⟨A4, c4, rfl, S4, k4⟩
  have W1 := U1.below k4
  have b4 := b3.trans (k4.mono b3.size)
  clear q3 kcv T1 U1 b2 b3 k3 k4 S2
  have hcv := W1.conv (len := 5) rfl
  rw [str5] at hcv
  have tq : ((⟨#[0, 227, 176, 196, 66]⟩ : ByteArray).toList == (⟨#[0, 227, 176, 196, 66]⟩ : ByteArray).toList) = true := by simp
  have e11 : ([0, 227, 176, 196, 66] ++ frameL [97] : List Int).length = 11 := by rw [List.length_append, len_a]; rfl
  obtain ⟨A5, c5, hs5, S5, hl5⟩ := S4.part 0 7 (by omega) (by rw [e11]; omega)
  have hr5 := fun W => run_part_h W A4 11 c4 .i64 7 (by have := S4.1; simp only [e11] at this; omega)
  rw [hs5, show ((7 : Nat) : Int) = 7 from rfl] at hr5
  rw [List.drop_zero] at S5 hl5
  have q5 := LogR.mend_ret S5 hl5 (by omega) (hK.below b4)
  have hm := mend_one
  rw [e11]
  rw [Nat.sub_zero] at q5 hr5
  have p7 : (7 : Int) ≤ c4 := by have := S4.1; simp only [e11] at this; omega
  clear hs5 S4 S5 W1 hl5
  go_wp2_with (first | go_skip)
  refine q5.mono ?_
  rintro e w5 ⟨A6, c6, rfl, S6, k6, _⟩
  have b6 := b4.trans (k6.mono b4.size)
  rw [hm]
  go_wp2_with (first | go_skip)
  go_ret
  exact ⟨rfl, b6⟩
end Go.Proofs.YthdpipllighegaaDoor.LogA
