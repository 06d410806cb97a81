/- What the document's answer Hex returns: a contract. -/
import Derived.Test.YtbggegpbcgcknaaIdH
namespace Go.Proofs.Ytbggegpbcgcknaa.IdI
open Go Go.RowKit IdM Byt IdW IdB IdH

theorem strOf_append (a b : List Int) : strOf a ++ strOf b = strOf (a ++ b) := by
  apply ByteArray.ext
  simp [strOf, ByteArray.data_append]

theorem two_length : ∀ l : List Int, (l.flatMap fun n => [hd (n / 16), hd (n % 16)]).length = 2 * l.length
  | [] => rfl
  | a :: l => by
    rw [List.flatMap_cons, List.length_append, two_length l, List.length_cons]
    simp
    omega
theorem hexL_length (x : Idn) : (hexL x).length = 64 := by rw [hexL, two_length, Idn_len]
theorem strOf_size (l : List Int) : (strOf l).size = l.length := by simp [strOf, ByteArray.size]
theorem cut_nat : ∀ n : Fin 16, (⟨#[48, 49, 50, 51, 52, 53, 54, 55, 56, 57, 97, 98, 99, 100, 101, 102]⟩ : ByteArray).extract n.1 (n.1 + 1) = strOf [hd n.1] := by decide +kernel
theorem cut_at {d : Int} (h0 : 0 ≤ d) (h1 : d ≤ 15) (w : World) : (Instr.sliceAt 9 (.string ⟨#[48, 49, 50, 51, 52, 53, 54, 55, 56, 57, 97, 98, 99, 100, 101, 102]⟩) (some (.int .i64 d)) (some (.int .i64 (d + 1))) none).run Try.prog w = .ok (.string (strOf [hd d])) w := by
  have e : ((d.toNat : Nat) : Int) = d := by omega
  have q := cut_nat ⟨d.toNat, by omega⟩
  have s16 : (⟨#[48, 49, 50, 51, 52, 53, 54, 55, 56, 57, 97, 98, 99, 100, 101, 102]⟩ : ByteArray).size = 16 := rfl
  simp only [e] at q
  rw [run_sliceAt_string w _ _ _ _ _ Try.underlying9, run_slice_string w _ _ .i64 .i64 d (d + 1) Try.underlying9 h0 (by omega) (by rw [s16]; omega), show (d + 1).toNat = d.toNat + 1 by omega, q]

set_option maxHeartbeats 1000000 in
theorem rhex_ret (x : Idn) (w : World) : Calls Try.prog 28 #[.agg (cs x)] w fun e w' => e = .returned (.string (strOf (hexL x))) ∧ Below w.heap.size w w' := by
  have B1 : Box (w.alloc (.cells (cs x) 24)) w.heap.size x := Box.new w x _
  go_enter Try.func28, Try.ntmps28
  go_wp2_with fail
  go_loopw [4, 5] (fun v i wr => ∃ (k : Nat) (s : ByteArray), k ≤ 32 ∧ i = .int .i64 k ∧ v = .string s ∧ Hid (s = strOf ((x.1.take k).flatMap fun n => [hd (n / 16), hd (n % 16)])) ∧ Box wr w.heap.size x ∧ Below w.heap.size w wr) (fun _ i _ => 32 - (intOf i).toNat)
  case atStart => exact ⟨0, _, Nat.zero_le _, rfl, rfl, aside rfl, B1, (Below.refl _ _).alloc (Nat.le_refl _) _⟩
  case round =>
    clear B1
    obtain ⟨k, s, hk, rfl, rfl, hs, B1, kb⟩ := hrel
    by_cases hlt : k < 32
    · have hc := B1.cell k hlt
      have hB := Idn_at_range x k
      obtain ⟨a, ha⟩ : ∃ a, x.1.getD k 0 = a := ⟨_, rfl⟩
      rw [ha] at hc hB
      have HA := aside ha
      clear ha
      obtain ⟨h0, h255⟩ := hB
      have m0 : ((k : Int)).toNat = k := by omega
      have p0 : (k : Int) < 32 := by omega
      have z0 : s.size ≤ 64 := by
        rw [hs.out, strOf_size, two_length]
        simp
        omega
      have z1 : (strOf [hd (a / 16)]).size = 1 := strOf_size _
      have z2 : (strOf [hd (a % 16)]).size = 1 := strOf_size _
      have y1 : s.size + 1 < 140737488355328 := by omega
      have y2 : (s ++ strOf [hd (a / 16)]).size + 1 < 140737488355328 := by rw [ByteArray.size_append, z1]; omega
      have c1 := cut_at (d := a / 16) (by omega) (by omega)
      have c2 := cut_at (d := a % 16) (by omega) (by omega)
      have o1 : 0 ≤ a / 16 := by omega
      have o2 : 0 ≤ a % 16 := by omega
      go_wp2
      refine wp_region_quiet_lit (by kernel_rfl) (by kernel_rfl) ?_
      repeat (go_big_quiet_step (fail))
      refine wpQuiet_nil ?_
      rintro _ ⟨nq, rfl⟩
      go_wp2
      go_roundw
      case rel =>
        refine ⟨k + 1, _, by omega, by go_num, rfl, aside ?_, B1.drewN _, below_drew kb _⟩
        have e : (x.1.take (k + 1)).flatMap (fun n => [hd (n / 16), hd (n % 16)]) = (x.1.take k).flatMap (fun n => [hd (n / 16), hd (n % 16)]) ++ ([hd (a / 16)] ++ [hd (a % 16)]) := by
          rw [List.take_add_one, List.flatMap_append, ← HA.out, List.getD_eq_getElem?_getD, List.getElem?_eq_getElem (by rw [Idn_len]; exact hlt)]
          simp
        rw [e, ← strOf_append, ← strOf_append, ← hs.out, ByteArray.append_assoc]
      case measure => simp [intOf]; omega
    · have e : k = 32 := by omega
      subst e
      rw [List.take_of_length_le (by rw [Idn_len x]; omega)] at hs
      go_wp2
      go_ret
      exact ⟨by rw [show hexL x = x.1.flatMap (fun n => [hd (n / 16), hd (n % 16)]) from rfl, ← hs.out]; rfl, kb⟩
end Go.Proofs.Ytbggegpbcgcknaa.IdI
