/- What Hex and Read (of ids, and of the document's answers) return: contracts. -/
import Derived.Test.YtbggegpbcgcknaaIdB
import Derived.Test.YtbggegpbcgcknaaIdC
import Derived.Test.YtbggegpbcgcknaaBytR
import Derived.Test.YtbggegpbcgcknaaGrowB
namespace Go.Proofs.Ytbggegpbcgcknaa.IdH
open Go Go.RowKit IdM Byt IdW IdB

/-- A digit's sign, and a sign's number. -/
def hd (d : Int) : Int := if d < 10 then 48 + d else 87 + d
def dig (c : Int) : Int := if 48 ≤ c ∧ c ≤ 57 then c - 48 else if 97 ≤ c ∧ c ≤ 102 then c - 87 else -1
theorem dig_hd {d : Int} (h0 : 0 ≤ d) (h1 : d ≤ 15) : dig (hd d) = d := by
  unfold hd dig
  split <;> split <;> (try split) <;> omega
theorem hd_dig {c : Int} (h : 0 ≤ dig c) : hd (dig c) = c ∧ dig c ≤ 15 := by
  unfold hd dig at *
  split at h
  · rename_i h1
    rw [if_pos h1]
    split <;> omega
  · rename_i h1
    split at h
    · rename_i h2
      rw [if_neg h1, if_pos h2]
      split <;> omega
    · omega
theorem hd_B {d : Int} (h0 : 0 ≤ d) (h1 : d ≤ 15) : B (hd d) := by
  unfold hd B
  split <;> omega
def hexL (x : Idn) : List Int := x.1.flatMap fun n => [hd (n / 16), hd (n % 16)]
theorem hexL_B (x : Idn) : ∀ n ∈ hexL x, B n := by
  intro n hn
  simp only [hexL, List.mem_flatMap] at hn
  obtain ⟨a, ha, hn⟩ := hn
  have := x.2.2 a ha
  simp at hn
  rcases hn with rfl | rfl
  · exact hd_B (by omega) (by omega)
  · exact hd_B (by omega) (by omega)
theorem new2 (w : World) (a b : Int) (t : TypeId) (ha : B a) (hb : B b) : Sl (w.alloc (.cells #[.int .u8 a, .int .u8 b] t)) (some ⟨w.heap.size, 0, none⟩) 2 [a, b] :=
  Sl.of_cells (l := [a, b]) (heap_alloc_new w _) (by simp [maxLen]) (by intro x hx; simp at hx; rcases hx with rfl | rfl; exact ha; exact hb)

set_option maxHeartbeats 1000000 in
theorem digit_ret (c : Int) (hc : B c) (w : World) : Calls Try.prog 33 #[.int .u8 c] w fun e w' => e = .returned (.int .i64 (dig c)) ∧ w' = w := by
  unfold B at hc
  obtain ⟨r, hr0⟩ : ∃ r, dig c = r := ⟨_, rfl⟩
  rw [hr0]
  unfold dig at hr0
  by_cases h1 : 48 ≤ c
  · by_cases h2 : c ≤ 57
    · rw [if_pos ⟨h1, h2⟩] at hr0
      have HR := aside hr0
      clear hr0
      go_enter Try.func33, Try.ntmps33
      go_wp2
      go_ret
      exact ⟨by rw [← HR.out]; rfl, rfl⟩
    · by_cases h3 : 97 ≤ c
      · by_cases h4 : c ≤ 102
        · rw [if_neg (by omega), if_pos ⟨h3, h4⟩] at hr0
          have HR := aside hr0
          clear hr0
          go_enter Try.func33, Try.ntmps33
          go_wp2
          go_ret
          refine ⟨?_, rfl⟩
          rw [← HR.out]
          show Ending.returned (Value.int .i64 _) = _
          congr 2
          omega
        · rw [if_neg (by omega), if_neg (by omega)] at hr0
          have HR := aside hr0
          clear hr0
          go_enter Try.func33, Try.ntmps33
          go_wp2
          go_ret
          exact ⟨by rw [← HR.out]; rfl, rfl⟩
      · rw [if_neg (by omega), if_neg (by omega)] at hr0
        have HR := aside hr0
        clear hr0
        go_enter Try.func33, Try.ntmps33
        go_wp2
        go_ret
        exact ⟨by rw [← HR.out]; rfl, rfl⟩
  · rw [if_neg (by omega), if_neg (by omega)] at hr0
    have HR := aside hr0
    clear hr0
    go_enter Try.func33, Try.ntmps33
    go_wp2
    go_ret
    exact ⟨by rw [← HR.out]; rfl, rfl⟩

theorem str_get (s : ByteArray) (i : Nat) (h : i < s.size) : ((s[i]'h).toNat : Int) = (bytesL s).getD i 0 := by
  rw [List.getD_eq_getElem?_getD, List.getElem?_eq_getElem (by rw [bytesL_length]; exact h), Option.getD_some]
  simp only [bytesL, List.getElem_map, Array.getElem_toList]
  rfl
theorem sgn_bytes : bytesL ⟨#[48, 49, 50, 51, 52, 53, 54, 55, 56, 57, 97, 98, 99, 100, 101, 102]⟩ = [48, 49, 50, 51, 52, 53, 54, 55, 56, 57, 97, 98, 99, 100, 101, 102] := by decide +kernel
theorem sgn_nat : ∀ n : Fin 16, [48, 49, 50, 51, 52, 53, 54, 55, 56, 57, 97, 98, 99, 100, 101, 102].getD n.1 0 = hd n.1 := by decide +kernel
theorem sgn_at {d : Int} (h0 : 0 ≤ d) (h1 : d ≤ 15) (h : d.toNat < (⟨#[48, 49, 50, 51, 52, 53, 54, 55, 56, 57, 97, 98, 99, 100, 101, 102]⟩ : ByteArray).size) : (((⟨#[48, 49, 50, 51, 52, 53, 54, 55, 56, 57, 97, 98, 99, 100, 101, 102]⟩ : ByteArray)[d.toNat]'h).toNat : Int) = hd d := by
  rw [str_get, sgn_bytes, sgn_nat ⟨d.toNat, by omega⟩]
  congr 1
  exact Int.toNat_of_nonneg h0
theorem index_id (x : Idn) (k : Nat) (hk : k < 32) (w : World) : (Instr.index 24 (.agg (cs x)) (.int .i64 k)).run Try.prog w = .ok (.int .u8 (x.1.getD k 0)) w := by
  obtain ⟨i, hi, z0, z1, _⟩ := info_parts zero_u8
  have hc := cs_at x k hk
  have h1 : 0 ≤ (k : Int) ∧ (k : Int) < (32 : Nat) := by omega
  have sv : ∀ w, (sizeOf 5).run Try.prog w = .ok 1 w := fun w => by simp [sizeOf, typeInfo, hi, z1]
  unfold Instr.index
  simp only [asIntOf, Sem.run_bind, Sem.run_pure, Result.andThen_ok, run_underlying Try.underlying24, if_pos h1, sv, Nat.mul_one, Int.toNat_natCast]
  exact ArrEq.run_part_int Try.underlying5 (cs x) k _ hc w

set_option maxHeartbeats 1000000 in
theorem hex_ret (x : Idn) (w : World) : Calls Try.prog 27 #[.agg (cs x)] w fun e w' => e = .returned (.string (strOf (hexL x))) ∧ Below w.heap.size w w' := by
  have B1 : Box (w.alloc (.cells (cs x) 24)) w.heap.size x := Box.new w x _
  obtain ⟨i, hi, z0, z1, z2⟩ := info_parts zero_u8
  obtain ⟨w1, hmk0, own1, g1⟩ := run_make_own (P := Try.prog) (w.alloc (.cells (cs x) 24)) w.heap.size 47 5 i (.int .u8 0) 1 Try.underlying47 hi z0 z1 .i64 .i64 64 (by rw [z2]; omega) (by unfold maxLen; omega) (by simp)
  have hmk : (Instr.makeSlice 47 (.int .i64 0) (.int .i64 64)).run Try.prog (w.alloc (.cells (cs x) 24)) = .ok (.slice (some ⟨(w.alloc (.cells (cs x) 24)).heap.size, 0, none⟩) 0 64) w1 := hmk0
  have B2 : Box w1 w.heap.size x := by
    obtain ⟨t, ht⟩ := B1
    exact ⟨t, by rw [g1.block _ (by simp) (by simp), ht]⟩
  have k1 : Below w.heap.size w w1 := below_grown ((Below.refl _ _).alloc (Nat.le_refl _) _) (by simp) g1 (fun k hk => by cases hk)
  clear hmk0 hi z0 z1 z2 g1 B1
  go_enter Try.func27, Try.ntmps27
  go_wp2_with (refine wpList_load_box rfl _ rfl _ rfl x B2 ?_)
  go_loopw [3, 8] (fun v i wr => ∃ k : Nat, k ≤ 32 ∧ i = .int .i64 k ∧ wr.ownsRow w.heap.size 5 1 v (2 * k) (bv ((x.1.take k).flatMap fun n => [hd (n / 16), hd (n % 16)])) ∧ Below w.heap.size w wr) (fun _ i _ => 32 - (intOf i).toNat)
  case atStart =>
    have e0 : (w.alloc (.cells (cs x) 24)).heap.size = w.heap.size + 1 := by simp
    rw [e0] at own1
    exact ⟨0, Nat.zero_le _, rfl, own1, k1⟩
  case round =>
    clear own1 k1 B2 hmk
    obtain ⟨k, hk, rfl, hrow, kb⟩ := hrel
    by_cases hlt : k < 32
    · have hix := index_id x k hlt
      have hB := Idn_at_range x k
      obtain ⟨a, ha⟩ : ∃ a, x.1.getD k 0 = a := ⟨_, rfl⟩
      rw [ha] at hix hB
      have HA := aside ha
      clear ha
      have e1 := sgn_at (d := a / 16) (by omega) (by omega)
      have e2 := sgn_at (d := a % 16) (by omega) (by omega)
      have o1 : 0 ≤ a / 16 := by omega
      have p1 : a / 16 < 16 := by omega
      have o2 : 0 ≤ a % 16 := by omega
      have p2 : a % 16 < 16 := by omega
      go_wp2
      refine GrowB.region w.heap.size [(0, true), (1, true), (2, true), (3, true), (4, true), (5, true), (6, true), (7, false), (8, false), (9, true)] (by kernel_rfl) (by kernel_rfl) rfl (by kernel_rfl) (by intro c a d v w h; cases d <;> exact h) ?_
      have hrow' : wr.drew.ownsRow w.heap.size 5 1 u3 (2 * k) (bv ((x.1.take k).flatMap fun n => [hd (n / 16), hd (n % 16)])) := hrow
      have kd := below_drew1 kb
      generalize wr.drew = W at hrow' kd ⊢
      repeat (refine GrowB.reads rfl rfl ?_; go_big_quiet_step (fail); refine wpQuiet_nil ?_)
      refine GrowB.acts rfl ?_
      go_wp2_with fail
      refine ⟨(Below.refl _ _).alloc kd.size _, ?_⟩
      refine GrowB.acts rfl ?_
      refine wpList_append_sl rfl _ _ 47 rfl w.heap.size 5 Try.underlying47 zero_u8 _ _ _ rfl (hrow'.alloc _) _ 2 2 [hd (a / 16), hd (a % 16)] rfl rfl (new2 W _ _ _ (hd_B o1 (by omega)) (hd_B o2 (by omega))) (by omega) (by have := kd.size; simp; omega) ?_
      intro v6 w6 o6 g6
      have k6 : Below w.heap.size w w6 := below_grown (kd.alloc kd.size _) (by have := kd.size; simp; omega) g6 (fun k hk => (hrow.lt k hk).1)
      simp only [Act.put, List.setIfInBounds_toArray, List.set_cons_succ, List.set_cons_zero]
      refine ⟨⟨g6.os, g6.tape, g6.output, g6.size, fun j hj => ?_⟩, ?_⟩
      · refine g6.block j (by have := kd.size; simp; omega) (fun e => ?_)
        have := (hrow.lt j e.symm).1
        omega
      refine GrowB.reads rfl rfl ?_
      go_big_quiet_step (fail)
      refine wpQuiet_nil ?_
      refine GrowB.ends ?_
      go_wp2
      go_roundw
      case rel =>
        refine ⟨k + 1, by omega, by go_num, ?_, k6⟩
        have e : (x.1.take (k + 1)).flatMap (fun n => [hd (n / 16), hd (n % 16)]) = (x.1.take k).flatMap (fun n => [hd (n / 16), hd (n % 16)]) ++ [hd (a / 16), hd (a % 16)] := by
          rw [List.take_add_one, List.flatMap_append, ← HA.out, List.getD_eq_getElem?_getD, List.getElem?_eq_getElem (by rw [Idn_len]; exact hlt)]
          simp
        rw [e, show 2 * (k + 1) = 2 * k + 2 by omega]
        exact o6
      case measure => simp [intOf]; omega
    · have e : k = 32 := by omega
      subst e
      rw [List.take_of_length_le (by rw [Idn_len x]; omega)] at hrow
      have hB := hexL_B x
      obtain ⟨L, hL⟩ : ∃ L, hexL x = L := ⟨_, rfl⟩
      have hrow2 : wr.ownsRow w.heap.size 5 1 u3 (2 * 32) (bv (hexL x)) := hrow
      rw [hL] at hB hrow2
      have HL := aside hL
      clear hL hrow
      obtain ⟨A6, c6, rfl, S6⟩ := Sl.own hrow2 hB
      have hcv := S6.conv rfl
      go_wp2
      go_ret
      exact ⟨by rw [HL.out]; rfl, kb⟩
end Go.Proofs.Ytbggegpbcgcknaa.IdH
