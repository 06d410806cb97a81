/- What the document's answer's Num, Fold, Unfold and Text of package enc return: contracts. -/
import Derived.Test.YtkjhjaeglgoepaaEncC
namespace Go.Proofs.Ytkjhjaeglgoepaa.RefE
open Go.RowKit Byt EncM EncC

set_option maxHeartbeats 1000000 in
set_option maxRecDepth 100000 in
theorem num (n : Nat) (hn : Fits n) (w : World) :
    Calls Try.prog 21 #[.int .u64 n] w (New (numL n) w) := by
  have hten := numL_ten hn.lt
  go_enter Try.func21, Try.ntmps21
  go_wp2_with fail
  go_loopw [0, 3] (fun k v wr => ∃ (m : Nat) (pre : List Int), k = .int .u64 m ∧ Fits m ∧ Hid (numL n = pre ++ numL m) ∧ Hid (wr.ownsRow w.heap.size 5 1 v pre.length (bv pre)) ∧ Below w.heap.size w wr) (fun k _ _ => (intOf k).toNat)
  case atStart => exact ⟨n, [], rfl, hn, rfl, World.ownsRow_nil _ _ _ _, Below.refl _ _⟩
  case round =>
    obtain ⟨m, pre, rfl, hm, HN, HO, hb⟩ := hrel
    have hlen : pre.length + (numL m).length ≤ 10 := by
      have := HN.out
      rw [this, List.length_append] at hten
      exact hten
    have hs := hb.size
    by_cases hlt : m < 128
    · go_wp2_with (refine wpList_append_sl rfl (.tmp 15) (.tmp 18) 26 rfl w.heap.size 5 Try.underlying26 zero_u8 _ pre.length pre rfl (HO.out.alloc _) _ 1 1 [(m : Int)] rfl rfl (Sl.new1 _ _ _ ?c1) (by omega) (by simp; omega) ?_; (case c1 => unfold B; omega); intro v1 w1 hown1 hg1; have hb1 : Below w.heap.size w w1 := below_grown (hb.alloc hs _) (by simp; omega) hg1 (fun k hk => (HO.out.lt k hk).1); have HO1 := aside hown1; clear hown1 hg1)
      go_ret
      refine ⟨v1, rfl, ?_, hb1⟩
      rw [HN.out, numL_one hlt]
      simpa using HO1.out
    · have he : [(m : Int) % 128 + 128] = [((m % 128 + 128 : Nat) : Int)] := by congr 1
      have HE := aside he
      clear he
      have hw : IntKind.u64.wrap ((m : Int) / 128) = (m : Int) / 128 := by rw [IntKind.wrap_u64]; have := hm.lt; omega
      go_wp2_with (refine wpList_append_sl rfl (.tmp 6) (.tmp 11) 26 rfl w.heap.size 5 Try.underlying26 zero_u8 _ pre.length pre rfl (HO.out.alloc _) _ 1 1 [(m : Int) % 128 + 128] rfl rfl (Sl.new1 _ _ _ ?c1) (by omega) (by simp; omega) ?_; (case c1 => unfold B; omega); intro v1 w1 hown1 hg1; rw [HE.out] at hown1; have hb1 : Below w.heap.size w w1 := below_grown (hb.alloc hs _) (by simp; omega) hg1 (fun k hk => (HO.out.lt k hk).1); have HO1 := aside hown1; clear hown1 hg1)
      go_roundw
      case rel =>
        refine ⟨m / 128, pre ++ [((m % 128 + 128 : Nat) : Int)], by simp, hm.le (by omega), ?_, by simpa using HO1, hb1⟩
        have := HN.out
        rw [numL_more (n := m) (by omega)] at this
        exact aside (by rw [this]; simp)
      case measure => simp [intOf]; omega

set_option maxRecDepth 100000 in
theorem fold (k : Int) (hk : -9223372036854775808 ≤ k ∧ k ≤ 9223372036854775807) (w : World) :
    Calls Try.prog 23 #[.int .i64 k] w fun e w' => e = .returned (.int .u64 (foldI k)) ∧ w = w' := by
  obtain ⟨h1, h2⟩ := hk
  by_cases h0 : 0 ≤ k
  · go_enter Try.func23, Try.ntmps23
    go_wp2
    go_ret
    exact ⟨ret_int (by unfold foldI; rw [if_pos h0]), rfl⟩
  · go_enter Try.func23, Try.ntmps23
    go_wp2
    go_ret
    exact ⟨ret_int (by unfold foldI; rw [if_neg (by omega)]), rfl⟩
set_option maxRecDepth 100000 in
theorem unfold (n : Int) (hn : 0 ≤ n ∧ n ≤ 18446744073709551615) (w : World) :
    Calls Try.prog 31 #[.int .u64 n] w fun e w' => e = .returned (.int .i64 (unfoldI n)) ∧ w = w' := by
  obtain ⟨h1, h2⟩ := hn
  by_cases h0 : n % 2 = 0
  · have t1 : (n % 2 == 0) = true := by simpa using h0
    have HU := aside h0
    clear h0
    go_enter Try.func31, Try.ntmps31
    go_wp2
    go_ret
    exact ⟨ret_int (by unfold unfoldI; rw [if_pos HU.out]), rfl⟩
  · have t1 : (n % 2 == 0) = false := by simpa using h0
    have HU := aside h0
    clear h0
    go_enter Try.func31, Try.ntmps31
    go_wp2
    go_ret
    exact ⟨ret_int (by unfold unfoldI; rw [if_neg HU.out]), rfl⟩

set_option maxRecDepth 100000 in
theorem text (s : ByteArray) (hs : s.size ≤ 1099511627776) (w : World) :
    Calls Try.prog 22 #[.string s] w (New (textL (bytesL s)) w) := by
  have hn := num s.size (by unfold Fits; omega) w
  have hl := numL_len 9 s.size (by omega)
  go_enter Try.func22, Try.ntmps22
  go_wp2_with fail
  refine hn.mono ?_
  clear hn
  rintro e w1 ⟨v, rfl, hown, hb⟩
  have HO := aside hown
  clear hown
  have hs1 := hb.size
  go_wp2_with (refine wpList_append_str rfl (.tmp 6) (.tmp 7) 26 9 rfl w.heap.size 5 Try.underlying26 Try.underlying9 zero_u8 v _ (numL s.size) rfl HO.out s rfl (by omega) hs1 ?_; intro v2 w2 hown2 hg2; have hb2 : Below w.heap.size w w2 := below_grown hb hs1 hg2 (fun k hk => (HO.out.lt k hk).1); have HO2 := aside hown2; clear hown2 hg2)
  go_ret
  refine ⟨v2, rfl, ?_, hb2⟩
  have h := HO2.out
  unfold textL
  rw [bytesL_length, List.length_append, bytesL_length]
  exact h
end Go.Proofs.Ytkjhjaeglgoepaa.RefE
