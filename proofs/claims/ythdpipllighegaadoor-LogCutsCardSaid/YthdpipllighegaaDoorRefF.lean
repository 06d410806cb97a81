/- What the document's answer's Get of package enc returns: a contract. -/
import Derived.Test.YthdpipllighegaaDoorRefE
import Derived.Test.YthdpipllighegaaDoorShaAJ2
namespace Go.Proofs.YthdpipllighegaaDoor.RefF
set_option maxRecDepth 100000
open Go.RowKit Byt BytR EncM EncC RefE

/-- Ahead of byte i: what those ahead of it are together, and the place's worth; behind the tenth byte there is no number. -/
def GInv (bs : List Int) (i n p : Nat) : Prop :=
  (i ≤ 9 ∧ p = 2 ^ (7 * i) ∧ n < 2 ^ (7 * i) ∧ getL bs = getG i n (bs.drop i)) ∨ (i = 10 ∧ getL bs = (0, 0))
theorem ginv_start (bs : List Int) : GInv bs 0 0 1 := .inl ⟨by omega, rfl, by simp, rfl⟩
theorem pw_le (i : Nat) (h : i ≤ 9) : 2 ^ (7 * i) ≤ 9223372036854775808 := by
  have : 2 ^ (7 * i) ≤ 2 ^ 63 := Nat.pow_le_pow_right (by omega) (by omega)
  omega
theorem drop_cons {bs : List Int} {i : Nat} (h : i < bs.length) : bs.drop i = bs[i]?.getD 0 :: bs.drop (i + 1) := by
  rw [List.drop_eq_getElem_cons h, List.getElem?_eq_getElem h]
  rfl
/-- One byte more that is not the last one. -/
theorem ginv_more {bs : List Int} {i n p : Nat} {y : Int} (h : GInv bs i n p) (hi : i < bs.length) (hi2 : i < 10) (hy : bs[i]?.getD 0 = y) (hy1 : 128 ≤ y) :
    GInv bs (i + 1) ((n + p * (y % 128).toNat) % 18446744073709551616) (p * 128 % 18446744073709551616) := by
  rcases h with ⟨h1, rfl, h3, h4⟩ | ⟨h1, _⟩
  · rw [drop_cons hi, hy] at h4
    simp only [getG] at h4
    rw [if_neg (by omega), if_neg (by omega : ¬ y < 128)] at h4
    have hd : (y % 128).toNat ≤ 127 := by omega
    have hle : (y % 128).toNat * 2 ^ (7 * i) ≤ 127 * 2 ^ (7 * i) := Nat.mul_le_mul_right _ hd
    have hs := pw_succ i
    by_cases h9 : i = 9
    · refine .inr ⟨by omega, ?_⟩
      rw [h4]
      split
      · rfl
      · subst h9
        cases hq : bs.drop (9 + 1) with
        | nil => rfl
        | cons b r => simp [getG]
    · have hp := pw_le (i + 1) (by omega)
      rw [if_neg (by omega)] at h4
      refine .inl ⟨by omega, ?_, ?_, ?_⟩
      · rw [Nat.mod_eq_of_lt (by omega)]; omega
      · rw [Nat.mul_comm (2 ^ (7 * i)), Nat.mod_eq_of_lt (by omega)]; omega
      · rw [Nat.mul_comm (2 ^ (7 * i)), Nat.mod_eq_of_lt (by omega)]; exact h4
  · omega
/-- The last byte: the number is told just if it is put as these bytes. -/
theorem ginv_last {bs : List Int} (hb : ∀ x ∈ bs, B x) {i n p : Nat} {y : Int} (h : GInv bs i n p) (hi : i < bs.length) (hi2 : i < 10) (hy : bs[i]?.getD 0 = y) (hy1 : y < 128) :
    getL bs = if numL ((n + p * (y % 128).toNat) % 18446744073709551616) = bs.take (i + 1) then ((n + p * (y % 128).toNat) % 18446744073709551616, i + 1) else (0, 0) := by
  rcases h with ⟨h1, rfl, h3, h4⟩ | ⟨h1, _⟩
  · obtain ⟨m, hm⟩ : ∃ m, (n + 2 ^ (7 * i) * (y % 128).toNat) % 18446744073709551616 = m := ⟨_, rfl⟩
    have hm2 : m < 18446744073709551616 := by omega
    rw [hm]
    split
    · rename_i he
      have q := getL_num m (bs.drop (i + 1)) hm2
      rw [he, List.take_append_drop, List.length_take, Nat.min_eq_left (by omega)] at q
      exact q
    · rename_i he
      by_cases hz : (getL bs).2 = 0
      · exact getL_zero hz
      · exfalso
        apply he
        obtain ⟨q1, _, _, _, q5⟩ := getL_back hb (N := (getL bs).1) (k := (getL bs).2) rfl hz
        rw [drop_cons hi, hy] at h4
        simp only [getG] at h4
        rw [if_neg (by omega)] at h4
        by_cases hov : 18446744073709551616 ≤ n + (y % 128).toNat * 2 ^ (7 * i)
        · rw [if_pos hov] at h4; rw [h4] at hz; exact absurd rfl hz
        · rw [if_neg hov, if_pos hy1] at h4
          by_cases hz2 : (y % 128).toNat = 0 ∧ 0 < i
          · rw [if_pos hz2] at h4; rw [h4] at hz; exact absurd rfl hz
          · rw [if_neg hz2] at h4
            rw [h4] at q5
            have e : n + (y % 128).toNat * 2 ^ (7 * i) = m := by rw [← hm, Nat.mul_comm (2 ^ (7 * i)), Nat.mod_eq_of_lt (by omega)]
            simp only [e] at q5
            exact q5.symm
  · omega
/-- Behind all bytes there is no number. -/
theorem ginv_end {bs : List Int} {i n p : Nat} (h : GInv bs i n p) (hi : bs.length ≤ i ∨ 10 ≤ i) : getL bs = (0, 0) := by
  rcases h with ⟨h1, _, _, h4⟩ | ⟨_, h⟩
  · rw [h4, List.drop_eq_nil_of_le (by omega)]
    rfl
  · exact h
theorem numL_B (n : Nat) : ∀ x ∈ numL n, B x := numL_range n

set_option maxRecDepth 100000 in
set_option maxHeartbeats 8000000 in
theorem get {A : Option Addr} {len cap : Nat} {bs : List Int} {w : World} (hS : Sl w A cap bs) (hl : bs.length = len) (hlen : len ≤ 1099511627776) :
    Calls Tryd.prog 24 #[.slice A len cap] w fun e w' => e = .returned (.tuple #[.int .u64 ((getL bs).1 : Nat), .int .i64 ((getL bs).2 : Nat)]) ∧ Below w.heap.size w w' := by
  have HL := aside hl
  clear hl
  go_enter Tryd.func24, Tryd.ntmps24
  go_wp2_with fail
  go_loopw [4, 5, 6] (fun vn vp vi wr => ∃ i n p : Nat, vn = .int .u64 n ∧ vp = .int .u64 p ∧ vi = .int .i64 i ∧ i ≤ 10 ∧ i ≤ len ∧ Hid (GInv bs i n p) ∧ Hid (n < 18446744073709551616 ∧ p < 18446744073709551616) ∧ Below w.heap.size w wr) (fun _ _ vi _ => 10 - (intOf vi).toNat)
  case atStart => exact ⟨0, 0, 1, rfl, rfl, rfl, by omega, by omega, ginv_start bs, aside ⟨by omega, by omega⟩, Below.refl _ _⟩
  case round =>
    obtain ⟨i, n, p, rfl, rfl, rfl, hi, hi2, HG, HB, hb⟩ := hrel
    by_cases hin : i < len ∧ i < 10
    · obtain ⟨i1, i2⟩ := hin
      have hSw := hS.below hb
      obtain ⟨b, off, rfl, hblk, hcs⟩ := hS.plain (by have := HL.out; omega)
      obtain ⟨y, hy⟩ : ∃ y, bs[i]?.getD 0 = y := ⟨_, rfl⟩
      have hcx : wr.cell? ⟨b, off + i, none⟩ = some (.int .u8 y) := by
        rw [← hy, ← List.getD_eq_getElem?_getD]
        exact (hb.cell (p := ⟨b, off + i, none⟩) hblk).trans (hcs i (by have := HL.out; omega))
      have hyB : B y := by
        rw [← hy, List.getElem?_eq_getElem (by have := HL.out; omega)]
        exact hS.bytes _ (List.getElem_mem _)
      obtain ⟨y0, y1⟩ := hyB
      obtain ⟨Q, hQ⟩ : ∃ Q, p * (y % 128).toNat % 18446744073709551616 = Q := ⟨_, rfl⟩
      obtain ⟨n2, hn2⟩ : ∃ n2, (n + p * (y % 128).toNat) % 18446744073709551616 = n2 := ⟨_, rfl⟩
      obtain ⟨p2, hp2⟩ : ∃ p2, p * 128 % 18446744073709551616 = p2 := ⟨_, rfl⟩
      have w1 : IntKind.u64.wrap ((p : Int) * (y % 128)) = (Q : Int) := by
        have e : (p : Int) * (y % 128) = ((p * (y % 128).toNat : Nat) : Int) := by
          rw [Int.natCast_mul, Int.toNat_of_nonneg (by omega)]
        rw [IntKind.wrap_u64, e, ← hQ]; omega
      have w2 : IntKind.u64.wrap ((n : Int) + (Q : Int)) = (n2 : Int) := by
        rw [IntKind.wrap_u64, ← hn2, ← hQ]; omega
      have w3 : IntKind.u64.wrap ((p : Int) * 128) = (p2 : Int) := by
        rw [IntKind.wrap_u64, ← hp2]; omega
      have f2 : Hid (n2 < 18446744073709551616 ∧ p2 < 18446744073709551616) := aside ⟨by omega, by omega⟩
      by_cases hy1 : y < 128
      · have hlast := ginv_last hS.bytes HG.out (by have := HL.out; omega) i2 hy hy1
        rw [hn2] at hlast
        have hteq := strOf_beq (numL_B n2) (b := bs.take (i + 1)) (fun x hx => hS.bytes x (List.mem_of_mem_take hx))
        obtain ⟨A3, c3, hs3, hS3, hl3⟩ := (hSw.below (w' := wr.drew) ⟨rfl, rfl, rfl, Nat.le_refl _, fun _ _ => rfl⟩).part 0 (i + 1) (by omega) (by have := HL.out; omega)
        have hr3 := fun W => run_part_h W (some ⟨b, off, none⟩) len cap .i64 (i + 1) (by have := hS.1; have := HL.out; omega)
        have e1 : ((i + 1 : Nat) : Int) = (i : Int) + 1 := by omega
        rw [hs3, Nat.sub_zero, e1] at hr3
        rw [List.drop_zero, Nat.sub_zero] at hS3 hl3
        have hcv := hS3.conv hl3
        have HL3 := aside hl3
        have HLa := aside hlast
        have HT := aside hteq
        have hfit : Fits n2 := f2.out.1
        clear hQ hn2 hp2 HB hy hs3 hlast hteq e1 HG hl3
        by_cases he : numL n2 = bs.take (i + 1)
        · have teq : ((strOf (numL n2)).toList == (strOf (bs.take (i + 1))).toList) = true := by rw [HT.out]; simpa using he
          have HE := aside he
          clear he
          go_wp2_with fail
          have m1 : IntKind.i64.wrap ((i : Int) + 1) = (i : Int) + 1 := IntWalk.i64_in _ (by omega)
          have m2 : 0 ≤ (i : Int) + 1 := by omega
          have m3 : ((i : Int) + 1).toNat = i + 1 := by omega
          go_region_with (go_at_call 21; refine (RefE.num n2 hfit _).mono ?_; rintro e w5 ⟨v5, rfl, hown5, hb5⟩; obtain ⟨A5, c5, rfl, hS5⟩ := Sl.own hown5 (numL_B n2); have hcv5 := hS5.conv rfl; have hcv6 := (hS3.below hb5).conv HL3.out; clear hown5)
          all_goals clear m1 m2 m3 hcv hcv5 hcv6 hr3
          all_goals go_wp2_with fail
          all_goals exact bodyPost_ret (v := .tuple #[.int .u64 n2, .int .i64 ((i : Int) + 1)]) (by simp [results, Tryd.results24, go_sem]) rfl ⟨by rw [HLa.out, if_pos HE.out]; rfl, (below_drew1 hb).trans (hb5.mono hb.size)⟩
        · have teq : ((strOf (numL n2)).toList == (strOf (bs.take (i + 1))).toList) = false := by rw [HT.out]; simpa using he
          have HE := aside he
          clear he
          go_wp2_with fail
          have m1 : IntKind.i64.wrap ((i : Int) + 1) = (i : Int) + 1 := IntWalk.i64_in _ (by omega)
          have m2 : 0 ≤ (i : Int) + 1 := by omega
          have m3 : ((i : Int) + 1).toNat = i + 1 := by omega
          go_region_with (go_at_call 21; refine (RefE.num n2 hfit _).mono ?_; rintro e w5 ⟨v5, rfl, hown5, hb5⟩; obtain ⟨A5, c5, rfl, hS5⟩ := Sl.own hown5 (numL_B n2); have hcv5 := hS5.conv rfl; have hcv6 := (hS3.below hb5).conv HL3.out; clear hown5)
          all_goals clear m1 m2 m3 hcv hcv5 hcv6 hr3
          all_goals go_wp2_with fail
          all_goals exact bodyPost_ret (v := .tuple #[.int .u64 0, .int .i64 0]) (by simp [results, Tryd.results24, go_sem]) rfl ⟨by rw [HLa.out, if_neg HE.out]; rfl, (below_drew1 hb).trans (hb5.mono hb.size)⟩
      · have hmore := ginv_more HG.out (by have := HL.out; omega) i2 hy (by omega)
        rw [hn2, hp2] at hmore
        have HM := aside hmore
        clear hQ hn2 hp2 hmore HB hy
        go_wp2_with fail
        go_roundw
        case rel => exact ⟨i + 1, n2, p2, rfl, rfl, by simp, by omega, by omega, HM, f2, hb⟩
        case measure => simp [intOf]; omega
    · have hend := ginv_end HG.out (by have := HL.out; omega)
      have HE := aside hend
      clear hend
      by_cases hl2 : i < len
      · have h10 : ¬ (i : Int) < 10 := by omega
        go_wp2_with fail
        exact bodyPost_ret (v := .tuple #[.int .u64 0, .int .i64 0]) (by simp [results, Tryd.results24, go_sem]) rfl ⟨by rw [HE.out]; rfl, hb⟩
      · go_wp2_with fail
        exact bodyPost_ret (v := .tuple #[.int .u64 0, .int .i64 0]) (by simp [results, Tryd.results24, go_sem]) rfl ⟨by rw [HE.out]; rfl, hb⟩
end Go.Proofs.YthdpipllighegaaDoor.RefF
