/- What enc.Cut returns: a contract. -/
import Derived.Test.YtkjhjaeglgoepaaEncG
import Derived.Test.YtkjhjaeglgoepaaBytR
import Derived.Test.YtkjhjaeglgoepaaGrow
namespace Go.Proofs.Ytkjhjaeglgoepaa.EncE
open Go.RowKit Go.Sort Byt BytR EncM EncC EncG

/-- The text that bytes begin with, of at most so many bytes, and what stands behind. -/
def cutL (bs : List Int) (most : Int) : Option (List Int × List Int) :=
  if (getL bs).2 = 0 ∨ most < 0 ∨ most < (getL bs).1 ∨ bs.length - (getL bs).2 < (getL bs).1 then none
  else some ((bs.drop (getL bs).2).take (getL bs).1, (bs.drop (getL bs).2).drop (getL bs).1)
/-- What a function that cuts answers. -/
def CutOut (bs : List Int) (most : Int) (w : World) (e : Ending) (w' : World) : Prop :=
  Below w.heap.size w w' ∧ match cutL bs most with
    | none => e = .returned (.tuple #[.string ⟨#[]⟩, .slice none 0 0, .bool false])
    | some (a, r) => ∃ v, e = .returned (.tuple #[.string (strOf a), v, .bool true]) ∧ w'.ownsRow w.heap.size 5 1 v r.length (bv r)
theorem cut_none (bs : List Int) (most : Int) (w w' : World) (e : Ending) (h : (getL bs).2 = 0 ∨ most < 0 ∨ most < (getL bs).1 ∨ bs.length - (getL bs).2 < (getL bs).1) (hb : Below w.heap.size w w') (he : e = .returned (.tuple #[.string ⟨#[]⟩, .slice none 0 0, .bool false])) : CutOut bs most w e w' := by
  refine ⟨hb, ?_⟩
  unfold cutL
  rw [if_pos h]
  exact he
theorem cut_some (bs : List Int) (most : Int) (w w' : World) (e : Ending) (v : Value) (h : ¬ ((getL bs).2 = 0 ∨ most < 0 ∨ most < (getL bs).1 ∨ bs.length - (getL bs).2 < (getL bs).1)) (hb : Below w.heap.size w w') (he : e = .returned (.tuple #[.string (strOf ((bs.drop (getL bs).2).take (getL bs).1)), v, .bool true]))
    (ho : w'.ownsRow w.heap.size 5 1 v ((bs.drop (getL bs).2).drop (getL bs).1).length (bv ((bs.drop (getL bs).2).drop (getL bs).1))) : CutOut bs most w e w' := by
  refine ⟨hb, ?_⟩
  unfold cutL
  rw [if_neg h]
  exact ⟨v, he, ho⟩

set_option maxRecDepth 100000 in
set_option maxHeartbeats 8000000 in
theorem cut {A : Option Addr} {len cap : Nat} {bs : List Int} {w : World} (most : Int) (hS : Sl w A cap bs) (hl : bs.length = len) (hlen : len ≤ 1099511627776) (hm : -9223372036854775808 ≤ most ∧ most ≤ 9223372036854775807) :
    Calls Try.prog 27 #[.slice A len cap, .int .i64 most] w (CutOut bs most w) := by
  have hg := get hS hl
  obtain ⟨g1, g2, g3⟩ := getL_le hS.bytes
  have hnone := cut_none bs most w
  have hsome := cut_some bs most w
  obtain ⟨n, hn⟩ : ∃ n, (getL bs).1 = n := ⟨_, rfl⟩
  obtain ⟨k, hk⟩ : ∃ k, (getL bs).2 = k := ⟨_, rfl⟩
  rw [hn, hk] at hg hnone hsome
  rw [hn] at g1
  rw [hk] at g2 g3
  rw [hl] at g3 hnone hsome
  have HL := aside hl
  have HN := aside hnone
  have HS := aside hsome
  have HG := aside g1
  clear hn hk hnone hsome hl g1
  obtain ⟨m1, m2⟩ := hm
  by_cases hk0 : k = 0
  · subst hk0
    go_enter Try.func27, Try.ntmps27
    go_wp2_with fail
    refine hg.mono ?_
    clear hg
    rintro e w1 ⟨rfl, h1⟩
    go_wp2_with fail
    exact bodyPost_ret (v := .tuple #[.string ⟨#[]⟩, .slice none 0 0, .bool false]) (by simp [results, Try.results27, go_sem]) rfl (HN.out _ _ (.inl (by trivial)) h1 rfl)
  · have hkp : 0 < k := by omega
    have t0 : ((k : Int) == 0) = false := by simp; omega
    clear hk0
    by_cases hm0 : most < 0
    · go_enter Try.func27, Try.ntmps27
      go_wp2_with fail
      refine hg.mono ?_
      clear hg
      rintro e w1 ⟨rfl, h1⟩
      go_wp2_with fail
      exact bodyPost_ret (v := .tuple #[.string ⟨#[]⟩, .slice none 0 0, .bool false]) (by simp [results, Try.results27, go_sem]) rfl (HN.out _ _ (.inr (.inl hm0)) h1 rfl)
    · go_enter Try.func27, Try.ntmps27
      go_wp2_with fail
      refine hg.mono ?_
      clear hg
      rintro e w1 ⟨rfl, h1⟩
      have hS1 := hS.below h1
      obtain ⟨A2, c2, hs2, hS2, hl2⟩ := hS1.part k len (by omega) (by have := HL.out; omega)
      have hrun := run_part_l w1 A len cap .i64 k g3
      rw [hs2] at hrun
      obtain ⟨L, hL⟩ : ∃ L, len - k = L := ⟨_, rfl⟩
      have hcs : (bs.drop k).take (len - k) = bs.drop k := by rw [List.take_of_length_le]; simp; have := HL.out; omega
      rw [hcs] at hS2 hl2
      rw [hL] at hl2 hrun
      have HR := aside hrun
      have HLL := aside hL
      have HL2 := aside hl2
      have hLle : L ≤ len := by omega
      clear hs2 hrun hL hcs hl2
      by_cases hmn : most < (n : Int)
      · have t1 : decide (most < (n : Int)) = true := by simpa using hmn
        go_wp2_with (refine wpList_sliced rfl 26 (.tmp 21) (some (.tmp 22)) none rfl (.slice A2 L c2) HR.out ?_)
        exact bodyPost_ret (v := .tuple #[.string ⟨#[]⟩, .slice none 0 0, .bool false]) (by simp [results, Try.results27, go_sem]) rfl (HN.out _ _ (.inr (.inr (.inl hmn))) h1 rfl)
      · have t1 : decide (most < (n : Int)) = false := by simpa using hmn
        by_cases hLn : L < n
        · have t2 : decide (L < n) = true := by simpa using hLn
          go_wp2_with (refine wpList_sliced rfl 26 (.tmp 21) (some (.tmp 22)) none rfl (.slice A2 L c2) HR.out ?_)
          exact bodyPost_ret (v := .tuple #[.string ⟨#[]⟩, .slice none 0 0, .bool false]) (by simp [results, Try.results27, go_sem]) rfl (HN.out _ _ (.inr (.inr (.inr (by have := HLL.out; omega)))) h1 rfl)
        · have t2 : decide (L < n) = false := by simpa using hLn
          go_wp2_with (refine wpList_sliced rfl 26 (.tmp 21) (some (.tmp 22)) none rfl (.slice A2 L c2) HR.out ?_)
          clear t0 t1 t2 HR
          have hSW : Sl w1.drew A2 c2 (bs.drop k) := hS2.drew
          have hBW : Below w.heap.size w w1.drew := below_drew1 h1
          have hlW := hBW.size
          clear hS2 h1 hS1
          obtain ⟨A3, c3, hs3, hS3, hl3⟩ := hSW.part 0 n (by omega) (by have := HL2.out; omega)
          obtain ⟨A4, c4, hs4, hS4, hl4⟩ := hSW.part n L (by omega) (by have := HL2.out; omega)
          have hr3 := fun W => run_part_h W A2 L c2 .u64 n (by have := hSW.1; have := HL2.out; omega)
          have hr4 := fun W => run_part_l W A2 L c2 .u64 n (by omega)
          rw [hs3, Nat.sub_zero] at hr3
          rw [hs4] at hr4
          rw [List.drop_zero, Nat.sub_zero] at hS3 hl3
          have hcv := hS3.conv hl3
          have hd4 : ((bs.drop k).drop n).take (L - n) = (bs.drop k).drop n := by rw [List.take_of_length_le]; rw [List.length_drop, HL2.out]; omega
          rw [hd4] at hS4 hl4
          have HL4 := aside hl4
          have HL3 := aside hl3
          have h63 : 0 + (L - n) ≤ 1099511627900 := by omega
          clear hs3 hs4 hd4 hl3 hl4
          refine Grow.region [(0, true), (1, true), (2, true), (3, true), (4, true), (5, true), (6, true), (7, false), (8, true), (9, true), (10, true)] (by kernel_rfl) (by kernel_rfl) rfl (by kernel_rfl) (by intro c a d v w h; cases d <;> exact h) ?_
          have q3 := fun d os => (hS3.below (below_regrown _ d os)).conv HL3.out
          obtain ⟨W1, hW1⟩ : ∃ W, w1.drew = W := ⟨_, rfl⟩
          rw [hW1] at hS4 hBW hlW q3 ⊢
          clear hW1 hcv hSW hS3
          repeat (refine Grow.reads rfl rfl ?_; go_big_quiet_step (fail); refine wpQuiet_nil ?_)
          clear q3 hr3 hr4
          refine Grow.acts rfl ?_
          go_wp2_with (refine wpList_append_sl rfl (.const (.slice none 0 0)) (.tmp 41) 26 rfl w.heap.size 5 Try.underlying26 zero_u8 (.slice none 0 0) 0 [] rfl (World.ownsRow_nil _ _ _ _) A4 (L - n) c4 ((bs.drop k).drop n) rfl HL4.out hS4 h63 hlW ?_; intro v5 w5 hown5 hg5; have hb5 : Below w.heap.size w w5 := below_grown hBW hlW hg5 (fun k hk => by cases hk); have hb6 := below_grown (Below.refl _ W1) (Nat.le_refl _) hg5 (fun k hk => by cases hk); have HO5 := aside hown5; clear hown5 hg5)
          simp only [Act.put, List.setIfInBounds_toArray, List.set_cons_succ, List.set_cons_zero]
          refine ⟨hb6, ?_⟩
          clear hb6
          repeat (refine Grow.reads rfl rfl ?_; go_big_quiet_step (fail); refine wpQuiet_nil ?_)
          refine Grow.ends ?_
          all_goals go_wp2_with fail
          all_goals
            refine bodyPost_ret (v := .tuple #[.string (strOf ((bs.drop k).take n)), v5, .bool true]) (by simp [results, Try.results27, go_sem]) rfl (HS.out _ _ v5 (by have := HLL.out; omega) hb5 rfl ?_)
            have h := HO5.out
            rw [Nat.zero_add, ← HL4.out, List.nil_append] at h
            exact h
end Go.Proofs.Ytkjhjaeglgoepaa.EncE
