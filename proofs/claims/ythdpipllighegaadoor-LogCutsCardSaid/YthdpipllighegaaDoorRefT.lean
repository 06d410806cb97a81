/- What the document's answer's words of package sha returns: a contract. -/
import Derived.Test.YthdpipllighegaaDoorRefS
namespace Go.Proofs.YthdpipllighegaaDoor.RefT
set_option maxRecDepth 100000
open Go.RowKit RotM RotN RotC RotD ShaM ShaD RotG Small RefS

theorem word4 (b off cap k : Nat) (f : Nat → Int) (hf : ∀ i, B (f i)) (hk : k < 16) (p : Int) (hp : p = 4 * (k : Int)) (w : World) (hc : ∀ i, i < 64 → w.cell? ⟨b, off + i, none⟩ = some (.int .u8 (f i))) :
    Calls Tryd.prog 49 #[.slice (some ⟨b, off, none⟩) 64 cap, .int .i64 p] w fun e w' => e = .returned (.tuple #[.int .u32 (u (wordsOf f k)), .bool true]) ∧ Below w.heap.size w w' := by
  obtain rfl : p = ((4 * k : Nat) : Int) := by omega
  rw [u_words hf]
  exact refword_yes b off 64 cap (4 * k) _ _ _ _ (by omega) (by omega) w (hc _ (by omega)) (hc _ (by omega)) (hc _ (by omega)) (hc _ (by omega)) (hf _) (hf _) (hf _) (hf _)
theorem twistI (a b : BitVec 32) (n : Int) (c : BitVec 32) (hn : n = u c) (w : World) :
    Calls Tryd.prog 40 #[.int .u32 (u a), .int .u32 (u b), .int .u32 n] w fun e w' => e = .returned (.int .u32 (u (a ^^^ b ^^^ c))) ∧ w = w' := by
  subst hn
  exact RefS.twist a b c w
theorem wd_sum' (a b x y : BitVec 32) : (u a + u b + u (rotr x 7 ^^^ rotr x 18 ^^^ x >>> 3) + u (rotr y 17 ^^^ rotr y 19 ^^^ y >>> 10)) % 4294967296 = u (a + b + s0 x + s1 y) := by
  rw [sum4]
  rfl

set_option maxHeartbeats 1000000 in
set_option maxRecDepth 100000 in
theorem words (b off cap : Nat) (f : Nat → Int) (hf : ∀ i, B (f i)) (w : World) (hc : ∀ i, i < 64 → w.cell? ⟨b, off + i, none⟩ = some (.int .u8 (f i))) :
    Calls Tryd.prog 39 #[.slice (some ⟨b, off, none⟩) 64 cap] w fun e w' => e = .returned (.agg (sp (wordsOf f) 64)) ∧ Below w.heap.size w w' := by
  have hb : b < w.heap.size := block_lt_of_cell (hc 0 (by omega))
  have HC := RotF.aside hc
  have HF := RotF.aside hf
  clear hc hf
  go_enter Tryd.func39, Tryd.ntmps39
  go_wp2_with (first | (refine wpList_build rfl 61 _ rfl ?c1 ?_; (case c1 => kernel_rfl)) | (refine wpList_store_last rfl 61 _ _ rfl _ _ (sp (wordsOf f) 0) 61 rfl _ rfl ?c1 ?c5 ?c2 ?c3 ?c4 ?_; (case c1 => simp); (case c5 => kernel_rfl); (case c2 => rw [sp_size]; exact info64); (case c3 => rw [sp_size]; rfl); (case c4 => exact sp_one _ _)))
  go_loopw [4] (fun i wr => ∃ k : Nat, k ≤ 64 ∧ i = .int .i64 k ∧ At wr w.heap.size (sp (wordsOf f) 0) ∧ At wr (w.heap.size + 1) (sp (wordsOf f) k) ∧ Below w.heap.size w wr) (fun i _ => 64 - (intOf i).toNat)
  case atStart => exact ⟨0, Nat.zero_le _, rfl, by rw [sp_zero]; exact ⟨_, heap_alloc2_old _ _ _⟩, ⟨_, heap_alloc2_new _ _ _⟩, by go_grown⟩
  case round =>
    obtain ⟨k, hk, rfl, A0, A1, kb⟩ := hrel
    by_cases hlt : k < 64
    · by_cases h16 : k < 16
      · go_wp2_with fail
        refine (word4 b off cap k f HF.out h16 _ rfl _ (fun i hi => (kb.cell hb).trans (HC.out i hi))).mono ?_
        rintro e w1 ⟨rfl, h1⟩
        have B0 := A0.below h1 A0.lt
        have B1 := A1.below h1 A1.lt
        have kc := kb.trans (h1.mono kb.size)
        clear A0 A1 kb h1
        have c1 := B1.cell k
        rw [sp_at _ _ (by omega), if_neg (by omega)] at c1
        have z1 := B1.frozen k
        go_wp2
        go_roundw
        case rel =>
          have q := B1.set k (.int .u32 (u (wordsOf f k)))
          rw [← wd_low (wordsOf f) h16, sp_set _ (by omega)] at q
          rw [← wd_low (wordsOf f) h16]
          exact ⟨k + 1, by omega, by go_num, B0.set_other (by simp) _, q, kc.setCell (by simp) _⟩
        case measure => simp [intOf]; omega
      · have hk1 : 16 ≤ k := by omega
        have c15 := (A1.cell (k - 15)).trans (sp_old _ (by omega) (by omega))
        have c2 := (A1.cell (k - 2)).trans (sp_old _ (by omega) (by omega))
        have c16 := (A1.cell (k - 16)).trans (sp_old _ (by omega) (by omega))
        have c7 := (A1.cell (k - 7)).trans (sp_old _ (by omega) (by omega))
        have t15 : ((k : Int) - 15).toNat = k - 15 := by omega
        have t2 : ((k : Int) - 2).toNat = k - 2 := by omega
        have t16 : ((k : Int) - 16).toNat = k - 16 := by omega
        have t7 : ((k : Int) - 7).toNat = k - 7 := by omega
        have o15 : 0 ≤ (k : Int) - 15 := by omega
        have o2 : 0 ≤ (k : Int) - 2 := by omega
        have o16 : 0 ≤ (k : Int) - 16 := by omega
        have o7 : 0 ≤ (k : Int) - 7 := by omega
        have p15 : (k : Int) - 15 < 64 := by omega
        have p2 : (k : Int) - 2 < 64 := by omega
        have p16 : (k : Int) - 16 < 64 := by omega
        have p7 : (k : Int) - 7 < 64 := by omega
        have ck := A1.cell k
        rw [sp_at _ _ hlt, if_neg (by omega)] at ck
        have zk := A1.frozen k
        have r15 := u_range (wd (wordsOf f) (k - 15))
        have r2 := u_range (wd (wordsOf f) (k - 2))
        go_wp2_with fail
        refine (RefS.rightK _ 7 7 (by omega) rfl _).mono ?_
        rintro e w' ⟨rfl, rfl⟩
        go_wp2_with fail
        refine (RefS.rightK _ 18 18 (by omega) rfl _).mono ?_
        rintro e w' ⟨rfl, rfl⟩
        go_wp2_with fail
        refine (twistI _ _ (u (wd (wordsOf f) (k - 15)) / 8) _ (shr3 (wd (wordsOf f) (k - 15))) _).mono ?_
        rintro e w' ⟨rfl, rfl⟩
        go_wp2_with fail
        refine (RefS.rightK _ 17 17 (by omega) rfl _).mono ?_
        rintro e w' ⟨rfl, rfl⟩
        go_wp2_with fail
        refine (RefS.rightK _ 19 19 (by omega) rfl _).mono ?_
        rintro e w' ⟨rfl, rfl⟩
        go_wp2_with fail
        refine (twistI _ _ (u (wd (wordsOf f) (k - 2)) / 1024) _ (shr10 (wd (wordsOf f) (k - 2))) _).mono ?_
        rintro e w' ⟨rfl, rfl⟩
        go_wp2_with fail
        go_region
        go_wp2
        go_roundw
        case rel =>
          have q := A1.set k (.int .u32 (u (wd (wordsOf f) k)))
          rw [sp_set _ hlt, wd_high _ hk1, ← wd_sum'] at q
          exact ⟨k + 1, by omega, by go_num, At.drew (A0.set_other (by simp) _), At.drew q, below_drew1 (kb.setCell (by simp) _)⟩
        case measure => simp [intOf]; omega
    · have e64 : k = 64 := by omega
      rw [e64] at A1
      clear e64
      go_wp2_with (first | (refine wpList_load_at rfl 61 _ rfl _ rfl _ _ A1 Tryd.underlying61 rfl ?c2 ?_; (case c2 => rw [sp_size]; exact info64)) | (refine wpList_store_at rfl 61 _ _ rfl _ _ rfl rfl _ A0 ?c2 ?c3 ?c4 ?_; (case c2 => rw [sp_size]; exact info64); (case c3 => rw [sp_size, sp_size]); (case c4 => exact sp_one _ _)))
      exact bodyPost_ret (v := .agg (sp (wordsOf f) 64)) (results_at Tryd.results39 _ _ w.heap.size _ _ rfl (A0.row _) Tryd.underlying61 rfl (by rw [sp_size]; exact info64)) rfl ⟨rfl, below_row kb (Nat.le_refl _) _⟩
end Go.Proofs.YthdpipllighegaaDoor.RefT
