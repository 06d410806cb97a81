/- What sha.twist, sha.step and sha.Start return: contracts. | What sha.spread returns: a contract. -/
import Derived.Test.YteojkfbnenfmkaaDoorRotMJ4
import Derived.Test.YteojkfbnenfmkaaDoorRotDJ4
import Derived.RegionTactic
import Derived.StillTailTactics
import Derived.BigRegion
import Derived.Outline
namespace Go.Proofs.YteojkfbnenfmkaaDoor.ShaC
set_option maxRecDepth 100000
open Go.RowKit RotM RotN RotC RotD ShaM RotG Small

set_option maxHeartbeats 400000 in
theorem twist (x : BitVec 32) (i j k : Int) (w : World) :
    Calls Tryd.prog 86 #[.int .u32 (u x), .int .i64 i, .int .i64 j, .int .i64 k] w fun e w' => e = .returned (.int .u32 (u (tw x (i % 32).toNat (j % 32).toNat (k % 32).toNat))) ∧ w = w' := by
  go_enter Tryd.func86, Tryd.ntmps86
  go_wp2_with fail
  refine (right x i _).mono ?_
  rintro e w' ⟨rfl, rfl⟩
  go_wp2_with fail
  refine (right x j _).mono ?_
  rintro e w' ⟨rfl, rfl⟩
  go_wp2_with fail
  refine (right x k _).mono ?_
  rintro e w' ⟨rfl, rfl⟩
  go_wp2_with fail
  go_ret
  exact ⟨ret_u (by rw [bits_xor, bits_xor]; rfl), rfl⟩

theorem twist6 (x : BitVec 32) (w : World) :
    Calls Tryd.prog 86 #[.int .u32 (u x), .int .i64 6, .int .i64 11, .int .i64 25] w fun e w' => e = .returned (.int .u32 (u (tw x 6 11 25))) ∧ w = w' := twist x 6 11 25 w
theorem twist2 (x : BitVec 32) (w : World) :
    Calls Tryd.prog 86 #[.int .u32 (u x), .int .i64 2, .int .i64 13, .int .i64 22] w fun e w' => e = .returned (.int .u32 (u (tw x 2 13 22))) ∧ w = w' := twist x 2 13 22 w

theorem rightK (x : BitVec 32) (n : Int) (j : Nat) (h : (n % 32).toNat = j) (w : World) :
    Calls Tryd.prog 85 #[.int .u32 (u x), .int .i64 n] w fun e w' => e = .returned (.int .u32 (u (rotr x j))) ∧ w = w' := by
  subst h
  exact right x n w

theorem start (w : World) :
    Calls Tryd.prog 58 #[] w fun e w' => e = .returned (.agg startS.vals) ∧ Below w.heap.size w w' := by
  go_enter Tryd.func58, Tryd.ntmps58
  go_wp2
  exact bodyPost_ret (v := .agg startS.vals) (by simp [results, Tryd.results58, go_sem]; rfl) rfl ⟨rfl, by go_grown⟩

set_option maxHeartbeats 1000000 in
theorem step1 (a b c d e f g z x : BitVec 32) (w : World) :
    Calls Tryd.prog 70 #[.agg #[.int .u32 (u a), .int .u32 (u b), .int .u32 (u c), .int .u32 (u d), .int .u32 (u e), .int .u32 (u f), .int .u32 (u g), .int .u32 (u z)], .int .u32 (u x)] w fun r w' => r = .returned (.agg (rnd ⟨a, b, c, d, e, f, g, z⟩ x).vals) ∧ Below w.heap.size w w' := by
  go_enter Tryd.func70, Tryd.ntmps70
  go_wp2
  go_quiet (fail)
  go_wp2_with fail
  refine (twist6 e _).mono ?_
  rintro r w' ⟨rfl, rfl⟩
  go_wp2_with fail
  refine (pick e f g _).mono ?_
  rintro r w' ⟨rfl, rfl⟩
  go_wp2_with fail
  refine (twist2 a _).mono ?_
  rintro r w' ⟨rfl, rfl⟩
  go_wp2_with fail
  refine (most a b c _).mono ?_
  rintro r w' ⟨rfl, rfl⟩
  go_wp2_with fail
  go_returns
  refine ⟨by rw [sum6, sum5]; rfl, ?_⟩
  go_grown
  exact below_drew (by go_grown) _

theorem step (h : H8) (x : BitVec 32) (w : World) :
    Calls Tryd.prog 70 #[.agg h.vals, .int .u32 (u x)] w fun r w' => r = .returned (.agg (rnd h x).vals) ∧ Below w.heap.size w w' := by
  obtain ⟨a, b, c, d, e, f, g, z⟩ := h
  exact step1 a b c d e f g z x w
end Go.Proofs.YteojkfbnenfmkaaDoor.ShaC
namespace Go.Proofs.YteojkfbnenfmkaaDoor.ShaD
set_option maxRecDepth 100000
open Go.RowKit RotM RotN RotC RotD ShaM ShaC RotG Small

/-- The sixteen words of a block whose bytes are f. -/
def wordsOf (f : Nat → Int) (i : Nat) : BitVec 32 := BitVec.ofInt 32 (four4 (f (4 * i)) (f (4 * i + 1)) (f (4 * i + 2)) (f (4 * i + 3)))
theorem u_words {f : Nat → Int} (hf : ∀ i, B (f i)) (i : Nat) : u (wordsOf f i) = four4 (f (4 * i)) (f (4 * i + 1)) (f (4 * i + 2)) (f (4 * i + 3)) := by
  obtain ⟨x, hx⟩ : ∃ x : BitVec 32, four4 (f (4 * i)) (f (4 * i + 1)) (f (4 * i + 2)) (f (4 * i + 3)) = u x := by
    have h := four4_range (hf (4 * i)) (hf (4 * i + 1)) (hf (4 * i + 2)) (hf (4 * i + 3))
    exact u_of (by simp [Lit.wf, IntKind.min, IntKind.max, IntKind.bits, IntKind.signed]; omega)
  unfold wordsOf
  rw [hx, ofInt_u]

/-- The array of 64 words, of which the first k are laid. -/
def sp (m : Nat → BitVec 32) (k : Nat) : Array Value := Array.ofFn (n := 64) fun j => Value.int .u32 (if j.val < k then u (wd m j.val) else 0)
theorem sp_size (m : Nat → BitVec 32) (k : Nat) : (sp m k).size = 64 := by simp [sp]
theorem sp_at (m : Nat → BitVec 32) (k : Nat) {j : Nat} (hj : j < 64) : (sp m k)[j]? = some (.int .u32 (if j < k then u (wd m j) else 0)) := by
  simp [sp, hj]
theorem sp_old (m : Nat → BitVec 32) {k j : Nat} (hj : j < k) (hk : k ≤ 64) : (sp m k)[j]? = some (.int .u32 (u (wd m j))) := by
  rw [sp_at m k (by omega), if_pos hj]
theorem sp_set (m : Nat → BitVec 32) {k : Nat} (hk : k < 64) : (sp m k).setIfInBounds k (.int .u32 (u (wd m k))) = sp m (k + 1) := by
  apply Array.ext_getElem?
  intro j
  rw [Array.getElem?_setIfInBounds]
  by_cases hj : j < 64
  · rw [sp_at m k hj, sp_at m (k + 1) hj, sp_size]
    by_cases e : k = j
    · subst e; simp [hk]
    · have : (j < k) ↔ (j < k + 1) := by omega
      simp [e, this]
  · simp [sp, show ¬ j < 64 from hj, show ¬ k = j by omega]
theorem sp_one (m : Nat → BitVec 32) (k : Nat) : (sp m k).all (·.oneCell') = true := by
  rw [Array.all_eq_true_iff_forall_mem]
  intro v hv
  obtain ⟨i, rfl⟩ := Array.mem_ofFn.1 hv
  rfl

set_option maxRecDepth 10000 in
theorem sp_zero (m : Nat → BitVec 32) : sp m 0 = #[.int .u32 0, .int .u32 0, .int .u32 0, .int .u32 0, .int .u32 0, .int .u32 0, .int .u32 0, .int .u32 0, .int .u32 0, .int .u32 0, .int .u32 0, .int .u32 0, .int .u32 0, .int .u32 0, .int .u32 0, .int .u32 0, .int .u32 0, .int .u32 0, .int .u32 0, .int .u32 0, .int .u32 0, .int .u32 0, .int .u32 0, .int .u32 0, .int .u32 0, .int .u32 0, .int .u32 0, .int .u32 0, .int .u32 0, .int .u32 0, .int .u32 0, .int .u32 0, .int .u32 0, .int .u32 0, .int .u32 0, .int .u32 0, .int .u32 0, .int .u32 0, .int .u32 0, .int .u32 0, .int .u32 0, .int .u32 0, .int .u32 0, .int .u32 0, .int .u32 0, .int .u32 0, .int .u32 0, .int .u32 0, .int .u32 0, .int .u32 0, .int .u32 0, .int .u32 0, .int .u32 0, .int .u32 0, .int .u32 0, .int .u32 0, .int .u32 0, .int .u32 0, .int .u32 0, .int .u32 0, .int .u32 0, .int .u32 0, .int .u32 0, .int .u32 0] := by kernel_rfl

theorem word4 (b off cap k : Nat) (f : Nat → Int) (hf : ∀ i, B (f i)) (hcap : 64 ≤ cap) (hk : k < 16) (p : Int) (hp : p = 4 * (k : Int)) (w : World) (hc : ∀ i, i < 64 → w.cell? ⟨b, off + i, none⟩ = some (.int .u8 (f i))) :
    Calls Tryd.prog 84 #[.slice (some ⟨b, off, none⟩) 64 cap, .int .i64 p] w fun e w' => e = .returned (.tuple #[.int .u32 (u (wordsOf f k)), .bool true]) ∧ Below w.heap.size w w' := by
  obtain rfl : p = ((4 * k : Nat) : Int) := by omega
  rw [u_words hf]
  exact word_yes b off 64 cap (4 * k) _ _ _ _ (by omega) hcap (by omega) w (hc _ (by omega)) (hc _ (by omega)) (hc _ (by omega)) (hc _ (by omega)) (hf _) (hf _) (hf _) (hf _)

set_option maxHeartbeats 1000000 in
set_option maxRecDepth 100000 in
theorem spread (b off cap : Nat) (f : Nat → Int) (hf : ∀ i, B (f i)) (hcap : 64 ≤ cap) (w : World) (hc : ∀ i, i < 64 → w.cell? ⟨b, off + i, none⟩ = some (.int .u8 (f i))) :
    Calls Tryd.prog 69 #[.slice (some ⟨b, off, none⟩) 64 cap] w fun e w' => e = .returned (.agg (sp (wordsOf f) 64)) ∧ Below w.heap.size w w' := by
  have hb : b < w.heap.size := block_lt_of_cell (hc 0 (by omega))
  have HC := RotF.aside hc
  have HF := RotF.aside hf
  clear hc hf
  go_enter Tryd.func69, Tryd.ntmps69
  go_wp2
  go_loopw [10] (fun i wr => ∃ k : Nat, k ≤ 16 ∧ i = .int .i64 k ∧ At wr w.heap.size (sp (wordsOf f) 0) ∧ At wr (w.heap.size + 1) (sp (wordsOf f) k) ∧ Below w.heap.size w wr) (fun i _ => 16 - (intOf i).toNat)
  case atStart => exact ⟨0, Nat.zero_le _, rfl, by rw [sp_zero]; exact ⟨_, heap_alloc2_old _ _ _⟩, by rw [sp_zero]; exact ⟨_, heap_alloc2_new _ _ _⟩, by go_grown⟩
  case round =>
    obtain ⟨k, hk, rfl, A0, A1, kb⟩ := hrel
    by_cases hlt : k < 16
    · go_wp2_with fail
      refine (word4 b off cap k f HF.out hcap hlt _ rfl _ (fun i hi => (kb.cell hb).trans (HC.out i hi))).mono ?_
      rintro e w1 ⟨rfl, h1⟩
      have B0 := A0.below h1 A0.lt
      have B1 := A1.below h1 A1.lt
      have kc := kb.trans (h1.mono kb.size)
      clear A0 A1 kb h1
      have c1 := B1.cell k
      rw [sp_at _ _ (by omega), if_neg (by omega)] at c1
      have z1 := B1.frozen k
      go_wp2
      go_roundw
      case rel =>
        refine ⟨k + 1, by omega, by go_num, B0.set_other (by simp) _, ?_, kc.setCell (by simp) _⟩
        have q := B1.set k (.int .u32 (u (wordsOf f k)))
        rw [← wd_low (wordsOf f) hlt, sp_set _ (by omega)] at q
        rw [← wd_low (wordsOf f) hlt]
        exact q
      case measure => simp [intOf]; omega
    · have e16 : k = 16 := by omega
      rw [e16] at A1
      clear e16
      go_wp2
      go_loopw [5] (fun i wr => ∃ k : Nat, 16 ≤ k ∧ k ≤ 64 ∧ i = .int .i64 k ∧ At wr w.heap.size (sp (wordsOf f) 0) ∧ At wr (w.heap.size + 1) (sp (wordsOf f) k) ∧ Below w.heap.size w wr) (fun i _ => 64 - (intOf i).toNat)
      case atStart => exact ⟨16, by omega, by omega, rfl, A0, A1, kb⟩
      case round =>
        clear kb A0 A1 hlt hk
        obtain ⟨k, hk1, hk, rfl, A0, A1, kb⟩ := hrel
        by_cases hlt : k < 64
        · have c15 := (A1.cell (k - 15)).trans (sp_old _ (by omega) (by omega))
          have c2 := (A1.cell (k - 2)).trans (sp_old _ (by omega) (by omega))
          have c16 := (A1.cell (k - 16)).trans (sp_old _ (by omega) (by omega))
          have c7 := (A1.cell (k - 7)).trans (sp_old _ (by omega) (by omega))
          have t15 : ((k : Int) - 15).toNat = k - 15 := by omega
          have t2 : ((k : Int) - 2).toNat = k - 2 := by omega
          have t16 : ((k : Int) - 16).toNat = k - 16 := by omega
          have t7 : ((k : Int) - 7).toNat = k - 7 := by omega
          have o15 : 0 ≤ (k : Int) - 15 := by omega
          have o2 : 0 ≤ (k : Int) - 2 := by omega
          have o16 : 0 ≤ (k : Int) - 16 := by omega
          have o7 : 0 ≤ (k : Int) - 7 := by omega
          have p15 : (k : Int) - 15 < 64 := by omega
          have p2 : (k : Int) - 2 < 64 := by omega
          have p16 : (k : Int) - 16 < 64 := by omega
          have p7 : (k : Int) - 7 < 64 := by omega
          go_wp2
          go_quiet (fail)
          go_wp2_with fail
          refine (rightK _ 7 7 rfl _).mono ?_
          rintro e w' ⟨rfl, rfl⟩
          go_wp2_with fail
          refine (rightK _ 18 18 rfl _).mono ?_
          rintro e w' ⟨rfl, rfl⟩
          go_wp2_with fail
          refine (rightK _ 17 17 rfl _).mono ?_
          rintro e w' ⟨rfl, rfl⟩
          go_wp2_with fail
          refine (rightK _ 19 19 rfl _).mono ?_
          rintro e w' ⟨rfl, rfl⟩
          go_wp2_with fail
          obtain ⟨W, hW⟩ : ∃ W : World, W = wr.drewN nq := ⟨_, rfl⟩
          rw [← hW]
          have A0' : At W w.heap.size (sp (wordsOf f) 0) := by rw [hW]; exact A0
          have A1' : At W (w.heap.size + 1) (sp (wordsOf f) k) := by rw [hW]; exact A1
          have kb' : Below w.heap.size w W := by rw [hW]; exact below_drew kb _
          clear hW A0 A1 kb c15 c2 c16 c7
          have c16 := (A1'.cell (k - 16)).trans (sp_old _ (by omega) (by omega))
          have c7 := (A1'.cell (k - 7)).trans (sp_old _ (by omega) (by omega))
          have ck := A1'.cell k
          rw [sp_at _ _ hlt, if_neg (by omega)] at ck
          have zk := A1'.frozen k
          go_region
          go_wp2
          go_roundw
          case rel =>
            have q := A1'.set k (.int .u32 (u (wd (wordsOf f) k)))
            rw [sp_set _ hlt, wd_high _ hk1, ← wd_sum] at q
            exact ⟨k + 1, by omega, by omega, by go_num, At.drew (A0'.set_other (by simp) _), At.drew q, below_drew1 (kb'.setCell (by simp) _)⟩
          case measure => simp [intOf]; omega
        · obtain rfl : k = 64 := by omega
          clear hlt hk hk1
          obtain ⟨t0, ht0⟩ := A0
          obtain ⟨t1, ht1⟩ := A1
          have HT1 := RotF.aside ht1
          have HT0 := RotF.aside ht0
          clear ht0 ht1
          go_wp2_with (first | (refine wpList_load_row rfl 104 _ rfl _ rfl t1 _ _ _ HT1.out Tryd.underlying104 rfl (by kernel_rfl) ?_) | (refine wpList_store_row rfl 104 _ _ rfl _ _ rfl rfl t0 _ HT0.out (by kernel_rfl) (by simp [sp_size]) (sp_one _ _) ?_))
          exact bodyPost_ret (v := .agg (sp (wordsOf f) 64)) (results_cell_row Tryd.results69 _ _ w.heap.size t0 _ (0, 0) _ rfl (setRow_heap _ _ _ _ t0 _ HT0.out) Tryd.underlying104 rfl (by kernel_rfl)) rfl ⟨rfl, below_row kb (Nat.le_refl _) _⟩
end Go.Proofs.YteojkfbnenfmkaaDoor.ShaD
