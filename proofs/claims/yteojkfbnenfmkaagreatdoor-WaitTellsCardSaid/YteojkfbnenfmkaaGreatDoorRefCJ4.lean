/- What the document's answers to Pick, Most, Right and Four of package rot return: contracts. | What the document's answers to Long and Word of package rot return: contracts. | What the document's answers' twist, Constants, Start and words of package sha return: contracts. | What the document's answer's words of package sha returns: a contract. -/
import Derived.Test.YteojkfbnenfmkaaGreatDoorShaMJ5
import Derived.Test.YteojkfbnenfmkaaGreatDoorSmallJ3
import Derived.BigRegion
namespace Go.Proofs.YteojkfbnenfmkaaGreatDoor.RotC
set_option maxRecDepth 100000
open Go.RowKit RotM

theorem refpick (p a b : BitVec 32) (w : World) :
    Calls Tryz.prog 97 #[.int .u32 (u p), .int .u32 (u a), .int .u32 (u b)] w fun e w' => e = .returned (.int .u32 (u (pickW p a b))) ∧ w = w' := by
  have h1 := bits_and p a
  have h2 := bits_and p b
  have h3 := sub_and p b
  have h4 := u_range (~~~p &&& b)
  go_enter Tryz.func97, Tryz.ntmps97
  go_wp2
  go_ret
  exact ⟨ret_u (by rw [bits_or]; rfl), rfl⟩
theorem refmost (a b c : BitVec 32) (w : World) :
    Calls Tryz.prog 98 #[.int .u32 (u a), .int .u32 (u b), .int .u32 (u c)] w fun e w' => e = .returned (.int .u32 (u (mostW a b c))) ∧ w = w' := by
  go_enter Tryz.func98, Tryz.ntmps98
  go_wp2
  go_ret
  exact ⟨ret_u (by rw [bits_and, bits_and, bits_and, bits_or, bits_or]; rfl), rfl⟩
set_option maxHeartbeats 400000 in
theorem refright (x : BitVec 32) (n : Int) (hn : -9223372036854775808 ≤ n ∧ n ≤ 9223372036854775807) (w : World) :
    Calls Tryz.prog 96 #[.int .u32 (u x), .int .i64 n] w fun e w' => e = .returned (.int .u32 (u (rotr x (n % 32).toNat))) ∧ w = w' := by
  have hx := u_range x
  have hr : n.tmod 32 = if n % 32 = 0 ∨ 0 ≤ n then n % 32 else n % 32 - 32 := by rw [Int.tmod_eq_emod]; split <;> split <;> omega
  by_cases hc : n % 32 = 0 ∨ 0 ≤ n
  · rw [if_pos hc] at hr
    go_enter Tryz.func96, Tryz.ntmps96
    go_wp2
    go_ret
    exact ⟨ret_u (by rw [shr_u, shl_u, bits_or, show (32 - n % 32).toNat = 32 - (n % 32).toNat from by omega]; rfl), rfl⟩
  · rw [if_neg hc] at hr
    go_enter Tryz.func96, Tryz.ntmps96
    go_wp2
    go_ret
    exact ⟨ret_u (by rw [shr_u, shl_u, bits_or, show (32 - n % 32).toNat = 32 - (n % 32).toNat from by omega]; rfl), rfl⟩
theorem reffour (a : Int) (ha : 0 ≤ a ∧ a ≤ 4294967295) (w : World) :
    Calls Tryz.prog 78 #[.int .u32 a] w fun e w' => e = .returned (.agg (fourV a)) ∧ w' = w.alloc (.cells (fourV a) 92) := by
  go_enter Tryz.func78, Tryz.ntmps78
  go_wp2
  exact bodyPost_ret (v := .agg (fourV a)) (by simp [results, Tryz.results78, go_sem, fourV]) rfl ⟨rfl, rfl⟩
end Go.Proofs.YteojkfbnenfmkaaGreatDoor.RotC
namespace Go.Proofs.YteojkfbnenfmkaaGreatDoor.RotD
set_option maxRecDepth 100000
open Go.RowKit RotM RotC

set_option maxHeartbeats 1000000 in
theorem reflong (a : Int) (ha : 0 ≤ a ∧ a ≤ 18446744073709551615) (w : World) :
    Calls Tryz.prog 92 #[.int .u64 a] w fun e w' => e = .returned (.agg (longV a)) ∧ Below w.heap.size w w' := by
  go_enter Tryz.func92, Tryz.ntmps92
  go_wp2
  go_rounds 9
  go_returns
  refine ⟨agg8 ?_ ?_ ?_ ?_ ?_ ?_ ?_ ?_, ?_⟩
  all_goals first | omega | go_grown
set_option maxHeartbeats 1000000 in
theorem refword_yes (b off len cap k : Nat) (b0 b1 b2 b3 : Int) (hl : len ≤ 100) (hk : k + 4 ≤ len) (w : World)
    (c0 : w.cell? ⟨b, off + k, none⟩ = some (.int .u8 b0)) (c1 : w.cell? ⟨b, off + (k + 1), none⟩ = some (.int .u8 b1)) (c2 : w.cell? ⟨b, off + (k + 2), none⟩ = some (.int .u8 b2)) (c3 : w.cell? ⟨b, off + (k + 3), none⟩ = some (.int .u8 b3))
    (r0 : 0 ≤ b0 ∧ b0 ≤ 255) (r1 : 0 ≤ b1 ∧ b1 ≤ 255) (r2 : 0 ≤ b2 ∧ b2 ≤ 255) (r3 : 0 ≤ b3 ∧ b3 ≤ 255) :
    Calls Tryz.prog 116 #[.slice (some ⟨b, off, none⟩) len cap, .int .i64 (k : Int)] w fun e w' => e = .returned (.tuple #[.int .u32 (four4 b0 b1 b2 b3), .bool true]) ∧ Below w.heap.size w w' := by
  go_enter Tryz.func116, Tryz.ntmps116
  go_wp2
  go_quiet (fail)
  go_wp2
  go_ret2
  exact ⟨rfl, below_drewN _ _⟩
end Go.Proofs.YteojkfbnenfmkaaGreatDoor.RotD
namespace Go.Proofs.YteojkfbnenfmkaaGreatDoor.RefS
set_option maxRecDepth 100000
open Go.RowKit RotM RotN RotC RotD ShaM ShaC ShaD RotG Small

theorem twist (a b c : BitVec 32) (w : World) :
    Calls Tryz.prog 95 #[.int .u32 (u a), .int .u32 (u b), .int .u32 (u c)] w fun e w' => e = .returned (.int .u32 (u (a ^^^ b ^^^ c))) ∧ w = w' := by
  go_enter Tryz.func95, Tryz.ntmps95
  go_wp2
  go_ret
  exact ⟨ret_u (by rw [bits_xor, bits_xor]), rfl⟩

theorem start (w : World) :
    Calls Tryz.prog 76 #[] w fun e w' => e = .returned (.agg startS.vals) ∧ Below w.heap.size w w' := by
  go_enter Tryz.func76, Tryz.ntmps76
  go_wp2
  exact bodyPost_ret (v := .agg startS.vals) (by simp [results, Tryz.results76, go_sem]; rfl) rfl ⟨rfl, by go_grown⟩

theorem rightK (x : BitVec 32) (n : Int) (j : Nat) (hn : -9223372036854775808 ≤ n ∧ n ≤ 9223372036854775807) (h : (n % 32).toNat = j) (w : World) :
    Calls Tryz.prog 96 #[.int .u32 (u x), .int .i64 n] w fun e w' => e = .returned (.int .u32 (u (rotr x j))) ∧ w = w' := by
  subst h
  exact refright x n hn w

/-- The table of constants as an array. -/
def kcells : Array Value := Array.ofFn (n := 64) fun j => Value.int .u32 (u (kc j.val))
theorem kcells_size : kcells.size = 64 := by simp [kcells]
theorem kcells_at {j : Nat} (hj : j < 64) : kcells[j]? = some (.int .u32 (u (kc j))) := by simp [kcells, hj]
theorem kcells_one : kcells.all (·.oneCell') = true := by
  rw [Array.all_eq_true_iff_forall_mem]
  intro v hv
  obtain ⟨i, rfl⟩ := Array.mem_ofFn.1 hv
  rfl

theorem info64 : (Tryz.prog.info? 101).map (·.size) = some 64 := by kernel_rfl
set_option maxHeartbeats 1000000 in
set_option maxRecDepth 100000 in
theorem constants (w : World) :
    Calls Tryz.prog 93 #[] w fun e w' => e = .returned (.agg kcells) ∧ Below w.heap.size w w' := by
  go_enter Tryz.func93, Tryz.ntmps93
  go_wp2_with (first | (refine wpList_build rfl 101 _ rfl ?c1 ?_; (case c1 => kernel_rfl)) | (refine wpList_store_last rfl 101 _ _ rfl _ _ kcells 101 rfl _ rfl ?c1 ?c5 ?c2 ?c3 ?c4 ?_; (case c1 => simp); (case c5 => kernel_rfl); (case c2 => rw [kcells_size]; exact info64); (case c3 => rw [kcells_size]; rfl); (case c4 => exact kcells_one)))
  exact bodyPost_ret (v := .agg kcells) (results_at Tryz.results93 _ _ w.heap.size _ _ rfl (At.new _ _ _) Tryz.underlying101 rfl (by rw [kcells_size]; exact info64)) rfl ⟨rfl, by go_grown⟩
end Go.Proofs.YteojkfbnenfmkaaGreatDoor.RefS
namespace Go.Proofs.YteojkfbnenfmkaaGreatDoor.RefT
set_option maxRecDepth 100000
open Go.RowKit RotM RotN RotC RotD ShaM ShaD RotG Small RefS

theorem word4 (b off cap k : Nat) (f : Nat → Int) (hf : ∀ i, B (f i)) (hk : k < 16) (p : Int) (hp : p = 4 * (k : Int)) (w : World) (hc : ∀ i, i < 64 → w.cell? ⟨b, off + i, none⟩ = some (.int .u8 (f i))) :
    Calls Tryz.prog 116 #[.slice (some ⟨b, off, none⟩) 64 cap, .int .i64 p] w fun e w' => e = .returned (.tuple #[.int .u32 (u (wordsOf f k)), .bool true]) ∧ Below w.heap.size w w' := by
  obtain rfl : p = ((4 * k : Nat) : Int) := by omega
  rw [u_words hf]
  exact refword_yes b off 64 cap (4 * k) _ _ _ _ (by omega) (by omega) w (hc _ (by omega)) (hc _ (by omega)) (hc _ (by omega)) (hc _ (by omega)) (hf _) (hf _) (hf _) (hf _)
theorem twistI (a b : BitVec 32) (n : Int) (c : BitVec 32) (hn : n = u c) (w : World) :
    Calls Tryz.prog 95 #[.int .u32 (u a), .int .u32 (u b), .int .u32 n] w fun e w' => e = .returned (.int .u32 (u (a ^^^ b ^^^ c))) ∧ w = w' := by
  subst hn
  exact RefS.twist a b c w
theorem wd_sum' (a b x y : BitVec 32) : (u a + u b + u (rotr x 7 ^^^ rotr x 18 ^^^ x >>> 3) + u (rotr y 17 ^^^ rotr y 19 ^^^ y >>> 10)) % 4294967296 = u (a + b + s0 x + s1 y) := by
  rw [sum4]
  rfl

set_option maxHeartbeats 1000000 in
set_option maxRecDepth 100000 in
theorem words (b off cap : Nat) (f : Nat → Int) (hf : ∀ i, B (f i)) (w : World) (hc : ∀ i, i < 64 → w.cell? ⟨b, off + i, none⟩ = some (.int .u8 (f i))) :
    Calls Tryz.prog 94 #[.slice (some ⟨b, off, none⟩) 64 cap] w fun e w' => e = .returned (.agg (sp (wordsOf f) 64)) ∧ Below w.heap.size w w' := by
  have hb : b < w.heap.size := block_lt_of_cell (hc 0 (by omega))
  have HC := RotF.aside hc
  have HF := RotF.aside hf
  clear hc hf
  go_enter Tryz.func94, Tryz.ntmps94
  go_wp2_with (first | (refine wpList_build rfl 101 _ rfl ?c1 ?_; (case c1 => kernel_rfl)) | (refine wpList_store_last rfl 101 _ _ rfl _ _ (sp (wordsOf f) 0) 101 rfl _ rfl ?c1 ?c5 ?c2 ?c3 ?c4 ?_; (case c1 => simp); (case c5 => kernel_rfl); (case c2 => rw [sp_size]; exact info64); (case c3 => rw [sp_size]; rfl); (case c4 => exact sp_one _ _)))
  go_loopw [4] (fun i wr => ∃ k : Nat, k ≤ 64 ∧ i = .int .i64 k ∧ At wr w.heap.size (sp (wordsOf f) 0) ∧ At wr (w.heap.size + 1) (sp (wordsOf f) k) ∧ Below w.heap.size w wr) (fun i _ => 64 - (intOf i).toNat)
  case atStart => exact ⟨0, Nat.zero_le _, rfl, by rw [sp_zero]; exact ⟨_, heap_alloc2_old _ _ _⟩, ⟨_, heap_alloc2_new _ _ _⟩, by go_grown⟩
  case round =>
    obtain ⟨k, hk, rfl, A0, A1, kb⟩ := hrel
    by_cases hlt : k < 64
    · by_cases h16 : k < 16
      · go_wp2_with fail
        refine (word4 b off cap k f HF.out h16 _ rfl _ (fun i hi => (kb.cell hb).trans (HC.out i hi))).mono ?_
        rintro e w1 ⟨rfl, h1⟩
        have B0 := A0.below h1 A0.lt
        have B1 := A1.below h1 A1.lt
        have kc := kb.trans (h1.mono kb.size)
        clear A0 A1 kb h1
        have c1 := B1.cell k
        rw [sp_at _ _ (by omega), if_neg (by omega)] at c1
        have z1 := B1.frozen k
        go_wp2
        go_roundw
        case rel =>
          have q := B1.set k (.int .u32 (u (wordsOf f k)))
          rw [← wd_low (wordsOf f) h16, sp_set _ (by omega)] at q
          rw [← wd_low (wordsOf f) h16]
          exact ⟨k + 1, by omega, by go_num, B0.set_other (by simp) _, q, kc.setCell (by simp) _⟩
        case measure => simp [intOf]; omega
      · have hk1 : 16 ≤ k := by omega
        have c15 := (A1.cell (k - 15)).trans (sp_old _ (by omega) (by omega))
        have c2 := (A1.cell (k - 2)).trans (sp_old _ (by omega) (by omega))
        have c16 := (A1.cell (k - 16)).trans (sp_old _ (by omega) (by omega))
        have c7 := (A1.cell (k - 7)).trans (sp_old _ (by omega) (by omega))
        have t15 : ((k : Int) - 15).toNat = k - 15 := by omega
        have t2 : ((k : Int) - 2).toNat = k - 2 := by omega
        have t16 : ((k : Int) - 16).toNat = k - 16 := by omega
        have t7 : ((k : Int) - 7).toNat = k - 7 := by omega
        have o15 : 0 ≤ (k : Int) - 15 := by omega
        have o2 : 0 ≤ (k : Int) - 2 := by omega
        have o16 : 0 ≤ (k : Int) - 16 := by omega
        have o7 : 0 ≤ (k : Int) - 7 := by omega
        have p15 : (k : Int) - 15 < 64 := by omega
        have p2 : (k : Int) - 2 < 64 := by omega
        have p16 : (k : Int) - 16 < 64 := by omega
        have p7 : (k : Int) - 7 < 64 := by omega
        have ck := A1.cell k
        rw [sp_at _ _ hlt, if_neg (by omega)] at ck
        have zk := A1.frozen k
        have r15 := u_range (wd (wordsOf f) (k - 15))
        have r2 := u_range (wd (wordsOf f) (k - 2))
        go_wp2_with fail
        refine (RefS.rightK _ 7 7 (by omega) rfl _).mono ?_
        rintro e w' ⟨rfl, rfl⟩
        go_wp2_with fail
        refine (RefS.rightK _ 18 18 (by omega) rfl _).mono ?_
        rintro e w' ⟨rfl, rfl⟩
        go_wp2_with fail
        refine (twistI _ _ (u (wd (wordsOf f) (k - 15)) / 8) _ (shr3 (wd (wordsOf f) (k - 15))) _).mono ?_
        rintro e w' ⟨rfl, rfl⟩
        go_wp2_with fail
        refine (RefS.rightK _ 17 17 (by omega) rfl _).mono ?_
        rintro e w' ⟨rfl, rfl⟩
        go_wp2_with fail
        refine (RefS.rightK _ 19 19 (by omega) rfl _).mono ?_
        rintro e w' ⟨rfl, rfl⟩
        go_wp2_with fail
        refine (twistI _ _ (u (wd (wordsOf f) (k - 2)) / 1024) _ (shr10 (wd (wordsOf f) (k - 2))) _).mono ?_
        rintro e w' ⟨rfl, rfl⟩
        go_wp2_with fail
        go_region
        go_wp2
        go_roundw
        case rel =>
          have q := A1.set k (.int .u32 (u (wd (wordsOf f) k)))
          rw [sp_set _ hlt, wd_high _ hk1, ← wd_sum'] at q
          exact ⟨k + 1, by omega, by go_num, At.drew (A0.set_other (by simp) _), At.drew q, below_drew1 (kb.setCell (by simp) _)⟩
        case measure => simp [intOf]; omega
    · have e64 : k = 64 := by omega
      rw [e64] at A1
      clear e64
      go_wp2_with (first | (refine wpList_load_at rfl 101 _ rfl _ rfl _ _ A1 Tryz.underlying101 rfl ?c2 ?_; (case c2 => rw [sp_size]; exact info64)) | (refine wpList_store_at rfl 101 _ _ rfl _ _ rfl rfl _ A0 ?c2 ?c3 ?c4 ?_; (case c2 => rw [sp_size]; exact info64); (case c3 => rw [sp_size, sp_size]); (case c4 => exact sp_one _ _)))
      exact bodyPost_ret (v := .agg (sp (wordsOf f) 64)) (results_at Tryz.results94 _ _ w.heap.size _ _ rfl (A0.row _) Tryz.underlying101 rfl (by rw [sp_size]; exact info64)) rfl ⟨rfl, below_row kb (Nat.le_refl _) _⟩
end Go.Proofs.YteojkfbnenfmkaaGreatDoor.RefT
