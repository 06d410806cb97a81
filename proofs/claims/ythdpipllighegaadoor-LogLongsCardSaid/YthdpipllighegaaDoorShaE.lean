/- What sha.Block returns: contracts. -/
import Derived.Test.YthdpipllighegaaDoorShaD
import Derived.BigRegion
namespace Go.Proofs.YthdpipllighegaaDoor.ShaE
set_option maxRecDepth 100000
open Go.RowKit RotM RotN RotC RotD ShaM ShaC ShaD RotG Small

/-- The table of constants is as the program's text lays it. -/
def KIn (w : World) : Prop := ∀ i, i < 64 → w.cell? ⟨0, i, none⟩ = some (.int .u32 (u (kc i)))
theorem KIn.lt {w : World} (h : KIn w) : 0 < w.heap.size := block_lt_of_cell (h 0 (by omega))
theorem KIn.below {w w' : World} (h : KIn w) (hb : Below w.heap.size w w') : KIn w' := fun i hi => (hb.cell h.lt).trans (h i hi)
theorem one8 (h : H8) : h.vals.all (·.oneCell') = true := by kernel_rfl
theorem info8 : (Tryd.prog.info? 53).map (·.size) = some 8 := by kernel_rfl
theorem info64 : (Tryd.prog.info? 61).map (·.size) = some 64 := by kernel_rfl
def z8 : H8 := ⟨0, 0, 0, 0, 0, 0, 0, 0⟩

set_option maxHeartbeats 400000 in
theorem block_no (h : H8) (A : Option Addr) (len cap : Nat) (hl : len ≠ 64) (w : World) :
    Calls Tryd.prog 35 #[.agg h.vals, .slice A len cap] w fun e w' => e = .returned (.tuple #[.agg h.vals, .bool false]) ∧ Below w.heap.size w w' := by
  obtain ⟨a, b, c, d, e, f, g, z⟩ := h
  unfold H8.vals
  have hl' : ((len : Int) != 64) = true := by simp; omega
  go_enter Tryd.func35, Tryd.ntmps35
  go_wp2
  exact bodyPost_ret (v := .tuple #[.agg #[.int .u32 (u a), .int .u32 (u b), .int .u32 (u c), .int .u32 (u d), .int .u32 (u e), .int .u32 (u f), .int .u32 (u g), .int .u32 (u z)], .bool false]) (by simp [results, Tryd.results35, go_sem]) rfl ⟨rfl, by go_grown⟩

theorem stepI (h : H8) (n : Int) (x : BitVec 32) (hn : n = u x) (w : World) :
    Calls Tryd.prog 47 #[.agg h.vals, .int .u32 n] w fun r w' => r = .returned (.agg (rnd h x).vals) ∧ Below w.heap.size w w' := by
  subst hn
  exact ShaC.step h x w
/-- What comes into step k of a block. -/
def inW (m : Nat → BitVec 32) (k : Nat) : BitVec 32 := kc k + wd m k

set_option maxHeartbeats 1000000 in
set_option maxRecDepth 100000 in
theorem block_v (h v : H8) (b off cap : Nat) (f : Nat → Int) (hf : ∀ i, B (f i)) (hcap : 64 ≤ cap) (w : World) (hc : ∀ i, i < 64 → w.cell? ⟨b, off + i, none⟩ = some (.int .u8 (f i))) (hK : KIn w) (hv : Hid (rnds h (inW (wordsOf f)) 64 = v)) :
    Calls Tryd.prog 35 #[.agg h.vals, .slice (some ⟨b, off, none⟩) 64 cap] w fun e w' => e = .returned (.tuple #[.agg (h.add v).vals, .bool true]) ∧ Below w.heap.size w w' := by
  have hb : b < w.heap.size := block_lt_of_cell (hc 0 (by omega))
  have HC := RotF.aside hc
  have HF := RotF.aside hf
  clear hc hf
  go_enter Tryd.func35, Tryd.ntmps35
  go_wp2_with fail
  refine (spread b off cap f HF.out hcap _ (fun i hi => (Below.cell (B := w.heap.size) (w := w) (by go_grown) hb).trans (HC.out i hi))).mono ?_
  rintro e w1 ⟨rfl, h1⟩
  have A2 := (At.old2 w h.vals 53 _).below h1 (by simp; omega)
  have A4 := (At.new2 w z8.vals 53 _).below h1 (by simp)
  have kb : Below w.heap.size w w1 := Below.trans (by go_grown) (h1.mono (by simp; omega))
  clear h1
  go_wp2_with (first | (refine wpList_store_last rfl 61 _ _ rfl _ _ _ 61 rfl _ rfl ?c1 rfl ?c2 ?c3 ?c4 ?_; (case c1 => simp); (case c2 => rw [sp_size]; exact info64); (case c3 => rw [sp_size]; rfl); (case c4 => exact sp_one _ _)) | (refine wpList_load_at rfl 53 _ rfl _ rfl h.vals _ ?c1 Tryd.underlying53 rfl ?c2 ?_; (case c1 => exact (A2.alloc _)); (case c2 => exact info8)) | (refine wpList_store_last rfl 53 _ _ rfl _ _ _ 53 rfl _ rfl ?c1 rfl ?c2 ?c3 ?c4 ?_; (case c1 => simp); (case c2 => exact info8); (case c3 => rfl); (case c4 => exact one8 _)))
  have hz := A4.lt
  have n2 : w.heap.size ≠ w1.heap.size := by omega
  go_loopw [17] (fun i wr => ∃ k : Nat, k ≤ 64 ∧ i = .int .i64 k ∧ At wr w.heap.size h.vals ∧ At wr (w.heap.size + 1) z8.vals ∧ At wr w1.heap.size (sp (wordsOf f) 64) ∧ At wr (w1.heap.size + 1) (rnds h (inW (wordsOf f)) k).vals ∧ Below w.heap.size w wr) (fun i _ => 64 - (intOf i).toNat)
  case atStart => exact ⟨0, Nat.zero_le _, rfl, (A2.alloc _).alloc _, (A4.alloc _).alloc _, At.old2 _ _ _ _, At.new2 _ _ _ _, (kb.alloc kb.size _).alloc (by have := kb.size; simp; omega) _⟩
  case round =>
    clear A2 A4 kb
    obtain ⟨k, hk, rfl, A2, A4, A6, A7, kb⟩ := hrel
    by_cases hlt : k < 64
    · go_wp2
      refine wp_region_still_tail 8 (by kernel_rfl) (by kernel_rfl) ?_
      simp only [List.take_succ_cons, List.take_zero, List.drop_succ_cons, List.drop_zero]
      obtain ⟨W, hW⟩ : ∃ W : World, W = wr.drew := ⟨_, rfl⟩
      change wpStill _ _ wr.drew (fun a' => wpList _ _ _ _ a' wr.drew) _ _
      rw [← hW]
      have C2 : At W w.heap.size h.vals := by rw [hW]; exact A2
      have C4 : At W (w.heap.size + 1) z8.vals := by rw [hW]; exact A4
      have C6 : At W w1.heap.size (sp (wordsOf f) 64) := by rw [hW]; exact A6
      have C7 : At W (w1.heap.size + 1) (rnds h (inW (wordsOf f)) k).vals := by rw [hW]; exact A7
      have kc' : Below w.heap.size w W := by rw [hW]; exact below_drew1 kb
      clear hW A2 A4 A6 A7 kb
      have cw := (C6.cell k).trans (sp_old _ hlt (by omega))
      have cK := (kc'.cell (p := ⟨0, k, none⟩) hK.lt).trans (hK k hlt)
      refine wpStill_load_at rfl 53 _ rfl _ rfl _ _ C7 Tryd.underlying53 rfl info8 ?_
      repeat still_step
      refine wpStill_nil ?_
      go_wp2_with fail
      refine (stepI _ _ (inW (wordsOf f) k) (by rw [add_u]; rfl) _).mono ?_
      rintro e w2 ⟨rfl, h2⟩
      have D2 := C2.below h2 C2.lt
      have D4 := C4.below h2 C4.lt
      have D6 := C6.below h2 C6.lt
      have D7 := C7.below h2 C7.lt
      have kd := kc'.trans (h2.mono kc'.size)
      clear C2 C4 C6 C7 kc' h2 cw cK
      go_wp2_with (refine wpList_store_at rfl 53 _ _ rfl _ _ rfl rfl _ D7 ?c2 ?c3 ?c4 ?_; (case c2 => exact info8); (case c3 => rfl); (case c4 => exact one8 _))
      go_roundw
      case rel => exact ⟨k + 1, by omega, by go_num, D2.row_other (by omega) _, D4.row_other (by omega) _, D6.row_other (by omega) _, D7.row _, below_row kd (by omega) _⟩
      case measure => simp [intOf]; omega
    · have e64 : k = 64 := by omega
      rw [e64, hv.out] at A7
      clear e64
      have d64 : decide ((k : Int) < 64) = false := by simp; omega
      go_wp2
      go_loopw [30] (fun i wr => ∃ k : Nat, k ≤ 8 ∧ i = .int .i64 k ∧ At wr w.heap.size (h.part v k).vals ∧ At wr (w.heap.size + 1) z8.vals ∧ At wr (w1.heap.size + 1) v.vals ∧ Below w.heap.size w wr) (fun i _ => 8 - (intOf i).toNat)
      case atStart => exact ⟨0, Nat.zero_le _, rfl, by rw [H8.part_none]; exact A2, A4, A7, kb⟩
      case round =>
        clear A2 A4 A6 A7 kb hlt hk
        obtain ⟨i, hi, rfl, A2, A4, A7, kb⟩ := hrel
        by_cases hlt : i < 8
        · have c2 := (A2.cell i).trans (H8.vals_at _ hlt)
          rw [H8.part_w _ _ hlt] at c2
          have z2 := A2.frozen i
          have c7 := (A7.cell i).trans (H8.vals_at _ hlt)
          go_wp2
          go_region
          go_wp2
          go_roundw
          case rel =>
            have q := A2.set i (.int .u32 (u (h.w i + v.w i)))
            rw [H8.part_set _ _ hlt, ← add_u] at q
            exact ⟨i + 1, by omega, by go_num, At.drew q, At.drew (A4.set_other (by simp) _), At.drew (A7.set_other (by simp; omega) _), below_drew1 (kb.setCell (by simp) _)⟩
          case measure => simp [intOf]; omega
        · have e8 : i = 8 := by omega
          rw [e8, H8.part_all] at A2
          clear e8
          go_wp2_with (first | (refine wpList_load_at rfl 53 _ rfl _ rfl _ _ A2 Tryd.underlying53 rfl ?c2 ?_; (case c2 => exact info8)) | (refine wpList_store_at rfl 53 _ _ rfl _ _ rfl rfl _ A4 ?c2 ?c3 ?c4 ?_; (case c2 => exact info8); (case c3 => rfl); (case c4 => exact one8 _)))
          exact bodyPost_ret (v := .tuple #[.agg (h.add v).vals, .bool true]) (results_at_tmp Tryd.results35 _ _ (w.heap.size + 1) _ _ _ rfl rfl (A4.row _) Tryd.underlying53 rfl info8) rfl ⟨rfl, below_row kb (by omega) _⟩
theorem block_yes (h : H8) (b off cap : Nat) (f : Nat → Int) (hf : ∀ i, B (f i)) (hcap : 64 ≤ cap) (w : World) (hc : ∀ i, i < 64 → w.cell? ⟨b, off + i, none⟩ = some (.int .u8 (f i))) (hK : KIn w) :
    Calls Tryd.prog 35 #[.agg h.vals, .slice (some ⟨b, off, none⟩) 64 cap] w fun e w' => e = .returned (.tuple #[.agg (blockS h (wordsOf f)).vals, .bool true]) ∧ Below w.heap.size w w' :=
  block_v h _ b off cap f hf hcap w hc hK (RotF.aside rfl)
end Go.Proofs.YthdpipllighegaaDoor.ShaE
