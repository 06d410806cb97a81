/- Plain facts on bytes as they are summed: bytes, a mark, noughts, and how many bits these are. No condition. | Plain facts on a content's sum: block by block of the bytes as they are summed. No condition. | What sha.Block returns: contracts. -/
import Derived.Test.YteojkfbnenfmkaaDoorRotDJ4
import Derived.Laws.CopyOwn
import Derived.Test.YteojkfbnenfmkaaDoorShaCJ2
import Derived.BigRegion
namespace Go.Proofs.YteojkfbnenfmkaaDoor.PadM
set_option maxRecDepth 100000
open Go.RowKit RotC

/-- Numbers as cells of bytes. -/
def bv (l : List Int) : List Value := l.map (Value.int .u8)
theorem bv_length (l : List Int) : (bv l).length = l.length := by simp [bv]
theorem bv_append (a b : List Int) : bv (a ++ b) = bv a ++ bv b := by simp [bv]
theorem bv_one (l : List Int) : ∀ v ∈ bv l, v.oneCell' = true := by
  intro v hv
  simp only [bv, List.mem_map] at hv
  obtain ⟨n, _, rfl⟩ := hv
  rfl
theorem bv_at (l : List Int) {i : Nat} (h : i < l.length) : (bv l)[i]? = some (.int .u8 (l.getD i 0)) := by
  simp [bv, h]

/-- How long n bytes are when they are summed. -/
def nPad (n : Nat) : Nat := (n + 72) / 64 * 64
theorem nPad_lo (n : Nat) : n + 9 ≤ nPad n := by unfold nPad; omega
theorem nPad_hi (n : Nat) : nPad n ≤ n + 72 := by unfold nPad; omega
theorem nPad_mod (n : Nat) : nPad n % 64 = 0 := by unfold nPad; omega

/-- The eight bytes of a long number. -/
def long8 (a : Int) : List Int := [a / 72057594037927936, a / 281474976710656 % 256, a / 1099511627776 % 256, a / 4294967296 % 256, a / 16777216 % 256, a / 65536 % 256, a / 256 % 256, a % 256]
theorem bv_long8 (a : Int) : bv (long8 a) = (longV a).toList := rfl
theorem long8_length (a : Int) : (long8 a).length = 8 := rfl

/-- Bytes as they are summed. -/
def padL (bs : List Int) : List Int := bs ++ (128 :: (List.replicate (nPad bs.length - bs.length - 9) 0 ++ long8 (8 * bs.length)))
theorem padL_length (bs : List Int) : (padL bs).length = nPad bs.length := by
  have := nPad_lo bs.length
  simp [padL, long8]
  omega

/-- The row after the bytes, the mark, and the length are laid into noughts. -/
theorem lay1 (bs : List Int) (n : Nat) : splice (List.replicate n (Value.int .u8 0)) 0 (bv bs) = bv (bs ++ List.replicate (n - bs.length) 0) := by
  simp [splice, bv, List.map_replicate]
theorem lay1_at (bs : List Int) (m : Nat) (hm : 0 < m) : (bv (bs ++ List.replicate m 0)).toArray[bs.length]? = some (.int .u8 0) := by
  simp [bv, hm]
theorem lay2 (bs : List Int) (m : Nat) (hm : 0 < m) : (bv (bs ++ List.replicate m 0)).toArray.setIfInBounds bs.length (Value.int .u8 128) = (bv (bs ++ (128 :: List.replicate (m - 1) 0))).toArray := by
  obtain ⟨k, rfl⟩ : ∃ k, m = k + 1 := ⟨m - 1, by omega⟩
  rw [List.setIfInBounds_toArray]
  congr 1
  simp [bv, List.replicate_succ]
theorem lay3 (bs ls : List Int) (m : Nat) (hl : ls.length = 8) (hm : 8 ≤ m) : splice (bv (bs ++ (128 :: List.replicate m 0))) (bs.length + 1 + m - 8) (bv ls) = bv (bs ++ (128 :: (List.replicate (m - 8) 0 ++ ls))) := by
  obtain ⟨k, rfl⟩ : ∃ k, m = k + 8 := ⟨m - 8, by omega⟩
  have e1 : bs ++ (128 :: List.replicate (k + 8) 0) = (bs ++ (128 :: List.replicate k (0 : Int))) ++ List.replicate 8 0 := by
    rw [← List.replicate_append_replicate]; simp
  have e2 : bs.length + 1 + (k + 8) - 8 = (bv (bs ++ (128 :: List.replicate k (0 : Int)))).length := by simp [bv_length]; omega
  rw [e1, bv_append, e2]
  unfold splice
  rw [List.take_left, bv_length ls, hl]
  have e3 : List.drop ((bv (bs ++ (128 :: List.replicate k (0 : Int)))).length + 8) (bv (bs ++ (128 :: List.replicate k 0)) ++ bv (List.replicate 8 0)) = [] := by
    apply List.drop_eq_nil_of_le
    simp [bv_length]
  rw [e3, List.append_nil, ← bv_append]
  simp

/-- Bytes laid behind others into noughts. -/
theorem lay_behind (xs ls : List Int) (m : Nat) (hm : ls.length ≤ m) : splice (bv (xs ++ List.replicate m 0)) xs.length (bv ls) = bv ((xs ++ ls) ++ List.replicate (m - ls.length) 0) := by
  obtain ⟨k, rfl⟩ : ∃ k, m = ls.length + k := ⟨m - ls.length, by omega⟩
  have e2 : xs.length = (bv xs).length := (bv_length xs).symm
  rw [bv_append, e2]
  unfold splice
  rw [List.take_left, bv_length ls, ← List.drop_drop, List.drop_left, ← List.replicate_append_replicate, bv_append, bv_append, bv_append]
  rw [List.drop_left' (by simp [bv_length])]
  simp

/-- The four bytes of a word. -/
def four8 (a : Int) : List Int := [a / 16777216, a / 65536 % 256, a / 256 % 256, a % 256]
theorem bv_four8 (a : Int) : bv (four8 a) = (fourV a).toList := rfl
theorem four8_length (a : Int) : (four8 a).length = 4 := rfl
end Go.Proofs.YteojkfbnenfmkaaDoor.PadM
namespace Go.Proofs.YteojkfbnenfmkaaDoor.SumM
set_option maxRecDepth 100000
open Go.RowKit RotM RotN RotC RotD ShaM ShaD RotG Small PadM

/-- Byte j of block k. -/
def blk (P : List Int) (k j : Nat) : Int := P.getD (64 * k + j) 0
/-- What k blocks make of the beginning. -/
def hsum (P : List Int) : Nat → H8
  | 0 => startS
  | k + 1 => blockS (hsum P k) (wordsOf (blk P k))

theorem padL_B {bs : List Int} (h : ∀ x ∈ bs, B x) (hl : bs.length ≤ 1099511627776) : ∀ x ∈ padL bs, B x := by
  intro x hx
  unfold padL at hx
  simp only [List.mem_append, List.mem_cons, List.mem_replicate, long8, List.not_mem_nil, or_false] at hx
  have hm : 0 ≤ (8 * (bs.length : Int)) ∧ 8 * (bs.length : Int) ≤ 18446744073709551615 := by omega
  generalize 8 * (bs.length : Int) = a at *
  unfold B
  rcases hx with hx | hx | hx | hx | hx | hx | hx | hx | hx | hx | hx
  · exact h x hx
  all_goals omega
theorem getD_B {l : List Int} (h : ∀ x ∈ l, B x) (i : Nat) : B (l.getD i 0) := by
  by_cases hi : i < l.length
  · rw [List.getD_eq_getElem?_getD, List.getElem?_eq_getElem hi]
    exact h _ (List.getElem_mem hi)
  · rw [List.getD_eq_getElem?_getD, List.getElem?_eq_none (by omega)]
    unfold B
    simp
theorem blk_B {P : List Int} (h : ∀ x ∈ P, B x) (k j : Nat) : B (blk P k j) := getD_B h _
/-- A block's cells, out of a row known whole. -/
theorem blk_at {w : World} {g : Nat} {P : List Int} (h : At w g (bv P).toArray) (k : Nat) (hk : 64 * k + 64 ≤ P.length) (i : Nat) (hi : i < 64) : w.cell? ⟨g, 64 * k + i, none⟩ = some (.int .u8 (blk P k i)) := by
  rw [h.cell, List.getElem?_toArray, bv_at _ (by omega)]
  rfl
end Go.Proofs.YteojkfbnenfmkaaDoor.SumM
namespace Go.Proofs.YteojkfbnenfmkaaDoor.ShaE
set_option maxRecDepth 100000
open Go.RowKit RotM RotN RotC RotD ShaM ShaC ShaD RotG Small

/-- The table of constants is as the program's text lays it. -/
def KIn (w : World) : Prop := ∀ i, i < 64 → w.cell? ⟨0, i, none⟩ = some (.int .u32 (u (kc i)))
theorem KIn.lt {w : World} (h : KIn w) : 0 < w.heap.size := block_lt_of_cell (h 0 (by omega))
theorem KIn.below {w w' : World} (h : KIn w) (hb : Below w.heap.size w w') : KIn w' := fun i hi => (hb.cell h.lt).trans (h i hi)
theorem one8 (h : H8) : h.vals.all (·.oneCell') = true := by kernel_rfl
theorem info8 : (Tryd.prog.info? 89).map (·.size) = some 8 := by kernel_rfl
theorem info64 : (Tryd.prog.info? 104).map (·.size) = some 64 := by kernel_rfl
def z8 : H8 := ⟨0, 0, 0, 0, 0, 0, 0, 0⟩


theorem stepI (h : H8) (n : Int) (x : BitVec 32) (hn : n = u x) (w : World) :
    Calls Tryd.prog 70 #[.agg h.vals, .int .u32 n] w fun r w' => r = .returned (.agg (rnd h x).vals) ∧ Below w.heap.size w w' := by
  subst hn
  exact ShaC.step h x w
/-- What comes into step k of a block. -/
def inW (m : Nat → BitVec 32) (k : Nat) : BitVec 32 := kc k + wd m k

set_option maxHeartbeats 1000000 in
set_option maxRecDepth 100000 in
theorem block_v (h v : H8) (b off cap : Nat) (f : Nat → Int) (hf : ∀ i, B (f i)) (hcap : 64 ≤ cap) (w : World) (hc : ∀ i, i < 64 → w.cell? ⟨b, off + i, none⟩ = some (.int .u8 (f i))) (hK : KIn w) (hv : Hid (rnds h (inW (wordsOf f)) 64 = v)) :
    Calls Tryd.prog 59 #[.agg h.vals, .slice (some ⟨b, off, none⟩) 64 cap] w fun e w' => e = .returned (.tuple #[.agg (h.add v).vals, .bool true]) ∧ Below w.heap.size w w' := by
  have hb : b < w.heap.size := block_lt_of_cell (hc 0 (by omega))
  have HC := RotF.aside hc
  have HF := RotF.aside hf
  clear hc hf
  go_enter Tryd.func59, Tryd.ntmps59
  go_wp2_with fail
  refine (spread b off cap f HF.out hcap _ (fun i hi => (Below.cell (B := w.heap.size) (w := w) (by go_grown) hb).trans (HC.out i hi))).mono ?_
  rintro e w1 ⟨rfl, h1⟩
  have A2 := (At.old2 w h.vals 89 _).below h1 (by simp; omega)
  have A4 := (At.new2 w z8.vals 89 _).below h1 (by simp)
  have kb : Below w.heap.size w w1 := Below.trans (by go_grown) (h1.mono (by simp; omega))
  clear h1
  go_wp2_with (first | (refine wpList_store_last rfl 104 _ _ rfl _ _ _ 104 rfl _ rfl ?c1 rfl ?c2 ?c3 ?c4 ?_; (case c1 => simp); (case c2 => rw [sp_size]; exact info64); (case c3 => rw [sp_size]; rfl); (case c4 => exact sp_one _ _)) | (refine wpList_load_at rfl 89 _ rfl _ rfl h.vals _ ?c1 Tryd.underlying89 rfl ?c2 ?_; (case c1 => exact (A2.alloc _)); (case c2 => exact info8)) | (refine wpList_store_last rfl 89 _ _ rfl _ _ _ 89 rfl _ rfl ?c1 rfl ?c2 ?c3 ?c4 ?_; (case c1 => simp); (case c2 => exact info8); (case c3 => rfl); (case c4 => exact one8 _)))
  have hz := A4.lt
  have n2 : w.heap.size ≠ w1.heap.size := by omega
  go_loopw [17] (fun i wr => ∃ k : Nat, k ≤ 64 ∧ i = .int .i64 k ∧ At wr w.heap.size h.vals ∧ At wr (w.heap.size + 1) z8.vals ∧ At wr w1.heap.size (sp (wordsOf f) 64) ∧ At wr (w1.heap.size + 1) (rnds h (inW (wordsOf f)) k).vals ∧ Below w.heap.size w wr) (fun i _ => 64 - (intOf i).toNat)
  case atStart => exact ⟨0, Nat.zero_le _, rfl, (A2.alloc _).alloc _, (A4.alloc _).alloc _, At.old2 _ _ _ _, At.new2 _ _ _ _, (kb.alloc kb.size _).alloc (by have := kb.size; simp; omega) _⟩
  case round =>
    clear A2 A4 kb
    obtain ⟨k, hk, rfl, A2, A4, A6, A7, kb⟩ := hrel
    by_cases hlt : k < 64
    · go_wp2
      refine wp_region_still_tail 8 (by kernel_rfl) (by kernel_rfl) ?_
      simp only [List.take_succ_cons, List.take_zero, List.drop_succ_cons, List.drop_zero]
      obtain ⟨W, hW⟩ : ∃ W : World, W = wr.drew := ⟨_, rfl⟩
      change wpStill _ _ wr.drew (fun a' => wpList _ _ _ _ a' wr.drew) _ _
      rw [← hW]
      have C2 : At W w.heap.size h.vals := by rw [hW]; exact A2
      have C4 : At W (w.heap.size + 1) z8.vals := by rw [hW]; exact A4
      have C6 : At W w1.heap.size (sp (wordsOf f) 64) := by rw [hW]; exact A6
      have C7 : At W (w1.heap.size + 1) (rnds h (inW (wordsOf f)) k).vals := by rw [hW]; exact A7
      have kc' : Below w.heap.size w W := by rw [hW]; exact below_drew1 kb
      clear hW A2 A4 A6 A7 kb
      have cw := (C6.cell k).trans (sp_old _ hlt (by omega))
      have cK := (kc'.cell (p := ⟨0, k, none⟩) hK.lt).trans (hK k hlt)
      refine wpStill_load_at rfl 89 _ rfl _ rfl _ _ C7 Tryd.underlying89 rfl info8 ?_
      repeat still_step
      refine wpStill_nil ?_
      go_wp2_with fail
      refine (stepI _ _ (inW (wordsOf f) k) (by rw [add_u]; rfl) _).mono ?_
      rintro e w2 ⟨rfl, h2⟩
      have D2 := C2.below h2 C2.lt
      have D4 := C4.below h2 C4.lt
      have D6 := C6.below h2 C6.lt
      have D7 := C7.below h2 C7.lt
      have kd := kc'.trans (h2.mono kc'.size)
      clear C2 C4 C6 C7 kc' h2 cw cK
      go_wp2_with (refine wpList_store_at rfl 89 _ _ rfl _ _ rfl rfl _ D7 ?c2 ?c3 ?c4 ?_; (case c2 => exact info8); (case c3 => rfl); (case c4 => exact one8 _))
      go_roundw
      case rel => exact ⟨k + 1, by omega, by go_num, D2.row_other (by omega) _, D4.row_other (by omega) _, D6.row_other (by omega) _, D7.row _, below_row kd (by omega) _⟩
      case measure => simp [intOf]; omega
    · have e64 : k = 64 := by omega
      rw [e64, hv.out] at A7
      clear e64
      have d64 : decide ((k : Int) < 64) = false := by simp; omega
      go_wp2
      go_loopw [30] (fun i wr => ∃ k : Nat, k ≤ 8 ∧ i = .int .i64 k ∧ At wr w.heap.size (h.part v k).vals ∧ At wr (w.heap.size + 1) z8.vals ∧ At wr (w1.heap.size + 1) v.vals ∧ Below w.heap.size w wr) (fun i _ => 8 - (intOf i).toNat)
      case atStart => exact ⟨0, Nat.zero_le _, rfl, by rw [H8.part_none]; exact A2, A4, A7, kb⟩
      case round =>
        clear A2 A4 A6 A7 kb hlt hk
        obtain ⟨i, hi, rfl, A2, A4, A7, kb⟩ := hrel
        by_cases hlt : i < 8
        · have c2 := (A2.cell i).trans (H8.vals_at _ hlt)
          rw [H8.part_w _ _ hlt] at c2
          have z2 := A2.frozen i
          have c7 := (A7.cell i).trans (H8.vals_at _ hlt)
          go_wp2
          go_region
          go_wp2
          go_roundw
          case rel =>
            have q := A2.set i (.int .u32 (u (h.w i + v.w i)))
            rw [H8.part_set _ _ hlt, ← add_u] at q
            exact ⟨i + 1, by omega, by go_num, At.drew q, At.drew (A4.set_other (by simp) _), At.drew (A7.set_other (by simp; omega) _), below_drew1 (kb.setCell (by simp) _)⟩
          case measure => simp [intOf]; omega
        · have e8 : i = 8 := by omega
          rw [e8, H8.part_all] at A2
          clear e8
          go_wp2_with (first | (refine wpList_load_at rfl 89 _ rfl _ rfl _ _ A2 Tryd.underlying89 rfl ?c2 ?_; (case c2 => exact info8)) | (refine wpList_store_at rfl 89 _ _ rfl _ _ rfl rfl _ A4 ?c2 ?c3 ?c4 ?_; (case c2 => exact info8); (case c3 => rfl); (case c4 => exact one8 _)))
          exact bodyPost_ret (v := .tuple #[.agg (h.add v).vals, .bool true]) (results_at_tmp Tryd.results59 _ _ (w.heap.size + 1) _ _ _ rfl rfl (A4.row _) Tryd.underlying89 rfl info8) rfl ⟨rfl, below_row kb (by omega) _⟩
theorem block_yes (h : H8) (b off cap : Nat) (f : Nat → Int) (hf : ∀ i, B (f i)) (hcap : 64 ≤ cap) (w : World) (hc : ∀ i, i < 64 → w.cell? ⟨b, off + i, none⟩ = some (.int .u8 (f i))) (hK : KIn w) :
    Calls Tryd.prog 59 #[.agg h.vals, .slice (some ⟨b, off, none⟩) 64 cap] w fun e w' => e = .returned (.tuple #[.agg (blockS h (wordsOf f)).vals, .bool true]) ∧ Below w.heap.size w w' :=
  block_v h _ b off cap f hf hcap w hc hK (RotF.aside rfl)
end Go.Proofs.YteojkfbnenfmkaaDoor.ShaE
