/- What the document's answer's Block of package sha returns: contracts. -/
import Derived.Test.YteojkfbnenfmkaaGreatDoorRefCJ4
namespace Go.Proofs.YteojkfbnenfmkaaGreatDoor.RefU
set_option maxRecDepth 100000
open Go.RowKit RotM RotN RotC RotD ShaM ShaD RotG Small RefS RefT

theorem quietS {P : Program} {f : FuncId} {args : Array Value} {w w1 : World} {n : Nat} {v : Value} (h : Calls P f args w1 fun e w' => e = .returned v ∧ w1 = w') (hw : w1 = w.drewN n) :
    Calls P f args w1 fun e w'' => e = .returned v ∧ ∃ m, w'' = w.drewN m :=
  h.mono fun _ _ ⟨he, hm⟩ => ⟨he, n, by rw [← hm, hw]⟩
theorem one8 (h : H8) : h.vals.all (·.oneCell') = true := by kernel_rfl
theorem info8 : (Tryz.prog.info? 79).map (·.size) = some 8 := by kernel_rfl
def z8 : H8 := ⟨0, 0, 0, 0, 0, 0, 0, 0⟩
/-- What comes into step k of a block. -/
def inW (m : Nat → BitVec 32) (k : Nat) : BitVec 32 := kc k + wd m k


/-- What stands in memory inside Block's first loop. -/
structure Inv (w : World) (g6 g7 g8 : Nat) (h v : H8) (m : Nat → BitVec 32) (wr : World) : Prop where
  a2 : At wr w.heap.size h.vals
  a4 : At wr (w.heap.size + 1) z8.vals
  a6 : At wr g6 kcells
  a7 : At wr g7 (sp m 64)
  a8 : At wr g8 v.vals
  kb : Below w.heap.size w wr
theorem Inv.drewN {w : World} {g6 g7 g8 : Nat} {h v : H8} {m : Nat → BitVec 32} {wr : World} (i : Inv w g6 g7 g8 h v m wr) (n : Nat) : Inv w g6 g7 g8 h v m (wr.drewN n) :=
  ⟨i.a2, i.a4, i.a6, i.a7, i.a8, below_drew i.kb n⟩
theorem Inv.named {w : World} {g6 g7 g8 : Nat} {h v : H8} {m : Nat → BitVec 32} {wr : World} (i : Inv w g6 g7 g8 h v m wr) (n : Nat) : ∃ W, wr.drewN n = W ∧ Inv w g6 g7 g8 h v m W := ⟨_, rfl, i.drewN n⟩

theorem q6 (x : BitVec 32) (w : World) (n : Nat) : Calls Tryz.prog 96 #[.int .u32 (u x), .int .i64 6] (w.drewN n) fun e w'' => e = .returned (.int .u32 (u (rotr x 6))) ∧ ∃ n, w'' = w.drewN n := quietS (RefS.rightK x 6 6 (by omega) rfl _) rfl
theorem q11 (x : BitVec 32) (w : World) (n : Nat) : Calls Tryz.prog 96 #[.int .u32 (u x), .int .i64 11] (w.drewN n) fun e w'' => e = .returned (.int .u32 (u (rotr x 11))) ∧ ∃ n, w'' = w.drewN n := quietS (RefS.rightK x 11 11 (by omega) rfl _) rfl
theorem q25 (x : BitVec 32) (w : World) (n : Nat) : Calls Tryz.prog 96 #[.int .u32 (u x), .int .i64 25] (w.drewN n) fun e w'' => e = .returned (.int .u32 (u (rotr x 25))) ∧ ∃ n, w'' = w.drewN n := quietS (RefS.rightK x 25 25 (by omega) rfl _) rfl
theorem q2 (x : BitVec 32) (w : World) (n : Nat) : Calls Tryz.prog 96 #[.int .u32 (u x), .int .i64 2] (w.drewN n) fun e w'' => e = .returned (.int .u32 (u (rotr x 2))) ∧ ∃ n, w'' = w.drewN n := quietS (RefS.rightK x 2 2 (by omega) rfl _) rfl
theorem q13 (x : BitVec 32) (w : World) (n : Nat) : Calls Tryz.prog 96 #[.int .u32 (u x), .int .i64 13] (w.drewN n) fun e w'' => e = .returned (.int .u32 (u (rotr x 13))) ∧ ∃ n, w'' = w.drewN n := quietS (RefS.rightK x 13 13 (by omega) rfl _) rfl
theorem q22 (x : BitVec 32) (w : World) (n : Nat) : Calls Tryz.prog 96 #[.int .u32 (u x), .int .i64 22] (w.drewN n) fun e w'' => e = .returned (.int .u32 (u (rotr x 22))) ∧ ∃ n, w'' = w.drewN n := quietS (RefS.rightK x 22 22 (by omega) rfl _) rfl
theorem qt (a b c : BitVec 32) (w : World) (n : Nat) : Calls Tryz.prog 95 #[.int .u32 (u a), .int .u32 (u b), .int .u32 (u c)] (w.drewN n) fun e w'' => e = .returned (.int .u32 (u (a ^^^ b ^^^ c))) ∧ ∃ n, w'' = w.drewN n := quietS (RefS.twist a b c _) rfl
theorem qp (a b c : BitVec 32) (w : World) (n : Nat) : Calls Tryz.prog 97 #[.int .u32 (u a), .int .u32 (u b), .int .u32 (u c)] (w.drewN n) fun e w'' => e = .returned (.int .u32 (u (pickW a b c))) ∧ ∃ n, w'' = w.drewN n := quietS (refpick a b c _) rfl

theorem ref6 (z t p k w s m : BitVec 32) : (u z + u t + u p + u k + u w + (u s + u m)) % 4294967296 = u (z + t + p + (k + w) + (s + m)) := by
  unfold u
  simp only [BitVec.toNat_add]
  omega
theorem ref5 (d z t p k w : BitVec 32) : (u d + (u z + u t + u p + u k + u w)) % 4294967296 = u (d + (z + t + p + (k + w))) := by
  unfold u
  simp only [BitVec.toNat_add]
  omega

set_option maxHeartbeats 1000000 in
set_option maxRecDepth 100000 in
theorem block_v (h v : H8) (b off cap : Nat) (f : Nat → Int) (hf : ∀ i, B (f i)) (w : World) (hc : ∀ i, i < 64 → w.cell? ⟨b, off + i, none⟩ = some (.int .u8 (f i))) (hv : Hid (rnds h (inW (wordsOf f)) 64 = v)) :
    Calls Tryz.prog 77 #[.agg h.vals, .slice (some ⟨b, off, none⟩) 64 cap] w fun e w' => e = .returned (.tuple #[.agg (h.add v).vals, .bool true]) ∧ Below w.heap.size w w' := by
  have hb : b < w.heap.size := block_lt_of_cell (hc 0 (by omega))
  have HC := RotF.aside hc
  have HF := RotF.aside hf
  clear hc hf
  go_enter Tryz.func77, Tryz.ntmps77
  go_wp2_with fail
  refine (constants _).mono ?_
  rintro e w1 ⟨rfl, h1⟩
  have A2 := (At.old2 w h.vals 79 _).below h1 (by simp; omega)
  have A4 := (At.new2 w z8.vals 79 _).below h1 (by simp)
  have kb : Below w.heap.size w w1 := Below.trans (by go_grown) (h1.mono (by simp; omega))
  clear h1
  go_wp2_with (refine wpList_store_last rfl 101 _ _ rfl _ _ _ 101 rfl _ rfl ?c1 rfl ?c2 ?c3 ?c4 ?_; (case c1 => simp); (case c2 => rw [kcells_size]; exact info64); (case c3 => rw [kcells_size]; rfl); (case c4 => exact kcells_one))
  have hs := kb.size
  refine (words b off cap f HF.out _ (fun i hi => (Below.cell (kb.alloc hs _) hb).trans (HC.out i hi))).mono ?_
  rintro e w2 ⟨rfl, h2⟩
  have B2 := (A2.alloc _).below h2 (A2.alloc _).lt
  have B4 := (A4.alloc _).below h2 (A4.alloc _).lt
  have B6 := (At.new w1 kcells 101).below h2 (At.new _ _ _).lt
  have kc2 : Below w.heap.size w w2 := (kb.alloc hs _).trans (h2.mono (by simp; omega))
  have l4 := A4.lt
  have l6 := B6.lt
  clear h2 A2 A4 kb
  go_wp2_with (first | (refine wpList_store_last rfl 101 _ _ rfl _ _ _ 101 rfl _ rfl ?c1 rfl ?c2 ?c3 ?c4 ?_; (case c1 => simp); (case c2 => rw [sp_size]; exact info64); (case c3 => rw [sp_size]; rfl); (case c4 => exact sp_one _ _)) | (refine wpList_load_at rfl 79 _ rfl _ rfl h.vals _ ?c1 Tryz.underlying79 rfl ?c2 ?_; (case c1 => exact (B2.alloc _)); (case c2 => exact info8)) | (refine wpList_store_last rfl 79 _ _ rfl _ _ _ 79 rfl _ rfl ?c1 rfl ?c2 ?c3 ?c4 ?_; (case c1 => simp); (case c2 => exact info8); (case c3 => rfl); (case c4 => exact one8 _)))
  go_loopw [9] (fun i wr => ∃ k : Nat, k ≤ 64 ∧ i = .int .i64 k ∧ Inv w w1.heap.size w2.heap.size (w2.heap.size + 1) h (rnds h (inW (wordsOf f)) k) (wordsOf f) wr) (fun i _ => 64 - (intOf i).toNat)
  case atStart => exact ⟨0, Nat.zero_le _, rfl, (B2.alloc _).alloc _, (B4.alloc _).alloc _, (B6.alloc _).alloc _, At.old2 _ _ _ _, At.new2 _ _ _ _, (kc2.alloc kc2.size _).alloc (by have := kc2.size; simp; omega) _⟩
  case round =>
    clear B2 B4 B6 kc2
    obtain ⟨k, hk, rfl, I⟩ := hrel
    by_cases hlt : k < 64
    · obtain ⟨r, hr⟩ : ∃ r, rnds h (inW (wordsOf f)) k = r := ⟨_, rfl⟩
      rw [hr] at I
      have HR := RotF.aside hr
      clear hr
      have c4 : wr.cell? ⟨w2.heap.size + 1, 4, none⟩ = some (.int .u32 (u r.e)) := I.a8.cell 4
      go_wp2
      go_quiet ((first | (go_at_call 96; with_reducible exact q6 _ _ _) | (go_at_call 96; with_reducible exact q11 _ _ _) | (go_at_call 96; with_reducible exact q25 _ _ _) | (go_at_call 95; with_reducible exact qt _ _ _ _ _) | (go_at_call 97; with_reducible exact qp _ _ _ _ _)))
      obtain ⟨W1, hW1, I1⟩ := I.named nq
      rw [hW1]
      clear c4 hW1 I
      have c0 : W1.cell? ⟨w2.heap.size + 1, 0, none⟩ = some (.int .u32 (u r.a)) := I1.a8.cell 0
      go_wp2
      go_quiet ((first | (go_at_call 96; with_reducible exact q2 _ _ _) | (go_at_call 96; with_reducible exact q13 _ _ _) | (go_at_call 96; with_reducible exact q22 _ _ _) | (go_at_call 95; with_reducible exact qt _ _ _ _ _) | (go_at_call 97; with_reducible exact qp _ _ _ _ _)))
      obtain ⟨W2, hW2, I2⟩ := I1.named nq
      rw [hW2]
      clear c0 hW2 I1
      have c4 : W2.cell? ⟨w2.heap.size + 1, 4, none⟩ = some (.int .u32 (u r.e)) := I2.a8.cell 4
      have c5 : W2.cell? ⟨w2.heap.size + 1, 5, none⟩ = some (.int .u32 (u r.f)) := I2.a8.cell 5
      have c6 : W2.cell? ⟨w2.heap.size + 1, 6, none⟩ = some (.int .u32 (u r.g)) := I2.a8.cell 6
      have c7 : W2.cell? ⟨w2.heap.size + 1, 7, none⟩ = some (.int .u32 (u r.z)) := I2.a8.cell 7
      have cw := (I2.a7.cell k).trans (sp_old _ hlt (by omega))
      have cK := (I2.a6.cell k).trans (kcells_at hlt)
      go_wp2
      go_quiet ((first | (go_at_call 95; with_reducible exact qt _ _ _ _ _) | (go_at_call 97; with_reducible exact qp _ _ _ _ _)))
      obtain ⟨W3, hW3, I3⟩ := I2.named nq
      rw [hW3]
      clear c4 c5 c6 c7 cw cK hW3 I2
      have c0 : W3.cell? ⟨w2.heap.size + 1, 0, none⟩ = some (.int .u32 (u r.a)) := I3.a8.cell 0
      have c1 : W3.cell? ⟨w2.heap.size + 1, 1, none⟩ = some (.int .u32 (u r.b)) := I3.a8.cell 1
      have c2 : W3.cell? ⟨w2.heap.size + 1, 2, none⟩ = some (.int .u32 (u r.c)) := I3.a8.cell 2
      have c3 : W3.cell? ⟨w2.heap.size + 1, 3, none⟩ = some (.int .u32 (u r.d)) := I3.a8.cell 3
      have c4 : W3.cell? ⟨w2.heap.size + 1, 4, none⟩ = some (.int .u32 (u r.e)) := I3.a8.cell 4
      have c5 : W3.cell? ⟨w2.heap.size + 1, 5, none⟩ = some (.int .u32 (u r.f)) := I3.a8.cell 5
      have c6 : W3.cell? ⟨w2.heap.size + 1, 6, none⟩ = some (.int .u32 (u r.g)) := I3.a8.cell 6
      go_wp2_with fail
      refine (refmost r.a r.b r.c _).mono ?_
      rintro e w' ⟨rfl, rfl⟩
      go_wp2_with (refine wpList_store_at rfl 79 _ _ rfl _ (rnd r (inW (wordsOf f) k)).vals rfl ?c5 _ I3.a8 ?c2 ?c3 ?c4 ?_; (case c2 => exact info8); (case c3 => rfl); (case c4 => exact one8 _); (case c5 => show Value.agg #[_, _, _, _, _, _, _, _] = _; rw [ref6, ref5]; rfl))
      go_roundw
      case rel =>
        refine ⟨k + 1, by omega, by go_num, I3.a2.row_other (by omega) _, I3.a4.row_other (by omega) _, I3.a6.row_other (by omega) _, I3.a7.row_other (by omega) _, ?_, below_row I3.kb (by omega) _⟩
        have q := I3.a8.row (rnd r (inW (wordsOf f) k)).vals
        have e : rnds h (inW (wordsOf f)) (k + 1) = rnd r (inW (wordsOf f) k) := by rw [← HR.out]; rfl
        rw [e]
        exact q
      case measure => simp [intOf]; omega
    · have A2 := I.a2
      have A4 := I.a4
      have A8 := I.a8
      have kb := I.kb
      have e64 : k = 64 := by omega
      rw [e64, hv.out] at A8
      clear e64 I
      have d64 : decide ((k : Int) < 64) = false := by simp; omega
      go_wp2
      go_loopw [14] (fun i wr => ∃ k : Nat, k ≤ 8 ∧ i = .int .i64 k ∧ At wr w.heap.size (h.part v k).vals ∧ At wr (w.heap.size + 1) z8.vals ∧ At wr (w2.heap.size + 1) v.vals ∧ Below w.heap.size w wr) (fun i _ => 8 - (intOf i).toNat)
      case atStart => exact ⟨0, Nat.zero_le _, rfl, by rw [H8.part_none]; exact A2, A4, A8, kb⟩
      case round =>
        clear A2 A4 A8 kb hlt hk
        obtain ⟨i, hi, rfl, A2, A4, A7, kb⟩ := hrel
        by_cases hlt : i < 8
        · have c2 := (A2.cell i).trans (H8.vals_at _ hlt)
          rw [H8.part_w _ _ hlt] at c2
          have z2 := A2.frozen i
          have c7 := (A7.cell i).trans (H8.vals_at _ hlt)
          go_wp2
          go_region
          go_wp2
          go_roundw
          case rel =>
            have q := A2.set i (.int .u32 (u (h.w i + v.w i)))
            rw [H8.part_set _ _ hlt, ← add_u] at q
            exact ⟨i + 1, by omega, by go_num, At.drew q, At.drew (A4.set_other (by simp) _), At.drew (A7.set_other (by simp; omega) _), below_drew1 (kb.setCell (by simp) _)⟩
          case measure => simp [intOf]; omega
        · have e8 : i = 8 := by omega
          rw [e8, H8.part_all] at A2
          clear e8
          go_wp2_with (first | (refine wpList_load_at rfl 79 _ rfl _ rfl _ _ A2 Tryz.underlying79 rfl ?c2 ?_; (case c2 => exact info8)) | (refine wpList_store_at rfl 79 _ _ rfl _ _ rfl rfl _ A4 ?c2 ?c3 ?c4 ?_; (case c2 => exact info8); (case c3 => rfl); (case c4 => exact one8 _)))
          exact bodyPost_ret (v := .tuple #[.agg (h.add v).vals, .bool true]) (results_at_tmp Tryz.results77 _ _ (w.heap.size + 1) _ _ _ rfl rfl (A4.row _) Tryz.underlying79 rfl info8) rfl ⟨rfl, below_row kb (by omega) _⟩

theorem block_yes (h : H8) (b off cap : Nat) (f : Nat → Int) (hf : ∀ i, B (f i)) (w : World) (hc : ∀ i, i < 64 → w.cell? ⟨b, off + i, none⟩ = some (.int .u8 (f i))) :
    Calls Tryz.prog 77 #[.agg h.vals, .slice (some ⟨b, off, none⟩) 64 cap] w fun e w' => e = .returned (.tuple #[.agg (blockS h (wordsOf f)).vals, .bool true]) ∧ Below w.heap.size w w' :=
  block_v h _ b off cap f hf w hc (RotF.aside rfl)
end Go.Proofs.YteojkfbnenfmkaaGreatDoor.RefU
