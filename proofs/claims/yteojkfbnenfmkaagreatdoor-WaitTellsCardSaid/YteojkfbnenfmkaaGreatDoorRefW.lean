/- What the document's answer's Sum of package sha returns: a contract. -/
import Derived.Test.YteojkfbnenfmkaaGreatDoorPadMJ3
import Derived.Test.YteojkfbnenfmkaaGreatDoorRefU
import Derived.Test.YteojkfbnenfmkaaGreatDoorRefVJ2
import Derived.Test.YteojkfbnenfmkaaGreatDoorShaH
import Derived.Deep.RegionWith
namespace Go.Proofs.YteojkfbnenfmkaaGreatDoor.RefW
set_option maxRecDepth 100000
open Go.RowKit RotM RotN RotC RotD ShaM ShaD RotG Small PadM ShaF ShaG SumM RefV ShaH

/-- A row whose first cells are the bytes l. -/
def CellsIn (w : World) (g : Nat) (l : List Int) : Prop := g < w.heap.size ∧ ∀ i, i < l.length → w.cell? ⟨g, i, none⟩ = some (.int .u8 (l.getD i 0))
theorem CellsIn.below {w w' : World} {g : Nat} {l : List Int} {k : Nat} (h : CellsIn w g l) (hb : Below k w w') (hg : g < k) : CellsIn w' g l :=
  ⟨Nat.lt_of_lt_of_le h.1 hb.size, fun i hi => (hb.cell (p := ⟨g, i, none⟩) hg).trans (h.2 i hi)⟩
theorem CellsIn.alloc {w : World} {g : Nat} {l : List Int} (h : CellsIn w g l) (o : Obj) : CellsIn (w.alloc o) g l := h.below ((Below.refl w.heap.size w).alloc (Nat.le_refl _) o) h.1
theorem CellsIn.drew {w : World} {g : Nat} {l : List Int} (h : CellsIn w g l) : CellsIn w.drew g l := h
theorem CellsIn.set_other {w : World} {g : Nat} {l : List Int} (h : CellsIn w g l) {a : Addr} (ha : g ≠ a.block) (v : Value) : CellsIn (w.setCell a v) g l := by
  have hb : Below (g + 1) (w.setCell a v) (w.setCell a v) := Below.refl _ _
  refine ⟨by simpa using h.1, fun i hi => ?_⟩
  rw [← h.2 i hi]
  exact World.cell?_of_block (heap_setCell_other w a g v ha)
theorem CellsIn.blk {w : World} {g : Nat} {P : List Int} (h : CellsIn w g P) (k : Nat) (hk : 64 * k + 64 ≤ P.length) (i : Nat) (hi : i < 64) : w.cell? ⟨g, 64 * k + i, none⟩ = some (.int .u8 (blk P k i)) := by
  rw [h.2 _ (by omega)]
  rfl

theorem block_out (h r : H8) (b off cap : Nat) (f : Nat → Int) (hf : ∀ i, B (f i)) (hr : blockS h (wordsOf f) = r) (w : World) (hc : ∀ i, i < 64 → w.cell? ⟨b, off + i, none⟩ = some (.int .u8 (f i))) :
    Calls Tryz.prog 77 #[.agg #[.int .u32 (u h.a), .int .u32 (u h.b), .int .u32 (u h.c), .int .u32 (u h.d), .int .u32 (u h.e), .int .u32 (u h.f), .int .u32 (u h.g), .int .u32 (u h.z)], .slice (some ⟨b, off, none⟩) 64 cap] w
      fun e w' => e = .returned (.tuple #[.agg #[.int .u32 (u r.a), .int .u32 (u r.b), .int .u32 (u r.c), .int .u32 (u r.d), .int .u32 (u r.e), .int .u32 (u r.f), .int .u32 (u r.g), .int .u32 (u r.z)], .bool true]) ∧ Below w.heap.size w w' := by
  subst hr
  exact RefU.block_yes h b off cap f hf w hc
theorem fourA (x : BitVec 32) (w : World) : Calls Tryz.prog 78 #[.int .u32 (u x)] w fun e w' => e = .returned (.agg (fourV (u x))) ∧ Below w.heap.size w w' := by
  refine (reffour (u x) (u_range x) w).mono fun e w' ⟨he, hw⟩ => ⟨he, ?_⟩
  subst hw
  go_grown

/-- The row of an id of which the first k words, and j bytes of the next one, are laid. -/
def idW (h : H8) (k j : Nat) : List Value := bv ((idL h k ++ (four8 (u (h.w k))).take j) ++ List.replicate (32 - 4 * k - j) 0)
theorem idW_none (h : H8) (k : Nat) : idW h k 0 = idV h k := by simp [idW, idV]
theorem idW_all (h : H8) (k : Nat) : idW h k 4 = idV h (k + 1) := by
  unfold idW idV
  rw [idL_succ, show (four8 (u (h.w k))).take 4 = four8 (u (h.w k)) from rfl, show 32 - 4 * k - 4 = 32 - 4 * (k + 1) by omega]
theorem set_behind (xs ys : List Int) (n : Nat) (hn : xs.length = n) (y v : Int) : (bv (xs ++ y :: ys)).toArray.setIfInBounds n (.int .u8 v) = (bv (xs ++ v :: ys)).toArray := by
  subst hn
  rw [List.setIfInBounds_toArray]
  congr 1
  simp [bv]
theorem idW_set (h : H8) (k j : Nat) (hk : k < 8) (hj : j < 4) : (idW h k j).toArray.setIfInBounds (4 * k + j) (.int .u8 ((four8 (u (h.w k))).getD j 0)) = (idW h k (j + 1)).toArray := by
  unfold idW
  rw [show 32 - 4 * k - j = (32 - 4 * k - (j + 1)) + 1 by omega, List.replicate_succ, set_behind _ _ _ (by rw [List.length_append, idL_length, List.length_take, four8_length]; omega)]
  congr 2
  rw [show (four8 (u (h.w k))).take (j + 1) = (four8 (u (h.w k))).take j ++ [(four8 (u (h.w k))).getD j 0] from by
    rcases (by omega : j = 0 ∨ j = 1 ∨ j = 2 ∨ j = 3) with rfl | rfl | rfl | rfl <;> rfl]
  simp
theorem idW_at (h : H8) (k j : Nat) (hk : k < 8) (hj : j < 4) : (idW h k j).toArray[4 * k + j]? = some (.int .u8 0) := by
  unfold idW
  rw [show 32 - 4 * k - j = (32 - 4 * k - (j + 1)) + 1 by omega, List.replicate_succ, List.getElem?_toArray, bv_at _ (by simp [idL_length, four8_length]; omega), List.getD_eq_getElem?_getD, List.getElem?_append_right (by rw [List.length_append, idL_length, List.length_take, four8_length]; omega)]
  rw [show 4 * k + j - (idL h k ++ (four8 (u (h.w k))).take j).length = 0 by rw [List.length_append, idL_length, List.length_take, four8_length]; omega]
  rfl
theorem four_at {w : World} {g : Nat} {a : Int} (A : At w g (fourV a)) (j : Nat) (hj : j < 4) : w.cell? ⟨g, j, none⟩ = some (.int .u8 ((four8 a).getD j 0)) := by
  rw [A.cell]
  rcases (by omega : j = 0 ∨ j = 1 ∨ j = 2 ∨ j = 3) with rfl | rfl | rfl | rfl <;> rfl
theorem info8 : (Tryz.prog.info? 79).map (·.size) = some 8 := by kernel_rfl
theorem one8 (h : H8) : h.vals.all (·.oneCell') = true := by kernel_rfl

theorem cells_lt {w : World} {g N : Nat} {P : List Int} (hN : P.length = N) (_hm : N % 64 = 0) (h0 : 0 < N) (h : ∀ i, i < P.length → w.cell? ⟨g, i, none⟩ = some (.int .u8 (P.getD i 0))) : g < w.heap.size := block_lt_of_cell (h 0 (by omega))

set_option maxHeartbeats 1000000 in
theorem sumW {w : World} {A : Option Addr} {len cap : Nat} {zs : List Int} (hr : RowIn.RowL .u8 w A len cap zs) (hl : len ≤ 1099511627776) :
    Calls Tryz.prog 55 #[.slice A len cap] w fun e w' => e = .returned (.agg (bv (sumL (zs.take len))).toArray) ∧ Below w.heap.size w w' := by
  obtain ⟨bs, hbs⟩ : ∃ bs, zs.take len = bs := ⟨_, rfl⟩
  have hlen : bs.length = len := by
    have h1 := hr.1
    have h3 := hr.2.2.1
    rw [← hbs]; simp; omega
  have hB : ∀ x ∈ padL bs, B x := by
    refine padL_B (fun x hx => ?_) (by omega)
    rw [← hbs] at hx
    have := hr.2.2.2.1 x (List.mem_of_mem_take hx)
    simpa [B, Lit.wf, IntKind.min, IntKind.max, IntKind.bits, IntKind.signed] using this
  have HB := RotF.aside hB
  have hr1 := hr.below ((Below.refl _ _).alloc (Nat.le_refl _) (.cells (idV startS 0).toArray 43))
  have hp := RefV.padW hr1 hl
  rw [hbs] at hp
  rw [hbs]
  have hn1 := nPad_mod len
  have hn2 := nPad_hi len
  have hn3 := padL_length bs
  have hn0 := nPad_pos len
  unfold sumL
  rw [hlen] at hn3
  rw [hlen]
  obtain ⟨P, hP⟩ : ∃ P, padL bs = P := ⟨_, rfl⟩
  obtain ⟨N, hN⟩ : ∃ N, nPad len = N := ⟨_, rfl⟩
  have e0 := idV_zero startS
  rw [e0, hP] at hp
  rw [hP] at hn3 HB
  rw [hN] at hn0 hn1 hn2 hn3
  rw [hP, hN]
  have HP := RotF.aside hp
  have HN3 := RotF.aside hn3
  have HN1 := RotF.aside hn1
  clear hB hr hr1 hlen hbs hp e0 hP hN hn3 hn1
  go_enter Tryz.func55, Tryz.ntmps55
  go_wp2_with fail
  refine HP.out.mono ?_
  rintro e w1 ⟨gp, cp, rfl, hcp, _, hg1, Ap0, k1⟩
  have Ap : CellsIn w1 gp P := ⟨cells_lt HN3.out HN1.out (by omega) Ap0, Ap0⟩
  clear Ap0
  have A2 : At w1 w.heap.size (idV startS 0).toArray := by rw [idV_zero]; exact (At.new w _ _).below k1 (by simp)
  have hs : w.heap.size < gp := by simp at hg1; omega
  have kb : Below w.heap.size w w1 := Below.trans (by go_grown) (k1.mono (by simp))
  clear HP k1 hg1
  go_wp2_with fail
  refine (RefS.start _).mono ?_
  rintro e w2 ⟨rfl, h2⟩
  have B2 := A2.below h2 A2.lt
  have Bp := Ap.below h2 Ap.1
  have kc := kb.trans (h2.mono kb.size)
  clear A2 Ap kb h2
  have lp := Bp.1
  go_wp2_with (refine wpList_store_last rfl 79 _ _ rfl _ _ _ 79 rfl _ rfl ?c1 rfl ?c2 ?c3 ?c4 ?_; (case c1 => simp); (case c2 => exact info8); (case c3 => rfl); (case c4 => exact one8 _))
  have n1 : w.heap.size ≠ w2.heap.size := by omega
  have n2 : gp ≠ w2.heap.size := by omega
  have n3 : w.heap.size ≤ w2.heap.size := by omega
  go_loopw [5] (fun i wr => ∃ k : Nat, 64 * k ≤ P.length ∧ i = .int .i64 (64 * (k : Int)) ∧ At wr w.heap.size (idV startS 0).toArray ∧ CellsIn wr gp P ∧ At wr w2.heap.size (hsum P k).vals ∧ Below w.heap.size w wr) (fun i _ => P.length - (intOf i).toNat)
  case atStart => exact ⟨0, Nat.zero_le _, rfl, B2.alloc _, Bp.alloc _, At.new _ _ _, kc.alloc kc.size _⟩
  case round =>
    clear B2 Bp kc
    obtain ⟨k, hk, rfl, A2, Ap, A4, kb⟩ := hrel
    by_cases hlt : 64 * k < P.length
    · have hle : 64 * k + 64 ≤ P.length := by have := HN1.out; have := HN3.out; omega
      have hub : P.length ≤ 1099511627848 := by have := HN3.out; omega
      obtain ⟨r, hr⟩ : ∃ r, hsum P k = r := ⟨_, rfl⟩
      obtain ⟨q, hq⟩ : ∃ q, blockS r (wordsOf (blk P k)) = q := ⟨_, rfl⟩
      rw [hr] at A4
      have HR := RotF.aside hr
      have HQ := RotF.aside hq
      clear hr hq
      have c0 : wr.cell? ⟨w2.heap.size, 0, none⟩ = some (.int .u32 (u r.a)) := A4.cell 0
      have c1 : wr.cell? ⟨w2.heap.size, 1, none⟩ = some (.int .u32 (u r.b)) := A4.cell 1
      have c2 : wr.cell? ⟨w2.heap.size, 2, none⟩ = some (.int .u32 (u r.c)) := A4.cell 2
      have c3 : wr.cell? ⟨w2.heap.size, 3, none⟩ = some (.int .u32 (u r.d)) := A4.cell 3
      have c4 : wr.cell? ⟨w2.heap.size, 4, none⟩ = some (.int .u32 (u r.e)) := A4.cell 4
      have c5 : wr.cell? ⟨w2.heap.size, 5, none⟩ = some (.int .u32 (u r.f)) := A4.cell 5
      have c6 : wr.cell? ⟨w2.heap.size, 6, none⟩ = some (.int .u32 (u r.g)) := A4.cell 6
      have c7 : wr.cell? ⟨w2.heap.size, 7, none⟩ = some (.int .u32 (u r.z)) := A4.cell 7
      have m0 : (64 * (k : Int)) < (P.length : Int) := by omega
      have m1 : IntKind.i64.wrap (64 * (k : Int) + 64) = 64 * (k : Int) + 64 := IntWalk.i64_in _ (by omega)
      have m2 : 0 ≤ 64 * (k : Int) := by omega
      have m3 : (64 * (k : Int)).toNat = 64 * k := by omega
      have m4 : (64 * (k : Int) + 64).toNat = 64 * k + 64 := by omega
      have m5 : 64 * (k : Int) + 64 ≤ (P.length : Int) := by omega
      have m6 : 64 * (k : Int) ≤ 64 * (k : Int) + 64 := by omega
      have m7 : ¬ cp = 64 * k := by omega
      have m10 : 64 * (k : Int) + 64 ≤ (cp : Int) := by omega
      have m8 : 64 * k + 64 - 64 * k = 64 := by omega
      have m9 : 0 ≤ 64 * (k : Int) + 64 := by omega
      go_wp2
      go_region_with ((go_at_call 77; (refine (block_out r q gp (64 * k) (cp - 64 * k) (blk P k) (blk_B HB.out k) HQ.out _ ?_).mono ?_; (exact fun i hi => (Ap.drew).blk k hle i hi); rintro e w3 ⟨rfl, h3⟩; have d0 : w3.cell? ⟨w2.heap.size, 0, none⟩ = some (.int .u32 (u r.a)) := (A4.drew.below h3 A4.drew.lt).cell 0; have z0 := (A4.drew.below h3 A4.drew.lt).frozen 0; have d1 : w3.cell? ⟨w2.heap.size, 1, none⟩ = some (.int .u32 (u r.b)) := (A4.drew.below h3 A4.drew.lt).cell 1; have z1 := (A4.drew.below h3 A4.drew.lt).frozen 1; have d2 : w3.cell? ⟨w2.heap.size, 2, none⟩ = some (.int .u32 (u r.c)) := (A4.drew.below h3 A4.drew.lt).cell 2; have z2 := (A4.drew.below h3 A4.drew.lt).frozen 2; have d3 : w3.cell? ⟨w2.heap.size, 3, none⟩ = some (.int .u32 (u r.d)) := (A4.drew.below h3 A4.drew.lt).cell 3; have z3 := (A4.drew.below h3 A4.drew.lt).frozen 3; have d4 : w3.cell? ⟨w2.heap.size, 4, none⟩ = some (.int .u32 (u r.e)) := (A4.drew.below h3 A4.drew.lt).cell 4; have z4 := (A4.drew.below h3 A4.drew.lt).frozen 4; have d5 : w3.cell? ⟨w2.heap.size, 5, none⟩ = some (.int .u32 (u r.f)) := (A4.drew.below h3 A4.drew.lt).cell 5; have z5 := (A4.drew.below h3 A4.drew.lt).frozen 5; have d6 : w3.cell? ⟨w2.heap.size, 6, none⟩ = some (.int .u32 (u r.g)) := (A4.drew.below h3 A4.drew.lt).cell 6; have z6 := (A4.drew.below h3 A4.drew.lt).frozen 6; have d7 : w3.cell? ⟨w2.heap.size, 7, none⟩ = some (.int .u32 (u r.z)) := (A4.drew.below h3 A4.drew.lt).cell 7; have z7 := (A4.drew.below h3 A4.drew.lt).frozen 7; clear c0 c1 c2 c3 c4 c5 c6 c7)))
      all_goals
        have D2 := A2.drew.below h3 A2.drew.lt
        have Dp := Ap.drew.below h3 Ap.drew.1
        have D4 := A4.drew.below h3 A4.drew.lt
        have kd : Below w.heap.size w w3 := (below_drew1 kb).trans (h3.mono kb.size)
        clear d0 d1 d2 d3 d4 d5 d6 d7 z0 z1 z2 z3 z4 z5 z6 z7 m1 m3 m4 m8 A2 Ap A4 kb h3
        go_wp2
        go_roundw
        case rel =>
          have S4 := (((((((D4.set 0 (.int .u32 (u q.a))).set 1 (.int .u32 (u q.b))).set 2 (.int .u32 (u q.c))).set 3 (.int .u32 (u q.d))).set 4 (.int .u32 (u q.e))).set 5 (.int .u32 (u q.f))).set 6 (.int .u32 (u q.g))).set 7 (.int .u32 (u q.z))
          rw [set8] at S4
          refine ⟨k + 1, by omega, by go_num, ?_, ?_, by rw [hsum_succ HR.out HQ.out]; exact S4, ?_⟩
          · iterate 8 refine At.set_other ?_ n1 _
            exact D2
          · iterate 8 refine CellsIn.set_other ?_ n2 _
            exact Dp
          · iterate 8 refine Below.setCell ?_ n3 _
            exact kd
        case measure => simp [intOf]; omega
    · have eN : k = N / 64 := by have := HN1.out; have := HN3.out; omega
      obtain ⟨h, hh⟩ : ∃ h, hsum P (N / 64) = h := ⟨_, rfl⟩
      rw [eN, hh] at A4
      have HH := RotF.aside hh
      have d64 : decide (64 * (k : Int) < (P.length : Int)) = false := by simp; omega
      clear eN hh
      go_wp2_with (first | (refine wpList_build rfl 43 _ rfl ?c1 ?_; (case c1 => kernel_rfl)) | (refine wpList_store_last rfl 43 _ _ rfl _ _ (idV h 0).toArray 43 rfl _ rfl ?c1 ?c5 ?c2 ?c3 ?c4 ?_; (case c1 => simp); (case c5 => kernel_rfl); (case c2 => rw [List.size_toArray, idV_length _ _ (by omega)]; exact info_id); (case c3 => rw [List.size_toArray, List.size_toArray, idV_length _ _ (by omega)]; rfl); (case c4 => exact idV_one _ _)))
      have D2 := A2.alloc (.cells (idV h 0).toArray 43)
      have D4 := A4.alloc (.cells (idV h 0).toArray 43)
      have D6 := At.new wr (idV h 0).toArray 43
      have kd := kb.alloc kb.size (.cells (idV h 0).toArray 43)
      have l2 := A2.lt
      have l4 := A4.lt
      obtain ⟨G, hG⟩ : ∃ G, wr.heap.size = G := ⟨_, rfl⟩
      rw [hG] at D6 l2 l4
      rw [hG]
      generalize wr.alloc (.cells (idV h 0).toArray 43) = W at *
      clear A2 A4 Ap kb hG
      have nG : w2.heap.size ≠ G := by omega
      have nG' : w.heap.size ≠ G := by omega
      have nG2 : w.heap.size ≤ G := by omega
      have lG : G < W.heap.size := D6.lt
      go_loopw [7] (fun i wr => ∃ k : Nat, k ≤ 8 ∧ i = .int .i64 k ∧ At wr w.heap.size (idV startS 0).toArray ∧ At wr w2.heap.size h.vals ∧ At wr G (idV h k).toArray ∧ Below w.heap.size w wr) (fun i _ => 8 - (intOf i).toNat)
      case atStart => exact ⟨0, Nat.zero_le _, rfl, D2, D4, D6, kd⟩
      case round =>
        clear D2 D4 D6 kd hlt hk d64
        obtain ⟨k, hk, rfl, A2, A4, A6, kb⟩ := hrel
        by_cases hlt : k < 8
        · have c := (A4.cell k).trans (h.vals_at hlt)
          go_wp2_with fail
          refine (fourA (h.w k) _).mono ?_
          rintro e w5 ⟨rfl, h5⟩
          have E2 := A2.below h5 A2.lt
          have E4 := A4.below h5 A4.lt
          have E6 := A6.below h5 A6.lt
          have ke := kb.trans (h5.mono kb.size)
          have l6 := E6.lt
          clear A2 A4 A6 kb h5 c
          go_wp2_with (refine wpList_store_last rfl 92 _ _ rfl _ _ _ 92 rfl _ rfl ?c1 rfl ?c2 ?c3 ?c4 ?_; (case c1 => simp); (case c2 => exact info_4b); (case c3 => rfl); (case c4 => exact fourV_one _))
          have F2 := E2.alloc (.cells (fourV (u (h.w k))) 92)
          have F4 := E4.alloc (.cells (fourV (u (h.w k))) 92)
          have F6 := E6.alloc (.cells (fourV (u (h.w k))) 92)
          have F8 := At.new w5 (fourV (u (h.w k))) 92
          have kf := ke.alloc ke.size (.cells (fourV (u (h.w k))) 92)
          obtain ⟨G8, hG8⟩ : ∃ G8, w5.heap.size = G8 := ⟨_, rfl⟩
          rw [hG8] at F8 l6
          rw [hG8]
          generalize w5.alloc (.cells (fourV (u (h.w k))) 92) = W5 at *
          clear E2 E4 E6 ke hG8
          have n8 : G8 ≠ G := by omega
          go_loopw [9] (fun i wr => ∃ j : Nat, j ≤ 4 ∧ i = .int .i64 j ∧ At wr w.heap.size (idV startS 0).toArray ∧ At wr w2.heap.size h.vals ∧ At wr G (idW h k j).toArray ∧ At wr G8 (fourV (u (h.w k))) ∧ Below w.heap.size w wr) (fun i _ => 4 - (intOf i).toNat)
          case atStart => exact ⟨0, Nat.zero_le _, rfl, F2, F4, by rw [idW_none]; exact F6, F8, kf⟩
          case round =>
            clear F2 F4 F6 F8 kf
            obtain ⟨j, hj, rfl, A2, A4, A6, A8, kb⟩ := hrel
            by_cases hjt : j < 4
            · have cF := four_at A8 j hjt
              have cO := (A6.cell (4 * k + j)).trans (idW_at h k j hlt hjt)
              have zO := A6.frozen (4 * k + j)
              have m1 : (4 * (k : Int) + (j : Int)).toNat = 4 * k + j := by omega
              have m2 : 0 ≤ 4 * (k : Int) + (j : Int) := by omega
              have m3 : 4 * (k : Int) + (j : Int) < 32 := by omega
              go_wp2
              go_roundw
              case rel =>
                have q := A6.set (4 * k + j) (.int .u8 ((four8 (u (h.w k))).getD j 0))
                rw [idW_set h k j hlt hjt] at q
                exact ⟨j + 1, by omega, by go_num, A2.set_other nG' _, A4.set_other nG _, q, A8.set_other n8 _, kb.setCell nG2 _⟩
              case measure => simp [intOf]; omega
            · have e4 : j = 4 := by omega
              rw [e4, idW_all] at A6
              clear e4
              go_wp2
              go_roundw
              case rel => exact ⟨k + 1, by omega, by go_num, A2, A4, A6, kb⟩
              case measure => simp [intOf]; omega
        · have e8 : k = 8 := by omega
          rw [e8] at A6
          clear e8
          go_wp2_with (first | (refine wpList_load_at rfl 43 _ rfl _ rfl _ _ A6 Tryz.underlying43 rfl ?c2 ?_; (case c2 => rw [List.size_toArray, idV_length _ _ (by omega)]; exact info_id)) | (refine wpList_store_at rfl 43 _ _ rfl _ _ rfl rfl _ A2 ?c2 ?c3 ?c4 ?_; (case c2 => rw [List.size_toArray, idV_length _ _ (by omega)]; exact info_id); (case c3 => rw [List.size_toArray, List.size_toArray, idV_length _ _ (by omega), idV_length _ _ (by omega)]); (case c4 => exact idV_one _ _)))
          have eI : (idV h 8).toArray = (bv (idL (hsum P (N / 64)) 8)).toArray := by rw [HH.out]; simp [idV]
          exact bodyPost_ret (v := .agg (bv (idL (hsum P (N / 64)) 8)).toArray) (results_at Tryz.results55 _ _ w.heap.size _ _ rfl (by rw [← eI]; exact A2.row _) Tryz.underlying43 rfl (by rw [List.size_toArray, bv_length, idL_length]; exact info_id)) rfl ⟨rfl, below_row kb (Nat.le_refl _) _⟩
end Go.Proofs.YteojkfbnenfmkaaGreatDoor.RefW
