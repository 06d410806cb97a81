/- What the document's answer's Sum of package sha returns: a contract. | Sums of bytes as ids: what the project's Sum, and the document's, return. No condition. | What the laws on commits ask for: few parents, and short texts: a contract. | What functions on commits answer, in one form for both ways. No condition. | What the project's Get of package commit returns: a contract. -/
import Derived.Test.YtechkdhehipliaaGreatDoorShaCJ4
import Derived.Test.YtechkdhehipliaaGreatDoorRefUJ3
import Derived.Test.YtechkdhehipliaaGreatDoorShaHJ5
import Derived.Deep.RegionWith
import Derived.Test.YtechkdhehipliaaGreatDoorCmMJ3
import Derived.Test.YtechkdhehipliaaGreatDoorCmRJ3
import Derived.Test.YtechkdhehipliaaGreatDoorCmFJ4
import Derived.Defers
import Derived.Recover
namespace Go.Proofs.YtechkdhehipliaaGreatDoor.RefW
set_option maxRecDepth 100000
open Go.RowKit RotM RotN RotC RotD ShaM ShaD RotG Small PadM ShaF ShaG SumM RefV ShaH

/-- A row whose first cells are the bytes l. -/
def CellsIn (w : World) (g : Nat) (l : List Int) : Prop := g < w.heap.size ∧ ∀ i, i < l.length → w.cell? ⟨g, i, none⟩ = some (.int .u8 (l.getD i 0))
theorem CellsIn.below {w w' : World} {g : Nat} {l : List Int} {k : Nat} (h : CellsIn w g l) (hb : Below k w w') (hg : g < k) : CellsIn w' g l :=
  ⟨Nat.lt_of_lt_of_le h.1 hb.size, fun i hi => (hb.cell (p := ⟨g, i, none⟩) hg).trans (h.2 i hi)⟩
theorem CellsIn.alloc {w : World} {g : Nat} {l : List Int} (h : CellsIn w g l) (o : Obj) : CellsIn (w.alloc o) g l := h.below ((Below.refl w.heap.size w).alloc (Nat.le_refl _) o) h.1
theorem CellsIn.drew {w : World} {g : Nat} {l : List Int} (h : CellsIn w g l) : CellsIn w.drew g l := h
theorem CellsIn.set_other {w : World} {g : Nat} {l : List Int} (h : CellsIn w g l) {a : Addr} (ha : g ≠ a.block) (v : Value) : CellsIn (w.setCell a v) g l := by
  have hb : Below (g + 1) (w.setCell a v) (w.setCell a v) := Below.refl _ _
  refine ⟨by simpa using h.1, fun i hi => ?_⟩
  rw [← h.2 i hi]
  exact World.cell?_of_block (heap_setCell_other w a g v ha)
theorem CellsIn.blk {w : World} {g : Nat} {P : List Int} (h : CellsIn w g P) (k : Nat) (hk : 64 * k + 64 ≤ P.length) (i : Nat) (hi : i < 64) : w.cell? ⟨g, 64 * k + i, none⟩ = some (.int .u8 (blk P k i)) := by
  rw [h.2 _ (by omega)]
  rfl

theorem block_out (h r : H8) (b off cap : Nat) (f : Nat → Int) (hf : ∀ i, B (f i)) (hr : blockS h (wordsOf f) = r) (w : World) (hc : ∀ i, i < 64 → w.cell? ⟨b, off + i, none⟩ = some (.int .u8 (f i))) :
    Calls Tryz.prog 110 #[.agg #[.int .u32 (u h.a), .int .u32 (u h.b), .int .u32 (u h.c), .int .u32 (u h.d), .int .u32 (u h.e), .int .u32 (u h.f), .int .u32 (u h.g), .int .u32 (u h.z)], .slice (some ⟨b, off, none⟩) 64 cap] w
      fun e w' => e = .returned (.tuple #[.agg #[.int .u32 (u r.a), .int .u32 (u r.b), .int .u32 (u r.c), .int .u32 (u r.d), .int .u32 (u r.e), .int .u32 (u r.f), .int .u32 (u r.g), .int .u32 (u r.z)], .bool true]) ∧ Below w.heap.size w w' := by
  subst hr
  exact RefU.block_yes h b off cap f hf w hc
theorem fourA (x : BitVec 32) (w : World) : Calls Tryz.prog 111 #[.int .u32 (u x)] w fun e w' => e = .returned (.agg (fourV (u x))) ∧ Below w.heap.size w w' := by
  refine (reffour (u x) (u_range x) w).mono fun e w' ⟨he, hw⟩ => ⟨he, ?_⟩
  subst hw
  go_grown

/-- The row of an id of which the first k words, and j bytes of the next one, are laid. -/
def idW (h : H8) (k j : Nat) : List Value := bv ((idL h k ++ (four8 (u (h.w k))).take j) ++ List.replicate (32 - 4 * k - j) 0)
theorem idW_none (h : H8) (k : Nat) : idW h k 0 = idV h k := by simp [idW, idV]
theorem idW_all (h : H8) (k : Nat) : idW h k 4 = idV h (k + 1) := by
  unfold idW idV
  rw [idL_succ, show (four8 (u (h.w k))).take 4 = four8 (u (h.w k)) from rfl, show 32 - 4 * k - 4 = 32 - 4 * (k + 1) by omega]
theorem set_behind (xs ys : List Int) (n : Nat) (hn : xs.length = n) (y v : Int) : (bv (xs ++ y :: ys)).toArray.setIfInBounds n (.int .u8 v) = (bv (xs ++ v :: ys)).toArray := by
  subst hn
  rw [List.setIfInBounds_toArray]
  congr 1
  simp [bv]
theorem idW_set (h : H8) (k j : Nat) (hk : k < 8) (hj : j < 4) : (idW h k j).toArray.setIfInBounds (4 * k + j) (.int .u8 ((four8 (u (h.w k))).getD j 0)) = (idW h k (j + 1)).toArray := by
  unfold idW
  rw [show 32 - 4 * k - j = (32 - 4 * k - (j + 1)) + 1 by omega, List.replicate_succ, set_behind _ _ _ (by rw [List.length_append, idL_length, List.length_take, four8_length]; omega)]
  congr 2
  rw [show (four8 (u (h.w k))).take (j + 1) = (four8 (u (h.w k))).take j ++ [(four8 (u (h.w k))).getD j 0] from by
    rcases (by omega : j = 0 ∨ j = 1 ∨ j = 2 ∨ j = 3) with rfl | rfl | rfl | rfl <;> rfl]
  simp
theorem idW_at (h : H8) (k j : Nat) (hk : k < 8) (hj : j < 4) : (idW h k j).toArray[4 * k + j]? = some (.int .u8 0) := by
  unfold idW
  rw [show 32 - 4 * k - j = (32 - 4 * k - (j + 1)) + 1 by omega, List.replicate_succ, List.getElem?_toArray, bv_at _ (by simp [idL_length, four8_length]; omega), List.getD_eq_getElem?_getD, List.getElem?_append_right (by rw [List.length_append, idL_length, List.length_take, four8_length]; omega)]
  rw [show 4 * k + j - (idL h k ++ (four8 (u (h.w k))).take j).length = 0 by rw [List.length_append, idL_length, List.length_take, four8_length]; omega]
  rfl
theorem four_at {w : World} {g : Nat} {a : Int} (A : At w g (fourV a)) (j : Nat) (hj : j < 4) : w.cell? ⟨g, j, none⟩ = some (.int .u8 ((four8 a).getD j 0)) := by
  rw [A.cell]
  rcases (by omega : j = 0 ∨ j = 1 ∨ j = 2 ∨ j = 3) with rfl | rfl | rfl | rfl <;> rfl
theorem info8 : (Tryz.prog.info? 115).map (·.size) = some 8 := by kernel_rfl
theorem one8 (h : H8) : h.vals.all (·.oneCell') = true := by kernel_rfl

theorem cells_lt {w : World} {g N : Nat} {P : List Int} (hN : P.length = N) (_hm : N % 64 = 0) (h0 : 0 < N) (h : ∀ i, i < P.length → w.cell? ⟨g, i, none⟩ = some (.int .u8 (P.getD i 0))) : g < w.heap.size := block_lt_of_cell (h 0 (by omega))

set_option maxHeartbeats 1000000 in
theorem sumW {w : World} {A : Option Addr} {len cap : Nat} {zs : List Int} (hr : RowIn.RowL .u8 w A len cap zs) (hl : len ≤ 1099511627776) :
    Calls Tryz.prog 83 #[.slice A len cap] w fun e w' => e = .returned (.agg (bv (sumL (zs.take len))).toArray) ∧ Below w.heap.size w w' := by
  obtain ⟨bs, hbs⟩ : ∃ bs, zs.take len = bs := ⟨_, rfl⟩
  have hlen : bs.length = len := by
    have h1 := hr.1
    have h3 := hr.2.2.1
    rw [← hbs]; simp; omega
  have hB : ∀ x ∈ padL bs, B x := by
    refine padL_B (fun x hx => ?_) (by omega)
    rw [← hbs] at hx
    have := hr.2.2.2.1 x (List.mem_of_mem_take hx)
    simpa [B, Lit.wf, IntKind.min, IntKind.max, IntKind.bits, IntKind.signed] using this
  have HB := RotF.aside hB
  have hr1 := hr.below ((Below.refl _ _).alloc (Nat.le_refl _) (.cells (idV startS 0).toArray 42))
  have hp := RefV.padW hr1 hl
  rw [hbs] at hp
  rw [hbs]
  have hn1 := nPad_mod len
  have hn2 := nPad_hi len
  have hn3 := padL_length bs
  have hn0 := nPad_pos len
  unfold sumL
  rw [hlen] at hn3
  rw [hlen]
  obtain ⟨P, hP⟩ : ∃ P, padL bs = P := ⟨_, rfl⟩
  obtain ⟨N, hN⟩ : ∃ N, nPad len = N := ⟨_, rfl⟩
  have e0 := idV_zero startS
  rw [e0, hP] at hp
  rw [hP] at hn3 HB
  rw [hN] at hn0 hn1 hn2 hn3
  rw [hP, hN]
  have HP := RotF.aside hp
  have HN3 := RotF.aside hn3
  have HN1 := RotF.aside hn1
  clear hB hr hr1 hlen hbs hp e0 hP hN hn3 hn1
  go_enter Tryz.func83, Tryz.ntmps83
  go_wp2_with fail
  refine HP.out.mono ?_
  rintro e w1 ⟨gp, cp, rfl, hcp, _, hg1, Ap0, k1⟩
  have Ap : CellsIn w1 gp P := ⟨cells_lt HN3.out HN1.out (by omega) Ap0, Ap0⟩
  clear Ap0
  have A2 : At w1 w.heap.size (idV startS 0).toArray := by rw [idV_zero]; exact (At.new w _ _).below k1 (by simp)
  have hs : w.heap.size < gp := by simp at hg1; omega
  have kb : Below w.heap.size w w1 := Below.trans (by go_grown) (k1.mono (by simp))
  clear HP k1 hg1
  go_wp2_with fail
  refine (RefS.start _).mono ?_
  rintro e w2 ⟨rfl, h2⟩
  have B2 := A2.below h2 A2.lt
  have Bp := Ap.below h2 Ap.1
  have kc := kb.trans (h2.mono kb.size)
  clear A2 Ap kb h2
  have lp := Bp.1
  go_wp2_with (refine wpList_store_last rfl 115 _ _ rfl _ _ _ 115 rfl _ rfl ?c1 rfl ?c2 ?c3 ?c4 ?_; (case c1 => simp); (case c2 => exact info8); (case c3 => rfl); (case c4 => exact one8 _))
  have n1 : w.heap.size ≠ w2.heap.size := by omega
  have n2 : gp ≠ w2.heap.size := by omega
  have n3 : w.heap.size ≤ w2.heap.size := by omega
  go_loopw [5] (fun i wr => ∃ k : Nat, 64 * k ≤ P.length ∧ i = .int .i64 (64 * (k : Int)) ∧ At wr w.heap.size (idV startS 0).toArray ∧ CellsIn wr gp P ∧ At wr w2.heap.size (hsum P k).vals ∧ Below w.heap.size w wr) (fun i _ => P.length - (intOf i).toNat)
  case atStart => exact ⟨0, Nat.zero_le _, rfl, B2.alloc _, Bp.alloc _, At.new _ _ _, kc.alloc kc.size _⟩
  case round =>
    clear B2 Bp kc
    obtain ⟨k, hk, rfl, A2, Ap, A4, kb⟩ := hrel
    by_cases hlt : 64 * k < P.length
    · have hle : 64 * k + 64 ≤ P.length := by have := HN1.out; have := HN3.out; omega
      have hub : P.length ≤ 1099511627848 := by have := HN3.out; omega
      obtain ⟨r, hr⟩ : ∃ r, hsum P k = r := ⟨_, rfl⟩
      obtain ⟨q, hq⟩ : ∃ q, blockS r (wordsOf (blk P k)) = q := ⟨_, rfl⟩
      rw [hr] at A4
      have HR := RotF.aside hr
      have HQ := RotF.aside hq
      clear hr hq
      have c0 : wr.cell? ⟨w2.heap.size, 0, none⟩ = some (.int .u32 (u r.a)) := A4.cell 0
      have c1 : wr.cell? ⟨w2.heap.size, 1, none⟩ = some (.int .u32 (u r.b)) := A4.cell 1
      have c2 : wr.cell? ⟨w2.heap.size, 2, none⟩ = some (.int .u32 (u r.c)) := A4.cell 2
      have c3 : wr.cell? ⟨w2.heap.size, 3, none⟩ = some (.int .u32 (u r.d)) := A4.cell 3
      have c4 : wr.cell? ⟨w2.heap.size, 4, none⟩ = some (.int .u32 (u r.e)) := A4.cell 4
      have c5 : wr.cell? ⟨w2.heap.size, 5, none⟩ = some (.int .u32 (u r.f)) := A4.cell 5
      have c6 : wr.cell? ⟨w2.heap.size, 6, none⟩ = some (.int .u32 (u r.g)) := A4.cell 6
      have c7 : wr.cell? ⟨w2.heap.size, 7, none⟩ = some (.int .u32 (u r.z)) := A4.cell 7
      have m0 : (64 * (k : Int)) < (P.length : Int) := by omega
      have m1 : IntKind.i64.wrap (64 * (k : Int) + 64) = 64 * (k : Int) + 64 := IntWalk.i64_in _ (by omega)
      have m2 : 0 ≤ 64 * (k : Int) := by omega
      have m3 : (64 * (k : Int)).toNat = 64 * k := by omega
      have m4 : (64 * (k : Int) + 64).toNat = 64 * k + 64 := by omega
      have m5 : 64 * (k : Int) + 64 ≤ (P.length : Int) := by omega
      have m6 : 64 * (k : Int) ≤ 64 * (k : Int) + 64 := by omega
      have m7 : ¬ cp = 64 * k := by omega
      have m10 : 64 * (k : Int) + 64 ≤ (cp : Int) := by omega
      have m8 : 64 * k + 64 - 64 * k = 64 := by omega
      have m9 : 0 ≤ 64 * (k : Int) + 64 := by omega
      go_wp2
      go_region_with ((go_at_call 110; (refine (block_out r q gp (64 * k) (cp - 64 * k) (blk P k) (blk_B HB.out k) HQ.out _ ?_).mono ?_; (exact fun i hi => (Ap.drew).blk k hle i hi); rintro e w3 ⟨rfl, h3⟩; have d0 : w3.cell? ⟨w2.heap.size, 0, none⟩ = some (.int .u32 (u r.a)) := (A4.drew.below h3 A4.drew.lt).cell 0; have z0 := (A4.drew.below h3 A4.drew.lt).frozen 0; have d1 : w3.cell? ⟨w2.heap.size, 1, none⟩ = some (.int .u32 (u r.b)) := (A4.drew.below h3 A4.drew.lt).cell 1; have z1 := (A4.drew.below h3 A4.drew.lt).frozen 1; have d2 : w3.cell? ⟨w2.heap.size, 2, none⟩ = some (.int .u32 (u r.c)) := (A4.drew.below h3 A4.drew.lt).cell 2; have z2 := (A4.drew.below h3 A4.drew.lt).frozen 2; have d3 : w3.cell? ⟨w2.heap.size, 3, none⟩ = some (.int .u32 (u r.d)) := (A4.drew.below h3 A4.drew.lt).cell 3; have z3 := (A4.drew.below h3 A4.drew.lt).frozen 3; have d4 : w3.cell? ⟨w2.heap.size, 4, none⟩ = some (.int .u32 (u r.e)) := (A4.drew.below h3 A4.drew.lt).cell 4; have z4 := (A4.drew.below h3 A4.drew.lt).frozen 4; have d5 : w3.cell? ⟨w2.heap.size, 5, none⟩ = some (.int .u32 (u r.f)) := (A4.drew.below h3 A4.drew.lt).cell 5; have z5 := (A4.drew.below h3 A4.drew.lt).frozen 5; have d6 : w3.cell? ⟨w2.heap.size, 6, none⟩ = some (.int .u32 (u r.g)) := (A4.drew.below h3 A4.drew.lt).cell 6; have z6 := (A4.drew.below h3 A4.drew.lt).frozen 6; have d7 : w3.cell? ⟨w2.heap.size, 7, none⟩ = some (.int .u32 (u r.z)) := (A4.drew.below h3 A4.drew.lt).cell 7; have z7 := (A4.drew.below h3 A4.drew.lt).frozen 7; clear c0 c1 c2 c3 c4 c5 c6 c7)))
      all_goals
        have D2 := A2.drew.below h3 A2.drew.lt
        have Dp := Ap.drew.below h3 Ap.drew.1
        have D4 := A4.drew.below h3 A4.drew.lt
        have kd : Below w.heap.size w w3 := (below_drew1 kb).trans (h3.mono kb.size)
        clear d0 d1 d2 d3 d4 d5 d6 d7 z0 z1 z2 z3 z4 z5 z6 z7 m1 m3 m4 m8 A2 Ap A4 kb h3
        go_wp2
        go_roundw
        case rel =>
          have S4 := (((((((D4.set 0 (.int .u32 (u q.a))).set 1 (.int .u32 (u q.b))).set 2 (.int .u32 (u q.c))).set 3 (.int .u32 (u q.d))).set 4 (.int .u32 (u q.e))).set 5 (.int .u32 (u q.f))).set 6 (.int .u32 (u q.g))).set 7 (.int .u32 (u q.z))
          rw [set8] at S4
          refine ⟨k + 1, by omega, by go_num, ?_, ?_, by rw [hsum_succ HR.out HQ.out]; exact S4, ?_⟩
          · iterate 8 refine At.set_other ?_ n1 _
            exact D2
          · iterate 8 refine CellsIn.set_other ?_ n2 _
            exact Dp
          · iterate 8 refine Below.setCell ?_ n3 _
            exact kd
        case measure => simp [intOf]; omega
    · have eN : k = N / 64 := by have := HN1.out; have := HN3.out; omega
      obtain ⟨h, hh⟩ : ∃ h, hsum P (N / 64) = h := ⟨_, rfl⟩
      rw [eN, hh] at A4
      have HH := RotF.aside hh
      have d64 : decide (64 * (k : Int) < (P.length : Int)) = false := by simp; omega
      clear eN hh
      go_wp2_with (first | (refine wpList_build rfl 42 _ rfl ?c1 ?_; (case c1 => kernel_rfl)) | (refine wpList_store_last rfl 42 _ _ rfl _ _ (idV h 0).toArray 42 rfl _ rfl ?c1 ?c5 ?c2 ?c3 ?c4 ?_; (case c1 => simp); (case c5 => kernel_rfl); (case c2 => rw [List.size_toArray, idV_length _ _ (by omega)]; exact info_id); (case c3 => rw [List.size_toArray, List.size_toArray, idV_length _ _ (by omega)]; rfl); (case c4 => exact idV_one _ _)))
      have D2 := A2.alloc (.cells (idV h 0).toArray 42)
      have D4 := A4.alloc (.cells (idV h 0).toArray 42)
      have D6 := At.new wr (idV h 0).toArray 42
      have kd := kb.alloc kb.size (.cells (idV h 0).toArray 42)
      have l2 := A2.lt
      have l4 := A4.lt
      obtain ⟨G, hG⟩ : ∃ G, wr.heap.size = G := ⟨_, rfl⟩
      rw [hG] at D6 l2 l4
      rw [hG]
      generalize wr.alloc (.cells (idV h 0).toArray 42) = W at *
      clear A2 A4 Ap kb hG
      have nG : w2.heap.size ≠ G := by omega
      have nG' : w.heap.size ≠ G := by omega
      have nG2 : w.heap.size ≤ G := by omega
      have lG : G < W.heap.size := D6.lt
      go_loopw [7] (fun i wr => ∃ k : Nat, k ≤ 8 ∧ i = .int .i64 k ∧ At wr w.heap.size (idV startS 0).toArray ∧ At wr w2.heap.size h.vals ∧ At wr G (idV h k).toArray ∧ Below w.heap.size w wr) (fun i _ => 8 - (intOf i).toNat)
      case atStart => exact ⟨0, Nat.zero_le _, rfl, D2, D4, D6, kd⟩
      case round =>
        clear D2 D4 D6 kd hlt hk d64
        obtain ⟨k, hk, rfl, A2, A4, A6, kb⟩ := hrel
        by_cases hlt : k < 8
        · have c := (A4.cell k).trans (h.vals_at hlt)
          go_wp2_with fail
          refine (fourA (h.w k) _).mono ?_
          rintro e w5 ⟨rfl, h5⟩
          have E2 := A2.below h5 A2.lt
          have E4 := A4.below h5 A4.lt
          have E6 := A6.below h5 A6.lt
          have ke := kb.trans (h5.mono kb.size)
          have l6 := E6.lt
          clear A2 A4 A6 kb h5 c
          go_wp2_with (refine wpList_store_last rfl 120 _ _ rfl _ _ _ 120 rfl _ rfl ?c1 rfl ?c2 ?c3 ?c4 ?_; (case c1 => simp); (case c2 => exact info_4b); (case c3 => rfl); (case c4 => exact fourV_one _))
          have F2 := E2.alloc (.cells (fourV (u (h.w k))) 120)
          have F4 := E4.alloc (.cells (fourV (u (h.w k))) 120)
          have F6 := E6.alloc (.cells (fourV (u (h.w k))) 120)
          have F8 := At.new w5 (fourV (u (h.w k))) 120
          have kf := ke.alloc ke.size (.cells (fourV (u (h.w k))) 120)
          obtain ⟨G8, hG8⟩ : ∃ G8, w5.heap.size = G8 := ⟨_, rfl⟩
          rw [hG8] at F8 l6
          rw [hG8]
          generalize w5.alloc (.cells (fourV (u (h.w k))) 120) = W5 at *
          clear E2 E4 E6 ke hG8
          have n8 : G8 ≠ G := by omega
          go_loopw [9] (fun i wr => ∃ j : Nat, j ≤ 4 ∧ i = .int .i64 j ∧ At wr w.heap.size (idV startS 0).toArray ∧ At wr w2.heap.size h.vals ∧ At wr G (idW h k j).toArray ∧ At wr G8 (fourV (u (h.w k))) ∧ Below w.heap.size w wr) (fun i _ => 4 - (intOf i).toNat)
          case atStart => exact ⟨0, Nat.zero_le _, rfl, F2, F4, by rw [idW_none]; exact F6, F8, kf⟩
          case round =>
            clear F2 F4 F6 F8 kf
            obtain ⟨j, hj, rfl, A2, A4, A6, A8, kb⟩ := hrel
            by_cases hjt : j < 4
            · have cF := four_at A8 j hjt
              have cO := (A6.cell (4 * k + j)).trans (idW_at h k j hlt hjt)
              have zO := A6.frozen (4 * k + j)
              have m1 : (4 * (k : Int) + (j : Int)).toNat = 4 * k + j := by omega
              have m2 : 0 ≤ 4 * (k : Int) + (j : Int) := by omega
              have m3 : 4 * (k : Int) + (j : Int) < 32 := by omega
              go_wp2
              go_roundw
              case rel =>
                have q := A6.set (4 * k + j) (.int .u8 ((four8 (u (h.w k))).getD j 0))
                rw [idW_set h k j hlt hjt] at q
                exact ⟨j + 1, by omega, by go_num, A2.set_other nG' _, A4.set_other nG _, q, A8.set_other n8 _, kb.setCell nG2 _⟩
              case measure => simp [intOf]; omega
            · have e4 : j = 4 := by omega
              rw [e4, idW_all] at A6
              clear e4
              go_wp2
              go_roundw
              case rel => exact ⟨k + 1, by omega, by go_num, A2, A4, A6, kb⟩
              case measure => simp [intOf]; omega
        · have e8 : k = 8 := by omega
          rw [e8] at A6
          clear e8
          go_wp2_with (first | (refine wpList_load_at rfl 42 _ rfl _ rfl _ _ A6 Tryz.underlying42 rfl ?c2 ?_; (case c2 => rw [List.size_toArray, idV_length _ _ (by omega)]; exact info_id)) | (refine wpList_store_at rfl 42 _ _ rfl _ _ rfl rfl _ A2 ?c2 ?c3 ?c4 ?_; (case c2 => rw [List.size_toArray, idV_length _ _ (by omega)]; exact info_id); (case c3 => rw [List.size_toArray, List.size_toArray, idV_length _ _ (by omega), idV_length _ _ (by omega)]); (case c4 => exact idV_one _ _)))
          have eI : (idV h 8).toArray = (bv (idL (hsum P (N / 64)) 8)).toArray := by rw [HH.out]; simp [idV]
          exact bodyPost_ret (v := .agg (bv (idL (hsum P (N / 64)) 8)).toArray) (results_at Tryz.results83 _ _ w.heap.size _ _ rfl (by rw [← eI]; exact A2.row _) Tryz.underlying42 rfl (by rw [List.size_toArray, bv_length, idL_length]; exact info_id)) rfl ⟨rfl, below_row kb (Nat.le_refl _) _⟩
theorem sum {w : World} {A : Option Addr} {len cap : Nat} {zs : List Int} (hr : RowIn.RowIn .u8 w A len cap zs) (hl : len ≤ 1099511627776) :
    Calls Tryz.prog 83 #[.slice A len cap] w fun e w' => e = .returned (.agg (bv (sumL (zs.take len))).toArray) ∧ Below w.heap.size w w' := sumW hr.weak hl
end Go.Proofs.YtechkdhehipliaaGreatDoor.RefW
namespace Go.Proofs.YtechkdhehipliaaGreatDoor.CmS
set_option maxRecDepth 100000
open Go Go.RowKit IdM IdW Byt

theorem four_B (a : Int) (h : 0 ≤ a ∧ a ≤ 4294967295) : ∀ x ∈ PadM.four8 a, 0 ≤ x ∧ x ≤ 255 := by
  intro x hx
  simp only [PadM.four8, List.mem_cons, List.not_mem_nil, or_false] at hx
  rcases hx with rfl | rfl | rfl | rfl <;> omega
theorem sum_B (l : List Int) : ∀ x ∈ ShaH.sumL l, 0 ≤ x ∧ x ≤ 255 := by
  intro x hx
  unfold ShaH.sumL ShaG.idL at hx
  rw [List.mem_flatMap] at hx
  obtain ⟨i, _, hi⟩ := hx
  exact four_B _ (RotM.u_range _) x hi
/-- The id that bytes have. -/
def sumI (l : List Int) : Idn := ⟨ShaH.sumL l, ShaH.sumL_length l, sum_B l⟩
theorem rowL_of {w : World} {A : Option Addr} {cap : Nat} {l : List Int} (h : Sl w A cap l) : RowIn.RowL .u8 w A l.length cap l := by
  obtain ⟨h1, h2, h3, h4⟩ := h
  refine ⟨h1, h2, ⟨Nat.le_refl _, h1⟩, fun x hx => ?_, ?_⟩
  · have := h3 x hx
    simpa [B, Lit.wf, IntKind.min, IntKind.max, IntKind.bits, IntKind.signed] using this
  · rcases h4 with ⟨r1, r2, r3⟩ | ⟨x, r1, r2⟩
    · exact .inl ⟨r1, by rw [r2]; rfl, r3⟩
    · exact .inr ⟨x, r1, r2⟩
theorem psum {w : World} {A : Option Addr} {cap len : Nat} {l : List Int} (h : Sl w A cap l) (hl : l.length = len) (hm : len ≤ 1099511627776) (hK : ShaE.KIn w) :
    Calls Tryz.prog 78 #[.slice A len cap] w fun e w' => e = .returned (.agg (cs (sumI l))) ∧ Below w.heap.size w w' := by
  subst hl
  have := ShaH.sumW (rowL_of h) hm hK
  rw [List.take_of_length_le (Nat.le_refl _)] at this
  exact this
theorem dsum {w : World} {A : Option Addr} {cap len : Nat} {l : List Int} (h : Sl w A cap l) (hl : l.length = len) (hm : len ≤ 1099511627776) :
    Calls Tryz.prog 83 #[.slice A len cap] w fun e w' => e = .returned (.agg (cs (sumI l))) ∧ Below w.heap.size w w' := by
  subst hl
  have := RefW.sumW (rowL_of h) hm
  rw [List.take_of_length_le (Nat.le_refl _)] at this
  exact this
end Go.Proofs.YtechkdhehipliaaGreatDoor.CmS
namespace Go.Proofs.YtechkdhehipliaaGreatDoor.CmX
set_option maxRecDepth 100000
open Go Go.RowKit Byt IdM IdW OpsM OpsW CmM StW CmW

def fewK (c : Com) : Bool := decide (c.ps.length ≤ 20) && (decide (c.op.key.size ≤ 100) && decide (c.op.elem.size ≤ 100))
theorem fewK_iff {c : Com} : fewK c = true ↔ c.ps.length ≤ 20 ∧ c.op.key.size ≤ 100 ∧ c.op.elem.size ≤ 100 := by
  unfold fewK
  simp only [Bool.and_eq_true, decide_eq_true_eq]
theorem okay {c : Com} (h : fewK c = true) (hf : Fit c) : CmR.Okay c := by
  obtain ⟨h1, h2, h3⟩ := fewK_iff.1 h
  exact ⟨hf, by omega, by omega⟩
set_option maxRecDepth 100000 in
set_option maxHeartbeats 4000000 in
theorem few_ret (v : Cv) (w : World) : Calls Tryz.prog 50 #[.agg (cc v)] w fun e w' => e = .returned (.bool (fewK v.c)) ∧ Below w.heap.size w w' := by
  have R : Cel.Box CE (w.alloc (.cells (cc v) 38)) w.heap.size v := Cel.Box.new w v _
  have kb := StW.below_alloc w (.cells (cc v) 38)
  have c3 := cell_ps R
  have c5 := cell_key R
  have c6 := cell_elem R
  obtain ⟨n, hn⟩ : ∃ n, v.c.ps.length = n := ⟨_, rfl⟩
  have hw : ¬ (n : Int) ≤ 20 ∨ ((n : Int) ≤ 20 ∧ (¬ (v.c.op.key.size : Int) ≤ 100 ∨ ((v.c.op.key.size : Int) ≤ 100 ∧ (¬ (v.c.op.elem.size : Int) ≤ 100 ∨ (v.c.op.elem.size : Int) ≤ 100)))) := by omega
  obtain ⟨r, hr⟩ : ∃ r, fewK v.c = r := ⟨_, rfl⟩
  have HR : Hid (r = (decide (n ≤ 20) && (decide (v.c.op.key.size ≤ 100) && decide (v.c.op.elem.size ≤ 100)))) := aside (by rw [← hr, ← hn]; rfl)
  rw [hr]
  rw [hn] at c3
  clear hn hr R
  rcases hw with p | ⟨p1, p | ⟨p2, p | p⟩⟩
  all_goals
    go_enter Tryz.func50, Tryz.ntmps50
    go_wp2_with (first | go_skip)
    go_ret
    exact ⟨StW.ret_bool (by rw [HR.out]; simp; omega), kb⟩
end Go.Proofs.YtechkdhehipliaaGreatDoor.CmX
namespace Go.Proofs.YtechkdhehipliaaGreatDoor.CmY
set_option maxRecDepth 100000
open Go Go.Sort Go.RowKit Byt IdM IdW OpsM OpsW CmM StW CmW

/-- A commit's id. -/
def hashK (c : Com) : Idn := CmS.sumI (putK c)
/-- An id loaded whole, also where that is guarded, and wanted. -/
theorem gid {ops : Array Oper} {rest : List Oper} {o : Oper} {a : Act} {w : World} {Q : Exit → Act → World → Prop} (x : Operand) (ho : o.op = .load 42 x)
    (b off : Nat) (hx : a.eval x = .pointer (some ⟨b, off, none⟩)) (y : Idn) (hc : w.rangeAt b off (bv y.1)) (hw : Region.wanted o (yielded ops a.tmps) = true) (h : wpList Tryz.prog ops Q rest (a.put o.dst (.agg (cs y))) w) : wpList Tryz.prog ops Q (o :: rest) a w :=
  RowC.unguard hw (wpList_load_id rfl x ho b off hx y hc h)
/-- An operation read whole in a region that draws its order. -/
theorem quiet_op {a : Act} {o : Oper} {K : Act → Prop} {w : World} (x : Operand) (ho : o.op = .load 36 x)
    (b off : Nat) (hx : a.eval x = .pointer (some ⟨b, off, none⟩)) (y : Opn) (hc : w.rangeAt b off (opc y).toList) (hk : K (a.put o.dst (.agg (opc y)))) : o.quiet Tryz.prog a (fun w' => ∃ p : Regrown, w' = grow (redrawn w p.d) p.os) K := by
  refine ⟨.agg (opc y), fun u hu => ?_, hk⟩
  obtain ⟨p, rfl⟩ := hu
  have hr : (grow (redrawn w p.d) p.os).rangeAt b off (opc y).toList := fun j v hv => ((below_regrown w p.d p.os).cell (block_lt_of_cell (hc j v hv))).trans (hc j v hv)
  have q := run_loadAt_mid _ b off 36 (opc y).toList _ hr Tryz.underlying36 rfl (info_opl y)
  unfold Oper.quietAt execOp
  simp only [ho, hx, Sem.run_bind, q, Result.andThen_ok, Sem.run_pure]
  exact ⟨rfl, rfl⟩
/-- The bytes, and the error's number, of Put; what Get hands back. -/
def putB (c : Com) : List Int := if mayK c = true then putK c else []
def putN (c : Com) : Int := if mayK c = true then 0 else 1
def PutOut (c : Com) (w : World) (e : Ending) (w' : World) : Prop :=
  ∃ A cap, e = .returned (.tuple #[.slice A (putB c).length cap, .int .i64 (putN c)]) ∧ Sl w' A cap (putB c) ∧ Below w.heap.size w w'
def hashI (c : Com) : Idn := if mayK c = true then hashK c else nought
def HashOut (c : Com) (w : World) (e : Ending) (w' : World) : Prop :=
  e = .returned (.tuple #[.agg (cs (hashI c)), .int .i64 (putN c)]) ∧ Below w.heap.size w w'
def gotC (q : Option (Com × List Int)) : Com := (q.map (·.1)).getD noK
def gotR (q : Option (Com × List Int)) : List Int := (q.map (·.2)).getD []
def gotN (q : Option (Com × List Int)) : Int := if q.isSome = true then 0 else 2
def GetAll (q : Option (Com × List Int)) (w : World) (e : Ending) (w' : World) : Prop :=
  ∃ v A k, e = .returned (.tuple #[.agg (cc v), .slice A (gotR q).length k, .int .i64 (gotN q)]) ∧ v.c = gotC q ∧ In w' v ∧ Sl w' A k (gotR q) ∧ Below w.heap.size w w'
theorem putB_yes {c : Com} (h : mayK c = true) : putB c = putK c ∧ putN c = 0 ∧ hashI c = hashK c := by
  unfold putB putN hashI
  rw [if_pos h, if_pos h, if_pos h]
  exact ⟨rfl, rfl, rfl⟩
theorem putB_no {c : Com} (h : mayK c = false) : putB c = [] ∧ putN c = 1 ∧ hashI c = nought := by
  have h' : ¬ mayK c = true := by rw [h]; simp
  unfold putB putN hashI
  rw [if_neg h', if_neg h', if_neg h']
  exact ⟨rfl, rfl, rfl⟩
theorem putB_len (c : Com) : (putB c).length ≤ 400 := by
  cases h : mayK c with
  | false => rw [(putB_no h).1]; simp
  | true => rw [(putB_yes h).1]; exact putK_len h
theorem putB_B (c : Com) : ∀ x ∈ putB c, B x := by
  cases h : mayK c with
  | false => rw [(putB_no h).1]; simp
  | true => rw [(putB_yes h).1]; exact putK_B c
end Go.Proofs.YtechkdhehipliaaGreatDoor.CmY
namespace Go.Proofs.YtechkdhehipliaaGreatDoor.CmI
set_option maxRecDepth 100000
open Go Go.Sort Go.RowKit Byt EncM EncC IdM IdW IdB OpsM OpsW CmM StW CmW CmD CmG CmE CmF CmY

/-- One cell stored into a block that holds one. -/
theorem wpList_store_one {ops : Array Oper} {rest : List Oper} {o : Oper} {a : Act} {w : World} {Q : Exit → Act → World → Prop} (hgd : o.guard = none) (hd : o.dst = none) (T : TypeId) (x y : Operand) (ho : o.op = .store T x y) (hi : (Tryz.prog.info? T).map (·.size) = some 1)
    (g : Nat) (hx : a.eval x = .pointer (some ⟨g, 0, none⟩)) (old : Value) (hc : One w g old) (v : Value) (hy : a.eval y = v) (hv : v.cells = #[v]) (h1 : v.oneCell' = true)
    (h : ∀ w', One w' g v → (∀ B, B ≤ g → Below B w w') → w.grownBy w' (some g) → wpList Tryz.prog ops Q rest a w') : wpList Tryz.prog ops Q (o :: rest) a w := by
  have hlt := hc.lt
  obtain ⟨t, ht⟩ := hc
  exact RowH.wpList_store_cell hgd hd T x y ho hi g hx old t ht v hy hv h1 (fun w' h1 h2 => h w' ⟨t, h1⟩ (fun B hB => below_grown (Below.refl B w) (by omega) h2 (fun k hk => by injection hk with hk; omega)) h2)
theorem One.kept {w w' : World} {g b : Nat} {v : Value} (h : One w b v) (hg : w.grownBy w' (some g)) (hne : b ≠ g) : One w' b v := by
  have hlt := h.lt
  obtain ⟨t, ht⟩ := h
  exact ⟨t, (hg.block _ hlt (fun e => hne (by injection e))).trans ht⟩
theorem no_one {w : World} {g : Nat} {v : Value} (h : One w g v) (hv : isU8 v = false) : NoU8 w g := by
  intro j u hu
  obtain ⟨t, ht⟩ := h
  rw [cell_of_row w g j _ t (0, 0) ht] at hu
  match j, hu with
  | 0, hu => simp at hu; rw [← hu]; exact hv
  | j + 1, hu => simp at hu
theorem info_e : (Tryz.prog.info? 54).map (·.size) = some 1 := by kernel_rfl
theorem results_g {fn : Func} {p q r : Tmp} (h : fn.results = #[.cell p 38, .cell q 53, .cell r 54]) (tmps : Array Value) (w : World) (g gb gn : Nat) (v : Cv) (A : Option Addr) (n k : Nat) (m : Int)
    (hp : tmps.getD p undef = .pointer (some ⟨g, 0, none⟩)) (hq : tmps.getD q undef = .pointer (some ⟨gb, 0, none⟩)) (hr : tmps.getD r undef = .pointer (some ⟨gn, 0, none⟩)) (hg : Cel.Box CE w g v) (hb : One w gb (.slice A n k)) (hn : One w gn (.int .i64 m)) :
    (results fn tmps).run Tryz.prog w = .ok (.tuple #[.agg (cc v), .slice A n k, .int .i64 m]) w := by
  have cb := hb.cell
  have cn := hn.cell
  have d0 := cell_node hg
  have d1 := cell_seq hg
  have d2 := cell_gen hg
  have d3 := cell_ps hg
  have d4 := cell_kind hg
  have d5 := cell_key hg
  have d6 := cell_elem hg
  have d7 := cell_n hg
  have hp' : tmps[p]?.getD undef = .pointer (some ⟨g, 0, none⟩) := by simpa using hp
  have hq' : tmps[q]?.getD undef = .pointer (some ⟨gb, 0, none⟩) := by simpa using hq
  have hr' : tmps[r]?.getD undef = .pointer (some ⟨gn, 0, none⟩) := by simpa using hr
  simp [results, h, hp', hq', hr', asAddr, go_sem, cb, cn, d0, d1, d2, d3, d4, d5, d6, d7]
  rfl
/-- What lies in the three variables that the deferred function writes. -/
structure Vars (w : World) (gc gb gn : Nat) (v : Cv) (b : Value) (n : Int) : Prop where
  c : Cel.Box CE w gc v
  b : One w gb b
  n : One w gn (.int .i64 n)
/-- What lies in the variables behind a store into none of them. -/
theorem Vars.below {w w' : World} {gc gb gn : Nat} {v : Cv} {b : Value} {n : Int} (h : Vars w gc gb gn v b n) (k : Below w.heap.size w w') : Vars w' gc gb gn v b n := ⟨h.c.below k, h.b.below k, h.n.below k⟩
def tree : Forks.Tree := .free 1 (.two 0 (.act 2 (.act 3 (.act 4 (.act 5 (.act 6 .ends))))) 2 (.two 0 (.act 3 (.act 4 (.act 5 (.act 6 .ends)))) 3 (.act 0 (.act 4 (.act 5 (.act 6 .ends))))))
/-- The post of a region in which nothing panics. -/
def Calm (Q : Exit → Act → World → Prop) : Exit → Act → World → Prop
  | .normal, a, w => Q .normal a w
  | _, _, _ => False
theorem calm {P : Program} {c : Code} {Q : Exit → Act → World → Prop} {a : Act} {w : World} (h : c.wp P (Calm Q) a w) : c.wp P Q a w := wp_mono h (fun e a w hq => by
  cases e with
  | normal => exact hq
  | _ => exact hq.elim)
theorem calm_in {Q : Exit → Act → World → Prop} {a : Act} {w : World} (h : Q .normal a w) : Calm Q .normal a w := h
end Go.Proofs.YtechkdhehipliaaGreatDoor.CmI
