/- What sha.Sum returns: a contract. -/
import Derived.Test.YteojkfbnenfmkaaGreatDoorPadMJ3
import Derived.Test.YteojkfbnenfmkaaGreatDoorShaFJ2
import Derived.Deep.RegionWith
namespace Go.Proofs.YteojkfbnenfmkaaGreatDoor.ShaH
set_option maxRecDepth 100000
open Go.RowKit RotM RotN RotC RotD ShaM ShaC ShaD ShaE RotG Small PadM ShaF ShaG SumM

/-- The bytes of a content's sum. -/
def sumL (bs : List Int) : List Int := idL (hsum (padL bs) (nPad bs.length / 64)) 8
theorem sumL_length (bs : List Int) : (sumL bs).length = 32 := idL_length _ _

theorem block_out (h r : H8) (b off cap : Nat) (f : Nat → Int) (hf : ∀ i, B (f i)) (hcap : 64 ≤ cap) (hr : blockS h (wordsOf f) = r) (w : World) (hc : ∀ i, i < 64 → w.cell? ⟨b, off + i, none⟩ = some (.int .u8 (f i))) (hK : KIn w) :
    Calls Tryz.prog 61 #[.agg #[.int .u32 (u h.a), .int .u32 (u h.b), .int .u32 (u h.c), .int .u32 (u h.d), .int .u32 (u h.e), .int .u32 (u h.f), .int .u32 (u h.g), .int .u32 (u h.z)], .slice (some ⟨b, off, none⟩) 64 cap] w
      fun e w' => e = .returned (.tuple #[.agg #[.int .u32 (u r.a), .int .u32 (u r.b), .int .u32 (u r.c), .int .u32 (u r.d), .int .u32 (u r.e), .int .u32 (u r.f), .int .u32 (u r.g), .int .u32 (u r.z)], .bool true]) ∧ Below w.heap.size w w' := by
  subst hr
  exact block_yes h b off cap f hf hcap w hc hK

theorem set8 (r q : H8) : ((((((((r.vals.setIfInBounds 0 (.int .u32 (u q.a))).setIfInBounds 1 (.int .u32 (u q.b))).setIfInBounds 2 (.int .u32 (u q.c))).setIfInBounds 3 (.int .u32 (u q.d))).setIfInBounds 4 (.int .u32 (u q.e))).setIfInBounds 5 (.int .u32 (u q.f))).setIfInBounds 6 (.int .u32 (u q.g))).setIfInBounds 7 (.int .u32 (u q.z))) = q.vals := by kernel_rfl
theorem bv_all (l : List Int) : (bv l).toArray.all (·.oneCell') = true := by
  rw [Array.all_eq_true_iff_forall_mem]
  intro v hv
  exact bv_one _ v (by simpa using hv)
theorem hsum_succ {P : List Int} {k : Nat} {r q : H8} (hr : hsum P k = r) (hq : blockS r (wordsOf (blk P k)) = q) : hsum P (k + 1) = q := by
  subst hr
  exact hq

set_option maxHeartbeats 1000000 in
theorem sumW {w : World} {A : Option Addr} {len cap : Nat} {zs : List Int} (hr : RowIn.RowL .u8 w A len cap zs) (hl : len ≤ 1099511627776) (hK : KIn w) :
    Calls Tryz.prog 38 #[.slice A len cap] w fun e w' => e = .returned (.agg (bv (sumL (zs.take len))).toArray) ∧ Below w.heap.size w w' := by
  obtain ⟨bs, hbs⟩ : ∃ bs, zs.take len = bs := ⟨_, rfl⟩
  have hlen : bs.length = len := by
    have h1 := hr.1
    have h3 := hr.2.2.1
    rw [← hbs]; simp; omega
  have hB : ∀ x ∈ padL bs, B x := by
    refine padL_B (fun x hx => ?_) (by omega)
    rw [← hbs] at hx
    have := hr.2.2.2.1 x (List.mem_of_mem_take hx)
    simpa [B, Lit.wf, IntKind.min, IntKind.max, IntKind.bits, IntKind.signed] using this
  have HB := RotF.aside hB
  have hr1 := hr.below ((Below.refl _ _).alloc (Nat.le_refl _) (.cells (idV startS 0).toArray 43))
  have hp := padW hr1 hl
  rw [hbs] at hp
  rw [hbs]
  have hn1 := nPad_mod len
  have hn2 := nPad_hi len
  have hn3 := padL_length bs
  unfold sumL
  rw [hlen] at hn3
  rw [hlen]
  obtain ⟨P, hP⟩ : ∃ P, padL bs = P := ⟨_, rfl⟩
  obtain ⟨N, hN⟩ : ∃ N, nPad len = N := ⟨_, rfl⟩
  have e0 := idV_zero startS
  rw [e0, hP] at hp
  rw [hP] at hn3 HB
  rw [hN] at hn1 hn2 hn3
  rw [hP, hN]
  have HP := RotF.aside hp
  have HN3 := RotF.aside hn3
  have HN1 := RotF.aside hn1
  clear hB hr hr1 hlen hbs hp e0 hP hN hn3 hn1
  go_enter Tryz.func38, Tryz.ntmps38
  go_wp2_with fail
  refine HP.out.mono ?_
  rintro e w1 ⟨gp, rfl, hg1, Ap, k1⟩
  have A2 : At w1 w.heap.size (idV startS 0).toArray := by rw [idV_zero]; exact (At.new w _ _).below k1 (by simp)
  have hs : w.heap.size < gp := by simp at hg1; omega
  have kb : Below w.heap.size w w1 := Below.trans (by go_grown) (k1.mono (by simp))
  clear HP k1 hg1
  go_wp2_with fail
  refine (ShaC.start _).mono ?_
  rintro e w2 ⟨rfl, h2⟩
  have B2 := A2.below h2 A2.lt
  have Bp := Ap.below h2 Ap.lt
  have kc := kb.trans (h2.mono kb.size)
  clear A2 Ap kb h2
  have lp := Bp.lt
  go_wp2_with (refine wpList_store_last rfl 79 _ _ rfl _ _ _ 79 rfl _ rfl ?c1 rfl ?c2 ?c3 ?c4 ?_; (case c1 => simp); (case c2 => exact info8); (case c3 => rfl); (case c4 => exact one8 _))
  have n1 : w.heap.size ≠ w2.heap.size := by omega
  have n2 : gp ≠ w2.heap.size := by omega
  have n3 : w.heap.size ≤ w2.heap.size := by omega
  go_loopw [5] (fun i wr => ∃ k : Nat, 64 * k ≤ P.length ∧ i = .int .i64 (64 * (k : Int)) ∧ At wr w.heap.size (idV startS 0).toArray ∧ At wr gp (bv P).toArray ∧ At wr w2.heap.size (hsum P k).vals ∧ Below w.heap.size w wr) (fun i _ => P.length - (intOf i).toNat)
  case atStart => exact ⟨0, Nat.zero_le _, rfl, B2.alloc _, Bp.alloc _, At.new _ _ _, kc.alloc kc.size _⟩
  case round =>
    clear B2 Bp kc
    obtain ⟨k, hk, rfl, A2, Ap, A4, kb⟩ := hrel
    by_cases hlt : 64 * k < P.length
    · have hle : 64 * k + 64 ≤ P.length := by have := HN1.out; have := HN3.out; omega
      have hub : P.length ≤ 1099511627848 := by have := HN3.out; omega
      obtain ⟨r, hr⟩ : ∃ r, hsum P k = r := ⟨_, rfl⟩
      obtain ⟨q, hq⟩ : ∃ q, blockS r (wordsOf (blk P k)) = q := ⟨_, rfl⟩
      rw [hr] at A4
      have HR := RotF.aside hr
      have HQ := RotF.aside hq
      clear hr hq
      have c0 : wr.cell? ⟨w2.heap.size, 0, none⟩ = some (.int .u32 (u r.a)) := A4.cell 0
      have c1 : wr.cell? ⟨w2.heap.size, 1, none⟩ = some (.int .u32 (u r.b)) := A4.cell 1
      have c2 : wr.cell? ⟨w2.heap.size, 2, none⟩ = some (.int .u32 (u r.c)) := A4.cell 2
      have c3 : wr.cell? ⟨w2.heap.size, 3, none⟩ = some (.int .u32 (u r.d)) := A4.cell 3
      have c4 : wr.cell? ⟨w2.heap.size, 4, none⟩ = some (.int .u32 (u r.e)) := A4.cell 4
      have c5 : wr.cell? ⟨w2.heap.size, 5, none⟩ = some (.int .u32 (u r.f)) := A4.cell 5
      have c6 : wr.cell? ⟨w2.heap.size, 6, none⟩ = some (.int .u32 (u r.g)) := A4.cell 6
      have c7 : wr.cell? ⟨w2.heap.size, 7, none⟩ = some (.int .u32 (u r.z)) := A4.cell 7
      have m0 : (64 * (k : Int)) < (P.length : Int) := by omega
      have m1 : IntKind.i64.wrap (64 * (k : Int) + 64) = 64 * (k : Int) + 64 := IntWalk.i64_in _ (by omega)
      have m2 : 0 ≤ 64 * (k : Int) := by omega
      have m3 : (64 * (k : Int)).toNat = 64 * k := by omega
      have m4 : (64 * (k : Int) + 64).toNat = 64 * k + 64 := by omega
      have m5 : 64 * (k : Int) + 64 ≤ (P.length : Int) := by omega
      have m6 : 64 * (k : Int) ≤ 64 * (k : Int) + 64 := by omega
      have m7 : ¬ P.length = 64 * k := by omega
      have m8 : 64 * k + 64 - 64 * k = 64 := by omega
      have m9 : 0 ≤ 64 * (k : Int) + 64 := by omega
      go_wp2
      go_region_with ((go_at_call 61; (refine (block_out r q gp (64 * k) (P.length - 64 * k) (blk P k) (blk_B HB.out k) (by omega) HQ.out _ ?_ ?_).mono ?_; (exact fun i hi => blk_at (Ap.drew) k hle i hi); (exact KIn.below hK (below_drew1 kb)); rintro e w3 ⟨rfl, h3⟩; have d0 : w3.cell? ⟨w2.heap.size, 0, none⟩ = some (.int .u32 (u r.a)) := (A4.drew.below h3 A4.drew.lt).cell 0; have z0 := (A4.drew.below h3 A4.drew.lt).frozen 0; have d1 : w3.cell? ⟨w2.heap.size, 1, none⟩ = some (.int .u32 (u r.b)) := (A4.drew.below h3 A4.drew.lt).cell 1; have z1 := (A4.drew.below h3 A4.drew.lt).frozen 1; have d2 : w3.cell? ⟨w2.heap.size, 2, none⟩ = some (.int .u32 (u r.c)) := (A4.drew.below h3 A4.drew.lt).cell 2; have z2 := (A4.drew.below h3 A4.drew.lt).frozen 2; have d3 : w3.cell? ⟨w2.heap.size, 3, none⟩ = some (.int .u32 (u r.d)) := (A4.drew.below h3 A4.drew.lt).cell 3; have z3 := (A4.drew.below h3 A4.drew.lt).frozen 3; have d4 : w3.cell? ⟨w2.heap.size, 4, none⟩ = some (.int .u32 (u r.e)) := (A4.drew.below h3 A4.drew.lt).cell 4; have z4 := (A4.drew.below h3 A4.drew.lt).frozen 4; have d5 : w3.cell? ⟨w2.heap.size, 5, none⟩ = some (.int .u32 (u r.f)) := (A4.drew.below h3 A4.drew.lt).cell 5; have z5 := (A4.drew.below h3 A4.drew.lt).frozen 5; have d6 : w3.cell? ⟨w2.heap.size, 6, none⟩ = some (.int .u32 (u r.g)) := (A4.drew.below h3 A4.drew.lt).cell 6; have z6 := (A4.drew.below h3 A4.drew.lt).frozen 6; have d7 : w3.cell? ⟨w2.heap.size, 7, none⟩ = some (.int .u32 (u r.z)) := (A4.drew.below h3 A4.drew.lt).cell 7; have z7 := (A4.drew.below h3 A4.drew.lt).frozen 7; clear c0 c1 c2 c3 c4 c5 c6 c7)))
      all_goals
        have D2 := A2.drew.below h3 A2.drew.lt
        have Dp := Ap.drew.below h3 Ap.drew.lt
        have D4 := A4.drew.below h3 A4.drew.lt
        have kd : Below w.heap.size w w3 := (below_drew1 kb).trans (h3.mono kb.size)
        clear d0 d1 d2 d3 d4 d5 d6 d7 z0 z1 z2 z3 z4 z5 z6 z7 m1 m3 m4 m8 A2 Ap A4 kb h3
        go_wp2
        go_roundw
        case rel =>
          have S4 := (((((((D4.set 0 (.int .u32 (u q.a))).set 1 (.int .u32 (u q.b))).set 2 (.int .u32 (u q.c))).set 3 (.int .u32 (u q.d))).set 4 (.int .u32 (u q.e))).set 5 (.int .u32 (u q.f))).set 6 (.int .u32 (u q.g))).set 7 (.int .u32 (u q.z))
          rw [set8] at S4
          refine ⟨k + 1, by omega, by go_num, ?_, ?_, by rw [hsum_succ HR.out HQ.out]; exact S4, ?_⟩
          · iterate 8 refine At.set_other ?_ n1 _
            exact D2
          · iterate 8 refine At.set_other ?_ n2 _
            exact Dp
          · iterate 8 refine Below.setCell ?_ n3 _
            exact kd
        case measure => simp [intOf]; omega
    · have eN : k = N / 64 := by have := HN1.out; have := HN3.out; omega
      rw [eN] at A4
      clear eN
      go_wp2_with (first | (refine wpList_load_at rfl 79 _ rfl _ rfl _ _ A4 Tryz.underlying79 rfl ?c2 ?_; (case c2 => exact info8)) | fail)
      refine (join _ _).mono ?_
      rintro e w3 ⟨rfl, h3⟩
      have D2 := A2.below h3 A2.lt
      have kd := kb.trans (h3.mono kb.size)
      clear A2 Ap A4 kb h3
      go_wp2_with (refine wpList_store_at rfl 43 _ _ rfl _ _ rfl rfl _ D2 ?c2 ?c3 ?c4 ?_; (case c2 => rw [List.size_toArray, bv_length, idL_length]; exact info_id); (case c3 => rw [List.size_toArray, List.size_toArray, idV_length _ _ (by omega), bv_length, idL_length]); (case c4 => exact bv_all _))
      exact bodyPost_ret (v := .agg (bv (idL (hsum P (N / 64)) 8)).toArray) (results_at Tryz.results38 _ _ w.heap.size _ _ rfl (D2.row _) Tryz.underlying43 rfl (by rw [List.size_toArray, bv_length, idL_length]; exact info_id)) rfl ⟨rfl, below_row kd (Nat.le_refl _) _⟩
end Go.Proofs.YteojkfbnenfmkaaGreatDoor.ShaH
