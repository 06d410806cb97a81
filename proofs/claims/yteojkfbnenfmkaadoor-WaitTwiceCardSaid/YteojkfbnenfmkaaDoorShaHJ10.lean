/- What sha.Sum returns: a contract. | What the document's answers to Pick, Most, Right and Four of package rot return: contracts. | What the document's answers to Long and Word of package rot return: contracts. | What the document's answers' twist, Constants, Start and words of package sha return: contracts. | What the document's answer's words of package sha returns: a contract. | What the document's answer's Block of package sha returns: contracts. | What the document's answer's Pad of package sha returns: a contract. | The contracts of the document's Four and Long once more, with the bytes named. | What the document's answer's Sum of package sha returns: a contract. | Plain laws of the model that the walks need: two arrays of integers are the same just if each number is; a slice of four cells as an array's address. -/
import Derived.Test.YteojkfbnenfmkaaDoorPadMJ3
import Derived.Test.YteojkfbnenfmkaaDoorShaFJ2
import Derived.Deep.RegionWith
import Derived.Test.YteojkfbnenfmkaaDoorRotMJ4
import Derived.Test.YteojkfbnenfmkaaDoorRotDJ4
import Derived.Test.YteojkfbnenfmkaaDoorShaCJ2
import Derived.BigRegion
import Derived.Laws.AppendOwn
import Derived.Laws.AppendOwnNone
import Derived.OwnWalk
import Derived.WalkKit
import Derived.ChangeKeysEq
namespace Go.Proofs.YteojkfbnenfmkaaDoor.ShaH
set_option maxRecDepth 100000
open Go.RowKit RotM RotN RotC RotD ShaM ShaC ShaD ShaE RotG Small PadM ShaF ShaG SumM

/-- The bytes of a content's sum. -/
def sumL (bs : List Int) : List Int := idL (hsum (padL bs) (nPad bs.length / 64)) 8
theorem sumL_length (bs : List Int) : (sumL bs).length = 32 := idL_length _ _

theorem block_out (h r : H8) (b off cap : Nat) (f : Nat → Int) (hf : ∀ i, B (f i)) (hcap : 64 ≤ cap) (hr : blockS h (wordsOf f) = r) (w : World) (hc : ∀ i, i < 64 → w.cell? ⟨b, off + i, none⟩ = some (.int .u8 (f i))) (hK : KIn w) :
    Calls Tryd.prog 59 #[.agg #[.int .u32 (u h.a), .int .u32 (u h.b), .int .u32 (u h.c), .int .u32 (u h.d), .int .u32 (u h.e), .int .u32 (u h.f), .int .u32 (u h.g), .int .u32 (u h.z)], .slice (some ⟨b, off, none⟩) 64 cap] w
      fun e w' => e = .returned (.tuple #[.agg #[.int .u32 (u r.a), .int .u32 (u r.b), .int .u32 (u r.c), .int .u32 (u r.d), .int .u32 (u r.e), .int .u32 (u r.f), .int .u32 (u r.g), .int .u32 (u r.z)], .bool true]) ∧ Below w.heap.size w w' := by
  subst hr
  exact block_yes h b off cap f hf hcap w hc hK

theorem set8 (r q : H8) : ((((((((r.vals.setIfInBounds 0 (.int .u32 (u q.a))).setIfInBounds 1 (.int .u32 (u q.b))).setIfInBounds 2 (.int .u32 (u q.c))).setIfInBounds 3 (.int .u32 (u q.d))).setIfInBounds 4 (.int .u32 (u q.e))).setIfInBounds 5 (.int .u32 (u q.f))).setIfInBounds 6 (.int .u32 (u q.g))).setIfInBounds 7 (.int .u32 (u q.z))) = q.vals := by kernel_rfl
theorem bv_all (l : List Int) : (bv l).toArray.all (·.oneCell') = true := by
  rw [Array.all_eq_true_iff_forall_mem]
  intro v hv
  exact bv_one _ v (by simpa using hv)
theorem hsum_succ {P : List Int} {k : Nat} {r q : H8} (hr : hsum P k = r) (hq : blockS r (wordsOf (blk P k)) = q) : hsum P (k + 1) = q := by
  subst hr
  exact hq

set_option maxHeartbeats 1000000 in
theorem sumW {w : World} {A : Option Addr} {len cap : Nat} {zs : List Int} (hr : RowIn.RowL .u8 w A len cap zs) (hl : len ≤ 1099511627776) (hK : KIn w) :
    Calls Tryd.prog 42 #[.slice A len cap] w fun e w' => e = .returned (.agg (bv (sumL (zs.take len))).toArray) ∧ Below w.heap.size w w' := by
  obtain ⟨bs, hbs⟩ : ∃ bs, zs.take len = bs := ⟨_, rfl⟩
  have hlen : bs.length = len := by
    have h1 := hr.1
    have h3 := hr.2.2.1
    rw [← hbs]; simp; omega
  have hB : ∀ x ∈ padL bs, B x := by
    refine padL_B (fun x hx => ?_) (by omega)
    rw [← hbs] at hx
    have := hr.2.2.2.1 x (List.mem_of_mem_take hx)
    simpa [B, Lit.wf, IntKind.min, IntKind.max, IntKind.bits, IntKind.signed] using this
  have HB := RotF.aside hB
  have hr1 := hr.below ((Below.refl _ _).alloc (Nat.le_refl _) (.cells (idV startS 0).toArray 42))
  have hp := padW hr1 hl
  rw [hbs] at hp
  rw [hbs]
  have hn1 := nPad_mod len
  have hn2 := nPad_hi len
  have hn3 := padL_length bs
  unfold sumL
  rw [hlen] at hn3
  rw [hlen]
  obtain ⟨P, hP⟩ : ∃ P, padL bs = P := ⟨_, rfl⟩
  obtain ⟨N, hN⟩ : ∃ N, nPad len = N := ⟨_, rfl⟩
  have e0 := idV_zero startS
  rw [e0, hP] at hp
  rw [hP] at hn3 HB
  rw [hN] at hn1 hn2 hn3
  rw [hP, hN]
  have HP := RotF.aside hp
  have HN3 := RotF.aside hn3
  have HN1 := RotF.aside hn1
  clear hB hr hr1 hlen hbs hp e0 hP hN hn3 hn1
  go_enter Tryd.func42, Tryd.ntmps42
  go_wp2_with fail
  refine HP.out.mono ?_
  rintro e w1 ⟨gp, rfl, hg1, Ap, k1⟩
  have A2 : At w1 w.heap.size (idV startS 0).toArray := by rw [idV_zero]; exact (At.new w _ _).below k1 (by simp)
  have hs : w.heap.size < gp := by simp at hg1; omega
  have kb : Below w.heap.size w w1 := Below.trans (by go_grown) (k1.mono (by simp))
  clear HP k1 hg1
  go_wp2_with fail
  refine (ShaC.start _).mono ?_
  rintro e w2 ⟨rfl, h2⟩
  have B2 := A2.below h2 A2.lt
  have Bp := Ap.below h2 Ap.lt
  have kc := kb.trans (h2.mono kb.size)
  clear A2 Ap kb h2
  have lp := Bp.lt
  go_wp2_with (refine wpList_store_last rfl 89 _ _ rfl _ _ _ 89 rfl _ rfl ?c1 rfl ?c2 ?c3 ?c4 ?_; (case c1 => simp); (case c2 => exact info8); (case c3 => rfl); (case c4 => exact one8 _))
  have n1 : w.heap.size ≠ w2.heap.size := by omega
  have n2 : gp ≠ w2.heap.size := by omega
  have n3 : w.heap.size ≤ w2.heap.size := by omega
  go_loopw [5] (fun i wr => ∃ k : Nat, 64 * k ≤ P.length ∧ i = .int .i64 (64 * (k : Int)) ∧ At wr w.heap.size (idV startS 0).toArray ∧ At wr gp (bv P).toArray ∧ At wr w2.heap.size (hsum P k).vals ∧ Below w.heap.size w wr) (fun i _ => P.length - (intOf i).toNat)
  case atStart => exact ⟨0, Nat.zero_le _, rfl, B2.alloc _, Bp.alloc _, At.new _ _ _, kc.alloc kc.size _⟩
  case round =>
    clear B2 Bp kc
    obtain ⟨k, hk, rfl, A2, Ap, A4, kb⟩ := hrel
    by_cases hlt : 64 * k < P.length
    · have hle : 64 * k + 64 ≤ P.length := by have := HN1.out; have := HN3.out; omega
      have hub : P.length ≤ 1099511627848 := by have := HN3.out; omega
      obtain ⟨r, hr⟩ : ∃ r, hsum P k = r := ⟨_, rfl⟩
      obtain ⟨q, hq⟩ : ∃ q, blockS r (wordsOf (blk P k)) = q := ⟨_, rfl⟩
      rw [hr] at A4
      have HR := RotF.aside hr
      have HQ := RotF.aside hq
      clear hr hq
      have c0 : wr.cell? ⟨w2.heap.size, 0, none⟩ = some (.int .u32 (u r.a)) := A4.cell 0
      have c1 : wr.cell? ⟨w2.heap.size, 1, none⟩ = some (.int .u32 (u r.b)) := A4.cell 1
      have c2 : wr.cell? ⟨w2.heap.size, 2, none⟩ = some (.int .u32 (u r.c)) := A4.cell 2
      have c3 : wr.cell? ⟨w2.heap.size, 3, none⟩ = some (.int .u32 (u r.d)) := A4.cell 3
      have c4 : wr.cell? ⟨w2.heap.size, 4, none⟩ = some (.int .u32 (u r.e)) := A4.cell 4
      have c5 : wr.cell? ⟨w2.heap.size, 5, none⟩ = some (.int .u32 (u r.f)) := A4.cell 5
      have c6 : wr.cell? ⟨w2.heap.size, 6, none⟩ = some (.int .u32 (u r.g)) := A4.cell 6
      have c7 : wr.cell? ⟨w2.heap.size, 7, none⟩ = some (.int .u32 (u r.z)) := A4.cell 7
      have m0 : (64 * (k : Int)) < (P.length : Int) := by omega
      have m1 : IntKind.i64.wrap (64 * (k : Int) + 64) = 64 * (k : Int) + 64 := IntWalk.i64_in _ (by omega)
      have m2 : 0 ≤ 64 * (k : Int) := by omega
      have m3 : (64 * (k : Int)).toNat = 64 * k := by omega
      have m4 : (64 * (k : Int) + 64).toNat = 64 * k + 64 := by omega
      have m5 : 64 * (k : Int) + 64 ≤ (P.length : Int) := by omega
      have m6 : 64 * (k : Int) ≤ 64 * (k : Int) + 64 := by omega
      have m7 : ¬ P.length = 64 * k := by omega
      have m8 : 64 * k + 64 - 64 * k = 64 := by omega
      have m9 : 0 ≤ 64 * (k : Int) + 64 := by omega
      go_wp2
      go_region_with ((go_at_call 59; (refine (block_out r q gp (64 * k) (P.length - 64 * k) (blk P k) (blk_B HB.out k) (by omega) HQ.out _ ?_ ?_).mono ?_; (exact fun i hi => blk_at (Ap.drew) k hle i hi); (exact KIn.below hK (below_drew1 kb)); rintro e w3 ⟨rfl, h3⟩; have d0 : w3.cell? ⟨w2.heap.size, 0, none⟩ = some (.int .u32 (u r.a)) := (A4.drew.below h3 A4.drew.lt).cell 0; have z0 := (A4.drew.below h3 A4.drew.lt).frozen 0; have d1 : w3.cell? ⟨w2.heap.size, 1, none⟩ = some (.int .u32 (u r.b)) := (A4.drew.below h3 A4.drew.lt).cell 1; have z1 := (A4.drew.below h3 A4.drew.lt).frozen 1; have d2 : w3.cell? ⟨w2.heap.size, 2, none⟩ = some (.int .u32 (u r.c)) := (A4.drew.below h3 A4.drew.lt).cell 2; have z2 := (A4.drew.below h3 A4.drew.lt).frozen 2; have d3 : w3.cell? ⟨w2.heap.size, 3, none⟩ = some (.int .u32 (u r.d)) := (A4.drew.below h3 A4.drew.lt).cell 3; have z3 := (A4.drew.below h3 A4.drew.lt).frozen 3; have d4 : w3.cell? ⟨w2.heap.size, 4, none⟩ = some (.int .u32 (u r.e)) := (A4.drew.below h3 A4.drew.lt).cell 4; have z4 := (A4.drew.below h3 A4.drew.lt).frozen 4; have d5 : w3.cell? ⟨w2.heap.size, 5, none⟩ = some (.int .u32 (u r.f)) := (A4.drew.below h3 A4.drew.lt).cell 5; have z5 := (A4.drew.below h3 A4.drew.lt).frozen 5; have d6 : w3.cell? ⟨w2.heap.size, 6, none⟩ = some (.int .u32 (u r.g)) := (A4.drew.below h3 A4.drew.lt).cell 6; have z6 := (A4.drew.below h3 A4.drew.lt).frozen 6; have d7 : w3.cell? ⟨w2.heap.size, 7, none⟩ = some (.int .u32 (u r.z)) := (A4.drew.below h3 A4.drew.lt).cell 7; have z7 := (A4.drew.below h3 A4.drew.lt).frozen 7; clear c0 c1 c2 c3 c4 c5 c6 c7)))
      all_goals
        have D2 := A2.drew.below h3 A2.drew.lt
        have Dp := Ap.drew.below h3 Ap.drew.lt
        have D4 := A4.drew.below h3 A4.drew.lt
        have kd : Below w.heap.size w w3 := (below_drew1 kb).trans (h3.mono kb.size)
        clear d0 d1 d2 d3 d4 d5 d6 d7 z0 z1 z2 z3 z4 z5 z6 z7 m1 m3 m4 m8 A2 Ap A4 kb h3
        go_wp2
        go_roundw
        case rel =>
          have S4 := (((((((D4.set 0 (.int .u32 (u q.a))).set 1 (.int .u32 (u q.b))).set 2 (.int .u32 (u q.c))).set 3 (.int .u32 (u q.d))).set 4 (.int .u32 (u q.e))).set 5 (.int .u32 (u q.f))).set 6 (.int .u32 (u q.g))).set 7 (.int .u32 (u q.z))
          rw [set8] at S4
          refine ⟨k + 1, by omega, by go_num, ?_, ?_, by rw [hsum_succ HR.out HQ.out]; exact S4, ?_⟩
          · iterate 8 refine At.set_other ?_ n1 _
            exact D2
          · iterate 8 refine At.set_other ?_ n2 _
            exact Dp
          · iterate 8 refine Below.setCell ?_ n3 _
            exact kd
        case measure => simp [intOf]; omega
    · have eN : k = N / 64 := by have := HN1.out; have := HN3.out; omega
      rw [eN] at A4
      clear eN
      go_wp2_with (first | (refine wpList_load_at rfl 89 _ rfl _ rfl _ _ A4 Tryd.underlying89 rfl ?c2 ?_; (case c2 => exact info8)) | fail)
      refine (join _ _).mono ?_
      rintro e w3 ⟨rfl, h3⟩
      have D2 := A2.below h3 A2.lt
      have kd := kb.trans (h3.mono kb.size)
      clear A2 Ap A4 kb h3
      go_wp2_with (refine wpList_store_at rfl 42 _ _ rfl _ _ rfl rfl _ D2 ?c2 ?c3 ?c4 ?_; (case c2 => rw [List.size_toArray, bv_length, idL_length]; exact info_id); (case c3 => rw [List.size_toArray, List.size_toArray, idV_length _ _ (by omega), bv_length, idL_length]); (case c4 => exact bv_all _))
      exact bodyPost_ret (v := .agg (bv (idL (hsum P (N / 64)) 8)).toArray) (results_at Tryd.results42 _ _ w.heap.size _ _ rfl (D2.row _) Tryd.underlying42 rfl (by rw [List.size_toArray, bv_length, idL_length]; exact info_id)) rfl ⟨rfl, below_row kd (Nat.le_refl _) _⟩
end Go.Proofs.YteojkfbnenfmkaaDoor.ShaH
namespace Go.Proofs.YteojkfbnenfmkaaDoor.RotC
set_option maxRecDepth 100000
open Go.RowKit RotM

end Go.Proofs.YteojkfbnenfmkaaDoor.RotC
namespace Go.Proofs.YteojkfbnenfmkaaDoor.RotD
set_option maxRecDepth 100000
open Go.RowKit RotM RotC

end Go.Proofs.YteojkfbnenfmkaaDoor.RotD
namespace Go.Proofs.YteojkfbnenfmkaaDoor.RefS
set_option maxRecDepth 100000
open Go.RowKit RotM RotN RotC RotD ShaM ShaC ShaD RotG Small




/-- The table of constants as an array. -/
def kcells : Array Value := Array.ofFn (n := 64) fun j => Value.int .u32 (u (kc j.val))

end Go.Proofs.YteojkfbnenfmkaaDoor.RefS
namespace Go.Proofs.YteojkfbnenfmkaaDoor.RefT
set_option maxRecDepth 100000
open Go.RowKit RotM RotN RotC RotD ShaM ShaD RotG Small RefS


end Go.Proofs.YteojkfbnenfmkaaDoor.RefT
namespace Go.Proofs.YteojkfbnenfmkaaDoor.RefU
set_option maxRecDepth 100000
open Go.RowKit RotM RotN RotC RotD ShaM ShaD RotG Small RefS RefT

def z8 : H8 := ⟨0, 0, 0, 0, 0, 0, 0, 0⟩


/-- What stands in memory inside Block's first loop. -/
structure Inv (w : World) (g6 g7 g8 : Nat) (h v : H8) (m : Nat → BitVec 32) (wr : World) : Prop where
  a2 : At wr w.heap.size h.vals
  a4 : At wr (w.heap.size + 1) z8.vals
  a6 : At wr g6 kcells
  a7 : At wr g7 (sp m 64)
  a8 : At wr g8 v.vals
  kb : Below w.heap.size w wr
theorem Inv.drewN {w : World} {g6 g7 g8 : Nat} {h v : H8} {m : Nat → BitVec 32} {wr : World} (i : Inv w g6 g7 g8 h v m wr) (n : Nat) : Inv w g6 g7 g8 h v m (wr.drewN n) :=
  ⟨i.a2, i.a4, i.a6, i.a7, i.a8, below_drew i.kb n⟩




end Go.Proofs.YteojkfbnenfmkaaDoor.RefU
namespace Go.Proofs.YteojkfbnenfmkaaDoor.RefV
set_option maxRecDepth 100000
open Go.RowKit RotM RotN RotC RotD RotG Small PadM ShaF





end Go.Proofs.YteojkfbnenfmkaaDoor.RefV
namespace Go.Proofs.YteojkfbnenfmkaaDoor.RotG
set_option maxRecDepth 100000
open Go.RowKit RotM RotC RotD RotN

end Go.Proofs.YteojkfbnenfmkaaDoor.RotG
namespace Go.Proofs.YteojkfbnenfmkaaDoor.RefW
set_option maxRecDepth 100000
open Go.RowKit RotM RotN RotC RotD ShaM ShaD RotG Small PadM ShaF ShaG SumM RefV ShaH

/-- A row whose first cells are the bytes l. -/
def CellsIn (w : World) (g : Nat) (l : List Int) : Prop := g < w.heap.size ∧ ∀ i, i < l.length → w.cell? ⟨g, i, none⟩ = some (.int .u8 (l.getD i 0))
theorem CellsIn.below {w w' : World} {g : Nat} {l : List Int} {k : Nat} (h : CellsIn w g l) (hb : Below k w w') (hg : g < k) : CellsIn w' g l :=
  ⟨Nat.lt_of_lt_of_le h.1 hb.size, fun i hi => (hb.cell (p := ⟨g, i, none⟩) hg).trans (h.2 i hi)⟩
theorem CellsIn.alloc {w : World} {g : Nat} {l : List Int} (h : CellsIn w g l) (o : Obj) : CellsIn (w.alloc o) g l := h.below ((Below.refl w.heap.size w).alloc (Nat.le_refl _) o) h.1




end Go.Proofs.YteojkfbnenfmkaaDoor.RefW
namespace Go.Proofs.YteojkfbnenfmkaaDoor.ArrEq
set_option maxRecDepth 100000
open Go.RowKit

section
variable {P : Program}

theorem run_part_int {e : TypeId} {k : IntKind} (he : P.underlying e = some (.int k)) (xs : Array Value) (i : Nat) (v : Value) (hv : xs[i]? = some v) (w : World) : (part e xs i).run P w = .ok v w := by
  simp [part, isAgg, run_underlying he, hv]

theorem eqItems_ints (w : World) (d : Nat) {e : TypeId} {k : IntKind} (he : P.underlying e = some (.int k)) (xs ys : Array Value) (f g : Nat → Int) :
    ∀ is : List Nat, (∀ i ∈ is, xs[i]? = some (.int k (f i)) ∧ ys[i]? = some (.int k (g i))) → (Op.eqItems (d + 1) e 1 xs ys is).run P w = .ok (is.all fun i => f i == g i) w
  | [], _ => by simp [Op.eqItems]
  | i :: is, h => by
    have h0 := h i (by simp)
    have hr := eqItems_ints w d he xs ys f g is (fun j hj => h j (by simp [hj]))
    simp only [Op.eqItems, Sem.run_bind, Nat.mul_one, run_part_int he xs i _ h0.1, run_part_int he ys i _ h0.2, Result.andThen_ok, run_equalIn_int w d e k k (f i) (g i) he]
    by_cases hc : f i = g i
    · simpa [hc] using hr
    · simp [hc]

/-- Two arrays of n integers of one kind. -/
theorem equal_ints (w : World) (d : Nat) {t e : TypeId} {n : Nat} {k : IntKind} {inf : TypeInfo} (hu : P.underlying t = some (.array n e)) (he : P.underlying e = some (.int k)) (hi : P.info? e = some inf) (hc : P.cellsOf e = 1)
    (xs ys : Array Value) (f g : Nat → Int) (h : ∀ i, i < n → xs[i]? = some (.int k (f i)) ∧ ys[i]? = some (.int k (g i))) :
    (Op.equalIn (d + 2) t (.agg xs) (.agg ys)).run P w = .ok ((List.range n).all fun i => f i == g i) w := by
  rw [run_equalIn_array w (d + 1) xs ys hu hi, hc]
  exact eqItems_ints w d he xs ys f g _ (fun i hx => h i (by simpa using hx))

end
end Go.Proofs.YteojkfbnenfmkaaDoor.ArrEq
