/- What sha.Sum returns: a contract. | What the document's answers to Pick, Most, Right and Four of package rot return: contracts. | What the document's answers to Long and Word of package rot return: contracts. | What the document's answers' twist, Constants, Start and words of package sha return: contracts. | What the document's answer's words of package sha returns: a contract. | What the document's answer's Block of package sha returns: contracts. | What the document's answer's Pad of package sha returns: a contract. | The contracts of the document's Four and Long once more, with the bytes named. | What the document's answer's Sum of package sha returns: a contract. -/
import Derived.Test.YtechkdhehipliaaDoorShaCJ4
import Derived.Test.YtechkdhehipliaaDoorCmFJ4
import Derived.Deep.RegionWith
import Derived.Test.YtechkdhehipliaaDoorRotCJ5
import Derived.BigRegion
import Derived.Laws.AppendOwn
import Derived.Laws.AppendOwnNone
import Derived.OwnWalk
namespace Go.Proofs.YtechkdhehipliaaDoor.ShaH
set_option maxRecDepth 100000
open Go.RowKit RotM RotN RotC RotD ShaM ShaC ShaD ShaE RotG Small PadM ShaF ShaG SumM

/-- The bytes of a content's sum. -/
def sumL (bs : List Int) : List Int := idL (hsum (padL bs) (nPad bs.length / 64)) 8
theorem sumL_length (bs : List Int) : (sumL bs).length = 32 := idL_length _ _

/-- Eight words written out. -/
theorem vals_out (h : H8) : h.vals = #[.int .u32 (u h.a), .int .u32 (u h.b), .int .u32 (u h.c), .int .u32 (u h.d), .int .u32 (u h.e), .int .u32 (u h.f), .int .u32 (u h.g), .int .u32 (u h.z)] := rfl
theorem block_out (h r : H8) (b off cap : Nat) (f : Nat → Int) (hf : ∀ i, B (f i)) (hcap : 64 ≤ cap) (hr : blockS h (wordsOf f) = r) (w : World) (hc : ∀ i, i < 64 → w.cell? ⟨b, off + i, none⟩ = some (.int .u8 (f i))) (hK : KIn w) :
    Calls Tryd.prog 56 #[.agg #[.int .u32 (u h.a), .int .u32 (u h.b), .int .u32 (u h.c), .int .u32 (u h.d), .int .u32 (u h.e), .int .u32 (u h.f), .int .u32 (u h.g), .int .u32 (u h.z)], .slice (some ⟨b, off, none⟩) 64 cap] w
      fun e w' => e = .returned (.tuple #[.agg #[.int .u32 (u r.a), .int .u32 (u r.b), .int .u32 (u r.c), .int .u32 (u r.d), .int .u32 (u r.e), .int .u32 (u r.f), .int .u32 (u r.g), .int .u32 (u r.z)], .bool true]) ∧ Below w.heap.size w w' := by
  subst hr
  exact block_yes h b off cap f hf hcap w hc hK

theorem set8 (r q : H8) : ((((((((r.vals.setIfInBounds 0 (.int .u32 (u q.a))).setIfInBounds 1 (.int .u32 (u q.b))).setIfInBounds 2 (.int .u32 (u q.c))).setIfInBounds 3 (.int .u32 (u q.d))).setIfInBounds 4 (.int .u32 (u q.e))).setIfInBounds 5 (.int .u32 (u q.f))).setIfInBounds 6 (.int .u32 (u q.g))).setIfInBounds 7 (.int .u32 (u q.z))) = q.vals := by kernel_rfl
theorem bv_all (l : List Int) : (bv l).toArray.all (·.oneCell') = true := by
  rw [Array.all_eq_true_iff_forall_mem]
  intro v hv
  exact bv_one _ v (by simpa using hv)
theorem hsum_succ {P : List Int} {k : Nat} {r q : H8} (hr : hsum P k = r) (hq : blockS r (wordsOf (blk P k)) = q) : hsum P (k + 1) = q := by
  subst hr
  exact hq

set_option maxHeartbeats 1000000 in
theorem sumW {w : World} {A : Option Addr} {len cap : Nat} {zs : List Int} (hr : RowIn.RowL .u8 w A len cap zs) (hl : len ≤ 1099511627776) (hK : KIn w) :
    Calls Tryd.prog 43 #[.slice A len cap] w fun e w' => e = .returned (.agg (bv (sumL (zs.take len))).toArray) ∧ Below w.heap.size w w' := by
  obtain ⟨bs, hbs⟩ : ∃ bs, zs.take len = bs := ⟨_, rfl⟩
  have hlen : bs.length = len := by
    have h1 := hr.1
    have h3 := hr.2.2.1
    rw [← hbs]; simp; omega
  have hB : ∀ x ∈ padL bs, B x := by
    refine padL_B (fun x hx => ?_) (by omega)
    rw [← hbs] at hx
    have := hr.2.2.2.1 x (List.mem_of_mem_take hx)
    simpa [B, Lit.wf, IntKind.min, IntKind.max, IntKind.bits, IntKind.signed] using this
  have HB := RotF.aside hB
  have hr1 := hr.below ((Below.refl _ _).alloc (Nat.le_refl _) (.cells (idV startS 0).toArray 43))
  have hp := padW hr1 hl
  rw [hbs] at hp
  rw [hbs]
  have hn1 := nPad_mod len
  have hn2 := nPad_hi len
  have hn3 := padL_length bs
  unfold sumL
  rw [hlen] at hn3
  rw [hlen]
  obtain ⟨P, hP⟩ : ∃ P, padL bs = P := ⟨_, rfl⟩
  obtain ⟨N, hN⟩ : ∃ N, nPad len = N := ⟨_, rfl⟩
  have e0 := idV_zero startS
  rw [e0, hP] at hp
  rw [hP] at hn3 HB
  rw [hN] at hn1 hn2 hn3
  rw [hP, hN]
  have HP := RotF.aside hp
  have HN3 := RotF.aside hn3
  have HN1 := RotF.aside hn1
  clear hB hr hr1 hlen hbs hp e0 hP hN hn3 hn1
  go_enter Tryd.func43, Tryd.ntmps43
  go_wp2_with fail
  refine HP.out.mono ?_
  rintro e w1 ⟨gp, rfl, hg1, Ap, k1⟩
  have A2 : At w1 w.heap.size (idV startS 0).toArray := by rw [idV_zero]; exact (At.new w _ _).below k1 (by simp)
  have hs : w.heap.size < gp := by simp at hg1; omega
  have kb : Below w.heap.size w w1 := Below.trans (by go_grown) (k1.mono (by simp))
  clear HP k1 hg1
  go_wp2_with fail
  refine (ShaC.start _).mono ?_
  rintro e w2 ⟨rfl, h2⟩
  have B2 := A2.below h2 A2.lt
  have Bp := Ap.below h2 Ap.lt
  have kc := kb.trans (h2.mono kb.size)
  clear A2 Ap kb h2
  have lp := Bp.lt
  go_wp2_with (refine wpList_store_last rfl 91 _ _ rfl _ _ _ 91 rfl _ rfl ?c1 rfl ?c2 ?c3 ?c4 ?_; (case c1 => simp); (case c2 => exact info8); (case c3 => rfl); (case c4 => exact one8 _))
  have n1 : w.heap.size ≠ w2.heap.size := by omega
  have n2 : gp ≠ w2.heap.size := by omega
  have n3 : w.heap.size ≤ w2.heap.size := by omega
  go_loopw [5] (fun i wr => ∃ k : Nat, 64 * k ≤ P.length ∧ i = .int .i64 (64 * (k : Int)) ∧ At wr w.heap.size (idV startS 0).toArray ∧ At wr gp (bv P).toArray ∧ At wr w2.heap.size (hsum P k).vals ∧ Below w.heap.size w wr) (fun i _ => P.length - (intOf i).toNat)
  case atStart => exact ⟨0, Nat.zero_le _, rfl, B2.alloc _, Bp.alloc _, At.new _ _ _, kc.alloc kc.size _⟩
  case round =>
    clear B2 Bp kc
    obtain ⟨k, hk, rfl, A2, Ap, A4, kb⟩ := hrel
    by_cases hlt : 64 * k < P.length
    · have hle : 64 * k + 64 ≤ P.length := by have := HN1.out; have := HN3.out; omega
      have hub : P.length ≤ 1099511627848 := by have := HN3.out; omega
      obtain ⟨r, hr⟩ : ∃ r, hsum P k = r := ⟨_, rfl⟩
      obtain ⟨q, hq⟩ : ∃ q, blockS r (wordsOf (blk P k)) = q := ⟨_, rfl⟩
      rw [hr] at A4
      have HR := RotF.aside hr
      have HQ := RotF.aside hq
      clear hr hq
      have c0 : wr.cell? ⟨w2.heap.size, 0, none⟩ = some (.int .u32 (u r.a)) := A4.cell 0
      have c1 : wr.cell? ⟨w2.heap.size, 1, none⟩ = some (.int .u32 (u r.b)) := A4.cell 1
      have c2 : wr.cell? ⟨w2.heap.size, 2, none⟩ = some (.int .u32 (u r.c)) := A4.cell 2
      have c3 : wr.cell? ⟨w2.heap.size, 3, none⟩ = some (.int .u32 (u r.d)) := A4.cell 3
      have c4 : wr.cell? ⟨w2.heap.size, 4, none⟩ = some (.int .u32 (u r.e)) := A4.cell 4
      have c5 : wr.cell? ⟨w2.heap.size, 5, none⟩ = some (.int .u32 (u r.f)) := A4.cell 5
      have c6 : wr.cell? ⟨w2.heap.size, 6, none⟩ = some (.int .u32 (u r.g)) := A4.cell 6
      have c7 : wr.cell? ⟨w2.heap.size, 7, none⟩ = some (.int .u32 (u r.z)) := A4.cell 7
      have m0 : (64 * (k : Int)) < (P.length : Int) := by omega
      have m1 : IntKind.i64.wrap (64 * (k : Int) + 64) = 64 * (k : Int) + 64 := IntWalk.i64_in _ (by omega)
      have m2 : 0 ≤ 64 * (k : Int) := by omega
      have m3 : (64 * (k : Int)).toNat = 64 * k := by omega
      have m4 : (64 * (k : Int) + 64).toNat = 64 * k + 64 := by omega
      have m5 : 64 * (k : Int) + 64 ≤ (P.length : Int) := by omega
      have m6 : 64 * (k : Int) ≤ 64 * (k : Int) + 64 := by omega
      have m7 : ¬ P.length = 64 * k := by omega
      have m8 : 64 * k + 64 - 64 * k = 64 := by omega
      have m9 : 0 ≤ 64 * (k : Int) + 64 := by omega
      go_wp2
      go_region_with ((go_at_call 56; (refine (block_out r q gp (64 * k) (P.length - 64 * k) (blk P k) (blk_B HB.out k) (by omega) HQ.out _ ?_ ?_).mono ?_; (exact fun i hi => blk_at (Ap.drew) k hle i hi); (exact KIn.below hK (below_drew1 kb)); rintro e w3 ⟨rfl, h3⟩; have d0 : w3.cell? ⟨w2.heap.size, 0, none⟩ = some (.int .u32 (u r.a)) := (A4.drew.below h3 A4.drew.lt).cell 0; have z0 := (A4.drew.below h3 A4.drew.lt).frozen 0; have d1 : w3.cell? ⟨w2.heap.size, 1, none⟩ = some (.int .u32 (u r.b)) := (A4.drew.below h3 A4.drew.lt).cell 1; have z1 := (A4.drew.below h3 A4.drew.lt).frozen 1; have d2 : w3.cell? ⟨w2.heap.size, 2, none⟩ = some (.int .u32 (u r.c)) := (A4.drew.below h3 A4.drew.lt).cell 2; have z2 := (A4.drew.below h3 A4.drew.lt).frozen 2; have d3 : w3.cell? ⟨w2.heap.size, 3, none⟩ = some (.int .u32 (u r.d)) := (A4.drew.below h3 A4.drew.lt).cell 3; have z3 := (A4.drew.below h3 A4.drew.lt).frozen 3; have d4 : w3.cell? ⟨w2.heap.size, 4, none⟩ = some (.int .u32 (u r.e)) := (A4.drew.below h3 A4.drew.lt).cell 4; have z4 := (A4.drew.below h3 A4.drew.lt).frozen 4; have d5 : w3.cell? ⟨w2.heap.size, 5, none⟩ = some (.int .u32 (u r.f)) := (A4.drew.below h3 A4.drew.lt).cell 5; have z5 := (A4.drew.below h3 A4.drew.lt).frozen 5; have d6 : w3.cell? ⟨w2.heap.size, 6, none⟩ = some (.int .u32 (u r.g)) := (A4.drew.below h3 A4.drew.lt).cell 6; have z6 := (A4.drew.below h3 A4.drew.lt).frozen 6; have d7 : w3.cell? ⟨w2.heap.size, 7, none⟩ = some (.int .u32 (u r.z)) := (A4.drew.below h3 A4.drew.lt).cell 7; have z7 := (A4.drew.below h3 A4.drew.lt).frozen 7; clear c0 c1 c2 c3 c4 c5 c6 c7)))
      all_goals
        have D2 := A2.drew.below h3 A2.drew.lt
        have Dp := Ap.drew.below h3 Ap.drew.lt
        have D4 := A4.drew.below h3 A4.drew.lt
        have kd : Below w.heap.size w w3 := (below_drew1 kb).trans (h3.mono kb.size)
        clear d0 d1 d2 d3 d4 d5 d6 d7 z0 z1 z2 z3 z4 z5 z6 z7 m1 m3 m4 m8 A2 Ap A4 kb h3
        go_wp2
        go_roundw
        case rel =>
          have S4 := (((((((D4.set 0 (.int .u32 (u q.a))).set 1 (.int .u32 (u q.b))).set 2 (.int .u32 (u q.c))).set 3 (.int .u32 (u q.d))).set 4 (.int .u32 (u q.e))).set 5 (.int .u32 (u q.f))).set 6 (.int .u32 (u q.g))).set 7 (.int .u32 (u q.z))
          rw [set8] at S4
          refine ⟨k + 1, by omega, by go_num, ?_, ?_, by rw [hsum_succ HR.out HQ.out]; exact S4, ?_⟩
          · iterate 8 refine At.set_other ?_ n1 _
            exact D2
          · iterate 8 refine At.set_other ?_ n2 _
            exact Dp
          · iterate 8 refine Below.setCell ?_ n3 _
            exact kd
        case measure => simp [intOf]; omega
    · have eN : k = N / 64 := by have := HN1.out; have := HN3.out; omega
      rw [eN] at A4
      clear eN
      go_wp2_with (first | (refine wpList_load_at rfl 91 _ rfl _ rfl _ _ A4 Tryd.underlying91 rfl ?c2 ?_; (case c2 => exact info8)) | fail)
      refine (join _ _).mono ?_
      rintro e w3 ⟨rfl, h3⟩
      have D2 := A2.below h3 A2.lt
      have kd := kb.trans (h3.mono kb.size)
      clear A2 Ap A4 kb h3
      go_wp2_with (refine wpList_store_at rfl 43 _ _ rfl _ _ rfl rfl _ D2 ?c2 ?c3 ?c4 ?_; (case c2 => rw [List.size_toArray, bv_length, idL_length]; exact info_id); (case c3 => rw [List.size_toArray, List.size_toArray, idV_length _ _ (by omega), bv_length, idL_length]); (case c4 => exact bv_all _))
      exact bodyPost_ret (v := .agg (bv (idL (hsum P (N / 64)) 8)).toArray) (results_at Tryd.results43 _ _ w.heap.size _ _ rfl (D2.row _) Tryd.underlying43 rfl (by rw [List.size_toArray, bv_length, idL_length]; exact info_id)) rfl ⟨rfl, below_row kd (Nat.le_refl _) _⟩
theorem sum {w : World} {A : Option Addr} {len cap : Nat} {zs : List Int} (hr : RowIn.RowIn .u8 w A len cap zs) (hl : len ≤ 1099511627776) (hK : KIn w) :
    Calls Tryd.prog 43 #[.slice A len cap] w fun e w' => e = .returned (.agg (bv (sumL (zs.take len))).toArray) ∧ Below w.heap.size w w' := sumW hr.weak hl hK
end Go.Proofs.YtechkdhehipliaaDoor.ShaH
namespace Go.Proofs.YtechkdhehipliaaDoor.RotC
set_option maxRecDepth 100000
open Go.RowKit RotM

end Go.Proofs.YtechkdhehipliaaDoor.RotC
namespace Go.Proofs.YtechkdhehipliaaDoor.RotD
set_option maxRecDepth 100000
open Go.RowKit RotM RotC

end Go.Proofs.YtechkdhehipliaaDoor.RotD
namespace Go.Proofs.YtechkdhehipliaaDoor.RefS
set_option maxRecDepth 100000
open Go.RowKit RotM RotN RotC RotD ShaM ShaC ShaD RotG Small




/-- The table of constants as an array. -/
def kcells : Array Value := Array.ofFn (n := 64) fun j => Value.int .u32 (u (kc j.val))
theorem kcells_size : kcells.size = 64 := by simp [kcells]
theorem kcells_at {j : Nat} (hj : j < 64) : kcells[j]? = some (.int .u32 (u (kc j))) := by simp [kcells, hj]
theorem kcells_one : kcells.all (·.oneCell') = true := by
  rw [Array.all_eq_true_iff_forall_mem]
  intro v hv
  obtain ⟨i, rfl⟩ := Array.mem_ofFn.1 hv
  rfl

theorem info64 : (Tryd.prog.info? 119).map (·.size) = some 64 := by kernel_rfl
end Go.Proofs.YtechkdhehipliaaDoor.RefS
namespace Go.Proofs.YtechkdhehipliaaDoor.RefT
set_option maxRecDepth 100000
open Go.RowKit RotM RotN RotC RotD ShaM ShaD RotG Small RefS

theorem wd_sum' (a b x y : BitVec 32) : (u a + u b + u (rotr x 7 ^^^ rotr x 18 ^^^ x >>> 3) + u (rotr y 17 ^^^ rotr y 19 ^^^ y >>> 10)) % 4294967296 = u (a + b + s0 x + s1 y) := by
  rw [sum4]
  rfl

end Go.Proofs.YtechkdhehipliaaDoor.RefT
namespace Go.Proofs.YtechkdhehipliaaDoor.RefU
set_option maxRecDepth 100000
open Go.RowKit RotM RotN RotC RotD ShaM ShaD RotG Small RefS RefT

theorem quietS {P : Program} {f : FuncId} {args : Array Value} {w w1 : World} {n : Nat} {v : Value} (h : Calls P f args w1 fun e w' => e = .returned v ∧ w1 = w') (hw : w1 = w.drewN n) :
    Calls P f args w1 fun e w'' => e = .returned v ∧ ∃ m, w'' = w.drewN m :=
  h.mono fun _ _ ⟨he, hm⟩ => ⟨he, n, by rw [← hm, hw]⟩
theorem one8 (h : H8) : h.vals.all (·.oneCell') = true := by kernel_rfl
theorem info8 : (Tryd.prog.info? 91).map (·.size) = some 8 := by kernel_rfl
def z8 : H8 := ⟨0, 0, 0, 0, 0, 0, 0, 0⟩
/-- What comes into step k of a block. -/
def inW (m : Nat → BitVec 32) (k : Nat) : BitVec 32 := kc k + wd m k


/-- What stands in memory inside Block's first loop. -/
structure Inv (w : World) (g6 g7 g8 : Nat) (h v : H8) (m : Nat → BitVec 32) (wr : World) : Prop where
  a2 : At wr w.heap.size h.vals
  a4 : At wr (w.heap.size + 1) z8.vals
  a6 : At wr g6 kcells
  a7 : At wr g7 (sp m 64)
  a8 : At wr g8 v.vals
  kb : Below w.heap.size w wr
theorem Inv.drewN {w : World} {g6 g7 g8 : Nat} {h v : H8} {m : Nat → BitVec 32} {wr : World} (i : Inv w g6 g7 g8 h v m wr) (n : Nat) : Inv w g6 g7 g8 h v m (wr.drewN n) :=
  ⟨i.a2, i.a4, i.a6, i.a7, i.a8, below_drew i.kb n⟩
theorem Inv.named {w : World} {g6 g7 g8 : Nat} {h v : H8} {m : Nat → BitVec 32} {wr : World} (i : Inv w g6 g7 g8 h v m wr) (n : Nat) : ∃ W, wr.drewN n = W ∧ Inv w g6 g7 g8 h v m W := ⟨_, rfl, i.drewN n⟩


theorem ref6 (z t p k w s m : BitVec 32) : (u z + u t + u p + u k + u w + (u s + u m)) % 4294967296 = u (z + t + p + (k + w) + (s + m)) := by
  unfold u
  simp only [BitVec.toNat_add]
  omega
theorem ref5 (d z t p k w : BitVec 32) : (u d + (u z + u t + u p + u k + u w)) % 4294967296 = u (d + (z + t + p + (k + w))) := by
  unfold u
  simp only [BitVec.toNat_add]
  omega


end Go.Proofs.YtechkdhehipliaaDoor.RefU
namespace Go.Proofs.YtechkdhehipliaaDoor.RefV
set_option maxRecDepth 100000
open Go.RowKit RotM RotN RotC RotD RotG Small PadM ShaF

theorem grown_of_below {w w' : World} (hb : Below w.heap.size w w') (row : Option Nat) : w.grownBy w' row := ⟨hb.os, hb.tape, hb.output, hb.size, fun i hi _ => hb.block i hi⟩
theorem owns_below {w w' : World} {base : Nat} {e : TypeId} {size : Nat} {v : Value} {n : Nat} {xs : List Value} (h : w.ownsRow base e size v n xs) (hb : Below w.heap.size w w') : w'.ownsRow base e size v n xs :=
  h.kept (grown_of_below hb none) (by cases hv : v.ownBlock <;> simp)
theorem below_grown {B : Nat} {w0 w w' : World} {row : Option Nat} (hb : Below B w0 w) (hB : B ≤ w.heap.size) (hg : w.grownBy w' row) (hr : ∀ k, row = some k → B ≤ k) : Below B w0 w' :=
  hb.trans ⟨hg.os, hg.tape, hg.output, hg.size, fun k hk => hg.block k (by omega) (fun e => by have := hr k e.symm; omega)⟩
theorem owns_out {w : World} {base n : Nat} {e : TypeId} {v : Value} {xs : List Value} (h : w.ownsRow base e 1 v n xs) (hn : 0 < n) : ∃ g cap, v = .slice (some ⟨g, 0, none⟩) n cap ∧ base ≤ g ∧ n ≤ cap ∧ cap ≤ maxLen ∧ g < w.heap.size := by
  have hlt := h.lt
  rcases h.2 with ⟨_, h0⟩ | ⟨g, cap, cur, rfl, hb, hg, h1, h2, _⟩
  · omega
  · exact ⟨g, cap, rfl, hb, h1, h2, (hlt g rfl).2⟩

theorem src_at_of {w : World} {x : Addr} {len cap : Nat} {zs : List Int} (hc : ∀ i, i < zs.length → w.cell? (x.add i) = some (.int .u8 (zs.getD i 0))) (_h1 : len ≤ cap) (_h3 : len ≤ zs.length ∧ zs.length ≤ cap) (j : Nat) (v : Value) (hv : (bv (zs.take len))[j]? = some v) : w.cell? (x.add j) = some v := by
  have hj : j < (zs.take len).length := by
    have := (List.getElem?_eq_some_iff.1 hv).1
    simpa [bv] using this
  have hj2 : j < len ∧ j < zs.length := by simp at hj; omega
  rw [bv_at _ hj] at hv
  rw [hc j hj2.2, ← hv]
  congr 2
  rw [List.getD_eq_getElem?_getD, List.getD_eq_getElem?_getD, List.getElem?_take, if_pos hj2.1]
/-- 'append' of a slice of bytes that came in, nil or not. -/
theorem wpList_append_in {P : Program} {w : World} {ops : Array Oper} {rest : List Oper} {o : Oper} {a : Act} {Q : Exit → Act → World → Prop} (hgd : o.guard = none) (s x : Operand) (t : TypeId)
    (ho : o.op = .call { callee := .builtin .append, args := #[s, x], argTypes := #[t, t] })
    (base : Nat) (e : TypeId) (ht : P.underlying t = some (.slice e)) (hz : (P.info? e).map (fun i => (i.zero, i.size, i.bytes)) = some (some (.int .u8 0), 1, 1))
    (v : Value) (n : Nat) (xs : List Value) (hs : a.eval s = v) (hown : w.ownsRow base e 1 v n xs)
    (A : Option Addr) (m c : Nat) (zs : List Int) (hx : a.eval x = .slice A m c) (hr : RowIn.RowL .u8 w A m c zs)
    (h63 : n + m ≤ 1099511627900) (hbase : base ≤ w.heap.size)
    (h : ∀ v' w', w'.ownsRow base e 1 v' (n + m) (xs ++ bv (zs.take m)) → w.grownBy w' v.ownBlock → wpList P ops Q rest (a.put o.dst v') w') : wpList P ops Q (o :: rest) a w := by
  obtain ⟨i, hi, z0, z1, z2⟩ := info_parts hz
  obtain ⟨h1, h2, h3, h4, h5⟩ := hr
  rcases h5 with ⟨rfl, rfl, rfl⟩ | ⟨ad, rfl, hc⟩
  · refine wpList_append_own_none hgd s x t ho base e i 1 ht hi v n xs hs hown hx (h v w ?_ (grown_of_below (Below.refl _ _) _))
    simpa [bv] using hown
  · refine wpList_append_own w hgd s x t ho base e i (.int .u8 0) 1 1 ht hi z0 z1 z2 rfl (by decide) v n xs hs hown ad m c (bv (zs.take m)) hx (by rw [bv_length]; simp; omega) (src_at_of hc h1 h3) (bv_one _) (by unfold maxLen; omega) (by omega) hbase (fun v' w' a1 a2 _ => h v' w' a1 a2)

/-- 'append' of bytes that lie in a block of their own. -/
theorem wpList_append_at {P : Program} {w : World} {ops : Array Oper} {rest : List Oper} {o : Oper} {a : Act} {Q : Exit → Act → World → Prop} (hgd : o.guard = none) (s x : Operand) (t : TypeId)
    (ho : o.op = .call { callee := .builtin .append, args := #[s, x], argTypes := #[t, t] })
    (base : Nat) (e : TypeId) (ht : P.underlying t = some (.slice e)) (hz : (P.info? e).map (fun i => (i.zero, i.size, i.bytes)) = some (some (.int .u8 0), 1, 1))
    (v : Value) (n : Nat) (xs : List Value) (hs : a.eval s = v) (hown : w.ownsRow base e 1 v n xs)
    (g m c : Nat) (ls : List Int) (hx : a.eval x = .slice (some ⟨g, 0, none⟩) m c) (hm : ls.length = m) (hA : At w g (bv ls).toArray)
    (h63 : n + m ≤ 1099511627900) (hbase : base ≤ w.heap.size)
    (h : ∀ v' w', w'.ownsRow base e 1 v' (n + m) (xs ++ bv ls) → w.grownBy w' v.ownBlock → wpList P ops Q rest (a.put o.dst v') w') : wpList P ops Q (o :: rest) a w := by
  obtain ⟨i, hi, z0, z1, z2⟩ := info_parts hz
  refine wpList_append_own w hgd s x t ho base e i (.int .u8 0) 1 1 ht hi z0 z1 z2 rfl (by decide) v n xs hs hown ⟨g, 0, none⟩ m c (bv ls) hx (by rw [bv_length]; omega) (fun j u hu => ?_) (bv_one _) (by unfold maxLen; omega) (by omega) hbase (fun v' w' a1 a2 _ => h v' w' a1 a2)
  have hadd : (⟨g, 0, none⟩ : Addr).add j = ⟨g, j, none⟩ := by unfold Addr.add; split <;> simp_all
  rw [hadd, hA.cell j, ← hu]
  simp

/-- A new slice whose first cells are the bytes l. -/
def RowOut (l : List Int) (w : World) (e : Ending) (w' : World) : Prop :=
  ∃ g cap, e = .returned (.slice (some ⟨g, 0, none⟩) l.length cap) ∧ l.length ≤ cap ∧ cap ≤ maxLen ∧ w.heap.size ≤ g ∧ (∀ i, i < l.length → w'.cell? ⟨g, i, none⟩ = some (.int .u8 (l.getD i 0))) ∧ Below w.heap.size w w'
/-- How long a slice is. -/
def lenV : Value → Nat
  | .slice _ n _ => n
  | _ => 0

end Go.Proofs.YtechkdhehipliaaDoor.RefV
namespace Go.Proofs.YtechkdhehipliaaDoor.RotG
set_option maxRecDepth 100000
open Go.RowKit RotM RotC RotD RotN

end Go.Proofs.YtechkdhehipliaaDoor.RotG
namespace Go.Proofs.YtechkdhehipliaaDoor.RefW
set_option maxRecDepth 100000
open Go.RowKit RotM RotN RotC RotD ShaM ShaD RotG Small PadM ShaF ShaG SumM RefV ShaH

/-- A row whose first cells are the bytes l. -/
def CellsIn (w : World) (g : Nat) (l : List Int) : Prop := g < w.heap.size ∧ ∀ i, i < l.length → w.cell? ⟨g, i, none⟩ = some (.int .u8 (l.getD i 0))
theorem CellsIn.below {w w' : World} {g : Nat} {l : List Int} {k : Nat} (h : CellsIn w g l) (hb : Below k w w') (hg : g < k) : CellsIn w' g l :=
  ⟨Nat.lt_of_lt_of_le h.1 hb.size, fun i hi => (hb.cell (p := ⟨g, i, none⟩) hg).trans (h.2 i hi)⟩
theorem CellsIn.alloc {w : World} {g : Nat} {l : List Int} (h : CellsIn w g l) (o : Obj) : CellsIn (w.alloc o) g l := h.below ((Below.refl w.heap.size w).alloc (Nat.le_refl _) o) h.1
theorem CellsIn.drew {w : World} {g : Nat} {l : List Int} (h : CellsIn w g l) : CellsIn w.drew g l := h
theorem CellsIn.set_other {w : World} {g : Nat} {l : List Int} (h : CellsIn w g l) {a : Addr} (ha : g ≠ a.block) (v : Value) : CellsIn (w.setCell a v) g l := by
  have hb : Below (g + 1) (w.setCell a v) (w.setCell a v) := Below.refl _ _
  refine ⟨by simpa using h.1, fun i hi => ?_⟩
  rw [← h.2 i hi]
  exact World.cell?_of_block (heap_setCell_other w a g v ha)
theorem CellsIn.blk {w : World} {g : Nat} {P : List Int} (h : CellsIn w g P) (k : Nat) (hk : 64 * k + 64 ≤ P.length) (i : Nat) (hi : i < 64) : w.cell? ⟨g, 64 * k + i, none⟩ = some (.int .u8 (blk P k i)) := by
  rw [h.2 _ (by omega)]
  rfl


/-- The row of an id of which the first k words, and j bytes of the next one, are laid. -/
def idW (h : H8) (k j : Nat) : List Value := bv ((idL h k ++ (four8 (u (h.w k))).take j) ++ List.replicate (32 - 4 * k - j) 0)
theorem idW_none (h : H8) (k : Nat) : idW h k 0 = idV h k := by simp [idW, idV]
theorem idW_all (h : H8) (k : Nat) : idW h k 4 = idV h (k + 1) := by
  unfold idW idV
  rw [idL_succ, show (four8 (u (h.w k))).take 4 = four8 (u (h.w k)) from rfl, show 32 - 4 * k - 4 = 32 - 4 * (k + 1) by omega]
theorem set_behind (xs ys : List Int) (n : Nat) (hn : xs.length = n) (y v : Int) : (bv (xs ++ y :: ys)).toArray.setIfInBounds n (.int .u8 v) = (bv (xs ++ v :: ys)).toArray := by
  subst hn
  rw [List.setIfInBounds_toArray]
  congr 1
  simp [bv]
theorem idW_set (h : H8) (k j : Nat) (hk : k < 8) (hj : j < 4) : (idW h k j).toArray.setIfInBounds (4 * k + j) (.int .u8 ((four8 (u (h.w k))).getD j 0)) = (idW h k (j + 1)).toArray := by
  unfold idW
  rw [show 32 - 4 * k - j = (32 - 4 * k - (j + 1)) + 1 by omega, List.replicate_succ, set_behind _ _ _ (by rw [List.length_append, idL_length, List.length_take, four8_length]; omega)]
  congr 2
  rw [show (four8 (u (h.w k))).take (j + 1) = (four8 (u (h.w k))).take j ++ [(four8 (u (h.w k))).getD j 0] from by
    rcases (by omega : j = 0 ∨ j = 1 ∨ j = 2 ∨ j = 3) with rfl | rfl | rfl | rfl <;> rfl]
  simp
theorem idW_at (h : H8) (k j : Nat) (hk : k < 8) (hj : j < 4) : (idW h k j).toArray[4 * k + j]? = some (.int .u8 0) := by
  unfold idW
  rw [show 32 - 4 * k - j = (32 - 4 * k - (j + 1)) + 1 by omega, List.replicate_succ, List.getElem?_toArray, bv_at _ (by simp [idL_length, four8_length]; omega), List.getD_eq_getElem?_getD, List.getElem?_append_right (by rw [List.length_append, idL_length, List.length_take, four8_length]; omega)]
  rw [show 4 * k + j - (idL h k ++ (four8 (u (h.w k))).take j).length = 0 by rw [List.length_append, idL_length, List.length_take, four8_length]; omega]
  rfl
theorem four_at {w : World} {g : Nat} {a : Int} (A : At w g (fourV a)) (j : Nat) (hj : j < 4) : w.cell? ⟨g, j, none⟩ = some (.int .u8 ((four8 a).getD j 0)) := by
  rw [A.cell]
  rcases (by omega : j = 0 ∨ j = 1 ∨ j = 2 ∨ j = 3) with rfl | rfl | rfl | rfl <;> rfl
theorem info8 : (Tryd.prog.info? 91).map (·.size) = some 8 := by kernel_rfl
theorem one8 (h : H8) : h.vals.all (·.oneCell') = true := by kernel_rfl

theorem cells_lt {w : World} {g N : Nat} {P : List Int} (hN : P.length = N) (_hm : N % 64 = 0) (h0 : 0 < N) (h : ∀ i, i < P.length → w.cell? ⟨g, i, none⟩ = some (.int .u8 (P.getD i 0))) : g < w.heap.size := block_lt_of_cell (h 0 (by omega))

end Go.Proofs.YtechkdhehipliaaDoor.RefW
