/- ShaWhole returns true for every input, where the table of constants is as the program's text lays it: the sum is that of the blocks, one behind the other, and all its words are of the last one. No other condition. -/
import Derived.Test.YtfndeemngimjcaaDoorIdAt
import Derived.Test.YtfndeemngimjcaaDoorShaL
import Derived.Test.YtfndeemngimjcaaDoorCards
import Derived.Test.YtfndeemngimjcaaDoorTie
import Derived.ChangeOld
namespace Go.Proofs.YtfndeemngimjcaaDoor.shaWhole
open Go.ChangeShapes Go.WideShapes Go.ChangeAt Go.RowKit RotM RotN RotC RotD RotG Small ShaM ShaD ShaE ShaF ShaG ShaH ShaA PadM SumM IdAt

set_option maxHeartbeats 400000 in
theorem out (A : Option Addr) (len cap : Nat) (w : World) (hl : 200 < len) (hm : len ≤ 9223372036854775807) (hK : KIn w) :
    Calls Tryd.prog 6 #[.slice A len cap] w fun e w' => e = .returned (.bool true) ∧ Below w.heap.size w w' := by
  go_enter Tryd.func6, Tryd.ntmps6
  go_wp2_with fail
  refine (awake _ hK).mono ?_
  rintro e w1 ⟨rfl, k1⟩
  go_wp2_with fail
  go_ret
  exact ⟨rfl, k1⟩

theorem size_id (h : H8) : (bv (idL h 8)).toArray.size = 32 := by rw [List.size_toArray, bv_length, idL_length]

set_option maxHeartbeats 1000000 in
theorem within (A : Option Addr) (len cap : Nat) (zs : List Int) (w : World) (hr : RowIn.RowIn .u8 w A len cap zs) (hl : len ≤ 200) (hK : KIn w) :
    Calls Tryd.prog 6 #[.slice A len cap] w fun e w' => e = .returned (.bool true) ∧ Below w.heap.size w w' := by
  obtain ⟨bs, hbs⟩ : ∃ bs, zs.take len = bs := ⟨_, rfl⟩
  have hlen : bs.length = len := by
    have h1 := hr.1
    have h3 := hr.2.2.1
    rw [← hbs]; simp; omega
  have hB : ∀ x ∈ padL bs, B x := by
    refine padL_B (fun x hx => ?_) (by omega)
    rw [← hbs] at hx
    have := hr.2.2.2.1 x (List.mem_of_mem_take hx)
    simpa [B, Lit.wf, IntKind.min, IntKind.max, IntKind.bits, IntKind.signed] using this
  have hn1 := nPad_mod len
  have hn2 := nPad_hi len
  have hn3 := padL_length bs
  have hsum : ∀ W : World, Below w.heap.size w W → Calls Tryd.prog 10 #[.slice A len cap] W fun e w' => e = .returned (.agg (bv (sumL bs)).toArray) ∧ Below W.heap.size W w' := fun W hW => by
    have q := sum (hr.below hW) (by omega) (hK.below hW)
    rw [hbs] at q
    exact q
  have hpad : ∀ W : World, Below w.heap.size w W → Calls Tryd.prog 12 #[.slice A len cap] W (Fresh (padL bs) W) := fun W hW => by
    have q := pad (hr.below hW) (by omega)
    rw [hbs] at q
    exact q
  unfold sumL at hsum
  rw [hlen] at hn3 hsum
  obtain ⟨P, hP⟩ : ∃ P, padL bs = P := ⟨_, rfl⟩
  obtain ⟨N, hN⟩ : ∃ N, nPad len = N := ⟨_, rfl⟩
  rw [hP] at hn3 hB hsum hpad
  rw [hN] at hn1 hn2 hn3 hsum
  have HS := RotF.aside hsum
  have HP := RotF.aside hpad
  have HB := RotF.aside hB
  have HN3 := RotF.aside hn3
  have HN1 := RotF.aside hn1
  clear hB hr hlen hbs hP hN hn3 hn1 hsum hpad
  go_enter Tryd.func6, Tryd.ntmps6
  go_wp2_with fail
  refine (awake _ hK).mono ?_
  rintro e w1 ⟨rfl, k1⟩
  go_wp2_with fail
  refine (ShaC.start _).mono ?_
  rintro e w2 ⟨rfl, h2⟩
  have k2 := k1.trans (h2.mono k1.size)
  clear k1 h2
  go_wp2_with (refine wpList_store_last rfl 30 _ _ rfl _ _ _ 30 rfl _ rfl ?c1 rfl ?c2 ?c3 ?c4 ?_; (case c1 => simp); (case c2 => exact info8); (case c3 => rfl); (case c4 => exact one8 _))
  have k3 : Below w.heap.size w (w2.alloc (.cells startS.vals 30)) := k2.alloc k2.size _
  refine (HP.out _ k3).mono ?_
  rintro e w4 ⟨gp, rfl, hg4, Ap, h4⟩
  have A4 := (At.new w2 startS.vals 30).below h4 (by simp)
  have k4 := k3.trans (h4.mono k3.size)
  have hs2 := k2.size
  have n2 : gp ≠ w2.heap.size := by simp at hg4; omega
  clear k2 k3 h4 hg4
  go_wp2_with fail
  go_loopw [6] (fun i wr => ∃ k : Nat, 64 * k ≤ P.length ∧ i = .int .i64 (64 * (k : Int)) ∧ At wr gp (bv P).toArray ∧ At wr w2.heap.size (hsum P k).vals ∧ Below w.heap.size w wr) (fun i _ => P.length - (intOf i).toNat)
  case atStart => exact ⟨0, Nat.zero_le _, rfl, Ap, A4, k4⟩
  case round =>
    clear A4 Ap k4
    obtain ⟨k, hk, rfl, Ap, A4, kb⟩ := hrel
    have hub : P.length ≤ 272 := by have := HN3.out; omega
    by_cases hlt : 64 * k < P.length
    · have hle : 64 * k + 64 ≤ P.length := by have := HN1.out; have := HN3.out; omega
      obtain ⟨r, hr⟩ : ∃ r, hsum P k = r := ⟨_, rfl⟩
      obtain ⟨q, hq⟩ : ∃ q, blockS r (wordsOf (blk P k)) = q := ⟨_, rfl⟩
      rw [hr] at A4
      have HR := RotF.aside hr
      have HQ := RotF.aside hq
      clear hr hq
      have c0 : wr.cell? ⟨w2.heap.size, 0, none⟩ = some (.int .u32 (u r.a)) := A4.cell 0
      have c1 : wr.cell? ⟨w2.heap.size, 1, none⟩ = some (.int .u32 (u r.b)) := A4.cell 1
      have c2 : wr.cell? ⟨w2.heap.size, 2, none⟩ = some (.int .u32 (u r.c)) := A4.cell 2
      have c3 : wr.cell? ⟨w2.heap.size, 3, none⟩ = some (.int .u32 (u r.d)) := A4.cell 3
      have c4 : wr.cell? ⟨w2.heap.size, 4, none⟩ = some (.int .u32 (u r.e)) := A4.cell 4
      have c5 : wr.cell? ⟨w2.heap.size, 5, none⟩ = some (.int .u32 (u r.f)) := A4.cell 5
      have c6 : wr.cell? ⟨w2.heap.size, 6, none⟩ = some (.int .u32 (u r.g)) := A4.cell 6
      have c7 : wr.cell? ⟨w2.heap.size, 7, none⟩ = some (.int .u32 (u r.z)) := A4.cell 7
      have m0 : (64 * (k : Int)) < (P.length : Int) := by omega
      have m1 : IntKind.i64.wrap (64 * (k : Int) + 64) = 64 * (k : Int) + 64 := IntWalk.i64_in _ (by omega)
      have m2 : 0 ≤ 64 * (k : Int) := by omega
      have m3 : (64 * (k : Int)).toNat = 64 * k := by omega
      have m4 : (64 * (k : Int) + 64).toNat = 64 * k + 64 := by omega
      have m5 : 64 * (k : Int) + 64 ≤ (P.length : Int) := by omega
      have m6 : 64 * (k : Int) ≤ 64 * (k : Int) + 64 := by omega
      have m7 : ¬ P.length = 64 * k := by omega
      have m8 : 64 * k + 64 - 64 * k = 64 := by omega
      have m9 : 0 ≤ 64 * (k : Int) + 64 := by omega
      have l4 := A4.lt
      go_wp2
      go_region_with ((go_at_call 14; (refine (block_out r q gp (64 * k) (P.length - 64 * k) (blk P k) (blk_B HB.out k) (by omega) HQ.out _ ?_ ?_).mono ?_; (exact fun i hi => blk_at (by first | exact Ap.drew | exact (Ap.alloc _).drew) k hle i hi); (first | exact KIn.below hK (below_drew1 kb) | exact KIn.below hK (below_drew1 (kb.alloc kb.size _))); rintro e w3 ⟨rfl, h3⟩; (first | (have Z := ((At.new wr z8.vals 30).drew).below h3 (by simp);  have d0 : w3.cell? ⟨wr.heap.size, 0, none⟩ = some (.int .u32 0) := Z.cell 0; have z0 := Z.frozen 0; have d1 : w3.cell? ⟨wr.heap.size, 1, none⟩ = some (.int .u32 0) := Z.cell 1; have z1 := Z.frozen 1; have d2 : w3.cell? ⟨wr.heap.size, 2, none⟩ = some (.int .u32 0) := Z.cell 2; have z2 := Z.frozen 2; have d3 : w3.cell? ⟨wr.heap.size, 3, none⟩ = some (.int .u32 0) := Z.cell 3; have z3 := Z.frozen 3; have d4 : w3.cell? ⟨wr.heap.size, 4, none⟩ = some (.int .u32 0) := Z.cell 4; have z4 := Z.frozen 4; have d5 : w3.cell? ⟨wr.heap.size, 5, none⟩ = some (.int .u32 0) := Z.cell 5; have z5 := Z.frozen 5; have d6 : w3.cell? ⟨wr.heap.size, 6, none⟩ = some (.int .u32 0) := Z.cell 6; have z6 := Z.frozen 6; have d7 : w3.cell? ⟨wr.heap.size, 7, none⟩ = some (.int .u32 0) := Z.cell 7; have z7 := Z.frozen 7) | skip); clear c0 c1 c2 c3 c4 c5 c6 c7)))
      · have Ax := At.new w3 q.vals 30
        have Ap5 := (Ap.drew.below h3 Ap.drew.lt).alloc (.cells q.vals 30)
        have A45 := (A4.drew.below h3 A4.drew.lt).alloc (.cells q.vals 30)
        have kd : Below w.heap.size w w3 := (below_drew1 kb).trans (h3.mono kb.size)
        have kd5 := kd.alloc kd.size (.cells q.vals 30)
        change At (w3.alloc (.cells #[.int .u32 (u q.a), .int .u32 (u q.b), .int .u32 (u q.c), .int .u32 (u q.d), .int .u32 (u q.e), .int .u32 (u q.f), .int .u32 (u q.g), .int .u32 (u q.z)] 30)) _ _ at Ax Ap5 A45
        change Below _ _ (w3.alloc (.cells #[.int .u32 (u q.a), .int .u32 (u q.b), .int .u32 (u q.c), .int .u32 (u q.d), .int .u32 (u q.e), .int .u32 (u q.f), .int .u32 (u q.g), .int .u32 (u q.z)] 30)) at kd5
        clear m1 m3 m4 m8 Ap A4 kb h3 kd
        generalize w3.alloc (.cells #[.int .u32 (u q.a), .int .u32 (u q.b), .int .u32 (u q.c), .int .u32 (u q.d), .int .u32 (u q.e), .int .u32 (u q.f), .int .u32 (u q.g), .int .u32 (u q.z)] 30) = W5 at *
        go_wp2_with (first | (refine wpList_load_at rfl 30 (.tmp 7) rfl _ rfl _ _ Ax Tryd.underlying30 rfl ?c2 ?_; (case c2 => exact info8)) | (refine wpList_store_at rfl 30 (.tmp 4) _ rfl _ _ rfl rfl _ A45 ?c2 ?c3 ?c4 ?_; (case c2 => exact info8); (case c3 => rfl); (case c4 => exact one8 _)))
        go_roundw
        case rel =>
          have S4 := A45.row q.vals
          exact ⟨k + 1, by omega, by go_num, Ap5.row_other n2 _, by rw [hsum_succ HR.out HQ.out]; exact S4, below_row kd5 hs2 _⟩
        case measure => simp [intOf]; omega
      all_goals
        have lp := Ap.lt
        have np : gp ≠ wr.heap.size := by omega
        have n4 : w2.heap.size ≠ wr.heap.size := by omega
        have n5 : w.heap.size ≤ wr.heap.size := kb.size
        have Ax := ((((((((Z.set 0 (.int .u32 (u q.a))).set 1 (.int .u32 (u q.b))).set 2 (.int .u32 (u q.c))).set 3 (.int .u32 (u q.d))).set 4 (.int .u32 (u q.e))).set 5 (.int .u32 (u q.f))).set 6 (.int .u32 (u q.g))).set 7 (.int .u32 (u q.z)))
        rw [set8] at Ax
        have Ap5 : At ((((((((w3.setCell ⟨wr.heap.size, 0, none⟩ (.int .u32 (u q.a))).setCell ⟨wr.heap.size, 1, none⟩ (.int .u32 (u q.b))).setCell ⟨wr.heap.size, 2, none⟩ (.int .u32 (u q.c))).setCell ⟨wr.heap.size, 3, none⟩ (.int .u32 (u q.d))).setCell ⟨wr.heap.size, 4, none⟩ (.int .u32 (u q.e))).setCell ⟨wr.heap.size, 5, none⟩ (.int .u32 (u q.f))).setCell ⟨wr.heap.size, 6, none⟩ (.int .u32 (u q.g))).setCell ⟨wr.heap.size, 7, none⟩ (.int .u32 (u q.z))) gp (bv P).toArray := by
          iterate 8 refine At.set_other ?_ np _
          exact (Ap.alloc _).drew.below h3 (Ap.alloc _).drew.lt
        have A45 : At ((((((((w3.setCell ⟨wr.heap.size, 0, none⟩ (.int .u32 (u q.a))).setCell ⟨wr.heap.size, 1, none⟩ (.int .u32 (u q.b))).setCell ⟨wr.heap.size, 2, none⟩ (.int .u32 (u q.c))).setCell ⟨wr.heap.size, 3, none⟩ (.int .u32 (u q.d))).setCell ⟨wr.heap.size, 4, none⟩ (.int .u32 (u q.e))).setCell ⟨wr.heap.size, 5, none⟩ (.int .u32 (u q.f))).setCell ⟨wr.heap.size, 6, none⟩ (.int .u32 (u q.g))).setCell ⟨wr.heap.size, 7, none⟩ (.int .u32 (u q.z))) w2.heap.size r.vals := by
          iterate 8 refine At.set_other ?_ n4 _
          exact (A4.alloc _).drew.below h3 (A4.alloc _).drew.lt
        have kd5 : Below w.heap.size w ((((((((w3.setCell ⟨wr.heap.size, 0, none⟩ (.int .u32 (u q.a))).setCell ⟨wr.heap.size, 1, none⟩ (.int .u32 (u q.b))).setCell ⟨wr.heap.size, 2, none⟩ (.int .u32 (u q.c))).setCell ⟨wr.heap.size, 3, none⟩ (.int .u32 (u q.d))).setCell ⟨wr.heap.size, 4, none⟩ (.int .u32 (u q.e))).setCell ⟨wr.heap.size, 5, none⟩ (.int .u32 (u q.f))).setCell ⟨wr.heap.size, 6, none⟩ (.int .u32 (u q.g))).setCell ⟨wr.heap.size, 7, none⟩ (.int .u32 (u q.z))) := by
          iterate 8 refine Below.setCell ?_ n5 _
          exact (below_drew1 (kb.alloc kb.size _)).trans (h3.mono (by simp; omega))
        clear d0 d1 d2 d3 d4 d5 d6 d7 z0 z1 z2 z3 z4 z5 z6 z7 m1 m3 m4 m8 Ap A4 kb h3 Z
        generalize ((((((((w3.setCell ⟨wr.heap.size, 0, none⟩ (.int .u32 (u q.a))).setCell ⟨wr.heap.size, 1, none⟩ (.int .u32 (u q.b))).setCell ⟨wr.heap.size, 2, none⟩ (.int .u32 (u q.c))).setCell ⟨wr.heap.size, 3, none⟩ (.int .u32 (u q.d))).setCell ⟨wr.heap.size, 4, none⟩ (.int .u32 (u q.e))).setCell ⟨wr.heap.size, 5, none⟩ (.int .u32 (u q.f))).setCell ⟨wr.heap.size, 6, none⟩ (.int .u32 (u q.g))).setCell ⟨wr.heap.size, 7, none⟩ (.int .u32 (u q.z))) = W5 at *
        go_wp2_with (first | (refine wpList_load_at rfl 30 (.tmp 7) rfl _ rfl _ _ Ax Tryd.underlying30 rfl ?c2 ?_; (case c2 => exact info8)) | (refine wpList_store_at rfl 30 (.tmp 4) _ rfl _ _ rfl rfl _ A45 ?c2 ?c3 ?c4 ?_; (case c2 => exact info8); (case c3 => rfl); (case c4 => exact one8 _)))
        go_roundw
        case rel =>
          have S4 := A45.row q.vals
          exact ⟨k + 1, by omega, by go_num, Ap5.row_other n2 _, by rw [hsum_succ HR.out HQ.out]; exact S4, below_row kd5 hs2 _⟩
        case measure => simp [intOf]; omega
    · have eN : k = N / 64 := by have := HN1.out; have := HN3.out; omega
      obtain ⟨h, hh⟩ : ∃ h, hsum P (N / 64) = h := ⟨_, rfl⟩
      rw [eN, hh] at A4
      have hq := HS.out wr kb
      rw [hh] at hq
      have HQ := RotF.aside hq
      have d64 : decide (64 * (k : Int) + 64 ≤ (P.length : Int)) = false := by simp; omega
      clear eN hh hq
      go_wp2_with fail
      refine HQ.out.mono ?_
      rintro e w3 ⟨rfl, h3⟩
      have B4 := A4.below h3 A4.lt
      have kd := kb.trans (h3.mono kb.size)
      have l4 := B4.lt
      clear A4 Ap kb h3 HQ HS HP HB
      go_wp2_with (refine wpList_store_last rfl 25 _ _ rfl _ _ _ 25 rfl _ rfl ?c1 rfl ?c2 ?c3 ?c4 ?_; (case c1 => simp); (case c2 => rw [size_id]; exact info_id); (case c3 => rw [size_id]; rfl); (case c4 => exact bv_all _))
      have A6 := At.new w3 (bv (idL h 8)).toArray 25
      have C4 := B4.alloc (.cells (bv (idL h 8)).toArray 25)
      have k3 := kd.alloc kd.size (.cells (bv (idL h 8)).toArray 25)
      generalize w3.alloc (.cells (bv (idL h 8)).toArray 25) = W at *
      clear B4 kd
      go_loopw [10] (fun i wr => ∃ k : Nat, k ≤ 8 ∧ i = .int .i64 k ∧ At wr w3.heap.size (bv (idL h 8)).toArray ∧ At wr w2.heap.size h.vals ∧ Below w.heap.size w wr) (fun i _ => 8 - (intOf i).toNat)
      case atStart => exact ⟨0, Nat.zero_le _, rfl, A6, C4, k3⟩
      case round =>
        clear A6 C4 k3 hlt hk d64
        obtain ⟨k, hk, rfl, A6, A5, kb⟩ := hrel
        by_cases hlt : k < 8
        · obtain ⟨b0, b1, b2, b3, r0, r1, r2, r3, e4, c0, c1, c2, c3⟩ := id_cells A6 k hlt
          have cK := (A5.cell k).trans (h.vals_at hlt)
          rw [← e4] at cK
          unfold four4 at cK
          unfold B at r0 r1 r2 r3
          clear e4
          have m0 : (4 * (k : Int)).toNat = 4 * k := by omega
          have m1 : (4 * (k : Int) + 1).toNat = 4 * k + 1 := by omega
          have m2 : (4 * (k : Int) + 2).toNat = 4 * k + 2 := by omega
          have m3 : (4 * (k : Int) + 3).toNat = 4 * k + 3 := by omega
          have o0 : 0 ≤ 4 * (k : Int) := by omega
          have o1 : 0 ≤ 4 * (k : Int) + 1 := by omega
          have o2 : 0 ≤ 4 * (k : Int) + 2 := by omega
          have o3 : 0 ≤ 4 * (k : Int) + 3 := by omega
          have p0 : 4 * (k : Int) < 32 := by omega
          have p1 : 4 * (k : Int) + 1 < 32 := by omega
          have p2 : 4 * (k : Int) + 2 < 32 := by omega
          have p3 : 4 * (k : Int) + 3 < 32 := by omega
          go_wp2
          go_quiet (fail)
          go_wp2
          go_roundw
          case rel => exact ⟨k + 1, by omega, by go_num, At.drewN A6 _, At.drewN A5 _, below_drew kb _⟩
          case measure => simp [intOf]; omega
        · go_wp2
          go_ret
          exact ⟨rfl, kb⟩

theorem walk (a0 : Option Addr) (len0 cap0 : Nat) (z0 : List Int) (w : World) (w0 : RowIn.RowIn .u8 w a0 len0 cap0 z0) (hK : KIn w) :
    Calls Tryd.prog 6 #[.slice a0 len0 cap0] w fun e w' => e = .returned (.bool true) ∧ Below w.heap.size w w' := by
  by_cases h : 200 < len0
  · have h1 := w0.1
    have h2 := w0.2.1
    unfold maxLen at h2
    exact out a0 len0 cap0 w h (by omega) hK
  · exact within a0 len0 cap0 z0 w w0 (by omega) hK

theorem own : ownKnob Tryd.prog.godebug = none := by kernel_rfl
theorem laidOut : laidOutB Tryd.prog = true := by kernel_rfl
set_option linter.unusedVariables false in
set_option maxRecDepth 100000 in
theorem lifted (os : Os) (started : os.Started) (H : Type) (enc : TypeId × Value → H) :
    ReturnsInHanded {} Tryd.checked os 6 .any (fun w args => (Rows.shaWholeSpec.pre enc Tryd.prog Tryd.f6 [] false w args ∧ laidMetH Tryd.prog ShaL.laid1 w) ∧ sizedMet enc Tryd.prog Tryd.f6 (OpenSpec.ofChange Rows.shaWholeSpec) false w args)
      (Rows.shaWholeSpec.post enc Tryd.prog Tryd.f6 false true false false) := by
  refine returnsInHanded_of_change_and (C := Tryd.checked) (X := fun w _ => laidMetH Tryd.prog ShaL.laid1 w) (fun _ _ _ hh h => h.of_heap hh) own started (by kernel_rfl) Tryd.func6
    (ChangeSpec.witness_shaped (enc := enc) (C := Tryd.checked) (os := os) (X := fun w _ => laidMetH Tryd.prog ShaL.laid1 w) false (World.doorLaid Tryd.prog 14 os) #[.slice none 0 0] 8 rfl (World.shaped_of_RefB (by kernel_rfl) (by kernel_rfl)) (by kernel_rfl) (by kernel_rfl) (by kernel_rfl) (ShaL.door_met os _)) ?_
  intro W base args ds gs before hval0 hW _ _ hL _
  have hval : ∀ (j : Nat) t v, Tryd.f6.params[j]? = some t → args[j]? = some v → Value.okWide Tryd.prog W .any base t v := hval0
  have hW' := hW
  obtain ⟨p, q, hA0, hV, rfl, hfz, hnd⟩ := hW
  have hA : DataW.TrodAll enc Tryd.prog W 0 (fun _ => true) true Tryd.f6.params.toList args.toList ds p := hA0
  rw [Tryd.params6] at hA hval
  obtain ⟨v0, vs0, d0, ds0, p0, q0, hargs, rfl, rfl, h0, r0⟩ := trodAll_cons hA
  obtain ⟨rfl, rfl, rfl⟩ := trodAll_nil r0
  obtain rfl : args = #[v0] := by cases args; simp_all
  obtain ⟨rfl, rfl⟩ := trodVars_none hV
  have k0 := h0
  have lt0 : ∀ x ∈ p0, x.block < W.heap.size := by obtain ⟨m, hm⟩ := k0; exact DataW.trod_lt m _ _ _ hm
  obtain ⟨a0, len0, cap0, z0, rfl, w0⟩ := RowIn.open_row Tryd.underlying22 Tryd.underlying5 (by kernel_rfl) (hval 0 22 v0 rfl rfl) h0
  clear hA0 hval0
  refine (walk a0 len0 cap0 z0 W w0 (ShaL.of_laid hL)).mono fun e W' ⟨he, bel⟩ => ?_
  subst he
  exact ⟨_, rfl, _, _, _, [], _, [], hW', trodAll_mk1 (shut_bool Tryd.underlying4 _), (trodAll_cons_mk (Below.trod laidOut (by kernel_rfl) (of_decide_eq_true (by kernel_rfl)) k0 bel lt0) trodAll_mk0), rfl, bel.frame _, fun h => by cases h⟩

theorem over : Rows.shaWholeRow.holds Tryd.pinned (OpenSpec.ofChange Rows.shaWholeSpec) :=
  OpenClaim.holds_of_wide 6 Tryd.f6 rfl rfl rfl rfl rfl rfl rfl ⟨rfl, rfl, rfl, rfl, rfl⟩ rfl rfl rfl rfl rfl (by kernel_rfl) Tryd.func6 (by kernel_rfl)
    (of_decide_eq_true (by kernel_rfl)) (by unfold Func.isWrapper; first | (rw [if_pos (by decide +kernel)]; kernel_rfl) | (rw [if_neg (by decide +kernel)]; exact ⟨rfl, rfl⟩))
    (fun os started H enc _ => lifted os started H enc)

theorem proved : Rows.ShaWholeCardSaid :=
  Claim7.holds_tied_plain_at .later [] Rows.shaWholeCard.laidKinds true Rows.shaWholeCard.stood.harness Rows.shaWholeCard.stood.looks
    over (fun _ h => by cases h) (by kernel_rfl) (fun _ h => by cases h) shaWhole_row_tie rfl ⟨rfl, rfl⟩ (by kernel_rfl) rfl
    (fun f fn hf hfn => by
      obtain rfl : f = 6 := Option.some.inj ((show Tryd.prog.funcNamed "anabranch/anabranchlaw02.ShaWhole" = some 6 by kernel_rfl).symm.trans hf) |>.symm
      obtain rfl : fn = Tryd.f6 := (Option.some.inj (Tryd.func6.symm.trans hfn)).symm
      exact ⟨by kernel_rfl, fun j t ht => by
        rw [Tryd.params6] at ht
        have hm : t ∈ [22] := by simpa using Array.mem_of_getElem? ht
        have hall : ([22].all fun u => !Tryd.prog.wantsStandIn u) = true := by kernel_rfl
        exact (show Tryd.prog.wantsStandIn t = false by simpa using List.all_eq_true.1 hall t hm)⟩)
    (by kernel_rfl)
end Go.Proofs.YtfndeemngimjcaaDoor.shaWhole
