/- What the listed variable gives a walk: the table of constants, cell by cell; and a world that meets the condition. | Contracts of package ids as premises; slices of ids cut on both sides. No condition. | FrontLast's walk, over contracts: none of the last ones knows another one, together they know all, and they are few. No condition. -/
import Derived.Test.YtechkdhehipliaaGreatDoorCmFJ4
import Derived.Test.YtechkdhehipliaaGreatDoorRows
import Derived.ProofKit
import Derived.LaidMore
import Derived.OpenShut
import Derived.Stop.Joined
import Derived.Test.YtechkdhehipliaaGreatDoorDgCJ2
import Derived.Test.YtechkdhehipliaaGreatDoorDgGJ4
namespace Go.Proofs.YtechkdhehipliaaGreatDoor.ShaL
set_option maxRecDepth 100000
open Go.ChangeShapes Go.WideShapes Go.ChangeAt Go.RowKit RotM ShaM ShaE

/-- The list of the rows of this seat. -/
abbrev laid1 : List (String × DataW Unit) := [("anabranch/sha.constants", Rows.laid_anabranch_sha_constants)]
theorem gK : Tryz.prog.globalNamed "anabranch/sha.constants" = some 0 := by kernel_rfl
theorem tK : (Tryz.prog.globals[0]?).map (·.type) = some 133 := by kernel_rfl
theorem cells_u32 : Tryz.prog.cellsOf 114 = 1 := by kernel_rfl
theorem datum : (Rows.laid_anabranch_sha_constants : DataW Unit) = .agg ((List.range 64).map fun i => .lit (.int .u32 (u (kc i)))) := by kernel_rfl

/-- The door's own heap meets the condition. -/
theorem door_met (os : Os) (args : Array Value) : laidMetH Tryz.prog laid1 ((World.doorLaid Tryz.prog 14 os).forCall (fun _ _ => 0) ⟨#[], args, []⟩).memory :=
 laidMetH_of_parts3 (fuel := 8) (laidMet_of_run' 8 (by kernel_rfl) (by kernel_rfl)) (by kernel_rfl) (by kernel_rfl)

theorem of_laid {W : World} (h : laidMetH Tryz.prog laid1 W) : KIn W := by
 rw [MakeChecks.laidMetH_plain _ _ _ (by kernel_rfl)] at h
 obtain ⟨ps, ⟨g0, t0, cs0, f0, p0, q0, hg0, ht0, hv0, hd0, _⟩, _, _⟩ := h
 obtain rfl := Option.some.inj (gK.symm.trans hg0)
 obtain rfl := Option.some.inj (tK.symm.trans ht0)
 obtain ⟨xs, m, _, hx, hlen, hn, hel⟩ := DataW.trod_array Tryz.underlying133 hd0
 intro i hi
 have hc := World.var?_cell hg0 hv0 i
 have he := hel i hi
 rw [datum] at hx
 simp only [Prod.mk.injEq, DataW.agg.injEq] at hx
 obtain ⟨hx, _⟩ := hx
 have hxi := congrArg (fun l => l[i]?) hx
 have hlt : i < xs.length := by omega
 simp only [List.getElem?_map, List.getElem?_range hi, Option.map_some, List.getElem?_eq_getElem hlt, Option.some.injEq] at hxi
 rw [List.getElem?_eq_getElem hlt] at he
 obtain ⟨n, e1, e2, _⟩ := DataW.trod_int Tryz.underlying114 he
 rw [e2] at hxi
 simp only [DataW.lit.injEq, Lit.int.injEq, true_and] at hxi
 subst hxi
 rw [hc]
 rw [cells_u32, Nat.mul_one] at e1
 have e3 := congrArg (fun l => l[0]?) e1
 simpa using e3
end Go.Proofs.YtechkdhehipliaaGreatDoor.ShaL
namespace Go.Proofs.YtechkdhehipliaaGreatDoor.DhU
set_option maxRecDepth 100000
open Go Go.Sort Go.RowKit Byt IdM IdW IdX

theorem run_part_lh (w : World) (A : Option Addr) (len cap : Nat) (k k' : IntKind) (i j : Nat) (hij : i ≤ j) (hj : j ≤ cap) :
  (Instr.sliceAt 23 (.slice A len cap) (some (.int k i)) (some (.int k' j)) none).run Tryz.prog w = .ok (sliced A i j cap 32) w := by
 rw [run_sliceAt_slice w _ _ _ _ _ under_id, run_slice_lh w _ A len cap under_id k k' i j (by omega) (by omega) (by omega), size_id]
 simp [Result.andThen]
abbrev BothRet : Prop := ∀ (A A' : Option Addr) (cap cap' : Nat) (l l' : List Idn) (w : World), SlI w A cap l → SlI w A' cap' l' → l.length ≤ 500 → l'.length ≤ 500 → Calls Tryz.prog 29 #[.slice A l.length cap, .slice A' l'.length cap'] w (NewI (both l l') w)
abbrev CommonRet : Prop := ∀ (A A' : Option Addr) (cap cap' : Nat) (l l' : List Idn) (w : World), SlI w A cap l → SlI w A' cap' l' → l.length ≤ 500 → l'.length ≤ 500 → Calls Tryz.prog 30 #[.slice A l.length cap, .slice A' l'.length cap'] w (NewI (common l l') w)
theorem rising_short {l m : List Idn} (hl : Rising l) (h : ∀ x ∈ l, x ∈ m) : l.length ≤ m.length := by
 have hn := rising_nodup hl
 clear hl
 induction l generalizing m with
 | nil => exact Nat.zero_le _
 | cons x l ih =>
  rw [List.nodup_cons] at hn
  have h1 := ih (m := m.erase x) (fun y hy => by
   have hne : y ≠ x := fun e => hn.1 (by rw [← e]; exact hy)
   exact (List.mem_erase_of_ne hne).2 (h y (List.mem_cons_of_mem _ hy))) hn.2
  have hx := h x (by simp)
  rw [List.length_erase_of_mem hx] at h1
  have := List.length_pos_of_mem hx
  simp only [List.length_cons]
  omega
theorem common_short (a b : List Idn) : (common a b).length ≤ a.length := rising_short (rising_common a b) fun _ h => ((mem_common _ a b).1 h).1
end Go.Proofs.YtechkdhehipliaaGreatDoor.DhU
namespace Go.Proofs.YtechkdhehipliaaGreatDoor.FrL
set_option maxRecDepth 100000
open Go Go.Sort Go.RowKit Byt IdM IdW OpsM OpsW CmM StW CmW CmX CmY CmA DgM DgW DgR DgF DgG FrM FrN FrJ FrH FrU DhU
open Classical

theorem front_other {l : List Com} (_C : Closed hashK l) {i j : Nat} {x y : Idn} (hx : (front hashK l)[i]? = some x) (hy : (front hashK l)[j]? = some y) (hne : j ≠ i) : y ∉ anc hashK l [x] := by
 refine front_knows (List.mem_of_getElem? hy) fun e => hne ?_
 subst e
 exact DgX.nodup_at (rising_nodup (rising_front (H := hashK) l)) hy hx
theorem front_zero {l : List Com} (C : Closed hashK l) : (front hashK l).length = 0 ↔ l.length = 0 := by
 rw [List.length_eq_zero_iff, List.length_eq_zero_iff]
 exact front_nil C
set_option maxRecDepth 100000 in
set_option maxHeartbeats 32000000 in
theorem walk (X : Three) (F : Five) (HA : AwakeRet) (HS : SortRet) (a0 : Option Addr) (cap0 : Nat) (l0 : List Cv) (w : World) (S : SlK w a0 cap0 l0) (K : ShaE.KIn w) :
  Calls Tryz.prog 8 #[.slice a0 l0.length cap0] w fun e w' => e = .returned (.bool true) ∧ Below w.heap.size w w' := by
 have hmax := S.len
 have b := Below.refl w.heap.size w
 go_enter Tryz.func8, Tryz.ntmps8
 have qs := HA _ K
 go_wp2_with (first | go_skip)
 refine qs.mono ?_
 clear qs
 rintro e wx ⟨rfl, kx⟩
 have S' := S.below kx
 have K' := K.below kx
 have b' := b.trans (kx.mono b.size)
 clear S K b kx
 have S := S'
 have K := K'
 have b := b'
 clear S' K' b'
 go_wp2_with (first | go_skip)
 obtain ⟨f, hf⟩ : ∃ f, fewD (coms l0) 10 = f := ⟨_, rfl⟩
 have qs := DgR.few_ret a0 cap0 l0 10 _ S
 rw [hf] at qs
 refine qs.mono ?_
 clear qs
 rintro e w2 ⟨rfl, kx⟩
 have S' := S.below kx
 have K' := K.below kx
 have b' := b.trans (kx.mono b.size)
 clear S K b kx
 have S := S'
 have K := K'
 have b := b'
 clear S' K' b'
 cases f with
 | false =>
  go_wp2_with (first | go_skip)
  go_ret
  exact ⟨rfl, b⟩
 | true =>
  obtain ⟨ho, hl⟩ := okay_few (fun v hv => (S.each v hv).2) hf
  have hl2 : l0.length ≤ 1000 := by omega
  have hl1 : l0.length ≤ 100 := by omega
  have HO := aside ho
  clear ho hf
  have qs0 := X.closed a0 cap0 l0 _ S HO.out hl2 K
  by_cases hC : Closed hashK (coms l0)
  case neg =>
   rw [decide_eq_false hC] at qs0
   go_wp2_with (first | go_skip)
   refine qs0.mono ?_
   rintro e wx ⟨rfl, kx⟩
   clear qs0
   go_wp2_with (first | go_skip)
   go_ret
   exact ⟨rfl, b.trans (kx.mono b.size)⟩
  case pos =>
   rw [decide_eq_true hC] at qs0
   have HC := aside hC
   clear hC
   have qs := qs0
   go_wp2_with (first | go_skip)
   refine qs.mono ?_
   clear qs
   rintro e wx ⟨rfl, kx⟩
   clear qs0
   have S' := S.below kx
   have K' := K.below kx
   have b' := b.trans (kx.mono b.size)
   clear S K b kx
   have S := S'
   have K := K'
   have b := b'
   clear S' K' b'
   have hlc := coms_len l0
   have e1 := front_few HC.out
   have e2 := anc_front HC.out
   have e3 := front_zero HC.out
   have e4 := fun i j x y => front_other (l := coms l0) HC.out (i := i) (j := j) (x := x) (y := y)
   have e5 := risesB_of_rising (rising_front (H := hashK) (coms l0))
   have e6 := front_of HC.out
   have e7 := all_ids HC.out
   obtain ⟨f, hf⟩ : ∃ f, front hashK (coms l0) = f := ⟨_, rfl⟩
   obtain ⟨all, hal⟩ : ∃ all, (coms l0).map hashK = all := ⟨_, rfl⟩
   have hall : all.length ≤ 1000 := by rw [← hal, List.length_map]; omega
   obtain ⟨so, hso⟩ : ∃ so, IdM.sort all = so := ⟨_, rfl⟩
   rw [hf] at e1 e3 e5 e6
   simp only [hf] at e4
   rw [hf, hal, hso] at e2
   rw [hal] at e7
   rw [hlc] at e3
   have E2 := aside e2
   have E3 := aside e3
   have E4 := aside e4
   have E5 := aside e5
   have E6 := aside e6
   have E7 := aside e7
   clear e2 e3 e4 e5 e6 e7 hf hal hlc
   have qs := F.front a0 cap0 l0 _ S HO.out hl1 K
   rw [E6.out] at qs
   go_wp2_with (first | go_skip)
   refine qs.mono ?_
   clear qs
   rintro e wx ⟨A4, c4', rfl, U, kx⟩
   have S' := S.below kx
   have K' := K.below kx
   have b' := b.trans (kx.mono b.size)
   clear S K b kx
   have S := S'
   have K := K'
   have b := b'
   clear S' K' b'
   have qs := X.anc a0 A4 cap0 c4' l0 f _ S U HO.out hl2 (by omega) K
   rw [anc_of HC.out, E2.out] at qs
   go_wp2_with (first | go_skip)
   refine qs.mono ?_
   clear qs
   rintro e wx ⟨A5, c5', rfl, V, kx⟩
   have S' := S.below kx
   have K' := K.below kx
   have U' := U.below kx
   have b' := b.trans (kx.mono b.size)
   clear S K U b kx
   have S := S'
   have K := K'
   have U := U'
   have b := b'
   clear S' K' U' b'
   have qs := X.ids a0 cap0 l0 _ S HO.out hl2 K
   rw [E7.out] at qs
   go_wp2_with (first | go_skip)
   refine qs.mono ?_
   clear qs
   rintro e wx ⟨A6, c6', rfl, Y, kx⟩
   have S' := S.below kx
   have K' := K.below kx
   have U' := U.below kx
   have V' := V.below kx
   have b' := b.trans (kx.mono b.size)
   clear S K U V b kx
   have S := S'
   have K := K'
   have U := U'
   have V := V'
   have b := b'
   clear S' K' U' V' b'
   have qs0 := HS A6 c6' all _ Y hall
   unfold NewI at qs0
   rw [hso] at qs0
   have qs := qs0
   go_wp2_with (first | go_skip)
   refine qs.mono ?_
   clear qs
   rintro e wx ⟨v6, rfl, o6, kx⟩
   clear qs0
   obtain ⟨A7, c7', rfl, Z⟩ := SlI.own o6
   clear o6 Y
   have S' := S.below kx
   have K' := K.below kx
   have U' := U.below kx
   have V' := V.below kx
   have b' := b.trans (kx.mono b.size)
   clear S K U V b kx
   have S := S'
   have K := K'
   have U := U'
   have V := V'
   have b := b'
   clear S' K' U' V' b'
   have qs := IdV.same_ret A5 A7 c5' c7' so so _ V Z
   rw [decide_eq_true rfl] at qs
   go_wp2_with (first | go_skip)
   refine qs.mono ?_
   clear qs
   rintro e wx ⟨rfl, kx⟩
   clear V Z hso
   have S' := S.below kx
   have K' := K.below kx
   have U' := U.below kx
   have b' := b.trans (kx.mono b.size)
   clear S K U b kx
   have S := S'
   have K := K'
   have U := U'
   have b := b'
   clear S' K' U' b'
   have qs0 := IdV.rises_ret A4 c4' f _ U
   rw [E5.out] at qs0
   have p8 : ¬ (8 : Int) < f.length := by omega
   have hz := E3.out
   by_cases h0 : l0.length = 0
   case pos =>
    obtain rfl : f = [] := List.eq_nil_of_length_eq_zero (hz.2 h0)
    obtain rfl : l0 = [] := List.eq_nil_of_length_eq_zero h0
    clear hz h0
    have qs0 : Calls Tryz.prog 47 #[.slice A4 0 c4'] wx _ := qs0
    go_wp2_with (first | go_skip)
    refine qs0.mono ?_
    rintro e wy ⟨rfl, ky⟩
    go_wp2_with (first | go_skip)
    have b0 := Below.refl wy.heap.size wy
    go_loopw [7] (fun i wr => i = .int .i64 0 ∧ Below wy.heap.size wy wr) (fun i _ => 0)
    case atStart => exact ⟨rfl, b0⟩
    case round =>
     clear b0
     rename World => wq
     obtain ⟨rfl, kc⟩ := hrel
     go_wp2_with (first | go_skip)
     go_ret
     exact ⟨rfl, (b.trans (ky.mono b.size)).trans (kc.mono (b.trans (ky.mono b.size)).size)⟩
   case neg =>
    have h1 : ¬ f.length = 0 := fun h => h0 (hz.1 h)
    have p1 : ((f.length : Int) == 0) = false := by simp only [beq_eq_false_iff_ne]; omega
    have p2 : ((l0.length : Int) == 0) = false := by simp only [beq_eq_false_iff_ne]; omega
    clear hz
    have qs := qs0
    go_wp2_with (first | go_skip)
    refine qs.mono ?_
    clear qs
    rintro e wx ⟨rfl, kx⟩
    clear qs0 p1 p2
    have S' := S.below kx
    have K' := K.below kx
    have U' := U.below kx
    have b' := b.trans (kx.mono b.size)
    clear S K U b kx
    have S := S'
    have K := K'
    have U := U'
    have b := b'
    clear S' K' U' b'
    go_wp2_with (first | go_skip)
    have b0 := Below.refl wx.heap.size wx
    go_loopw [7] (fun i wr => ∃ k : Nat, k ≤ f.length ∧ i = .int .i64 k ∧ Below wx.heap.size wx wr) (fun i _ => f.length - (intOf i).toNat)
    case atStart => exact ⟨0, Nat.zero_le _, rfl, b0⟩
    case round =>
     clear b0
     rename World => wp
     obtain ⟨k, hk, rfl, kc⟩ := hrel
     by_cases hlt : k < f.length
     case neg =>
      have pn : ¬ (k : Int) < f.length := by omega
      go_wp2_with (first | go_skip)
      go_ret
      exact ⟨rfl, b.trans (kc.mono b.size)⟩
     case pos =>
      obtain ⟨x, hx⟩ : ∃ x, f[k]? = some x := ⟨_, List.getElem?_eq_getElem hlt⟩
      have pk : (k : Int) < f.length := by omega
      have HX := aside hx
      clear hx
      go_wp2_with (first | go_skip)
      have b1 := Below.refl wp.heap.size wp
      go_loopw [8] (fun i wr => ∃ j : Nat, j ≤ f.length ∧ i = .int .i64 j ∧ Below wp.heap.size wp wr) (fun i _ => f.length - (intOf i).toNat)
      case atStart => exact ⟨0, Nat.zero_le _, rfl, b1⟩
      case round =>
       clear b1
       rename World => wq
       obtain ⟨j, hj, rfl, kd⟩ := hrel
       have ke := kc.trans (kd.mono kc.size)
       by_cases hjl : j < f.length
       case neg =>
        have pj : ¬ (j : Int) < f.length := by omega
        go_wp2_with (first | go_skip)
        go_roundw
        case rel => exact ⟨k + 1, by omega, by go_num, ke⟩
        case measure => simp [intOf]; omega
       case pos =>
        have pj : (j : Int) < f.length := by omega
        have mj : ((j : Int)).toNat = j := by omega
        have S1 := S.below ke
        have U1 := U.below ke
        have K1 := K.below ke
        have bq := b.trans (ke.mono b.size)
        obtain ⟨ba, oa, rfl, _, hra⟩ := SlI.plain U1 (by omega)
        obtain ⟨y, hy⟩ : ∃ y, f[j]? = some y := ⟨_, List.getElem?_eq_getElem hjl⟩
        have ra := hra j hjl
        rw [show f.getD j nought = y by rw [List.getD_eq_getElem?_getD, hy]; rfl] at ra
        clear hra
        have hw1 : IntKind.i64.wrap ((k : Int) + 1) = ((k + 1 : Nat) : Int) := by rw [IntKind.wrap_i64]; omega
        obtain ⟨sA, sc, es, P3, hpl⟩ := IdX.SlI.part U1 k (k + 1) (by omega) (by omega)
        have hdt : (f.drop k).take (k + 1 - k) = [x] := by
         rw [show k + 1 - k = 1 by omega, List.drop_eq_getElem_cons hlt, List.take_succ_cons, List.take_zero]
         congr 1
         exact (List.getElem?_eq_some_iff.1 HX.out).2
        rw [hdt] at P3
        have hsl : ∀ V, (Instr.sliceAt 23 (.slice (some ⟨ba, oa, none⟩) f.length c4') (some (.int .i64 (k : Int))) (some (.int .i64 ((k : Int) + 1))) none).run Tryz.prog V = .ok (.slice sA 1 sc) V := fun V' => by
         have := DhU.run_part_lh V' (some ⟨ba, oa, none⟩) f.length c4' .i64 .i64 k (k + 1) (by omega) (by have := U1.1; omega)
         rw [es, show k + 1 - k = 1 by omega] at this
         exact this
        have Q := P3
        clear hdt es P3 hpl U1 ke
        by_cases hjk : j = k
        case pos =>
         have hg : ((j : Int) != (k : Int)) = false := by simp [hjk]
         clear hjk
         clear hy
         go_wp2_with (first | go_skip)
         refine Grow.region [(0, true), (1, true), (2, true), (3, true), (4, true), (5, true), (6, true), (7, true), (8, true), (9, true), (11, true), (12, true), (13, true), (14, true), (10, false), (15, false), (16, true)] (by kernel_rfl) (by kernel_rfl) rfl (by kernel_rfl) (by intro c a d v w h; cases d <;> exact h) ?_
         have kx := below_drew1 (Below.refl wq.heap.size wq)
         have ra := IdW.range_below ra kx
         have kd := kd.trans (kx.mono kd.size)
         have S1' := S1.below kx
         have Q' := Q.below kx
         have K1' := K1.below kx
         have bq' := bq.trans (kx.mono bq.size)
         clear S1 Q K1 bq kx
         have S1 := S1'
         have Q := Q'
         have K1 := K1'
         have bq := bq'
         clear S1' Q' K1' bq'
         generalize wq.drew = wz at S1 Q K1 bq ra kd ⊢
         (try simp only [Act.put, List.setIfInBounds_toArray, List.set_cons_succ, List.set_cons_zero])
         repeat (first | (refine IdV.reads_id rfl rfl _ rfl _ _ rfl y ra ?_; simp only [Act.put, List.setIfInBounds_toArray, List.set_cons_succ, List.set_cons_zero]) | (refine Grow.reads rfl rfl ?_; go_big_quiet_want; refine CmA.quiet_id _ rfl _ _ rfl y ra ?_; go_big_quiet_on; refine wpQuiet_nil ?_; (try simp only [Act.put, List.setIfInBounds_toArray, List.set_cons_succ, List.set_cons_zero])) | (refine Grow.reads rfl rfl ?_; go_big_quiet_step (fail); refine wpQuiet_nil ?_))
         refine Grow.acts rfl ?_
         go_wp2_with (first | go_skip)
         refine ⟨Below.refl _ _, ?_⟩
         (try simp only [Act.put, List.setIfInBounds_toArray, List.set_cons_succ, List.set_cons_zero])
         refine Grow.acts rfl ?_
         go_wp2_with (first | go_skip)
         refine ⟨Below.refl _ _, ?_⟩
         (try simp only [Act.put, List.setIfInBounds_toArray, List.set_cons_succ, List.set_cons_zero])
         repeat (first | (refine Grow.reads rfl rfl ?_; go_big_quiet_step (fail); refine wpQuiet_nil ?_))
         refine Grow.ends ?_
         go_wp2_with (first | go_skip)
         go_roundw
         case rel => exact ⟨j + 1, by omega, by go_num, kd⟩
         case measure => simp [intOf]; omega
        case neg =>
         have hg : ((j : Int) != (k : Int)) = true := by simp; omega
         have hkn := E4.out k j x y HX.out hy hjk
         clear hjk
         clear hy
         go_wp2_with (first | go_skip)
         refine Grow.region [(0, true), (1, true), (2, true), (3, true), (4, true), (5, true), (6, true), (7, true), (8, true), (9, true), (11, true), (12, true), (13, true), (14, true), (10, false), (15, false), (16, true)] (by kernel_rfl) (by kernel_rfl) rfl (by kernel_rfl) (by intro c a d v w h; cases d <;> exact h) ?_
         have kx := below_drew1 (Below.refl wq.heap.size wq)
         have ra := IdW.range_below ra kx
         have kd := kd.trans (kx.mono kd.size)
         have S1' := S1.below kx
         have Q' := Q.below kx
         have K1' := K1.below kx
         have bq' := bq.trans (kx.mono bq.size)
         clear S1 Q K1 bq kx
         have S1 := S1'
         have Q := Q'
         have K1 := K1'
         have bq := bq'
         clear S1' Q' K1' bq'
         generalize wq.drew = wz at S1 Q K1 bq ra kd ⊢
         (try simp only [Act.put, List.setIfInBounds_toArray, List.set_cons_succ, List.set_cons_zero])
         repeat (first | (refine IdV.reads_id rfl rfl _ rfl _ _ rfl y ra ?_; simp only [Act.put, List.setIfInBounds_toArray, List.set_cons_succ, List.set_cons_zero]) | (refine Grow.reads rfl rfl ?_; go_big_quiet_want; refine CmA.quiet_id _ rfl _ _ rfl y ra ?_; go_big_quiet_on; refine wpQuiet_nil ?_; (try simp only [Act.put, List.setIfInBounds_toArray, List.set_cons_succ, List.set_cons_zero])) | (refine Grow.reads rfl rfl ?_; go_big_quiet_step (fail); refine wpQuiet_nil ?_))
         have qs := X.anc a0 sA cap0 sc l0 [x] _ S1 Q HO.out hl2 (by simp) K1
         rw [anc_of HC.out] at qs
         unfold NewD at qs
         obtain ⟨D, hD⟩ : ∃ D, anc hashK (coms l0) [x] = D := ⟨_, rfl⟩
         rw [hD] at qs hkn
         have qs : Calls Tryz.prog 18 #[.slice a0 l0.length cap0, .slice sA 1 sc] _ _ := qs
         clear hD
         refine Grow.acts rfl ?_
         go_wp2_with (first | go_skip)
         refine qs.mono ?_
         clear qs
         rintro e wx2 ⟨A8, c8', rfl, Z, kx⟩
         go_wp2_with (first | go_skip)
         refine ⟨kx, ?_⟩
         have kd := kd.trans (kx.mono kd.size)
         have bq := bq.trans (kx.mono bq.size)
         (try simp only [Act.put, List.setIfInBounds_toArray, List.set_cons_succ, List.set_cons_zero])
         repeat (first | (refine Grow.reads rfl rfl ?_; go_big_quiet_step (fail); refine wpQuiet_nil ?_))
         have qs := IdV.has_ret A8 c8' D y _ Z
         rw [decide_eq_false hkn] at qs
         refine Grow.acts rfl ?_
         go_wp2_with (first | go_skip)
         refine qs.mono ?_
         clear qs
         rintro e wx3 ⟨rfl, kx3⟩
         go_wp2_with (first | go_skip)
         refine ⟨kx3, ?_⟩
         have kd := kd.trans (kx3.mono kd.size)
         (try simp only [Act.put, List.setIfInBounds_toArray, List.set_cons_succ, List.set_cons_zero])
         repeat (first | (refine Grow.reads rfl rfl ?_; go_big_quiet_step (fail); refine wpQuiet_nil ?_))
         refine Grow.ends ?_
         go_wp2_with (first | go_skip)
         go_roundw
         case rel => exact ⟨j + 1, by omega, by go_num, kd⟩
         case measure => simp [intOf]; omega
end Go.Proofs.YtechkdhehipliaaGreatDoor.FrL
