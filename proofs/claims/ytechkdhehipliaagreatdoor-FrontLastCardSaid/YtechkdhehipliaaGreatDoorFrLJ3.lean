/- FrontLast's walk, over contracts: none of the last ones knows another one, together they know all, and they are few. No condition. | Parts of slices of structs, whatever their fields. No condition. | FrontSame's walk, over contracts: two that have the same commits, told in another order, have the same head, and its id. No condition. -/
import Derived.Test.YtechkdhehipliaaGreatDoorDgGJ4
import Derived.Test.YtechkdhehipliaaGreatDoorFrDJ3
import Derived.Test.YtechkdhehipliaaGreatDoorRowSJ3
import Derived.Test.YtechkdhehipliaaGreatDoorCmRJ3
namespace Go.Proofs.YtechkdhehipliaaGreatDoor.FrL
set_option maxRecDepth 100000
open Go Go.Sort Go.RowKit Byt IdM IdW OpsM OpsW CmM StW CmW CmX CmY CmA DgM DgW DgR DgF DgG FrM FrN FrJ FrH FrU DhU
open Classical

theorem front_other {l : List Com} (_C : Closed hashK l) {i j : Nat} {x y : Idn} (hx : (front hashK l)[i]? = some x) (hy : (front hashK l)[j]? = some y) (hne : j ≠ i) : y ∉ anc hashK l [x] := by
  refine front_knows (List.mem_of_getElem? hy) fun e => hne ?_
  subst e
  exact DgX.nodup_at (rising_nodup (rising_front (H := hashK) l)) hy hx
theorem front_zero {l : List Com} (C : Closed hashK l) : (front hashK l).length = 0 ↔ l.length = 0 := by
  rw [List.length_eq_zero_iff, List.length_eq_zero_iff]
  exact front_nil C
set_option maxRecDepth 100000 in
set_option maxHeartbeats 32000000 in
theorem walk (X : Three) (F : Five) (HA : AwakeRet) (HS : SortRet) (a0 : Option Addr) (cap0 : Nat) (l0 : List Cv) (w : World) (S : SlK w a0 cap0 l0) (K : ShaE.KIn w) :
    Calls Tryz.prog 8 #[.slice a0 l0.length cap0] w fun e w' => e = .returned (.bool true) ∧ Below w.heap.size w w' := by
  have hmax := S.len
  have b := Below.refl w.heap.size w
  go_enter Tryz.func8, Tryz.ntmps8
  have qs := HA _ K
  go_wp2_with (first | go_skip)
  refine qs.mono ?_
  clear qs
  rintro e wx ⟨rfl, kx⟩
  have S' := S.below kx
  have K' := K.below kx
  have b' := b.trans (kx.mono b.size)
  clear S K b kx
  have S := S'
  have K := K'
  have b := b'
  clear S' K' b'
  go_wp2_with (first | go_skip)
  obtain ⟨f, hf⟩ : ∃ f, fewD (coms l0) 10 = f := ⟨_, rfl⟩
  have qs := DgR.few_ret a0 cap0 l0 10 _ S
  rw [hf] at qs
  refine qs.mono ?_
  clear qs
  rintro e w2 ⟨rfl, kx⟩
  have S' := S.below kx
  have K' := K.below kx
  have b' := b.trans (kx.mono b.size)
  clear S K b kx
  have S := S'
  have K := K'
  have b := b'
  clear S' K' b'
  cases f with
  | false =>
    go_wp2_with (first | go_skip)
    go_ret
    exact ⟨rfl, b⟩
  | true =>
    obtain ⟨ho, hl⟩ := okay_few (fun v hv => (S.each v hv).2) hf
    have hl2 : l0.length ≤ 1000 := by omega
    have hl1 : l0.length ≤ 100 := by omega
    have HO := aside ho
    clear ho hf
    have qs0 := X.closed a0 cap0 l0 _ S HO.out hl2 K
    by_cases hC : Closed hashK (coms l0)
    case neg =>
      rw [decide_eq_false hC] at qs0
      go_wp2_with (first | go_skip)
      refine qs0.mono ?_
      rintro e wx ⟨rfl, kx⟩
      clear qs0
      go_wp2_with (first | go_skip)
      go_ret
      exact ⟨rfl, b.trans (kx.mono b.size)⟩
    case pos =>
      rw [decide_eq_true hC] at qs0
      have HC := aside hC
      clear hC
      have qs := qs0
      go_wp2_with (first | go_skip)
      refine qs.mono ?_
      clear qs
      rintro e wx ⟨rfl, kx⟩
      clear qs0
      have S' := S.below kx
      have K' := K.below kx
      have b' := b.trans (kx.mono b.size)
      clear S K b kx
      have S := S'
      have K := K'
      have b := b'
      clear S' K' b'
      have hlc := coms_len l0
      have e1 := front_few HC.out
      have e2 := anc_front HC.out
      have e3 := front_zero HC.out
      have e4 := fun i j x y => front_other (l := coms l0) HC.out (i := i) (j := j) (x := x) (y := y)
      have e5 := risesB_of_rising (rising_front (H := hashK) (coms l0))
      have e6 := front_of HC.out
      have e7 := all_ids HC.out
      obtain ⟨f, hf⟩ : ∃ f, front hashK (coms l0) = f := ⟨_, rfl⟩
      obtain ⟨all, hal⟩ : ∃ all, (coms l0).map hashK = all := ⟨_, rfl⟩
      have hall : all.length ≤ 1000 := by rw [← hal, List.length_map]; omega
      obtain ⟨so, hso⟩ : ∃ so, IdM.sort all = so := ⟨_, rfl⟩
      rw [hf] at e1 e3 e5 e6
      simp only [hf] at e4
      rw [hf, hal, hso] at e2
      rw [hal] at e7
      rw [hlc] at e3
      have E2 := aside e2
      have E3 := aside e3
      have E4 := aside e4
      have E5 := aside e5
      have E6 := aside e6
      have E7 := aside e7
      clear e2 e3 e4 e5 e6 e7 hf hal hlc
      have qs := F.front a0 cap0 l0 _ S HO.out hl1 K
      rw [E6.out] at qs
      go_wp2_with (first | go_skip)
      refine qs.mono ?_
      clear qs
      rintro e wx ⟨A4, c4', rfl, U, kx⟩
      have S' := S.below kx
      have K' := K.below kx
      have b' := b.trans (kx.mono b.size)
      clear S K b kx
      have S := S'
      have K := K'
      have b := b'
      clear S' K' b'
      have qs := X.anc a0 A4 cap0 c4' l0 f _ S U HO.out hl2 (by omega) K
      rw [anc_of HC.out, E2.out] at qs
      go_wp2_with (first | go_skip)
      refine qs.mono ?_
      clear qs
      rintro e wx ⟨A5, c5', rfl, V, kx⟩
      have S' := S.below kx
      have K' := K.below kx
      have U' := U.below kx
      have b' := b.trans (kx.mono b.size)
      clear S K U b kx
      have S := S'
      have K := K'
      have U := U'
      have b := b'
      clear S' K' U' b'
      have qs := X.ids a0 cap0 l0 _ S HO.out hl2 K
      rw [E7.out] at qs
      go_wp2_with (first | go_skip)
      refine qs.mono ?_
      clear qs
      rintro e wx ⟨A6, c6', rfl, Y, kx⟩
      have S' := S.below kx
      have K' := K.below kx
      have U' := U.below kx
      have V' := V.below kx
      have b' := b.trans (kx.mono b.size)
      clear S K U V b kx
      have S := S'
      have K := K'
      have U := U'
      have V := V'
      have b := b'
      clear S' K' U' V' b'
      have qs0 := HS A6 c6' all _ Y hall
      unfold NewI at qs0
      rw [hso] at qs0
      have qs := qs0
      go_wp2_with (first | go_skip)
      refine qs.mono ?_
      clear qs
      rintro e wx ⟨v6, rfl, o6, kx⟩
      clear qs0
      obtain ⟨A7, c7', rfl, Z⟩ := SlI.own o6
      clear o6 Y
      have S' := S.below kx
      have K' := K.below kx
      have U' := U.below kx
      have V' := V.below kx
      have b' := b.trans (kx.mono b.size)
      clear S K U V b kx
      have S := S'
      have K := K'
      have U := U'
      have V := V'
      have b := b'
      clear S' K' U' V' b'
      have qs := IdV.same_ret A5 A7 c5' c7' so so _ V Z
      rw [decide_eq_true rfl] at qs
      go_wp2_with (first | go_skip)
      refine qs.mono ?_
      clear qs
      rintro e wx ⟨rfl, kx⟩
      clear V Z hso
      have S' := S.below kx
      have K' := K.below kx
      have U' := U.below kx
      have b' := b.trans (kx.mono b.size)
      clear S K U b kx
      have S := S'
      have K := K'
      have U := U'
      have b := b'
      clear S' K' U' b'
      have qs0 := IdV.rises_ret A4 c4' f _ U
      rw [E5.out] at qs0
      have p8 : ¬ (8 : Int) < f.length := by omega
      have hz := E3.out
      by_cases h0 : l0.length = 0
      case pos =>
        obtain rfl : f = [] := List.eq_nil_of_length_eq_zero (hz.2 h0)
        obtain rfl : l0 = [] := List.eq_nil_of_length_eq_zero h0
        clear hz h0
        have qs0 : Calls Tryz.prog 47 #[.slice A4 0 c4'] wx _ := qs0
        go_wp2_with (first | go_skip)
        refine qs0.mono ?_
        rintro e wy ⟨rfl, ky⟩
        go_wp2_with (first | go_skip)
        have b0 := Below.refl wy.heap.size wy
        go_loopw [7] (fun i wr => i = .int .i64 0 ∧ Below wy.heap.size wy wr) (fun i _ => 0)
        case atStart => exact ⟨rfl, b0⟩
        case round =>
          clear b0
          rename World => wq
          obtain ⟨rfl, kc⟩ := hrel
          go_wp2_with (first | go_skip)
          go_ret
          exact ⟨rfl, (b.trans (ky.mono b.size)).trans (kc.mono (b.trans (ky.mono b.size)).size)⟩
      case neg =>
        have h1 : ¬ f.length = 0 := fun h => h0 (hz.1 h)
        have p1 : ((f.length : Int) == 0) = false := by simp only [beq_eq_false_iff_ne]; omega
        have p2 : ((l0.length : Int) == 0) = false := by simp only [beq_eq_false_iff_ne]; omega
        clear hz
        have qs := qs0
        go_wp2_with (first | go_skip)
        refine qs.mono ?_
        clear qs
        rintro e wx ⟨rfl, kx⟩
        clear qs0 p1 p2
        have S' := S.below kx
        have K' := K.below kx
        have U' := U.below kx
        have b' := b.trans (kx.mono b.size)
        clear S K U b kx
        have S := S'
        have K := K'
        have U := U'
        have b := b'
        clear S' K' U' b'
        go_wp2_with (first | go_skip)
        have b0 := Below.refl wx.heap.size wx
        go_loopw [7] (fun i wr => ∃ k : Nat, k ≤ f.length ∧ i = .int .i64 k ∧ Below wx.heap.size wx wr) (fun i _ => f.length - (intOf i).toNat)
        case atStart => exact ⟨0, Nat.zero_le _, rfl, b0⟩
        case round =>
          clear b0
          rename World => wp
          obtain ⟨k, hk, rfl, kc⟩ := hrel
          by_cases hlt : k < f.length
          case neg =>
            have pn : ¬ (k : Int) < f.length := by omega
            go_wp2_with (first | go_skip)
            go_ret
            exact ⟨rfl, b.trans (kc.mono b.size)⟩
          case pos =>
            obtain ⟨x, hx⟩ : ∃ x, f[k]? = some x := ⟨_, List.getElem?_eq_getElem hlt⟩
            have pk : (k : Int) < f.length := by omega
            have HX := aside hx
            clear hx
            go_wp2_with (first | go_skip)
            have b1 := Below.refl wp.heap.size wp
            go_loopw [8] (fun i wr => ∃ j : Nat, j ≤ f.length ∧ i = .int .i64 j ∧ Below wp.heap.size wp wr) (fun i _ => f.length - (intOf i).toNat)
            case atStart => exact ⟨0, Nat.zero_le _, rfl, b1⟩
            case round =>
              clear b1
              rename World => wq
              obtain ⟨j, hj, rfl, kd⟩ := hrel
              have ke := kc.trans (kd.mono kc.size)
              by_cases hjl : j < f.length
              case neg =>
                have pj : ¬ (j : Int) < f.length := by omega
                go_wp2_with (first | go_skip)
                go_roundw
                case rel => exact ⟨k + 1, by omega, by go_num, ke⟩
                case measure => simp [intOf]; omega
              case pos =>
                have pj : (j : Int) < f.length := by omega
                have mj : ((j : Int)).toNat = j := by omega
                have S1 := S.below ke
                have U1 := U.below ke
                have K1 := K.below ke
                have bq := b.trans (ke.mono b.size)
                obtain ⟨ba, oa, rfl, _, hra⟩ := SlI.plain U1 (by omega)
                obtain ⟨y, hy⟩ : ∃ y, f[j]? = some y := ⟨_, List.getElem?_eq_getElem hjl⟩
                have ra := hra j hjl
                rw [show f.getD j nought = y by rw [List.getD_eq_getElem?_getD, hy]; rfl] at ra
                clear hra
                have hw1 : IntKind.i64.wrap ((k : Int) + 1) = ((k + 1 : Nat) : Int) := by rw [IntKind.wrap_i64]; omega
                obtain ⟨sA, sc, es, P3, hpl⟩ := IdX.SlI.part U1 k (k + 1) (by omega) (by omega)
                have hdt : (f.drop k).take (k + 1 - k) = [x] := by
                  rw [show k + 1 - k = 1 by omega, List.drop_eq_getElem_cons hlt, List.take_succ_cons, List.take_zero]
                  congr 1
                  exact (List.getElem?_eq_some_iff.1 HX.out).2
                rw [hdt] at P3
                have hsl : ∀ V, (Instr.sliceAt 23 (.slice (some ⟨ba, oa, none⟩) f.length c4') (some (.int .i64 (k : Int))) (some (.int .i64 ((k : Int) + 1))) none).run Tryz.prog V = .ok (.slice sA 1 sc) V := fun V' => by
                  have := DhU.run_part_lh V' (some ⟨ba, oa, none⟩) f.length c4' .i64 .i64 k (k + 1) (by omega) (by have := U1.1; omega)
                  rw [es, show k + 1 - k = 1 by omega] at this
                  exact this
                have Q := P3
                clear hdt es P3 hpl U1 ke
                by_cases hjk : j = k
                case pos =>
                  have hg : ((j : Int) != (k : Int)) = false := by simp [hjk]
                  clear hjk
                  clear hy
                  go_wp2_with (first | go_skip)
                  refine Grow.region [(0, true), (1, true), (2, true), (3, true), (4, true), (5, true), (6, true), (7, true), (8, true), (9, true), (11, true), (12, true), (13, true), (14, true), (10, false), (15, false), (16, true)] (by kernel_rfl) (by kernel_rfl) rfl (by kernel_rfl) (by intro c a d v w h; cases d <;> exact h) ?_
                  have kx := below_drew1 (Below.refl wq.heap.size wq)
                  have ra := IdW.range_below ra kx
                  have kd := kd.trans (kx.mono kd.size)
                  have S1' := S1.below kx
                  have Q' := Q.below kx
                  have K1' := K1.below kx
                  have bq' := bq.trans (kx.mono bq.size)
                  clear S1 Q K1 bq kx
                  have S1 := S1'
                  have Q := Q'
                  have K1 := K1'
                  have bq := bq'
                  clear S1' Q' K1' bq'
                  generalize wq.drew = wz at S1 Q K1 bq ra kd ⊢
                  (try simp only [Act.put, List.setIfInBounds_toArray, List.set_cons_succ, List.set_cons_zero])
                  repeat (first | (refine IdV.reads_id rfl rfl _ rfl _ _ rfl y ra ?_; simp only [Act.put, List.setIfInBounds_toArray, List.set_cons_succ, List.set_cons_zero]) | (refine Grow.reads rfl rfl ?_; go_big_quiet_want; refine CmA.quiet_id _ rfl _ _ rfl y ra ?_; go_big_quiet_on; refine wpQuiet_nil ?_; (try simp only [Act.put, List.setIfInBounds_toArray, List.set_cons_succ, List.set_cons_zero])) | (refine Grow.reads rfl rfl ?_; go_big_quiet_step (fail); refine wpQuiet_nil ?_))
                  refine Grow.acts rfl ?_
                  go_wp2_with (first | go_skip)
                  refine ⟨Below.refl _ _, ?_⟩
                  (try simp only [Act.put, List.setIfInBounds_toArray, List.set_cons_succ, List.set_cons_zero])
                  refine Grow.acts rfl ?_
                  go_wp2_with (first | go_skip)
                  refine ⟨Below.refl _ _, ?_⟩
                  (try simp only [Act.put, List.setIfInBounds_toArray, List.set_cons_succ, List.set_cons_zero])
                  repeat (first | (refine Grow.reads rfl rfl ?_; go_big_quiet_step (fail); refine wpQuiet_nil ?_))
                  refine Grow.ends ?_
                  go_wp2_with (first | go_skip)
                  go_roundw
                  case rel => exact ⟨j + 1, by omega, by go_num, kd⟩
                  case measure => simp [intOf]; omega
                case neg =>
                  have hg : ((j : Int) != (k : Int)) = true := by simp; omega
                  have hkn := E4.out k j x y HX.out hy hjk
                  clear hjk
                  clear hy
                  go_wp2_with (first | go_skip)
                  refine Grow.region [(0, true), (1, true), (2, true), (3, true), (4, true), (5, true), (6, true), (7, true), (8, true), (9, true), (11, true), (12, true), (13, true), (14, true), (10, false), (15, false), (16, true)] (by kernel_rfl) (by kernel_rfl) rfl (by kernel_rfl) (by intro c a d v w h; cases d <;> exact h) ?_
                  have kx := below_drew1 (Below.refl wq.heap.size wq)
                  have ra := IdW.range_below ra kx
                  have kd := kd.trans (kx.mono kd.size)
                  have S1' := S1.below kx
                  have Q' := Q.below kx
                  have K1' := K1.below kx
                  have bq' := bq.trans (kx.mono bq.size)
                  clear S1 Q K1 bq kx
                  have S1 := S1'
                  have Q := Q'
                  have K1 := K1'
                  have bq := bq'
                  clear S1' Q' K1' bq'
                  generalize wq.drew = wz at S1 Q K1 bq ra kd ⊢
                  (try simp only [Act.put, List.setIfInBounds_toArray, List.set_cons_succ, List.set_cons_zero])
                  repeat (first | (refine IdV.reads_id rfl rfl _ rfl _ _ rfl y ra ?_; simp only [Act.put, List.setIfInBounds_toArray, List.set_cons_succ, List.set_cons_zero]) | (refine Grow.reads rfl rfl ?_; go_big_quiet_want; refine CmA.quiet_id _ rfl _ _ rfl y ra ?_; go_big_quiet_on; refine wpQuiet_nil ?_; (try simp only [Act.put, List.setIfInBounds_toArray, List.set_cons_succ, List.set_cons_zero])) | (refine Grow.reads rfl rfl ?_; go_big_quiet_step (fail); refine wpQuiet_nil ?_))
                  have qs := X.anc a0 sA cap0 sc l0 [x] _ S1 Q HO.out hl2 (by simp) K1
                  rw [anc_of HC.out] at qs
                  unfold NewD at qs
                  obtain ⟨D, hD⟩ : ∃ D, anc hashK (coms l0) [x] = D := ⟨_, rfl⟩
                  rw [hD] at qs hkn
                  have qs : Calls Tryz.prog 18 #[.slice a0 l0.length cap0, .slice sA 1 sc] _ _ := qs
                  clear hD
                  refine Grow.acts rfl ?_
                  go_wp2_with (first | go_skip)
                  refine qs.mono ?_
                  clear qs
                  rintro e wx2 ⟨A8, c8', rfl, Z, kx⟩
                  go_wp2_with (first | go_skip)
                  refine ⟨kx, ?_⟩
                  have kd := kd.trans (kx.mono kd.size)
                  have bq := bq.trans (kx.mono bq.size)
                  (try simp only [Act.put, List.setIfInBounds_toArray, List.set_cons_succ, List.set_cons_zero])
                  repeat (first | (refine Grow.reads rfl rfl ?_; go_big_quiet_step (fail); refine wpQuiet_nil ?_))
                  have qs := IdV.has_ret A8 c8' D y _ Z
                  rw [decide_eq_false hkn] at qs
                  refine Grow.acts rfl ?_
                  go_wp2_with (first | go_skip)
                  refine qs.mono ?_
                  clear qs
                  rintro e wx3 ⟨rfl, kx3⟩
                  go_wp2_with (first | go_skip)
                  refine ⟨kx3, ?_⟩
                  have kd := kd.trans (kx3.mono kd.size)
                  (try simp only [Act.put, List.setIfInBounds_toArray, List.set_cons_succ, List.set_cons_zero])
                  repeat (first | (refine Grow.reads rfl rfl ?_; go_big_quiet_step (fail); refine wpQuiet_nil ?_))
                  refine Grow.ends ?_
                  go_wp2_with (first | go_skip)
                  go_roundw
                  case rel => exact ⟨j + 1, by omega, by go_num, kd⟩
                  case measure => simp [intOf]; omega
end Go.Proofs.YtechkdhehipliaaGreatDoor.FrL
namespace Go.Proofs.YtechkdhehipliaaGreatDoor.RowP
set_option maxRecDepth 100000
open Go Go.RowKit Byt RowS

variable {α : Type} (E : Enc α)
theorem size_e (w : World) : (sizeOf (Tryz.prog.elem E.S)).run Tryz.prog w = .ok E.k w := by
  obtain ⟨i, hi, z0, z1, _⟩ := info_parts E.info
  rw [E.elem]
  simp [sizeOf, typeInfo, hi, z1]
theorem under_e : Tryz.prog.underlying E.S = some (.slice (Tryz.prog.elem E.S)) := by rw [E.elem, E.slice]
theorem run_part_h (w : World) (A : Option Addr) (len cap : Nat) (k : IntKind) (j : Nat) (hj : j ≤ cap) :
    (Instr.sliceAt E.S (.slice A len cap) none (some (.int k j)) none).run Tryz.prog w = .ok (sliced A 0 j cap E.k) w := by
  rw [run_sliceAt_slice w _ _ _ _ _ (under_e E), run_slice_h w _ A len cap (under_e E) k j (by omega) (by omega), size_e]
  simp [Result.andThen]
theorem run_part_l (w : World) (A : Option Addr) (len cap : Nat) (k : IntKind) (i : Nat) (hi : i ≤ len) :
    (Instr.sliceAt E.S (.slice A len cap) (some (.int k i)) none none).run Tryz.prog w = .ok (sliced A i len cap E.k) w := by
  rw [run_sliceAt_slice w _ _ _ _ _ (under_e E), run_slice_l w _ A len cap (under_e E) k i (by omega) (by omega), size_e]
  simp [Result.andThen]
variable {E}
/-- The first ones of a slice. -/
theorem ahead {w : World} {A : Option Addr} {cap : Nat} {l : List α} (S : SlR E w A cap l) (j : Nat) (hj : j ≤ l.length) :
    ∃ A' cap', (∀ (W : World) (k : IntKind), (Instr.sliceAt E.S (.slice A l.length cap) none (some (.int k j)) none).run Tryz.prog W = .ok (.slice A' j cap') W) ∧ SlR E w A' cap' (l.take j) := by
  obtain ⟨A', cap', h1, h2, _⟩ := SlR.part S 0 j (Nat.zero_le _) hj
  refine ⟨A', cap', fun W k => ?_, by simpa using h2⟩
  rw [run_part_h E W A l.length cap k j (by have := S.1; omega), h1, Nat.sub_zero]
/-- The others. -/
theorem behind {w : World} {A : Option Addr} {cap : Nat} {l : List α} (S : SlR E w A cap l) (i : Nat) (hi : i ≤ l.length) :
    ∃ A' cap', (∀ (W : World) (k : IntKind), (Instr.sliceAt E.S (.slice A l.length cap) (some (.int k i)) none none).run Tryz.prog W = .ok (.slice A' (l.length - i) cap') W) ∧ SlR E w A' cap' (l.drop i) := by
  obtain ⟨A', cap', h1, h2, _⟩ := SlR.part S i l.length hi (Nat.le_refl _)
  refine ⟨A', cap', fun W k => ?_, ?_⟩
  · rw [run_part_l E W A l.length cap k i hi, h1]
  · rwa [List.take_of_length_le (by simp)] at h2
end Go.Proofs.YtechkdhehipliaaGreatDoor.RowP
namespace Go.Proofs.YtechkdhehipliaaGreatDoor.FrS
set_option maxRecDepth 100000
open Go Go.Sort Go.RowKit Byt IdM IdW OpsM OpsW CmM StW CmW CmX CmY CmA DgM DgW DgR DgF DgG FrM FrN FrJ FrH FrU 
open Classical

theorem turn_perm {l : List Com} (i : Nat) : l.Perm (l.drop i ++ l.take i) := by
  have h := List.perm_append_comm (l₁ := l.take i) (l₂ := l.drop i)
  rwa [List.take_append_drop] at h
theorem coms_turn (l : List Cv) (i : Nat) : coms (l.drop i ++ l.take i) = (coms l).drop i ++ (coms l).take i := by
  unfold coms
  rw [List.map_append, List.map_drop, List.map_take]
theorem head_may {l : List Com} {c : Com} (h : headC l = some c) : mayK c = true := by
  unfold headC head join at h
  by_cases C : Closed hashK l
  · rw [if_pos C] at h
    rcases joinF_some h with h1 | ⟨h1, _⟩
    · exact C.may c h1
    · exact h1
  · rw [if_neg C] at h
    cases h
def order : Forks.Tree := .free 0 (.free 1 (.free 2 (.free 4 (.free 5 (.free 6 (.act 3 (.act 7 (.free 8 .ends))))))))
set_option maxRecDepth 100000 in
set_option maxHeartbeats 32000000 in
theorem walk (X : Three) (F : Five) (HA : AwakeRet) (a0 : Option Addr) (cap0 : Nat) (l0 : List Cv) (i0 : Int) (w : World) (S : SlK w a0 cap0 l0) (K : ShaE.KIn w) :
    Calls Tryz.prog 7 #[.slice a0 l0.length cap0, .int .i64 i0] w fun e w' => e = .returned (.bool true) ∧ Below w.heap.size w w' := by
  have hmax := S.len
  have b := Below.refl w.heap.size w
  go_enter Tryz.func7, Tryz.ntmps7
  have qs := HA _ K
  go_wp2_with (first | go_skip)
  refine qs.mono ?_
  clear qs
  rintro e wx ⟨rfl, kx⟩
  have S' := S.below kx
  have K' := K.below kx
  have b' := b.trans (kx.mono b.size)
  clear S K b kx
  have S := S'
  have K := K'
  have b := b'
  clear S' K' b'
  go_wp2_with (first | go_skip)
  obtain ⟨f, hf⟩ : ∃ f, fewD (coms l0) 10 = f := ⟨_, rfl⟩
  have qs := DgR.few_ret a0 cap0 l0 10 _ S
  rw [hf] at qs
  refine qs.mono ?_
  clear qs
  rintro e w2 ⟨rfl, kx⟩
  have S' := S.below kx
  have K' := K.below kx
  have b' := b.trans (kx.mono b.size)
  clear S K b kx
  have S := S'
  have K := K'
  have b := b'
  clear S' K' b'
  cases f with
  | false =>
    go_wp2_with (first | go_skip)
    go_ret
    exact ⟨rfl, b⟩
  | true =>
    obtain ⟨ho, hl⟩ := okay_few (fun v hv => (S.each v hv).2) hf
    have hl2 : l0.length ≤ 1000 := by omega
    have hl1 : l0.length ≤ 100 := by omega
    have HO := aside ho
    clear ho hf
    have qs0 := X.closed a0 cap0 l0 _ S HO.out hl2 K
    by_cases hC : Closed hashK (coms l0)
    case neg =>
      rw [decide_eq_false hC] at qs0
      go_wp2_with (first | go_skip)
      refine qs0.mono ?_
      rintro e wx ⟨rfl, kx⟩
      clear qs0
      go_wp2_with (first | go_skip)
      go_ret
      exact ⟨rfl, b.trans (kx.mono b.size)⟩
    case pos =>
      rw [decide_eq_true hC] at qs0
      have HC := aside hC
      clear hC
      have qs := qs0
      go_wp2_with (first | go_skip)
      refine qs.mono ?_
      clear qs
      rintro e wx ⟨rfl, kx⟩
      clear qs0
      have S' := S.below kx
      have K' := K.below kx
      have b' := b.trans (kx.mono b.size)
      clear S K b kx
      have S := S'
      have K := K'
      have b := b'
      clear S' K' b'
      by_cases h0 : l0.length = 0
      case pos =>
        obtain rfl : l0 = [] := List.eq_nil_of_length_eq_zero h0
        go_wp2_with (first | go_skip)
        go_ret
        exact ⟨rfl, b⟩
      case neg =>
        have pz : ((l0.length : Int) == 0) = false := by simp only [beq_eq_false_iff_ne]; omega
        have hi : i0 < 0 ∨ (¬ i0 < 0 ∧ (l0.length : Int) ≤ i0) ∨ (¬ i0 < 0 ∧ ¬ (l0.length : Int) ≤ i0) := by omega
        rcases hi with p0 | ⟨p0, p1⟩ | ⟨p0, p1⟩
        case inl =>
          go_wp2_with (first | go_skip)
          go_ret
          exact ⟨rfl, b⟩
        case inr.inl =>
          go_wp2_with (first | go_skip)
          go_ret
          exact ⟨rfl, b⟩
        case inr.inr =>
          obtain ⟨i, rfl⟩ : ∃ i : Nat, i0 = i := ⟨i0.toNat, by omega⟩
          have hlt : i < l0.length := by omega
          have hhd : headC (coms (l0.drop i ++ l0.take i)) = headC (coms l0) := by rw [coms_turn]; exact (head_perm (turn_perm i)).symm
          have hok : ∀ v ∈ l0.drop i ++ l0.take i, v ∈ l0 := fun v hv => by
            rcases List.mem_append.1 hv with h | h
            · exact List.mem_of_mem_drop h
            · exact List.mem_of_mem_take h
          have hlen : (l0.drop i ++ l0.take i).length = l0.length := by rw [List.length_append, List.length_drop, List.length_take]; omega
          obtain ⟨m, hm⟩ : ∃ m, l0.drop i ++ l0.take i = m := ⟨_, rfl⟩
          have hm1 : m.length ≤ 100 := by rw [← hm, hlen]; exact hl1
          rw [hm] at hhd hok
          have hn0 : (headC (coms l0)).isSome = true → putN ((headC (coms l0)).getD noK) = 0 := fun h => by
            obtain ⟨c, hc⟩ := Option.isSome_iff_exists.1 h
            rw [hc]
            exact (putB_yes (head_may hc)).2.1
          obtain ⟨r, hr⟩ : ∃ r, headC (coms l0) = r := ⟨_, rfl⟩
          rw [hr] at hn0
          have HN0 := aside hn0
          clear hn0
          rw [hr] at hhd
          have q1 := fun W S K => F.head a0 cap0 l0 W S HO.out hl1 K
          have q2 := fun A c W S K => F.head A c m W S (fun v hv => HO.out v (hok v hv)) hm1 K
          rw [hr] at q1
          rw [hhd] at q2
          unfold FoundC at q1 q2
          have HM := aside hm
          have HOK := aside hok
          have HLEN := aside hlen
          clear hm hok hlen hhd hr h0
          obtain ⟨qA, qc, hqs, hqS⟩ := RowP.behind S.row i (by omega)
          obtain ⟨rA, rc, hrs, hrS⟩ := RowP.ahead S.row i (by omega)
          have hq1 : ∀ V, (Instr.sliceAt 22 (.slice a0 l0.length cap0) (some (.int .i64 i)) none none).run Tryz.prog V = .ok (.slice qA (l0.length - i) qc) V := fun V => hqs V .i64
          have hq2 : ∀ V, (Instr.sliceAt 22 (.slice a0 l0.length cap0) none (some (.int .i64 i)) none).run Tryz.prog V = .ok (.slice rA i rc) V := fun V => hrs V .i64
          have Q : SlK wx qA qc (l0.drop i) := ⟨hqS, fun v hv => S.each v (List.mem_of_mem_drop hv)⟩
          have R : SlK wx rA rc (l0.take i) := ⟨hrS, fun v hv => S.each v (List.mem_of_mem_take hv)⟩
          clear hqs hqS hrs hrS
          go_wp2_with (first | go_skip)
          refine Forks.region order (by kernel_rfl) (by kernel_rfl) rfl (by kernel_rfl) (by intro c a d v w h; cases d <;> exact h) ?_
          unfold order
          have kx := below_drew1 (Below.refl wx.heap.size wx)
          have S' := S.below kx
          have K' := K.below kx
          have Q' := Q.below kx
          have R' := R.below kx
          have b' := b.trans (kx.mono b.size)
          clear S K Q R b kx
          have S := S'
          have K := K'
          have Q := Q'
          have R := R'
          have b := b'
          clear S' K' Q' R' b'
          generalize wx.drew = wz at S K Q R b ⊢
          repeat (refine Forks.reads rfl rfl ?_; go_big_quiet_step (fail); refine wpQuiet_nil ?_)
          refine Forks.acts rfl ?_
          go_wp2_with (first | (refine RowS.wpList_append KE rfl (.const (.slice none 0 0)) (.tmp 48) rfl wz.heap.size _ 0 [] rfl ⟨rfl, .inl ⟨rfl, rfl⟩⟩ qA (l0.length - i) qc (l0.drop i) rfl (by rw [List.length_drop]) Q.row (by omega) (Nat.le_refl _) ?_; intro v8 w8 o8 g8))
          refine Forks.on ?_
          (try simp only [Act.put, List.setIfInBounds_toArray, List.set_cons_succ, List.set_cons_zero])
          have k8 := below_grown (Below.refl wz.heap.size wz) (Nat.le_refl _) g8 (fun q hq => by cases hq)
          have R8 := R.below k8
          refine Forks.acts rfl ?_
          go_wp2_with (first | (refine RowS.wpList_append KE rfl (.tmp 49) (.tmp 52) rfl wz.heap.size _ (0 + (l0.length - i)) ([] ++ l0.drop i) rfl o8 rA i rc (l0.take i) rfl (by rw [List.length_take]; omega) R8.row (by omega) k8.size ?_; intro v9 w9 o9 g9))
          refine Forks.on ?_
          (try simp only [Act.put, List.setIfInBounds_toArray, List.set_cons_succ, List.set_cons_zero])
          have kx := below_grown k8 k8.size g9 (fun q hq => (o8.lt q hq).1)
          clear g8 g9 o8 k8 R8 Q R hq1 hq2
          have S' := S.below kx
          have K' := K.below kx
          have b' := b.trans (kx.mono b.size)
          clear S K b kx
          have S := S'
          have K := K'
          have b := b'
          clear S' K' b'
          repeat (refine Forks.reads rfl rfl ?_; go_big_quiet_step (fail); refine wpQuiet_nil ?_)
          refine Forks.ends ?_
          rw [List.nil_append, HM.out] at o9
          obtain ⟨A9, c9, rfl, Y⟩ := own_in o9 (fun v hv => ⟨(S.each v (HOK.out v hv)).1, (S.each v (HOK.out v hv)).2⟩)
          clear o9
          go_wp2_with (first | go_skip)
          refine (q1 _ S K).mono ?_
          clear q1
          rintro e wx ⟨v, rfl, hv, IV, FV, kx⟩
          have HV := aside hv
          clear hv
          have S' := S.below kx
          have K' := K.below kx
          have Y' := Y.below kx
          have b' := b.trans (kx.mono b.size)
          clear S K Y b kx
          have S := S'
          have K := K'
          have Y := Y'
          have b := b'
          clear S' K' Y' b'
          obtain ⟨z, hz⟩ : ∃ z, r.isSome = z := ⟨_, rfl⟩
          rw [hz] at q2 ⊢
          have HZ : Hid (z = true → putN (r.getD noK) = 0) := aside (by rw [← hz]; exact HN0.out)
          clear hz
          go_wp2_with (first | go_skip | (refine Cel.wpList_store_new CE rfl _ _ rfl wx _ _ rfl v _ rfl rfl rfl rfl ?_; intro w4 B4 k4 g4 s4; have IV4 := CmW.In.below IV k4; clear g4 s4))
          clear IV
          have S' := S.below k4
          have K' := K.below k4
          have Y' := Y.below k4
          have b' := b.trans (k4.mono b.size)
          clear S K Y b k4
          have S := S'
          have K := K'
          have Y := Y'
          have b := b'
          clear S' K' Y' b'
          refine (q2 _ _ _ Y K).mono ?_
          clear q2
          rintro e wx ⟨u, rfl, hu, IU, FU, kx⟩
          have HU := aside hu
          clear hu
          have S' := S.below kx
          have K' := K.below kx
          have Y' := Y.below kx
          have B4' := B4.below kx
          have IV4' := IV4.below kx
          have b' := b.trans (kx.mono b.size)
          clear S K Y B4 IV4 b kx
          have S := S'
          have K := K'
          have Y := Y'
          have B4 := B4'
          have IV4 := IV4'
          have b := b'
          clear S' K' Y' B4' IV4' b'
          have hzz : (z != z) = false := by cases z <;> rfl
          have hch := fun W I K => CmA.hash_ret v W I FV K
          have hcu := fun W I K => CmA.hash_ret u W I FU K
          unfold HashOut at hch hcu
          rw [HV.out] at hch
          rw [HU.out] at hcu
          obtain ⟨y, hy⟩ : ∃ y, hashI (r.getD noK) = y := ⟨_, rfl⟩
          obtain ⟨n, hn⟩ : ∃ n, putN (r.getD noK) = n := ⟨_, rfl⟩
          rw [hy, hn] at hch hcu
          rw [hn] at HZ
          clear hy hn
          go_wp2_with (first | go_skip | (refine Cel.wpList_store_new CE rfl _ _ rfl wx _ _ rfl u _ rfl rfl rfl rfl ?_; intro w5 B5 k5 g5 s5; have IU5 := CmW.In.below IU k5; have B4' := B4.below k5; clear g5 s5) | (refine Cel.wpList_load_box CE rfl _ rfl _ rfl v B4' ?_))
          clear IU B4'
          have S' := S.below k5
          have K' := K.below k5
          have Y' := Y.below k5
          have B4' := B4.below k5
          have IV4' := IV4.below k5
          have b' := b.trans (k5.mono b.size)
          clear S K Y B4 IV4 b k5
          have S := S'
          have K := K'
          have Y := Y'
          have B4 := B4'
          have IV4 := IV4'
          have b := b'
          clear S' K' Y' B4' IV4' b'
          refine (hch _ IV4 K).mono ?_
          clear hch
          rintro e wx ⟨rfl, kx⟩
          have S' := S.below kx
          have K' := K.below kx
          have Y' := Y.below kx
          have B4' := B4.below kx
          have IV4' := IV4.below kx
          have B5' := B5.below kx
          have IU5' := IU5.below kx
          have b' := b.trans (kx.mono b.size)
          clear S K Y B4 IV4 B5 IU5 b kx
          have S := S'
          have K := K'
          have Y := Y'
          have B4 := B4'
          have IV4 := IV4'
          have B5 := B5'
          have IU5 := IU5'
          have b := b'
          clear S' K' Y' B4' IV4' B5' IU5' b'
          go_wp2_with (first | go_skip | (refine IdJ.wpList_alloc_id rfl rfl ?_) | (refine CmG.wpList_store_id rfl _ _ rfl _ nought _ rfl y _ rfl rfl rfl ?_; intro w6 G6 k6 s6; have B6 := B5.below k6; clear s6) | (refine Cel.wpList_load_box CE rfl _ rfl _ rfl u B6 ?_))
          clear B6
          have S' := S.below k6
          have K' := K.below k6
          have Y' := Y.below k6
          have B4' := B4.below k6
          have IV4' := IV4.below k6
          have B5' := B5.below k6
          have IU5' := IU5.below k6
          have b' := b.trans (k6.mono b.size)
          clear S K Y B4 IV4 B5 IU5 b k6
          have S := S'
          have K := K'
          have Y := Y'
          have B4 := B4'
          have IV4 := IV4'
          have B5 := B5'
          have IU5 := IU5'
          have b := b'
          clear S' K' Y' B4' IV4' B5' IU5' b'
          refine (hcu _ IU5 K).mono ?_
          clear hcu
          rintro e wx2 ⟨rfl, kx⟩
          have G7 := G6.below kx G6.lt
          clear G6
          have S' := S.below kx
          have K' := K.below kx
          have Y' := Y.below kx
          have B4' := B4.below kx
          have IV4' := IV4.below kx
          have B5' := B5.below kx
          have IU5' := IU5.below kx
          have b' := b.trans (kx.mono b.size)
          clear S K Y B4 IV4 B5 IU5 b kx
          have S := S'
          have K := K'
          have Y := Y'
          have B4 := B4'
          have IV4 := IV4'
          have B5 := B5'
          have IU5 := IU5'
          have b := b'
          clear S' K' Y' B4' IV4' B5' IU5' b'
          have heq := fun W => IdW.equal W 9998 y y
          simp only [decide_true] at heq
          have qs := fun W I J => CmA.same_ret v u W I J
          rw [HV.out, HU.out, CmR.sameK_self] at qs
          cases z with
          | false =>
            go_wp2_with (first | go_skip | (refine IdJ.wpList_alloc_id rfl rfl ?_) | (refine CmG.wpList_store_id rfl _ _ rfl _ nought _ rfl y _ rfl rfl rfl ?_; intro w8 G8 k8 s8; clear s8))
            go_ret
            exact ⟨rfl, b.trans (k8.mono b.size)⟩
          | true =>
            obtain rfl := HZ.out rfl
            go_wp2_with (first | go_skip | (refine IdJ.wpList_alloc_id rfl rfl ?_) | (refine CmG.wpList_store_id rfl _ _ rfl _ nought _ rfl y _ rfl rfl rfl ?_; intro w8 G8 k8 s8; have G9 := G7.below k8 G7.lt; have B8 := B4.below k8; have D8 := B5.below k8; have IV8 := CmW.In.below IV4 k8; have IU8 := CmW.In.below IU5 k8; clear s8) | (refine CmY.gid _ rfl _ _ rfl y G9.range rfl ?_) | (refine CmY.gid _ rfl _ _ rfl y G8.range rfl ?_) | (refine RowC.unguard rfl (Cel.wpList_load_box CE rfl _ rfl _ rfl v B8 ?_)) | (refine RowC.unguard rfl (Cel.wpList_load_box CE rfl _ rfl _ rfl u D8 ?_)))
            refine (qs _ IV8 IU8).mono ?_
            clear qs
            rintro e w10 ⟨rfl, k10⟩
            go_wp2_with (first | go_skip)
            go_ret
            exact ⟨rfl, (b.trans (k8.mono b.size)).trans (k10.mono (b.trans (k8.mono b.size)).size)⟩
end Go.Proofs.YtechkdhehipliaaGreatDoor.FrS
