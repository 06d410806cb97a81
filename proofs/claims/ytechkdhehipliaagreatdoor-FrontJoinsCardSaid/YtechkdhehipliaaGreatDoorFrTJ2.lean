/- FrontJoins' walk, over contracts: whichever comes first, what two join to has the same bytes; joined with what it knows it is itself. No condition. | How a reading gives an event that came in. No condition. -/
import Derived.Test.YtechkdhehipliaaGreatDoorDgGJ4
import Derived.Test.YtechkdhehipliaaGreatDoorFrLJ3
import Derived.Test.YtechkdhehipliaaGreatDoorRowGJ8
namespace Go.Proofs.YtechkdhehipliaaGreatDoor.FrT
set_option maxRecDepth 100000
open Go Go.Sort Go.RowKit Byt IdM IdW OpsM OpsW CmM StW CmW CmX CmY CmA DgM DgW DgR DgF DgG FrM FrN FrJ FrH FrU FrS
open Classical

theorem coms_rev (l : List Cv) : coms l.reverse = (coms l).reverse := by unfold coms; rw [List.map_reverse]
theorem rev_next {l : List Cv} {n : Nat} {x : Cv} (h : l[n]? = some x) : (l.drop n).reverse = (l.drop (n + 1)).reverse ++ [x] := by rw [drop_at h, List.reverse_cons]
theorem join_may {l : List Com} {a : List Idn} {c : Com} (h : joinC l a = some c) : mayK c = true := by
  unfold joinC join at h
  by_cases C : Closed hashK l
  · rw [if_pos C] at h
    rcases joinF_some h with h1 | ⟨h1, _⟩
    · exact C.may c h1
    · exact h1
  · rw [if_neg C] at h
    cases h
set_option maxRecDepth 100000 in
set_option maxHeartbeats 32000000 in
theorem walk (X : Three) (F : Five) (HA : AwakeRet) (a0 : Option Addr) (cap0 : Nat) (l0 : List Cv) (a1 : Option Addr) (cap1 : Nat) (l1 : List Idn) (a2 : Option Addr) (cap2 : Nat) (l2 : List Idn) (w : World) (S : SlK w a0 cap0 l0) (T : SlI w a1 cap1 l1) (R : SlI w a2 cap2 l2) (K : ShaE.KIn w) :
    Calls Tryz.prog 6 #[.slice a0 l0.length cap0, .slice a1 l1.length cap1, .slice a2 l2.length cap2] w fun e w' => e = .returned (.bool true) ∧ Below w.heap.size w w' := by
  have hmax := S.len
  have hmax1 : l1.length ≤ 9223372036854775807 := by have := T.1; have := T.2.1; unfold maxLen at this; omega
  have hmax2 : l2.length ≤ 9223372036854775807 := by have := R.1; have := R.2.1; unfold maxLen at this; omega
  have b := Below.refl w.heap.size w
  go_enter Tryz.func6, Tryz.ntmps6
  have qs := HA _ K
  go_wp2_with (first | go_skip)
  refine qs.mono ?_
  clear qs
  rintro e wx ⟨rfl, kx⟩
  have S' := S.below kx
  have T' := T.below kx
  have R' := R.below kx
  have K' := K.below kx
  have b' := b.trans (kx.mono b.size)
  clear S T R K b kx
  have S := S'
  have T := T'
  have R := R'
  have K := K'
  have b := b'
  clear S' T' R' K' b'
  go_wp2_with (first | go_skip)
  obtain ⟨f, hf⟩ : ∃ f, fewD (coms l0) 10 = f := ⟨_, rfl⟩
  have qs := DgR.few_ret a0 cap0 l0 10 _ S
  rw [hf] at qs
  refine qs.mono ?_
  clear qs
  rintro e w2 ⟨rfl, kx⟩
  have S' := S.below kx
  have T' := T.below kx
  have R' := R.below kx
  have K' := K.below kx
  have b' := b.trans (kx.mono b.size)
  clear S T R K b kx
  have S := S'
  have T := T'
  have R := R'
  have K := K'
  have b := b'
  clear S' T' R' K' b'
  cases f with
  | false =>
    go_wp2_with (first | go_skip)
    go_ret
    exact ⟨rfl, b⟩
  | true =>
    have hw : (20 : Int) < l1.length ∨ (¬ (20 : Int) < l1.length ∧ (20 : Int) < l2.length) ∨ (¬ (20 : Int) < l1.length ∧ ¬ (20 : Int) < l2.length) := by omega
    rcases hw with p1 | ⟨p1, p2⟩ | ⟨p1, p2⟩
    case inl =>
      go_wp2_with (first | go_skip)
      go_ret
      exact ⟨rfl, b⟩
    case inr.inl =>
      go_wp2_with (first | go_skip)
      go_ret
      exact ⟨rfl, b⟩
    case inr.inr =>
      obtain ⟨ho, hl⟩ := okay_few (fun v hv => (S.each v hv).2) hf
      have hl2 : l0.length ≤ 1000 := by omega
      have hl1 : l0.length ≤ 100 := by omega
      have HO := aside ho
      clear ho hf
      have qs0 := X.closed a0 cap0 l0 _ S HO.out hl2 K
      by_cases hC : Closed hashK (coms l0)
      case neg =>
        rw [decide_eq_false hC] at qs0
        go_wp2_with (first | go_skip)
        refine qs0.mono ?_
        rintro e wx ⟨rfl, kx⟩
        clear qs0
        go_wp2_with (first | go_skip)
        go_ret
        exact ⟨rfl, b.trans (kx.mono b.size)⟩
      case pos =>
        rw [decide_eq_true hC] at qs0
        have HC := aside hC
        clear hC
        have qs := qs0
        go_wp2_with (first | go_skip)
        refine qs.mono ?_
        clear qs
        rintro e wx ⟨rfl, kx⟩
        clear qs0
        have S' := S.below kx
        have T' := T.below kx
        have R' := R.below kx
        have K' := K.below kx
        have b' := b.trans (kx.mono b.size)
        clear S T R K b kx
        have S := S'
        have T := T'
        have R := R'
        have K := K'
        have b := b'
        clear S' T' R' K' b'
        have n1 : l1.length ≤ 20 := by omega
        have n2 : l2.length ≤ 20 := by omega
        have j2 : joinC (coms l0.reverse) (l2 ++ l1) = joinC (coms l0) (l1 ++ l2) := (join_perm (by rw [coms_rev]; exact (List.reverse_perm (coms l0)).symm) fun x => by rw [List.mem_append, List.mem_append]; exact or_comm).symm
        have j3 : joinC (coms l0) (anc hashK (coms l0) (l1 ++ l2)) = joinC (coms l0) (l1 ++ l2) := join_twice (coms l0) (l1 ++ l2)
        have s1 := anc_short HC.out (l1 ++ l2)
        rw [coms_len] at s1
        have hn0 : (joinC (coms l0) (l1 ++ l2)).isSome = true → putN ((joinC (coms l0) (l1 ++ l2)).getD noK) = 0 := fun h => by
          obtain ⟨c, hc⟩ := Option.isSome_iff_exists.1 h
          rw [hc]
          exact (putB_yes (join_may hc)).2.1
        obtain ⟨r, hr⟩ : ∃ r, joinC (coms l0) (l1 ++ l2) = r := ⟨_, rfl⟩
        rw [hr] at j2 j3 hn0
        obtain ⟨xs, hxs⟩ : ∃ xs, anc hashK (coms l0) (l1 ++ l2) = xs := ⟨_, rfl⟩
        rw [hxs] at j3 s1
        obtain ⟨lr, hlr⟩ : ∃ lr, l0.reverse = lr := ⟨_, rfl⟩
        rw [hlr] at j2
        have hrl : lr.length ≤ 100 := by rw [← hlr, List.length_reverse]; exact hl1
        have hrm : ∀ v ∈ lr, v ∈ l0 := fun v hv => by rw [← hlr] at hv; exact List.mem_reverse.1 hv
        have J1 := aside hr
        have J2 := aside j2
        have J3 := aside j3
        have HX := aside hxs
        have HN0 := aside hn0
        have HLR := aside hlr
        have HRM := aside hrm
        clear hr j2 j3 hxs hn0 hlr hrm
        go_wp2_with (first | go_skip)
        have b0 := Below.refl wx.heap.size wx
        go_loopw [9, 10] (fun o i wr => ∃ (n t : Nat), n ≤ l0.length ∧ t + n = l0.length ∧ i = .int .i64 ((n : Int) - 1) ∧ Hid (wr.ownsRow wx.heap.size 38 8 o t (RowS.flat KE (l0.drop n).reverse)) ∧ Below wx.heap.size wx wr) (fun _ i _ => (intOf i + 1).toNat)
        case atStart => exact ⟨l0.length, 0, Nat.le_refl _, by omega, by go_num, aside (by rw [List.drop_of_length_le (Nat.le_refl _)]; exact ⟨rfl, .inl ⟨rfl, rfl⟩⟩), b0⟩
        case round =>
          clear b0
          rename World => wr
          obtain ⟨n, t, hn, ht, rfl, HOw, kc⟩ := hrel
          by_cases hn0 : 0 < n
          case pos =>
            obtain ⟨bb, off, rfl, hbw, hrg⟩ := S.plain (by omega)
            obtain ⟨x, hx⟩ : ∃ x, l0[n - 1]? = some x := ⟨_, List.getElem?_eq_getElem (by omega)⟩
            have rx := range_on (hrg (n - 1) x hx) kc
            have HN := aside (rev_next hx)
            rw [show n - 1 + 1 = n by omega] at HN
            obtain ⟨ys, hys⟩ : ∃ ys, (l0.drop n).reverse = ys := ⟨_, rfl⟩
            rw [hys] at HOw HN
            have g0 : (0 : Int) ≤ (n : Int) - 1 := by omega
            have p1 : (n : Int) - 1 < l0.length := by omega
            have m1 : ((n : Int) - 1).toNat = n - 1 := by omega
            clear hrg hx hys
            go_wp2_with (first | go_skip | (refine load_at rfl _ rfl _ _ rfl x rx ?_) | (refine RowC.wpList_lit1 KE (of_decide_eq_true rfl) rfl _ rfl x rfl ?_; intro w4 S4 k4; have b4 := kc.trans (k4.mono kc.size); have O4 := aside (owns_below HOw.out k4)) | (refine RowS.wpList_append KE rfl (.tmp 53) (.tmp 58) rfl wx.heap.size _ t ys rfl O4.out _ 1 1 [x] rfl rfl S4 (by omega) b4.size ?_; intro v5 w5 o5 g5))
            have b5 : Below wx.heap.size wx w5 := below_grown b4 b4.size g5 (fun q hq => (O4.out.lt q hq).1)
            go_roundw
            case rel => exact ⟨n - 1, t + 1, by omega, by omega, by go_num, aside (by rw [HN.out]; exact o5), b5⟩
            case measure => simp [intOf]; omega
          case neg =>
            have e0 : n = 0 := by omega
            subst e0
            have g0 : ¬ (0 : Int) ≤ ((0 : Nat) : Int) - 1 := by omega
            have HO2 := HOw.out
            rw [List.drop_zero, HLR.out] at HO2
            obtain ⟨A3, c3, rfl, Y⟩ := own_in HO2 (fun v hv => ⟨(S.each v (HRM.out v hv)).1.below kc, (S.each v (HRM.out v hv)).2⟩)
            clear HOw HO2
            have S' := S.below kc
            have T' := T.below kc
            have R' := R.below kc
            have K' := K.below kc
            have b' := b.trans (kc.mono b.size)
            clear S T R K b kc
            have S := S'
            have T := T'
            have R := R'
            have K := K'
            have b := b'
            clear S' T' R' K' b'
            obtain ⟨z, hz⟩ : ∃ z, r.isSome = z := ⟨_, rfl⟩
            go_wp2_with (first | go_skip | (refine wpList_append_ids rfl (.const (.slice none 0 0)) (.tmp 62) rfl wr.heap.size _ 0 [] rfl ⟨rfl, .inl ⟨rfl, rfl⟩⟩ a1 l1.length cap1 l1 rfl rfl T (by omega) (Nat.le_refl _) ?_; intro v8 w8 o8 g8; have k8 := below_grown (Below.refl wr.heap.size wr) (Nat.le_refl _) g8 (fun q hq => by cases hq); have R8 := R.below k8) | (refine wpList_append_ids rfl (.tmp 63) (.tmp 64) rfl wr.heap.size _ (0 + l1.length) ([] ++ l1) rfl o8 a2 l2.length cap2 l2 rfl rfl R8 (by omega) k8.size ?_; intro v9 w9 o9 g9; have kx := below_grown k8 k8.size g9 (fun q hq => (o8.lt q hq).1)))
            have S' := S.below kx
            have T' := T.below kx
            have R' := R.below kx
            have K' := K.below kx
            have Y' := Y.below kx
            have b' := b.trans (kx.mono b.size)
            clear S T R K Y b kx
            have S := S'
            have T := T'
            have R := R'
            have K := K'
            have Y := Y'
            have b := b'
            clear S' T' R' K' Y' b'
            rw [List.nil_append, show 0 + l1.length + l2.length = (l1 ++ l2).length by rw [List.length_append]; omega] at o9
            obtain ⟨A9, c9', hv9, Q⟩ := SlI.own o9
            rw [List.length_append] at hv9
            subst hv9
            clear o9 o8 g8 g9 k8 R8
            have hzl : l1.length + l2.length ≤ 100 := by omega
            have qs := F.join a0 A9 cap0 c9' l0 (l1 ++ l2) _ S Q HO.out hl1 (by rw [List.length_append]; omega) K
            unfold FoundC at qs
            rw [J1.out, List.length_append] at qs
            rw [hz] at qs
            have qs : Calls Tryz.prog 37 #[.slice a0 l0.length cap0, .slice A9 (l1.length + l2.length) c9'] _ _ := qs
            go_wp2_with (first | go_skip)
            refine qs.mono ?_
            clear qs
            rintro e wx ⟨v, rfl, hv, Iv, Fv, kx⟩
            have Hv := aside hv
            clear hv
            have S' := S.below kx
            have T' := T.below kx
            have R' := R.below kx
            have K' := K.below kx
            have Y' := Y.below kx
            have b' := b.trans (kx.mono b.size)
            clear S T R K Y b kx
            have S := S'
            have T := T'
            have R := R'
            have K := K'
            have Y := Y'
            have b := b'
            clear S' T' R' K' Y' b'
            clear Q
            go_wp2_with (first | go_skip | (refine Cel.wpList_store_new CE rfl _ _ rfl wx _ _ rfl v _ rfl rfl rfl rfl ?_; intro w4 B4 k4 g4 s4; have X4 := R.below k4; have Y4 := T.below k4; clear g4 s4) | (refine wpList_append_ids rfl (.const (.slice none 0 0)) (.tmp 71) rfl w4.heap.size _ 0 [] rfl ⟨rfl, .inl ⟨rfl, rfl⟩⟩ a2 l2.length cap2 l2 rfl rfl X4 (by omega) (Nat.le_refl _) ?_; intro v8 w8 o8 g8; have k8 := below_grown (Below.refl w4.heap.size w4) (Nat.le_refl _) g8 (fun q hq => by cases hq); have R8 := Y4.below k8) | (refine wpList_append_ids rfl (.tmp 72) (.tmp 73) rfl w4.heap.size _ (0 + l2.length) ([] ++ l2) rfl o8 a1 l1.length cap1 l1 rfl rfl R8 (by omega) k8.size ?_; intro v9 w9 o9 g9; have kx := below_grown k8 k8.size g9 (fun q hq => (o8.lt q hq).1)))
            have Bv := B4.below kx
            have kx := k4.trans (kx.mono k4.size)
            have Jv := CmW.In.below Iv kx
            clear B4 Iv k4 X4 Y4
            have S' := S.below kx
            have T' := T.below kx
            have R' := R.below kx
            have K' := K.below kx
            have Y' := Y.below kx
            have b' := b.trans (kx.mono b.size)
            clear S T R K Y b kx
            have S := S'
            have T := T'
            have R := R'
            have K := K'
            have Y := Y'
            have b := b'
            clear S' T' R' K' Y' b'
            rw [List.nil_append, show 0 + l2.length + l1.length = (l2 ++ l1).length by rw [List.length_append]; omega] at o9
            obtain ⟨A9, c9', hv9, Q⟩ := SlI.own o9
            rw [List.length_append] at hv9
            subst hv9
            clear o9 o8 g8 g9 k8 R8
            have hzl2 : l2.length + l1.length ≤ 100 := by omega
            have qs := F.join A3 A9 c3 c9' lr (l2 ++ l1) _ Y Q (fun v hv => HO.out v (HRM.out v hv)) hrl (by rw [List.length_append]; omega) K
            unfold FoundC at qs
            rw [J2.out, List.length_append] at qs
            rw [hz] at qs
            have qs : Calls Tryz.prog 37 #[.slice A3 lr.length c3, .slice A9 (l2.length + l1.length) c9'] _ _ := qs
            go_wp2_with (first | go_skip)
            refine qs.mono ?_
            clear qs
            rintro e wx ⟨u, rfl, hu, Iu, Fu, kx⟩
            have Hu := aside hu
            clear hu
            have S' := S.below kx
            have T' := T.below kx
            have R' := R.below kx
            have K' := K.below kx
            have Y' := Y.below kx
            have Bv' := Bv.below kx
            have Jv' := Jv.below kx
            have b' := b.trans (kx.mono b.size)
            clear S T R K Y Bv Jv b kx
            have S := S'
            have T := T'
            have R := R'
            have K := K'
            have Y := Y'
            have Bv := Bv'
            have Jv := Jv'
            have b := b'
            clear S' T' R' K' Y' Bv' Jv' b'
            clear Q
            go_wp2_with (first | go_skip | (refine Cel.wpList_store_new CE rfl _ _ rfl wx _ _ rfl u _ rfl rfl rfl rfl ?_; intro w4 B4 k4 g4 s4; have X4 := T.below k4; have Y4 := R.below k4; clear g4 s4) | (refine wpList_append_ids rfl (.const (.slice none 0 0)) (.tmp 81) rfl w4.heap.size _ 0 [] rfl ⟨rfl, .inl ⟨rfl, rfl⟩⟩ a1 l1.length cap1 l1 rfl rfl X4 (by omega) (Nat.le_refl _) ?_; intro v8 w8 o8 g8; have k8 := below_grown (Below.refl w4.heap.size w4) (Nat.le_refl _) g8 (fun q hq => by cases hq); have R8 := Y4.below k8) | (refine wpList_append_ids rfl (.tmp 82) (.tmp 83) rfl w4.heap.size _ (0 + l1.length) ([] ++ l1) rfl o8 a2 l2.length cap2 l2 rfl rfl R8 (by omega) k8.size ?_; intro v9 w9 o9 g9; have kx := below_grown k8 k8.size g9 (fun q hq => (o8.lt q hq).1)))
            have Bu := B4.below kx
            have kx := k4.trans (kx.mono k4.size)
            have Ju := CmW.In.below Iu kx
            clear B4 Iu k4 X4 Y4
            have S' := S.below kx
            have T' := T.below kx
            have R' := R.below kx
            have K' := K.below kx
            have Y' := Y.below kx
            have Bv' := Bv.below kx
            have Jv' := Jv.below kx
            have b' := b.trans (kx.mono b.size)
            clear S T R K Y Bv Jv b kx
            have S := S'
            have T := T'
            have R := R'
            have K := K'
            have Y := Y'
            have Bv := Bv'
            have Jv := Jv'
            have b := b'
            clear S' T' R' K' Y' Bv' Jv' b'
            rw [List.nil_append, show 0 + l1.length + l2.length = (l1 ++ l2).length by rw [List.length_append]; omega] at o9
            obtain ⟨A9, c9', hv9, Q⟩ := SlI.own o9
            rw [List.length_append] at hv9
            subst hv9
            clear o9 o8 g8 g9 k8 R8
            have qs := X.anc a0 A9 cap0 c9' l0 (l1 ++ l2) _ S Q HO.out hl2 (by rw [List.length_append]; omega) K
            unfold NewD at qs
            rw [anc_of HC.out, HX.out, List.length_append] at qs
            go_wp2_with (first | go_skip)
            refine qs.mono ?_
            clear qs
            rintro e wx ⟨A8, c8', rfl, Z, kx⟩
            have S' := S.below kx
            have T' := T.below kx
            have R' := R.below kx
            have K' := K.below kx
            have Y' := Y.below kx
            have Bv' := Bv.below kx
            have Jv' := Jv.below kx
            have Bu' := Bu.below kx
            have Ju' := Ju.below kx
            have b' := b.trans (kx.mono b.size)
            clear S T R K Y Bv Jv Bu Ju b kx
            have S := S'
            have T := T'
            have R := R'
            have K := K'
            have Y := Y'
            have Bv := Bv'
            have Jv := Jv'
            have Bu := Bu'
            have Ju := Ju'
            have b := b'
            clear S' T' R' K' Y' Bv' Jv' Bu' Ju' b'
            have qs := F.join a0 A8 cap0 c8' l0 xs _ S Z HO.out hl1 (by omega) K
            unfold FoundC at qs
            rw [J3.out] at qs
            rw [hz] at qs
            have qs : Calls Tryz.prog 37 #[.slice a0 l0.length cap0, .slice A8 xs.length c8'] _ _ := qs
            go_wp2_with (first | go_skip)
            refine qs.mono ?_
            clear qs
            rintro e wx ⟨y, rfl, hy, Iy, Fy, kx⟩
            have Hy := aside hy
            clear hy
            have S' := S.below kx
            have T' := T.below kx
            have R' := R.below kx
            have K' := K.below kx
            have Y' := Y.below kx
            have Bv' := Bv.below kx
            have Jv' := Jv.below kx
            have Bu' := Bu.below kx
            have Ju' := Ju.below kx
            have b' := b.trans (kx.mono b.size)
            clear S T R K Y Bv Jv Bu Ju b kx
            have S := S'
            have T := T'
            have R := R'
            have K := K'
            have Y := Y'
            have Bv := Bv'
            have Jv := Jv'
            have Bu := Bu'
            have Ju := Ju'
            have b := b'
            clear S' T' R' K' Y' Bv' Jv' Bu' Ju' b'
            clear Z Q
            have hzz : (z != z) = false := by cases z <;> rfl
            have HZ : Hid (z = true → putN (r.getD noK) = 0) := aside (by rw [← hz]; exact HN0.out)
            clear hz
            cases z with
            | false =>
              go_wp2_with (first | go_skip | (refine Cel.wpList_store_new CE rfl _ _ rfl wx _ _ rfl y _ rfl rfl rfl rfl ?_; intro w4 B4 k4 g4 s4; clear g4 s4))
              go_ret
              exact ⟨rfl, b.trans (k4.mono b.size)⟩
            | true =>
              have hn0 := HZ.out rfl
              obtain ⟨bs, hbs⟩ : ∃ bs, putB (r.getD noK) = bs := ⟨_, rfl⟩
              have p1 := fun W I => CmA.put_ret v W I Fv
              have p2 := fun W I => CmA.put_ret u W I Fu
              unfold PutOut at p1 p2
              rw [Hv.out, hbs, hn0] at p1
              rw [Hu.out, hbs, hn0] at p2
              have qs := fun W I J => CmA.same_ret v y W I J
              rw [Hv.out, Hy.out, CmR.sameK_self] at qs
              clear hbs hn0
              go_wp2_with (first | go_skip | (refine Cel.wpList_store_new CE rfl _ _ rfl wx _ _ rfl y _ rfl rfl rfl rfl ?_; intro w4 B4 k4 g4 s4; have C4 := Bv.below k4; have I4 := CmW.In.below Iy k4; clear g4 s4) | (refine Cel.wpList_load_box CE rfl _ rfl _ rfl v C4 ?_))
              clear C4 Iy
              have S' := S.below k4
              have T' := T.below k4
              have R' := R.below k4
              have K' := K.below k4
              have Y' := Y.below k4
              have Bv' := Bv.below k4
              have Jv' := Jv.below k4
              have Bu' := Bu.below k4
              have Ju' := Ju.below k4
              have b' := b.trans (k4.mono b.size)
              clear S T R K Y Bv Jv Bu Ju b k4
              have S := S'
              have T := T'
              have R := R'
              have K := K'
              have Y := Y'
              have Bv := Bv'
              have Jv := Jv'
              have Bu := Bu'
              have Ju := Ju'
              have b := b'
              clear S' T' R' K' Y' Bv' Jv' Bu' Ju' b'
              refine (p1 _ Jv).mono ?_
              clear p1
              rintro e wx ⟨A5, c5, rfl, P5, kx⟩
              have S' := S.below kx
              have T' := T.below kx
              have R' := R.below kx
              have K' := K.below kx
              have Y' := Y.below kx
              have Bv' := Bv.below kx
              have Jv' := Jv.below kx
              have Bu' := Bu.below kx
              have Ju' := Ju.below kx
              have B4' := B4.below kx
              have I4' := I4.below kx
              have b' := b.trans (kx.mono b.size)
              clear S T R K Y Bv Jv Bu Ju B4 I4 b kx
              have S := S'
              have T := T'
              have R := R'
              have K := K'
              have Y := Y'
              have Bv := Bv'
              have Jv := Jv'
              have Bu := Bu'
              have Ju := Ju'
              have B4 := B4'
              have I4 := I4'
              have b := b'
              clear S' T' R' K' Y' Bv' Jv' Bu' Ju' B4' I4' b'
              go_wp2_with (first | go_skip | (refine Cel.wpList_load_box CE rfl _ rfl _ rfl u Bu ?_))
              refine (p2 _ Ju).mono ?_
              clear p2
              rintro e wx ⟨A6, c6, rfl, P6, kx⟩
              have S' := S.below kx
              have T' := T.below kx
              have R' := R.below kx
              have K' := K.below kx
              have Y' := Y.below kx
              have Bv' := Bv.below kx
              have Jv' := Jv.below kx
              have Bu' := Bu.below kx
              have Ju' := Ju.below kx
              have B4' := B4.below kx
              have I4' := I4.below kx
              have P5' := P5.below kx
              have b' := b.trans (kx.mono b.size)
              clear S T R K Y Bv Jv Bu Ju B4 I4 P5 b kx
              have S := S'
              have T := T'
              have R := R'
              have K := K'
              have Y := Y'
              have Bv := Bv'
              have Jv := Jv'
              have Bu := Bu'
              have Ju := Ju'
              have B4 := B4'
              have I4 := I4'
              have P5 := P5'
              have b := b'
              clear S' T' R' K' Y' Bv' Jv' Bu' Ju' B4' I4' P5' b'
              have e1 := P5.conv rfl
              have e2 := P6.conv rfl
              go_wp2_with (first | go_skip | (refine RowC.unguard rfl (Cel.wpList_load_box CE rfl _ rfl _ rfl v Bv ?_)) | (refine RowC.unguard rfl (Cel.wpList_load_box CE rfl _ rfl _ rfl y B4 ?_)))
              refine (qs _ Jv I4).mono ?_
              rintro e wz ⟨rfl, kx⟩
              go_wp2_with (first | go_skip)
              go_ret
              exact ⟨rfl, b.trans (kx.mono b.size)⟩
end Go.Proofs.YtechkdhehipliaaGreatDoor.FrT
namespace Go.Proofs.YtechkdhehipliaaGreatDoor.OpenE
set_option maxRecDepth 100000
open Go Go.Deep Go.ChangeShapes Go.WideShapes Go.ChangeAt Go.RowKit IdM Byt IdW OpsM OpsW CmM StW CmW

/-- An event that came in: two numbers of 64 bits. -/
structure GoodE (e : Ev) : Prop where
  node : I64 e.node
  seq : I64 e.seq
section
variable {H : Type} {enc : TypeId × Value → H} {W : World}
theorem open_event {base : Nat} {v : Value} {d : DataW H} {p : List MemPlace}
    (hval : Value.okWide Tryz.prog W .any base 34 v) (h : DataW.Trod enc Tryz.prog W 0 (fun _ => true) true 34 v d p) : ∃ e : Ev, v = .agg (ec e) ∧ GoodE e := by
  obtain ⟨cs, rfl, hsz⟩ := okWide_struct Tryz.underlying34 hval
  obtain ⟨fuel, hf⟩ := h
  obtain ⟨m, k, hx, h0, h1⟩ := OpenK.read_ev Tryz.underlying34 (by kernel_rfl) rfl rfl (by kernel_rfl) (by kernel_rfl) Tryz.underlying3 Tryz.underlying3 fuel _ _ hf
  refine ⟨⟨m, k⟩, ?_, ⟨h0, h1⟩⟩
  have hx2 : cs.toList = [.int .i64 m, .int .i64 k] := by simpa [Value.cells] using hx
  have : cs.toList = (ec ⟨m, k⟩).toList := hx2
  rw [show cs = ec ⟨m, k⟩ from Array.toList_inj.1 this]
end
end Go.Proofs.YtechkdhehipliaaGreatDoor.OpenE
