/- What the document's answers Both, some, Common and Without return: contracts. | What the document's Base and Front of package front return: contracts. | What the document's Join and Head of package front return: contracts. -/
import Derived.Test.YtechkdhehipliaaGreatDoorDgCJ2
import Derived.Test.YtechkdhehipliaaGreatDoorDgGJ4
import Derived.Test.YtechkdhehipliaaGreatDoorFrIJ3
namespace Go.Proofs.YtechkdhehipliaaGreatDoor.IdY
set_option maxRecDepth 100000
open Go Go.Sort Go.RowKit IdM Byt IdW IdC IdV IdB IdX

theorem NewI.mono {l : List Idn} {w w1 : World} {e : Ending} {w' : World} (h : NewI l w1 e w') (hb : Below w.heap.size w w1) : NewI l w e w' := by
  obtain ⟨v, rfl, h1, h2⟩ := h
  exact ⟨v, rfl, owns_less h1 hb.size, hb.trans (h2.mono hb.size)⟩


theorem filter_take_succ (p : Idn → Bool) {l : List Idn} {k : Nat} (h : k < l.length) : (l.take (k + 1)).filter p = (l.take k).filter p ++ [l.getD k nought].filter p := by
  rw [List.take_add_one, List.filter_append, List.getD_eq_getElem?_getD, List.getElem?_eq_getElem h]
  rfl
theorem filter_take_le (p : Idn → Bool) (l : List Idn) (k : Nat) : ((l.take k).filter p).length ≤ k := Nat.le_trans (List.length_filter_le _ _) (by simp; omega)

set_option maxHeartbeats 1000000 in
theorem some_ret (A A' : Option Addr) (cap cap' : Nat) (l l' : List Idn) (want : Bool) (w : World) (S : SlI w A cap l) (S' : SlI w A' cap' l') (hl : l.length ≤ 500) :
    Calls Tryz.prog 92 #[.slice A l.length cap, .slice A' l'.length cap', .bool want] w fun e w' => NewI (IdM.sort (l.filter fun x => decide (x ∈ l') == want)) w e w' := by
  obtain ⟨p, hp⟩ : ∃ p : Idn → Bool, (fun x => decide (x ∈ l') == want) = p := ⟨_, rfl⟩
  rw [hp]
  have HP := aside hp
  clear hp
  go_enter Tryz.func92, Tryz.ntmps92
  go_wp2_with fail
  go_loopw [7, 8] (fun v i wr => ∃ k : Nat, k ≤ l.length ∧ i = .int .i64 k ∧ wr.ownsRow w.heap.size 42 32 v ((l.take k).filter p).length (bv (flat ((l.take k).filter p))) ∧ Below w.heap.size w wr) (fun _ i _ => l.length - (intOf i).toNat)
  case atStart => exact ⟨0, Nat.zero_le _, rfl, nil_own _ _, Below.refl _ _⟩
  case round =>
    obtain ⟨k, hk, rfl, hrow, kb⟩ := hrel
    have hle := filter_take_le p l k
    by_cases hlt : k < l.length
    · have hstep := filter_take_succ p hlt
      obtain ⟨b, off, rfl, hbw, hrg⟩ := S.plain (by omega)
      have hrg1 := range_below (hrg k hlt) kb
      obtain ⟨x, hx⟩ : ∃ x, l.getD k nought = x := ⟨_, rfl⟩
      rw [hx] at hrg1 hstep
      have HSt := aside hstep
      generalize (l.take k).filter p = acc at hrow hle HSt
      have p0 : (k : Int) < l.length := by omega
      have m0 : ((k : Int)).toNat = k := by omega
      clear hrg S hx hstep
      have hpx : p x = (decide (x ∈ l') == want) := by rw [← HP.out]
      go_wp2_with (refine wpList_load_id rfl _ rfl _ _ rfl x hrg1 ?_)
      refine (rhas_ret A' cap' l' x wr (S'.below kb)).mono ?_
      rintro e w1 ⟨rfl, k1⟩
      have hrg2 := range_below hrg1 k1
      have hrow1 := owns_below hrow k1
      have kb1 := kb.trans (k1.mono kb.size)
      cases hq : p x with
      | true =>
        rw [hq] at hpx
        generalize decide (x ∈ l') = c at hpx
        have hpx' := hpx.symm
        clear hpx
        go_wp2_with (first | (refine wpList_load_id rfl _ rfl _ _ rfl x hrg2 ?_) | (refine wpList_build1 rfl _ rfl x rfl ?_) | (refine wpList_append_ids rfl _ _ rfl w.heap.size _ _ acc rfl (hrow1.alloc _) _ 1 1 [x] rfl rfl (SlI.new1 _ x _) (by omega) (by have := kb1.size; simp; omega) ?_; intro v6 w6 o6 g6))
        go_roundw
        case rel =>
          refine ⟨k + 1, by omega, by go_num, ?_, below_grown (kb1.alloc kb1.size _) (by have := kb1.size; simp; omega) g6 (fun k hk => (hrow.lt k hk).1)⟩
          have e : [x].filter p = [x] := by simp [hq]
          rw [HSt.out, e]
          simpa using o6
        case measure => simp [intOf]; omega
      | false =>
        rw [hq] at hpx
        generalize decide (x ∈ l') = c at hpx
        have hpx' := hpx.symm
        clear hpx
        go_wp2_with fail
        go_roundw
        case rel =>
          refine ⟨k + 1, by omega, by go_num, ?_, kb1⟩
          have e : [x].filter p = [] := by simp [hq]
          rw [HSt.out, e, List.append_nil]
          exact hrow1
        case measure => simp [intOf]; omega
    · have e : k = l.length := by omega
      subst e
      rw [List.take_length] at hrow hle
      obtain ⟨A6, c6, rfl, S6⟩ := SlI.own hrow
      go_wp2_with fail
      refine (rsort_ret A6 c6 (l.filter p) wr S6 (by omega)).mono ?_
      rintro e w7 h7
      obtain ⟨v, rfl, o7, k7⟩ := NewI.mono h7 kb
      go_wp2_with fail
      go_ret
      exact ⟨_, rfl, o7, k7⟩

theorem rcommon_ret (A A' : Option Addr) (cap cap' : Nat) (l l' : List Idn) (w : World) (S : SlI w A cap l) (S' : SlI w A' cap' l') (hl : l.length ≤ 500) :
    Calls Tryz.prog 68 #[.slice A l.length cap, .slice A' l'.length cap'] w fun e w' => NewI (common l l') w e w' := by
  have q := some_ret A A' cap cap' l l' true w S S' hl
  have e : (fun x => decide (x ∈ l') == true) = fun x => decide (x ∈ l') := by funext x; simp
  rw [e] at q
  go_enter Tryz.func68, Tryz.ntmps68
  go_wp2_with fail
  refine q.mono ?_
  rintro e w1 ⟨v, rfl, o1, k1⟩
  go_wp2_with fail
  go_ret
  exact ⟨_, rfl, o1, k1⟩
end Go.Proofs.YtechkdhehipliaaGreatDoor.IdY
namespace Go.Proofs.YtechkdhehipliaaGreatDoor.FrR
set_option maxRecDepth 100000
open Go Go.Sort Go.RowKit Byt IdM IdW IdV OpsM OpsW CmM StW CmW CmX CmY DgM DgN DgW DgR DgC DgF DgG FrM FrN FrH FrU
open Classical

theorem ancC_short (l : List Com) (a : List Idn) : (ancC l a).length ≤ l.length := by
  unfold ancC
  by_cases C : Closed hashK l
  · rw [if_pos C]
    exact anc_short C a
  · rw [if_neg C]
    exact Nat.zero_le _
set_option maxRecDepth 100000 in
set_option maxHeartbeats 16000000 in
theorem base_ret (A A1 A2 : Option Addr) (cap cap1 cap2 : Nat) (l : List Cv) (a b : List Idn) (w : World) (S : SlK w A cap l) (T : SlI w A1 cap1 a) (R : SlI w A2 cap2 b) (ho : ∀ v ∈ l, CmR.Okay v.c) (hl : l.length ≤ 100) :
    Calls Tryz.prog 36 #[.slice A l.length cap, .slice A1 a.length cap1, .slice A2 b.length cap2] w (NewD (baseC (coms l) a b) w) := by
  have hs := ancC_short (coms l) a
  rw [coms_len] at hs
  have q1 := anc_ret A A1 cap cap1 l a w S T ho (by omega)
  have q2 := fun W S T => anc_ret A A2 cap cap2 l b W S T ho (by omega)
  unfold baseC
  obtain ⟨xs, hxs⟩ : ∃ xs, ancC (coms l) a = xs := ⟨_, rfl⟩
  obtain ⟨ys, hys⟩ : ∃ ys, ancC (coms l) b = ys := ⟨_, rfl⟩
  rw [hxs] at hs q1
  rw [hys] at q2
  rw [hxs, hys]
  have hx2 : xs.length ≤ 500 := by omega
  have q3 := fun B1 B2 d1 d2 W S T => IdY.rcommon_ret B1 B2 d1 d2 xs ys W S T hx2
  obtain ⟨M, hM⟩ : ∃ M, common xs ys = M := ⟨_, rfl⟩
  unfold NewI at q3
  rw [hM] at q3 ⊢
  clear hxs hys hs hM
  unfold NewD at q1 q2 ⊢
  go_enter Tryz.func36, Tryz.ntmps36
  go_wp2_with (first | go_skip)
  refine q1.mono ?_
  rintro e w1 ⟨B1, d1, rfl, U, k1⟩
  go_wp2_with (first | go_skip)
  refine (q2 _ (S.below k1) (R.below k1)).mono ?_
  rintro e w2 ⟨B2, d2, rfl, V, k2⟩
  go_wp2_with (first | go_skip)
  refine (q3 _ _ _ _ _ (U.below k2) V).mono ?_
  rintro e w3 ⟨v3, rfl, o3, k3⟩
  obtain ⟨B3, d3, rfl, Z⟩ := SlI.own o3
  clear o3
  go_wp2_with (first | go_skip)
  go_ret
  exact ⟨B3, d3, rfl, Z, (k1.trans (k2.mono k1.size)).trans (k3.mono (k1.trans (k2.mono k1.size)).size)⟩
theorem stood_next {l : List Com} {k : Nat} {c : Com} {h : Idn} (hx : l[k]? = some c) : (∃ d ∈ l.take (k + 1), h ∈ d.ps) ↔ (∃ d ∈ l.take k, h ∈ d.ps) ∨ h ∈ c.ps := by
  obtain ⟨hk, e⟩ := List.getElem?_eq_some_iff.1 hx
  rw [List.take_succ_eq_append_getElem hk, e]
  constructor
  · rintro ⟨d, hd, h1⟩
    rcases List.mem_append.1 hd with hd | hd
    · exact .inl ⟨d, hd, h1⟩
    · rw [List.mem_singleton.1 hd] at h1
      exact .inr h1
  · rintro (⟨d, hd, h1⟩ | h1)
    · exact ⟨d, List.mem_append_left _ hd, h1⟩
    · exact ⟨c, by simp, h1⟩
theorem stood_all {l : List Com} {n : Nat} {h : Idn} (hn : l.length ≤ n) : (∃ d ∈ l.take n, h ∈ d.ps) ↔ ¬ Last l h := by
  rw [List.take_of_length_le hn]
  constructor
  · rintro ⟨d, hd, h1⟩ hl
    exact hl d hd h1
  · intro h1
    apply Classical.byContradiction
    intro h2
    exact h1 fun d hd h3 => h2 ⟨d, hd, h3⟩
set_option maxRecDepth 100000 in
set_option maxHeartbeats 16000000 in
theorem front_ret (A : Option Addr) (cap : Nat) (l : List Cv) (w : World) (S : SlK w A cap l) (ho : ∀ v ∈ l, CmR.Okay v.c) (hl : l.length ≤ 1000) :
    Calls Tryz.prog 34 #[.slice A l.length cap] w (NewD (frontC (coms l)) w) := by
  have hmax := S.len
  have hcl := closed_ret A cap l w S ho hl
  obtain ⟨m, hm⟩ : ∃ m, frontC (coms l) = m := ⟨_, rfl⟩
  rw [hm]
  unfold NewD
  by_cases hC : Closed hashK (coms l)
  · rw [decide_eq_true hC] at hcl
    have hcm := closed_may hC
    have hids := fun W (T : SlK W A cap l) => ids_ret A cap l W T ho hl
    unfold NewD at hids
    rw [idsD_all hcm] at hids
    have hm2 : IdM.sort (((coms l).map hashK).filter fun x => decide (Last (coms l) x)) = m := by rw [← hm, frontC, if_pos hC]; rfl
    have hps : ∀ (k : Nat) (x : Cv), l[k]? = some x → x.c.ps.length ≤ 8 := fun k x hx => (lineB_iff.1 (mayK_iff.1 (hC.may _ (List.mem_of_getElem? (coms_at hx)))).1).2.2.1
    obtain ⟨all, hal⟩ : ∃ all, (coms l).map hashK = all := ⟨_, rfl⟩
    have hallen : all.length = l.length := by rw [← hal, List.length_map, coms_len]
    rw [hal] at hids hm2
    rw [hallen] at hids
    have HALL := aside hallen
    have HM := aside hm2
    have HPS := aside hps
    clear hm hC hcm hal ho hm2 hps
    go_enter Tryz.func34, Tryz.ntmps34
    go_wp2_with (first | go_skip)
    refine hcl.mono ?_
    rintro e w1 ⟨rfl, k1⟩
    clear hcl
    go_wp2_with (first | go_skip)
    refine (hids _ (S.below k1)).mono ?_
    rintro e w2 ⟨A1, c1, rfl, T1, k2⟩
    have b2 := k1.trans (k2.mono k1.size)
    have HS := aside (S.below b2)
    have HT1 := aside T1
    clear hids S T1 k1 k2 hallen
    go_wp2_with (first | go_skip)
    go_loopw [5, 6] (fun o i wr => ∃ (k n : Nat), k ≤ l.length ∧ n ≤ k ∧ i = .int .i64 k ∧ Hid (wr.ownsRow w2.heap.size 42 32 o n (bv (flat ((all.take k).filter fun x => decide (Last (coms l) x))))) ∧ Below w2.heap.size w2 wr) (fun _ i _ => l.length - (intOf i).toNat)
    case atStart => exact ⟨0, 0, Nat.zero_le _, Nat.zero_le _, rfl, aside ⟨rfl, .inl ⟨rfl, rfl⟩⟩, Below.refl _ _⟩
    case round =>
      rename World => wr
      obtain ⟨k, n, hk, hnk, rfl, HO, kb⟩ := hrel
      by_cases hlt : k < l.length
      · obtain ⟨a1, o1, rfl, hb1, hr1⟩ := SlI.plain HT1.out (by rw [HALL.out]; omega)
        obtain ⟨bb, off, rfl, _, hrg⟩ := HS.out.plain (by omega)
        have HRG := aside hrg
        obtain ⟨h, hh⟩ : ∃ h, all[k]? = some h := ⟨_, List.getElem?_eq_getElem (by rw [HALL.out]; exact hlt)⟩
        have ra0 := hr1 k (by rw [HALL.out]; exact hlt)
        rw [show all.getD k nought = h by rw [List.getD_eq_getElem?_getD, hh]; rfl] at ra0
        have p0 : (k : Int) < l.length := by omega
        have q0 : (k : Int) < all.length := by rw [HALL.out]; exact p0
        have m0 : ((k : Int)).toNat = k := by omega
        have HN := aside (filter_next (fun x : Idn => decide (Last (coms l) x)) hh)
        have HZ0 : Hid (false = true ↔ ∃ d ∈ (coms l).take 0, h ∈ d.ps) := aside ⟨fun h => absurd h (by decide), fun ⟨d, hd, _⟩ => absurd hd (by simp)⟩
        clear hr1 hh hrg
        go_wp2_with (first | go_skip)
        go_loopw [7, 8] (fun bo i wx => ∃ (j : Nat) (z : Bool), j ≤ l.length ∧ i = .int .i64 j ∧ bo = .bool z ∧ Hid (z = true ↔ ∃ d ∈ (coms l).take j, h ∈ d.ps) ∧ Below wr.heap.size wr wx) (fun _ i _ => l.length - (intOf i).toNat)
        case atStart => exact ⟨0, false, Nat.zero_le _, rfl, rfl, HZ0, Below.refl _ _⟩
        case round =>
          rename World => wx
          clear HZ0
          obtain ⟨j, z, hj, rfl, rfl, HZ, kc⟩ := hrel
          have kd := kb.trans (kc.mono kb.size)
          by_cases hjl : j < l.length
          · obtain ⟨x, hx⟩ : ∃ x, l[j]? = some x := ⟨_, List.getElem?_eq_getElem hjl⟩
            have pj : (j : Int) < l.length := by omega
            have mj : ((j : Int)).toNat = j := by omega
            have rx := range_on (HRG.out j x hx) kd
            have cps := DgK.cell_ps_at rx
            have IX := ((HS.out.each x (List.mem_of_getElem? hx)).1).below kd
            have hp8 := HPS.out j x hx
            have HSN := aside (stood_next (h := h) (coms_at hx))
            obtain ⟨ps, hpse⟩ : ∃ ps, x.c.ps = ps := ⟨_, rfl⟩
            obtain ⟨ap, hap⟩ : ∃ ap, x.a = ap := ⟨_, rfl⟩
            obtain ⟨kp, hkp⟩ : ∃ kp, x.k = kp := ⟨_, rfl⟩
            unfold CmW.In at IX
            rw [hpse] at HSN hp8
            rw [hpse, hap, hkp] at cps IX
            have ra := IdW.range_below ra0 kd
            obtain ⟨z2, hz2⟩ : ∃ z, decide (h ∈ ps) = z := ⟨_, rfl⟩
            have HZ2 := aside hz2
            clear hx hpse hap hkp hz2 rx
            go_wp2_with (first | go_skip)
            refine Grow.region [(0, true), (1, true), (2, true), (3, true), (4, true), (5, true), (6, true), (7, true), (8, true), (9, false), (10, true)] (by kernel_rfl) (by kernel_rfl) rfl (by kernel_rfl) (by intro c a d v w h; cases d <;> exact h) ?_
            have ra' : wx.drew.rangeAt a1 (o1 + k * 32) (bv h.1) := ra
            have kx := below_drew1 (Below.refl wx.heap.size wx)
            have cps' := (kx.cell (block_lt_of_cell cps)).trans cps
            have ke := below_drew1 kc
            have IX' := IX.below (below_drew1 (Below.refl wx.heap.size wx))
            clear kx
            generalize wx.drew = wz at ra' cps' ke IX' ⊢
            have cq := fun d os => ((below_regrown wz d os).cell (block_lt_of_cell cps')).trans cps'
            repeat (first | (refine reads_id rfl rfl _ rfl _ _ rfl h ra' ?_; simp only [Act.put, List.setIfInBounds_toArray, List.set_cons_succ, List.set_cons_zero]) | (refine Grow.reads rfl rfl ?_; go_big_quiet_step (fail); refine wpQuiet_nil ?_))
            have hhas := rhas_ret ap kp ps h _ IX'
            rw [HZ2.out] at hhas
            refine Grow.acts rfl ?_
            go_wp2_with (first | go_skip)
            refine hhas.mono ?_
            clear hhas
            rintro e w5 ⟨rfl, k5⟩
            go_wp2_with (first | go_skip)
            refine ⟨k5, ?_⟩
            have b5 := ke.trans (k5.mono ke.size)
            clear ra ra' cps cps' cq IX IX' k5 ke kc
            repeat (refine Grow.reads rfl rfl ?_; go_big_quiet_step (fail); refine wpQuiet_nil ?_)
            refine Grow.ends ?_
            have HZn : Hid ((z || z2) = true ↔ ∃ d ∈ (coms l).take (j + 1), h ∈ d.ps) := aside (by
              rw [HSN.out, ← HZ.out, Bool.or_eq_true, ← HZ2.out, decide_eq_true_eq])
            clear HZ HZ2 HSN
            cases z with
            | true =>
              go_wp2_with (first | go_skip)
              go_roundw
              case rel => exact ⟨j + 1, true, by omega, by go_num, rfl, HZn, b5⟩
              case measure => simp [intOf]; omega
            | false =>
              go_wp2_with (first | go_skip)
              go_roundw
              case rel => exact ⟨j + 1, z2, by omega, by go_num, rfl, HZn, b5⟩
              case measure => simp [intOf]; omega
          · have pj : ¬ (j : Int) < l.length := by omega
            have HZB : Hid (z = true ↔ ¬ Last (coms l) h) := aside (by rw [HZ.out]; exact stood_all (by rw [coms_len]; omega))
            have O5 := aside (owns_below HO.out kc)
            have ra5 := IdW.range_below ra0 kd
            clear HZ HO kc
            cases z with
            | true =>
              have HO2 := aside (show wx.ownsRow w2.heap.size 42 32 _ n (bv (flat ((all.take (k + 1)).filter fun x => decide (Last (coms l) x)))) by rw [HN.out, if_neg (fun hc => HZB.out.1 rfl (of_decide_eq_true hc)), List.append_nil]; exact O5.out)
              clear O5 HN HZB ra5
              go_wp2_with (first | go_skip)
              go_roundw
              case rel => exact ⟨k + 1, n, by omega, by omega, by go_num, HO2, kd⟩
              case measure => simp [intOf]; omega
            | false =>
              obtain ⟨ms, hms⟩ : ∃ ms, (all.take k).filter (fun x => decide (Last (coms l) x)) = ms := ⟨_, rfl⟩
              rw [hms] at O5 HN
              have HN2 : Hid ((all.take (k + 1)).filter (fun x => decide (Last (coms l) x)) = ms ++ [h]) := aside (by rw [HN.out, if_pos (decide_eq_true (Classical.byContradiction fun hc => absurd (HZB.out.2 hc) (by decide)))])
              clear HN HZB hms
              go_wp2_with (first | go_skip | (refine wpList_load_id rfl _ rfl _ _ rfl h ra5 ?_) | (refine build_one rfl _ rfl h rfl ?_; intro w6 S6 k6; have b6 := kd.trans (k6.mono kd.size); have O6 := aside (owns_below O5.out k6)) | (refine wpList_append_ids rfl (.tmp 44) (.tmp 49) rfl w2.heap.size _ n ms rfl O6.out _ 1 1 [h] rfl rfl S6 (by omega) b6.size ?_; intro v7 w7 o7 g7))
              have b7 : Below w2.heap.size w2 w7 := below_grown b6 b6.size g7 (fun q hq => (O6.out.lt q hq).1)
              have HO7 := aside (show w7.ownsRow w2.heap.size 42 32 v7 (n + 1) (bv (flat ((all.take (k + 1)).filter fun x => decide (Last (coms l) x)))) by rw [HN2.out]; exact o7)
              clear O5 O6 o7 g7 b6 S6 HN2 ra5
              go_roundw
              case rel => exact ⟨k + 1, n + 1, by omega, by omega, by go_num, HO7, b7⟩
              case measure => simp [intOf]; omega
      · have HO2 := HO.out
        rw [List.take_of_length_le (by rw [HALL.out]; omega)] at HO2
        obtain ⟨ms, hms⟩ : ∃ ms, all.filter (fun x => decide (Last (coms l) x)) = ms := ⟨_, rfl⟩
        have hmsl : ms.length ≤ 1000 := by rw [← hms]; exact Nat.le_trans (List.length_filter_le _ _) (by rw [HALL.out]; exact hl)
        have hm := HM.out
        rw [hms] at HO2 hm
        obtain ⟨A6, c6, rfl, S6⟩ := SlI.own HO2
        have hst := IdX.rsort_ret A6 c6 ms _ S6 hmsl
        rw [hm] at hst
        unfold NewI at hst
        have b4 := b2.trans (kb.mono b2.size)
        have pn : ¬ (k : Int) < l.length := by omega
        clear HO HO2 S6 hms hm hmsl
        go_wp2_with (first | go_skip)
        refine hst.mono ?_
        rintro e w8 ⟨v8, rfl, o8, k8⟩
        obtain ⟨A8, c8, rfl, S8⟩ := SlI.own o8
        clear o8
        go_wp2_with (first | go_skip)
        go_ret
        exact ⟨A8, c8, rfl, S8, b4.trans (k8.mono b4.size)⟩
  · rw [decide_eq_false hC] at hcl
    have HM : Hid (m = []) := aside (by rw [← hm, frontC, if_neg hC])
    clear hm hC ho S
    go_enter Tryz.func34, Tryz.ntmps34
    go_wp2_with (first | go_skip)
    refine hcl.mono ?_
    rintro e w1 ⟨rfl, k1⟩
    clear hcl
    go_wp2_with (first | go_skip)
    go_ret
    exact ⟨none, 0, by rw [HM.out]; rfl, by rw [HM.out]; exact SlI.nil _, k1⟩
end Go.Proofs.YtechkdhehipliaaGreatDoor.FrR
namespace Go.Proofs.YtechkdhehipliaaGreatDoor.FrG
set_option maxRecDepth 100000
open Go Go.Sort Go.RowKit Byt IdM IdW IdV OpsM OpsW CmM StW CmW CmX CmY DgM DgN DgX DgW DgR DgC DgF DgG FrM FrN FrH FrU FrR FrI
open Classical

set_option maxRecDepth 100000 in
set_option maxHeartbeats 32000000 in
theorem join_ret (A A' : Option Addr) (cap cap' : Nat) (l : List Cv) (a : List Idn) (w : World) (S : SlK w A cap l) (T : SlI w A' cap' a) (ho : ∀ v ∈ l, CmR.Okay v.c) (hl : l.length ≤ 100) :
    Calls Tryz.prog 38 #[.slice A l.length cap, .slice A' a.length cap'] w (FoundC (joinC (coms l) a) w) := by
  have hmax := S.len
  have q1 := anc_ret A A' cap cap' l a (w.alloc (.cells #[.int .i64 0, .int .i64 0, .int .i64 0, .slice none 0 0, .int .i64 0, .string ⟨#[]⟩, .string ⟨#[]⟩, .int .i64 0] 38)) (S.below (StW.below_alloc _ _)) (T.below (StW.below_alloc _ _)) ho (by omega)
  have C0 : Cel.Box CE (w.alloc (.cells #[.int .i64 0, .int .i64 0, .int .i64 0, .slice none 0 0, .int .i64 0, .string ⟨#[]⟩, .string ⟨#[]⟩, .int .i64 0] 38)) w.heap.size noV := Cel.Box.new (E := CE) w noV _
  have b0 := StW.below_alloc w (.cells #[.int .i64 0, .int .i64 0, .int .i64 0, .slice none 0 0, .int .i64 0, .string ⟨#[]⟩, .string ⟨#[]⟩, .int .i64 0] 38)
  unfold NewD at q1
  unfold FoundC
  obtain ⟨r, hr⟩ : ∃ r, joinC (coms l) a = r := ⟨_, rfl⟩
  rw [hr]
  by_cases hx : ancC (coms l) a = []
  · have hrn := join_none hx
    rw [hr] at hrn
    subst hrn
    rw [hx] at q1
    clear hr hx ho
    go_enter Tryz.func38, Tryz.ntmps38
    go_wp2_with (first | go_skip)
    refine q1.mono ?_
    rintro e w1 ⟨A1, c1, rfl, T1, k1⟩
    have C1 := C0.below k1
    have b1 := b0.trans (k1.mono b0.size)
    clear q1 C0 b0 k1 T1
    go_wp2_with (first | go_skip | (refine Cel.wpList_store_box CE rfl _ _ rfl w.heap.size rfl noV C1 noV rfl ?_; intro w9 R9 f9 g9 s9))
    exact bodyPost_ret (v := .tuple #[.agg (cc noV), .bool false]) (results_cb Tryz.results38 _ _ w.heap.size noV _ rfl rfl R9) rfl ⟨noV, rfl, rfl, CmW.In.none _, fit_noK, b1.trans (f9 _ (Nat.le_refl _))⟩
  · have hC : Closed hashK (coms l) := Classical.byContradiction fun h => hx (by rw [ancC, if_neg h])
    have hx' : anc hashK (coms l) a ≠ [] := by rw [ancC, if_pos hC] at hx; exact hx
    have hf1 := tops_some hC hx'
    have hf8 := tops_few hC a
    have hti := tops_is hC a
    have hin : ∀ x ∈ tops hashK (coms l) a, x ∈ (coms l).map hashK := fun x h => tops_in h
    have hrj : joinF hashK (coms l) (tops hashK (coms l) a) = r := by rw [← hr, joinC, join, if_pos hC]
    obtain ⟨f, hf⟩ : ∃ f, tops hashK (coms l) a = f := ⟨_, rfl⟩
    have hxs := ancC_short (coms l) a
    have hpm : ∀ c ∈ partC (coms l) (ancC (coms l) a), c ∈ coms l := fun c hc => by rw [partC, if_pos hC] at hc; exact (mem_part.1 hc).1
    have hpl : (partC (coms l) (ancC (coms l) a)).length ≤ l.length := by rw [partC, if_pos hC, ← coms_len]; exact List.length_filter_le _ _
    obtain ⟨xs, hxs2⟩ : ∃ xs, ancC (coms l) a = xs := ⟨_, rfl⟩
    have hml := most_low hC (f := f)
    rw [hf] at hf1 hf8 hti hin hrj
    rw [hxs2] at hx hti q1 hxs hpm hpl
    rw [coms_len] at hxs
    have hxl : ¬ (xs.length : Int) = 0 := fun h => hx (List.eq_nil_of_length_eq_zero (by omega))
    have HC := aside hC
    have HIN := aside hin
    have HRJ := aside hrj
    have HTI := aside hti
    have HPM := aside hpm
    have HPL := aside hpl
    have HO := aside ho
    clear hr hx hx' hC hin hrj hti hf hxs2 hpm hpl ho
    go_enter Tryz.func38, Tryz.ntmps38
    go_wp2_with (first | go_skip)
    refine q1.mono ?_
    rintro e w1 ⟨A1, c1, rfl, T1, k1⟩
    have C1 := C0.below k1
    have b1 := b0.trans (k1.mono b0.size)
    clear q1 C0 b0 k1
    go_wp2_with (first | go_skip)
    refine (part_ret A A1 cap c1 l xs w1 (S.below b1) T1 HO.out (by omega)).mono ?_
    rintro e w2 ⟨A2, c2, lp, rfl, U2, hlp, k2⟩
    have C2 := C1.below k2
    have b2 := b1.trans (k2.mono b1.size)
    have hok : ∀ v ∈ lp, CmR.Okay v.c := fun v hv => by
      have h1 : v.c ∈ coms lp := List.mem_map_of_mem hv
      rw [hlp] at h1
      obtain ⟨u, hu, e⟩ := List.mem_map.1 (HPM.out _ h1)
      rw [← e]
      exact HO.out u hu
    have q3 := front_ret A2 c2 lp w2 U2 hok (by have := HPL.out; rw [← hlp, coms_len] at this; omega)
    rw [hlp, HTI.out] at q3
    unfold NewD at q3
    clear hok hlp C1 b1 T1 U2 k2
    go_wp2_with (first | go_skip)
    refine q3.mono ?_
    rintro e w3 ⟨A3, c3, rfl, T3, k3⟩
    have C3 := C2.below k3
    have b3 := b2.trans (k3.mono b2.size)
    clear q3 C2 b2 k3
    go_wp2_with (first | go_skip)
    go_loopw [8, 9] (fun go i wr => ∃ k : Nat, k ≤ f.length ∧ (f.length = 1 → k = 0) ∧ i = .int .i64 k ∧ go = .int .i64 (most ((f.take k).map (gAt hashK (coms l)))) ∧ Cel.Box CE wr w.heap.size noV ∧ Below w3.heap.size w3 wr ∧ Below w.heap.size w wr) (fun _ i _ => f.length - (intOf i).toNat)
    case atStart => exact ⟨0, Nat.zero_le _, fun _ => rfl, rfl, rfl, C3, Below.refl _ _, b3⟩
    case round =>
      rename World => wr
      obtain ⟨k, hk, hk1, rfl, rfl, C4, k4, b4⟩ := hrel
      clear C3 b3
      by_cases hlt : k < f.length
      · obtain ⟨a1, o1, rfl, hb1, hr1⟩ := SlI.plain T3 (by omega)
        obtain ⟨x, hx⟩ : ∃ x, f[k]? = some x := ⟨_, List.getElem?_eq_getElem hlt⟩
        have ra := IdW.range_below (hr1 k hlt) k4
        rw [show f.getD k nought = x by rw [List.getD_eq_getElem?_getD, hx]; rfl] at ra
        have p0 : (k : Int) < f.length := by omega
        have m0 : ((k : Int)).toNat = k := by omega
        obtain ⟨d, hdl, hd, hgd⟩ := found_at HC.out (HIN.out x (List.mem_of_getElem? hx))
        have q4 := find_ret A cap l x wr (S.below b4) HO.out (by omega)
        rw [hd] at q4
        unfold FoundC at q4
        have HN := aside (most_next (l := coms l) hx)
        rw [hgd] at HN
        have HL1 : Hid (f.length = 1 → r = some d) := aside fun h => by
          rw [← HRJ.out, joinF_one h (x := x) (by have := hk1 h; subst this; exact hx), ← findC_look HC.out, hd]
        obtain ⟨g, hg⟩ : ∃ g, most ((f.take k).map (gAt hashK (coms l))) = g := ⟨_, rfl⟩
        rw [hg] at HN ⊢
        clear hr1 hx hdl hd hgd hg
        go_wp2_with (first | go_skip | (refine wpList_load_id rfl _ rfl _ _ rfl x ra ?_))
        refine q4.mono ?_
        rintro e w5 ⟨v, rfl, hv, IV, FV, k5⟩
        have hv : v.c = d := hv
        have C5 := C4.below k5
        have k5' := k4.trans (k5.mono k4.size)
        have b5 := b4.trans (k5.mono b4.size)
        clear q4 C4 k4 b4 k5 ra
        by_cases h1 : f.length = 1
        · have hr1 := HL1.out h1
          have p1 : (f.length : Int) = 1 := by omega
          go_wp2_with (first | go_skip | (refine Cel.wpList_store_new CE rfl _ _ rfl w5 _ _ rfl v _ rfl rfl rfl rfl ?_; intro w6 B6 k6 g6 s6; have C6 := C5.below k6; have b6 := b5.trans (k6.mono b5.size); have IV6 := CmW.In.below IV k6; clear g6 s6) | (refine Cel.wpList_load_box CE rfl _ rfl _ rfl v B6 ?_) | (refine Cel.wpList_store_box CE rfl _ _ rfl w.heap.size rfl noV C6 v rfl ?_; intro w9 R9 f9 g9 s9))
          have b9 := f9 w.heap.size (Nat.le_refl _)
          exact bodyPost_ret (v := .tuple #[.agg (cc v), .bool true]) (results_cb Tryz.results38 _ _ w.heap.size v _ rfl rfl R9) rfl ⟨v, by rw [hr1]; rfl, by rw [hr1]; exact hv, CmD.sli_far IV6 (CmD.no_cm C6) g9, FV, b6.trans b9⟩
        · have p1 : ¬ (f.length : Int) = 1 := by omega
          by_cases hgt : g < d.gen
          · have HN2 : Hid (most ((f.take (k + 1)).map (gAt hashK (coms l))) = d.gen) := aside (by rw [HN.out]; omega)
            clear HN HL1
            go_wp2_with (first | go_skip | (refine Cel.wpList_store_new CE rfl _ _ rfl w5 _ _ rfl v _ rfl rfl rfl rfl ?_; intro w6 B6 k6 g6 s6; have C6 := C5.below k6; have k6' := k5'.trans (k6.mono k5'.size); have b6 := b5.trans (k6.mono b5.size); have cg := cell_gen B6; rw [hv] at cg; clear g6 s6))
            go_roundw
            case rel => exact ⟨k + 1, by omega, fun h => absurd h h1, by go_num, by rw [HN2.out], C6, k6', b6⟩
            case measure => simp [intOf]; omega
          · have HN2 : Hid (most ((f.take (k + 1)).map (gAt hashK (coms l))) = g) := aside (by rw [HN.out]; omega)
            clear HN HL1
            go_wp2_with (first | go_skip | (refine Cel.wpList_store_new CE rfl _ _ rfl w5 _ _ rfl v _ rfl rfl rfl rfl ?_; intro w6 B6 k6 g6 s6; have C6 := C5.below k6; have k6' := k5'.trans (k6.mono k5'.size); have b6 := b5.trans (k6.mono b5.size); have cg := cell_gen B6; rw [hv] at cg; clear g6 s6))
            go_roundw
            case rel => exact ⟨k + 1, by omega, fun h => absurd h h1, by go_num, by rw [HN2.out], C6, k6', b6⟩
            case measure => simp [intOf]; omega
      · have hke : k = f.length := by omega
        have h2 : 2 ≤ f.length := by
          by_cases h1 : f.length = 1
          · have := hk1 h1; omega
          · omega
        have pn : ¬ (k : Int) < f.length := by omega
        have hgl := hml HIN.out
        have hg0 := most_nonneg (f.map (gAt hashK (coms l)))
        rw [coms_len] at hgl
        have hrj := HRJ.out
        rw [joinF_two h2] at hrj
        rw [hke, List.take_length]
        unfold mergeK at hrj
        obtain ⟨g, hg⟩ : ∃ g, most (f.map (gAt hashK (coms l))) = g := ⟨_, rfl⟩
        rw [hg] at hgl hg0 hrj ⊢
        have T4 := T3.below k4
        have hw1 : IntKind.i64.wrap (g + 1) = g + 1 := by rw [IntKind.wrap_i64]; omega
        have hok : CmR.Okay ⟨-1, 0, g + 1, f, noO⟩ := okay_merge ⟨by omega, by omega⟩
        have q5 := fun W (I : SlI W A3 c3 f) => CmR.may_ret (⟨A3, c3, ⟨-1, 0, g + 1, f, noO⟩⟩ : Cv) W I hok
        clear hg
        obtain ⟨m, hm⟩ : ∃ m, mayK ⟨-1, 0, g + 1, f, noO⟩ = m := ⟨_, rfl⟩
        rw [hm] at hrj
        rw [show mayK (⟨A3, c3, ⟨-1, 0, g + 1, f, noO⟩⟩ : Cv).c = m from hm] at q5
        clear hm
        go_wp2_with (first | go_skip | (refine Cel.wpList_store_new CE rfl _ _ rfl wr _ _ rfl (⟨A3, c3, ⟨-1, 0, g + 1, f, noO⟩⟩ : Cv) _ rfl rfl rfl rfl ?_; intro w6 B6 k6 g6 s6; have C6 := C4.below k6; have T6 := T4.below k6; have b6 := b4.trans (k6.mono b4.size); clear g6 s6) | (refine Cel.wpList_load_box CE rfl _ rfl _ rfl (⟨A3, c3, ⟨-1, 0, g + 1, f, noO⟩⟩ : Cv) B6 ?_))
        refine (q5 _ T6).mono ?_
        rintro e w7 ⟨rfl, k7⟩
        have C7 := C6.below k7
        have B7 := B6.below k7
        have T7 := T6.below k7
        have b7 := b6.trans (k7.mono b6.size)
        cases m with
        | false =>
          have hrn : r = none := hrj.symm
          go_wp2_with (first | go_skip | (refine Cel.wpList_store_box CE rfl _ _ rfl w.heap.size rfl noV C7 noV rfl ?_; intro w9 R9 f9 g9 s9))
          exact bodyPost_ret (v := .tuple #[.agg (cc noV), .bool false]) (results_cb Tryz.results38 _ _ w.heap.size noV _ rfl rfl R9) rfl ⟨noV, by rw [hrn]; rfl, by rw [hrn]; rfl, CmW.In.none _, fit_noK, b7.trans (f9 _ (Nat.le_refl _))⟩
        | true =>
          have hrn : r = some ⟨-1, 0, g + 1, f, noO⟩ := hrj.symm
          go_wp2_with (first | go_skip | (refine Cel.wpList_load_box CE rfl _ rfl _ rfl (⟨A3, c3, ⟨-1, 0, g + 1, f, noO⟩⟩ : Cv) B7 ?_) | (refine Cel.wpList_store_box CE rfl _ _ rfl w.heap.size rfl noV C7 (⟨A3, c3, ⟨-1, 0, g + 1, f, noO⟩⟩ : Cv) rfl ?_; intro w9 R9 f9 g9 s9))
          exact bodyPost_ret (v := .tuple #[.agg (cc (⟨A3, c3, ⟨-1, 0, g + 1, f, noO⟩⟩ : Cv)), .bool true]) (results_cb Tryz.results38 _ _ w.heap.size _ _ rfl rfl R9) rfl ⟨⟨A3, c3, ⟨-1, 0, g + 1, f, noO⟩⟩, by rw [hrn]; rfl, by rw [hrn]; rfl, CmD.sli_far T7 (CmD.no_cm C7) g9, hok.fit, b7.trans (f9 _ (Nat.le_refl _))⟩
set_option maxRecDepth 100000 in
set_option maxHeartbeats 16000000 in
theorem head_ret (A : Option Addr) (cap : Nat) (l : List Cv) (w : World) (S : SlK w A cap l) (ho : ∀ v ∈ l, CmR.Okay v.c) (hl : l.length ≤ 100) :
    Calls Tryz.prog 40 #[.slice A l.length cap] w (FoundC (headC (coms l)) w) := by
  have C0 : Cel.Box CE (w.alloc (.cells #[.int .i64 0, .int .i64 0, .int .i64 0, .slice none 0 0, .int .i64 0, .string ⟨#[]⟩, .string ⟨#[]⟩, .int .i64 0] 38)) w.heap.size noV := Cel.Box.new (E := CE) w noV _
  have b0 := StW.below_alloc w (.cells #[.int .i64 0, .int .i64 0, .int .i64 0, .slice none 0 0, .int .i64 0, .string ⟨#[]⟩, .string ⟨#[]⟩, .int .i64 0] 38)
  have q1 := ids_ret A cap l _ (S.below b0) ho (by omega)
  have q2 := fun A' cap' W S T => join_ret A A' cap cap' l (idsD (coms l)) W S T ho hl
  have hh : joinC (coms l) (idsD (coms l)) = headC (coms l) := by
    unfold headC joinC head join
    by_cases C : Closed hashK (coms l)
    · rw [if_pos C, if_pos C, all_ids C]
    · rw [if_neg C, if_neg C]
  rw [hh] at q2
  clear hh
  unfold NewD at q1
  unfold FoundC at q2 ⊢
  generalize headC (coms l) = r at q2 ⊢
  generalize idsD (coms l) = all at q1 q2
  go_enter Tryz.func40, Tryz.ntmps40
  go_wp2_with (first | go_skip)
  refine q1.mono ?_
  rintro e w1 ⟨A1, c1, rfl, T1, k1⟩
  have C1 := C0.below k1
  have b1 := b0.trans (k1.mono b0.size)
  clear C0 b0 k1 q1
  go_wp2_with (first | go_skip)
  refine (q2 _ _ _ (S.below b1) T1).mono ?_
  rintro e w2 ⟨v, rfl, hv, IV, FV, k2⟩
  have C2 := C1.below k2
  have b2 := b1.trans (k2.mono b1.size)
  clear C1 b1 k2 q2 T1
  obtain ⟨s, hs⟩ : ∃ s, r.isSome = s := ⟨_, rfl⟩
  rw [hs]
  go_wp2_with (first | go_skip | (refine Cel.wpList_store_new CE rfl _ _ rfl w2 _ _ rfl v _ rfl rfl rfl rfl ?_; intro w6 B6 k6 g6 s6; have C6 := C2.below k6; have b6 := b2.trans (k6.mono b2.size); have IV6 := CmW.In.below IV k6; clear g6 s6) | (refine Cel.wpList_load_box CE rfl _ rfl _ rfl v B6 ?_) | (refine Cel.wpList_store_box CE rfl _ _ rfl w.heap.size rfl noV C6 v rfl ?_; intro w9 R9 f9 g9 s9))
  exact bodyPost_ret (v := .tuple #[.agg (cc v), .bool s]) (results_cb Tryz.results40 _ _ w.heap.size v _ rfl rfl R9) rfl ⟨v, by rw [hs], hv, CmD.sli_far IV6 (CmD.no_cm C6) g9, FV, b6.trans (f9 _ (Nat.le_refl _))⟩
end Go.Proofs.YtechkdhehipliaaGreatDoor.FrG
