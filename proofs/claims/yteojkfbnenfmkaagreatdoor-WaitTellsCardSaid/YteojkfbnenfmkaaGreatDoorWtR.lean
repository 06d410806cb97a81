/- What the document's Put of package wait returns: a contract. No condition but sizes. -/
import Derived.Test.YteojkfbnenfmkaaGreatDoorDgFJ5
import Derived.Test.YteojkfbnenfmkaaGreatDoorCmR
namespace Go.Proofs.YteojkfbnenfmkaaGreatDoor.WtR
set_option maxRecDepth 100000
open Go Go.Sort Go.RowKit Byt IdM IdW OpsM OpsW CmM StW CmW CmX CmY DgM DgW DgR DgF WtM WtF
open Classical

theorem not_in_next {l : List Com} {k : Nat} {x c : Com} (h : ∀ d ∈ l.take k, d ≠ c) (hx : l[k]? = some x) (hn : x ≠ c) : ∀ d ∈ l.take (k + 1), d ≠ c := fun d hd => by
  obtain ⟨hk, rfl⟩ := List.getElem?_eq_some_iff.1 hx
  rw [List.take_succ_eq_append_getElem hk, List.mem_append, List.mem_singleton] at hd
  rcases hd with hd | rfl
  · exact h d hd
  · exact hn
theorem own_less {base base' n size : Nat} {w : World} {e : TypeId} {v : Value} {xs : List Value} (h : w.ownsRow base' e size v n xs) (hb : base ≤ base') : w.ownsRow base e size v n xs :=
  ⟨h.1, h.2.imp id fun ⟨g, c, cur, e1, h1, r⟩ => ⟨g, c, cur, e1, Nat.le_trans hb h1, r⟩⟩
def lenOf : Value → Nat
  | .slice _ n _ => n
  | _ => 0
def tree : Forks.Tree := .free 0 (.free 2 (.two 1 (.act 3 (.act 4 (.act 5 .ends))) 3 (.act 1 (.act 4 (.act 5 .ends)))))
/-- Slices cut from the front until they are short. -/
theorem drop_drop_one {α : Type} (l : List α) (k : Nat) : (l.drop k).drop 1 = l.drop (k + 1) := by rw [List.drop_drop]
set_option maxRecDepth 100000 in
set_option maxHeartbeats 16000000 in
theorem put_ret (A : Option Addr) (cap : Nat) (l : List Cv) (v : Cv) (w : World) (S : SlK w A cap l) (hl : l.length ≤ 1000) (I : In w v) (hf : Fit v.c) (ho : CmR.Okay v.c) :
    Calls Tryz.prog 9 #[.slice A l.length cap, .agg (cc v)] w (NewC (putW (coms l) v.c) w) := by
  have hmax := S.len
  have hlc := coms_len l
  have k0 := StW.below_alloc w (.cells (cc v) 29)
  have B0 : Cel.Box CE (w.alloc (.cells (cc v) 29)) w.heap.size v := Cel.Box.new w v _
  have I0 := I.below k0
  have q1 := CmR.may_ret v _ I0 ho
  have q2 := fun W T => CmR.merge_ret v W T ho
  obtain ⟨my, hmy⟩ : ∃ b, mayK v.c = b := ⟨_, rfl⟩
  obtain ⟨mg, hmg⟩ : ∃ b, isM v.c = b := ⟨_, rfl⟩
  have HWB : Hid (waitB v.c = (my && !mg)) := aside (by unfold waitB; rw [hmy, hmg])
  rw [hmy] at q1
  rw [hmg] at q2
  unfold NewC
  clear hmy hmg I
  go_enter Tryz.func9, Tryz.ntmps9
  go_wp2_with (first | go_skip | (refine Cel.wpList_load_box CE rfl _ rfl _ rfl v B0 ?_))
  refine q1.mono ?_
  rintro e w1 ⟨rfl, k1⟩
  have B1 := B0.below k1
  have I1 := I0.below k1
  have b1 := k0.trans (k1.mono k0.size)
  clear q1 B0 I0
  go_wp2_with (first | go_skip | (refine Cel.wpList_load_box CE rfl _ rfl _ rfl v B1 ?_))
  refine (q2 _ I1).mono ?_
  rintro e w2 ⟨rfl, k2⟩
  have B2 := B1.below k2
  have I2 := I1.below k2
  have b2 := b1.trans (k2.mono b1.size)
  clear q2 B1 I1 k1 k2 k0 b1
  by_cases hw : waitB v.c = true
  · have hb : my = true ∧ mg = false := by
      have := HWB.out
      rw [hw] at this
      cases my <;> cases mg <;> simp at this ⊢
    obtain ⟨rfl, rfl⟩ := hb
    have HW := aside hw
    clear hw HWB
    go_wp2_with (first | go_skip)
    go_loopw [7] (fun i wr => ∃ k : Nat, k ≤ l.length ∧ i = .int .i64 k ∧ Hid (∀ d ∈ (coms l).take k, d ≠ v.c) ∧ Below w.heap.size w wr ∧ Below w2.heap.size w2 wr) (fun i _ => l.length - (intOf i).toNat)
    case atStart => exact ⟨0, Nat.zero_le _, rfl, aside (by simp), b2, Below.refl _ _⟩
    case round =>
      obtain ⟨k, hk, rfl, HN, kb, kc⟩ := hrel
      by_cases hlt : k < l.length
      · obtain ⟨b, off, rfl, hbw, hrg⟩ := S.plain (by omega)
        obtain ⟨x, hx⟩ : ∃ x, l[k]? = some x := ⟨_, List.getElem?_eq_getElem hlt⟩
        have rx := range_on (hrg k x hx) kb
        have IX := (S.each x (List.mem_of_getElem? hx)).1.below kb
        have p0 : (k : Int) < l.length := by omega
        have m0 : ((k : Int)).toNat = k := by omega
        have B3 := B2.below kc
        have I3 := I2.below kc
        have HX := aside (coms_at hx)
        clear hrg hx
        go_wp2_with (first | go_skip)
        refine Grow.region [(0, true), (1, true), (2, true), (3, true), (4, true), (5, false), (6, true)] (by kernel_rfl) (by kernel_rfl) rfl (by kernel_rfl) (by intro c a d v w h; cases d <;> exact h) ?_
        have kd := below_drew1 (Below.refl wr.heap.size wr)
        have rx4 := range_on rx kd
        have IX4 := IX.below kd
        have B4 := B3.below kd
        have I4 := I3.below kd
        have kb4 := kb.trans (kd.mono kb.size)
        have kc4 := kc.trans (kd.mono kc.size)
        generalize wr.drew = wz at rx4 IX4 B4 I4 kb4 kc4 ⊢
        clear rx IX B3 I3 kb kc kd
        have qs := CmR.same_ret x v wz IX4 I4
        obtain ⟨t, ht⟩ : ∃ t, CmR.sameK x.c v.c = t := ⟨_, rfl⟩
        rw [ht] at qs
        have HT := aside ht
        clear ht
        (try simp only [Act.put, List.setIfInBounds_toArray, List.set_cons_succ, List.set_cons_zero])
        repeat (first | (refine Grow.reads rfl rfl ?_; go_big_quiet_want; refine quiet_com _ rfl _ _ rfl x rx4 ?_; go_big_quiet_on; refine wpQuiet_nil ?_; (try simp only [Act.put, List.setIfInBounds_toArray, List.set_cons_succ, List.set_cons_zero])) | (refine Grow.reads rfl rfl ?_; go_big_quiet_want; refine Cel.quiet_row CE _ rfl _ _ rfl v B4.range ?_; go_big_quiet_on; refine wpQuiet_nil ?_; (try simp only [Act.put, List.setIfInBounds_toArray, List.set_cons_succ, List.set_cons_zero])) | (refine Grow.reads rfl rfl ?_; go_big_quiet_step (fail); refine wpQuiet_nil ?_))
        refine Grow.acts rfl ?_
        go_wp2_with (first | go_skip)
        refine qs.mono ?_
        rintro e w5 ⟨rfl, k5⟩
        clear qs rx4 B4
        go_wp2_with (first | go_skip)
        refine ⟨k5, ?_⟩
        (try simp only [Act.put, List.setIfInBounds_toArray, List.set_cons_succ, List.set_cons_zero])
        repeat (first | (refine Grow.reads rfl rfl ?_; go_big_quiet_step (fail); refine wpQuiet_nil ?_))
        refine Grow.ends ?_
        have kb5 := kb4.trans (k5.mono kb4.size)
        have kc5 := kc4.trans (k5.mono kc4.size)
        cases t with
        | true =>
          have hxc := CmR.sameK_iff.1 HT.out
          have HP := aside (putW_no (l := coms l) (c := v.c) (.inr (hxc ▸ List.mem_of_getElem? HX.out)))
          clear hxc
          go_wp2_with (first | go_skip)
          go_ret
          rw [HP.out]
          exact ⟨_, cap, l, rfl, S.below kb5, rfl, kb5⟩
        | false =>
          have hxc : x.c ≠ v.c := fun e => by
            have := HT.out
            rw [CmR.sameK_iff.2 e] at this
            cases this
          have HN5 := aside (not_in_next HN.out HX.out hxc)
          clear hxc
          go_wp2_with (first | go_skip)
          go_roundw
          case rel => exact ⟨k + 1, by omega, by go_num, HN5, kb5, kc5⟩
          case measure => simp [intOf]; omega
      · obtain rfl : k = l.length := by omega
        have hn : v.c ∉ coms l := fun h => HN.out _ (by rw [List.take_of_length_le (by omega)]; exact h) rfl
        have HP := aside (putW_yes HW.out hn)
        clear HN hn
        have B3 := B2.below kc
        have I3 := I2.below kc
        go_wp2_with (first | go_skip)
        refine GrowT.region 4 tree (by kernel_rfl) (by kernel_rfl) rfl (by kernel_rfl) (by intro c a d v w h; cases d <;> exact h) ?_
        change GrowT.Seq _ _ _ _ _ _ wr.drew
        have kd := below_drew1 (Below.refl wr.heap.size wr)
        have B4 := B3.below kd
        have I4 := I3.below kd
        have kb4 := kb.trans (kd.mono kb.size)
        generalize wr.drew = wz at B4 I4 kb4 ⊢
        clear B3 I3 kb kc kd B2 I2 b2
        have U := S.below kb4
        (try simp only [Act.put, List.setIfInBounds_toArray, List.set_cons_succ, List.set_cons_zero])
        repeat (first | (refine GrowT.reads rfl rfl ?_; go_big_quiet_want; refine Cel.quiet_row CE _ rfl _ _ rfl v B4.range ?_; go_big_quiet_on; refine wpQuiet_nil ?_; (try simp only [Act.put, List.setIfInBounds_toArray, List.set_cons_succ, List.set_cons_zero])) | (refine GrowT.reads rfl rfl ?_; go_big_quiet_step (fail); refine wpQuiet_nil ?_))
        clear B4
        refine GrowT.forks rfl rfl ?_ ?_
        · go_wp2_with (first | go_skip | (refine RowS.wpList_append KE rfl _ _ rfl wz.heap.size _ 0 [] rfl ⟨rfl, .inl ⟨rfl, rfl⟩⟩ A _ cap l rfl rfl U.row (by omega) (Nat.le_refl _) ?_; intro vx wx ox gx))
          have kx : Below wz.heap.size wz wx := below_grown (Below.refl _ _) (Nat.le_refl _) gx (fun q hq => by cases hq)
          clear gx
          refine ⟨kx, ?_⟩
          (try simp only [Act.put, List.setIfInBounds_toArray, List.set_cons_succ, List.set_cons_zero])
          refine GrowT.acts rfl ?_
          go_wp2_with (first | go_skip | (refine RowC.wpList_lit1 KE (of_decide_eq_true rfl) rfl _ rfl v rfl ?_; intro wy Sy ky))
          refine ⟨ky, ?_⟩
          (try simp only [Act.put, List.setIfInBounds_toArray, List.set_cons_succ, List.set_cons_zero])
          have oy := owns_below ox ky
          have kz := kx.trans (ky.mono kx.size)
          clear ox kx ky
          refine GrowT.mid rfl ?_
          go_wp2_with (first | go_skip | (refine RowS.wpList_append KE rfl _ _ rfl wz.heap.size _ _ _ rfl oy _ _ 1 [v] rfl rfl Sy (by omega) kz.size ?_; intro vq wq oq gq))
          have kq : Below wz.heap.size wz wq := below_grown kz kz.size gq (fun q hq => (oy.lt q hq).1)
          refine GrowT.on_mid ?_
          (try simp only [Act.put, List.setIfInBounds_toArray, List.set_cons_succ, List.set_cons_zero])
          have bq := kb4.trans (kq.mono kb4.size)
          rw [List.nil_append] at oq
          have IV := I4.below kq
          have UQ := U.below kq
          obtain ⟨AC, cC, rfl, SC⟩ := own_in (l := l ++ [v]) oq (fun x hx => (List.mem_append.1 hx).elim (UQ.each x) fun hx => by rw [List.mem_singleton.1 hx]; exact ⟨IV, hf⟩)
          have HP2 : Hid (putW (coms l) v.c = coms ((l ++ [v]).drop (l.length + 1 - 8))) := aside (by rw [HP.out, coms_len]; unfold coms; rw [List.map_drop, List.map_append]; rfl)
          obtain ⟨L, hL⟩ : ∃ L, l ++ [v] = L := ⟨_, rfl⟩
          have hLn : L.length = l.length + 1 := by rw [← hL]; simp
          rw [hL] at SC HP2
          rw [← hLn] at HP2
          obtain ⟨n, hn⟩ : ∃ n, (l ++ [v]).length = n := ⟨_, rfl⟩
          have hn2 : L.length = n := by rw [← hL]; exact hn
          simp only [hn]
          rw [hn2] at HP2
          have hn1 : n ≤ 1001 := by omega
          clear oq gq hL hn HP IV UQ U I4 kz hLn
          refine GrowT.acts rfl ?_
          go_wp2_with (first | go_skip)
          refine ⟨Below.refl _ _, ?_⟩
          (try simp only [Act.put, List.setIfInBounds_toArray, List.set_cons_succ, List.set_cons_zero])
          refine GrowT.ends ?_
          go_wp2_with (first | go_skip)
          go_loopw [9] (fun o wr => ∃ (j m cj : Nat) (Aj : Option Addr), j ≤ n - 8 ∧ m + j = n ∧ o = .slice Aj m cj ∧ Hid (SlK wq Aj cj (L.drop j)) ∧ wr = wq) (fun o _ => lenOf o)
          case atStart => exact ⟨0, n, cC, AC, Nat.zero_le _, rfl, rfl, aside (by rw [List.drop_zero]; exact SC), rfl⟩
          case round =>
            obtain ⟨j, m, cj, Aj, hj, hmj, rfl, HS, rfl⟩ := hrel
            have hdl : (L.drop j).length = m := by rw [List.length_drop, hn2]; omega
            by_cases h8 : 8 < m
            · obtain ⟨A2, c2, hqs, S2⟩ := RowP.behind HS.out.row 1 (by omega)
              rw [hdl] at hqs
              have hq1 : ∀ V, (Instr.sliceAt 22 (.slice Aj m cj) (some (.int .i64 1)) none none).run Tryz.prog V = .ok (.slice A2 (m - 1) c2) V := fun V => hqs V .i64
              have p8 : (8 : Int) < (m : Int) := by omega
              have HS2 := aside (show SlK wr A2 c2 (L.drop (j + 1)) from ⟨by rw [← drop_drop_one]; exact S2, fun x hx => HS.out.each x (by rw [← drop_drop_one] at hx; exact List.mem_of_mem_drop hx)⟩)
              clear hqs S2 SC
              go_wp2_with (first | go_skip)
              go_roundw
              case rel => exact ⟨j + 1, m - 1, c2, A2, by omega, by omega, rfl, HS2, trivial⟩
              case measure => simp [lenOf]; omega
            · have p8 : ¬ (8 : Int) < (m : Int) := by omega
              obtain rfl : j = n - 8 := by omega
              clear SC
              go_wp2_with (first | go_skip)
              go_ret
              rw [HP2.out]
              exact ⟨Aj, cj, L.drop (n - 8), by rw [hdl]; rfl, HS.out, rfl, bq⟩
        · go_wp2_with (first | go_skip | (refine RowC.wpList_lit1 KE (of_decide_eq_true rfl) rfl _ rfl v rfl ?_; intro wy Sy ky))
          refine ⟨ky, ?_⟩
          (try simp only [Act.put, List.setIfInBounds_toArray, List.set_cons_succ, List.set_cons_zero])
          have Sv := U.below ky
          refine GrowT.acts rfl ?_
          go_wp2_with (first | go_skip | (refine RowS.wpList_append KE rfl _ _ rfl wy.heap.size _ 0 [] rfl ⟨rfl, .inl ⟨rfl, rfl⟩⟩ A _ cap l rfl rfl Sv.row (by omega) (Nat.le_refl _) ?_; intro vx wx ox gx))
          have kx : Below wy.heap.size wy wx := below_grown (Below.refl _ _) (Nat.le_refl _) gx (fun q hq => by cases hq)
          clear gx
          refine ⟨kx, ?_⟩
          (try simp only [Act.put, List.setIfInBounds_toArray, List.set_cons_succ, List.set_cons_zero])
          have Sz := Sy.below kx
          have kz := ky.trans (kx.mono ky.size)
          have oy := own_less ox ky.size
          clear ox Sy ky kx Sv
          refine GrowT.mid rfl ?_
          go_wp2_with (first | go_skip | (refine RowS.wpList_append KE rfl _ _ rfl wz.heap.size _ _ _ rfl oy _ _ 1 [v] rfl rfl Sz (by omega) kz.size ?_; intro vq wq oq gq))
          have kq : Below wz.heap.size wz wq := below_grown kz kz.size gq (fun q hq => (oy.lt q hq).1)
          refine GrowT.on_mid ?_
          (try simp only [Act.put, List.setIfInBounds_toArray, List.set_cons_succ, List.set_cons_zero])
          have bq := kb4.trans (kq.mono kb4.size)
          rw [List.nil_append] at oq
          have IV := I4.below kq
          have UQ := U.below kq
          obtain ⟨AC, cC, rfl, SC⟩ := own_in (l := l ++ [v]) oq (fun x hx => (List.mem_append.1 hx).elim (UQ.each x) fun hx => by rw [List.mem_singleton.1 hx]; exact ⟨IV, hf⟩)
          have HP2 : Hid (putW (coms l) v.c = coms ((l ++ [v]).drop (l.length + 1 - 8))) := aside (by rw [HP.out, coms_len]; unfold coms; rw [List.map_drop, List.map_append]; rfl)
          obtain ⟨L, hL⟩ : ∃ L, l ++ [v] = L := ⟨_, rfl⟩
          have hLn : L.length = l.length + 1 := by rw [← hL]; simp
          rw [hL] at SC HP2
          rw [← hLn] at HP2
          obtain ⟨n, hn⟩ : ∃ n, (l ++ [v]).length = n := ⟨_, rfl⟩
          have hn2 : L.length = n := by rw [← hL]; exact hn
          simp only [hn]
          rw [hn2] at HP2
          have hn1 : n ≤ 1001 := by omega
          clear oq gq hL hn HP IV UQ U I4 kz hLn
          refine GrowT.acts rfl ?_
          go_wp2_with (first | go_skip)
          refine ⟨Below.refl _ _, ?_⟩
          (try simp only [Act.put, List.setIfInBounds_toArray, List.set_cons_succ, List.set_cons_zero])
          refine GrowT.ends ?_
          go_wp2_with (first | go_skip)
          go_loopw [9] (fun o wr => ∃ (j m cj : Nat) (Aj : Option Addr), j ≤ n - 8 ∧ m + j = n ∧ o = .slice Aj m cj ∧ Hid (SlK wq Aj cj (L.drop j)) ∧ wr = wq) (fun o _ => lenOf o)
          case atStart => exact ⟨0, n, cC, AC, Nat.zero_le _, rfl, rfl, aside (by rw [List.drop_zero]; exact SC), rfl⟩
          case round =>
            obtain ⟨j, m, cj, Aj, hj, hmj, rfl, HS, rfl⟩ := hrel
            have hdl : (L.drop j).length = m := by rw [List.length_drop, hn2]; omega
            by_cases h8 : 8 < m
            · obtain ⟨A2, c2, hqs, S2⟩ := RowP.behind HS.out.row 1 (by omega)
              rw [hdl] at hqs
              have hq1 : ∀ V, (Instr.sliceAt 22 (.slice Aj m cj) (some (.int .i64 1)) none none).run Tryz.prog V = .ok (.slice A2 (m - 1) c2) V := fun V => hqs V .i64
              have p8 : (8 : Int) < (m : Int) := by omega
              have HS2 := aside (show SlK wr A2 c2 (L.drop (j + 1)) from ⟨by rw [← drop_drop_one]; exact S2, fun x hx => HS.out.each x (by rw [← drop_drop_one] at hx; exact List.mem_of_mem_drop hx)⟩)
              clear hqs S2 SC
              go_wp2_with (first | go_skip)
              go_roundw
              case rel => exact ⟨j + 1, m - 1, c2, A2, by omega, by omega, rfl, HS2, trivial⟩
              case measure => simp [lenOf]; omega
            · have p8 : ¬ (8 : Int) < (m : Int) := by omega
              obtain rfl : j = n - 8 := by omega
              clear SC
              go_wp2_with (first | go_skip)
              go_ret
              rw [HP2.out]
              exact ⟨Aj, cj, L.drop (n - 8), by rw [hdl]; rfl, HS.out, rfl, bq⟩
  · have hb : (!my || mg) = true := by
      have := HWB.out
      cases my <;> cases mg <;> simp at this ⊢
      exact hw this
    have HP := aside (putW_no (l := coms l) (c := v.c) (.inl (by cases hq : waitB v.c with | false => rfl | true => exact absurd hq hw)))
    clear hw HWB
    cases my <;> cases mg <;> first | (exact absurd hb (by decide)) | skip
    all_goals
      go_wp2_with (first | go_skip)
      go_ret
      rw [HP.out]
      exact ⟨A, cap, l, rfl, S.below b2, rfl, b2⟩
end Go.Proofs.YteojkfbnenfmkaaGreatDoor.WtR
