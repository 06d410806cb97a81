/- What the document's Next of package front returns: a contract. | FrontTells' walk, over contracts: all five functions answer as the document does. No condition. -/
import Derived.Test.YtechkdhehipliaaGreatDoorIdYJ3
import Derived.Test.YtechkdhehipliaaGreatDoorFrXJ4
import Derived.Test.YtechkdhehipliaaGreatDoorDgGJ4
import Derived.Test.YtechkdhehipliaaGreatDoorFrTJ2
import Derived.Test.YtechkdhehipliaaGreatDoorCmAJ2
namespace Go.Proofs.YtechkdhehipliaaGreatDoor.FrO
set_option maxRecDepth 100000
open Go Go.Sort Go.RowKit Byt IdM IdW OpsM OpsW RowS CmM StW CmW CmX CmY DgM DgN DgX DgW DgR DgC DgF DgG FrM FrN FrH FrU FrY FrZ
open Classical

def tree8 : Forks.Tree := .free 0 (.free 1 (.free 2 (.free 3 (.free 5 (.two 4 (.free 6 (.act 7 (.act 8 .ends))) 7 (.act 4 (.free 6 (.act 8 .ends))))))))
def tree10 : Forks.Tree := .free 0 (.free 2 (.two 1 (.act 3 (.act 4 (.act 5 (.act 6 .ends)))) 3 (.act 1 (.act 4 (.act 5 (.act 6 .ends))))))
theorem most_more {l : List Com} {k : Nat} {x : Com} (hx : l[k]? = some x) : most ((l.take (k + 1)).map (·.gen)) = max (most ((l.take k).map (·.gen))) x.gen := by
  obtain ⟨hk, e⟩ := List.getElem?_eq_some_iff.1 hx
  rw [List.take_succ_eq_append_getElem hk, e, List.map_append]
  exact DgX.most_snoc _ _
set_option maxRecDepth 100000 in
set_option maxHeartbeats 64000000 in
theorem next_ret (A : Option Addr) (cap : Nat) (l : List Cv) (ev : Ev) (o : Opn) (w : World) (S : SlK w A cap l) (ho : ∀ v ∈ l, CmR.Okay v.c) (hl : l.length ≤ 100) (hk : CmR.Okay ⟨ev.node, ev.seq, 0, [], o⟩) :
    Calls Tryz.prog 42 #[.slice A l.length cap, .agg (ec ev), .agg (opc o)] w (FoundC (nextC (coms l) ev o) w) := by
  obtain ⟨E0, O0, R0⟩ := W3_boxes w ev o
  have hmax := S.len
  have hlc := coms_len l
  have b0 := W3_below w ev o
  have qs := fun W S => closed_ret A cap l W S ho (by omega)
  have qf := fun W S => FrR.front_ret A cap l W S ho (by omega)
  unfold NewD at qf
  have hnx := next_three (l := coms l) (ev := ev) (o := o) (by rw [coms_len]; omega)
  unfold FoundC
  obtain ⟨r, hr⟩ : ∃ r, nextC (coms l) ev o = r := ⟨_, rfl⟩
  obtain ⟨F, hF⟩ : ∃ F, frontC (coms l) = F := ⟨_, rfl⟩
  obtain ⟨z, hz⟩ : ∃ z, decide (Closed hashK (coms l)) = z := ⟨_, rfl⟩
  have hg := wrap_one (most ((coms l).map (·.gen)) + 1)
  obtain ⟨G, hG⟩ : ∃ G, most ((coms l).map (·.gen)) = G := ⟨_, rfl⟩
  rw [hG] at hg hnx
  obtain ⟨g, hgg⟩ : ∃ g, IntKind.i64.wrap (G + 1) = g := ⟨_, rfl⟩
  rw [hr, hF, hgg, hz] at hnx
  rw [hr]
  rw [hF] at qf
  rw [hz] at qs
  rw [hgg] at hg
  have hok : CmR.Okay ⟨ev.node, ev.seq, g, F, o⟩ := ⟨⟨hk.fit.node, hk.fit.seq, hg, hk.fit.op⟩, hk.key, hk.elem⟩
  obtain ⟨m, hm⟩ : ∃ m, mayK ⟨ev.node, ev.seq, g, F, o⟩ = m := ⟨_, rfl⟩
  have qm : ∀ AF cF W, SlI W AF cF F → Calls Tryz.prog 71 #[.agg (cc (⟨AF, cF, ⟨ev.node, ev.seq, g, F, o⟩⟩ : Cv))] W (fun e w' => e = .returned (.bool m) ∧ Below W.heap.size W w') := fun AF cF W I => by
    rw [← hm]
    exact CmR.may_ret (⟨AF, cF, ⟨ev.node, ev.seq, g, F, o⟩⟩ : Cv) W I hok
  obtain ⟨d, hd⟩ : ∃ d, decide (Closed hashK (coms l ++ [⟨ev.node, ev.seq, g, F, o⟩])) = d := ⟨_, rfl⟩
  rw [hm, hd] at hnx
  have HOK := aside hok
  have HNX := aside hnx
  have HD := aside hd
  have HG : Hid (most (((coms l).take l.length).map (·.gen)) = G) := aside (by rw [← hlc, List.take_length]; exact hG)
  have HGG := aside hgg
  have HO := aside ho
  clear hr hF hG hgg hg hz hnx hok hm hd ho hk hlc
  go_enter Tryz.func42, Tryz.ntmps42
  go_wp2_with (first | go_skip)
  rw [show ((w.alloc (.cells (ec ev) 34)).alloc (.cells (opc o) 36)).alloc (.cells #[.int .i64 0, .int .i64 0, .int .i64 0, .slice none 0 0, .int .i64 0, .string ⟨#[]⟩, .string ⟨#[]⟩, .int .i64 0] 38) = W3 w ev o from rfl]
  refine (qs _ (S.below b0)).mono ?_
  rintro e w1 ⟨rfl, k⟩
  have E1 := E0.below k
  have O1 := O0.below k
  have R1 := R0.below k
  have b1 := b0.trans (k.mono b0.size)
  clear E0 O0 R0 b0 k qs
  go_wp2_with (first | go_skip)
  have kb := Below.refl w1.heap.size w1
  go_loopw [9, 10] (fun go i wr => ∃ k : Nat, k ≤ l.length ∧ i = .int .i64 k ∧ go = .int .i64 (most (((coms l).take k).map (·.gen))) ∧ Below w1.heap.size w1 wr) (fun _ i _ => l.length - (intOf i).toNat)
  case atStart => exact ⟨0, Nat.zero_le _, rfl, rfl, kb⟩
  case round =>
    clear kb
    rename World => wr
    obtain ⟨k, hk, rfl, rfl, kc⟩ := hrel
    have b2 := b1.trans (kc.mono b1.size)
    by_cases hlt : k < l.length
    case pos =>
      obtain ⟨bb, off, rfl, _, hrg⟩ := S.plain (by omega)
      obtain ⟨x, hx⟩ : ∃ x, l[k]? = some x := ⟨_, List.getElem?_eq_getElem hlt⟩
      have rx := range_on (hrg k x hx) b2
      have cg := rx 2 _ rfl
      have pk : (k : Int) < l.length := by omega
      have mk : ((k : Int)).toNat = k := by omega
      have hn := most_more (coms_at hx)
      obtain ⟨a, hga⟩ : ∃ a, most (((coms l).take k).map (·.gen)) = a := ⟨_, rfl⟩
      obtain ⟨n, hxn⟩ : ∃ n, x.c.gen = n := ⟨_, rfl⟩
      rw [hga, hxn] at hn
      rw [hga]
      rw [hxn] at cg
      have HN := aside hn
      clear hn hga hxn hx hrg rx qf qm
      by_cases hgt : a < n
      case pos =>
        have HN2 : Hid (most (((coms l).take (k + 1)).map (·.gen)) = n) := aside (by rw [HN.out]; omega)
        clear HN
        go_wp2_with (first | go_skip)
        go_roundw
        case rel => exact ⟨k + 1, by omega, by go_num, by rw [HN2.out], kc⟩
        case measure => simp [intOf]; omega
      case neg =>
        have HN2 : Hid (most (((coms l).take (k + 1)).map (·.gen)) = a) := aside (by rw [HN.out]; omega)
        clear HN
        go_wp2_with (first | go_skip)
        go_roundw
        case rel => exact ⟨k + 1, by omega, by go_num, by rw [HN2.out], kc⟩
        case measure => simp [intOf]; omega
    case neg =>
      have pn : ¬ (k : Int) < l.length := by omega
      have hke : k = l.length := by omega
      rw [hke, HG.out]
      have hw1 := HGG.out
      have E2 := E1.below kc
      have O2 := O1.below kc
      have R2 := R1.below kc
      clear E1 O1 R1 b1 kc hke hk pn
      go_wp2_with (first | go_skip)
      refine GrowT.region 8 tree8 (by kernel_rfl) (by kernel_rfl) rfl (by kernel_rfl) (by intro c a d v w h; cases d <;> exact h) ?_
      have dr := below_drew1 (Below.refl wr.heap.size wr)
      have E3 := E2.below dr
      have O3 := O2.below dr
      have R3 := R2.below dr
      have b3 := b2.trans (dr.mono b2.size)
      generalize wr.drew = w3 at E3 O3 R3 b3 ⊢
      clear E2 O2 R2 b2 dr
      (try simp only [Act.put, List.setIfInBounds_toArray, List.set_cons_succ, List.set_cons_zero])
      repeat (first | (refine GrowT.reads rfl rfl ?_; go_big_quiet_want; refine Cel.quiet_row EE _ rfl _ _ rfl ev E3.range ?_; go_big_quiet_on; refine wpQuiet_nil ?_; (try simp only [Act.put, List.setIfInBounds_toArray, List.set_cons_succ, List.set_cons_zero])) | (refine GrowT.reads rfl rfl ?_; go_big_quiet_want; refine Cel.quiet_row OE _ rfl _ _ rfl o O3.range ?_; go_big_quiet_on; refine wpQuiet_nil ?_; (try simp only [Act.put, List.setIfInBounds_toArray, List.set_cons_succ, List.set_cons_zero])) | (refine GrowT.reads rfl rfl ?_; go_big_quiet_step (fail); refine wpQuiet_nil ?_))
      clear E3 O3 hw1
      refine GrowT.forks rfl rfl ?_ ?_
      focus
        go_wp2_with (first | go_skip)
        refine (qf _ (S.below b3)).mono ?_
        rintro e w4 ⟨AF, cF, rfl, T4, k⟩
        go_wp2_with (first | go_skip)
        refine ⟨k, ?_⟩
        (try simp only [Act.put, List.setIfInBounds_toArray, List.set_cons_succ, List.set_cons_zero])
        have R4 := R3.below k
        have b4 := b3.trans (k.mono b3.size)
        clear R3 b3 k
        refine GrowT.reads rfl rfl ?_
        go_big_quiet_want
        refine quiet_build4 _ _ _ _ rfl (.agg (EE.enc ev).toArray) (.int .i64 g) (.slice AF F.length cF) (.agg (OE.enc o).toArray) _ rfl rfl rfl rfl (build_com4 ev g AF F.length cF o) ?_
        go_big_quiet_on
        refine wpQuiet_nil ?_
        (try simp only [Act.put, List.setIfInBounds_toArray, List.set_cons_succ, List.set_cons_zero])
        refine GrowT.acts rfl ?_
        go_wp2_with (first | go_skip)
        have k := StW.below_alloc w4 (.cells #[.int .i64 0, .int .i64 0, .int .i64 0, .slice none 0 0, .int .i64 0, .string ⟨#[]⟩, .string ⟨#[]⟩, .int .i64 0] 38)
        refine ⟨k, ?_⟩
        (try simp only [Act.put, List.setIfInBounds_toArray, List.set_cons_succ, List.set_cons_zero])
        have N5 : Cel.Box CE (w4.alloc (.cells #[.int .i64 0, .int .i64 0, .int .i64 0, .slice none 0 0, .int .i64 0, .string ⟨#[]⟩, .string ⟨#[]⟩, .int .i64 0] 38)) w4.heap.size noV := Cel.Box.new (E := CE) w4 noV _
        have hz : w.heap.size + 1 + 1 < w4.heap.size := R4.lt
        have R5 := R4.below k
        have T5 := T4.below k
        have b5 := b4.trans (k.mono b4.size)
        clear R4 T4 b4 k
        obtain ⟨gn, hgn⟩ : ∃ gn, w4.heap.size = gn := ⟨_, rfl⟩
        generalize w4.alloc (.cells #[.int .i64 0, .int .i64 0, .int .i64 0, .slice none 0 0, .int .i64 0, .string ⟨#[]⟩, .string ⟨#[]⟩, .int .i64 0] 38) = w5 at R5 T5 b5 N5 ⊢
        rw [hgn] at N5 hz
        try rw [hgn]
        clear hgn
      rotate_left
      focus
        go_wp2_with (first | go_skip)
        have k := StW.below_alloc w3 (.cells #[.int .i64 0, .int .i64 0, .int .i64 0, .slice none 0 0, .int .i64 0, .string ⟨#[]⟩, .string ⟨#[]⟩, .int .i64 0] 38)
        refine ⟨k, ?_⟩
        (try simp only [Act.put, List.setIfInBounds_toArray, List.set_cons_succ, List.set_cons_zero])
        have N4 : Cel.Box CE (w3.alloc (.cells #[.int .i64 0, .int .i64 0, .int .i64 0, .slice none 0 0, .int .i64 0, .string ⟨#[]⟩, .string ⟨#[]⟩, .int .i64 0] 38)) w3.heap.size noV := Cel.Box.new (E := CE) w3 noV _
        have hz : w.heap.size + 1 + 1 < w3.heap.size := R3.lt
        have R4 := R3.below k
        have b4 := b3.trans (k.mono b3.size)
        clear R3 b3 k
        obtain ⟨gn, hgn⟩ : ∃ gn, w3.heap.size = gn := ⟨_, rfl⟩
        generalize w3.alloc (.cells #[.int .i64 0, .int .i64 0, .int .i64 0, .slice none 0 0, .int .i64 0, .string ⟨#[]⟩, .string ⟨#[]⟩, .int .i64 0] 38) = w4 at R4 b4 N4 ⊢
        rw [hgn] at N4 hz
        try rw [hgn]
        clear hgn
        refine GrowT.acts rfl ?_
        go_wp2_with (first | go_skip)
        refine (qf _ (S.below b4)).mono ?_
        rintro e w5 ⟨AF, cF, rfl, T5, k⟩
        go_wp2_with (first | go_skip)
        refine ⟨k, ?_⟩
        (try simp only [Act.put, List.setIfInBounds_toArray, List.set_cons_succ, List.set_cons_zero])
        have R5 := R4.below k
        have N5 := N4.below k
        have b5 := b4.trans (k.mono b4.size)
        clear R4 N4 b4 k
        refine GrowT.reads rfl rfl ?_
        go_big_quiet_want
        refine quiet_build4 _ _ _ _ rfl (.agg (EE.enc ev).toArray) (.int .i64 g) (.slice AF F.length cF) (.agg (OE.enc o).toArray) _ rfl rfl rfl rfl (build_com4 ev g AF F.length cF o) ?_
        go_big_quiet_on
        refine wpQuiet_nil ?_
        (try simp only [Act.put, List.setIfInBounds_toArray, List.set_cons_succ, List.set_cons_zero])
      all_goals
        refine GrowT.last rfl ?_
        go_wp2_with (first | go_skip | (refine Cel.wpList_store_box CE rfl _ _ rfl gn rfl noV N5 (⟨AF, cF, ⟨ev.node, ev.seq, g, F, o⟩⟩ : Cv) rfl ?_; intro w6 N6 f8 g8 s8))
        have R6 := R5.kept g8 (fun e => absurd (Option.some.inj e) (Nat.ne_of_lt hz))
        have T6 := CmD.sli_far T5 (CmD.no_cm N5) g8
        have b6 := b5.trans (f8 w.heap.size (by omega))
        clear R5 T5 N5 b5 f8 g8 s8 qf
        refine GrowL.done ?_
        go_wp2_with (first | go_skip | (refine Cel.wpList_load_box CE rfl _ rfl _ rfl (⟨AF, cF, ⟨ev.node, ev.seq, g, F, o⟩⟩ : Cv) N6 ?_))
        refine (qm AF cF _ T6).mono ?_
        clear qm
        rintro e w7 ⟨rfl, k⟩
        have R7 := R6.below k
        have N7 := N6.below k
        have T7 := T6.below k
        have b7 := b6.trans (k.mono b6.size)
        clear R6 N6 T6 b6 k
        go_wp2_with (first | go_skip)
        refine GrowT.region 4 tree10 (by kernel_rfl) (by kernel_rfl) rfl (by kernel_rfl) (by intro c a d v w h; cases d <;> exact h) ?_
        have dr := below_drew1 (Below.refl w7.heap.size w7)
        have R8 := R7.below dr
        have N8 := N7.below dr
        have T8 := T7.below dr
        have b8 := b7.trans (dr.mono b7.size)
        generalize w7.drew = w8 at R8 N8 T8 b8 ⊢
        clear R7 N7 T7 b7 dr
        (try simp only [Act.put, List.setIfInBounds_toArray, List.set_cons_succ, List.set_cons_zero])
        repeat (first | (refine GrowT.reads rfl rfl ?_; go_big_quiet_want; refine Cel.quiet_row CE _ rfl _ _ rfl (⟨AF, cF, ⟨ev.node, ev.seq, g, F, o⟩⟩ : Cv) N8.range ?_; go_big_quiet_on; refine wpQuiet_nil ?_; (try simp only [Act.put, List.setIfInBounds_toArray, List.set_cons_succ, List.set_cons_zero])) | (refine GrowT.reads rfl rfl ?_; go_big_quiet_step (fail); refine wpQuiet_nil ?_))
        refine GrowT.forks rfl rfl ?_ ?_
        focus
          go_wp2_with (first | go_skip | (refine RowS.wpList_append KE rfl _ _ rfl w8.heap.size _ 0 [] rfl ⟨rfl, .inl ⟨rfl, rfl⟩⟩ A _ cap l rfl rfl (S.below b8).row (by omega) (Nat.le_refl _) ?_; intro vx wx ox gx))
          have kx : Below w8.heap.size w8 wx := below_grown (Below.refl _ _) (Nat.le_refl _) gx (fun q hq => by cases hq)
          clear gx
          refine ⟨kx, ?_⟩
          (try simp only [Act.put, List.setIfInBounds_toArray, List.set_cons_succ, List.set_cons_zero])
          refine GrowT.acts rfl ?_
          go_wp2_with (first | go_skip | (refine RowC.wpList_lit1 KE (of_decide_eq_true rfl) rfl _ rfl (⟨AF, cF, ⟨ev.node, ev.seq, g, F, o⟩⟩ : Cv) rfl ?_; intro wy Sy ky))
          refine ⟨ky, ?_⟩
          (try simp only [Act.put, List.setIfInBounds_toArray, List.set_cons_succ, List.set_cons_zero])
          have oy := owns_below ox ky
          have kz := kx.trans (ky.mono kx.size)
          clear ox kx ky
        rotate_left
        focus
          go_wp2_with (first | go_skip | (refine RowC.wpList_lit1 KE (of_decide_eq_true rfl) rfl _ rfl (⟨AF, cF, ⟨ev.node, ev.seq, g, F, o⟩⟩ : Cv) rfl ?_; intro wx Sx kx))
          refine ⟨kx, ?_⟩
          (try simp only [Act.put, List.setIfInBounds_toArray, List.set_cons_succ, List.set_cons_zero])
          refine GrowT.acts rfl ?_
          go_wp2_with (first | go_skip | (refine RowS.wpList_append KE rfl _ _ rfl wx.heap.size _ 0 [] rfl ⟨rfl, .inl ⟨rfl, rfl⟩⟩ A _ cap l rfl rfl (S.below (b8.trans (kx.mono b8.size))).row (by omega) (Nat.le_refl _) ?_; intro vx wy ox gx))
          have ky : Below wx.heap.size wx wy := below_grown (Below.refl _ _) (Nat.le_refl _) gx (fun q hq => by cases hq)
          clear gx
          refine ⟨ky, ?_⟩
          (try simp only [Act.put, List.setIfInBounds_toArray, List.set_cons_succ, List.set_cons_zero])
          have Sy := Sx.below ky
          have oy := owns_less ox kx.size
          have kz := kx.trans (ky.mono kx.size)
          clear ox kx ky Sx
        all_goals
          refine GrowT.mid rfl ?_
          go_wp2_with (first | go_skip | (refine RowS.wpList_append KE rfl _ _ rfl w8.heap.size _ _ _ rfl oy _ _ 1 [(⟨AF, cF, ⟨ev.node, ev.seq, g, F, o⟩⟩ : Cv)] rfl rfl Sy (by omega) kz.size ?_; intro vq wq oq gq))
          have kq : Below w8.heap.size w8 wq := below_grown kz kz.size gq (fun q hq => (oy.lt q hq).1)
          clear gq oy Sy kz
          refine GrowT.on_mid ?_
          (try simp only [Act.put, List.setIfInBounds_toArray, List.set_cons_succ, List.set_cons_zero])
          have bq := b8.trans (kq.mono b8.size)
          have Tq := T8.below kq
          rw [List.nil_append] at oq
          obtain ⟨AC, cC, rfl, SC⟩ := sl_both (l := l) oq (S.below bq).each (fun x hx => by rw [List.mem_singleton.1 hx]; exact ⟨Tq, HOK.out.fit⟩)
          clear oq
          have qd := closed_ret AC cC (l ++ [(⟨AF, cF, ⟨ev.node, ev.seq, g, F, o⟩⟩ : Cv)]) _ SC (fun x hx => by
            rcases List.mem_append.1 hx with hx | hx
            · exact HO.out x hx
            · rw [List.mem_singleton.1 hx]; exact HOK.out) (by simp; omega)
          rw [coms_one] at qd
          rw [List.length_append, List.length_singleton] at qd
          have hdd : decide (Closed hashK (coms l ++ [(⟨AF, cF, ⟨ev.node, ev.seq, g, F, o⟩⟩ : Cv).c])) = d := HD.out
          rw [hdd] at qd
          clear hdd
          refine GrowT.acts rfl ?_
          go_wp2_with (first | go_skip)
          refine qd.mono ?_
          clear qd SC
          rintro e wz ⟨rfl, k⟩
          go_wp2_with (first | go_skip)
          refine ⟨k, ?_⟩
          (try simp only [Act.put, List.setIfInBounds_toArray, List.set_cons_succ, List.set_cons_zero])
          have ka := kq.trans (k.mono kq.size)
          have ba := bq.trans (k.mono bq.size)
          have Ra := R8.below ka
          have Na := N8.below ka
          have Ta := Tq.below k
          clear kq k bq Tq ka
          refine GrowT.acts rfl ?_
          go_wp2_with (first | go_skip)
          refine ⟨Below.refl _ _, ?_⟩
          (try simp only [Act.put, List.setIfInBounds_toArray, List.set_cons_succ, List.set_cons_zero])
          refine GrowT.ends ?_
          have hnx := HNX.out
          cases z with
          | false =>
            have hrn : r = none := hnx
            subst hrn
            go_wp2_with (first | go_skip | (refine Cel.wpList_load_box CE rfl _ rfl _ rfl (⟨AF, cF, ⟨ev.node, ev.seq, g, F, o⟩⟩ : Cv) Na ?_) | (refine Cel.wpList_store_box CE rfl _ _ rfl (w.heap.size + 1 + 1) rfl noV Ra noV rfl ?_; intro w9 R9 f9 g9 s9))
            exact bodyPost_ret (v := .tuple #[.agg (cc noV), .bool false]) (results_cb Tryz.results42 _ _ (w.heap.size + 1 + 1) noV _ rfl rfl R9) rfl ⟨noV, rfl, rfl, CmW.In.none _, fit_noK, ba.trans (f9 _ (by omega))⟩
          | true =>
            cases m with
            | false =>
              have hrn : r = none := hnx
              subst hrn
              go_wp2_with (first | go_skip | (refine Cel.wpList_load_box CE rfl _ rfl _ rfl (⟨AF, cF, ⟨ev.node, ev.seq, g, F, o⟩⟩ : Cv) Na ?_) | (refine Cel.wpList_store_box CE rfl _ _ rfl (w.heap.size + 1 + 1) rfl noV Ra noV rfl ?_; intro w9 R9 f9 g9 s9))
              exact bodyPost_ret (v := .tuple #[.agg (cc noV), .bool false]) (results_cb Tryz.results42 _ _ (w.heap.size + 1 + 1) noV _ rfl rfl R9) rfl ⟨noV, rfl, rfl, CmW.In.none _, fit_noK, ba.trans (f9 _ (by omega))⟩
            | true =>
              cases d with
              | false =>
                have hrn : r = none := hnx
                subst hrn
                go_wp2_with (first | go_skip | (refine Cel.wpList_load_box CE rfl _ rfl _ rfl (⟨AF, cF, ⟨ev.node, ev.seq, g, F, o⟩⟩ : Cv) Na ?_) | (refine Cel.wpList_store_box CE rfl _ _ rfl (w.heap.size + 1 + 1) rfl noV Ra noV rfl ?_; intro w9 R9 f9 g9 s9))
                exact bodyPost_ret (v := .tuple #[.agg (cc noV), .bool false]) (results_cb Tryz.results42 _ _ (w.heap.size + 1 + 1) noV _ rfl rfl R9) rfl ⟨noV, rfl, rfl, CmW.In.none _, fit_noK, ba.trans (f9 _ (by omega))⟩
              | true =>
                have hrn : r = some ⟨ev.node, ev.seq, g, F, o⟩ := hnx
                subst hrn
                go_wp2_with (first | go_skip | (refine Cel.wpList_load_box CE rfl _ rfl _ rfl (⟨AF, cF, ⟨ev.node, ev.seq, g, F, o⟩⟩ : Cv) Na ?_) | (refine Cel.wpList_store_box CE rfl _ _ rfl (w.heap.size + 1 + 1) rfl noV Ra (⟨AF, cF, ⟨ev.node, ev.seq, g, F, o⟩⟩ : Cv) rfl ?_; intro w9 R9 f9 g9 s9))
                exact bodyPost_ret (v := .tuple #[.agg (cc (⟨AF, cF, ⟨ev.node, ev.seq, g, F, o⟩⟩ : Cv)), .bool true]) (results_cb Tryz.results42 _ _ (w.heap.size + 1 + 1) (⟨AF, cF, ⟨ev.node, ev.seq, g, F, o⟩⟩ : Cv) _ rfl rfl R9) rfl ⟨(⟨AF, cF, ⟨ev.node, ev.seq, g, F, o⟩⟩ : Cv), rfl, rfl, CmD.sli_far Ta (CmD.no_cm Ra) g9, HOK.out.fit, ba.trans (f9 _ (by omega))⟩
end Go.Proofs.YtechkdhehipliaaGreatDoor.FrO
namespace Go.Proofs.YtechkdhehipliaaGreatDoor.FrW
set_option maxRecDepth 100000
open Go Go.Sort Go.RowKit Byt IdM IdW OpsM OpsW CmM StW CmW CmX CmY CmA DgM DgW DgR DgF DgG FrM FrN FrJ FrH FrU FrY OpenE
open Classical

set_option maxRecDepth 100000 in
set_option maxHeartbeats 32000000 in
theorem walk (F : Five) (HA : AwakeRet) (a0 : Option Addr) (cap0 : Nat) (l0 : List Cv) (a1 : Option Addr) (cap1 : Nat) (l1 : List Idn) (a2 : Option Addr) (cap2 : Nat) (l2 : List Idn) (ev : Ev) (o : Opn) (w : World) (S : SlK w a0 cap0 l0) (T : SlI w a1 cap1 l1) (R : SlI w a2 cap2 l2) (ge : GoodE ev) (go : OpsC.Fit o) (K : ShaE.KIn w) :
    Calls Tryz.prog 5 #[.slice a0 l0.length cap0, .slice a1 l1.length cap1, .slice a2 l2.length cap2, .agg (ec ev), .agg (opc o)] w fun e w' => e = .returned (.bool true) ∧ Below w.heap.size w w' := by
  have hmax := S.len
  have hmaxa : l1.length ≤ 9223372036854775807 := by have := T.1; have := T.2.1; unfold maxLen at this; omega
  have hmaxb : l2.length ≤ 9223372036854775807 := by have := R.1; have := R.2.1; unfold maxLen at this; omega
  have hfk : (o.key.size : Int) ≤ 9223372036854775807 := by have := go.key; unfold maxLen at this; omega
  have hfe : (o.elem.size : Int) ≤ 9223372036854775807 := by have := go.elem; unfold maxLen at this; omega
  obtain ⟨E, O⟩ := W2_boxes w ev o
  have b := W2_below w ev o
  have S' := S.below b
  have T' := T.below b
  have R' := R.below b
  have K' := K.below b
  have GE := aside ge
  have GO := aside go
  clear S T R K ge go
  have S := S'
  have T := T'
  have R := R'
  have K := K'
  clear S' T' R' K'
  go_enter Tryz.func5, Tryz.ntmps5
  go_wp2_with (first | go_skip)
  refine (HA _ K).mono ?_
  rintro e wx ⟨rfl, kx⟩
  replace S := S.below kx; replace T := T.below kx; replace R := R.below kx; replace K := K.below kx; replace E := E.below kx; replace O := O.below kx
  replace b := b.trans (kx.mono b.size); clear kx
  go_wp2_with (first | go_skip)
  obtain ⟨f, hf⟩ : ∃ f, fewD (coms l0) 10 = f := ⟨_, rfl⟩
  have qs := DgR.few_ret a0 cap0 l0 10 _ S
  rw [hf] at qs
  refine qs.mono ?_
  clear qs
  rintro e w2 ⟨rfl, kx⟩
  replace S := S.below kx; replace T := T.below kx; replace R := R.below kx; replace K := K.below kx; replace E := E.below kx; replace O := O.below kx
  replace b := b.trans (kx.mono b.size); clear kx
  have ck : w2.cell? ⟨w.heap.size + 1, 1, none⟩ = some (.string o.key) := O.cell (j := 1) rfl
  have ce : w2.cell? ⟨w.heap.size + 1, 2, none⟩ = some (.string o.elem) := O.cell (j := 2) rfl
  cases f with
  | false =>
    go_wp2_with (first | go_skip)
    go_ret
    exact ⟨rfl, b⟩
  | true =>
    have hw : (20 : Int) < l1.length ∨ (¬ (20 : Int) < l1.length ∧ (20 : Int) < l2.length) ∨ (¬ (20 : Int) < l1.length ∧ ¬ (20 : Int) < l2.length ∧ (100 : Int) < o.key.size) ∨ (¬ (20 : Int) < l1.length ∧ ¬ (20 : Int) < l2.length ∧ ¬ (100 : Int) < o.key.size ∧ (100 : Int) < o.elem.size) ∨ (¬ (20 : Int) < l1.length ∧ ¬ (20 : Int) < l2.length ∧ ¬ (100 : Int) < o.key.size ∧ ¬ (100 : Int) < o.elem.size) := by omega
    rcases hw with p1 | ⟨p1, p2⟩ | ⟨p1, p2, p3⟩ | ⟨p1, p2, p3, p4⟩ | ⟨p1, p2, p3, p4⟩
    case inl =>
      go_wp2_with (first | go_skip)
      go_ret
      exact ⟨rfl, b⟩
    case inr.inl =>
      go_wp2_with (first | go_skip)
      go_ret
      exact ⟨rfl, b⟩
    case inr.inr.inl =>
      go_wp2_with (first | go_skip)
      go_ret
      exact ⟨rfl, b⟩
    case inr.inr.inr.inl =>
      go_wp2_with (first | go_skip)
      go_ret
      exact ⟨rfl, b⟩
    case inr.inr.inr.inr =>
      obtain ⟨ho, hl⟩ := okay_few (fun v hv => (S.each v hv).2) hf
      have hl2 : l0.length ≤ 1000 := by omega
      have hl1 : l0.length ≤ 100 := by omega
      have HO := aside ho
      clear ho hf
      have hk : CmR.Okay ⟨ev.node, ev.seq, 0, [], o⟩ := ⟨⟨GE.out.node, GE.out.seq, by show I64 0; unfold I64; decide, GO.out⟩, by show o.key.size ≤ _; omega, by show o.elem.size ≤ _; omega⟩
      have HK := aside hk
      have ha1 : l1.length ≤ 100 := by omega
      have ha2 : l2.length ≤ 100 := by omega
      clear hk hmaxa hmaxb hfk hfe
      have q1 := fun W S K => F.front a0 cap0 l0 W S HO.out hl1 K
      have q2 := fun W S => FrR.front_ret a0 cap0 l0 W S HO.out hl2
      unfold NewD at q1 q2
      have q3 := fun W S T R K => F.base a0 a1 a2 cap0 cap1 cap2 l0 l1 l2 W S T R HO.out hl1 ha1 ha2 K
      have q4 := fun W S T R => FrR.base_ret a0 a1 a2 cap0 cap1 cap2 l0 l1 l2 W S T R HO.out hl1
      unfold NewD at q3 q4
      have q5 := fun W S T K => F.join a0 a1 cap0 cap1 l0 l1 W S T HO.out hl1 ha1 K
      have q6 := fun W S T => FrG.join_ret a0 a1 cap0 cap1 l0 l1 W S T HO.out hl1
      unfold FoundC at q5 q6
      have q7 := fun W S K => F.head a0 cap0 l0 W S HO.out hl1 K
      have q8 := fun W S => FrG.head_ret a0 cap0 l0 W S HO.out hl1
      unfold FoundC at q7 q8
      have q9 := fun W S K => F.next a0 cap0 l0 ev o W S HO.out hl1 HK.out K
      have qa := fun W S => FrO.next_ret a0 cap0 l0 ev o W S HO.out hl1 HK.out
      unfold FoundC at q9 qa
      generalize frontC (coms l0) = f1 at q1 q2
      generalize baseC (coms l0) l1 l2 = f2 at q3 q4
      generalize joinC (coms l0) l1 = r1 at q5 q6
      generalize headC (coms l0) = r2 at q7 q8
      generalize nextC (coms l0) ev o = r3 at q9 qa
      generalize r1.isSome = s1 at q5 q6
      generalize r2.isSome = s2 at q7 q8
      generalize r3.isSome = s3 at q9 qa
      generalize r1.getD noK = c1 at q5 q6
      generalize r2.getD noK = c2 at q7 q8
      generalize r3.getD noK = c3 at q9 qa
      go_wp2_with (first | go_skip)
      clear ck ce p1 p2 p3 p4 hl
      refine (q1 _ S K).mono ?_
      rintro e wx ⟨A1, c1', rfl, U, kx⟩
      replace S := S.below kx; replace T := T.below kx; replace R := R.below kx; replace K := K.below kx; replace E := E.below kx; replace O := O.below kx
      replace b := b.trans (kx.mono b.size); clear kx
      go_wp2_with (first | go_skip)
      refine (q2 _ S).mono ?_
      rintro e wx ⟨A2, c2', rfl, V, kx⟩
      replace S := S.below kx; replace T := T.below kx; replace R := R.below kx; replace K := K.below kx; replace E := E.below kx; replace O := O.below kx; replace U := U.below kx
      replace b := b.trans (kx.mono b.size); clear kx
      have qs := IdV.same_ret A1 A2 c1' c2' _ _ _ U V
      rw [decide_eq_true rfl] at qs
      clear U V
      go_wp2_with (first | go_skip)
      refine qs.mono ?_
      clear qs
      rintro e wx ⟨rfl, kx⟩
      replace S := S.below kx; replace T := T.below kx; replace R := R.below kx; replace K := K.below kx; replace E := E.below kx; replace O := O.below kx
      replace b := b.trans (kx.mono b.size); clear kx
      clear q1 q2
      go_wp2_with (first | go_skip)
      refine (q3 _ S T R K).mono ?_
      rintro e wx ⟨A1, c1', rfl, U, kx⟩
      replace S := S.below kx; replace T := T.below kx; replace R := R.below kx; replace K := K.below kx; replace E := E.below kx; replace O := O.below kx
      replace b := b.trans (kx.mono b.size); clear kx
      go_wp2_with (first | go_skip)
      refine (q4 _ S T R).mono ?_
      rintro e wx ⟨A2, c2', rfl, V, kx⟩
      replace S := S.below kx; replace T := T.below kx; replace R := R.below kx; replace K := K.below kx; replace E := E.below kx; replace O := O.below kx; replace U := U.below kx
      replace b := b.trans (kx.mono b.size); clear kx
      have qs := IdV.same_ret A1 A2 c1' c2' _ _ _ U V
      rw [decide_eq_true rfl] at qs
      clear U V
      go_wp2_with (first | go_skip)
      refine qs.mono ?_
      clear qs
      rintro e wx ⟨rfl, kx⟩
      replace S := S.below kx; replace T := T.below kx; replace R := R.below kx; replace K := K.below kx; replace E := E.below kx; replace O := O.below kx
      replace b := b.trans (kx.mono b.size); clear kx
      clear q3 q4
      go_wp2_with (first | go_skip)
      refine (q5 _ S T K).mono ?_
      rintro e wx ⟨v1, rfl, hv1, I1, _, kx⟩
      clear q5
      replace S := S.below kx; replace T := T.below kx; replace R := R.below kx; replace K := K.below kx; replace E := E.below kx; replace O := O.below kx
      replace b := b.trans (kx.mono b.size); clear kx
      go_wp2_with (first | go_skip | (refine Cel.wpList_store_new CE rfl _ _ rfl wx _ _ rfl v1 _ rfl rfl rfl rfl ?_; intro wy CB1 ky g4 s4; have EY := E.below ky; have OY := O.below ky; clear g4 s4))
      clear EY OY
      replace S := S.below ky; replace T := T.below ky; replace R := R.below ky; replace K := K.below ky; replace E := E.below ky; replace O := O.below ky; replace I1 := I1.below ky
      replace b := b.trans (ky.mono b.size); clear ky
      refine (q6 _ S T).mono ?_
      rintro e wx ⟨v2, rfl, hv2, I2, _, kx⟩
      clear q6
      replace S := S.below kx; replace T := T.below kx; replace R := R.below kx; replace K := K.below kx; replace E := E.below kx; replace O := O.below kx; replace I1 := I1.below kx; replace CB1 := CB1.below kx
      replace b := b.trans (kx.mono b.size); clear kx
      go_wp2_with (first | go_skip | (refine Cel.wpList_store_new CE rfl _ _ rfl wx _ _ rfl v2 _ rfl rfl rfl rfl ?_; intro wy CB2 ky g4 s4; have EY := E.below ky; have OY := O.below ky; clear g4 s4))
      clear EY OY
      replace S := S.below ky; replace T := T.below ky; replace R := R.below ky; replace K := K.below ky; replace E := E.below ky; replace O := O.below ky; replace I1 := I1.below ky; replace CB1 := CB1.below ky; replace I2 := I2.below ky
      replace b := b.trans (ky.mono b.size); clear ky
      refine (q7 _ S K).mono ?_
      rintro e wx ⟨v3, rfl, hv3, I3, _, kx⟩
      clear q7
      replace S := S.below kx; replace T := T.below kx; replace R := R.below kx; replace K := K.below kx; replace E := E.below kx; replace O := O.below kx; replace I1 := I1.below kx; replace CB1 := CB1.below kx; replace I2 := I2.below kx; replace CB2 := CB2.below kx
      replace b := b.trans (kx.mono b.size); clear kx
      go_wp2_with (first | go_skip | (refine Cel.wpList_store_new CE rfl _ _ rfl wx _ _ rfl v3 _ rfl rfl rfl rfl ?_; intro wy CB3 ky g4 s4; have EY := E.below ky; have OY := O.below ky; clear g4 s4))
      clear EY OY
      replace S := S.below ky; replace T := T.below ky; replace R := R.below ky; replace K := K.below ky; replace E := E.below ky; replace O := O.below ky; replace I1 := I1.below ky; replace CB1 := CB1.below ky; replace I2 := I2.below ky; replace CB2 := CB2.below ky; replace I3 := I3.below ky
      replace b := b.trans (ky.mono b.size); clear ky
      refine (q8 _ S).mono ?_
      rintro e wx ⟨v4, rfl, hv4, I4, _, kx⟩
      clear q8
      replace S := S.below kx; replace T := T.below kx; replace R := R.below kx; replace K := K.below kx; replace E := E.below kx; replace O := O.below kx; replace I1 := I1.below kx; replace CB1 := CB1.below kx; replace I2 := I2.below kx; replace CB2 := CB2.below kx; replace I3 := I3.below kx; replace CB3 := CB3.below kx
      replace b := b.trans (kx.mono b.size); clear kx
      go_wp2_with (first | go_skip | (refine Cel.wpList_store_new CE rfl _ _ rfl wx _ _ rfl v4 _ rfl rfl rfl rfl ?_; intro wy CB4 ky g4 s4; have EY := E.below ky; have OY := O.below ky; clear g4 s4) | (refine Cel.wpList_load_box EE rfl _ rfl _ rfl ev EY ?_) | (refine Cel.wpList_load_box OE rfl _ rfl _ rfl o OY ?_))
      clear EY OY
      replace S := S.below ky; replace T := T.below ky; replace R := R.below ky; replace K := K.below ky; replace E := E.below ky; replace O := O.below ky; replace I1 := I1.below ky; replace CB1 := CB1.below ky; replace I2 := I2.below ky; replace CB2 := CB2.below ky; replace I3 := I3.below ky; replace CB3 := CB3.below ky; replace I4 := I4.below ky
      replace b := b.trans (ky.mono b.size); clear ky
      refine (q9 _ S K).mono ?_
      rintro e wx ⟨v5, rfl, hv5, I5, _, kx⟩
      clear q9
      replace S := S.below kx; replace T := T.below kx; replace R := R.below kx; replace K := K.below kx; replace E := E.below kx; replace O := O.below kx; replace I1 := I1.below kx; replace CB1 := CB1.below kx; replace I2 := I2.below kx; replace CB2 := CB2.below kx; replace I3 := I3.below kx; replace CB3 := CB3.below kx; replace I4 := I4.below kx; replace CB4 := CB4.below kx
      replace b := b.trans (kx.mono b.size); clear kx
      go_wp2_with (first | go_skip | (refine Cel.wpList_store_new CE rfl _ _ rfl wx _ _ rfl v5 _ rfl rfl rfl rfl ?_; intro wy CB5 ky g4 s4; have EY := E.below ky; have OY := O.below ky; clear g4 s4) | (refine Cel.wpList_load_box EE rfl _ rfl _ rfl ev EY ?_) | (refine Cel.wpList_load_box OE rfl _ rfl _ rfl o OY ?_))
      clear EY OY
      replace S := S.below ky; replace T := T.below ky; replace R := R.below ky; replace K := K.below ky; replace E := E.below ky; replace O := O.below ky; replace I1 := I1.below ky; replace CB1 := CB1.below ky; replace I2 := I2.below ky; replace CB2 := CB2.below ky; replace I3 := I3.below ky; replace CB3 := CB3.below ky; replace I4 := I4.below ky; replace CB4 := CB4.below ky; replace I5 := I5.below ky
      replace b := b.trans (ky.mono b.size); clear ky
      refine (qa _ S).mono ?_
      rintro e wx ⟨v6, rfl, hv6, I6, _, kx⟩
      clear qa
      replace S := S.below kx; replace T := T.below kx; replace R := R.below kx; replace K := K.below kx; replace E := E.below kx; replace O := O.below kx; replace I1 := I1.below kx; replace CB1 := CB1.below kx; replace I2 := I2.below kx; replace CB2 := CB2.below kx; replace I3 := I3.below kx; replace CB3 := CB3.below kx; replace I4 := I4.below kx; replace CB4 := CB4.below kx; replace I5 := I5.below kx; replace CB5 := CB5.below kx
      replace b := b.trans (kx.mono b.size); clear kx
      have sm1 : CmR.sameK v1.c v2.c = true := CmR.sameK_iff.2 (hv1.trans hv2.symm)
      have sm2 : CmR.sameK v3.c v4.c = true := CmR.sameK_iff.2 (hv3.trans hv4.symm)
      have sm3 : CmR.sameK v5.c v6.c = true := CmR.sameK_iff.2 (hv5.trans hv6.symm)
      have SM1 := aside sm1
      have SM2 := aside sm2
      have SM3 := aside sm3
      clear sm1 sm2 sm3 hv1 hv2 hv3 hv4 hv5 hv6
      go_wp2_with (first | go_skip | (refine Cel.wpList_store_new CE rfl _ _ rfl wx _ _ rfl v6 _ rfl rfl rfl rfl ?_; intro wy CB6 ky g4 s4; have CY1 := CB1.below ky; have CY2 := CB2.below ky; clear g4 s4) | (refine Cel.wpList_load_box CE rfl _ rfl _ rfl v1 CY1 ?_) | (refine Cel.wpList_load_box CE rfl _ rfl _ rfl v2 CY2 ?_))
      clear CY1 CY2
      replace S := S.below ky; replace T := T.below ky; replace R := R.below ky; replace K := K.below ky; replace E := E.below ky; replace O := O.below ky; replace I1 := I1.below ky; replace CB1 := CB1.below ky; replace I2 := I2.below ky; replace CB2 := CB2.below ky; replace I3 := I3.below ky; replace CB3 := CB3.below ky; replace I4 := I4.below ky; replace CB4 := CB4.below ky; replace I5 := I5.below ky; replace CB5 := CB5.below ky; replace I6 := I6.below ky
      replace b := b.trans (ky.mono b.size); clear ky
      have qs := CmR.same_ret v1 v2 _ I1 I2
      rw [SM1.out] at qs
      refine qs.mono ?_
      clear qs
      rintro e wx ⟨rfl, kx⟩
      replace S := S.below kx; replace T := T.below kx; replace R := R.below kx; replace K := K.below kx; replace E := E.below kx; replace O := O.below kx; replace I1 := I1.below kx; replace CB1 := CB1.below kx; replace I2 := I2.below kx; replace CB2 := CB2.below kx; replace I3 := I3.below kx; replace CB3 := CB3.below kx; replace I4 := I4.below kx; replace CB4 := CB4.below kx; replace I5 := I5.below kx; replace CB5 := CB5.below kx; replace I6 := I6.below kx; replace CB6 := CB6.below kx
      replace b := b.trans (kx.mono b.size); clear kx
      go_wp2_with (first | go_skip | (refine Cel.wpList_load_box CE rfl _ rfl _ rfl v3 CB3 ?_) | (refine Cel.wpList_load_box CE rfl _ rfl _ rfl v4 CB4 ?_))
      have qs := CmR.same_ret v3 v4 _ I3 I4
      rw [SM2.out] at qs
      refine qs.mono ?_
      clear qs
      rintro e wx ⟨rfl, kx⟩
      replace S := S.below kx; replace T := T.below kx; replace R := R.below kx; replace K := K.below kx; replace E := E.below kx; replace O := O.below kx; replace I1 := I1.below kx; replace CB1 := CB1.below kx; replace I2 := I2.below kx; replace CB2 := CB2.below kx; replace I3 := I3.below kx; replace CB3 := CB3.below kx; replace I4 := I4.below kx; replace CB4 := CB4.below kx; replace I5 := I5.below kx; replace CB5 := CB5.below kx; replace I6 := I6.below kx; replace CB6 := CB6.below kx
      replace b := b.trans (kx.mono b.size); clear kx
      go_wp2_with (first | go_skip | (refine Cel.wpList_load_box CE rfl _ rfl _ rfl v5 CB5 ?_) | (refine Cel.wpList_load_box CE rfl _ rfl _ rfl v6 CB6 ?_))
      have qs := CmR.same_ret v5 v6 _ I5 I6
      rw [SM3.out] at qs
      refine qs.mono ?_
      clear qs
      rintro e wx ⟨rfl, kx⟩
      replace S := S.below kx; replace T := T.below kx; replace R := R.below kx; replace K := K.below kx; replace E := E.below kx; replace O := O.below kx; replace I1 := I1.below kx; replace CB1 := CB1.below kx; replace I2 := I2.below kx; replace CB2 := CB2.below kx; replace I3 := I3.below kx; replace CB3 := CB3.below kx; replace I4 := I4.below kx; replace CB4 := CB4.below kx; replace I5 := I5.below kx; replace CB5 := CB5.below kx; replace I6 := I6.below kx; replace CB6 := CB6.below kx
      replace b := b.trans (kx.mono b.size); clear kx
      clear S T R K E O I1 CB1 I2 CB2 I3 CB3 I4 CB4 I5 CB5 I6 CB6
      cases s1 <;> cases s2 <;> cases s3
      all_goals (go_wp2_with (first | go_skip))
      all_goals go_ret
      all_goals exact ⟨rfl, b⟩
end Go.Proofs.YtechkdhehipliaaGreatDoor.FrW
