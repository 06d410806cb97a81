/- What the document's Next of package front returns: a contract. -/
import Derived.Test.YtechkdhehipliaaGreatDoorIdYJ3
import Derived.Test.YtechkdhehipliaaGreatDoorFrCJ5
namespace Go.Proofs.YtechkdhehipliaaGreatDoor.FrO
set_option maxRecDepth 100000
open Go Go.Sort Go.RowKit Byt IdM IdW OpsM OpsW RowS CmM StW CmW CmX CmY DgM DgN DgX DgW DgR DgC DgF DgG FrM FrN FrH FrU FrY FrZ
open Classical

def tree8 : Forks.Tree := .free 0 (.free 1 (.free 2 (.free 3 (.free 5 (.two 4 (.free 6 (.act 7 (.act 8 .ends))) 7 (.act 4 (.free 6 (.act 8 .ends))))))))
def tree10 : Forks.Tree := .free 0 (.free 2 (.two 1 (.act 3 (.act 4 (.act 5 (.act 6 .ends)))) 3 (.act 1 (.act 4 (.act 5 (.act 6 .ends))))))
theorem most_more {l : List Com} {k : Nat} {x : Com} (hx : l[k]? = some x) : most ((l.take (k + 1)).map (·.gen)) = max (most ((l.take k).map (·.gen))) x.gen := by
 obtain ⟨hk, e⟩ := List.getElem?_eq_some_iff.1 hx
 rw [List.take_succ_eq_append_getElem hk, e, List.map_append]
 exact DgX.most_snoc _ _
set_option maxRecDepth 100000 in
set_option maxHeartbeats 64000000 in
theorem next_ret (A : Option Addr) (cap : Nat) (l : List Cv) (ev : Ev) (o : Opn) (w : World) (S : SlK w A cap l) (ho : ∀ v ∈ l, CmR.Okay v.c) (hl : l.length ≤ 100) (hk : CmR.Okay ⟨ev.node, ev.seq, 0, [], o⟩) :
  Calls Tryz.prog 42 #[.slice A l.length cap, .agg (ec ev), .agg (opc o)] w (FoundC (nextC (coms l) ev o) w) := by
 obtain ⟨E0, O0, R0⟩ := W3_boxes w ev o
 have hmax := S.len
 have hlc := coms_len l
 have b0 := W3_below w ev o
 have qs := fun W S => closed_ret A cap l W S ho (by omega)
 have qf := fun W S => FrR.front_ret A cap l W S ho (by omega)
 unfold NewD at qf
 have hnx := next_three (l := coms l) (ev := ev) (o := o) (by rw [coms_len]; omega)
 unfold FoundC
 obtain ⟨r, hr⟩ : ∃ r, nextC (coms l) ev o = r := ⟨_, rfl⟩
 obtain ⟨F, hF⟩ : ∃ F, frontC (coms l) = F := ⟨_, rfl⟩
 obtain ⟨z, hz⟩ : ∃ z, decide (Closed hashK (coms l)) = z := ⟨_, rfl⟩
 have hg := wrap_one (most ((coms l).map (·.gen)) + 1)
 obtain ⟨G, hG⟩ : ∃ G, most ((coms l).map (·.gen)) = G := ⟨_, rfl⟩
 rw [hG] at hg hnx
 obtain ⟨g, hgg⟩ : ∃ g, IntKind.i64.wrap (G + 1) = g := ⟨_, rfl⟩
 rw [hr, hF, hgg, hz] at hnx
 rw [hr]
 rw [hF] at qf
 rw [hz] at qs
 rw [hgg] at hg
 have hok : CmR.Okay ⟨ev.node, ev.seq, g, F, o⟩ := ⟨⟨hk.fit.node, hk.fit.seq, hg, hk.fit.op⟩, hk.key, hk.elem⟩
 obtain ⟨m, hm⟩ : ∃ m, mayK ⟨ev.node, ev.seq, g, F, o⟩ = m := ⟨_, rfl⟩
 have qm : ∀ AF cF W, SlI W AF cF F → Calls Tryz.prog 71 #[.agg (cc (⟨AF, cF, ⟨ev.node, ev.seq, g, F, o⟩⟩ : Cv))] W (fun e w' => e = .returned (.bool m) ∧ Below W.heap.size W w') := fun AF cF W I => by
  rw [← hm]
  exact CmR.may_ret (⟨AF, cF, ⟨ev.node, ev.seq, g, F, o⟩⟩ : Cv) W I hok
 obtain ⟨d, hd⟩ : ∃ d, decide (Closed hashK (coms l ++ [⟨ev.node, ev.seq, g, F, o⟩])) = d := ⟨_, rfl⟩
 rw [hm, hd] at hnx
 have HOK := aside hok
 have HNX := aside hnx
 have HD := aside hd
 have HG : Hid (most (((coms l).take l.length).map (·.gen)) = G) := aside (by rw [← hlc, List.take_length]; exact hG)
 have HGG := aside hgg
 have HO := aside ho
 clear hr hF hG hgg hg hz hnx hok hm hd ho hk hlc
 go_enter Tryz.func42, Tryz.ntmps42
 go_wp2_with (first | go_skip)
 rw [show ((w.alloc (.cells (ec ev) 34)).alloc (.cells (opc o) 36)).alloc (.cells #[.int .i64 0, .int .i64 0, .int .i64 0, .slice none 0 0, .int .i64 0, .string ⟨#[]⟩, .string ⟨#[]⟩, .int .i64 0] 38) = W3 w ev o from rfl]
 refine (qs _ (S.below b0)).mono ?_
 rintro e w1 ⟨rfl, k⟩
 have E1 := E0.below k
 have O1 := O0.below k
 have R1 := R0.below k
 have b1 := b0.trans (k.mono b0.size)
 clear E0 O0 R0 b0 k qs
 go_wp2_with (first | go_skip)
 have kb := Below.refl w1.heap.size w1
 go_loopw [9, 10] (fun go i wr => ∃ k : Nat, k ≤ l.length ∧ i = .int .i64 k ∧ go = .int .i64 (most (((coms l).take k).map (·.gen))) ∧ Below w1.heap.size w1 wr) (fun _ i _ => l.length - (intOf i).toNat)
 case atStart => exact ⟨0, Nat.zero_le _, rfl, rfl, kb⟩
 case round =>
  clear kb
  rename World => wr
  obtain ⟨k, hk, rfl, rfl, kc⟩ := hrel
  have b2 := b1.trans (kc.mono b1.size)
  by_cases hlt : k < l.length
  case pos =>
   obtain ⟨bb, off, rfl, _, hrg⟩ := S.plain (by omega)
   obtain ⟨x, hx⟩ : ∃ x, l[k]? = some x := ⟨_, List.getElem?_eq_getElem hlt⟩
   have rx := range_on (hrg k x hx) b2
   have cg := rx 2 _ rfl
   have pk : (k : Int) < l.length := by omega
   have mk : ((k : Int)).toNat = k := by omega
   have hn := most_more (coms_at hx)
   obtain ⟨a, hga⟩ : ∃ a, most (((coms l).take k).map (·.gen)) = a := ⟨_, rfl⟩
   obtain ⟨n, hxn⟩ : ∃ n, x.c.gen = n := ⟨_, rfl⟩
   rw [hga, hxn] at hn
   rw [hga]
   rw [hxn] at cg
   have HN := aside hn
   clear hn hga hxn hx hrg rx qf qm
   by_cases hgt : a < n
   case pos =>
    have HN2 : Hid (most (((coms l).take (k + 1)).map (·.gen)) = n) := aside (by rw [HN.out]; omega)
    clear HN
    go_wp2_with (first | go_skip)
    go_roundw
    case rel => exact ⟨k + 1, by omega, by go_num, by rw [HN2.out], kc⟩
    case measure => simp [intOf]; omega
   case neg =>
    have HN2 : Hid (most (((coms l).take (k + 1)).map (·.gen)) = a) := aside (by rw [HN.out]; omega)
    clear HN
    go_wp2_with (first | go_skip)
    go_roundw
    case rel => exact ⟨k + 1, by omega, by go_num, by rw [HN2.out], kc⟩
    case measure => simp [intOf]; omega
  case neg =>
   have pn : ¬ (k : Int) < l.length := by omega
   have hke : k = l.length := by omega
   rw [hke, HG.out]
   have hw1 := HGG.out
   have E2 := E1.below kc
   have O2 := O1.below kc
   have R2 := R1.below kc
   clear E1 O1 R1 b1 kc hke hk pn
   go_wp2_with (first | go_skip)
   refine GrowT.region 8 tree8 (by kernel_rfl) (by kernel_rfl) rfl (by kernel_rfl) (by intro c a d v w h; cases d <;> exact h) ?_
   have dr := below_drew1 (Below.refl wr.heap.size wr)
   have E3 := E2.below dr
   have O3 := O2.below dr
   have R3 := R2.below dr
   have b3 := b2.trans (dr.mono b2.size)
   generalize wr.drew = w3 at E3 O3 R3 b3 ⊢
   clear E2 O2 R2 b2 dr
   (try simp only [Act.put, List.setIfInBounds_toArray, List.set_cons_succ, List.set_cons_zero])
   repeat (first | (refine GrowT.reads rfl rfl ?_; go_big_quiet_want; refine Cel.quiet_row EE _ rfl _ _ rfl ev E3.range ?_; go_big_quiet_on; refine wpQuiet_nil ?_; (try simp only [Act.put, List.setIfInBounds_toArray, List.set_cons_succ, List.set_cons_zero])) | (refine GrowT.reads rfl rfl ?_; go_big_quiet_want; refine Cel.quiet_row OE _ rfl _ _ rfl o O3.range ?_; go_big_quiet_on; refine wpQuiet_nil ?_; (try simp only [Act.put, List.setIfInBounds_toArray, List.set_cons_succ, List.set_cons_zero])) | (refine GrowT.reads rfl rfl ?_; go_big_quiet_step (fail); refine wpQuiet_nil ?_))
   clear E3 O3 hw1
   refine GrowT.forks rfl rfl ?_ ?_
   · skip
    go_wp2_with (first | go_skip)
    refine (qf _ (S.below b3)).mono ?_
    rintro e w4 ⟨AF, cF, rfl, T4, k⟩
    go_wp2_with (first | go_skip)
    refine ⟨k, ?_⟩
    (try simp only [Act.put, List.setIfInBounds_toArray, List.set_cons_succ, List.set_cons_zero])
    have R4 := R3.below k
    have b4 := b3.trans (k.mono b3.size)
    clear R3 b3 k
    refine GrowT.reads rfl rfl ?_
    go_big_quiet_want
    refine quiet_build4 _ _ _ _ rfl (.agg (EE.enc ev).toArray) (.int .i64 g) (.slice AF F.length cF) (.agg (OE.enc o).toArray) _ rfl rfl rfl rfl (build_com4 ev g AF F.length cF o) ?_
    go_big_quiet_on
    refine wpQuiet_nil ?_
    (try simp only [Act.put, List.setIfInBounds_toArray, List.set_cons_succ, List.set_cons_zero])
    refine GrowT.acts rfl ?_
    go_wp2_with (first | go_skip)
    have k := StW.below_alloc w4 (.cells #[.int .i64 0, .int .i64 0, .int .i64 0, .slice none 0 0, .int .i64 0, .string ⟨#[]⟩, .string ⟨#[]⟩, .int .i64 0] 38)
    refine ⟨k, ?_⟩
    (try simp only [Act.put, List.setIfInBounds_toArray, List.set_cons_succ, List.set_cons_zero])
    have N5 : Cel.Box CE (w4.alloc (.cells #[.int .i64 0, .int .i64 0, .int .i64 0, .slice none 0 0, .int .i64 0, .string ⟨#[]⟩, .string ⟨#[]⟩, .int .i64 0] 38)) w4.heap.size noV := Cel.Box.new (E := CE) w4 noV _
    have hz : w.heap.size + 1 + 1 < w4.heap.size := R4.lt
    have R5 := R4.below k
    have T5 := T4.below k
    have b5 := b4.trans (k.mono b4.size)
    clear R4 T4 b4 k
    obtain ⟨gn, hgn⟩ : ∃ gn, w4.heap.size = gn := ⟨_, rfl⟩
    generalize w4.alloc (.cells #[.int .i64 0, .int .i64 0, .int .i64 0, .slice none 0 0, .int .i64 0, .string ⟨#[]⟩, .string ⟨#[]⟩, .int .i64 0] 38) = w5 at R5 T5 b5 N5 ⊢
    rw [hgn] at N5 hz
    try rw [hgn]
    clear hgn
    refine GrowT.last rfl ?_
    go_wp2_with (first | go_skip | (refine Cel.wpList_store_box CE rfl _ _ rfl gn rfl noV N5 (⟨AF, cF, ⟨ev.node, ev.seq, g, F, o⟩⟩ : Cv) rfl ?_; intro w6 N6 f8 g8 s8))
    have R6 := R5.kept g8 (fun e => absurd (Option.some.inj e) (Nat.ne_of_lt hz))
    have T6 := CmD.sli_far T5 (CmD.no_cm N5) g8
    have b6 := b5.trans (f8 w.heap.size (by omega))
    clear R5 T5 N5 b5 f8 g8 s8 qf
    refine GrowL.done ?_
    go_wp2_with (first | go_skip | (refine Cel.wpList_load_box CE rfl _ rfl _ rfl (⟨AF, cF, ⟨ev.node, ev.seq, g, F, o⟩⟩ : Cv) N6 ?_))
    refine (qm AF cF _ T6).mono ?_
    clear qm
    rintro e w7 ⟨rfl, k⟩
    have R7 := R6.below k
    have N7 := N6.below k
    have T7 := T6.below k
    have b7 := b6.trans (k.mono b6.size)
    clear R6 N6 T6 b6 k
    go_wp2_with (first | go_skip)
    refine GrowT.region 4 tree10 (by kernel_rfl) (by kernel_rfl) rfl (by kernel_rfl) (by intro c a d v w h; cases d <;> exact h) ?_
    have dr := below_drew1 (Below.refl w7.heap.size w7)
    have R8 := R7.below dr
    have N8 := N7.below dr
    have T8 := T7.below dr
    have b8 := b7.trans (dr.mono b7.size)
    generalize w7.drew = w8 at R8 N8 T8 b8 ⊢
    clear R7 N7 T7 b7 dr
    (try simp only [Act.put, List.setIfInBounds_toArray, List.set_cons_succ, List.set_cons_zero])
    repeat (first | (refine GrowT.reads rfl rfl ?_; go_big_quiet_want; refine Cel.quiet_row CE _ rfl _ _ rfl (⟨AF, cF, ⟨ev.node, ev.seq, g, F, o⟩⟩ : Cv) N8.range ?_; go_big_quiet_on; refine wpQuiet_nil ?_; (try simp only [Act.put, List.setIfInBounds_toArray, List.set_cons_succ, List.set_cons_zero])) | (refine GrowT.reads rfl rfl ?_; go_big_quiet_step (fail); refine wpQuiet_nil ?_))
    refine GrowT.forks rfl rfl ?_ ?_
    · skip
     go_wp2_with (first | go_skip | (refine RowS.wpList_append KE rfl _ _ rfl w8.heap.size _ 0 [] rfl ⟨rfl, .inl ⟨rfl, rfl⟩⟩ A _ cap l rfl rfl (S.below b8).row (by omega) (Nat.le_refl _) ?_; intro vx wx ox gx))
     have kx : Below w8.heap.size w8 wx := below_grown (Below.refl _ _) (Nat.le_refl _) gx (fun q hq => by cases hq)
     clear gx
     refine ⟨kx, ?_⟩
     (try simp only [Act.put, List.setIfInBounds_toArray, List.set_cons_succ, List.set_cons_zero])
     refine GrowT.acts rfl ?_
     go_wp2_with (first | go_skip | (refine RowC.wpList_lit1 KE (of_decide_eq_true rfl) rfl _ rfl (⟨AF, cF, ⟨ev.node, ev.seq, g, F, o⟩⟩ : Cv) rfl ?_; intro wy Sy ky))
     refine ⟨ky, ?_⟩
     (try simp only [Act.put, List.setIfInBounds_toArray, List.set_cons_succ, List.set_cons_zero])
     have oy := owns_below ox ky
     have kz := kx.trans (ky.mono kx.size)
     clear ox kx ky
     refine GrowT.mid rfl ?_
     go_wp2_with (first | go_skip | (refine RowS.wpList_append KE rfl _ _ rfl w8.heap.size _ _ _ rfl oy _ _ 1 [(⟨AF, cF, ⟨ev.node, ev.seq, g, F, o⟩⟩ : Cv)] rfl rfl Sy (by omega) kz.size ?_; intro vq wq oq gq))
     have kq : Below w8.heap.size w8 wq := below_grown kz kz.size gq (fun q hq => (oy.lt q hq).1)
     clear gq oy Sy kz
     refine GrowT.on_mid ?_
     (try simp only [Act.put, List.setIfInBounds_toArray, List.set_cons_succ, List.set_cons_zero])
     have bq := b8.trans (kq.mono b8.size)
     have Tq := T8.below kq
     rw [List.nil_append] at oq
     obtain ⟨AC, cC, rfl, SC⟩ := sl_both (l := l) oq (S.below bq).each (fun x hx => by rw [List.mem_singleton.1 hx]; exact ⟨Tq, HOK.out.fit⟩)
     clear oq
     have qd := closed_ret AC cC (l ++ [(⟨AF, cF, ⟨ev.node, ev.seq, g, F, o⟩⟩ : Cv)]) _ SC (fun x hx => by
      rcases List.mem_append.1 hx with hx | hx
      · exact HO.out x hx
      · rw [List.mem_singleton.1 hx]; exact HOK.out) (by simp; omega)
     rw [coms_one] at qd
     rw [List.length_append, List.length_singleton] at qd
     have hdd : decide (Closed hashK (coms l ++ [(⟨AF, cF, ⟨ev.node, ev.seq, g, F, o⟩⟩ : Cv).c])) = d := HD.out
     rw [hdd] at qd
     clear hdd
     refine GrowT.acts rfl ?_
     go_wp2_with (first | go_skip)
     refine qd.mono ?_
     clear qd SC
     rintro e wz ⟨rfl, k⟩
     go_wp2_with (first | go_skip)
     refine ⟨k, ?_⟩
     (try simp only [Act.put, List.setIfInBounds_toArray, List.set_cons_succ, List.set_cons_zero])
     have ka := kq.trans (k.mono kq.size)
     have ba := bq.trans (k.mono bq.size)
     have Ra := R8.below ka
     have Na := N8.below ka
     have Ta := Tq.below k
     clear kq k bq Tq ka
     refine GrowT.acts rfl ?_
     go_wp2_with (first | go_skip)
     refine ⟨Below.refl _ _, ?_⟩
     (try simp only [Act.put, List.setIfInBounds_toArray, List.set_cons_succ, List.set_cons_zero])
     refine GrowT.ends ?_
     have hnx := HNX.out
     cases z with
     | false =>
      have hrn : r = none := hnx
      subst hrn
      go_wp2_with (first | go_skip | (refine Cel.wpList_load_box CE rfl _ rfl _ rfl (⟨AF, cF, ⟨ev.node, ev.seq, g, F, o⟩⟩ : Cv) Na ?_) | (refine Cel.wpList_store_box CE rfl _ _ rfl (w.heap.size + 1 + 1) rfl noV Ra noV rfl ?_; intro w9 R9 f9 g9 s9))
      exact bodyPost_ret (v := .tuple #[.agg (cc noV), .bool false]) (results_cb Tryz.results42 _ _ (w.heap.size + 1 + 1) noV _ rfl rfl R9) rfl ⟨noV, rfl, rfl, CmW.In.none _, fit_noK, ba.trans (f9 _ (by omega))⟩
     | true =>
      cases m with
      | false =>
       have hrn : r = none := hnx
       subst hrn
       go_wp2_with (first | go_skip | (refine Cel.wpList_load_box CE rfl _ rfl _ rfl (⟨AF, cF, ⟨ev.node, ev.seq, g, F, o⟩⟩ : Cv) Na ?_) | (refine Cel.wpList_store_box CE rfl _ _ rfl (w.heap.size + 1 + 1) rfl noV Ra noV rfl ?_; intro w9 R9 f9 g9 s9))
       exact bodyPost_ret (v := .tuple #[.agg (cc noV), .bool false]) (results_cb Tryz.results42 _ _ (w.heap.size + 1 + 1) noV _ rfl rfl R9) rfl ⟨noV, rfl, rfl, CmW.In.none _, fit_noK, ba.trans (f9 _ (by omega))⟩
      | true =>
       cases d with
       | false =>
        have hrn : r = none := hnx
        subst hrn
        go_wp2_with (first | go_skip | (refine Cel.wpList_load_box CE rfl _ rfl _ rfl (⟨AF, cF, ⟨ev.node, ev.seq, g, F, o⟩⟩ : Cv) Na ?_) | (refine Cel.wpList_store_box CE rfl _ _ rfl (w.heap.size + 1 + 1) rfl noV Ra noV rfl ?_; intro w9 R9 f9 g9 s9))
        exact bodyPost_ret (v := .tuple #[.agg (cc noV), .bool false]) (results_cb Tryz.results42 _ _ (w.heap.size + 1 + 1) noV _ rfl rfl R9) rfl ⟨noV, rfl, rfl, CmW.In.none _, fit_noK, ba.trans (f9 _ (by omega))⟩
       | true =>
        have hrn : r = some ⟨ev.node, ev.seq, g, F, o⟩ := hnx
        subst hrn
        go_wp2_with (first | go_skip | (refine Cel.wpList_load_box CE rfl _ rfl _ rfl (⟨AF, cF, ⟨ev.node, ev.seq, g, F, o⟩⟩ : Cv) Na ?_) | (refine Cel.wpList_store_box CE rfl _ _ rfl (w.heap.size + 1 + 1) rfl noV Ra (⟨AF, cF, ⟨ev.node, ev.seq, g, F, o⟩⟩ : Cv) rfl ?_; intro w9 R9 f9 g9 s9))
        exact bodyPost_ret (v := .tuple #[.agg (cc (⟨AF, cF, ⟨ev.node, ev.seq, g, F, o⟩⟩ : Cv)), .bool true]) (results_cb Tryz.results42 _ _ (w.heap.size + 1 + 1) (⟨AF, cF, ⟨ev.node, ev.seq, g, F, o⟩⟩ : Cv) _ rfl rfl R9) rfl ⟨(⟨AF, cF, ⟨ev.node, ev.seq, g, F, o⟩⟩ : Cv), rfl, rfl, CmD.sli_far Ta (CmD.no_cm Ra) g9, HOK.out.fit, ba.trans (f9 _ (by omega))⟩
    · skip
     go_wp2_with (first | go_skip | (refine RowC.wpList_lit1 KE (of_decide_eq_true rfl) rfl _ rfl (⟨AF, cF, ⟨ev.node, ev.seq, g, F, o⟩⟩ : Cv) rfl ?_; intro wx Sx kx))
     refine ⟨kx, ?_⟩
     (try simp only [Act.put, List.setIfInBounds_toArray, List.set_cons_succ, List.set_cons_zero])
     refine GrowT.acts rfl ?_
     go_wp2_with (first | go_skip | (refine RowS.wpList_append KE rfl _ _ rfl wx.heap.size _ 0 [] rfl ⟨rfl, .inl ⟨rfl, rfl⟩⟩ A _ cap l rfl rfl (S.below (b8.trans (kx.mono b8.size))).row (by omega) (Nat.le_refl _) ?_; intro vx wy ox gx))
     have ky : Below wx.heap.size wx wy := below_grown (Below.refl _ _) (Nat.le_refl _) gx (fun q hq => by cases hq)
     clear gx
     refine ⟨ky, ?_⟩
     (try simp only [Act.put, List.setIfInBounds_toArray, List.set_cons_succ, List.set_cons_zero])
     have Sy := Sx.below ky
     have oy := owns_less ox kx.size
     have kz := kx.trans (ky.mono kx.size)
     clear ox kx ky Sx
     refine GrowT.mid rfl ?_
     go_wp2_with (first | go_skip | (refine RowS.wpList_append KE rfl _ _ rfl w8.heap.size _ _ _ rfl oy _ _ 1 [(⟨AF, cF, ⟨ev.node, ev.seq, g, F, o⟩⟩ : Cv)] rfl rfl Sy (by omega) kz.size ?_; intro vq wq oq gq))
     have kq : Below w8.heap.size w8 wq := below_grown kz kz.size gq (fun q hq => (oy.lt q hq).1)
     clear gq oy Sy kz
     refine GrowT.on_mid ?_
     (try simp only [Act.put, List.setIfInBounds_toArray, List.set_cons_succ, List.set_cons_zero])
     have bq := b8.trans (kq.mono b8.size)
     have Tq := T8.below kq
     rw [List.nil_append] at oq
     obtain ⟨AC, cC, rfl, SC⟩ := sl_both (l := l) oq (S.below bq).each (fun x hx => by rw [List.mem_singleton.1 hx]; exact ⟨Tq, HOK.out.fit⟩)
     clear oq
     have qd := closed_ret AC cC (l ++ [(⟨AF, cF, ⟨ev.node, ev.seq, g, F, o⟩⟩ : Cv)]) _ SC (fun x hx => by
      rcases List.mem_append.1 hx with hx | hx
      · exact HO.out x hx
      · rw [List.mem_singleton.1 hx]; exact HOK.out) (by simp; omega)
     rw [coms_one] at qd
     rw [List.length_append, List.length_singleton] at qd
     have hdd : decide (Closed hashK (coms l ++ [(⟨AF, cF, ⟨ev.node, ev.seq, g, F, o⟩⟩ : Cv).c])) = d := HD.out
     rw [hdd] at qd
     clear hdd
     refine GrowT.acts rfl ?_
     go_wp2_with (first | go_skip)
     refine qd.mono ?_
     clear qd SC
     rintro e wz ⟨rfl, k⟩
     go_wp2_with (first | go_skip)
     refine ⟨k, ?_⟩
     (try simp only [Act.put, List.setIfInBounds_toArray, List.set_cons_succ, List.set_cons_zero])
     have ka := kq.trans (k.mono kq.size)
     have ba := bq.trans (k.mono bq.size)
     have Ra := R8.below ka
     have Na := N8.below ka
     have Ta := Tq.below k
     clear kq k bq Tq ka
     refine GrowT.acts rfl ?_
     go_wp2_with (first | go_skip)
     refine ⟨Below.refl _ _, ?_⟩
     (try simp only [Act.put, List.setIfInBounds_toArray, List.set_cons_succ, List.set_cons_zero])
     refine GrowT.ends ?_
     have hnx := HNX.out
     cases z with
     | false =>
      have hrn : r = none := hnx
      subst hrn
      go_wp2_with (first | go_skip | (refine Cel.wpList_load_box CE rfl _ rfl _ rfl (⟨AF, cF, ⟨ev.node, ev.seq, g, F, o⟩⟩ : Cv) Na ?_) | (refine Cel.wpList_store_box CE rfl _ _ rfl (w.heap.size + 1 + 1) rfl noV Ra noV rfl ?_; intro w9 R9 f9 g9 s9))
      exact bodyPost_ret (v := .tuple #[.agg (cc noV), .bool false]) (results_cb Tryz.results42 _ _ (w.heap.size + 1 + 1) noV _ rfl rfl R9) rfl ⟨noV, rfl, rfl, CmW.In.none _, fit_noK, ba.trans (f9 _ (by omega))⟩
     | true =>
      cases m with
      | false =>
       have hrn : r = none := hnx
       subst hrn
       go_wp2_with (first | go_skip | (refine Cel.wpList_load_box CE rfl _ rfl _ rfl (⟨AF, cF, ⟨ev.node, ev.seq, g, F, o⟩⟩ : Cv) Na ?_) | (refine Cel.wpList_store_box CE rfl _ _ rfl (w.heap.size + 1 + 1) rfl noV Ra noV rfl ?_; intro w9 R9 f9 g9 s9))
       exact bodyPost_ret (v := .tuple #[.agg (cc noV), .bool false]) (results_cb Tryz.results42 _ _ (w.heap.size + 1 + 1) noV _ rfl rfl R9) rfl ⟨noV, rfl, rfl, CmW.In.none _, fit_noK, ba.trans (f9 _ (by omega))⟩
      | true =>
       cases d with
       | false =>
        have hrn : r = none := hnx
        subst hrn
        go_wp2_with (first | go_skip | (refine Cel.wpList_load_box CE rfl _ rfl _ rfl (⟨AF, cF, ⟨ev.node, ev.seq, g, F, o⟩⟩ : Cv) Na ?_) | (refine Cel.wpList_store_box CE rfl _ _ rfl (w.heap.size + 1 + 1) rfl noV Ra noV rfl ?_; intro w9 R9 f9 g9 s9))
        exact bodyPost_ret (v := .tuple #[.agg (cc noV), .bool false]) (results_cb Tryz.results42 _ _ (w.heap.size + 1 + 1) noV _ rfl rfl R9) rfl ⟨noV, rfl, rfl, CmW.In.none _, fit_noK, ba.trans (f9 _ (by omega))⟩
       | true =>
        have hrn : r = some ⟨ev.node, ev.seq, g, F, o⟩ := hnx
        subst hrn
        go_wp2_with (first | go_skip | (refine Cel.wpList_load_box CE rfl _ rfl _ rfl (⟨AF, cF, ⟨ev.node, ev.seq, g, F, o⟩⟩ : Cv) Na ?_) | (refine Cel.wpList_store_box CE rfl _ _ rfl (w.heap.size + 1 + 1) rfl noV Ra (⟨AF, cF, ⟨ev.node, ev.seq, g, F, o⟩⟩ : Cv) rfl ?_; intro w9 R9 f9 g9 s9))
        exact bodyPost_ret (v := .tuple #[.agg (cc (⟨AF, cF, ⟨ev.node, ev.seq, g, F, o⟩⟩ : Cv)), .bool true]) (results_cb Tryz.results42 _ _ (w.heap.size + 1 + 1) (⟨AF, cF, ⟨ev.node, ev.seq, g, F, o⟩⟩ : Cv) _ rfl rfl R9) rfl ⟨(⟨AF, cF, ⟨ev.node, ev.seq, g, F, o⟩⟩ : Cv), rfl, rfl, CmD.sli_far Ta (CmD.no_cm Ra) g9, HOK.out.fit, ba.trans (f9 _ (by omega))⟩
   · skip
    go_wp2_with (first | go_skip)
    have k := StW.below_alloc w3 (.cells #[.int .i64 0, .int .i64 0, .int .i64 0, .slice none 0 0, .int .i64 0, .string ⟨#[]⟩, .string ⟨#[]⟩, .int .i64 0] 38)
    refine ⟨k, ?_⟩
    (try simp only [Act.put, List.setIfInBounds_toArray, List.set_cons_succ, List.set_cons_zero])
    have N4 : Cel.Box CE (w3.alloc (.cells #[.int .i64 0, .int .i64 0, .int .i64 0, .slice none 0 0, .int .i64 0, .string ⟨#[]⟩, .string ⟨#[]⟩, .int .i64 0] 38)) w3.heap.size noV := Cel.Box.new (E := CE) w3 noV _
    have hz : w.heap.size + 1 + 1 < w3.heap.size := R3.lt
    have R4 := R3.below k
    have b4 := b3.trans (k.mono b3.size)
    clear R3 b3 k
    obtain ⟨gn, hgn⟩ : ∃ gn, w3.heap.size = gn := ⟨_, rfl⟩
    generalize w3.alloc (.cells #[.int .i64 0, .int .i64 0, .int .i64 0, .slice none 0 0, .int .i64 0, .string ⟨#[]⟩, .string ⟨#[]⟩, .int .i64 0] 38) = w4 at R4 b4 N4 ⊢
    rw [hgn] at N4 hz
    try rw [hgn]
    clear hgn
    refine GrowT.acts rfl ?_
    go_wp2_with (first | go_skip)
    refine (qf _ (S.below b4)).mono ?_
    rintro e w5 ⟨AF, cF, rfl, T5, k⟩
    go_wp2_with (first | go_skip)
    refine ⟨k, ?_⟩
    (try simp only [Act.put, List.setIfInBounds_toArray, List.set_cons_succ, List.set_cons_zero])
    have R5 := R4.below k
    have N5 := N4.below k
    have b5 := b4.trans (k.mono b4.size)
    clear R4 N4 b4 k
    refine GrowT.reads rfl rfl ?_
    go_big_quiet_want
    refine quiet_build4 _ _ _ _ rfl (.agg (EE.enc ev).toArray) (.int .i64 g) (.slice AF F.length cF) (.agg (OE.enc o).toArray) _ rfl rfl rfl rfl (build_com4 ev g AF F.length cF o) ?_
    go_big_quiet_on
    refine wpQuiet_nil ?_
    (try simp only [Act.put, List.setIfInBounds_toArray, List.set_cons_succ, List.set_cons_zero])
    refine GrowT.last rfl ?_
    go_wp2_with (first | go_skip | (refine Cel.wpList_store_box CE rfl _ _ rfl gn rfl noV N5 (⟨AF, cF, ⟨ev.node, ev.seq, g, F, o⟩⟩ : Cv) rfl ?_; intro w6 N6 f8 g8 s8))
    have R6 := R5.kept g8 (fun e => absurd (Option.some.inj e) (Nat.ne_of_lt hz))
    have T6 := CmD.sli_far T5 (CmD.no_cm N5) g8
    have b6 := b5.trans (f8 w.heap.size (by omega))
    clear R5 T5 N5 b5 f8 g8 s8 qf
    refine GrowL.done ?_
    go_wp2_with (first | go_skip | (refine Cel.wpList_load_box CE rfl _ rfl _ rfl (⟨AF, cF, ⟨ev.node, ev.seq, g, F, o⟩⟩ : Cv) N6 ?_))
    refine (qm AF cF _ T6).mono ?_
    clear qm
    rintro e w7 ⟨rfl, k⟩
    have R7 := R6.below k
    have N7 := N6.below k
    have T7 := T6.below k
    have b7 := b6.trans (k.mono b6.size)
    clear R6 N6 T6 b6 k
    go_wp2_with (first | go_skip)
    refine GrowT.region 4 tree10 (by kernel_rfl) (by kernel_rfl) rfl (by kernel_rfl) (by intro c a d v w h; cases d <;> exact h) ?_
    have dr := below_drew1 (Below.refl w7.heap.size w7)
    have R8 := R7.below dr
    have N8 := N7.below dr
    have T8 := T7.below dr
    have b8 := b7.trans (dr.mono b7.size)
    generalize w7.drew = w8 at R8 N8 T8 b8 ⊢
    clear R7 N7 T7 b7 dr
    (try simp only [Act.put, List.setIfInBounds_toArray, List.set_cons_succ, List.set_cons_zero])
    repeat (first | (refine GrowT.reads rfl rfl ?_; go_big_quiet_want; refine Cel.quiet_row CE _ rfl _ _ rfl (⟨AF, cF, ⟨ev.node, ev.seq, g, F, o⟩⟩ : Cv) N8.range ?_; go_big_quiet_on; refine wpQuiet_nil ?_; (try simp only [Act.put, List.setIfInBounds_toArray, List.set_cons_succ, List.set_cons_zero])) | (refine GrowT.reads rfl rfl ?_; go_big_quiet_step (fail); refine wpQuiet_nil ?_))
    refine GrowT.forks rfl rfl ?_ ?_
    · skip
     go_wp2_with (first | go_skip | (refine RowS.wpList_append KE rfl _ _ rfl w8.heap.size _ 0 [] rfl ⟨rfl, .inl ⟨rfl, rfl⟩⟩ A _ cap l rfl rfl (S.below b8).row (by omega) (Nat.le_refl _) ?_; intro vx wx ox gx))
     have kx : Below w8.heap.size w8 wx := below_grown (Below.refl _ _) (Nat.le_refl _) gx (fun q hq => by cases hq)
     clear gx
     refine ⟨kx, ?_⟩
     (try simp only [Act.put, List.setIfInBounds_toArray, List.set_cons_succ, List.set_cons_zero])
     refine GrowT.acts rfl ?_
     go_wp2_with (first | go_skip | (refine RowC.wpList_lit1 KE (of_decide_eq_true rfl) rfl _ rfl (⟨AF, cF, ⟨ev.node, ev.seq, g, F, o⟩⟩ : Cv) rfl ?_; intro wy Sy ky))
     refine ⟨ky, ?_⟩
     (try simp only [Act.put, List.setIfInBounds_toArray, List.set_cons_succ, List.set_cons_zero])
     have oy := owns_below ox ky
     have kz := kx.trans (ky.mono kx.size)
     clear ox kx ky
     refine GrowT.mid rfl ?_
     go_wp2_with (first | go_skip | (refine RowS.wpList_append KE rfl _ _ rfl w8.heap.size _ _ _ rfl oy _ _ 1 [(⟨AF, cF, ⟨ev.node, ev.seq, g, F, o⟩⟩ : Cv)] rfl rfl Sy (by omega) kz.size ?_; intro vq wq oq gq))
     have kq : Below w8.heap.size w8 wq := below_grown kz kz.size gq (fun q hq => (oy.lt q hq).1)
     clear gq oy Sy kz
     refine GrowT.on_mid ?_
     (try simp only [Act.put, List.setIfInBounds_toArray, List.set_cons_succ, List.set_cons_zero])
     have bq := b8.trans (kq.mono b8.size)
     have Tq := T8.below kq
     rw [List.nil_append] at oq
     obtain ⟨AC, cC, rfl, SC⟩ := sl_both (l := l) oq (S.below bq).each (fun x hx => by rw [List.mem_singleton.1 hx]; exact ⟨Tq, HOK.out.fit⟩)
     clear oq
     have qd := closed_ret AC cC (l ++ [(⟨AF, cF, ⟨ev.node, ev.seq, g, F, o⟩⟩ : Cv)]) _ SC (fun x hx => by
      rcases List.mem_append.1 hx with hx | hx
      · exact HO.out x hx
      · rw [List.mem_singleton.1 hx]; exact HOK.out) (by simp; omega)
     rw [coms_one] at qd
     rw [List.length_append, List.length_singleton] at qd
     have hdd : decide (Closed hashK (coms l ++ [(⟨AF, cF, ⟨ev.node, ev.seq, g, F, o⟩⟩ : Cv).c])) = d := HD.out
     rw [hdd] at qd
     clear hdd
     refine GrowT.acts rfl ?_
     go_wp2_with (first | go_skip)
     refine qd.mono ?_
     clear qd SC
     rintro e wz ⟨rfl, k⟩
     go_wp2_with (first | go_skip)
     refine ⟨k, ?_⟩
     (try simp only [Act.put, List.setIfInBounds_toArray, List.set_cons_succ, List.set_cons_zero])
     have ka := kq.trans (k.mono kq.size)
     have ba := bq.trans (k.mono bq.size)
     have Ra := R8.below ka
     have Na := N8.below ka
     have Ta := Tq.below k
     clear kq k bq Tq ka
     refine GrowT.acts rfl ?_
     go_wp2_with (first | go_skip)
     refine ⟨Below.refl _ _, ?_⟩
     (try simp only [Act.put, List.setIfInBounds_toArray, List.set_cons_succ, List.set_cons_zero])
     refine GrowT.ends ?_
     have hnx := HNX.out
     cases z with
     | false =>
      have hrn : r = none := hnx
      subst hrn
      go_wp2_with (first | go_skip | (refine Cel.wpList_load_box CE rfl _ rfl _ rfl (⟨AF, cF, ⟨ev.node, ev.seq, g, F, o⟩⟩ : Cv) Na ?_) | (refine Cel.wpList_store_box CE rfl _ _ rfl (w.heap.size + 1 + 1) rfl noV Ra noV rfl ?_; intro w9 R9 f9 g9 s9))
      exact bodyPost_ret (v := .tuple #[.agg (cc noV), .bool false]) (results_cb Tryz.results42 _ _ (w.heap.size + 1 + 1) noV _ rfl rfl R9) rfl ⟨noV, rfl, rfl, CmW.In.none _, fit_noK, ba.trans (f9 _ (by omega))⟩
     | true =>
      cases m with
      | false =>
       have hrn : r = none := hnx
       subst hrn
       go_wp2_with (first | go_skip | (refine Cel.wpList_load_box CE rfl _ rfl _ rfl (⟨AF, cF, ⟨ev.node, ev.seq, g, F, o⟩⟩ : Cv) Na ?_) | (refine Cel.wpList_store_box CE rfl _ _ rfl (w.heap.size + 1 + 1) rfl noV Ra noV rfl ?_; intro w9 R9 f9 g9 s9))
       exact bodyPost_ret (v := .tuple #[.agg (cc noV), .bool false]) (results_cb Tryz.results42 _ _ (w.heap.size + 1 + 1) noV _ rfl rfl R9) rfl ⟨noV, rfl, rfl, CmW.In.none _, fit_noK, ba.trans (f9 _ (by omega))⟩
      | true =>
       cases d with
       | false =>
        have hrn : r = none := hnx
        subst hrn
        go_wp2_with (first | go_skip | (refine Cel.wpList_load_box CE rfl _ rfl _ rfl (⟨AF, cF, ⟨ev.node, ev.seq, g, F, o⟩⟩ : Cv) Na ?_) | (refine Cel.wpList_store_box CE rfl _ _ rfl (w.heap.size + 1 + 1) rfl noV Ra noV rfl ?_; intro w9 R9 f9 g9 s9))
        exact bodyPost_ret (v := .tuple #[.agg (cc noV), .bool false]) (results_cb Tryz.results42 _ _ (w.heap.size + 1 + 1) noV _ rfl rfl R9) rfl ⟨noV, rfl, rfl, CmW.In.none _, fit_noK, ba.trans (f9 _ (by omega))⟩
       | true =>
        have hrn : r = some ⟨ev.node, ev.seq, g, F, o⟩ := hnx
        subst hrn
        go_wp2_with (first | go_skip | (refine Cel.wpList_load_box CE rfl _ rfl _ rfl (⟨AF, cF, ⟨ev.node, ev.seq, g, F, o⟩⟩ : Cv) Na ?_) | (refine Cel.wpList_store_box CE rfl _ _ rfl (w.heap.size + 1 + 1) rfl noV Ra (⟨AF, cF, ⟨ev.node, ev.seq, g, F, o⟩⟩ : Cv) rfl ?_; intro w9 R9 f9 g9 s9))
        exact bodyPost_ret (v := .tuple #[.agg (cc (⟨AF, cF, ⟨ev.node, ev.seq, g, F, o⟩⟩ : Cv)), .bool true]) (results_cb Tryz.results42 _ _ (w.heap.size + 1 + 1) (⟨AF, cF, ⟨ev.node, ev.seq, g, F, o⟩⟩ : Cv) _ rfl rfl R9) rfl ⟨(⟨AF, cF, ⟨ev.node, ev.seq, g, F, o⟩⟩ : Cv), rfl, rfl, CmD.sli_far Ta (CmD.no_cm Ra) g9, HOK.out.fit, ba.trans (f9 _ (by omega))⟩
    · skip
     go_wp2_with (first | go_skip | (refine RowC.wpList_lit1 KE (of_decide_eq_true rfl) rfl _ rfl (⟨AF, cF, ⟨ev.node, ev.seq, g, F, o⟩⟩ : Cv) rfl ?_; intro wx Sx kx))
     refine ⟨kx, ?_⟩
     (try simp only [Act.put, List.setIfInBounds_toArray, List.set_cons_succ, List.set_cons_zero])
     refine GrowT.acts rfl ?_
     go_wp2_with (first | go_skip | (refine RowS.wpList_append KE rfl _ _ rfl wx.heap.size _ 0 [] rfl ⟨rfl, .inl ⟨rfl, rfl⟩⟩ A _ cap l rfl rfl (S.below (b8.trans (kx.mono b8.size))).row (by omega) (Nat.le_refl _) ?_; intro vx wy ox gx))
     have ky : Below wx.heap.size wx wy := below_grown (Below.refl _ _) (Nat.le_refl _) gx (fun q hq => by cases hq)
     clear gx
     refine ⟨ky, ?_⟩
     (try simp only [Act.put, List.setIfInBounds_toArray, List.set_cons_succ, List.set_cons_zero])
     have Sy := Sx.below ky
     have oy := owns_less ox kx.size
     have kz := kx.trans (ky.mono kx.size)
     clear ox kx ky Sx
     refine GrowT.mid rfl ?_
     go_wp2_with (first | go_skip | (refine RowS.wpList_append KE rfl _ _ rfl w8.heap.size _ _ _ rfl oy _ _ 1 [(⟨AF, cF, ⟨ev.node, ev.seq, g, F, o⟩⟩ : Cv)] rfl rfl Sy (by omega) kz.size ?_; intro vq wq oq gq))
     have kq : Below w8.heap.size w8 wq := below_grown kz kz.size gq (fun q hq => (oy.lt q hq).1)
     clear gq oy Sy kz
     refine GrowT.on_mid ?_
     (try simp only [Act.put, List.setIfInBounds_toArray, List.set_cons_succ, List.set_cons_zero])
     have bq := b8.trans (kq.mono b8.size)
     have Tq := T8.below kq
     rw [List.nil_append] at oq
     obtain ⟨AC, cC, rfl, SC⟩ := sl_both (l := l) oq (S.below bq).each (fun x hx => by rw [List.mem_singleton.1 hx]; exact ⟨Tq, HOK.out.fit⟩)
     clear oq
     have qd := closed_ret AC cC (l ++ [(⟨AF, cF, ⟨ev.node, ev.seq, g, F, o⟩⟩ : Cv)]) _ SC (fun x hx => by
      rcases List.mem_append.1 hx with hx | hx
      · exact HO.out x hx
      · rw [List.mem_singleton.1 hx]; exact HOK.out) (by simp; omega)
     rw [coms_one] at qd
     rw [List.length_append, List.length_singleton] at qd
     have hdd : decide (Closed hashK (coms l ++ [(⟨AF, cF, ⟨ev.node, ev.seq, g, F, o⟩⟩ : Cv).c])) = d := HD.out
     rw [hdd] at qd
     clear hdd
     refine GrowT.acts rfl ?_
     go_wp2_with (first | go_skip)
     refine qd.mono ?_
     clear qd SC
     rintro e wz ⟨rfl, k⟩
     go_wp2_with (first | go_skip)
     refine ⟨k, ?_⟩
     (try simp only [Act.put, List.setIfInBounds_toArray, List.set_cons_succ, List.set_cons_zero])
     have ka := kq.trans (k.mono kq.size)
     have ba := bq.trans (k.mono bq.size)
     have Ra := R8.below ka
     have Na := N8.below ka
     have Ta := Tq.below k
     clear kq k bq Tq ka
     refine GrowT.acts rfl ?_
     go_wp2_with (first | go_skip)
     refine ⟨Below.refl _ _, ?_⟩
     (try simp only [Act.put, List.setIfInBounds_toArray, List.set_cons_succ, List.set_cons_zero])
     refine GrowT.ends ?_
     have hnx := HNX.out
     cases z with
     | false =>
      have hrn : r = none := hnx
      subst hrn
      go_wp2_with (first | go_skip | (refine Cel.wpList_load_box CE rfl _ rfl _ rfl (⟨AF, cF, ⟨ev.node, ev.seq, g, F, o⟩⟩ : Cv) Na ?_) | (refine Cel.wpList_store_box CE rfl _ _ rfl (w.heap.size + 1 + 1) rfl noV Ra noV rfl ?_; intro w9 R9 f9 g9 s9))
      exact bodyPost_ret (v := .tuple #[.agg (cc noV), .bool false]) (results_cb Tryz.results42 _ _ (w.heap.size + 1 + 1) noV _ rfl rfl R9) rfl ⟨noV, rfl, rfl, CmW.In.none _, fit_noK, ba.trans (f9 _ (by omega))⟩
     | true =>
      cases m with
      | false =>
       have hrn : r = none := hnx
       subst hrn
       go_wp2_with (first | go_skip | (refine Cel.wpList_load_box CE rfl _ rfl _ rfl (⟨AF, cF, ⟨ev.node, ev.seq, g, F, o⟩⟩ : Cv) Na ?_) | (refine Cel.wpList_store_box CE rfl _ _ rfl (w.heap.size + 1 + 1) rfl noV Ra noV rfl ?_; intro w9 R9 f9 g9 s9))
       exact bodyPost_ret (v := .tuple #[.agg (cc noV), .bool false]) (results_cb Tryz.results42 _ _ (w.heap.size + 1 + 1) noV _ rfl rfl R9) rfl ⟨noV, rfl, rfl, CmW.In.none _, fit_noK, ba.trans (f9 _ (by omega))⟩
      | true =>
       cases d with
       | false =>
        have hrn : r = none := hnx
        subst hrn
        go_wp2_with (first | go_skip | (refine Cel.wpList_load_box CE rfl _ rfl _ rfl (⟨AF, cF, ⟨ev.node, ev.seq, g, F, o⟩⟩ : Cv) Na ?_) | (refine Cel.wpList_store_box CE rfl _ _ rfl (w.heap.size + 1 + 1) rfl noV Ra noV rfl ?_; intro w9 R9 f9 g9 s9))
        exact bodyPost_ret (v := .tuple #[.agg (cc noV), .bool false]) (results_cb Tryz.results42 _ _ (w.heap.size + 1 + 1) noV _ rfl rfl R9) rfl ⟨noV, rfl, rfl, CmW.In.none _, fit_noK, ba.trans (f9 _ (by omega))⟩
       | true =>
        have hrn : r = some ⟨ev.node, ev.seq, g, F, o⟩ := hnx
        subst hrn
        go_wp2_with (first | go_skip | (refine Cel.wpList_load_box CE rfl _ rfl _ rfl (⟨AF, cF, ⟨ev.node, ev.seq, g, F, o⟩⟩ : Cv) Na ?_) | (refine Cel.wpList_store_box CE rfl _ _ rfl (w.heap.size + 1 + 1) rfl noV Ra (⟨AF, cF, ⟨ev.node, ev.seq, g, F, o⟩⟩ : Cv) rfl ?_; intro w9 R9 f9 g9 s9))
        exact bodyPost_ret (v := .tuple #[.agg (cc (⟨AF, cF, ⟨ev.node, ev.seq, g, F, o⟩⟩ : Cv)), .bool true]) (results_cb Tryz.results42 _ _ (w.heap.size + 1 + 1) (⟨AF, cF, ⟨ev.node, ev.seq, g, F, o⟩⟩ : Cv) _ rfl rfl R9) rfl ⟨(⟨AF, cF, ⟨ev.node, ev.seq, g, F, o⟩⟩ : Cv), rfl, rfl, CmD.sli_far Ta (CmD.no_cm Ra) g9, HOK.out.fit, ba.trans (f9 _ (by omega))⟩
end Go.Proofs.YtechkdhehipliaaGreatDoor.FrO
