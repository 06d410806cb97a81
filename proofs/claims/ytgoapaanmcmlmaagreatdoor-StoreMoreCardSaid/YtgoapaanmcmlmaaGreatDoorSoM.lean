/- StoreMore's walk: what is put behind a disk that is fine is loaded behind the others, where it may stand. No condition. -/
import Derived.Test.YtgoapaanmcmlmaaGreatDoorIdXJ10
import Derived.Test.YtgoapaanmcmlmaaGreatDoorIntSJ4
import Derived.Test.YtgoapaanmcmlmaaGreatDoorGrowT
namespace Go.Proofs.YtgoapaanmcmlmaaGreatDoor.SoM
set_option maxRecDepth 100000
open Go Go.Sort Go.RowKit Byt IdM IdW OpsM OpsW CmM StW CmW CmX CmY CmA DgM DgW DgR DgG DgS DgJ DgH DgV DgF StoG StoM StoW StoF StoD StoA LogM LogD LogE LogW EncM IntS
open Classical
def tree : Forks.Tree := .free 0 (.free 2 (.two 1 (.act 3 (.act 4 (.act 5 .ends))) 3 (.act 1 (.act 4 (.act 5 .ends)))))
set_option maxRecDepth 100000 in
set_option maxHeartbeats 64000000 in
theorem walk (Y : Dag2) (X : Four) (a0 : Option Addr) (cap0 : Nat) (l0 : List Cv) (v : Cv) (w : World) (S : SlK w a0 cap0 l0) (IV : In w v) (F : Fit v.c) (hK : ShaE.KIn w) :
   Calls Tryz.prog 5 #[.slice a0 l0.length cap0, .agg (cc v)] w fun e w' => e = .returned (.bool true) ∧ RowKit.Below w.heap.size w w' := by
 have hmax := S.len
 have b : RowKit.Below w.heap.size w (w.alloc (.cells (cc v) 29)) := (Below.refl _ _).alloc (Nat.le_refl _) _
 have BX : Cel.Box CE (w.alloc (.cells (cc v) 29)) w.heap.size v := Cel.Box.new (E := CE) w v _
 replace S := S.below b; replace IV := IV.below b
 have hbs := b.size
 go_enter Tryz.func5, Tryz.ntmps5
 go_wp2_with (first | go_skip)
 refine (awake X _ (hK.below b)).mono ?_
 rintro e w1 ⟨rfl, k1⟩
 clear hbs
 replace S := S.below k1; replace IV := IV.below k1; replace BX := BX.below k1; replace b := b.trans (k1.mono b.size); clear k1
 go_wp2_with (first | go_skip)
 obtain ⟨f, hf⟩ : ∃ f, fewD (coms l0) 8 = f := ⟨_, rfl⟩
 have qf := DgR.few_ret a0 cap0 l0 8 _ S
 rw [hf] at qf
 refine qf.mono ?_
 clear qf
 rintro e w2 ⟨rfl, k2⟩
 replace S := S.below k2; replace IV := IV.below k2; replace BX := BX.below k2; replace b := b.trans (k2.mono b.size); clear k2
 obtain ⟨z, hz⟩ : ∃ z, fewK v.c = z := ⟨_, rfl⟩
 have qz := fun W => few_ret v W
 simp only [hz] at qz
 cases f with
 | false =>
   go_wp2_with (first | go_skip | (refine Cel.wpList_load_box CE rfl _ rfl _ rfl _ BX ?_))
   refine (qz _).mono ?_
   rintro e w3 ⟨rfl, k3⟩
   clear qz
   go_wp2_with (first | go_skip)
   go_ret
   exact ⟨rfl, b.trans (k3.mono b.size)⟩
 | true =>
   obtain ⟨ho, hl⟩ := okay_few (fun v hv => (S.each v hv).2) hf
   have hl2 : l0.length ≤ 8 := by omega
   have HO := aside ho
   clear ho hf hl
   go_wp2_with (first | go_skip | (refine Cel.wpList_load_box CE rfl _ rfl _ rfl _ BX ?_))
   refine (qz _).mono ?_
   rintro e w3 ⟨rfl, k3⟩
   clear qz
   replace S := S.below k3; replace IV := IV.below k3; replace BX := BX.below k3; replace b := b.trans (k3.mono b.size); clear k3
   cases z with
   | false =>
     go_wp2_with (first | go_skip)
     go_ret
     exact ⟨rfl, b⟩
   | true =>
     have qc := Y.closed a0 cap0 l0 _ S (by omega) (hK.below b)
     by_cases hC : Closed hashK (coms l0)
     case neg =>
       rw [decide_eq_false hC] at qc
       go_wp2_with (first | go_skip)
       refine qc.mono ?_
       rintro e wx ⟨rfl, kx⟩
       clear qc
       go_wp2_with (first | go_skip)
       go_ret
       exact ⟨rfl, b.trans (kx.mono b.size)⟩
     case pos =>
       rw [decide_eq_true hC] at qc
       have HC0 := aside hC
       clear hC
       go_wp2_with (first | go_skip)
       refine qc.mono ?_
       clear qc
       rintro e wx ⟨rfl, kx⟩
       replace S := S.below kx; replace IV := IV.below kx; replace BX := BX.below kx; replace b := b.trans (kx.mono b.size); clear kx
       go_wp2_with (first | go_skip)
       refine (Y.sorted a0 cap0 l0 _ S (by omega) (hK.below b)).mono ?_
       rintro e wx ⟨s, hm, A7, c7, qs, rfl, U, hqs, kx⟩
       replace IV := IV.below kx; replace BX := BX.below kx; replace b := b.trans (kx.mono b.size); clear kx S
       obtain ⟨hperm, hord⟩ := sorted_perm HC0.out hm
       have hcl : Closed hashK s := closed_perm HC0.out hperm.symm
       have hq8 : qs.length ≤ 8 := by
         have h1 := hperm.length_eq
         rw [← hqs, coms_len, coms_len] at h1
         omega
       have HS := aside hqs
       have HC := aside hcl
       have HI := aside hord
       have qd := disk_ret X A7 c7 qs _ U (by rw [hqs]; exact fun c hc => hcl.may c hc) (by omega) (hK.below b)
       rw [hqs] at qd
       have hdl := diskK_len hcl.may
       have hsl : s.length = qs.length := by rw [← hqs, coms_len]
       have HSL := aside hsl
       have hdl : (diskK s).length ≤ 3300 := by omega
       clear hm hperm hord hqs hcl hsl HO HC0
       go_wp2_with (first | go_skip)
       refine qd.mono ?_
       clear qd
       rintro e wx ⟨vb, ve, rfl, OB, OE, hne, kx⟩
       replace U := U.below kx; replace IV := IV.below kx; replace BX := BX.below kx; replace b := b.trans (kx.mono b.size); clear kx
       obtain ⟨A8, c8, rfl, T8⟩ := Sl.own OB disk_B
       obtain ⟨D, hD⟩ : ∃ D, (diskK s).length = D := ⟨_, rfl⟩
       have HD := aside hD
       have qp := X.put A8 c8 D (diskK s) 1048576 v _ T8 hD (by omega) IV F (hK.below b)
       clear OB OE hne
       simp only [hD] at hdl ⊢
       cases hmay : mayK v.c with
       | false =>
         rw [show putO (diskK s) v.c 1048576 = ([], 1) from by unfold putO; rw [if_neg (by rw [hmay]; simp)]] at qp
         clear X Y U T8 IV HS HC HI hD HD
         go_wp2_with (first | go_skip | (refine Cel.wpList_load_box CE rfl _ rfl _ rfl _ BX ?_))
         refine qp.mono ?_
         rintro e w3 ⟨v3, rfl, own3, k3⟩
         obtain ⟨A3, c3, rfl, _⟩ := Sl.own own3 (by simp)
         clear own3 qp
         go_wp2_with (first | go_skip)
         go_ret
         exact ⟨rfl, b.trans (k3.mono b.size)⟩
       | true =>
         rw [put_room (by omega) hmay] at qp
         have hlm := load_more HC.out HI.out hmay
         have hXB : ∀ y ∈ diskK s ++ frameL (putK v.c), Byt.B y := fun y hy => (List.mem_append.1 hy).elim (disk_B y) (LogC.frame_B (putK_B v.c) y)
         have hfl := frameL_len (putK v.c)
         have hpl := putK_len hmay
         have hten := numL_ten (n := (putK v.c).length) (by omega)
         have hln : (diskK s).length + (frameL (putK v.c)).length = (diskK s ++ frameL (putK v.c)).length := by rw [List.length_append]
         obtain ⟨XB, hX⟩ : ∃ XB, diskK s ++ frameL (putK v.c) = XB := ⟨_, rfl⟩
         rw [hX] at qp hlm hXB hln
         obtain ⟨N, hN⟩ : ∃ N, XB.length = N := ⟨_, rfl⟩
         rw [hN] at hln
         have hN9 : N ≤ 10000 := by omega
         rw [hln, hD] at hlm
         have HLD : Hid (loadD hashK XB = if Closed hashK (s ++ [v.c]) then (s ++ [v.c], N) else (s, D)) := aside hlm
         have HN := aside hN
         have HN2 := aside hN
         clear hlm hfl hpl hten hln hX hN hD HI HC hmay
         go_wp2_with (first | go_skip | (refine Cel.wpList_load_box CE rfl _ rfl _ rfl _ BX ?_))
         refine qp.mono ?_
         rintro e w3 ⟨v3, rfl, own3, k3⟩
         simp only [] at own3
         obtain ⟨A5, c5, rfl, T⟩ := Sl.own own3 hXB
         simp only [HN.out]
         clear own3 qp hXB
         replace U := U.below k3; replace IV := IV.below k3; replace BX := BX.below k3; replace T8 := T8.below k3; replace b := b.trans (k3.mono b.size); clear k3
         go_wp2_with (first | go_skip)
         refine GrowT.region 4 tree (by kernel_rfl) (by kernel_rfl) rfl (by kernel_rfl) (by intro c a d v w h; cases d <;> exact h) ?_
         change GrowT.Seq _ _ _ _ _ _ w3.drew
         have kx := Byt.below_drew1 (Below.refl w3.heap.size w3)
         replace U := U.below kx; replace IV := IV.below kx; replace BX := BX.below kx; replace T8 := T8.below kx; replace T := T.below kx; replace b := b.trans (kx.mono b.size); clear kx
         generalize w3.drew = wz at U IV BX T8 T b ⊢
         (try simp only [Act.put, List.setIfInBounds_toArray, List.set_cons_succ, List.set_cons_zero])
         repeat (first | (refine GrowT.reads rfl rfl ?_; go_big_quiet_want; refine Cel.quiet_row CE _ rfl _ _ rfl v BX.range ?_; go_big_quiet_on; refine wpQuiet_nil ?_; (try simp only [Act.put, List.setIfInBounds_toArray, List.set_cons_succ, List.set_cons_zero])) | (refine GrowT.reads rfl rfl ?_; go_big_quiet_step (fail); refine wpQuiet_nil ?_))
         clear BX
         refine GrowT.forks rfl rfl ?_ ?_
         · skip
           go_wp2_with (first | go_skip | (refine RowS.wpList_append KE rfl _ _ rfl wz.heap.size _ 0 [] rfl ⟨rfl, .inl ⟨rfl, rfl⟩⟩ A7 _ c7 qs rfl rfl U.row (by omega) (Nat.le_refl _) ?_; intro vx wx ox gx))
           have kx : RowKit.Below wz.heap.size wz wx := below_grown (Below.refl _ _) (Nat.le_refl _) gx (fun q hq => by cases hq)
           clear gx
           refine ⟨kx, ?_⟩
           (try simp only [Act.put, List.setIfInBounds_toArray, List.set_cons_succ, List.set_cons_zero])
           refine GrowT.acts rfl ?_
           go_wp2_with (first | go_skip | (refine RowC.wpList_lit1 KE (of_decide_eq_true rfl) rfl _ rfl v rfl ?_; intro wy Sy ky))
           refine ⟨ky, ?_⟩
           (try simp only [Act.put, List.setIfInBounds_toArray, List.set_cons_succ, List.set_cons_zero])
           have oy := owns_below ox ky
           have kz := kx.trans (ky.mono kx.size)
           clear ox kx ky
           refine GrowT.mid rfl ?_
           go_wp2_with (first | go_skip | (refine RowS.wpList_append KE rfl _ _ rfl wz.heap.size _ _ _ rfl oy _ _ 1 [v] rfl rfl Sy (by omega) kz.size ?_; intro vq wq oq gq))
           have kq : RowKit.Below wz.heap.size wz wq := below_grown kz kz.size gq (fun q hq => (oy.lt q hq).1)
           clear gq oy Sy kz
           refine GrowT.on_mid ?_
           (try simp only [Act.put, List.setIfInBounds_toArray, List.set_cons_succ, List.set_cons_zero])
           replace U := U.below kq; replace IV := IV.below kq; replace T := T.below kq; replace T8 := T8.below kq; replace b := b.trans (kq.mono b.size); clear kq
           rw [List.nil_append] at oq
           obtain ⟨AC, cC, rfl, SC⟩ := own_in (l := qs ++ [v]) oq (fun x hx => (List.mem_append.1 hx).elim (U.each x) fun hx => by rw [List.mem_singleton.1 hx]; exact ⟨IV, F⟩)
           obtain ⟨lC, hlC⟩ : ∃ k, (qs ++ [v]).length = k := ⟨_, rfl⟩
           simp only [hlC]
           have hlC9 : lC ≤ 9 := by rw [← hlC, List.length_append]; simp; omega
           have hcN : coms (qs ++ [v]) = s ++ [v.c] := by rw [← HS.out]; unfold coms; rw [List.map_append]; rfl
           clear oq IV
           refine GrowT.acts rfl ?_
           go_wp2_with (first | go_skip)
           refine ⟨Below.refl _ _, ?_⟩
           (try simp only [Act.put, List.setIfInBounds_toArray, List.set_cons_succ, List.set_cons_zero])
           refine GrowT.ends ?_
           have q := X.load A5 c5 N _ _ T HN.out (by omega) (hK.below b)
           by_cases hc : Closed hashK (s ++ [v.c])
           · rw [HLD.out, if_pos hc] at q
             clear U T8
             go_wp2_with (first | go_skip)
             refine q.mono ?_
             clear q
             rintro e w4 ⟨A4, c4, us, rfl, hus, S4, k4⟩
             have SC' := SC.below k4
             have b' := b.trans (k4.mono b.size)
             have qc := Y.closed AC cC (qs ++ [v]) _ SC' (by omega) (hK.below b')
             rw [hcN, decide_eq_true hc, hlC] at qc
             simp only [] at hus
             clear b SC k4 T
             go_wp2_with (first | go_skip)
             refine qc.mono ?_
             clear qc
             rintro e w5 ⟨rfl, k5⟩
             have S5 := S4.below k5
             have SC := SC'.below k5
             have b := b'.trans (k5.mono b'.size)
             have qe := list_ret A4 AC c4 cC us (qs ++ [v]) _ S5 SC
             rw [hus, hcN, listB_iff.2 rfl, hlC] at qe
             clear b' SC' k5 S4
             go_wp2_with (first | go_skip)
             refine qe.mono ?_
             clear qe
             rintro e w6 ⟨rfl, k6⟩
             have bz := b.trans (k6.mono b.size)
             have tN : ((N : Int) == (N : Int)) = true := by simp
             clear b k6 S5 SC
             go_wp2_with (first | go_skip)
             go_ret
             exact ⟨rfl, bz⟩
           · rw [HLD.out, if_neg hc] at q
             go_wp2_with (first | go_skip)
             refine q.mono ?_
             clear q
             rintro e w4 ⟨A4, c4, us, rfl, hus, S4, k4⟩
             have SC' := SC.below k4
             have V := U.below k4
             have b' := b.trans (k4.mono b.size)
             have qc := Y.closed AC cC (qs ++ [v]) _ SC' (by omega) (hK.below b')
             rw [hcN, decide_eq_false hc, hlC] at qc
             simp only [] at hus
             clear b SC k4 T U T8
             go_wp2_with (first | go_skip)
             refine qc.mono ?_
             clear qc
             rintro e w5 ⟨rfl, k5⟩
             have S5 := S4.below k5
             have U := V.below k5
             have b := b'.trans (k5.mono b'.size)
             have qe := list_ret A4 A7 c4 c7 us qs _ S5 U
             rw [hus, HS.out, listB_iff.2 rfl] at qe
             clear b' SC' k5 S4 V
             go_wp2_with (first | go_skip)
             refine qe.mono ?_
             clear qe
             rintro e w6 ⟨rfl, k6⟩
             have bz := b.trans (k6.mono b.size)
             have tD : ((D : Int) == (D : Int)) = true := by simp
             clear b k6 S5 U
             go_wp2_with (first | go_skip)
             go_ret
             exact ⟨rfl, bz⟩
         · skip
           go_wp2_with (first | go_skip | (refine RowC.wpList_lit1 KE (of_decide_eq_true rfl) rfl _ rfl v rfl ?_; intro wy Sy ky))
           refine ⟨ky, ?_⟩
           (try simp only [Act.put, List.setIfInBounds_toArray, List.set_cons_succ, List.set_cons_zero])
           have Sv := U.below ky
           refine GrowT.acts rfl ?_
           go_wp2_with (first | go_skip | (refine RowS.wpList_append KE rfl _ _ rfl wy.heap.size _ 0 [] rfl ⟨rfl, .inl ⟨rfl, rfl⟩⟩ A7 _ c7 qs rfl rfl Sv.row (by omega) (Nat.le_refl _) ?_; intro vx wx ox gx))
           have kx : RowKit.Below wy.heap.size wy wx := below_grown (Below.refl _ _) (Nat.le_refl _) gx (fun q hq => by cases hq)
           clear gx
           refine ⟨kx, ?_⟩
           (try simp only [Act.put, List.setIfInBounds_toArray, List.set_cons_succ, List.set_cons_zero])
           have Sz := Sy.below kx
           have kz := ky.trans (kx.mono ky.size)
           have ox' := owns_less ox ky.size
           clear ox Sy ky kx Sv
           refine GrowT.mid rfl ?_
           go_wp2_with (first | go_skip | (refine RowS.wpList_append KE rfl _ _ rfl wz.heap.size _ _ _ rfl ox' _ _ 1 [v] rfl rfl Sz (by omega) kz.size ?_; intro vq wq oq gq))
           have kq : RowKit.Below wz.heap.size wz wq := below_grown kz kz.size gq (fun q hq => (ox'.lt q hq).1)
           clear gq ox' Sz kz
           refine GrowT.on_mid ?_
           (try simp only [Act.put, List.setIfInBounds_toArray, List.set_cons_succ, List.set_cons_zero])
           replace U := U.below kq; replace IV := IV.below kq; replace T := T.below kq; replace T8 := T8.below kq; replace b := b.trans (kq.mono b.size); clear kq
           rw [List.nil_append] at oq
           obtain ⟨AC, cC, rfl, SC⟩ := own_in (l := qs ++ [v]) oq (fun x hx => (List.mem_append.1 hx).elim (U.each x) fun hx => by rw [List.mem_singleton.1 hx]; exact ⟨IV, F⟩)
           obtain ⟨lC, hlC⟩ : ∃ k, (qs ++ [v]).length = k := ⟨_, rfl⟩
           simp only [hlC]
           have hlC9 : lC ≤ 9 := by rw [← hlC, List.length_append]; simp; omega
           have hcN : coms (qs ++ [v]) = s ++ [v.c] := by rw [← HS.out]; unfold coms; rw [List.map_append]; rfl
           clear oq IV
           refine GrowT.acts rfl ?_
           go_wp2_with (first | go_skip)
           refine ⟨Below.refl _ _, ?_⟩
           (try simp only [Act.put, List.setIfInBounds_toArray, List.set_cons_succ, List.set_cons_zero])
           refine GrowT.ends ?_
           have q := X.load A5 c5 N _ _ T HN.out (by omega) (hK.below b)
           by_cases hc : Closed hashK (s ++ [v.c])
           · rw [HLD.out, if_pos hc] at q
             clear U T8
             go_wp2_with (first | go_skip)
             refine q.mono ?_
             clear q
             rintro e w4 ⟨A4, c4, us, rfl, hus, S4, k4⟩
             have SC' := SC.below k4
             have b' := b.trans (k4.mono b.size)
             have qc := Y.closed AC cC (qs ++ [v]) _ SC' (by omega) (hK.below b')
             rw [hcN, decide_eq_true hc, hlC] at qc
             simp only [] at hus
             clear b SC k4 T
             go_wp2_with (first | go_skip)
             refine qc.mono ?_
             clear qc
             rintro e w5 ⟨rfl, k5⟩
             have S5 := S4.below k5
             have SC := SC'.below k5
             have b := b'.trans (k5.mono b'.size)
             have qe := list_ret A4 AC c4 cC us (qs ++ [v]) _ S5 SC
             rw [hus, hcN, listB_iff.2 rfl, hlC] at qe
             clear b' SC' k5 S4
             go_wp2_with (first | go_skip)
             refine qe.mono ?_
             clear qe
             rintro e w6 ⟨rfl, k6⟩
             have bz := b.trans (k6.mono b.size)
             have tN : ((N : Int) == (N : Int)) = true := by simp
             clear b k6 S5 SC
             go_wp2_with (first | go_skip)
             go_ret
             exact ⟨rfl, bz⟩
           · rw [HLD.out, if_neg hc] at q
             go_wp2_with (first | go_skip)
             refine q.mono ?_
             clear q
             rintro e w4 ⟨A4, c4, us, rfl, hus, S4, k4⟩
             have SC' := SC.below k4
             have V := U.below k4
             have b' := b.trans (k4.mono b.size)
             have qc := Y.closed AC cC (qs ++ [v]) _ SC' (by omega) (hK.below b')
             rw [hcN, decide_eq_false hc, hlC] at qc
             simp only [] at hus
             clear b SC k4 T U T8
             go_wp2_with (first | go_skip)
             refine qc.mono ?_
             clear qc
             rintro e w5 ⟨rfl, k5⟩
             have S5 := S4.below k5
             have U := V.below k5
             have b := b'.trans (k5.mono b'.size)
             have qe := list_ret A4 A7 c4 c7 us qs _ S5 U
             rw [hus, HS.out, listB_iff.2 rfl] at qe
             clear b' SC' k5 S4 V
             go_wp2_with (first | go_skip)
             refine qe.mono ?_
             clear qe
             rintro e w6 ⟨rfl, k6⟩
             have bz := b.trans (k6.mono b.size)
             have tD : ((D : Int) == (D : Int)) = true := by simp
             clear b k6 S5 U
             go_wp2_with (first | go_skip)
             go_ret
             exact ⟨rfl, bz⟩
end Go.Proofs.YtgoapaanmcmlmaaGreatDoor.SoM
