/- What the document's Load and Open of package store return: contracts. No condition but sizes. | StoreTells' walk: package store's four functions answer as the document does, where they return what Four says. No condition. | What the walks of package store's laws need of package dag's Closed and Sorted. No condition. -/
import Derived.Test.YtgoapaanmcmlmaaGreatDoorStGJ6
import Derived.Test.YtgoapaanmcmlmaaGreatDoorLogTJ3
import Derived.Test.YtgoapaanmcmlmaaGreatDoorDgOJ2
import Derived.Test.YtgoapaanmcmlmaaGreatDoorIdXJ9
import Derived.Test.YtgoapaanmcmlmaaGreatDoorGrowLJ2
import Derived.Test.YtgoapaanmcmlmaaGreatDoorShaDJ4
namespace Go.Proofs.YtgoapaanmcmlmaaGreatDoor.StoL
set_option maxRecDepth 100000
open Go Go.Sort Go.RowKit Byt IdM IdW OpsM OpsW CmM StW CmW CmX CmY DgM DgW DgF StoM StoW LogM LogD LogE LogB
open Classical
def tree : Forks.Tree := .free 0 (.free 2 (.two 1 (.act 3 (.act 4 (.act 5 .ends))) 3 (.act 1 (.act 4 (.act 5 .ends)))))
def intOf : Value → Int | .int _ q => q | _ => 0
def GetDoc : Prop := ∀ (A : Option Addr) (cap : Nat) (bs : List Int) (w : World), Sl w A cap bs → bs.length ≤ 1099511627776 → Calls Tryz.prog 32 #[.slice A bs.length cap] w (GetAll (getK bs) w)
theorem gotN_none : gotN none = 2 := rfl
theorem gotN_some (p : Com × List Int) : gotN (some p) = 0 := rfl
theorem gotR_none : gotR none = [] := rfl
theorem gotR_some (c : Com) (r : List Int) : gotR (some (c, r)) = r := rfl
theorem slb_at {w : World} {b off cap : Nat} {l : List Pb} (h : SlB w (some ⟨b, off, none⟩) cap l) {i : Nat} {x : Pb} (hi : l[i]? = some x) : w.cell? ⟨b, off + i, none⟩ = some (hd x) := by
 obtain ⟨b', off', e, _, hc⟩ := h.plain (by have := (List.getElem?_eq_some_iff.1 hi).1; omega)
 cases e
 exact hc i x hi
theorem okay_got {x : List Int} (hb : ∀ y ∈ x, 0 ≤ y ∧ y ≤ 255) : CmR.Okay (gotC (getK x)) := by
 cases hg : getK x with
 | none => exact okay_no
 | some p =>
   obtain ⟨c, r⟩ := p
   exact okay_may (put_getK hb hg).1
set_option maxRecDepth 100000 in
set_option maxHeartbeats 32000000 in
theorem load_ret (G : GetDoc) {w : World} {A : Option Addr} {cap len : Nat} {b : List Int} (D : Sl w A cap b) (hl : b.length = len) (hm : len ≤ 4000) :
   Calls Tryz.prog 13 #[.slice A len cap] w (LoadOut (loadD hashK b) w) := by
 have q := LogT.read_ret D hl (by omega)
 have hfive := readL_five D.bytes
 have hB := readL_B D.bytes
 obtain ⟨rs, hrs⟩ : ∃ rs, (readL b).1 = rs := ⟨_, rfl⟩
 have HD : Hid (loadD hashK b = loadR hashK rs []) := aside (by unfold loadD; rw [hrs])
 rw [hrs] at q hfive hB
 obtain ⟨lo, hlo⟩ : ∃ r, loadD hashK b = r := ⟨_, rfl⟩
 rw [hlo] at HD ⊢
 have HB := aside hB
 have hfew : rs.length ≤ 800 := by omega
 clear D hl hm hrs hfive hB hlo
 go_enter Tryz.func13, Tryz.ntmps13
 go_wp2_with (first | go_skip)
 refine q.mono ?_
 rintro e w1 ⟨A1, cp1, ps, rfl, hps, SR0, k1⟩
 clear q
 have hlen : ps.length = rs.length := by rw [← tx_len, hps]
 have hps8 : ps.length ≤ 800 := by omega
 have HPS := aside hps
 have HLEN := aside hlen
 clear hps hlen
 go_wp2_with (first | go_skip)
 go_loopw [6, 7, 8] (fun v6 u i wr => ∃ (k used : Nat) (outs : List Cv) (A6 : Option Addr) (c6 : Nat), k ≤ ps.length ∧ outs.length = k ∧ v6 = .slice A6 outs.length c6 ∧ u = .int .i64 used ∧ i = .int .i64 k ∧ SlK wr A6 c6 outs ∧ Hid (lo = (coms outs ++ (loadR hashK (rs.drop k) (coms outs)).1, used + (loadR hashK (rs.drop k) (coms outs)).2)) ∧ Hid (used ≤ 5000 * k) ∧ Hid (∀ y ∈ outs, mayK y.c = true) ∧ Below w1.heap.size w1 wr) (fun _ _ i _ => ps.length - (intOf i).toNat)
 case atStart => exact ⟨0, 0, [], none, 0, Nat.zero_le _, rfl, rfl, rfl, rfl, SlK.nil _, aside (by rw [HD.out]; simp [coms]), aside (by omega), aside (by simp), Below.refl _ _⟩
 case round =>
   rename World => wr
   obtain ⟨k, used, outs, A6, c6, hk, hok, rfl, rfl, rfl, S, HR, HU, HM, b⟩ := hrel
   have HK := aside hok
   have hsm : outs.length ≤ 1000 := by have := HLEN.out; omega
   clear HD hok
   by_cases hlt : k < ps.length
   · obtain ⟨p, hp⟩ : ∃ p, ps[k]? = some p := ⟨_, List.getElem?_eq_getElem hlt⟩
     have SR := SR0.below b
     obtain ⟨bb, off, rfl, _, hcs⟩ := SR.plain (by omega)
     have cx := hcs k p hp
     unfold hd at cx
     have TR := SR.each p (List.mem_of_getElem? hp)
     have htx := tx_at hp
     obtain ⟨x, hx⟩ : ∃ x, p.bs = x := ⟨_, rfl⟩
     rw [hx] at cx TR htx
     have HPS2 := HPS.out
     rw [HPS2] at htx
     obtain ⟨hx4, hxB⟩ := HB.out x (List.mem_of_getElem? htx)
     have p0 : (k : Int) < (ps.length : Int) := by omega
     have m0 : ((k : Int)).toNat = k := by omega
     have hdr : rs.drop k = x :: rs.drop (k + 1) := DgW.drop_at htx
     have q := G p.a p.k x _ TR (by omega)
     have hokv := okay_got hxB
     have HDR := aside hdr
     have HX4 := aside hx4
     have HXX := aside hx
     clear hcs htx HPS2 hx hdr
     go_wp2_with (first | go_skip)
     refine q.mono ?_
     clear q
     rintro e w2 ⟨v, A2, c2, rfl, hv, IV, T, k2⟩
     replace S := S.below k2; replace SR := SR.below k2; replace TR := TR.below k2; replace b := b.trans (k2.mono b.size); clear k2
     have FV : Hid (Fit v.c) := aside (by rw [hv]; exact hokv.fit)
     have HOK : Hid (∀ y ∈ outs ++ [v], CmR.Okay y.c) := aside (fun y hy => by
       rcases List.mem_append.1 hy with hy | hy
       · exact okay_may (HM.out y hy)
       · rw [List.mem_singleton.1 hy, hv]; exact hokv)
     have HSH : Hid (outs.length + [v].length ≤ 1000) := aside (by have := HLEN.out; have := HK.out; simp only [List.length_cons, List.length_nil]; omega)
     have HV := aside hv
     have HCO : Hid (coms (outs ++ [v]) = coms outs ++ [gotC (getK x)]) := aside (by unfold coms; rw [List.map_append, List.map_cons, List.map_nil, HV.out])
     clear hv hokv
     go_wp2_with (first | go_skip | (refine Cel.wpList_store_new CE rfl _ _ rfl _ _ _ rfl v _ rfl rfl rfl rfl ?_; intro wy CB ky g4 s4; clear g4 s4))
     replace S := S.below ky; replace SR := SR.below ky; replace TR := TR.below ky; replace IV := IV.below ky; replace T := T.below ky; replace b := b.trans (ky.mono b.size); clear ky
     refine GrowT.region 4 tree (by kernel_rfl) (by kernel_rfl) rfl (by kernel_rfl) (by intro c a d v w h; cases d <;> exact h) ?_
     have kx := Byt.below_drew1 (Below.refl wy.heap.size wy)
     replace S := S.below kx; replace SR := SR.below kx; replace TR := TR.below kx; replace IV := IV.below kx; replace T := T.below kx; replace CB := CB.below kx; replace b := b.trans (kx.mono b.size); clear kx
     generalize wy.drew = wz at S SR TR IV T CB b ⊢
     (try simp only [Act.put, List.setIfInBounds_toArray, List.set_cons_succ, List.set_cons_zero])
     repeat (first | (refine GrowT.reads rfl rfl ?_; go_big_quiet_want; refine Cel.quiet_row CE _ rfl _ _ rfl v CB.range ?_; go_big_quiet_on; refine wpQuiet_nil ?_; (try simp only [Act.put, List.setIfInBounds_toArray, List.set_cons_succ, List.set_cons_zero])) | (refine GrowT.reads rfl rfl ?_; go_big_quiet_step (fail); refine wpQuiet_nil ?_))
     clear CB
     refine GrowT.forks rfl rfl ?_ ?_
     · skip
       go_wp2_with (first | go_skip | (refine RowS.wpList_append KE rfl _ _ rfl wz.heap.size _ 0 [] rfl ⟨rfl, .inl ⟨rfl, rfl⟩⟩ A6 _ c6 outs rfl rfl S.row (by omega) (Nat.le_refl _) ?_; intro vx wx ox gx))
       have kx : RowKit.Below wz.heap.size wz wx := below_grown (Below.refl _ _) (Nat.le_refl _) gx (fun q hq => by cases hq)
       clear gx
       refine ⟨kx, ?_⟩
       (try simp only [Act.put, List.setIfInBounds_toArray, List.set_cons_succ, List.set_cons_zero])
       refine GrowT.acts rfl ?_
       go_wp2_with (first | go_skip | (refine RowC.wpList_lit1 KE (of_decide_eq_true rfl) rfl _ rfl v rfl ?_; intro wy Sy ky))
       refine ⟨ky, ?_⟩
       (try simp only [Act.put, List.setIfInBounds_toArray, List.set_cons_succ, List.set_cons_zero])
       have oy := owns_below ox ky
       have kz := kx.trans (ky.mono kx.size)
       clear ox kx ky
       refine GrowT.mid rfl ?_
       go_wp2_with (first | go_skip | (refine RowS.wpList_append KE rfl _ _ rfl wz.heap.size _ _ _ rfl oy _ _ 1 [v] rfl rfl Sy (by omega) kz.size ?_; intro vq wq oq gq))
       have kq : RowKit.Below wz.heap.size wz wq := below_grown kz kz.size gq (fun q hq => (oy.lt q hq).1)
       clear gq oy Sy kz
       refine GrowT.on_mid ?_
       (try simp only [Act.put, List.setIfInBounds_toArray, List.set_cons_succ, List.set_cons_zero])
       replace S := S.below kq; replace SR := SR.below kq; replace TR := TR.below kq; replace IV := IV.below kq; replace T := T.below kq; replace b := b.trans (kq.mono b.size); clear kq
       rw [List.nil_append] at oq
       obtain ⟨AC, cC, rfl, SC⟩ := own_in (l := outs ++ [v]) oq (fun x hx => (List.mem_append.1 hx).elim (S.each x) fun hx => by rw [List.mem_singleton.1 hx]; exact ⟨IV, FV.out⟩)
       clear oq IV T
       refine GrowT.acts rfl ?_
       go_wp2_with (first | go_skip)
       refine ⟨Below.refl _ _, ?_⟩
       (try simp only [Act.put, List.setIfInBounds_toArray, List.set_cons_succ, List.set_cons_zero])
       refine GrowT.ends ?_
       have hcl := DgC.closed_ret AC cC (outs ++ [v]) _ SC HOK.out (by rw [List.length_append]; exact HSH.out)
       rw [HCO.out] at hcl
       obtain ⟨bz, hbz⟩ : ∃ z, decide (Closed hashK (coms outs ++ [gotC (getK x)])) = z := ⟨_, rfl⟩
       rw [hbz] at hcl
       have HBZ := aside hbz
       clear hbz
       rw [List.length_append] at hcl ⊢
       go_wp2_with (first | go_skip)
       refine hcl.mono ?_
       clear hcl
       rintro e wx ⟨rfl, kx⟩
       replace S := S.below kx; replace SC := SC.below kx; replace SR := SR.below kx; replace TR := TR.below kx; replace b := b.trans (kx.mono b.size); clear kx
       have HXB := aside hxB
       cases hg : getK x with
       | none =>
         simp only [gotN_none, gotR_none, List.length_nil]
         have HE : Hid (lo = (coms outs, used)) := aside (by rw [HR.out, HDR.out, loadR_none (by unfold nextK; rw [hg])]; simp)
         clear HR SC SR TR
         go_wp2_with (first | go_skip)
         exact bodyPost_ret (v := .tuple #[.slice A6 outs.length c6, .int .i64 used]) (by simp [results, Tryz.results13, go_sem]) rfl (by rw [HE.out]; exact ⟨A6, c6, outs, rfl, rfl, S, k1.trans (b.mono k1.size)⟩)
       | some pr =>
         obtain ⟨c, r⟩ := pr
         simp only [gotN_some, gotR_some]
         cases r with
         | cons a r =>
           have pr : (0 : Int) < ((a :: r).length : Int) := by simp
           obtain ⟨lr, hlr⟩ : ∃ lr, (a :: r).length = lr := ⟨_, rfl⟩
           simp only [hlr] at pr ⊢
           have HE : Hid (lo = (coms outs, used)) := aside (by rw [HR.out, HDR.out, loadR_none (by unfold nextK; rw [hg])]; simp)
           clear HR SC SR TR
           go_wp2_with (first | go_skip)
           exact bodyPost_ret (v := .tuple #[.slice A6 outs.length c6, .int .i64 used]) (by simp [results, Tryz.results13, go_sem]) rfl (by rw [HE.out]; exact ⟨A6, c6, outs, rfl, rfl, S, k1.trans (b.mono k1.size)⟩)
         | nil =>
           by_cases hc : Closed hashK (coms outs ++ [c])
           · obtain rfl : bz = true := by rw [← HBZ.out, hg]; exact decide_eq_true hc
             simp only [List.length_nil]
             have hnx : nextK hashK (coms outs) x = some c := by unfold nextK; rw [hg]; exact if_pos hc
             have hcv : coms (outs ++ [v]) = coms outs ++ [c] := by rw [HCO.out, hg]; rfl
             have hmv : mayK v.c = true := by rw [HV.out, hg]; exact (put_getK HXB.out hg).1
             have cx := slb_at SR hp
             unfold hd at cx
             rw [HXX.out] at cx
             have qf := LogS.frame_yes TR rfl HX4.out
             have hn := frameL_len x
             have hten := EncM.numL_ten (n := x.length) (by have := HX4.out; omega)
             obtain ⟨n, hnn⟩ : ∃ n, (frameL x).length = n := ⟨_, rfl⟩
             have HNX : Hid (lo = (coms (outs ++ [v]) ++ (loadR hashK (rs.drop (k + 1)) (coms (outs ++ [v]))).1, (used + n) + (loadR hashK (rs.drop (k + 1)) (coms (outs ++ [v]))).2)) := aside (by rw [HR.out, HDR.out, loadR_some hnx, hcv, hnn]; simp [Nat.add_assoc])
             have HU2 : Hid (used + n ≤ 5000 * (k + 1)) := aside (by have := HU.out; have := HX4.out; omega)
             have HM2 : Hid (∀ y ∈ outs ++ [v], mayK y.c = true) := aside (fun y hy => (List.mem_append.1 hy).elim (HM.out y) fun hy => by rw [List.mem_singleton.1 hy]; exact hmv)
             have m1 : IntKind.i64.wrap ((used : Int) + (n : Int)) = (used : Int) + (n : Int) := IntWalk.i64_in _ (by have := HU2.out; have := HLEN.out; omega)
             have en : ((used + n : Nat) : Int) = (used : Int) + (n : Int) := by omega
             have HN := aside hnn
             have HKL : Hid (outs.length + 1 = k + 1) := aside (by rw [HK.out])
             clear hnx hcv hmv hn hten HR HU HM hnn hc
             go_wp2_with (first | go_skip)
             refine qf.mono ?_
             rintro e wf ⟨Af, cf, rfl, _, kf⟩
             have SC' := SC.below kf
             have bf := b.trans (kf.mono b.size)
             clear qf SC SR TR cx kf b S
             simp only [HN.out]
             go_wp2_with (first | go_skip)
             go_roundw
             case rel => exact ⟨k + 1, used + n, outs ++ [v], AC, cC, by omega, by rw [List.length_append]; exact HKL.out, by rw [List.length_append], by rw [en], by go_num, SC', HNX, HU2, HM2, bf⟩
             case measure => simp [intOf]; omega
           · obtain rfl : bz = false := by rw [← HBZ.out, hg]; exact decide_eq_false hc
             simp only [List.length_nil]
             have HE : Hid (lo = (coms outs, used)) := aside (by rw [HR.out, HDR.out, loadR_none (by unfold nextK; rw [hg]; exact if_neg hc)]; simp)
             clear HR SC SR TR
             go_wp2_with (first | go_skip)
             exact bodyPost_ret (v := .tuple #[.slice A6 outs.length c6, .int .i64 used]) (by simp [results, Tryz.results13, go_sem]) rfl (by rw [HE.out]; exact ⟨A6, c6, outs, rfl, rfl, S, k1.trans (b.mono k1.size)⟩)
     · skip
       go_wp2_with (first | go_skip | (refine RowC.wpList_lit1 KE (of_decide_eq_true rfl) rfl _ rfl v rfl ?_; intro wy Sy ky))
       refine ⟨ky, ?_⟩
       (try simp only [Act.put, List.setIfInBounds_toArray, List.set_cons_succ, List.set_cons_zero])
       have Sv := S.below ky
       refine GrowT.acts rfl ?_
       go_wp2_with (first | go_skip | (refine RowS.wpList_append KE rfl _ _ rfl wy.heap.size _ 0 [] rfl ⟨rfl, .inl ⟨rfl, rfl⟩⟩ A6 _ c6 outs rfl rfl Sv.row (by omega) (Nat.le_refl _) ?_; intro vx wx ox gx))
       have kx : RowKit.Below wy.heap.size wy wx := below_grown (Below.refl _ _) (Nat.le_refl _) gx (fun q hq => by cases hq)
       clear gx
       refine ⟨kx, ?_⟩
       (try simp only [Act.put, List.setIfInBounds_toArray, List.set_cons_succ, List.set_cons_zero])
       have Sz := Sy.below kx
       have kz := ky.trans (kx.mono ky.size)
       have ox' := owns_less ox ky.size
       clear ox Sy ky kx Sv
       refine GrowT.mid rfl ?_
       go_wp2_with (first | go_skip | (refine RowS.wpList_append KE rfl _ _ rfl wz.heap.size _ _ _ rfl ox' _ _ 1 [v] rfl rfl Sz (by omega) kz.size ?_; intro vq wq oq gq))
       have kq : RowKit.Below wz.heap.size wz wq := below_grown kz kz.size gq (fun q hq => (ox'.lt q hq).1)
       clear gq ox' Sz kz
       refine GrowT.on_mid ?_
       (try simp only [Act.put, List.setIfInBounds_toArray, List.set_cons_succ, List.set_cons_zero])
       replace S := S.below kq; replace SR := SR.below kq; replace TR := TR.below kq; replace IV := IV.below kq; replace T := T.below kq; replace b := b.trans (kq.mono b.size); clear kq
       rw [List.nil_append] at oq
       obtain ⟨AC, cC, rfl, SC⟩ := own_in (l := outs ++ [v]) oq (fun x hx => (List.mem_append.1 hx).elim (S.each x) fun hx => by rw [List.mem_singleton.1 hx]; exact ⟨IV, FV.out⟩)
       clear oq IV T
       refine GrowT.acts rfl ?_
       go_wp2_with (first | go_skip)
       refine ⟨Below.refl _ _, ?_⟩
       (try simp only [Act.put, List.setIfInBounds_toArray, List.set_cons_succ, List.set_cons_zero])
       refine GrowT.ends ?_
       have hcl := DgC.closed_ret AC cC (outs ++ [v]) _ SC HOK.out (by rw [List.length_append]; exact HSH.out)
       rw [HCO.out] at hcl
       obtain ⟨bz, hbz⟩ : ∃ z, decide (Closed hashK (coms outs ++ [gotC (getK x)])) = z := ⟨_, rfl⟩
       rw [hbz] at hcl
       have HBZ := aside hbz
       clear hbz
       rw [List.length_append] at hcl ⊢
       go_wp2_with (first | go_skip)
       refine hcl.mono ?_
       clear hcl
       rintro e wx ⟨rfl, kx⟩
       replace S := S.below kx; replace SC := SC.below kx; replace SR := SR.below kx; replace TR := TR.below kx; replace b := b.trans (kx.mono b.size); clear kx
       have HXB := aside hxB
       cases hg : getK x with
       | none =>
         simp only [gotN_none, gotR_none, List.length_nil]
         have HE : Hid (lo = (coms outs, used)) := aside (by rw [HR.out, HDR.out, loadR_none (by unfold nextK; rw [hg])]; simp)
         clear HR SC SR TR
         go_wp2_with (first | go_skip)
         exact bodyPost_ret (v := .tuple #[.slice A6 outs.length c6, .int .i64 used]) (by simp [results, Tryz.results13, go_sem]) rfl (by rw [HE.out]; exact ⟨A6, c6, outs, rfl, rfl, S, k1.trans (b.mono k1.size)⟩)
       | some pr =>
         obtain ⟨c, r⟩ := pr
         simp only [gotN_some, gotR_some]
         cases r with
         | cons a r =>
           have pr : (0 : Int) < ((a :: r).length : Int) := by simp
           obtain ⟨lr, hlr⟩ : ∃ lr, (a :: r).length = lr := ⟨_, rfl⟩
           simp only [hlr] at pr ⊢
           have HE : Hid (lo = (coms outs, used)) := aside (by rw [HR.out, HDR.out, loadR_none (by unfold nextK; rw [hg])]; simp)
           clear HR SC SR TR
           go_wp2_with (first | go_skip)
           exact bodyPost_ret (v := .tuple #[.slice A6 outs.length c6, .int .i64 used]) (by simp [results, Tryz.results13, go_sem]) rfl (by rw [HE.out]; exact ⟨A6, c6, outs, rfl, rfl, S, k1.trans (b.mono k1.size)⟩)
         | nil =>
           by_cases hc : Closed hashK (coms outs ++ [c])
           · obtain rfl : bz = true := by rw [← HBZ.out, hg]; exact decide_eq_true hc
             simp only [List.length_nil]
             have hnx : nextK hashK (coms outs) x = some c := by unfold nextK; rw [hg]; exact if_pos hc
             have hcv : coms (outs ++ [v]) = coms outs ++ [c] := by rw [HCO.out, hg]; rfl
             have hmv : mayK v.c = true := by rw [HV.out, hg]; exact (put_getK HXB.out hg).1
             have cx := slb_at SR hp
             unfold hd at cx
             rw [HXX.out] at cx
             have qf := LogS.frame_yes TR rfl HX4.out
             have hn := frameL_len x
             have hten := EncM.numL_ten (n := x.length) (by have := HX4.out; omega)
             obtain ⟨n, hnn⟩ : ∃ n, (frameL x).length = n := ⟨_, rfl⟩
             have HNX : Hid (lo = (coms (outs ++ [v]) ++ (loadR hashK (rs.drop (k + 1)) (coms (outs ++ [v]))).1, (used + n) + (loadR hashK (rs.drop (k + 1)) (coms (outs ++ [v]))).2)) := aside (by rw [HR.out, HDR.out, loadR_some hnx, hcv, hnn]; simp [Nat.add_assoc])
             have HU2 : Hid (used + n ≤ 5000 * (k + 1)) := aside (by have := HU.out; have := HX4.out; omega)
             have HM2 : Hid (∀ y ∈ outs ++ [v], mayK y.c = true) := aside (fun y hy => (List.mem_append.1 hy).elim (HM.out y) fun hy => by rw [List.mem_singleton.1 hy]; exact hmv)
             have m1 : IntKind.i64.wrap ((used : Int) + (n : Int)) = (used : Int) + (n : Int) := IntWalk.i64_in _ (by have := HU2.out; have := HLEN.out; omega)
             have en : ((used + n : Nat) : Int) = (used : Int) + (n : Int) := by omega
             have HN := aside hnn
             have HKL : Hid (outs.length + 1 = k + 1) := aside (by rw [HK.out])
             clear hnx hcv hmv hn hten HR HU HM hnn hc
             go_wp2_with (first | go_skip)
             refine qf.mono ?_
             rintro e wf ⟨Af, cf, rfl, _, kf⟩
             have SC' := SC.below kf
             have bf := b.trans (kf.mono b.size)
             clear qf SC SR TR cx kf b S
             simp only [HN.out]
             go_wp2_with (first | go_skip)
             go_roundw
             case rel => exact ⟨k + 1, used + n, outs ++ [v], AC, cC, by omega, by rw [List.length_append]; exact HKL.out, by rw [List.length_append], by rw [en], by go_num, SC', HNX, HU2, HM2, bf⟩
             case measure => simp [intOf]; omega
           · obtain rfl : bz = false := by rw [← HBZ.out, hg]; exact decide_eq_false hc
             simp only [List.length_nil]
             have HE : Hid (lo = (coms outs, used)) := aside (by rw [HR.out, HDR.out, loadR_none (by unfold nextK; rw [hg]; exact if_neg hc)]; simp)
             clear HR SC SR TR
             go_wp2_with (first | go_skip)
             exact bodyPost_ret (v := .tuple #[.slice A6 outs.length c6, .int .i64 used]) (by simp [results, Tryz.results13, go_sem]) rfl (by rw [HE.out]; exact ⟨A6, c6, outs, rfl, rfl, S, k1.trans (b.mono k1.size)⟩)
   · have e0 : rs.drop k = [] := List.drop_of_length_le (by have := HLEN.out; omega)
     have HE : Hid (lo = (coms outs, used)) := aside (by rw [HR.out, e0, loadR_nil]; simp)
     have p0 : ¬ (k : Int) < (ps.length : Int) := by omega
     clear HR e0
     go_wp2_with (first | go_skip)
     exact bodyPost_ret (v := .tuple #[.slice A6 outs.length c6, .int .i64 used]) (by simp [results, Tryz.results13, go_sem]) rfl (by rw [HE.out]; exact ⟨A6, c6, outs, rfl, rfl, S, k1.trans (b.mono k1.size)⟩)
theorem open_ret (G : GetDoc) {w : World} {A : Option Addr} {cap len : Nat} {b : List Int} (D : Sl w A cap b) (hl : b.length = len) (hm : len ≤ 4000) :
   Calls Tryz.prog 16 #[.slice A len cap] w (Gives (openD hashK b) w) := by
 have q := load_ret G D hl hm
 obtain ⟨_, _, _, _, _, hle, _⟩ := openD_is (H := hashK) D.bytes
 have hml : openD hashK b = b.take (loadD hashK b).2 := rfl
 obtain ⟨lo, hlo⟩ : ∃ lo, loadD hashK b = lo := ⟨_, rfl⟩
 rw [hlo] at q hml hle
 obtain ⟨lc, n⟩ := lo
 simp only [] at hml hle
 rw [hml]
 obtain ⟨A1, c1, hs1, S1, hl1⟩ := D.part 0 n (by omega) hle
 rw [List.drop_zero, Nat.sub_zero] at S1 hl1
 have hr1 := fun W => run_part_h W A len cap .i64 n (by have := D.1; omega)
 rw [hs1, Nat.sub_zero] at hr1
 have p2 : 0 ≤ (n : Int) := by omega
 have p3 : (n : Int) ≤ (cap : Int) := by have := D.1; omega
 have hn40 : n ≤ 4000 := by omega
 obtain ⟨t, ht⟩ : ∃ t, b.take n = t := ⟨_, rfl⟩
 rw [ht] at S1 hl1 ⊢
 have tB := S1.bytes
 clear hs1 hle hml hlo D hl hm ht
 go_enter Tryz.func16, Tryz.ntmps16
 go_wp2_with (first | go_skip)
 refine q.mono ?_
 rintro e w1 ⟨A2, c2, ps, rfl, _, _, k1⟩
 have T1 := S1.below k1
 have bs1 := k1.size
 have nil1 : w1.ownsRow w.heap.size 5 1 (.slice none 0 0) 0 (Byt.bv []) := World.ownsRow_nil _ _ _ _
 clear q S1
 go_wp2_with (first | go_skip | (refine wpList_append_sl rfl (.const (.slice none 0 0)) (.tmp 12) 22 rfl w.heap.size 5 Tryz.underlying22 zero_u8 _ 0 [] rfl nil1 A1 n c1 t rfl hl1 T1 (by omega) bs1 ?_; intro v2 w2 own2 g2; have k2 := below_grown k1 k1.size g2 (fun q hq => by cases hq)))
 go_ret
 refine New.gives ⟨_, rfl, ?_, k2⟩ tB
 rw [hl1]
 simpa using own2
end Go.Proofs.YtgoapaanmcmlmaaGreatDoor.StoL
namespace Go.Proofs.YtgoapaanmcmlmaaGreatDoor.SoT
set_option maxRecDepth 100000
open Go Go.Sort Go.RowKit Byt IdM IdW OpsM OpsW CmM StW CmW CmX CmY CmA DgM DgW DgR DgJ StoM StoW StoF StoL StoA LogM LogD LogE LogW EncM
open Classical
theorem putO_B {b : List Int} {c : Com} {room : Int} (hb : ∀ y ∈ b, Byt.B y) : ∀ y ∈ (putO b c room).1, Byt.B y := by
 unfold putO
 split
 · exact writeO_B hb (putK_B c)
 · simp
set_option maxRecDepth 100000 in
set_option maxHeartbeats 16000000 in
theorem not_few (X : Four) (A : Option Addr) (len cap : Nat) (room node : Int) (v : Cv) (w : World) (hf : fewK v.c = false) (hK : ShaE.KIn w) :
   Calls Tryz.prog 3 #[.slice A len cap, .int .i64 room, .agg (cc v), .int .i64 node] w fun e w' => e = .returned (.bool true) ∧ RowKit.Below w.heap.size w w' := by
 have kb : RowKit.Below w.heap.size w (w.alloc (.cells (cc v) 29)) := (Below.refl _ _).alloc (Nat.le_refl _) _
 have B0 : Cel.Box CE (w.alloc (.cells (cc v) 29)) w.heap.size v := Cel.Box.new (E := CE) w v _
 have qa := awake X _ (hK.below kb)
 have qf := fun W => few_ret v W
 rw [hf] at qf
 have hks := kb.size
 go_enter Tryz.func3, Tryz.ntmps3
 go_wp2_with (first | go_skip)
 refine qa.mono ?_
 rintro e w1 ⟨rfl, k1⟩
 have B1 := B0.below k1
 have b1 := kb.trans (k1.mono hks)
 clear qa B0 kb k1
 go_wp2_with (first | go_skip | (refine Cel.wpList_load_box CE rfl _ rfl _ rfl _ B1 ?_))
 refine (qf _).mono ?_
 rintro e w2 ⟨rfl, k2⟩
 clear qf
 go_wp2_with (first | go_skip)
 go_ret
 exact ⟨rfl, b1.trans (k2.mono b1.size)⟩
set_option maxRecDepth 100000 in
set_option maxHeartbeats 16000000 in
theorem not_short (X : Four) (A : Option Addr) (len cap : Nat) (room node : Int) (v : Cv) (w : World) (hf : fewK v.c = true) (hl : 1500 < len) (hK : ShaE.KIn w) :
   Calls Tryz.prog 3 #[.slice A len cap, .int .i64 room, .agg (cc v), .int .i64 node] w fun e w' => e = .returned (.bool true) ∧ RowKit.Below w.heap.size w w' := by
 have kb : RowKit.Below w.heap.size w (w.alloc (.cells (cc v) 29)) := (Below.refl _ _).alloc (Nat.le_refl _) _
 have B0 : Cel.Box CE (w.alloc (.cells (cc v) 29)) w.heap.size v := Cel.Box.new (E := CE) w v _
 have qa := awake X _ (hK.below kb)
 have qf := fun W => few_ret v W
 rw [hf] at qf
 have hks := kb.size
 have p0 : (1500 : Int) < (len : Int) := by omega
 go_enter Tryz.func3, Tryz.ntmps3
 go_wp2_with (first | go_skip)
 refine qa.mono ?_
 rintro e w1 ⟨rfl, k1⟩
 have B1 := B0.below k1
 have b1 := kb.trans (k1.mono hks)
 clear qa B0 kb k1
 go_wp2_with (first | go_skip | (refine Cel.wpList_load_box CE rfl _ rfl _ rfl _ B1 ?_))
 refine (qf _).mono ?_
 rintro e w2 ⟨rfl, k2⟩
 clear qf
 go_wp2_with (first | go_skip)
 go_ret
 exact ⟨rfl, b1.trans (k2.mono b1.size)⟩
set_option maxRecDepth 100000 in
set_option maxHeartbeats 32000000 in
theorem within (X : Four) (G : GetDoc) (A : Option Addr) (len cap : Nat) (b : List Int) (room node : Int) (v : Cv) (w : World) (S : Sl w A cap b) (hl : b.length = len) (I : In w v) (F : Fit v.c) (hf : fewK v.c = true) (h : len ≤ 1500) (hK : ShaE.KIn w) :
   Calls Tryz.prog 3 #[.slice A len cap, .int .i64 room, .agg (cc v), .int .i64 node] w fun e w' => e = .returned (.bool true) ∧ RowKit.Below w.heap.size w w' := by
 have kb : RowKit.Below w.heap.size w (w.alloc (.cells (cc v) 29)) := (Below.refl _ _).alloc (Nat.le_refl _) _
 have B0 : Cel.Box CE (w.alloc (.cells (cc v) 29)) w.heap.size v := Cel.Box.new (E := CE) w v _
 have qa := awake X _ (hK.below kb)
 have qf := fun W => few_ret v W
 rw [hf] at qf
 have hks := kb.size
 have p0 : ¬ (1500 : Int) < (len : Int) := by omega
 have hokv : CmR.Okay v.c := okay hf F
 have q1 := fun W (S : Sl W A cap b) (I : In W v) (K : ShaE.KIn W) => X.put A cap len b room v W S hl (by omega) I F K
 have q2 := fun W (S : Sl W A cap b) (I : In W v) => StoR.put_ret (room := room) S hl (by omega) I hokv
 have q3 := fun W (S : Sl W A cap b) (K : ShaE.KIn W) => X.load A cap len b W S hl (by omega) K
 have q4 := fun W (S : Sl W A cap b) => StoL.load_ret G S hl (by omega)
 have q5 := fun W (S : Sl W A cap b) (K : ShaE.KIn W) => X.opn A cap len b W S hl (by omega) K
 have q6 := fun W (S : Sl W A cap b) => StoL.open_ret G S hl (by omega)
 have q7 := fun A cap l W (S : SlK W A cap l) => X.last A cap l node W S
 have q8 := fun A cap l W (S : SlK W A cap l) => StoR.last_ret A cap l node W S
 have hOB := putO_B (b := b) (c := v.c) (room := room) S.bytes
 obtain ⟨O, hO⟩ : ∃ O, putO b v.c room = O := ⟨_, rfl⟩
 obtain ⟨lo, hlo⟩ : ∃ lo, loadD hashK b = lo := ⟨_, rfl⟩
 obtain ⟨M, hM⟩ : ∃ M, openD hashK b = M := ⟨_, rfl⟩
 rw [hO] at hOB
 simp only [hO] at q1 q2
 simp only [hlo] at q3 q4
 simp only [hM] at q5 q6
 obtain ⟨O, eo⟩ := O
 obtain ⟨lc, n⟩ := lo
 have tO : ((strOf O).toList == (strOf O).toList) = true := by simp
 have tM : ((strOf M).toList == (strOf M).toList) = true := by simp
 have te : (eo == eo) = true := by simp
 have tn : ((n : Int) == (n : Int)) = true := by simp
 obtain ⟨lO, hlO⟩ : ∃ k, O.length = k := ⟨_, rfl⟩
 obtain ⟨lM, hlM⟩ : ∃ k, M.length = k := ⟨_, rfl⟩
 simp only [] at hOB
 clear hO hlo hM hokv hf F X G hl
 go_enter Tryz.func3, Tryz.ntmps3
 go_wp2_with (first | go_skip)
 refine qa.mono ?_
 rintro e w1 ⟨rfl, k1⟩
 have B1 := B0.below k1
 have b1 := kb.trans (k1.mono hks)
 clear qa B0 kb k1 hks
 go_wp2_with (first | go_skip | (refine Cel.wpList_load_box CE rfl _ rfl _ rfl _ B1 ?_))
 refine (qf _).mono ?_
 rintro e w2 ⟨rfl, k2⟩
 have B2 := B1.below k2
 have b2 := b1.trans (k2.mono b1.size)
 clear qf B1 b1 k2
 go_wp2_with (first | go_skip | (refine Cel.wpList_load_box CE rfl _ rfl _ rfl _ B2 ?_))
 refine (q1 _ (S.below b2) (I.below b2) (hK.below b2)).mono ?_
 rintro e w3 ⟨v3, rfl, own3, k3⟩
 simp only [] at own3
 obtain ⟨A3, c3, rfl, S3⟩ := Sl.own own3 hOB
 have B3 := B2.below k3
 have b3 := b2.trans (k3.mono b2.size)
 simp only [hlO]
 clear q1 own3 k3 b2 B2
 go_wp2_with (first | go_skip | (refine Cel.wpList_load_box CE rfl _ rfl _ rfl _ B3 ?_))
 refine (q2 _ (S.below b3) (I.below b3)).mono ?_
 rintro e w4 ⟨A4, c4, rfl, S4, k4⟩
 simp only [hlO] at S4 ⊢
 have b4 := b3.trans (k4.mono b3.size)
 have S3' := S3.below k4
 clear q2 k4 b3 B3 S3
 go_wp2_with (first | go_skip)
 refine (q3 _ (S.below b4) (hK.below b4)).mono ?_
 rintro e w5 ⟨A5, c5, ps, rfl, hps, S5, k5⟩
 have b5 := b4.trans (k5.mono b4.size)
 have S3 := S3'.below k5
 have S4' := S4.below k5
 clear q3 k5 b4 S3' S4
 go_wp2_with (first | go_skip)
 refine (q4 _ (S.below b5)).mono ?_
 rintro e w6 ⟨A6, c6, qs, rfl, hqs, S6, k6⟩
 have b6 := b5.trans (k6.mono b5.size)
 have S3' := S3.below k6
 have S4 := S4'.below k6
 have S5' := S5.below k6
 have qe := list_ret A5 A6 c5 c6 ps qs _ S5' S6
 rw [hps, hqs, listB_iff.2 rfl] at qe
 clear q4 k6 b5 S3 S4' S5 S6 hqs
 go_wp2_with (first | go_skip)
 refine qe.mono ?_
 rintro e w8 ⟨rfl, k8⟩
 have b8 := b6.trans (k8.mono b6.size)
 have S3 := S3'.below k8
 have S4' := S4.below k8
 have S5 := S5'.below k8
 clear qe k8 b6 S3' S4 S5'
 go_wp2_with (first | go_skip)
 refine Grow.region [(0, true), (1, true), (2, true), (3, true), (4, true), (5, true), (6, true), (7, true), (8, true), (9, true), (10, true), (11, true), (12, true), (13, true), (14, true), (15, true), (16, true), (17, true), (18, true), (19, true), (22, true), (20, false), (21, true), (23, false), (24, true), (25, true), (26, true), (27, true), (28, true), (29, true), (31, true), (32, true), (30, false), (33, false), (34, true), (35, true), (36, true)] (by kernel_rfl) (by kernel_rfl) rfl (by kernel_rfl) (by intro c a d v w h; cases d <;> exact h) ?_
 change Grow.Seq _ _ _ _ _ w8.drew
 have dr := Byt.below_drew1 (Below.refl w8.heap.size w8)
 have T3 := S3.below dr
 have T4 := S4'.below dr
 have T5 := S5.below dr
 have b9 := b8.trans (dr.mono b8.size)
 generalize w8.drew = w9 at T3 T4 T5 b9 ⊢
 clear S3 S4' S5 b8 dr
 have cv3 := fun d os => (T3.below (below_regrown _ d os)).conv hlO
 have cv4 := fun d os => (T4.below (below_regrown _ d os)).conv hlO
 clear T3 T4
 repeat (refine Grow.reads rfl rfl ?_; go_big_quiet_step (fail); refine wpQuiet_nil ?_)
 clear cv3 cv4
 refine Grow.acts rfl ?_
 go_wp2_with (first | go_skip)
 refine (q5 _ (S.below b9) (hK.below b9)).mono ?_
 rintro e wa ⟨Aa, ca, rfl, Sa, ka, _⟩
 simp only [hlM]
 go_wp2_with (first | go_skip)
 refine ⟨ka, ?_⟩
 have ba := b9.trans (ka.mono b9.size)
 have T6 := T5.below ka
 have cva := fun d os => (Sa.below (below_regrown _ d os)).conv hlM
 clear q5 ka b9 T5
 repeat (refine Grow.reads rfl rfl ?_; go_big_quiet_step (fail); refine wpQuiet_nil ?_)
 clear cva
 refine Grow.acts rfl ?_
 go_wp2_with (first | go_skip)
 refine (q6 _ (S.below ba)).mono ?_
 rintro e wb ⟨Ab, cb, rfl, Sb, kb, _⟩
 simp only [hlM]
 go_wp2_with (first | go_skip)
 refine ⟨kb, ?_⟩
 have bb := ba.trans (kb.mono ba.size)
 have T7 := T6.below kb
 have cvb := fun d os => (Sb.below (below_regrown _ d os)).conv hlM
 clear q6 kb ba T6
 repeat (refine Grow.reads rfl rfl ?_; go_big_quiet_step (fail); refine wpQuiet_nil ?_)
 clear cvb
 have r7 := q7 _ _ _ _ T7
 rw [hps] at r7
 refine Grow.acts rfl ?_
 go_wp2_with (first | go_skip)
 refine r7.mono ?_
 rintro e wc ⟨rfl, kc⟩
 go_wp2_with (first | go_skip)
 refine ⟨kc, ?_⟩
 have bc := bb.trans (kc.mono bb.size)
 have T8 := T7.below kc
 have r8 := q8 _ _ _ _ T8
 rw [hps] at r8
 clear r7 q7 q8 kc bb T7
 refine Grow.acts rfl ?_
 go_wp2_with (first | go_skip)
 refine r8.mono ?_
 rintro e wd ⟨rfl, kd⟩
 go_wp2_with (first | go_skip)
 refine ⟨kd, ?_⟩
 have bd := bc.trans (kd.mono bc.size)
 have tl : (lastL lc node == lastL lc node) = true := by simp
 clear r8 kd bc T8
 repeat (refine Grow.reads rfl rfl ?_; go_big_quiet_step (fail); refine wpQuiet_nil ?_)
 refine Grow.ends ?_
 go_wp2_with (first | go_skip)
 go_ret
 exact ⟨rfl, bd⟩
theorem walk (X : Four) (G : GetDoc) (a0 : Option Addr) (len0 cap0 : Nat) (z0 : List Int) (a1 : Int) (a2 : Cv) (a3 : Int) (w : World) (w0 : RowIn.RowIn .u8 w a0 len0 cap0 z0) (w2 : In w a2) (g2 : Fit a2.c) (hK : ShaE.KIn w) :
   Calls Tryz.prog 3 #[.slice a0 len0 cap0, .int .i64 a1, .agg (cc a2), .int .i64 a3] w fun e w' => e = .returned (.bool true) ∧ RowKit.Below w.heap.size w w' := by
 cases hf : fewK a2.c with
 | false => exact not_few X a0 len0 cap0 a1 a3 a2 w hf hK
 | true =>
   by_cases h : 1500 < len0
   · exact not_short X a0 len0 cap0 a1 a3 a2 w hf h hK
   · obtain ⟨S, hl⟩ := Sl.of_row w0
     exact within X G a0 len0 cap0 _ a1 a3 a2 w S hl w2 g2 hf (by omega) hK
end Go.Proofs.YtgoapaanmcmlmaaGreatDoor.SoT
namespace Go.Proofs.YtgoapaanmcmlmaaGreatDoor.StoG
set_option maxRecDepth 100000
open Go Go.Sort Go.RowKit Byt IdM IdW OpsM OpsW CmM StW CmW CmX CmY DgM DgW DgF DgS
open Classical
structure Dag1 : Prop where
 closed : ∀ (A : Option Addr) (cap : Nat) (l : List Cv) (w : World), SlK w A cap l → l.length ≤ 1000 → ShaE.KIn w → Calls Tryz.prog 20 #[.slice A l.length cap] w fun e w' => e = .returned (.bool (decide (Closed hashK (coms l)))) ∧ Below w.heap.size w w'
structure Dag2 : Prop where
 closed : ∀ (A : Option Addr) (cap : Nat) (l : List Cv) (w : World), SlK w A cap l → l.length ≤ 1000 → ShaE.KIn w → Calls Tryz.prog 20 #[.slice A l.length cap] w fun e w' => e = .returned (.bool (decide (Closed hashK (coms l)))) ∧ Below w.heap.size w w'
 sorted : ∀ (A : Option Addr) (cap : Nat) (l : List Cv) (w : World), SlK w A cap l → l.length ≤ 1000 → ShaE.KIn w → Calls Tryz.prog 21 #[.slice A l.length cap] w fun e w' => ∃ m, IsSorted (coms l) m ∧ NewC m w e w'
end Go.Proofs.YtgoapaanmcmlmaaGreatDoor.StoG
