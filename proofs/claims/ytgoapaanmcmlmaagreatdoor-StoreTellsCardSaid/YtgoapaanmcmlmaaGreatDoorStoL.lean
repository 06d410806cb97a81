/- What the document's Load and Open of package store return: contracts. No condition but sizes. -/
import Derived.Test.YtgoapaanmcmlmaaGreatDoorStGJ6
import Derived.Test.YtgoapaanmcmlmaaGreatDoorLogSJ4
import Derived.Test.YtgoapaanmcmlmaaGreatDoorDgC
import Derived.Test.YtgoapaanmcmlmaaGreatDoorIdXJ10
import Derived.Test.YtgoapaanmcmlmaaGreatDoorGrowT
namespace Go.Proofs.YtgoapaanmcmlmaaGreatDoor.StoL
set_option maxRecDepth 100000
open Go Go.Sort Go.RowKit Byt IdM IdW OpsM OpsW CmM StW CmW CmX CmY DgM DgW DgF StoM StoW LogM LogD LogE LogB
open Classical
def tree : Forks.Tree := .free 0 (.free 2 (.two 1 (.act 3 (.act 4 (.act 5 .ends))) 3 (.act 1 (.act 4 (.act 5 .ends)))))
def intOf : Value → Int | .int _ q => q | _ => 0
def GetDoc : Prop := ∀ (A : Option Addr) (cap : Nat) (bs : List Int) (w : World), Sl w A cap bs → bs.length ≤ 1099511627776 → Calls Tryz.prog 32 #[.slice A bs.length cap] w (GetAll (getK bs) w)
theorem gotN_none : gotN none = 2 := rfl
theorem gotN_some (p : Com × List Int) : gotN (some p) = 0 := rfl
theorem gotR_none : gotR none = [] := rfl
theorem gotR_some (c : Com) (r : List Int) : gotR (some (c, r)) = r := rfl
theorem slb_at {w : World} {b off cap : Nat} {l : List Pb} (h : SlB w (some ⟨b, off, none⟩) cap l) {i : Nat} {x : Pb} (hi : l[i]? = some x) : w.cell? ⟨b, off + i, none⟩ = some (hd x) := by
 obtain ⟨b', off', e, _, hc⟩ := h.plain (by have := (List.getElem?_eq_some_iff.1 hi).1; omega)
 cases e
 exact hc i x hi
theorem okay_got {x : List Int} (hb : ∀ y ∈ x, 0 ≤ y ∧ y ≤ 255) : CmR.Okay (gotC (getK x)) := by
 cases hg : getK x with
 | none => exact okay_no
 | some p =>
   obtain ⟨c, r⟩ := p
   exact okay_may (put_getK hb hg).1
set_option maxRecDepth 100000 in
set_option maxHeartbeats 32000000 in
theorem load_ret (G : GetDoc) {w : World} {A : Option Addr} {cap len : Nat} {b : List Int} (D : Sl w A cap b) (hl : b.length = len) (hm : len ≤ 4000) :
   Calls Tryz.prog 13 #[.slice A len cap] w (LoadOut (loadD hashK b) w) := by
 have q := LogT.read_ret D hl (by omega)
 have hfive := readL_five D.bytes
 have hB := readL_B D.bytes
 obtain ⟨rs, hrs⟩ : ∃ rs, (readL b).1 = rs := ⟨_, rfl⟩
 have HD : Hid (loadD hashK b = loadR hashK rs []) := aside (by unfold loadD; rw [hrs])
 rw [hrs] at q hfive hB
 obtain ⟨lo, hlo⟩ : ∃ r, loadD hashK b = r := ⟨_, rfl⟩
 rw [hlo] at HD ⊢
 have HB := aside hB
 have hfew : rs.length ≤ 800 := by omega
 clear D hl hm hrs hfive hB hlo
 go_enter Tryz.func13, Tryz.ntmps13
 go_wp2_with (first | go_skip)
 refine q.mono ?_
 rintro e w1 ⟨A1, cp1, ps, rfl, hps, SR0, k1⟩
 clear q
 have hlen : ps.length = rs.length := by rw [← tx_len, hps]
 have hps8 : ps.length ≤ 800 := by omega
 have HPS := aside hps
 have HLEN := aside hlen
 clear hps hlen
 go_wp2_with (first | go_skip)
 go_loopw [6, 7, 8] (fun v6 u i wr => ∃ (k used : Nat) (outs : List Cv) (A6 : Option Addr) (c6 : Nat), k ≤ ps.length ∧ outs.length = k ∧ v6 = .slice A6 outs.length c6 ∧ u = .int .i64 used ∧ i = .int .i64 k ∧ SlK wr A6 c6 outs ∧ Hid (lo = (coms outs ++ (loadR hashK (rs.drop k) (coms outs)).1, used + (loadR hashK (rs.drop k) (coms outs)).2)) ∧ Hid (used ≤ 5000 * k) ∧ Hid (∀ y ∈ outs, mayK y.c = true) ∧ Below w1.heap.size w1 wr) (fun _ _ i _ => ps.length - (intOf i).toNat)
 case atStart => exact ⟨0, 0, [], none, 0, Nat.zero_le _, rfl, rfl, rfl, rfl, SlK.nil _, aside (by rw [HD.out]; simp [coms]), aside (by omega), aside (by simp), Below.refl _ _⟩
 case round =>
   rename World => wr
   obtain ⟨k, used, outs, A6, c6, hk, hok, rfl, rfl, rfl, S, HR, HU, HM, b⟩ := hrel
   have HK := aside hok
   have hsm : outs.length ≤ 1000 := by have := HLEN.out; omega
   clear HD hok
   by_cases hlt : k < ps.length
   · obtain ⟨p, hp⟩ : ∃ p, ps[k]? = some p := ⟨_, List.getElem?_eq_getElem hlt⟩
     have SR := SR0.below b
     obtain ⟨bb, off, rfl, _, hcs⟩ := SR.plain (by omega)
     have cx := hcs k p hp
     unfold hd at cx
     have TR := SR.each p (List.mem_of_getElem? hp)
     have htx := tx_at hp
     obtain ⟨x, hx⟩ : ∃ x, p.bs = x := ⟨_, rfl⟩
     rw [hx] at cx TR htx
     have HPS2 := HPS.out
     rw [HPS2] at htx
     obtain ⟨hx4, hxB⟩ := HB.out x (List.mem_of_getElem? htx)
     have p0 : (k : Int) < (ps.length : Int) := by omega
     have m0 : ((k : Int)).toNat = k := by omega
     have hdr : rs.drop k = x :: rs.drop (k + 1) := DgW.drop_at htx
     have q := G p.a p.k x _ TR (by omega)
     have hokv := okay_got hxB
     have HDR := aside hdr
     have HX4 := aside hx4
     have HXX := aside hx
     clear hcs htx HPS2 hx hdr
     go_wp2_with (first | go_skip)
     refine q.mono ?_
     clear q
     rintro e w2 ⟨v, A2, c2, rfl, hv, IV, T, k2⟩
     replace S := S.below k2; replace SR := SR.below k2; replace TR := TR.below k2; replace b := b.trans (k2.mono b.size); clear k2
     have FV : Hid (Fit v.c) := aside (by rw [hv]; exact hokv.fit)
     have HOK : Hid (∀ y ∈ outs ++ [v], CmR.Okay y.c) := aside (fun y hy => by
       rcases List.mem_append.1 hy with hy | hy
       · exact okay_may (HM.out y hy)
       · rw [List.mem_singleton.1 hy, hv]; exact hokv)
     have HSH : Hid (outs.length + [v].length ≤ 1000) := aside (by have := HLEN.out; have := HK.out; simp only [List.length_cons, List.length_nil]; omega)
     have HV := aside hv
     have HCO : Hid (coms (outs ++ [v]) = coms outs ++ [gotC (getK x)]) := aside (by unfold coms; rw [List.map_append, List.map_cons, List.map_nil, HV.out])
     clear hv hokv
     go_wp2_with (first | go_skip | (refine Cel.wpList_store_new CE rfl _ _ rfl _ _ _ rfl v _ rfl rfl rfl rfl ?_; intro wy CB ky g4 s4; clear g4 s4))
     replace S := S.below ky; replace SR := SR.below ky; replace TR := TR.below ky; replace IV := IV.below ky; replace T := T.below ky; replace b := b.trans (ky.mono b.size); clear ky
     refine GrowT.region 4 tree (by kernel_rfl) (by kernel_rfl) rfl (by kernel_rfl) (by intro c a d v w h; cases d <;> exact h) ?_
     have kx := Byt.below_drew1 (Below.refl wy.heap.size wy)
     replace S := S.below kx; replace SR := SR.below kx; replace TR := TR.below kx; replace IV := IV.below kx; replace T := T.below kx; replace CB := CB.below kx; replace b := b.trans (kx.mono b.size); clear kx
     generalize wy.drew = wz at S SR TR IV T CB b ⊢
     (try simp only [Act.put, List.setIfInBounds_toArray, List.set_cons_succ, List.set_cons_zero])
     repeat (first | (refine GrowT.reads rfl rfl ?_; go_big_quiet_want; refine Cel.quiet_row CE _ rfl _ _ rfl v CB.range ?_; go_big_quiet_on; refine wpQuiet_nil ?_; (try simp only [Act.put, List.setIfInBounds_toArray, List.set_cons_succ, List.set_cons_zero])) | (refine GrowT.reads rfl rfl ?_; go_big_quiet_step (fail); refine wpQuiet_nil ?_))
     clear CB
     refine GrowT.forks rfl rfl ?_ ?_
     · skip
       go_wp2_with (first | go_skip | (refine RowS.wpList_append KE rfl _ _ rfl wz.heap.size _ 0 [] rfl ⟨rfl, .inl ⟨rfl, rfl⟩⟩ A6 _ c6 outs rfl rfl S.row (by omega) (Nat.le_refl _) ?_; intro vx wx ox gx))
       have kx : RowKit.Below wz.heap.size wz wx := below_grown (Below.refl _ _) (Nat.le_refl _) gx (fun q hq => by cases hq)
       clear gx
       refine ⟨kx, ?_⟩
       (try simp only [Act.put, List.setIfInBounds_toArray, List.set_cons_succ, List.set_cons_zero])
       refine GrowT.acts rfl ?_
       go_wp2_with (first | go_skip | (refine RowC.wpList_lit1 KE (of_decide_eq_true rfl) rfl _ rfl v rfl ?_; intro wy Sy ky))
       refine ⟨ky, ?_⟩
       (try simp only [Act.put, List.setIfInBounds_toArray, List.set_cons_succ, List.set_cons_zero])
       have oy := owns_below ox ky
       have kz := kx.trans (ky.mono kx.size)
       clear ox kx ky
       refine GrowT.mid rfl ?_
       go_wp2_with (first | go_skip | (refine RowS.wpList_append KE rfl _ _ rfl wz.heap.size _ _ _ rfl oy _ _ 1 [v] rfl rfl Sy (by omega) kz.size ?_; intro vq wq oq gq))
       have kq : RowKit.Below wz.heap.size wz wq := below_grown kz kz.size gq (fun q hq => (oy.lt q hq).1)
       clear gq oy Sy kz
       refine GrowT.on_mid ?_
       (try simp only [Act.put, List.setIfInBounds_toArray, List.set_cons_succ, List.set_cons_zero])
       replace S := S.below kq; replace SR := SR.below kq; replace TR := TR.below kq; replace IV := IV.below kq; replace T := T.below kq; replace b := b.trans (kq.mono b.size); clear kq
       rw [List.nil_append] at oq
       obtain ⟨AC, cC, rfl, SC⟩ := own_in (l := outs ++ [v]) oq (fun x hx => (List.mem_append.1 hx).elim (S.each x) fun hx => by rw [List.mem_singleton.1 hx]; exact ⟨IV, FV.out⟩)
       clear oq IV T
       refine GrowT.acts rfl ?_
       go_wp2_with (first | go_skip)
       refine ⟨Below.refl _ _, ?_⟩
       (try simp only [Act.put, List.setIfInBounds_toArray, List.set_cons_succ, List.set_cons_zero])
       refine GrowT.ends ?_
       have hcl := DgC.closed_ret AC cC (outs ++ [v]) _ SC HOK.out (by rw [List.length_append]; exact HSH.out)
       rw [HCO.out] at hcl
       obtain ⟨bz, hbz⟩ : ∃ z, decide (Closed hashK (coms outs ++ [gotC (getK x)])) = z := ⟨_, rfl⟩
       rw [hbz] at hcl
       have HBZ := aside hbz
       clear hbz
       rw [List.length_append] at hcl ⊢
       go_wp2_with (first | go_skip)
       refine hcl.mono ?_
       clear hcl
       rintro e wx ⟨rfl, kx⟩
       replace S := S.below kx; replace SC := SC.below kx; replace SR := SR.below kx; replace TR := TR.below kx; replace b := b.trans (kx.mono b.size); clear kx
       have HXB := aside hxB
       cases hg : getK x with
       | none =>
         simp only [gotN_none, gotR_none, List.length_nil]
         have HE : Hid (lo = (coms outs, used)) := aside (by rw [HR.out, HDR.out, loadR_none (by unfold nextK; rw [hg])]; simp)
         clear HR SC SR TR
         go_wp2_with (first | go_skip)
         exact bodyPost_ret (v := .tuple #[.slice A6 outs.length c6, .int .i64 used]) (by simp [results, Tryz.results13, go_sem]) rfl (by rw [HE.out]; exact ⟨A6, c6, outs, rfl, rfl, S, k1.trans (b.mono k1.size)⟩)
       | some pr =>
         obtain ⟨c, r⟩ := pr
         simp only [gotN_some, gotR_some]
         cases r with
         | cons a r =>
           have pr : (0 : Int) < ((a :: r).length : Int) := by simp
           obtain ⟨lr, hlr⟩ : ∃ lr, (a :: r).length = lr := ⟨_, rfl⟩
           simp only [hlr] at pr ⊢
           have HE : Hid (lo = (coms outs, used)) := aside (by rw [HR.out, HDR.out, loadR_none (by unfold nextK; rw [hg])]; simp)
           clear HR SC SR TR
           go_wp2_with (first | go_skip)
           exact bodyPost_ret (v := .tuple #[.slice A6 outs.length c6, .int .i64 used]) (by simp [results, Tryz.results13, go_sem]) rfl (by rw [HE.out]; exact ⟨A6, c6, outs, rfl, rfl, S, k1.trans (b.mono k1.size)⟩)
         | nil =>
           by_cases hc : Closed hashK (coms outs ++ [c])
           · obtain rfl : bz = true := by rw [← HBZ.out, hg]; exact decide_eq_true hc
             simp only [List.length_nil]
             have hnx : nextK hashK (coms outs) x = some c := by unfold nextK; rw [hg]; exact if_pos hc
             have hcv : coms (outs ++ [v]) = coms outs ++ [c] := by rw [HCO.out, hg]; rfl
             have hmv : mayK v.c = true := by rw [HV.out, hg]; exact (put_getK HXB.out hg).1
             have cx := slb_at SR hp
             unfold hd at cx
             rw [HXX.out] at cx
             have qf := LogS.frame_yes TR rfl HX4.out
             have hn := frameL_len x
             have hten := EncM.numL_ten (n := x.length) (by have := HX4.out; omega)
             obtain ⟨n, hnn⟩ : ∃ n, (frameL x).length = n := ⟨_, rfl⟩
             have HNX : Hid (lo = (coms (outs ++ [v]) ++ (loadR hashK (rs.drop (k + 1)) (coms (outs ++ [v]))).1, (used + n) + (loadR hashK (rs.drop (k + 1)) (coms (outs ++ [v]))).2)) := aside (by rw [HR.out, HDR.out, loadR_some hnx, hcv, hnn]; simp [Nat.add_assoc])
             have HU2 : Hid (used + n ≤ 5000 * (k + 1)) := aside (by have := HU.out; have := HX4.out; omega)
             have HM2 : Hid (∀ y ∈ outs ++ [v], mayK y.c = true) := aside (fun y hy => (List.mem_append.1 hy).elim (HM.out y) fun hy => by rw [List.mem_singleton.1 hy]; exact hmv)
             have m1 : IntKind.i64.wrap ((used : Int) + (n : Int)) = (used : Int) + (n : Int) := IntWalk.i64_in _ (by have := HU2.out; have := HLEN.out; omega)
             have en : ((used + n : Nat) : Int) = (used : Int) + (n : Int) := by omega
             have HN := aside hnn
             have HKL : Hid (outs.length + 1 = k + 1) := aside (by rw [HK.out])
             clear hnx hcv hmv hn hten HR HU HM hnn hc
             go_wp2_with (first | go_skip)
             refine qf.mono ?_
             rintro e wf ⟨Af, cf, rfl, _, kf⟩
             have SC' := SC.below kf
             have bf := b.trans (kf.mono b.size)
             clear qf SC SR TR cx kf b S
             simp only [HN.out]
             go_wp2_with (first | go_skip)
             go_roundw
             case rel => exact ⟨k + 1, used + n, outs ++ [v], AC, cC, by omega, by rw [List.length_append]; exact HKL.out, by rw [List.length_append], by rw [en], by go_num, SC', HNX, HU2, HM2, bf⟩
             case measure => simp [intOf]; omega
           · obtain rfl : bz = false := by rw [← HBZ.out, hg]; exact decide_eq_false hc
             simp only [List.length_nil]
             have HE : Hid (lo = (coms outs, used)) := aside (by rw [HR.out, HDR.out, loadR_none (by unfold nextK; rw [hg]; exact if_neg hc)]; simp)
             clear HR SC SR TR
             go_wp2_with (first | go_skip)
             exact bodyPost_ret (v := .tuple #[.slice A6 outs.length c6, .int .i64 used]) (by simp [results, Tryz.results13, go_sem]) rfl (by rw [HE.out]; exact ⟨A6, c6, outs, rfl, rfl, S, k1.trans (b.mono k1.size)⟩)
     · skip
       go_wp2_with (first | go_skip | (refine RowC.wpList_lit1 KE (of_decide_eq_true rfl) rfl _ rfl v rfl ?_; intro wy Sy ky))
       refine ⟨ky, ?_⟩
       (try simp only [Act.put, List.setIfInBounds_toArray, List.set_cons_succ, List.set_cons_zero])
       have Sv := S.below ky
       refine GrowT.acts rfl ?_
       go_wp2_with (first | go_skip | (refine RowS.wpList_append KE rfl _ _ rfl wy.heap.size _ 0 [] rfl ⟨rfl, .inl ⟨rfl, rfl⟩⟩ A6 _ c6 outs rfl rfl Sv.row (by omega) (Nat.le_refl _) ?_; intro vx wx ox gx))
       have kx : RowKit.Below wy.heap.size wy wx := below_grown (Below.refl _ _) (Nat.le_refl _) gx (fun q hq => by cases hq)
       clear gx
       refine ⟨kx, ?_⟩
       (try simp only [Act.put, List.setIfInBounds_toArray, List.set_cons_succ, List.set_cons_zero])
       have Sz := Sy.below kx
       have kz := ky.trans (kx.mono ky.size)
       have ox' := owns_less ox ky.size
       clear ox Sy ky kx Sv
       refine GrowT.mid rfl ?_
       go_wp2_with (first | go_skip | (refine RowS.wpList_append KE rfl _ _ rfl wz.heap.size _ _ _ rfl ox' _ _ 1 [v] rfl rfl Sz (by omega) kz.size ?_; intro vq wq oq gq))
       have kq : RowKit.Below wz.heap.size wz wq := below_grown kz kz.size gq (fun q hq => (ox'.lt q hq).1)
       clear gq ox' Sz kz
       refine GrowT.on_mid ?_
       (try simp only [Act.put, List.setIfInBounds_toArray, List.set_cons_succ, List.set_cons_zero])
       replace S := S.below kq; replace SR := SR.below kq; replace TR := TR.below kq; replace IV := IV.below kq; replace T := T.below kq; replace b := b.trans (kq.mono b.size); clear kq
       rw [List.nil_append] at oq
       obtain ⟨AC, cC, rfl, SC⟩ := own_in (l := outs ++ [v]) oq (fun x hx => (List.mem_append.1 hx).elim (S.each x) fun hx => by rw [List.mem_singleton.1 hx]; exact ⟨IV, FV.out⟩)
       clear oq IV T
       refine GrowT.acts rfl ?_
       go_wp2_with (first | go_skip)
       refine ⟨Below.refl _ _, ?_⟩
       (try simp only [Act.put, List.setIfInBounds_toArray, List.set_cons_succ, List.set_cons_zero])
       refine GrowT.ends ?_
       have hcl := DgC.closed_ret AC cC (outs ++ [v]) _ SC HOK.out (by rw [List.length_append]; exact HSH.out)
       rw [HCO.out] at hcl
       obtain ⟨bz, hbz⟩ : ∃ z, decide (Closed hashK (coms outs ++ [gotC (getK x)])) = z := ⟨_, rfl⟩
       rw [hbz] at hcl
       have HBZ := aside hbz
       clear hbz
       rw [List.length_append] at hcl ⊢
       go_wp2_with (first | go_skip)
       refine hcl.mono ?_
       clear hcl
       rintro e wx ⟨rfl, kx⟩
       replace S := S.below kx; replace SC := SC.below kx; replace SR := SR.below kx; replace TR := TR.below kx; replace b := b.trans (kx.mono b.size); clear kx
       have HXB := aside hxB
       cases hg : getK x with
       | none =>
         simp only [gotN_none, gotR_none, List.length_nil]
         have HE : Hid (lo = (coms outs, used)) := aside (by rw [HR.out, HDR.out, loadR_none (by unfold nextK; rw [hg])]; simp)
         clear HR SC SR TR
         go_wp2_with (first | go_skip)
         exact bodyPost_ret (v := .tuple #[.slice A6 outs.length c6, .int .i64 used]) (by simp [results, Tryz.results13, go_sem]) rfl (by rw [HE.out]; exact ⟨A6, c6, outs, rfl, rfl, S, k1.trans (b.mono k1.size)⟩)
       | some pr =>
         obtain ⟨c, r⟩ := pr
         simp only [gotN_some, gotR_some]
         cases r with
         | cons a r =>
           have pr : (0 : Int) < ((a :: r).length : Int) := by simp
           obtain ⟨lr, hlr⟩ : ∃ lr, (a :: r).length = lr := ⟨_, rfl⟩
           simp only [hlr] at pr ⊢
           have HE : Hid (lo = (coms outs, used)) := aside (by rw [HR.out, HDR.out, loadR_none (by unfold nextK; rw [hg])]; simp)
           clear HR SC SR TR
           go_wp2_with (first | go_skip)
           exact bodyPost_ret (v := .tuple #[.slice A6 outs.length c6, .int .i64 used]) (by simp [results, Tryz.results13, go_sem]) rfl (by rw [HE.out]; exact ⟨A6, c6, outs, rfl, rfl, S, k1.trans (b.mono k1.size)⟩)
         | nil =>
           by_cases hc : Closed hashK (coms outs ++ [c])
           · obtain rfl : bz = true := by rw [← HBZ.out, hg]; exact decide_eq_true hc
             simp only [List.length_nil]
             have hnx : nextK hashK (coms outs) x = some c := by unfold nextK; rw [hg]; exact if_pos hc
             have hcv : coms (outs ++ [v]) = coms outs ++ [c] := by rw [HCO.out, hg]; rfl
             have hmv : mayK v.c = true := by rw [HV.out, hg]; exact (put_getK HXB.out hg).1
             have cx := slb_at SR hp
             unfold hd at cx
             rw [HXX.out] at cx
             have qf := LogS.frame_yes TR rfl HX4.out
             have hn := frameL_len x
             have hten := EncM.numL_ten (n := x.length) (by have := HX4.out; omega)
             obtain ⟨n, hnn⟩ : ∃ n, (frameL x).length = n := ⟨_, rfl⟩
             have HNX : Hid (lo = (coms (outs ++ [v]) ++ (loadR hashK (rs.drop (k + 1)) (coms (outs ++ [v]))).1, (used + n) + (loadR hashK (rs.drop (k + 1)) (coms (outs ++ [v]))).2)) := aside (by rw [HR.out, HDR.out, loadR_some hnx, hcv, hnn]; simp [Nat.add_assoc])
             have HU2 : Hid (used + n ≤ 5000 * (k + 1)) := aside (by have := HU.out; have := HX4.out; omega)
             have HM2 : Hid (∀ y ∈ outs ++ [v], mayK y.c = true) := aside (fun y hy => (List.mem_append.1 hy).elim (HM.out y) fun hy => by rw [List.mem_singleton.1 hy]; exact hmv)
             have m1 : IntKind.i64.wrap ((used : Int) + (n : Int)) = (used : Int) + (n : Int) := IntWalk.i64_in _ (by have := HU2.out; have := HLEN.out; omega)
             have en : ((used + n : Nat) : Int) = (used : Int) + (n : Int) := by omega
             have HN := aside hnn
             have HKL : Hid (outs.length + 1 = k + 1) := aside (by rw [HK.out])
             clear hnx hcv hmv hn hten HR HU HM hnn hc
             go_wp2_with (first | go_skip)
             refine qf.mono ?_
             rintro e wf ⟨Af, cf, rfl, _, kf⟩
             have SC' := SC.below kf
             have bf := b.trans (kf.mono b.size)
             clear qf SC SR TR cx kf b S
             simp only [HN.out]
             go_wp2_with (first | go_skip)
             go_roundw
             case rel => exact ⟨k + 1, used + n, outs ++ [v], AC, cC, by omega, by rw [List.length_append]; exact HKL.out, by rw [List.length_append], by rw [en], by go_num, SC', HNX, HU2, HM2, bf⟩
             case measure => simp [intOf]; omega
           · obtain rfl : bz = false := by rw [← HBZ.out, hg]; exact decide_eq_false hc
             simp only [List.length_nil]
             have HE : Hid (lo = (coms outs, used)) := aside (by rw [HR.out, HDR.out, loadR_none (by unfold nextK; rw [hg]; exact if_neg hc)]; simp)
             clear HR SC SR TR
             go_wp2_with (first | go_skip)
             exact bodyPost_ret (v := .tuple #[.slice A6 outs.length c6, .int .i64 used]) (by simp [results, Tryz.results13, go_sem]) rfl (by rw [HE.out]; exact ⟨A6, c6, outs, rfl, rfl, S, k1.trans (b.mono k1.size)⟩)
   · have e0 : rs.drop k = [] := List.drop_of_length_le (by have := HLEN.out; omega)
     have HE : Hid (lo = (coms outs, used)) := aside (by rw [HR.out, e0, loadR_nil]; simp)
     have p0 : ¬ (k : Int) < (ps.length : Int) := by omega
     clear HR e0
     go_wp2_with (first | go_skip)
     exact bodyPost_ret (v := .tuple #[.slice A6 outs.length c6, .int .i64 used]) (by simp [results, Tryz.results13, go_sem]) rfl (by rw [HE.out]; exact ⟨A6, c6, outs, rfl, rfl, S, k1.trans (b.mono k1.size)⟩)
theorem open_ret (G : GetDoc) {w : World} {A : Option Addr} {cap len : Nat} {b : List Int} (D : Sl w A cap b) (hl : b.length = len) (hm : len ≤ 4000) :
   Calls Tryz.prog 16 #[.slice A len cap] w (Gives (openD hashK b) w) := by
 have q := load_ret G D hl hm
 obtain ⟨_, _, _, _, _, hle, _⟩ := openD_is (H := hashK) D.bytes
 have hml : openD hashK b = b.take (loadD hashK b).2 := rfl
 obtain ⟨lo, hlo⟩ : ∃ lo, loadD hashK b = lo := ⟨_, rfl⟩
 rw [hlo] at q hml hle
 obtain ⟨lc, n⟩ := lo
 simp only [] at hml hle
 rw [hml]
 obtain ⟨A1, c1, hs1, S1, hl1⟩ := D.part 0 n (by omega) hle
 rw [List.drop_zero, Nat.sub_zero] at S1 hl1
 have hr1 := fun W => run_part_h W A len cap .i64 n (by have := D.1; omega)
 rw [hs1, Nat.sub_zero] at hr1
 have p2 : 0 ≤ (n : Int) := by omega
 have p3 : (n : Int) ≤ (cap : Int) := by have := D.1; omega
 have hn40 : n ≤ 4000 := by omega
 obtain ⟨t, ht⟩ : ∃ t, b.take n = t := ⟨_, rfl⟩
 rw [ht] at S1 hl1 ⊢
 have tB := S1.bytes
 clear hs1 hle hml hlo D hl hm ht
 go_enter Tryz.func16, Tryz.ntmps16
 go_wp2_with (first | go_skip)
 refine q.mono ?_
 rintro e w1 ⟨A2, c2, ps, rfl, _, _, k1⟩
 have T1 := S1.below k1
 have bs1 := k1.size
 have nil1 : w1.ownsRow w.heap.size 5 1 (.slice none 0 0) 0 (Byt.bv []) := World.ownsRow_nil _ _ _ _
 clear q S1
 go_wp2_with (first | go_skip | (refine wpList_append_sl rfl (.const (.slice none 0 0)) (.tmp 12) 22 rfl w.heap.size 5 Tryz.underlying22 zero_u8 _ 0 [] rfl nil1 A1 n c1 t rfl hl1 T1 (by omega) bs1 ?_; intro v2 w2 own2 g2; have k2 := below_grown k1 k1.size g2 (fun q hq => by cases hq)))
 go_ret
 refine New.gives ⟨_, rfl, ?_, k2⟩ tB
 rw [hl1]
 simpa using own2
end Go.Proofs.YtgoapaanmcmlmaaGreatDoor.StoL
