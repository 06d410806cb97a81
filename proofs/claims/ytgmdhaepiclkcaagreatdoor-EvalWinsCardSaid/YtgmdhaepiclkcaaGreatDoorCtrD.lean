/- What the functions of package ctr return: contracts. -/
import Derived.Test.YtgmdhaepiclkcaaGreatDoorStrTJ3
import Derived.Test.YtgmdhaepiclkcaaGreatDoorEaRJ28
namespace Go.Proofs.YtgmdhaepiclkcaaGreatDoor.CtrD
set_option maxRecDepth 100000
open Go Go.RowKit Byt OpsM OpsK Rise CtrM RowS RowB CtrW StrK CtrG CtrH
theorem ret_int {k : IntKind} {a b : Int} (h : a = b) : Ending.returned (.int k a) = .returned (.int k b) := by rw [h]
set_option maxHeartbeats 2000000 in
theorem get_ret (A : Option Addr) (cap : Nat) (l : List Cn) (k : ByteArray) (w : World) (S : SlR E w A cap l) (_hl : l.length ≤ 10000000) :
   Calls Tryz.prog 27 #[.slice A l.length cap, .string k] w fun e w' => e = .returned (.int .i64 (getC l k)) ∧ Below w.heap.size w w' := by
 have hcap := S.1
 have hmax : l.length ≤ 9223372036854775807 := by have := S.2.1; unfold maxLen at this; omega
 go_enter Tryz.func27, Tryz.ntmps27
 go_wp2
 go_loopw [9] (fun i wr => ∃ j : Nat, j ≤ l.length ∧ i = .int .i64 j ∧ Hid (getC l k = getC (l.drop j) k) ∧ Below w.heap.size w wr) (fun i _ => l.length - (intOf i).toNat)
 case atStart => exact ⟨0, Nat.zero_le _, rfl, aside rfl, Below.refl _ _⟩
 case round =>
   obtain ⟨j, hj, rfl, HG, kb⟩ := hrel
   by_cases hlt : j < l.length
   · obtain ⟨b, off, rfl, hbw, hr⟩ := CtrW.plain S (by omega)
     obtain ⟨x, hx⟩ : ∃ x, l[j]? = some x := ⟨_, List.getElem?_eq_getElem hlt⟩
     have hr1 := range_below (hr j x hx) kb
     have hd := getD_drop hx
     have p0 : (j : Int) < l.length := by omega
     have m0 : ((j : Int)).toNat = j := by omega
     have HG2 := HG.out
     rw [hd, getC_cons] at HG2
     clear hr S hx hd HG
     by_cases hk : x.key = k
     · have t0 := str_yes hk
       rw [if_pos hk] at HG2
       have HR := aside HG2
       clear HG2 hk
       go_wp2_with (first
         | (refine wpList_load_at E rfl _ rfl b _ rfl x hr1 ?_)
         | (refine wpList_store_new E rfl _ _ rfl _ _ _ rfl x _ rfl rfl rfl rfl ?_; intro w2 bx kx gx sx; have c0 := bx.cell (j := 0) rfl; have c1 := bx.cell (j := 1) rfl; have k2 := kb.trans (kx.mono kb.size); clear bx kx gx))
       go_ret
       exact ⟨ret_int HR.out.symm, k2⟩
     · have t0 := str_no hk
       rw [if_neg hk] at HG2
       have HR := aside HG2
       clear HG2 hk
       go_wp2_with (first
         | (refine wpList_load_at E rfl _ rfl b _ rfl x hr1 ?_)
         | (refine wpList_store_new E rfl _ _ rfl _ _ _ rfl x _ rfl rfl rfl rfl ?_; intro w2 bx kx gx sx; have c0 := bx.cell (j := 0) rfl; have c1 := bx.cell (j := 1) rfl; have k2 := kb.trans (kx.mono kb.size); clear bx kx gx))
       go_roundw
       case rel => exact ⟨j + 1, by omega, by go_num, HR, k2⟩
       case measure => simp [intOf]; omega
   · have e : j = l.length := by omega
     have HR : Hid (getC l k = 0) := aside (by rw [HG.out, e, List.drop_length]; rfl)
     clear S HG
     go_wp2
     go_ret
     exact ⟨ret_int HR.out.symm, kb⟩
set_option maxRecDepth 100000 in
set_option maxHeartbeats 8000000 in
theorem may_ret (A : Option Addr) (cap : Nat) (l : List Cn) (w : World) (S : SlR E w A cap l) (hf : Fits l) (hl : l.length ≤ 100000000) :
   Calls Tryz.prog 56 #[.slice A l.length cap] w fun e w' => e = .returned (.bool (mayC l)) ∧ Below w.heap.size w w' := by
 have hcap := S.1
 obtain ⟨r, hr0⟩ : ∃ r, mayC l = r := ⟨_, rfl⟩
 rw [hr0]
 have HR0 := aside hr0
 clear hr0
 go_enter Tryz.func56, Tryz.ntmps56
 go_wp2
 go_loopw [7] (fun i wr => ∃ j : Nat, j ≤ l.length ∧ i = .int .i64 j ∧ Hid (0 < j → mayC (l.take j) = true) ∧ Below w.heap.size w wr) (fun i _ => l.length - (intOf i).toNat)
 case atStart => exact ⟨0, Nat.zero_le _, rfl, aside (fun h => absurd h (by omega)), Below.refl _ _⟩
 case round =>
   obtain ⟨j, hj, rfl, HM, kb⟩ := hrel
   by_cases hlt : j < l.length
   · obtain ⟨b, off, rfl, hbw, hr⟩ := CtrW.plain S (by omega)
     have hx : l[j]? = some l[j] := List.getElem?_eq_getElem hlt
     have hxm : l[j] ∈ l := List.getElem_mem hlt
     have hk0 := OpsK.key l[j].key (by have := (hf _ hxm).1; unfold maxLen; omega)
     have hr1 := range_below (hr j _ hx) kb
     have p0 : (j : Int) < l.length := by omega
     have m0 : ((j : Int)).toNat = j := by omega
     have hno := fun q => HR0.out.symm.trans (mayC_no hlt q)
     have hok : okC l[j] = (keyL (bytesL l[j].key) && decide (l[j].n ≠ 0)) := rfl
     have hfall := fun (m : Nat) (e : m + 1 = j) (q : ltS (l[m]'(by omega)).key (l[m + 1]'(by omega)).key = false) => HR0.out.symm.trans (mayC_fall (l := l) (k := m) (by omega) q)
     have hnext := fun (m : Nat) (e : m + 1 = j) (q : mayC (l.take (m + 1)) = true) => mayC_next (l := l) (k := m) (by omega) q
     have hfirst := fun (q : 0 < l.length) => mayC_first (l := l) q
     obtain ⟨kx, hkx⟩ : ∃ b, keyL (bytesL l[j].key) = b := ⟨_, rfl⟩
     rw [hkx] at hk0 hok
     have HNo := aside hno
     have HOk := aside hok
     have HFa := aside hfall
     have HNx := aside hnext
     have HFi := aside hfirst
     have HCr := aside hr
     have HX := aside hx
     clear hno hok hfall hnext hfirst hkx hr hxm hf hx S
     cases kx with
     | false =>
       have HR : Hid (r = false) := aside (HNo.out (by rw [HOk.out]; rfl))
       go_wp2_with (first
         | (refine (hk0 _).mono ?_; rintro e w' ⟨rfl, rfl⟩)
         | (refine wpList_load_at E rfl _ rfl b _ rfl l[j] hr1 ?_)
         | (refine wpList_store_new E rfl _ _ rfl _ _ _ rfl l[j] _ rfl rfl rfl rfl ?_; intro w2 bx kx gx sx; have c0 := bx.cell (j := 0) rfl; have c1 := bx.cell (j := 1) rfl; have k2 := kb.trans (kx.mono kb.size); clear bx kx gx))
       go_ret
       exact ⟨ret_bool HR.out.symm, k2⟩
     | true =>
       by_cases hn : l[j].n = 0
       · have t0 : (l[j].n == 0) = true := by simpa using hn
         have HR : Hid (r = false) := aside (HNo.out (by rw [HOk.out, hn]; rfl))
         clear hn
         go_wp2_with (first
         | (refine (hk0 _).mono ?_; rintro e w' ⟨rfl, rfl⟩)
         | (refine wpList_load_at E rfl _ rfl b _ rfl l[j] hr1 ?_)
         | (refine wpList_store_new E rfl _ _ rfl _ _ _ rfl l[j] _ rfl rfl rfl rfl ?_; intro w2 bx kx gx sx; have c0 := bx.cell (j := 0) rfl; have c1 := bx.cell (j := 1) rfl; have k2 := kb.trans (kx.mono kb.size); clear bx kx gx))
         go_ret
         exact ⟨ret_bool HR.out.symm, k2⟩
       · have t0 : (l[j].n == 0) = false := by simpa using hn
         have HOk2 : Hid (okC l[j] = true) := aside (by rw [HOk.out]; simpa using hn)
         clear hn
         by_cases hj0 : j = 0
         · subst hj0
           simp only [Nat.zero_mul, Nat.add_zero] at hr1
           have HM2 : Hid (0 < 1 → mayC (l.take 1) = true) := aside (fun _ => by rw [HFi.out hlt]; exact HOk2.out)
           go_wp2_with (first
         | (refine (hk0 _).mono ?_; rintro e w' ⟨rfl, rfl⟩)
         | (refine wpList_load_at E rfl _ rfl b _ rfl (l[0]'hlt) hr1 ?_)
         | (refine wpList_store_new E rfl _ _ rfl _ _ _ rfl (l[0]'hlt) _ rfl rfl rfl rfl ?_; intro w2 bx kx gx sx; have c0 := bx.cell (j := 0) rfl; have c1 := bx.cell (j := 1) rfl; have k2 := kb.trans (kx.mono kb.size); clear bx kx gx))
           go_quiet (fail)
           go_wp2
           go_roundw
           case rel => exact ⟨1, by omega, by go_num, HM2, below_drew k2 _⟩
           case measure => simp [intOf]; omega
         · obtain ⟨m, hm⟩ : ∃ m, m + 1 = j := ⟨j - 1, by omega⟩
           have hml : m < l.length := by omega
           have hy : l[m]? = some (l[m]'hml) := List.getElem?_eq_getElem hml
           have q0 : decide (0 < (j : Int)) = true := by simp; omega
           have q00 : 0 < j := by omega
           have HMm : Hid (mayC (l.take (m + 1)) = true) := aside (by have := HM.out (by omega); rwa [← hm] at this)
           have q1 : (m : Int) < l.length := by omega
           have q3 : ((m : Int)).toNat = m := by omega
           have hwr : IntKind.i64.wrap ((j : Int) - 1) = (m : Int) := by rw [IntKind.wrap_i64]; omega
           have HMJ := aside hm
           have HY := aside hy
           clear HM hj0 hy hm
           cases hlt2 : ltS (l[m]'hml).key l[j].key with
           | true =>
             have h1 : Op.bytesLess (l[m]'hml).key.toList l[j].key.toList = true := hlt2
             have HM2 : Hid (0 < j + 1 → mayC (l.take (j + 1)) = true) := aside (fun _ => by
               have hm := HMJ.out
               subst hm
               rw [HNx.out m rfl HMm.out, HOk2.out, hlt2]; rfl)
             clear hlt2
             go_wp2_with (first
         | (refine (hk0 _).mono ?_; rintro e w' ⟨rfl, rfl⟩)
         | (refine wpList_load_at E rfl _ rfl b _ rfl l[j] hr1 ?_)
         | (refine wpList_store_new E rfl _ _ rfl _ _ _ rfl l[j] _ rfl rfl rfl rfl ?_; intro w2 bx kx gx sx; have c0 := bx.cell (j := 0) rfl; have c1 := bx.cell (j := 1) rfl; have k2 := kb.trans (kx.mono kb.size); have d1 := (cells (range_below (HCr.out m _ HY.out) k2)).1; clear bx kx gx))
             go_quiet (fail)
             go_wp2
             go_roundw
             case rel => exact ⟨j + 1, by omega, by go_num, HM2, below_drew k2 _⟩
             case measure => simp [intOf]; omega
           | false =>
             have HR : Hid (r = false) := aside (by have hm := HMJ.out; subst hm; exact HFa.out m rfl hlt2)
             have h1 : Op.bytesLess (l[m]'hml).key.toList l[j].key.toList = false := hlt2
             clear hlt2
             go_wp2_with (first
         | (refine (hk0 _).mono ?_; rintro e w' ⟨rfl, rfl⟩)
         | (refine wpList_load_at E rfl _ rfl b _ rfl l[j] hr1 ?_)
         | (refine wpList_store_new E rfl _ _ rfl _ _ _ rfl l[j] _ rfl rfl rfl rfl ?_; intro w2 bx kx gx sx; have c0 := bx.cell (j := 0) rfl; have c1 := bx.cell (j := 1) rfl; have k2 := kb.trans (kx.mono kb.size); have d1 := (cells (range_below (HCr.out m _ HY.out) k2)).1; clear bx kx gx))
             go_quiet (fail)
             go_wp2
             go_ret
             exact ⟨ret_bool HR.out.symm, below_drew k2 _⟩
   · have e : j = l.length := by omega
     have HR : Hid (r = true) := aside (by
       rw [← HR0.out]
       by_cases h0 : 0 < j
       · have := HM.out h0
         rwa [e, List.take_length] at this
       · have : l = [] := List.eq_nil_of_length_eq_zero (by omega)
         rw [this]; rfl)
     clear S HM
     go_wp2
     go_ret
     exact ⟨ret_bool HR.out.symm, kb⟩
theorem new0 (w : World) : (Instr.makeMap 133 none).run Tryz.prog w = .ok (.map (some w.heap.size)) (w.alloc (.map #[] 0)) := by
 simp [Instr.makeMap, go_sem]
theorem inc_eq {l : List Cn} {k : ByteArray} {n : Int} (hm : mayC l = true) (hk : keyL (bytesL k) = true) (hl : CtrL.InL l) (hn : CtrL.In64 n) (k' : ByteArray) : getC (incC l k n) k' = gath 1 (upd (fun _ => 0) k n) l k' := by
 have h0 : CtrL.In64 (upd (fun _ => (0 : Int)) k n k') := by
   unfold upd
   split
   · exact hn
   · show CtrL.In64 0
     unfold CtrL.In64; omega
 rw [CtrL.inc_get n hm hk, gath_get 1 l _ k' (mayC_iff.1 hm).2 h0, Int.one_mul, CtrL.w64_id (CtrL.getC_in hl k')]
 unfold upd
 split
 · rename_i e
   rw [e, Int.add_comm]
 · rw [Int.zero_add, CtrL.w64_id (CtrL.getC_in hl k')]
theorem sum_eq {l0 l1 l2 : List Cn} (m0 : mayC l0 = true) (m1 : mayC l1 = true) (m2 : mayC l2 = true) (k : ByteArray) : getC (mergeC l0 l1 l2) k = gath (-1) (gath 1 (gath 1 (fun _ => 0) l1) l2) l0 k := by
 rw [CtrL.merge_get m0 m1 m2, gath_get _ l0 _ k (mayC_iff.1 m0).2, gath_get _ l2 _ k (mayC_iff.1 m2).2, gath_get _ l1 _ k (mayC_iff.1 m1).2]
 · unfold sumC
   simp only [w64_eq]
   omega
 · unfold CtrL.In64; omega
 · rw [gath_get _ l1 _ k (mayC_iff.1 m1).2 (by unfold CtrL.In64; omega)]
   exact CtrL.w64_in _
 · rw [gath_get _ l2 _ k (mayC_iff.1 m2).2]
   · exact CtrL.w64_in _
   · rw [gath_get _ l1 _ k (mayC_iff.1 m1).2 (by unfold CtrL.In64; omega)]
     exact CtrL.w64_in _
theorem fits_in {l : List Cn} (h : Fits l) : CtrL.InL l := fun c hc => (h c hc).2
theorem none_ret {l : List Cn} {w w' : World} (h : l = []) (k : Below w.heap.size w w') : NewS E l w (.returned (.slice none 0 0)) w' := by
 subst h
 exact ⟨none, 0, rfl, SlR.nil E _, k⟩
set_option maxRecDepth 100000 in
set_option maxHeartbeats 4000000 in
theorem inc_ret (A : Option Addr) (cap : Nat) (l : List Cn) (k : ByteArray) (n : Int) (w : World) (S : SlR E w A cap l) (hf : Fits l) (hl : l.length ≤ 10000000) (hk : k.size ≤ 1099511627776) (hn : CtrL.In64 n) :
   Calls Tryz.prog 108 #[.slice A l.length cap, .string k, .int .i64 n] w (NewS E (incC l k n) w) := by
 have cm := may_ret A cap l w S hf (by omega)
 have hks : k.size ≤ maxLen := by unfold maxLen; omega
 have ck := OpsK.key k hks
 obtain ⟨R, hR⟩ : ∃ R, incC l k n = R := ⟨_, rfl⟩
 rw [hR]
 have HR := aside hR
 clear hR
 obtain ⟨bm, hbm⟩ : ∃ b, mayC l = b := ⟨_, rfl⟩
 obtain ⟨bk, hbk⟩ : ∃ b, keyL (bytesL k) = b := ⟨_, rfl⟩
 rw [hbm] at cm
 rw [hbk] at ck
 have HM := aside hbm
 have HK := aside hbk
 clear hbm hbk
 cases bm with
 | false =>
   have HN : Hid (R = []) := aside (HR.out.symm.trans (CtrL.inc_no n (.inl HM.out)))
   go_enter Tryz.func108, Tryz.ntmps108
   go_wp2_with fail
   refine cm.mono ?_
   rintro e w1 ⟨rfl, k1⟩
   go_wp2_with fail
   go_ret
   exact none_ret HN.out k1
 | true =>
   cases bk with
   | false =>
     have HN : Hid (R = []) := aside (HR.out.symm.trans (CtrL.inc_no n (.inr HK.out)))
     go_enter Tryz.func108, Tryz.ntmps108
     go_wp2_with fail
     refine cm.mono ?_
     rintro e w1 ⟨rfl, k1⟩
     go_wp2_with fail
     refine (ck _).mono ?_
     rintro e w' ⟨rfl, rfl⟩
     go_wp2_with fail
     go_ret
     exact none_ret HN.out k1
   | true =>
     have HG : Hid (∀ k', getC R k' = gath 1 (upd (fun _ => 0) k n) l k') := aside (fun k' => by rw [← HR.out]; exact inc_eq HM.out HK.out (fits_in hf) hn k')
     have HMR : Hid (mayC R = true) := aside (by rw [← HR.out]; exact CtrL.inc_may n HM.out HK.out)
     go_enter Tryz.func108, Tryz.ntmps108
     go_wp2_with fail
     refine cm.mono ?_
     rintro e w1 ⟨rfl, k1⟩
     go_wp2_with fail
     refine (ck _).mono ?_
     rintro e w' ⟨rfl, rfl⟩
     have T1 := S.below k1
     have hs1 := k1.size
     have hmm := new0 w1
     go_wp2_with (first | (refine wpList_insert _ rfl _ _ _ rfl w1.heap.size 0 [] _ rfl (NumIn.made w1) (by omega) k hks n hn rfl rfl ?_; intro w2 hs2 hg2))
     have kg : w1.grownBy w2 (some w1.heap.size) := (World.grownBy_alloc w1 _ _).trans hg2
     have k2 : Below w.heap.size w w2 := below_grown k1 hs1 kg (fun j hj => by cases hj; exact hs1)
     have T2 := T1.below (below_grown (Below.refl w1.heap.size w1) (Nat.le_refl _) kg (fun j hj => by cases hj; exact Nat.le_refl _))
     clear T1 S cm ck hg2 kg k1 hmm
     refine (gather_ret w1.heap.size _ _ _ A cap l 1 w2 hs2 T2 hf (by omega) (by omega)).mono ?_
     rintro e w3 ⟨rfl, hs3, hg3⟩
     have k3 : Below w.heap.size w w3 := below_grown k2 k2.size hg3 (fun j hj => by cases hj; exact hs1)
     clear T2 hs2 hg3 k2
     go_wp2_with fail
     refine (counts_ret w1.heap.size _ _ _ R w3 hs3 (by omega) HMR.out HG.out).mono ?_
     rintro e w4 h4
     obtain ⟨A4, c4, rfl, S4, k4⟩ := h4.s
     have k5 := k3.trans (k4.mono k3.size)
     clear k3 k4 hs3 h4
     go_wp2_with fail
     go_ret
     exact ⟨A4, c4, rfl, S4, k5⟩
set_option maxRecDepth 100000 in
set_option maxHeartbeats 8000000 in
theorem merge_no (A0 : Option Addr) (c0 : Nat) (l0 : List Cn) (A1 : Option Addr) (c1 : Nat) (l1 : List Cn) (A2 : Option Addr) (c2 : Nat) (l2 : List Cn) (w : World) (S0 : SlR E w A0 c0 l0) (S1 : SlR E w A1 c1 l1) (S2 : SlR E w A2 c2 l2) (f0 : Fits l0) (f1 : Fits l1) (f2 : Fits l2) (b0 : l0.length ≤ 10000000) (b1 : l1.length ≤ 10000000) (b2 : l2.length ≤ 10000000)
   (h : mayC l0 = false ∨ (mayC l0 = true ∧ mayC l1 = false) ∨ (mayC l0 = true ∧ mayC l1 = true ∧ mayC l2 = false)) :
   Calls Tryz.prog 50 #[.slice A0 l0.length c0, .slice A1 l1.length c1, .slice A2 l2.length c2] w (NewS E [] w) := by
 have q0 := may_ret A0 c0 l0 w S0 f0 (by omega)
 have q1 := fun W S => may_ret A1 c1 l1 W S f1 (by omega)
 have q2 := fun W S => may_ret A2 c2 l2 W S f2 (by omega)
 rcases h with m0 | ⟨m0, m1⟩ | ⟨m0, m1, m2⟩
 · rw [m0] at q0
   clear m0
   go_enter Tryz.func50, Tryz.ntmps50
   go_wp2_with fail
   refine q0.mono ?_
   rintro e w1 ⟨rfl, k1⟩
   go_wp2_with fail
   go_ret
   exact none_ret rfl k1
 · rw [m0] at q0
   rw [m1] at q1
   clear m0 m1
   go_enter Tryz.func50, Tryz.ntmps50
   go_wp2_with fail
   refine q0.mono ?_
   rintro e w1 ⟨rfl, k1⟩
   have T1 := S1.below k1
   go_wp2_with fail
   refine (q1 _ T1).mono ?_
   rintro e w2 ⟨rfl, h2⟩
   have k2 := k1.trans (h2.mono k1.size)
   clear T1 h2 k1
   go_wp2_with fail
   go_ret
   exact none_ret rfl k2
 · rw [m0] at q0
   rw [m1] at q1
   rw [m2] at q2
   clear m0 m1 m2
   go_enter Tryz.func50, Tryz.ntmps50
   go_wp2_with fail
   refine q0.mono ?_
   rintro e w1 ⟨rfl, k1⟩
   have T1 := S1.below k1
   go_wp2_with fail
   refine (q1 _ T1).mono ?_
   rintro e w2 ⟨rfl, h2⟩
   have k2 := k1.trans (h2.mono k1.size)
   have T2 := S2.below k2
   clear T1 h2 k1
   go_wp2_with fail
   refine (q2 _ T2).mono ?_
   rintro e w3 ⟨rfl, h3⟩
   have k3 := k2.trans (h3.mono k2.size)
   clear T2 h3 k2
   go_wp2_with fail
   go_ret
   exact none_ret rfl k3
set_option maxRecDepth 100000 in
set_option maxHeartbeats 8000000 in
theorem merge_yes (A0 : Option Addr) (c0 : Nat) (l0 : List Cn) (A1 : Option Addr) (c1 : Nat) (l1 : List Cn) (A2 : Option Addr) (c2 : Nat) (l2 : List Cn) (w : World) (S0 : SlR E w A0 c0 l0) (S1 : SlR E w A1 c1 l1) (S2 : SlR E w A2 c2 l2) (f0 : Fits l0) (f1 : Fits l1) (f2 : Fits l2) (b0 : l0.length ≤ 10000000) (b1 : l1.length ≤ 10000000) (b2 : l2.length ≤ 10000000)
   (m0 : mayC l0 = true) (m1 : mayC l1 = true) (m2 : mayC l2 = true) :
   Calls Tryz.prog 50 #[.slice A0 l0.length c0, .slice A1 l1.length c1, .slice A2 l2.length c2] w (NewS E (mergeC l0 l1 l2) w) := by
 have q0 := may_ret A0 c0 l0 w S0 f0 (by omega)
 have q1 := fun W S => may_ret A1 c1 l1 W S f1 (by omega)
 have q2 := fun W S => may_ret A2 c2 l2 W S f2 (by omega)
 have hmr := CtrL.merge_may m0 m1 m2
 have HG := aside (sum_eq m0 m1 m2)
 obtain ⟨R, hR⟩ : ∃ R, mergeC l0 l1 l2 = R := ⟨_, rfl⟩
 rw [hR] at hmr HG ⊢
 have HMR := aside hmr
 rw [m0] at q0
 rw [m1] at q1
 rw [m2] at q2
 clear m0 m1 m2 hmr hR
 go_enter Tryz.func50, Tryz.ntmps50
 go_wp2_with fail
 refine q0.mono ?_
 rintro e w1 ⟨rfl, k1⟩
 have T1 := S1.below k1
 go_wp2_with fail
 refine (q1 _ T1).mono ?_
 rintro e w2 ⟨rfl, h2⟩
 have k2 := k1.trans (h2.mono k1.size)
 have T2 := S2.below k2
 clear T1 h2 k1 q1 q0
 go_wp2_with fail
 refine (q2 _ T2).mono ?_
 rintro e w3 ⟨rfl, h3⟩
 have k3 := k2.trans (h3.mono k2.size)
 clear T2 h3 k2 q2
 have hs3 := k3.size
 have hmm := new0 w3
 go_wp2_with fail
 have k4 := k3.alloc hs3 (.map #[] 0)
 have kg := fun (w' : World) (h : (w3.alloc (.map #[] 0)).grownBy w' (some w3.heap.size)) => below_grown k4 k4.size h (fun j hj => by cases hj; exact hs3)
 refine (gather_ret w3.heap.size 0 [] (fun _ => 0) A1 c1 l1 1 _ (NumIn.made w3) (S1.below k4) f1 (by omega) (by omega)).mono ?_
 rintro e w5 ⟨rfl, n5, g5⟩
 have k5 := kg w5 g5
 go_wp2_with fail
 refine (gather_ret w3.heap.size _ _ _ A2 c2 l2 1 w5 n5 (S2.below k5) f2 (by omega) (by omega)).mono ?_
 rintro e w6 ⟨rfl, n6, g6⟩
 have k6 := kg w6 (g5.trans g6)
 go_wp2_with fail
 refine (gather_ret w3.heap.size _ _ _ A0 c0 l0 (-1) w6 n6 (S0.below k6) f0 (by omega) (by omega)).mono ?_
 rintro e w7 ⟨rfl, n7, g7⟩
 have k7 := kg w7 ((g5.trans g6).trans g7)
 clear g5 g6 g7 n5 n6 k5 k6 k4 k3 kg
 go_wp2_with fail
 refine (counts_ret w3.heap.size _ _ _ R w7 n7 (by omega) HMR.out HG.out).mono ?_
 rintro e w8 h8
 obtain ⟨A8, c8, rfl, S8, k8⟩ := h8.s
 have k9 := k7.trans (k8.mono k7.size)
 clear k7 k8 n7 h8
 go_wp2_with fail
 go_ret
 exact ⟨A8, c8, rfl, S8, k9⟩
theorem merge_ret (A0 : Option Addr) (c0 : Nat) (l0 : List Cn) (A1 : Option Addr) (c1 : Nat) (l1 : List Cn) (A2 : Option Addr) (c2 : Nat) (l2 : List Cn) (w : World) (S0 : SlR E w A0 c0 l0) (S1 : SlR E w A1 c1 l1) (S2 : SlR E w A2 c2 l2) (f0 : Fits l0) (f1 : Fits l1) (f2 : Fits l2) (b0 : l0.length ≤ 10000000) (b1 : l1.length ≤ 10000000) (b2 : l2.length ≤ 10000000) :
   Calls Tryz.prog 50 #[.slice A0 l0.length c0, .slice A1 l1.length c1, .slice A2 l2.length c2] w (NewS E (mergeC l0 l1 l2) w) := by
 cases m0 : mayC l0 with
 | false => rw [CtrL.merge_no (.inl m0)]; exact merge_no A0 c0 l0 A1 c1 l1 A2 c2 l2 w S0 S1 S2 f0 f1 f2 b0 b1 b2 (.inl m0)
 | true =>
   cases m1 : mayC l1 with
   | false => rw [CtrL.merge_no (.inr (.inl m1))]; exact merge_no A0 c0 l0 A1 c1 l1 A2 c2 l2 w S0 S1 S2 f0 f1 f2 b0 b1 b2 (.inr (.inl ⟨m0, m1⟩))
   | true =>
     cases m2 : mayC l2 with
     | false => rw [CtrL.merge_no (.inr (.inr m2))]; exact merge_no A0 c0 l0 A1 c1 l1 A2 c2 l2 w S0 S1 S2 f0 f1 f2 b0 b1 b2 (.inr (.inr ⟨m0, m1, m2⟩))
     | true => exact merge_yes A0 c0 l0 A1 c1 l1 A2 c2 l2 w S0 S1 S2 f0 f1 f2 b0 b1 b2 m0 m1 m2
end Go.Proofs.YtgmdhaepiclkcaaGreatDoor.CtrD
