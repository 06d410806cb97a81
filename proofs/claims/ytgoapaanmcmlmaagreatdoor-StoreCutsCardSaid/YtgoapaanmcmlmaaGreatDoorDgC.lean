/- What the document's Closed of package dag returns: a contract. -/
import Derived.Test.YtgoapaanmcmlmaaGreatDoorDgO
namespace Go.Proofs.YtgoapaanmcmlmaaGreatDoor.DgC
set_option maxRecDepth 100000
open Go Go.Sort Go.RowKit Byt IdM IdW OpsM OpsW CmM StW CmW CmX CmY DgM DgN DgP DgW DgT DgR DgK DgO
open Classical
def Pair (l : List Com) (all : List Idn) (i j : Nat) (c d : Com) : Prop := c.node = d.node → c.seq ≠ d.seq ∧ (d.seq < c.seq → KnI l all i j) ∧ (c.seq < d.seq → KnI l all j i)
theorem cell_node_at {w : World} {b off : Nat} {x : Cv} (h : w.rangeAt b off (cc x).toList) : w.cell? ⟨b, off, none⟩ = some (.int .i64 x.c.node) := by
 have := h 0 _ rfl
 rwa [Nat.add_zero] at this
theorem cell_seq_at {w : World} {b off : Nat} {x : Cv} (h : w.rangeAt b off (cc x).toList) : w.cell? ⟨b, off + 1, none⟩ = some (.int .i64 x.c.seq) := h 1 _ rfl
theorem idsD_all {l : List Com} (h : l.all mayK = true) : idsD l = l.map hashK := by rw [idsD, if_pos h]
theorem idsD_no {l : List Com} (h : l.all mayK = false) : idsD l = [] := by rw [idsD, if_neg (by rw [h]; simp)]
set_option maxRecDepth 100000 in
set_option maxHeartbeats 64000000 in
theorem closed_ret (A : Option Addr) (cap : Nat) (l : List Cv) (w : World) (S : SlK w A cap l) (ho : ∀ v ∈ l, CmR.Okay v.c) (hl : l.length ≤ 1000) :
   Calls Tryz.prog 33 #[.slice A l.length cap] w fun e w' => e = .returned (.bool (decide (Closed hashK (coms l)))) ∧ Below w.heap.size w w' := by
 have hmax := S.len
 have hids := ids_ret A cap l w S ho hl
 unfold NewD at hids
 obtain ⟨rb, hrb⟩ : ∃ b, decide (Closed hashK (coms l)) = b := ⟨_, rfl⟩
 rw [hrb]
 cases ham : (coms l).all mayK with
 | false =>
   rw [idsD_no ham] at hids
   have hpos : 0 < l.length := by
     cases l with
     | nil => cases ham
     | cons x l => simp
   have HX : Hid (rb = false) := aside (by
     rw [← hrb]
     refine decide_eq_false fun C => ?_
     rw [List.all_eq_true.2 fun c hc => C.may c hc] at ham
     cases ham)
   have hne : ((0 : Int) != (l.length : Int)) = true := by simp; omega
   clear S ho hrb ham
   go_enter Tryz.func33, Tryz.ntmps33
   go_wp2_with (first | go_skip)
   refine hids.mono ?_
   rintro e w1 ⟨A1, c1, rfl, S1, k1⟩
   clear hids
   go_wp2_with (first | go_skip)
   go_ret
   exact ⟨StW.ret_bool HX.out.symm, k1⟩
 | true =>
   rw [idsD_all ham] at hids
   have hmay : ∀ c ∈ coms l, mayK c = true := List.all_eq_true.1 ham
   have hgen : ∀ c ∈ coms l, c.gen ≤ 1048576 := fun c hc => (lineB_iff.1 (mayK_iff.1 (hmay c hc)).1).2.1
   have HR : Hid (rb = decide (∀ i c, (coms l)[i]? = some c → FineI (coms l) ((coms l).map hashK) i c)) := aside (by rw [← hrb]; exact decide_eq_decide.2 (closed_iff hmay))
   obtain ⟨all, hal⟩ : ∃ all, (coms l).map hashK = all := ⟨_, rfl⟩
   have hall : all.length = l.length := by rw [← hal, List.length_map, coms_len]
   rw [hal] at hids HR
   have HO := aside ho
   have HGEN := aside hgen
   have HALL := aside hall
   have HLEN : Hid ((coms l).length = l.length) := aside (coms_len l)
   clear hrb ham hmay hgen hal ho
   rw [hall] at hids
   go_enter Tryz.func33, Tryz.ntmps33
   go_wp2_with (first | go_skip)
   refine hids.mono ?_
   rintro e w1 ⟨A1, c1, rfl, T1, k1⟩
   have hkn := knows_ret A A1 cap c1 l all w1 (S.below k1) T1 hall hl
   unfold NewT at hkn
   rw [coms_len, hall] at hkn
   clear hids hall
   go_wp2_with (first | go_skip)
   refine hkn.mono ?_
   rintro e w2 ⟨v, gs, K, rfl, hgl, TB, hW, k2⟩
   have b2 := k1.trans (k2.mono k1.size)
   have HS := aside (S.below b2)
   have HT := aside (T1.below k2)
   have HTB := aside TB
   have HW := aside hW
   have HGL := aside hgl
   clear hkn T1 TB hW hgl S k1 k2
   go_wp2_with (first | go_skip)
   go_loopw [5] (fun i wr => ∃ k : Nat, k ≤ l.length ∧ i = .int .i64 k ∧ Hid (∀ i' c, i' < k → (coms l)[i']? = some c → FineI (coms l) all i' c) ∧ Below w2.heap.size w2 wr) (fun i _ => l.length - (intOf i).toNat)
   case atStart => exact ⟨0, Nat.zero_le _, rfl, aside (fun i' c hi' => absurd hi' (Nat.not_lt_zero _)), Below.refl _ _⟩
   case round =>
     obtain ⟨k, hk, rfl, HF, kb⟩ := hrel
     by_cases hlt : k < l.length
     · obtain ⟨b, off, rfl, hbw, hrg⟩ := HS.out.plain (by omega)
       obtain ⟨x, hx⟩ : ∃ x, l[k]? = some x := ⟨_, List.getElem?_eq_getElem hlt⟩
       have hxm := List.mem_of_getElem? hx
       obtain ⟨a1, o1, rfl, hb1, hr1⟩ := SlI.plain HT.out (by rw [HALL.out]; omega)
       obtain ⟨a, ha⟩ : ∃ a, all[k]? = some a := ⟨_, List.getElem?_eq_getElem (by rw [HALL.out]; exact hlt)⟩
       have ra0 := hr1 k (by rw [HALL.out]; exact hlt)
       rw [show all.getD k nought = a by rw [List.getD_eq_getElem?_getD, ha]; rfl] at ra0
       have rx := range_on (hrg k x hx) kb
       have HRG := aside hrg
       have HX1 := aside (coms_at hx)
       have HLX := aside hx
       have HA1 := aside ha
       have p0 : (k : Int) < l.length := by omega
       have m0 : ((k : Int)).toNat = k := by omega
       have hmg := CmR.merge_ret x _ ((HS.out.each x hxm).1.below kb) (HO.out x hxm)
       have hone := fun W (hb : Below w2.heap.size w2 W) => one_ret (some ⟨b, off, none⟩) (some ⟨a1, o1, none⟩) cap c1 l all v gs K w1.heap.size k x W (HS.out.below hb) (HT.out.below hb) (HTB.out.below hb) HGL.out HW.out HALL.out HGEN.out hx
       have hat := fun W (hb : Below w2.heap.size w2 W) => DgR.at_ret (some ⟨a1, o1, none⟩) c1 all a W (HT.out.below hb)
       rw [HALL.out] at hone hat
       obtain ⟨z1, hz1⟩ : ∃ z, isM x.c = z := ⟨_, rfl⟩
       obtain ⟨z2, hz2⟩ : ∃ z, decide (OneI (coms l) all x.c) = z := ⟨_, rfl⟩
       rw [hz1] at hmg
       rw [hz2] at hone
       have HZ1 := aside hz1
       have HZ2 := aside hz2
       clear hrg hr1 hz1 hz2 ha hxm hx
       go_wp2_with (first | go_skip | (refine load_at rfl _ rfl _ _ rfl x rx ?_))
       refine hmg.mono ?_
       rintro e w3 ⟨rfl, k3⟩
       have b3 := kb.trans (k3.mono kb.size)
       clear hmg kb k3 rx
       go_wp2_with (first | go_skip)
       refine (hone _ b3).mono ?_
       rintro e w4 ⟨rfl, k4⟩
       have b4 := b3.trans (k4.mono b3.size)
       clear hone b3 k4
       have ra := IdW.range_below ra0 b4
       have hzz : (z1 = true ∨ (z1 = false ∧ z2 = false)) ∨ (z1 = false ∧ z2 = true) := by cases z1 <;> cases z2 <;> simp
       rcases hzz with hzz | ⟨rfl, rfl⟩
       · have HX : Hid (rb = false) := aside (by
           rw [HR.out]
           refine decide_eq_false fun h => ?_
           have hf := h k x.c HX1.out
           rcases hzz with rfl | ⟨_, rfl⟩
           · rw [hf.merge] at HZ1
             cases HZ1.out
           · exact absurd hf.one (of_decide_eq_false HZ2.out))
         clear HF hat ra
         rcases hzz with rfl | ⟨rfl, rfl⟩
         all_goals
           go_wp2_with (first | go_skip)
           go_ret
           exact ⟨StW.ret_bool HX.out.symm, b2.trans (b4.mono b2.size)⟩
       · go_wp2_with (first | go_skip | (refine CmY.gid _ rfl _ _ rfl a ra rfl ?_))
         refine (hat _ b4).mono ?_
         rintro e w5 ⟨rfl, k5⟩
         have b5 := b4.trans (k5.mono b4.size)
         clear hat b4 k5 ra
         obtain ⟨z3, hz3⟩ : ∃ z, (atI all a != (k : Int)) = z := ⟨_, rfl⟩
         have HZ3 := aside hz3
         cases z3 with
         | true =>
           have HX : Hid (rb = false) := aside (by
             rw [HR.out]
             refine decide_eq_false fun h => ?_
             have hf := (h k x.c HX1.out).first a HA1.out
             have := HZ3.out
             unfold atI at this
             rw [hf] at this
             simp at this)
           clear HF HZ3
           go_wp2_with (first | go_skip)
           go_ret
           exact ⟨StW.ret_bool HX.out.symm, b2.trans (b5.mono b2.size)⟩
         | false =>
           have HFI : Hid (idx all a = some k) := aside (by
             have := HZ3.out
             unfold atI at this
             cases hq : idx all a with
             | none =>
               rw [hq] at this
               have h2 : ((-1 : Int) != (k : Int)) = true := by
                 rw [bne_iff_ne]
                 omega
               simp only [h2] at this
               cases this
             | some p => rw [hq] at this; simp at this; rw [show p = k by omega])
           clear HZ3
           go_wp2_with (first | go_skip)
           go_loopw [8] (fun i wr => ∃ j : Nat, j ≤ k ∧ i = .int .i64 j ∧ Hid (∀ j' d, j' < j → (coms l)[j']? = some d → Pair (coms l) all k j' x.c d) ∧ Below w2.heap.size w2 wr) (fun i _ => k - (intOf i).toNat)
           case atStart => exact ⟨0, Nat.zero_le _, rfl, aside (fun j' d hj' => absurd hj' (Nat.not_lt_zero _)), b5⟩
           case round =>
             clear b5
             obtain ⟨j, hj, rfl, HP, kb⟩ := hrel
             by_cases hjk : j < k
             · obtain ⟨y, hy⟩ : ∃ y, l[j]? = some y := ⟨_, List.getElem?_eq_getElem (by omega)⟩
               have kw := b2.trans (kb.mono b2.size)
               have rx := range_on (HRG.out k x HLX.out) kb
               have ry := range_on (HRG.out j y hy) kb
               have HY := aside (coms_at hy)
               obtain ⟨xn, hxn⟩ : ∃ z, x.c.node = z := ⟨_, rfl⟩
               obtain ⟨yn, hyn⟩ : ∃ z, y.c.node = z := ⟨_, rfl⟩
               obtain ⟨xs, hxs⟩ : ∃ z, x.c.seq = z := ⟨_, rfl⟩
               obtain ⟨ys, hys⟩ : ∃ z, y.c.seq = z := ⟨_, rfl⟩
               have n1 := (cell_node_at rx).trans (by rw [hxn])
               have n2 := (cell_node_at ry).trans (by rw [hyn])
               have q1 := (cell_seq_at rx).trans (by rw [hxs])
               have q2 := (cell_seq_at ry).trans (by rw [hys])
               obtain ⟨gk, hgk⟩ : ∃ g, gs[k]? = some g := ⟨_, List.getElem?_eq_getElem (by rw [HGL.out]; exact hlt)⟩
               obtain ⟨gj, hgj⟩ : ∃ g, gs[j]? = some g := ⟨_, List.getElem?_eq_getElem (by rw [HGL.out]; omega)⟩
               have TB := HTB.out.below kb
               obtain ⟨r, rc, hv, _⟩ := TB.at (by rw [HGL.out]; omega)
               subst hv
               have ck : wr.cell? ⟨r, k, none⟩ = some (.slice (some ⟨gk, 0, none⟩) l.length l.length) := TB.cell hgk
               have cj : wr.cell? ⟨r, j, none⟩ = some (.slice (some ⟨gj, 0, none⟩) l.length l.length) := TB.cell hgj
               have bk := TB.bit hgk (j := j) (by omega)
               have bj := TB.bit hgj (j := k) hlt
               obtain ⟨u, hu⟩ : ∃ u, K k j = u := ⟨_, rfl⟩
               obtain ⟨v', hv'⟩ : ∃ u, K j k = u := ⟨_, rfl⟩
               rw [hu] at bk
               rw [hv'] at bj
               have pj : (j : Int) < k := by omega
               have pjl : (j : Int) < l.length := by omega
               have pkg : (k : Int) < gs.length := by rw [HGL.out]; exact p0
               have pjg : (j : Int) < gs.length := by rw [HGL.out]; omega
               have mj : ((j : Int)).toNat = j := by omega
               have HXN := aside hxn
               have HYN := aside hyn
               have HXS := aside hxs
               have HYS := aside hys
               have HU := aside hu
               have HV' := aside hv'
               have HPn : Hid (Pair (coms l) all k j x.c y.c → ∀ j' d, j' < j + 1 → (coms l)[j']? = some d → Pair (coms l) all k j' x.c d) := aside (fun hp j' d hj' hd => by
                 by_cases e : j' = j
                 · subst e
                   rw [HY.out] at hd
                   rw [← Option.some.inj hd]
                   exact hp
                 · exact HP.out j' d (by omega) hd)
               have HPx : Hid (¬ Pair (coms l) all k j x.c y.c → rb = false) := aside (fun hp => by
                 rw [HR.out]
                 exact decide_eq_false fun h => hp ((h k x.c HX1.out).ahead j y.c hjk HY.out))
               clear hy rx ry hgk hgj TB hu hv' hxn hyn hxs hys HP HF
               by_cases hnn : xn = yn
               case neg =>
                 have hb : (xn != yn) = true := by simpa using hnn
                 have HNx := aside (HPn.out (fun e => absurd (by rw [← HXN.out, ← HYN.out]; exact e) hnn))
                 clear hnn HPn HPx
                 go_wp2_with (first | go_skip)
                 go_quiet (fail)
                 go_wp2_with (first | go_skip)
                 go_roundw
                 case rel => exact ⟨j + 1, by omega, by go_num, HNx, below_drew kb _⟩
                 case measure => simp [intOf]; omega
               case pos =>
                 have hb : (xn != yn) = false := by simpa using hnn
                 have HNN := aside hnn
                 clear hnn
                 have hw : xs = ys ∨ (ys < xs ∧ u = false) ∨ (ys < xs ∧ u = true) ∨ (xs < ys ∧ v' = false) ∨ (xs < ys ∧ v' = true) := by
                   rcases Int.lt_trichotomy xs ys with h | h | h
                   · cases v'
                     · exact .inr (.inr (.inr (.inl ⟨h, rfl⟩)))
                     · exact .inr (.inr (.inr (.inr ⟨h, rfl⟩)))
                   · exact .inl h
                   · cases u
                     · exact .inr (.inl ⟨h, rfl⟩)
                     · exact .inr (.inr (.inl ⟨h, rfl⟩))
                 have hnode : x.c.node = y.c.node := by rw [HXN.out, HYN.out]; exact HNN.out
                 have HND := aside hnode
                 clear hnode
                 rcases hw with e | ⟨h, rfl⟩ | ⟨h, rfl⟩ | ⟨h, rfl⟩ | ⟨h, rfl⟩
                 · have hs : (xs == ys) = true := by simpa using e
                   have HX : Hid (rb = false) := aside (HPx.out fun hp => (hp HND.out).1 (by rw [HXS.out, HYS.out, e]))
                   clear e HPn HPx
                   go_wp2_with (first | go_skip)
                   go_quiet (fail)
                   go_wp2_with (first | go_skip)
                   go_quiet (fail)
                   go_wp2_with (first | go_skip)
                   go_ret
                   exact ⟨StW.ret_bool HX.out.symm, b2.trans (Below.mono (by first | exact kb | exact below_drew kb _ | exact below_drew (below_drew kb _) _) b2.size)⟩
                 · have hs : (xs == ys) = false := by simp; omega
                   have hd1 : decide (ys < xs) = true := decide_eq_true h
                   have HX : Hid (rb = false) := aside (HPx.out fun hp => by
                     have := (hp HND.out).2.1 (by rw [HXS.out, HYS.out]; exact h)
                     rw [← HW.out k j, HU.out] at this
                     cases this)
                   clear HPn HPx
                   go_wp2_with (first | go_skip)
                   go_quiet (fail)
                   go_wp2_with (first | go_skip)
                   go_quiet (fail)
                   go_wp2_with (first | go_skip)
                   go_ret
                   exact ⟨StW.ret_bool HX.out.symm, b2.trans (Below.mono (by first | exact kb | exact below_drew kb _ | exact below_drew (below_drew kb _) _) b2.size)⟩
                 · have hs : (xs == ys) = false := by simp; omega
                   have hd1 : decide (ys < xs) = true := decide_eq_true h
                   have hd2 : decide (xs < ys) = false := decide_eq_false (by omega)
                   have HNx := aside (HPn.out fun _ => ⟨by rw [HXS.out, HYS.out]; omega, fun _ => (HW.out k j).1 HU.out, fun h2 => by rw [HXS.out, HYS.out] at h2; omega⟩)
                   clear HPn HPx
                   go_wp2_with (first | go_skip)
                   go_quiet (fail)
                   go_wp2_with (first | go_skip)
                   go_quiet (fail)
                   go_wp2_with (first | go_skip)
                   go_roundw
                   case rel => exact ⟨j + 1, by omega, by go_num, HNx, by first | exact kb | exact below_drew kb _ | exact below_drew (below_drew kb _) _⟩
                   case measure => simp [intOf]; omega
                 · have hs : (xs == ys) = false := by simp; omega
                   have hd1 : decide (ys < xs) = false := decide_eq_false (by omega)
                   have hd2 : decide (xs < ys) = true := decide_eq_true h
                   have HX : Hid (rb = false) := aside (HPx.out fun hp => by
                     have := (hp HND.out).2.2 (by rw [HXS.out, HYS.out]; exact h)
                     rw [← HW.out j k, HV'.out] at this
                     cases this)
                   clear HPn HPx
                   go_wp2_with (first | go_skip)
                   go_quiet (fail)
                   go_wp2_with (first | go_skip)
                   go_quiet (fail)
                   go_wp2_with (first | go_skip)
                   go_ret
                   exact ⟨StW.ret_bool HX.out.symm, b2.trans (Below.mono (by first | exact kb | exact below_drew kb _ | exact below_drew (below_drew kb _) _) b2.size)⟩
                 · have hs : (xs == ys) = false := by simp; omega
                   have hd1 : decide (ys < xs) = false := decide_eq_false (by omega)
                   have hd2 : decide (xs < ys) = true := decide_eq_true h
                   have HNx := aside (HPn.out fun _ => ⟨by rw [HXS.out, HYS.out]; omega, fun h2 => by rw [HXS.out, HYS.out] at h2; omega, fun _ => (HW.out j k).1 HV'.out⟩)
                   clear HPn HPx
                   go_wp2_with (first | go_skip)
                   go_quiet (fail)
                   go_wp2_with (first | go_skip)
                   go_quiet (fail)
                   go_wp2_with (first | go_skip)
                   go_roundw
                   case rel => exact ⟨j + 1, by omega, by go_num, HNx, by first | exact kb | exact below_drew kb _ | exact below_drew (below_drew kb _) _⟩
                   case measure => simp [intOf]; omega
             · have pj : ¬ (j : Int) < k := by omega
               have HFn : Hid (∀ i' c, i' < k + 1 → (coms l)[i']? = some c → FineI (coms l) all i' c) := aside (fun i' c hi' hc => by
                 by_cases e : i' = k
                 · subst e
                   rw [HX1.out] at hc
                   obtain rfl := Option.some.inj hc
                   refine ⟨HZ1.out, of_decide_eq_true HZ2.out, fun a' ha' => ?_, fun j' d hj' hd => HP.out j' d (by omega) hd⟩
                   rw [HA1.out] at ha'
                   rw [← Option.some.inj ha']
                   exact HFI.out
                 · exact HF.out i' c (by omega) hc)
               clear HP HF
               go_wp2_with (first | go_skip)
               go_roundw
               case rel => exact ⟨k + 1, by omega, by go_num, HFn, kb⟩
               case measure => simp [intOf]; omega
     · have pn : ¬ (k : Int) < l.length := by omega
       have HX : Hid (rb = true) := aside (by
         rw [HR.out]
         exact decide_eq_true fun i c hi => HF.out i c (by have h1 := (List.getElem?_eq_some_iff.1 hi).1; rw [HLEN.out] at h1; omega) hi)
       clear HF
       go_wp2_with (first | go_skip)
       go_ret
       exact ⟨StW.ret_bool HX.out.symm, b2.trans (kb.mono b2.size)⟩
end Go.Proofs.YtgoapaanmcmlmaaGreatDoor.DgC
