/- What the document's Get of package commit returns: a contract. | What the document's Get of package commit answers, in the form in which both are told. No condition. -/
import Derived.Test.YtgoapaanmcmlmaaGreatDoorForksJ3
import Derived.Test.YtgoapaanmcmlmaaGreatDoorOpsT
import Derived.Test.YtgoapaanmcmlmaaGreatDoorRefEJ3
import Derived.Test.YtgoapaanmcmlmaaGreatDoorCmRJ8
namespace Go.Proofs.YtgoapaanmcmlmaaGreatDoor.CmG
set_option maxRecDepth 100000
open Go Go.Sort Go.RowKit Byt EncM EncC IdM IdW IdB OpsM OpsW CmM StW CmW CmR CmD
set_option maxRecDepth 100000 in
set_option maxHeartbeats 32000000 in
theorem get_ret (A : Option Addr) (cap : Nat) (bs : List Int) (w : World) (S : Sl w A cap bs) (hl : bs.length ≤ 1099511627776) :
   Calls Tryz.prog 32 #[.slice A bs.length cap] w (GetOut (getK bs) w) := by
 have z1 : (w.alloc (.cells (cc noV) 29)).heap.size = w.heap.size + 1 := by simp
 have z2 : ((w.alloc (.cells (cc noV) 29)).alloc (.cells #[.slice A bs.length cap, .bool false] 86)).heap.size = w.heap.size + 1 + 1 := by simp
 obtain ⟨W3, hW3⟩ : ∃ W, ((w.alloc (.cells (cc noV) 29)).alloc (.cells #[.slice A bs.length cap, .bool false] 86)).alloc (.cells (cc noV) 29) = W := ⟨_, rfl⟩
 have R : Cel.Box CE W3 w.heap.size noV := by rw [← hW3]; exact ((Cel.Box.new (E := CE) w noV 29).alloc _).alloc _
 have D : Cel.Box RE W3 (w.heap.size + 1) ⟨A, cap, bs, false⟩ := by
   rw [← hW3, ← z1]
   exact (Cel.Box.new (E := RE) _ ⟨A, cap, bs, false⟩ _).alloc _
 have C : Cel.Box CE W3 (w.heap.size + 1 + 1) noV := by
   rw [← hW3, ← z2]
   exact Cel.Box.new (E := CE) _ noV _
 have kb : Below w.heap.size w W3 := by rw [← hW3]; exact (((Below.refl _ _).alloc (Nat.le_refl _) _).alloc (by simp) _).alloc (by simp; omega) _
 have hB := S.bytes
 obtain ⟨a, ka, h1⟩ : ∃ a k, getL bs = (a, k) := ⟨_, _, rfl⟩
 obtain ⟨l1, e1⟩ : ∃ l, bs.drop ka = l := ⟨_, rfl⟩
 obtain ⟨b, k2, h2⟩ : ∃ a k, getL l1 = (a, k) := ⟨_, _, rfl⟩
 obtain ⟨l2, e2⟩ : ∃ l, l1.drop k2 = l := ⟨_, rfl⟩
 obtain ⟨g, k3, h3⟩ : ∃ a k, getL l2 = (a, k) := ⟨_, _, rfl⟩
 obtain ⟨l3, e3⟩ : ∃ l, l2.drop k3 = l := ⟨_, rfl⟩
 obtain ⟨n, k4, h4⟩ : ∃ a k, getL l3 = (a, k) := ⟨_, _, rfl⟩
 obtain ⟨l4, e4⟩ : ∃ l, l3.drop k4 = l := ⟨_, rfl⟩
 obtain ⟨f1, hf1⟩ : ∃ f, (false || decide (ka = 0)) = f := ⟨_, rfl⟩
 obtain ⟨f2, hf2⟩ : ∃ f, (f1 || decide (k2 = 0)) = f := ⟨_, rfl⟩
 obtain ⟨f3, hf3⟩ : ∃ f, (f2 || decide (k3 = 0)) = f := ⟨_, rfl⟩
 obtain ⟨f4, hf4⟩ : ∃ f, (f3 || decide (k4 = 0)) = f := ⟨_, rfl⟩
 have HQ : Hid (getK bs = if f4 = true then none else tailK a b g n l4) := aside (nums_flag h1 e1 h2 e2 h3 e3 h4 e4 hf1 hf2 hf3 hf4)
 have B1 : ∀ x ∈ l1, B x := by rw [← e1]; exact fun x hx => hB x (List.mem_of_mem_drop hx)
 have B2 : ∀ x ∈ l2, B x := by rw [← e2]; exact fun x hx => B1 x (List.mem_of_mem_drop hx)
 have B3 : ∀ x ∈ l3, B x := by rw [← e3]; exact fun x hx => B2 x (List.mem_of_mem_drop hx)
 have B4 : ∀ x ∈ l4, B x := by rw [← e4]; exact fun x hx => B3 x (List.mem_of_mem_drop hx)
 have la : a < 18446744073709551616 := by have := (getL_le hB).1; rw [h1] at this; exact this
 have lb : b < 18446744073709551616 := by have := (getL_le B1).1; rw [h2] at this; exact this
 have lg : g < 18446744073709551616 := by have := (getL_le B2).1; rw [h3] at this; exact this
 have ln : n < 18446744073709551616 := by have := (getL_le B3).1; rw [h4] at this; exact this
 have m1 : l1.length ≤ 1099511627776 := by rw [← e1, List.length_drop]; omega
 have m2 : l2.length ≤ 1099511627776 := by rw [← e2, List.length_drop]; omega
 have m3 : l3.length ≤ 1099511627776 := by rw [← e3, List.length_drop]; omega
 have m4 : l4.length ≤ 1099511627776 := by rw [← e4, List.length_drop]; omega
 have HB4 := aside B4
 have wb := wrap_asI lb
 have wg := wrap_asI lg
 have Ib := aside (asI_bd lb)
 have Ig := aside (asI_bd lg)
 have Ia := aside (unfoldI_bd la)
 have qu := fun W => RefE.unfold (a : Int) ⟨by omega, by omega⟩ W
 have LN := aside ln
 obtain ⟨na, hna⟩ : ∃ x, unfoldI (a : Int) = x := ⟨_, rfl⟩
 obtain ⟨nb, hnb⟩ : ∃ x, asI b = x := ⟨_, rfl⟩
 obtain ⟨ng, hng⟩ : ∃ x, asI g = x := ⟨_, rfl⟩
 rw [hna] at qu Ia
 rw [hnb] at wb Ib
 rw [hng] at wg Ig
 have HQ2 : Hid (getK bs = if f4 = true then none else match idsL n l4 with | none => none | some (ps, r) => match opG na r with | none => none | some (o, r2) => keepK (⟨na, nb, ng, ps, o⟩, r2)) := aside (by rw [HQ.out, ← hna, ← hnb, ← hng]; rfl)
 obtain ⟨q, hq⟩ : ∃ q, getK bs = q := ⟨_, rfl⟩
 rw [hq] at HQ2 ⊢
 obtain ⟨r0, hr0⟩ : ∃ r : Rd, (⟨A, cap, bs, false⟩ : Rd) = r := ⟨_, rfl⟩
 have hr0l : r0.l = bs := by rw [← hr0]
 have hr0b : r0.bad = false := by rw [← hr0]
 have S0 : Sl w r0.a r0.k r0.l := by rw [← hr0]; exact S
 rw [hr0] at D
 have F1 := aside hf1
 have F2 := aside hf2
 have F3 := aside hf3
 have F4 := aside hf4
 have E1 := aside e1
 have E2 := aside e2
 have E3 := aside e3
 have E4 := aside e4
 have H1 := aside h1
 have H2 := aside h2
 have H3 := aside h3
 have H4 := aside h4
 have L0 := aside hr0l
 have X0 := aside hr0b
 clear hf1 hf2 hf3 hf4 e1 e2 e3 e4 h1 h2 h3 h4 HQ B1 B2 B3 B4 hB la lb lg ln S hr0 hr0l hr0b hna hnb hng hq z1 z2
 go_enter Tryz.func32, Tryz.ntmps32
 go_wp2_with (first | go_skip)
 have qn := num_is D (S0.below kb) (by rw [L0.out]; exact hl) L0.out X0.out H1.out E1.out F1.out
 rw [← hW3] at qn
 refine qn.mono ?_
 clear qn
 rintro e w1 ⟨rfl, r1, Q⟩
 rw [hW3] at Q
 clear hW3
 have T := Q.turned
 have S1 := Q.part w S0
 have L1 := aside Q.left
 have X1 := aside Q.is
 replace D := Q.box
 replace R := R.kept T.grown (far_ne (by omega))
 replace C := C.kept T.grown (far_ne (by omega))
 have kb' := kb.trans (T.below w.heap.size (by omega))
 clear kb
 have kb := kb'
 clear kb' Q T
 go_wp2_with (first | go_skip)
 refine (qu _).mono ?_
 rintro e w' ⟨rfl, rfl⟩
 go_wp2_with (first | go_skip | (refine Cel.wpList_store_field CE rfl rfl 3 _ _ rfl info_i (w.heap.size + 1 + 1) 0 rfl (of_decide_eq_true rfl) noV C (⟨none, 0, ⟨na, 0, 0, [], noO⟩⟩ : Cv) (.int .i64 na) rfl rfl rfl rfl ?_; intro w2 C' f2 g2 s2; clear C; have C := C'; clear C'; have R' := R.kept g2 (far_ne (by omega)); clear R; have R := R'; clear R'; have D' := D.kept g2 (far_ne (by omega)); clear D; have D := D'; clear D'; have kb' := kb.trans (f2 w.heap.size (by omega)); clear kb; have kb := kb'; clear kb' f2 g2 s2))
 refine (num_is D (S1.below kb) (by rw [L1.out]; exact m1) L1.out X1.out H2.out E2.out F2.out).mono ?_
 rintro e w3 ⟨rfl, r3, Q⟩
 have T := Q.turned
 have S3 := Q.part w S1
 have L3 := aside Q.left
 have X3 := aside Q.is
 replace D := Q.box
 replace R := R.kept T.grown (far_ne (by omega))
 replace C := C.kept T.grown (far_ne (by omega))
 have kb' := kb.trans (T.below w.heap.size (by omega))
 clear kb
 have kb := kb'
 clear kb' Q T
 go_wp2_with (first | go_skip | (refine Cel.wpList_store_field CE rfl rfl 3 _ _ rfl info_i (w.heap.size + 1 + 1) 1 rfl (of_decide_eq_true rfl) (⟨none, 0, ⟨na, 0, 0, [], noO⟩⟩ : Cv) C (⟨none, 0, ⟨na, nb, 0, [], noO⟩⟩ : Cv) (.int .i64 nb) rfl rfl rfl rfl ?_; intro w4 C' f4 g4 s4; clear C; have C := C'; clear C'; have R' := R.kept g4 (far_ne (by omega)); clear R; have R := R'; clear R'; have D' := D.kept g4 (far_ne (by omega)); clear D; have D := D'; clear D'; have kb' := kb.trans (f4 w.heap.size (by omega)); clear kb; have kb := kb'; clear kb' f4 g4 s4))
 refine (num_is D (S3.below kb) (by rw [L3.out]; exact m2) L3.out X3.out H3.out E3.out F3.out).mono ?_
 rintro e w5 ⟨rfl, r5, Q⟩
 have T := Q.turned
 have S5 := Q.part w S3
 have L5 := aside Q.left
 have X5 := aside Q.is
 replace D := Q.box
 replace R := R.kept T.grown (far_ne (by omega))
 replace C := C.kept T.grown (far_ne (by omega))
 have kb' := kb.trans (T.below w.heap.size (by omega))
 clear kb
 have kb := kb'
 clear kb' Q T
 go_wp2_with (first | go_skip | (refine Cel.wpList_store_field CE rfl rfl 3 _ _ rfl info_i (w.heap.size + 1 + 1) 2 rfl (of_decide_eq_true rfl) (⟨none, 0, ⟨na, nb, 0, [], noO⟩⟩ : Cv) C (⟨none, 0, ⟨na, nb, ng, [], noO⟩⟩ : Cv) (.int .i64 ng) rfl rfl rfl rfl ?_; intro w6 C' f6 g6 s6; clear C; have C := C'; clear C'; have R' := R.kept g6 (far_ne (by omega)); clear R; have R := R'; clear R'; have D' := D.kept g6 (far_ne (by omega)); clear D; have D := D'; clear D'; have kb' := kb.trans (f6 w.heap.size (by omega)); clear kb; have kb := kb'; clear kb' f6 g6 s6))
 refine (num_is D (S5.below kb) (by rw [L5.out]; exact m3) L5.out X5.out H4.out E4.out F4.out).mono ?_
 rintro e w7 ⟨rfl, r7, Q⟩
 have T := Q.turned
 have S7 := Q.part w S5
 have L7 := aside Q.left
 have X7 := aside Q.is
 replace D := Q.box
 replace R := R.kept T.grown (far_ne (by omega))
 replace C := C.kept T.grown (far_ne (by omega))
 have kb' := kb.trans (T.below w.heap.size (by omega))
 clear kb
 have kb := kb'
 clear kb' Q T
 go_wp2_with (first | go_skip)
 obtain ⟨rN, hrN⟩ : ∃ r, r7 = r := ⟨_, rfl⟩
 rw [hrN] at D S7 L7 X7
 clear hrN
 have SN := S7
 have HI0 : Hid (Inv f4 na nb ng n l4 0 rN ⟨none, 0, ⟨na, nb, ng, [], noO⟩⟩) := aside (inv_start L7.out X7.out)
 clear qu wb wg F1 F2 F3 F4 E1 E2 E3 E4 H1 H2 H3 H4 m1 m2 m3 hl L0 X0 S0 L1 X1 S1 L3 X3 S3 L5 X5 S5 L7 X7 S7
 go_loopw [8] (fun i wr => ∃ (k : Nat) (rd : Rd) (cv : Cv), i = .int .u64 k ∧ k ≤ n ∧ Hid (Inv f4 na nb ng n l4 k rd cv) ∧ Cel.Box CE wr w.heap.size noV ∧ Cel.Box RE wr (w.heap.size + 1) rd ∧ Cel.Box CE wr (w.heap.size + 1 + 1) cv ∧ Hid (wr.ownsRow w.heap.size 75 32 (.slice cv.a cv.c.ps.length cv.k) cv.c.ps.length (bv (flat cv.c.ps))) ∧ Sl w rd.a rd.k rd.l ∧ Below w.heap.size w wr) (fun i _ => n - (intOf i).toNat)
 case atStart => exact ⟨0, rN, ⟨none, 0, ⟨na, nb, ng, [], noO⟩⟩, rfl, Nat.zero_le _, HI0, R, D, C, aside ⟨rfl, .inl ⟨rfl, rfl⟩⟩, SN, kb⟩
 case round =>
   clear HI0 R D C SN kb
   obtain ⟨k, rd, cv, rfl, hk, HI, R, D, C, HO, S, kb⟩ := hrel
   have hrow := aside (row_far HO.out HI.out.nil D (no_rd D))
   have hrowc := aside (row_far HO.out HI.out.nil C (no_cm C))
   have hrowr := aside (row_far HO.out HI.out.nil R (no_cm R))
   obtain ⟨c0, c1⟩ := rd_cells D
   obtain ⟨bd, hbd⟩ : ∃ b, rd.bad = b := ⟨_, rfl⟩
   rw [hbd] at c1
   have HBD := aside hbd
   clear hbd
   cases bd with
   | true =>
     have HQ0 : Hid (q = none) := aside (by
       rw [HQ2.out]
       rcases HI.out.off HBD.out with h | h
       · rw [h]; rfl
       · rw [h]; cases f4 <;> rfl)
     have ho : Okay cv.c := by rw [HI.out.com]; exact okay_no Ia.out Ib.out Ig.out
     have IN := in_of_row HO.out
     have SC := S.below kb
     have hkn : ¬ (k : Int) < n ∨ (k : Int) < n := by omega
     clear HO hrow hrowc hrowr HI
     rcases hkn with p0 | p0
     all_goals
       go_wp2_with (first | go_skip | (refine Cel.wpList_load_box CE rfl _ rfl _ rfl cv C ?_))
       refine (CmR.may_ret cv _ IN ho).mono ?_
       rintro e wm ⟨rfl, km⟩
       replace kb := kb.trans (km.mono kb.size); replace R := R.below km; replace C := C.below km; replace D := D.below km; replace IN := IN.below km; replace SC := SC.below km; clear km c0 c1
       obtain ⟨c0, c1⟩ := rd_cells D
       rw [HBD.out] at c1
       go_wp2_with (first | go_skip | (refine Cel.wpList_store_box CE rfl _ _ rfl w.heap.size rfl noV R noV rfl ?_; intro w9 R9 f9 g9 s9))
       exact bodyPost_ret (v := .tuple #[.agg (cc noV), .slice none 0 0, .int .i64 2]) (results_com Tryz.results32 _ _ w.heap.size noV _ _ rfl rfl rfl R9) rfl (GetOut.none HQ0.out rfl (kb.trans (f9 _ (Nat.le_refl _))))
   | false =>
     by_cases hlt : k < n
     · have p0 : (k : Int) < n := by omega
       have wk : IntKind.u64.wrap ((k : Int) + 1) = ((k + 1 : Nat) : Int) := by rw [IntKind.wrap_u64]; have := LN.out; omega
       obtain ⟨ko, kl⟩ := idsL_len k (HI.out.on HBD.out).2
       have hcap : cv.c.ps.length ≤ 1099511627776 := by omega
       have HK := aside (And.intro ko kl)
       clear ko kl
       go_wp2_with (first | go_skip)
       refine (id_is D (S.below kb) rfl HBD.out).mono ?_
       rintro e w1 ⟨rfl, r', Q⟩
       have T := Q.turned
       have S1 := Q.part w S
       have L1 := aside Q.left
       have X1 := aside Q.is
       have D1 := Q.box
       have R1 := R.kept T.grown (far_ne (by omega))
       have C1 := C.kept T.grown (far_ne (by omega))
       have O1 := aside (HO.out.kept T.grown hrow.out)
       have b1 := kb.trans (T.below w.heap.size (by omega))
       have HN := aside (inv_next HI.out HBD.out HB4.out hlt Q.left Q.is)
       obtain ⟨x, hx⟩ : ∃ x, headI rd.l = x := ⟨_, rfl⟩
       rw [hx]
       rw [hx] at HN
       clear hx R C D HO kb Q T c0 c1 S
       go_wp2_with (first | go_skip | (refine IdJ.wpList_alloc_id rfl rfl ?_) | (refine wpList_store_id rfl _ _ rfl _ nought _ rfl x _ rfl rfl rfl ?_; intro w2 G2 k2 s2; have R2 := R1.below k2; have C2 := C1.below k2; have D2 := D1.below k2; have O2 := aside (owns_below O1.out k2); have b2 := b1.trans (k2.mono b1.size); have c3 := cell_ps C2; clear R1 C1 D1 O1 b1 k2 s2) | (refine wpList_load_id rfl _ rfl _ _ rfl x G2.range ?_) | (refine wpList_build1 rfl _ rfl x rfl ?_) | (refine wpList_append_ids rfl _ _ rfl w.heap.size _ _ cv.c.ps rfl (O2.out.alloc _) _ 1 1 [x] rfl rfl (SlI.new1 _ x _) (by omega) (by have := b2.size; simp; omega) ?_; intro v6 w6 o6 g6; have b6 : Below w.heap.size w w6 := below_grown (b2.alloc b2.size _) (by have := b2.size; simp; omega) g6 (fun q hq => (O2.out.lt q hq).1); have R6 := (R2.alloc _).kept g6 (ne_of hrowr.out); have C6 := (C2.alloc _).kept g6 (ne_of hrowc.out); have D6 := (D2.alloc _).kept g6 (ne_of hrow.out); obtain ⟨PS, hPS⟩ : ∃ l, cv.c.ps ++ [x] = l := ⟨_, rfl⟩; have hpl : PS.length = cv.c.ps.length + 1 := (by rw [← hPS]; simp); have HPS := aside hPS; rw [hPS] at o6; clear hPS; obtain ⟨A6, c6, rfl, S6⟩ := SlI.own o6; have hf6 := row_far o6 (.inr (by omega)) C6 (no_cm C6); have HPL := aside hpl; clear hpl R2 C2 D2 O2 b2 g6 c3 G2 S6) | (refine Cel.wpList_store_field CE rfl rfl 25 _ _ rfl info_p (w.heap.size + 1 + 1) 3 rfl (of_decide_eq_true rfl) cv C6 (⟨A6, c6, { cv.c with ps := PS }⟩ : Cv) _ rfl rfl rfl rfl ?_; intro w7 C7 f7 g7 s7; have R7 := R6.kept g7 (far_ne (by omega)); have D7 := D6.kept g7 (far_ne (by omega)); have o7 := o6.kept g7 hf6; have b7 := b6.trans (f7 w.heap.size (by omega)); clear hf6 f7 g7 s7 R6 C6 D6 b6 o6))
       go_roundw
       case rel => exact ⟨k + 1, r', ⟨A6, c6, { cv.c with ps := PS }⟩, by go_num, by omega, aside (by have := HN.out A6 c6; rw [HPS.out] at this; exact this), R7, D7, C7, aside (by rw [← HPL.out] at o7; exact o7), S1, b7⟩
       case measure => simp [intOf]; omega
     · have p0 : ¬ (k : Int) < n := by omega
       have ek : k = n := by omega
       obtain ⟨o1, o2⟩ := HI.out.on HBD.out
       rw [ek] at o2
       have HQ3 : Hid (q = match opG na rd.l with | none => none | some (o, r2) => keepK (⟨na, nb, ng, cv.c.ps, o⟩, r2)) := aside (by rw [HQ2.out, o1, o2]; rfl)
       have hcom := HI.out.com
       have hn : cv.c.node = na := by rw [hcom]
       have ho : Okay cv.c := by rw [hcom]; exact okay_no Ia.out Ib.out Ig.out
       have IN := in_of_row HO.out
       have SC := S.below kb
       have hbs := aside S.bytes
       have HSL := aside (idsL_len n o2)
       clear HO hrow hrowc hrowr HI ek o1 o2 HQ2
       have d0 := cell_node C
       rw [hn] at d0
       by_cases hna : na = -1
       · have HQ4 : Hid (q = keepK (cv.c, rd.l)) := aside (by rw [HQ3.out, hna]; unfold opG; rw [if_pos rfl]; simp only; rw [← hna, ← hcom])
         rw [hna] at d0
         have hbd2 := HBD
         have hbs2 := hbs
         have hm4 := aside (show rd.l.length ≤ 1099511627776 by have := HSL.out; omega)
         clear HQ3 hcom hna hn
         go_wp2_with (first | go_skip | (refine Cel.wpList_load_box CE rfl _ rfl _ rfl cv C ?_))
         obtain ⟨m, hm⟩ : ∃ m, mayK cv.c = m := ⟨_, rfl⟩
         have HM := aside hm
         clear hm
         refine (CmR.may_ret cv _ IN ho).mono ?_
         rintro e wm ⟨rfl, km⟩
         replace kb := kb.trans (km.mono kb.size); replace R := R.below km; replace C := C.below km; replace D := D.below km; replace IN := IN.below km; replace SC := SC.below km; clear km c0 c1
         obtain ⟨c0, c1⟩ := rd_cells D
         rw [HM.out]
         cases m with
         | false =>
           have HQ5 : Hid (q = none) := aside (by rw [HQ4.out]; unfold keepK; rw [if_neg (by rw [HM.out]; simp)])
           rw [hbd2.out] at c1
           go_wp2_with (first | go_skip | (refine Cel.wpList_store_box CE rfl _ _ rfl w.heap.size rfl noV R noV rfl ?_; intro w9 R9 f9 g9 s9))
           exact bodyPost_ret (v := .tuple #[.agg (cc noV), .slice none 0 0, .int .i64 2]) (results_com Tryz.results32 _ _ w.heap.size noV _ _ rfl rfl rfl R9) rfl (GetOut.none HQ5.out rfl (kb.trans (f9 _ (Nat.le_refl _))))
         | true =>
           have HQ5 : Hid (q = some (cv.c, rd.l)) := aside (by rw [HQ4.out]; unfold keepK; rw [if_pos HM.out])
           rw [hbd2.out] at c1
           go_wp2_with (first | go_skip)
           have h63 : 0 + rd.l.length ≤ 1099511627900 := by have := hm4.out; omega
           refine Forks.region tree (by kernel_rfl) (by kernel_rfl) rfl (by kernel_rfl) (by intro c a d v w h; cases d <;> exact h) ?_
           unfold tree
           rename World => V
           have kd := below_drew1 (Below.refl V.heap.size V)
           have kb' := kb.trans (kd.mono kb.size)
           have R' := R.below kd
           have C' := C.below kd
           have D' := D.below kd
           have IN' := IN.below kd
           have SC' := SC.below kd
           clear kb R C D IN SC c0 c1
           generalize V.drew = wz at kb' R' C' D' IN' SC' ⊢
           clear kd
           obtain ⟨c0, c1⟩ := rd_cells D'
           repeat (first | (refine Forks.checks rfl rfl _ rfl _ rfl ?_; simp only [Act.put, List.setIfInBounds_toArray, List.set_cons_succ, List.set_cons_zero]) | (refine Forks.reads rfl rfl ?_; go_big_quiet_step (fail); refine wpQuiet_nil ?_))
           refine Forks.forks rfl rfl ?_ ?_
           · go_wp2_with (first | (refine Cel.wpList_load_box CE rfl _ rfl _ rfl cv C' ?_))
             refine Forks.on ?_
             (try simp only [Act.put, List.setIfInBounds_toArray, List.set_cons_succ, List.set_cons_zero])
             refine Forks.acts rfl ?_
             go_wp2_with fail
             refine Forks.on ?_
             (try simp only [Act.put, List.setIfInBounds_toArray, List.set_cons_succ, List.set_cons_zero])
             refine Forks.acts rfl ?_
             go_wp2_with (first | (refine wpList_append_sl rfl (.const (.slice none 0 0)) (.tmp 98) 22 rfl w.heap.size 5 Tryz.underlying22 zero_u8 (.slice none 0 0) 0 [] rfl (World.ownsRow_nil _ _ _ _) _ _ _ rd.l rfl rfl SC' h63 kb'.size ?_; intro v5 w5 own5 g5))
             refine Forks.on ?_
             (try simp only [Act.put, List.setIfInBounds_toArray, List.set_cons_succ, List.set_cons_zero])
             have k5 : Below wz.heap.size wz w5 := below_grown (Below.refl _ _) (Nat.le_refl _) g5 (fun q hq => by cases hq)
             have kb5 := kb'.trans (k5.mono kb'.size)
             have R5 := R'.below k5
             have C5 := C'.below k5
             have IN5 := IN'.below k5
             rw [Nat.zero_add, List.nil_append] at own5
             obtain ⟨A5, c5, rfl, S5⟩ := Sl.own own5 hbs2.out
             clear own5 g5 k5
             refine Forks.acts rfl ?_
             go_wp2_with (first | (refine Cel.wpList_store_box CE rfl _ _ rfl w.heap.size rfl noV R5 cv rfl ?_; intro w6 R6 f6 g6 s6))
             refine Forks.on ?_
             (try simp only [Act.put])
             repeat (refine Forks.reads rfl rfl ?_; go_big_quiet_step (fail); refine wpQuiet_nil ?_)
             refine Forks.ends ?_
             go_wp2_with fail
             exact bodyPost_ret (v := .tuple #[.agg (cc cv), .slice A5 rd.l.length c5, .int .i64 0]) (results_com Tryz.results32 _ _ w.heap.size cv _ _ rfl rfl rfl R6) rfl (GetOut.some HQ5.out cv A5 c5 rfl rfl (sli_far IN5 (no_cm R5) g6) (sl_far S5 (no_cm R5) g6) (kb5.trans (f6 _ (Nat.le_refl _))))
           · go_wp2_with fail
             refine Forks.on ?_
             (try simp only [Act.put, List.setIfInBounds_toArray, List.set_cons_succ, List.set_cons_zero])
             refine Forks.forks rfl rfl ?_ ?_
             · go_wp2_with (first | (refine Cel.wpList_load_box CE rfl _ rfl _ rfl cv C' ?_))
               refine Forks.on ?_
               (try simp only [Act.put, List.setIfInBounds_toArray, List.set_cons_succ, List.set_cons_zero])
               refine Forks.acts rfl ?_
               go_wp2_with (first | (refine wpList_append_sl rfl (.const (.slice none 0 0)) (.tmp 98) 22 rfl w.heap.size 5 Tryz.underlying22 zero_u8 (.slice none 0 0) 0 [] rfl (World.ownsRow_nil _ _ _ _) _ _ _ rd.l rfl rfl SC' h63 kb'.size ?_; intro v5 w5 own5 g5))
               refine Forks.on ?_
               (try simp only [Act.put, List.setIfInBounds_toArray, List.set_cons_succ, List.set_cons_zero])
               have k5 : Below wz.heap.size wz w5 := below_grown (Below.refl _ _) (Nat.le_refl _) g5 (fun q hq => by cases hq)
               have kb5 := kb'.trans (k5.mono kb'.size)
               have R5 := R'.below k5
               have C5 := C'.below k5
               have IN5 := IN'.below k5
               rw [Nat.zero_add, List.nil_append] at own5
               obtain ⟨A5, c5, rfl, S5⟩ := Sl.own own5 hbs2.out
               clear own5 g5 k5
               refine Forks.acts rfl ?_
               go_wp2_with (first | (refine Cel.wpList_store_box CE rfl _ _ rfl w.heap.size rfl noV R5 cv rfl ?_; intro w6 R6 f6 g6 s6))
               refine Forks.on ?_
               (try simp only [Act.put])
               repeat (refine Forks.reads rfl rfl ?_; go_big_quiet_step (fail); refine wpQuiet_nil ?_)
               refine Forks.ends ?_
               go_wp2_with fail
               exact bodyPost_ret (v := .tuple #[.agg (cc cv), .slice A5 rd.l.length c5, .int .i64 0]) (results_com Tryz.results32 _ _ w.heap.size cv _ _ rfl rfl rfl R6) rfl (GetOut.some HQ5.out cv A5 c5 rfl rfl (sli_far IN5 (no_cm R5) g6) (sl_far S5 (no_cm R5) g6) (kb5.trans (f6 _ (Nat.le_refl _))))
             · go_wp2_with (first | (refine wpList_append_sl rfl (.const (.slice none 0 0)) (.tmp 98) 22 rfl w.heap.size 5 Tryz.underlying22 zero_u8 (.slice none 0 0) 0 [] rfl (World.ownsRow_nil _ _ _ _) _ _ _ rd.l rfl rfl SC' h63 kb'.size ?_; intro v5 w5 own5 g5))
               refine Forks.on ?_
               (try simp only [Act.put, List.setIfInBounds_toArray, List.set_cons_succ, List.set_cons_zero])
               have k5 : Below wz.heap.size wz w5 := below_grown (Below.refl _ _) (Nat.le_refl _) g5 (fun q hq => by cases hq)
               have kb5 := kb'.trans (k5.mono kb'.size)
               have R5 := R'.below k5
               have C5 := C'.below k5
               have IN5 := IN'.below k5
               rw [Nat.zero_add, List.nil_append] at own5
               obtain ⟨A5, c5, rfl, S5⟩ := Sl.own own5 hbs2.out
               clear own5 g5 k5
               refine Forks.acts rfl ?_
               go_wp2_with (first | (refine Cel.wpList_load_box CE rfl _ rfl _ rfl cv C5 ?_))
               refine Forks.on ?_
               (try simp only [Act.put, List.setIfInBounds_toArray, List.set_cons_succ, List.set_cons_zero])
               refine Forks.acts rfl ?_
               go_wp2_with (first | (refine Cel.wpList_store_box CE rfl _ _ rfl w.heap.size rfl noV R5 cv rfl ?_; intro w6 R6 f6 g6 s6))
               refine Forks.on ?_
               (try simp only [Act.put])
               repeat (refine Forks.reads rfl rfl ?_; go_big_quiet_step (fail); refine wpQuiet_nil ?_)
               refine Forks.ends ?_
               go_wp2_with fail
               exact bodyPost_ret (v := .tuple #[.agg (cc cv), .slice A5 rd.l.length c5, .int .i64 0]) (results_com Tryz.results32 _ _ w.heap.size cv _ _ rfl rfl rfl R6) rfl (GetOut.some HQ5.out cv A5 c5 rfl rfl (sli_far IN5 (no_cm R5) g6) (sl_far S5 (no_cm R5) g6) (kb5.trans (f6 _ (Nat.le_refl _))))
       · have HQ4 : Hid (q = match getO rd.l with | none => none | some (o, r2) => keepK (⟨na, nb, ng, cv.c.ps, o⟩, r2)) := aside (by rw [HQ3.out]; unfold opG; rw [if_neg hna])
         have hneb : (na != -1) = true := by simpa using hna
         have hm4 := aside (show rd.l.length ≤ 1099511627776 by have := HSL.out; omega)
         clear HQ3 hna hn ho
         go_wp2_with (first | go_skip)
         refine (OpsT.get _ _ _ _ _ SC rfl hm4.out).mono ?_
         rintro e w2 hg
         cases hgo : getO rd.l with
         | none =>
           rw [hgo] at hg
           obtain ⟨k2, rfl⟩ : Below _ _ _ ∧ e = .returned (.tuple #[.agg (opc noOp), .slice none 0 0, .int .i64 2]) := hg
           have HQ5 : Hid (q = none) := aside (by rw [HQ4.out, hgo])
           replace kb := kb.trans (k2.mono kb.size); replace R := R.below k2; replace C := C.below k2; replace D := D.below k2; replace IN := IN.below k2
           clear k2 c0 c1 d0 SC HQ4 hcom
           go_wp2_with (first | go_skip | (refine wpList_store_opn rfl _ _ rfl _ _ _ rfl noOp _ rfl rfl rfl rfl ?_; intro w3 O3 k3 s3; have kb' := kb.trans (k3.mono kb.size); have R' := R.below k3; have C' := C.below k3; have D' := D.below k3; have IN' := IN.below k3; clear kb R C D IN; have kb := kb'; have R := R'; have C := C'; have D := D'; have IN := IN'; clear kb' R' C' D' IN'; clear k3 s3 O3) | (refine Cel.wpList_store_box CE rfl _ _ rfl w.heap.size rfl noV R noV rfl ?_; intro w9 R9 f9 g9 s9))
           exact bodyPost_ret (v := .tuple #[.agg (cc noV), .slice none 0 0, .int .i64 2]) (results_com Tryz.results32 _ _ w.heap.size noV _ _ rfl rfl rfl R9) rfl (GetOut.none HQ5.out rfl (kb.trans (f9 _ (Nat.le_refl _))))
         | some p =>
           obtain ⟨o, r2⟩ := p
           rw [hgo] at hg
           obtain ⟨k2, A2, c2, rfl, S2⟩ : Below _ _ _ ∧ ∃ A c, e = .returned (.tuple #[.agg (opc o), .slice A r2.length c, .int .i64 0]) ∧ Sl w2 A c r2 := hg
           obtain ⟨mo, hbb⟩ := put_get hbs.out hgo
           obtain ⟨cv2, hcv⟩ : ∃ c, (⟨cv.a, cv.k, { cv.c with op := o }⟩ : Cv) = c := ⟨_, rfl⟩
           obtain ⟨rd2, hrd⟩ : ∃ r, (⟨A2, c2, r2, rd.bad⟩ : Rd) = r := ⟨_, rfl⟩
           have HQ6 : Hid (q = keepK (cv2.c, rd2.l)) := aside (by rw [HQ4.out, hgo, ← hcv, ← hrd]; simp only; congr 2; have := hcom; generalize cv.c = d at this ⊢; rw [this])
           have ho : Okay cv2.c := by rw [← hcv]; exact okay_op hcom Ia.out Ib.out Ig.out mo
           have hbd2 : Hid (rd2.bad = false) := aside (by rw [← hrd]; exact HBD.out)
           have hbs2 : Hid (∀ x ∈ rd2.l, B x) := aside (by rw [← hrd]; exact S2.bytes)
           have hm5 : Hid (rd2.l.length ≤ 1099511627776) := aside (by have h1 := congrArg List.length hbb; rw [List.length_append] at h1; have h2 := hm4.out; rw [← hrd]; show r2.length ≤ _; omega)
           have HCV := aside hcv
           have HRD := aside hrd
           clear hm4 hcv hrd
           have hm4 := hm5
           replace kb := kb.trans (k2.mono kb.size); replace R := R.below k2; replace C := C.below k2; replace D := D.below k2; replace IN := IN.below k2
           clear k2 c0 c1 d0 SC HQ4 hcom hm5 hbb mo hgo hbs
           obtain ⟨c0, c1⟩ := rd_cells D
           go_wp2_with (first | go_skip | (refine wpList_store_opn rfl _ _ rfl _ _ _ rfl o _ rfl rfl rfl rfl ?_; intro w3 O3 k3 s3; have kb' := kb.trans (k3.mono kb.size); have R' := R.below k3; have C' := C.below k3; have D' := D.below k3; have IN' := IN.below k3; clear kb R C D IN; have kb := kb'; have R := R'; have C := C'; have D := D'; have IN := IN'; clear kb' R' C' D' IN'; have S3 := S2.below k3; clear k3 s3 S2 c0 c1; obtain ⟨c0, c1⟩ := rd_cells D) | (refine wpList_load_op rfl _ rfl _ rfl o O3 ?_) | (refine Cel.wpList_store_part CE rfl rfl 27 _ _ rfl (w.heap.size + 1 + 1) 4 rfl cv C cv2 (opc o) (info_opc o) rfl (opc_one o) (of_decide_eq_true rfl) (by rw [← HCV.out]; rfl) ?_; intro w4 C4 f4 g4 s4; have R4 := R.kept g4 (far_ne (by omega)); have D4 := D.kept g4 (far_ne (by omega)); have S4 := sl_far S3 (no_cm C) g4; have IN4 : In w4 cv2 := (by rw [← HCV.out]; exact sli_far IN (no_cm C) g4); have kb4 := kb.trans (f4 w.heap.size (by omega)); clear R C D IN kb S3 f4 g4 s4 c0 c1 O3; obtain ⟨c0, c1⟩ := rd_cells D4) | (refine Cel.wpList_store_field RE rfl rfl 22 _ _ rfl info_s (w.heap.size + 1) 0 rfl (of_decide_eq_true rfl) rd D4 rd2 _ rfl rfl rfl (by rw [← HRD.out]; rfl) ?_; intro w5 D f5 g5 s5; have R := R4.kept g5 (far_ne (by omega)); have C := C4.kept g5 (far_ne (by omega)); have SC : Sl w5 rd2.a rd2.k rd2.l := (by rw [← HRD.out]; exact sl_far S4 (no_rd D4) g5); have IN : In w5 cv2 := sli_far IN4 (no_rd D4) g5; have kb := kb4.trans (f5 w.heap.size (by omega)); clear R4 C4 D4 IN4 kb4 S4 f5 g5 s5 c0 c1; obtain ⟨c0, c1⟩ := rd_cells D) | (refine Cel.wpList_load_box CE rfl _ rfl _ rfl cv2 C ?_))
           obtain ⟨m, hm⟩ : ∃ m, mayK cv2.c = m := ⟨_, rfl⟩
           have HM := aside hm
           clear hm
           refine (CmR.may_ret cv2 _ IN ho).mono ?_
           rintro e wm ⟨rfl, km⟩
           replace kb := kb.trans (km.mono kb.size); replace R := R.below km; replace C := C.below km; replace D := D.below km; replace IN := IN.below km; replace SC := SC.below km; clear km c0 c1
           obtain ⟨c0, c1⟩ := rd_cells D
           rw [HM.out]
           cases m with
           | false =>
             have HQ5 : Hid (q = none) := aside (by rw [HQ6.out]; unfold keepK; rw [if_neg (by rw [HM.out]; simp)])
             rw [hbd2.out] at c1
             go_wp2_with (first | go_skip | (refine Cel.wpList_store_box CE rfl _ _ rfl w.heap.size rfl noV R noV rfl ?_; intro w9 R9 f9 g9 s9))
             exact bodyPost_ret (v := .tuple #[.agg (cc noV), .slice none 0 0, .int .i64 2]) (results_com Tryz.results32 _ _ w.heap.size noV _ _ rfl rfl rfl R9) rfl (GetOut.none HQ5.out rfl (kb.trans (f9 _ (Nat.le_refl _))))
           | true =>
             have HQ5 : Hid (q = some (cv2.c, rd2.l)) := aside (by rw [HQ6.out]; unfold keepK; rw [if_pos HM.out])
             rw [hbd2.out] at c1
             go_wp2_with (first | go_skip)
             have h63 : 0 + rd2.l.length ≤ 1099511627900 := by have := hm4.out; omega
             refine Forks.region tree (by kernel_rfl) (by kernel_rfl) rfl (by kernel_rfl) (by intro c a d v w h; cases d <;> exact h) ?_
             unfold tree
             rename World => V
             have kd := below_drew1 (Below.refl V.heap.size V)
             have kb' := kb.trans (kd.mono kb.size)
             have R' := R.below kd
             have C' := C.below kd
             have D' := D.below kd
             have IN' := IN.below kd
             have SC' := SC.below kd
             clear kb R C D IN SC c0 c1
             generalize V.drew = wz at kb' R' C' D' IN' SC' ⊢
             clear kd
             obtain ⟨c0, c1⟩ := rd_cells D'
             repeat (first | (refine Forks.checks rfl rfl _ rfl _ rfl ?_; simp only [Act.put, List.setIfInBounds_toArray, List.set_cons_succ, List.set_cons_zero]) | (refine Forks.reads rfl rfl ?_; go_big_quiet_step (fail); refine wpQuiet_nil ?_))
             refine Forks.forks rfl rfl ?_ ?_
             · go_wp2_with (first | (refine Cel.wpList_load_box CE rfl _ rfl _ rfl cv2 C' ?_))
               refine Forks.on ?_
               (try simp only [Act.put, List.setIfInBounds_toArray, List.set_cons_succ, List.set_cons_zero])
               refine Forks.acts rfl ?_
               go_wp2_with fail
               refine Forks.on ?_
               (try simp only [Act.put, List.setIfInBounds_toArray, List.set_cons_succ, List.set_cons_zero])
               refine Forks.acts rfl ?_
               go_wp2_with (first | (refine wpList_append_sl rfl (.const (.slice none 0 0)) (.tmp 98) 22 rfl w.heap.size 5 Tryz.underlying22 zero_u8 (.slice none 0 0) 0 [] rfl (World.ownsRow_nil _ _ _ _) _ _ _ rd2.l rfl rfl SC' h63 kb'.size ?_; intro v5 w5 own5 g5))
               refine Forks.on ?_
               (try simp only [Act.put, List.setIfInBounds_toArray, List.set_cons_succ, List.set_cons_zero])
               have k5 : Below wz.heap.size wz w5 := below_grown (Below.refl _ _) (Nat.le_refl _) g5 (fun q hq => by cases hq)
               have kb5 := kb'.trans (k5.mono kb'.size)
               have R5 := R'.below k5
               have C5 := C'.below k5
               have IN5 := IN'.below k5
               rw [Nat.zero_add, List.nil_append] at own5
               obtain ⟨A5, c5, rfl, S5⟩ := Sl.own own5 hbs2.out
               clear own5 g5 k5
               refine Forks.acts rfl ?_
               go_wp2_with (first | (refine Cel.wpList_store_box CE rfl _ _ rfl w.heap.size rfl noV R5 cv2 rfl ?_; intro w6 R6 f6 g6 s6))
               refine Forks.on ?_
               (try simp only [Act.put])
               repeat (refine Forks.reads rfl rfl ?_; go_big_quiet_step (fail); refine wpQuiet_nil ?_)
               refine Forks.ends ?_
               go_wp2_with fail
               exact bodyPost_ret (v := .tuple #[.agg (cc cv2), .slice A5 rd2.l.length c5, .int .i64 0]) (results_com Tryz.results32 _ _ w.heap.size cv2 _ _ rfl rfl rfl R6) rfl (GetOut.some HQ5.out cv2 A5 c5 rfl rfl (sli_far IN5 (no_cm R5) g6) (sl_far S5 (no_cm R5) g6) (kb5.trans (f6 _ (Nat.le_refl _))))
             · go_wp2_with fail
               refine Forks.on ?_
               (try simp only [Act.put, List.setIfInBounds_toArray, List.set_cons_succ, List.set_cons_zero])
               refine Forks.forks rfl rfl ?_ ?_
               · go_wp2_with (first | (refine Cel.wpList_load_box CE rfl _ rfl _ rfl cv2 C' ?_))
                 refine Forks.on ?_
                 (try simp only [Act.put, List.setIfInBounds_toArray, List.set_cons_succ, List.set_cons_zero])
                 refine Forks.acts rfl ?_
                 go_wp2_with (first | (refine wpList_append_sl rfl (.const (.slice none 0 0)) (.tmp 98) 22 rfl w.heap.size 5 Tryz.underlying22 zero_u8 (.slice none 0 0) 0 [] rfl (World.ownsRow_nil _ _ _ _) _ _ _ rd2.l rfl rfl SC' h63 kb'.size ?_; intro v5 w5 own5 g5))
                 refine Forks.on ?_
                 (try simp only [Act.put, List.setIfInBounds_toArray, List.set_cons_succ, List.set_cons_zero])
                 have k5 : Below wz.heap.size wz w5 := below_grown (Below.refl _ _) (Nat.le_refl _) g5 (fun q hq => by cases hq)
                 have kb5 := kb'.trans (k5.mono kb'.size)
                 have R5 := R'.below k5
                 have C5 := C'.below k5
                 have IN5 := IN'.below k5
                 rw [Nat.zero_add, List.nil_append] at own5
                 obtain ⟨A5, c5, rfl, S5⟩ := Sl.own own5 hbs2.out
                 clear own5 g5 k5
                 refine Forks.acts rfl ?_
                 go_wp2_with (first | (refine Cel.wpList_store_box CE rfl _ _ rfl w.heap.size rfl noV R5 cv2 rfl ?_; intro w6 R6 f6 g6 s6))
                 refine Forks.on ?_
                 (try simp only [Act.put])
                 repeat (refine Forks.reads rfl rfl ?_; go_big_quiet_step (fail); refine wpQuiet_nil ?_)
                 refine Forks.ends ?_
                 go_wp2_with fail
                 exact bodyPost_ret (v := .tuple #[.agg (cc cv2), .slice A5 rd2.l.length c5, .int .i64 0]) (results_com Tryz.results32 _ _ w.heap.size cv2 _ _ rfl rfl rfl R6) rfl (GetOut.some HQ5.out cv2 A5 c5 rfl rfl (sli_far IN5 (no_cm R5) g6) (sl_far S5 (no_cm R5) g6) (kb5.trans (f6 _ (Nat.le_refl _))))
               · go_wp2_with (first | (refine wpList_append_sl rfl (.const (.slice none 0 0)) (.tmp 98) 22 rfl w.heap.size 5 Tryz.underlying22 zero_u8 (.slice none 0 0) 0 [] rfl (World.ownsRow_nil _ _ _ _) _ _ _ rd2.l rfl rfl SC' h63 kb'.size ?_; intro v5 w5 own5 g5))
                 refine Forks.on ?_
                 (try simp only [Act.put, List.setIfInBounds_toArray, List.set_cons_succ, List.set_cons_zero])
                 have k5 : Below wz.heap.size wz w5 := below_grown (Below.refl _ _) (Nat.le_refl _) g5 (fun q hq => by cases hq)
                 have kb5 := kb'.trans (k5.mono kb'.size)
                 have R5 := R'.below k5
                 have C5 := C'.below k5
                 have IN5 := IN'.below k5
                 rw [Nat.zero_add, List.nil_append] at own5
                 obtain ⟨A5, c5, rfl, S5⟩ := Sl.own own5 hbs2.out
                 clear own5 g5 k5
                 refine Forks.acts rfl ?_
                 go_wp2_with (first | (refine Cel.wpList_load_box CE rfl _ rfl _ rfl cv2 C5 ?_))
                 refine Forks.on ?_
                 (try simp only [Act.put, List.setIfInBounds_toArray, List.set_cons_succ, List.set_cons_zero])
                 refine Forks.acts rfl ?_
                 go_wp2_with (first | (refine Cel.wpList_store_box CE rfl _ _ rfl w.heap.size rfl noV R5 cv2 rfl ?_; intro w6 R6 f6 g6 s6))
                 refine Forks.on ?_
                 (try simp only [Act.put])
                 repeat (refine Forks.reads rfl rfl ?_; go_big_quiet_step (fail); refine wpQuiet_nil ?_)
                 refine Forks.ends ?_
                 go_wp2_with fail
                 exact bodyPost_ret (v := .tuple #[.agg (cc cv2), .slice A5 rd2.l.length c5, .int .i64 0]) (results_com Tryz.results32 _ _ w.heap.size cv2 _ _ rfl rfl rfl R6) rfl (GetOut.some HQ5.out cv2 A5 c5 rfl rfl (sli_far IN5 (no_cm R5) g6) (sl_far S5 (no_cm R5) g6) (kb5.trans (f6 _ (Nat.le_refl _))))
end Go.Proofs.YtgoapaanmcmlmaaGreatDoor.CmG
namespace Go.Proofs.YtgoapaanmcmlmaaGreatDoor.CmY
set_option maxRecDepth 100000
open Go Go.Sort Go.RowKit Byt IdM IdW OpsM OpsW CmM StW CmW
theorem get_doc (A : Option Addr) (cap : Nat) (bs : List Int) (w : World) (S : Sl w A cap bs) (hl : bs.length ≤ 1099511627776) :
   Calls Tryz.prog 32 #[.slice A bs.length cap] w (GetAll (getK bs) w) := by
 refine (CmG.get_ret A cap bs w S hl).mono ?_
 rintro e w' ⟨k, h⟩
 cases hq : getK bs with
 | none =>
   rw [hq] at h
   exact ⟨noV, none, 0, h, rfl, In.none w', Sl.nil w', k⟩
 | some p =>
   obtain ⟨c, r⟩ := p
   rw [hq] at h
   obtain ⟨v, A', c', h1, h2, h3, h4⟩ := h
   exact ⟨v, A', c', h1, h2, h3, h4, k⟩
end Go.Proofs.YtgoapaanmcmlmaaGreatDoor.CmY
