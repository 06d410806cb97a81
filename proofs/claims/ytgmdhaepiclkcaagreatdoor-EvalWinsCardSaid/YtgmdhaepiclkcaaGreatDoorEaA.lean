/- The chapter's example: 'awake' of the laws of package eval returns true, where the two functions answer as the document does. No condition. -/
import Derived.Test.YtgmdhaepiclkcaaGreatDoorEaJ
import Derived.Test.YtgmdhaepiclkcaaGreatDoorDgKJ13
import Derived.Test.YtgmdhaepiclkcaaGreatDoorRowGJ15
import Derived.Test.YtgmdhaepiclkcaaGreatDoorGrowJ5
namespace Go.Proofs.YtgmdhaepiclkcaaGreatDoor.EaA
set_option maxRecDepth 100000
open Go Go.Sort Go.RowKit Byt IdM IdW OpsM OpsW RowS CmM StM StW CmW CmX CmY CmA DgM DgW DgR DgF EaM EaN EaH EaJ
open Classical
abbrev AwakeRet : Prop := ∀ w : World, ShaE.KIn w → Calls Tryz.prog 10 #[] w fun e w' => e = .returned (.bool true) ∧ Below w.heap.size w w'
theorem fita : CmW.Fit ka := ⟨⟨by decide, by decide⟩, ⟨by decide, by decide⟩, ⟨by decide, by decide⟩, ⟨⟨by decide, by decide⟩, ⟨by decide, by decide⟩, of_decide_eq_true (by kernel_rfl), of_decide_eq_true (by kernel_rfl)⟩⟩
theorem fitb (I : Idn) : CmW.Fit (kb I) := by
 have h : CmW.Fit (kb nought) := ⟨⟨by decide, by decide⟩, ⟨by decide, by decide⟩, ⟨by decide, by decide⟩, ⟨⟨by decide, by decide⟩, ⟨by decide, by decide⟩, of_decide_eq_true (by kernel_rfl), of_decide_eq_true (by kernel_rfl)⟩⟩
 exact ⟨h.node, h.seq, h.gen, h.op⟩
theorem fitc (I : Idn) : CmW.Fit (kc I) := by
 have h : CmW.Fit (kc nought) := ⟨⟨by decide, by decide⟩, ⟨by decide, by decide⟩, ⟨by decide, by decide⟩, ⟨⟨by decide, by decide⟩, ⟨by decide, by decide⟩, of_decide_eq_true (by kernel_rfl), of_decide_eq_true (by kernel_rfl)⟩⟩
 exact ⟨h.node, h.seq, h.gen, h.op⟩
def va : Cv := ⟨none, 0, ka⟩
section
variable {ops : Array Oper} {rest : List Oper} {o : Oper} {a : Act} {w : World} {Q : Exit → Act → World → Prop}
theorem lit3 (hgd : o.guard = none) (x1 x2 x3 : Operand) (ho : o.op = .buildSlice 22 3 #[(0, x1), (1, x2), (2, x3)])
   (y1 y2 y3 : Cv) (hx1 : a.eval x1 = .agg (cc y1)) (hx2 : a.eval x2 = .agg (cc y2)) (hx3 : a.eval x3 = .agg (cc y3)) (h : ∀ w1, SlR KE w1 (some ⟨w.heap.size, 0, none⟩) 3 [y1, y2, y3] → Below w.heap.size w w1 → wpList Tryz.prog ops Q rest (a.put o.dst (.slice (some ⟨w.heap.size, 0, none⟩) 3 3)) w1) : wpList Tryz.prog ops Q (o :: rest) a w := by
 have hrun : (Instr.buildSlice 22 3 #[(0, .agg (cc y1)), (1, .agg (cc y2)), (2, .agg (cc y3))]).run Tryz.prog w = .ok (.slice (some ⟨w.heap.size, 0, none⟩) 3 3) (w.alloc (.cells (RowS.flat KE [y1, y2, y3]).toArray KE.T)) := RowC.run_build KE w [y1, y2, y3] (by simp) (by simp) (of_decide_eq_true rfl)
 refine wpList_plain hgd fun K hK => ?_
 unfold Oper.wp execOp
 simp only [ho, List.map_toArray, List.map_cons, List.map_nil, hx1, hx2, hx3, Sem.run_bind, hrun, Result.andThen_ok, Sem.run_pure]
 exact hK _ _ (h _ (RowS.SlR.of_cells KE (heap_alloc_new w _) (by simp; unfold maxLen; omega)) ((Below.refl _ _).alloc (Nat.le_refl _) _))
end
theorem op_range {w : World} {g : Nat} {v : Cv} (h : Cel.Box CE w g v) : w.rangeAt g 4 (opc v.c.op).toList := fun j u hu => by
 have hj : j < 4 := (List.getElem?_eq_some_iff.1 hu).1
 rcases (by omega : j = 0 ∨ j = 1 ∨ j = 2 ∨ j = 3) with rfl | rfl | rfl | rfl
 · exact (Option.some.inj hu) ▸ h.cell (j := 4) rfl
 · exact (Option.some.inj hu) ▸ h.cell (j := 5) rfl
 · exact (Option.some.inj hu) ▸ h.cell (j := 6) rfl
 · exact (Option.some.inj hu) ▸ h.cell (j := 7) rfl
theorem load_cop {ops : Array Oper} {rest : List Oper} {o : Oper} {a : Act} {w : World} {Q : Exit → Act → World → Prop} (hgd : o.guard = none) (x : Operand) (ho : o.op = .load 45 x) (g : Nat) (hx : a.eval x = .pointer (some ⟨g, 4, none⟩)) (v : Cv) (hb : Cel.Box CE w g v) (h : wpList Tryz.prog ops Q rest (a.put o.dst (.agg (opc v.c.op))) w) : wpList Tryz.prog ops Q (o :: rest) a w :=
 wpList_load_mid hgd 45 x ho g 4 hx (opc v.c.op).toList _ (op_range hb) Tryz.underlying45 rfl (info_opc v.c.op) h
set_option maxRecDepth 100000 in
set_option maxHeartbeats 16000000 in
theorem awake (T : Two) : AwakeRet := by
 intro w hK
 have hch := fun W K => hash_ret va W (CmW.In.none W) fita K
 unfold HashOut at hch
 obtain ⟨y1, y2, y3⟩ := putB_yes maya
 rw [show hashI va.c = IA from y3.trans ida, show putN va.c = 0 from y2] at hch
 clear y1 y2 y3
 obtain ⟨I, hI⟩ : ∃ I, IA = I := ⟨_, rfl⟩
 rw [hI] at hch
 have HI := aside hI
 clear hI
 go_enter Tryz.func10, Tryz.ntmps10
 go_wp2_with (first | go_skip)
 refine (some_ret _).mono ?_
 rintro e w1 ⟨rfl, k1⟩
 go_wp2_with (first | go_skip | (refine Cel.wpList_store_new CE rfl _ _ rfl w1 _ _ rfl v1 _ rfl rfl rfl rfl ?_; intro w2 B2 k2 g2 s2; have b2 := k1.trans (k2.mono k1.size); have h2 := k1.size; clear s2 g2 k2) | (refine Cel.wpList_store_part CE rfl rfl 45 _ _ rfl w1.heap.size 4 rfl v1 B2 va (opc oA) (info_opc oA) rfl (opc_one oA) (of_decide_eq_true rfl) (by rfl) ?_; intro w3 B3 f3 g3 s3; have b3 := b2.trans (f3 _ h2); clear f3 g3 s3 B2 b2) | (refine Cel.wpList_load_box CE rfl _ rfl _ rfl va B3 ?_))
 refine (hch _ (hK.below b3)).mono ?_
 rintro e w4 ⟨rfl, k4⟩
 have b4 := b3.trans (k4.mono b3.size)
 have B4 := B3.below k4
 clear hch B3 k4 b3
 go_wp2_with (first | go_skip | (refine IdJ.wpList_alloc_id rfl rfl ?_) | (refine CmG.wpList_store_id rfl _ _ rfl _ nought _ rfl I _ rfl rfl rfl ?_; intro w5 G5 k5 s5; have b5 := b4.trans (k5.mono b4.size); have B5 := B4.below k5; clear s5 B4 b4) | (refine wpList_load_id rfl _ rfl _ _ rfl I G5.range ?_) | (refine build_one rfl _ rfl I rfl ?_; intro w6 S6 k6; have b6 := b5.trans (k6.mono b5.size); have B6 := B5.below k6; have G6 := G5.below k6 G5.lt; clear b5 B5 G5 k6) | (refine Cel.wpList_store_new CE rfl _ _ rfl w6 _ _ rfl (⟨some ⟨w5.heap.size, 0, none⟩, 1, kb I⟩ : Cv) _ rfl rfl rfl rfl ?_; intro w7 D7 k7 g7 s7; have b7 := b6.trans (k7.mono b6.size); have B7 := B6.below k7; have G7 := G6.below k7 G6.lt; have S7 := S6.below k7; clear b6 B6 G6 S6 k7 g7 s7) | (refine wpList_load_id rfl _ rfl _ _ rfl I G7.range ?_) | (refine build_one rfl _ rfl I rfl ?_; intro w8 S8 k8; have b8 := b7.trans (k8.mono b7.size); have B8 := B7.below k8; have D8 := D7.below k8; have G8 := G7.below k8 G7.lt; have SB8 := S7.below k8; clear b7 B7 D7 G7 S7 k8) | (refine load_cop rfl _ rfl w1.heap.size rfl va B8 ?_) | (refine Cel.wpList_store_new CE rfl _ _ rfl w8 _ _ rfl (⟨some ⟨w7.heap.size, 0, none⟩, 1, kc I⟩ : Cv) _ rfl rfl rfl rfl ?_; intro w9 E9 k9 g9 s9; have b9 := b8.trans (k9.mono b8.size); have B9 := B8.below k9; have D9 := D8.below k9; have G9 := G8.below k9 G8.lt; have SB9 := SB8.below k9; have SC9 := S8.below k9; clear b8 B8 D8 G8 SB8 S8 k9 g9 s9) | (refine Cel.wpList_load_box CE rfl _ rfl _ rfl va B9 ?_) | (refine Cel.wpList_load_box CE rfl _ rfl _ rfl (⟨some ⟨w5.heap.size, 0, none⟩, 1, kb I⟩ : Cv) D9 ?_) | (refine Cel.wpList_load_box CE rfl _ rfl _ rfl (⟨some ⟨w7.heap.size, 0, none⟩, 1, kc I⟩ : Cv) E9 ?_) | (refine lit3 rfl _ _ _ rfl va (⟨some ⟨w5.heap.size, 0, none⟩, 1, kb I⟩ : Cv) (⟨some ⟨w7.heap.size, 0, none⟩, 1, kc I⟩ : Cv) rfl rfl rfl ?_; intro w10 R10 k10; have b10 := b9.trans (k10.mono b9.size); have B10 := B9.below k10; have D10 := D9.below k10; have E10 := E9.below k10; have G10 := G9.below k10 G9.lt; have SB10 := SB9.below k10; have SC10 := SC9.below k10; clear b9 B9 D9 E9 G9 SB9 SC9 k10))
 have hco : coms [va, ⟨some ⟨w5.heap.size, 0, none⟩, 1, kb I⟩, ⟨some ⟨w7.heap.size, 0, none⟩, 1, kc I⟩] = trio := by
   rw [← HI.out]
   rfl
 have heach : ∀ W, SlI W (some ⟨w5.heap.size, 0, none⟩) 1 [I] → SlI W (some ⟨w7.heap.size, 0, none⟩) 1 [I] → ∀ v ∈ ([va, ⟨some ⟨w5.heap.size, 0, none⟩, 1, kb I⟩, ⟨some ⟨w7.heap.size, 0, none⟩, 1, kc I⟩] : List Cv), CmW.In W v ∧ CmW.Fit v.c := fun W h1 h2 v hv => by
   rcases List.mem_cons.1 hv with rfl | hv
   · exact ⟨CmW.In.none _, fita⟩
   · rcases List.mem_cons.1 hv with rfl | hv
     · exact ⟨h1, fitb I⟩
     · rw [List.mem_singleton.1 hv]
       exact ⟨h2, fitc I⟩
 have HCO := aside hco
 have HEA := aside heach
 clear hco heach
 have q1 := T.eval _ 3 [va, ⟨some ⟨w5.heap.size, 0, none⟩, 1, kb I⟩, ⟨some ⟨w7.heap.size, 0, none⟩, 1, kc I⟩] w10 ⟨R10, HEA.out w10 SB10 SC10⟩ (by simp) (hK.below b10)
 rw [HCO.out, evalC, if_pos closed_trio] at q1
 have q1 : Calls Tryz.prog 12 #[.slice (some ⟨w9.heap.size, 0, none⟩) 3 3] w10 (fun e w' => ∃ v, e = .returned (.tuple #[.agg (sc v), .int .i64 0]) ∧ v.s = evalK hashK trio ∧ StW.In w' v ∧ Below w10.heap.size w10 w') := q1
 refine q1.mono ?_
 clear q1
 rintro e w11 ⟨v, rfl, hv, IV, k11⟩
 have hp : v.s.p = [pairC (kc I)] := by rw [hv, eval_trio, HI.out]
 have HP := aside hp
 have b11 := b10.trans (k11.mono b10.size)
 have B11 := B10.below k11
 have D11 := D10.below k11
 have E11 := E10.below k11
 have G11 := G10.below k11 G10.lt
 have SB11 := SB10.below k11
 have SC11 := SC10.below k11
 clear hv hp b10 B10 D10 E10 G10 SB10 SC10 k11 R10
 go_wp2_with (first | go_skip | (refine Cel.wpList_store_new SE rfl _ _ rfl w11 _ _ rfl v _ rfl rfl rfl rfl ?_; intro w12 V12 k12 g12 s12; have b12 := b11.trans (k12.mono b11.size); have B12 := B11.below k12; have D12 := D11.below k12; have E12 := E11.below k12; have G12 := G11.below k12 G11.lt; have SB12 := SB11.below k12; have SC12 := SC11.below k12; have IV12 := IV.below k12; clear b11 B11 D11 E11 G11 SB11 SC11 IV k12 g12 s12) | (refine Cel.wpList_load_box CE rfl _ rfl _ rfl va B12 ?_) | (refine Cel.wpList_load_box CE rfl _ rfl _ rfl (⟨some ⟨w5.heap.size, 0, none⟩, 1, kb I⟩ : Cv) D12 ?_) | (refine Cel.wpList_load_box CE rfl _ rfl _ rfl (⟨some ⟨w7.heap.size, 0, none⟩, 1, kc I⟩ : Cv) E12 ?_) | (refine lit3 rfl _ _ _ rfl va (⟨some ⟨w5.heap.size, 0, none⟩, 1, kb I⟩ : Cv) (⟨some ⟨w7.heap.size, 0, none⟩, 1, kc I⟩ : Cv) rfl rfl rfl ?_; intro w13 R13 k13; have b13 := b12.trans (k13.mono b12.size); have V13 := V12.below k13; have B13 := B12.below k13; have E13 := E12.below k13; have G13 := G12.below k13 G12.lt; have SB13 := SB12.below k13; have SC13 := SC12.below k13; have IV13 := IV12.below k13; clear b12 V12 B12 D12 E12 G12 SB12 SC12 IV12 k13) | (refine wpList_load_id rfl _ rfl _ _ rfl I G13.range ?_) | (refine build_one rfl _ rfl I rfl ?_; intro w14 S14 k14; have b14 := b13.trans (k14.mono b13.size); have R14 := R13.below k14; have V14 := V13.below k14; have B14 := B13.below k14; have E14 := E13.below k14; have SB14 := SB13.below k14; have SC14 := SC13.below k14; have IV14 := IV13.below k14; clear b13 R13 V13 B13 E13 G13 SB13 SC13 IV13 k14))
 have q2 := T.at_ _ _ 3 1 [va, ⟨some ⟨w5.heap.size, 0, none⟩, 1, kb I⟩, ⟨some ⟨w7.heap.size, 0, none⟩, 1, kc I⟩] [I] w14 ⟨R14, HEA.out w14 SB14 SC14⟩ S14 (by simp) (by simp) (hK.below b14)
 rw [HCO.out, atE, if_pos closed_trio] at q2
 have q2 : Calls Tryz.prog 14 #[.slice (some ⟨w12.heap.size, 0, none⟩) 3 3, .slice (some ⟨w13.heap.size, 0, none⟩) 1 1] w14 (fun e w' => ∃ v, e = .returned (.tuple #[.agg (sc v), .int .i64 0]) ∧ v.s = atK hashK trio [I] ∧ StW.In w' v ∧ Below w14.heap.size w14 w') := q2
 refine q2.mono ?_
 clear q2
 rintro e w15 ⟨u, rfl, hu, IU, k15⟩
 have hp : u.s.p = [pairC ka] := by rw [hu, ← HI.out, at_trio]
 have HU := aside hp
 have b15 := b14.trans (k15.mono b14.size)
 have B15 := B14.below k15
 have E15 := E14.below k15
 have V15 := V14.below k15
 have IV15 := IV14.below k15
 clear hu hp b14 B14 E14 V14 IV14 SB14 SC14 S14 R14 k15
 go_wp2_with (first | go_skip | (refine Cel.wpList_store_new SE rfl _ _ rfl w15 _ _ rfl u _ rfl rfl rfl rfl ?_; intro w16 U16 k16 g16 s16; have b16 := b15.trans (k16.mono b15.size); have B16 := B15.below k16; have E16 := E15.below k16; have V16 := V15.below k16; have IV16 := IV15.below k16; have IU16 := IU.below k16; clear b15 B15 E15 V15 IV15 IU k16 g16 s16))
 refine Grow.region [(0, true), (1, true), (2, true), (3, true), (4, true), (5, true), (6, true), (7, true), (8, true), (9, true), (10, true), (11, true), (12, true), (13, true), (14, true), (15, true), (16, true), (17, true), (18, true), (19, true), (20, true), (21, true), (22, true), (23, true), (24, true), (25, true), (26, true), (27, true), (28, true), (29, true), (30, true), (31, true), (32, true), (33, true), (34, true), (35, true), (36, true), (37, true), (38, true)] (by kernel_rfl) (by kernel_rfl) rfl (by kernel_rfl) (by intro c a d v w h; cases d <;> exact h) ?_
 have kd := below_drew1 (Below.refl w16.heap.size w16)
 have b17 := b16.trans (kd.mono b16.size)
 have B17 := B16.below kd
 have E17 := E16.below kd
 have V17 := V16.below kd
 have U17 := U16.below kd
 have IV17 := (IV16.below kd).p
 have IU17 := (IU16.below kd).p
 generalize w16.drew = wz at b17 B17 E17 V17 U17 IV17 IU17 ⊢
 clear b16 B16 E16 V16 U16 IV16 IU16 kd
 rw [HP.out] at IV17
 rw [HU.out] at IU17
 obtain ⟨p1, o1, e1, _, r1⟩ := IV17.plain (by simp)
 obtain ⟨p2, o2, e2, _, r2⟩ := IU17.plain (by simp)
 have r1 := r1 0 _ rfl
 have r2 := r2 0 _ rfl
 rw [Nat.zero_mul, Nat.add_zero] at r1 r2
 have l1 : v.s.p.length = 1 := by rw [HP.out]; rfl
 have l2 : u.s.p.length = 1 := by rw [HU.out]; rfl
 have g1 := Grow.grown (w := wz) (fun y hy => (box_cells (V17.below hy)).2.2)
 have g2 := Grow.grown (w := wz) (fun y hy => (box_cells (U17.below hy)).2.2)
 rw [l1, e1] at g1
 rw [l2, e2] at g2
 have t1 : wz.rangeAt p1 (o1 + 2) (EE.enc ⟨1, 1⟩) := fun j y hy => by
   have hj : j < 2 := (List.getElem?_eq_some_iff.1 hy).1
   rcases (by omega : j = 0 ∨ j = 1) with rfl | rfl
   · exact (Option.some.inj hy) ▸ r1 2 _ rfl
   · exact (Option.some.inj hy) ▸ r1 3 _ rfl
 have t2 : wz.rangeAt p2 (o2 + 2) (EE.enc ⟨0, 1⟩) := fun j y hy => by
   have hj : j < 2 := (List.getElem?_eq_some_iff.1 hy).1
   rcases (by omega : j = 0 ∨ j = 1) with rfl | rfl
   · exact (Option.some.inj hy) ▸ r2 2 _ rfl
   · exact (Option.some.inj hy) ▸ r2 3 _ rfl
 have t3 : wz.rangeAt w8.heap.size 0 (EE.enc ⟨1, 1⟩) := fun j y hy => by
   have hj : j < 2 := (List.getElem?_eq_some_iff.1 hy).1
   rcases (by omega : j = 0 ∨ j = 1) with rfl | rfl
   · exact (Option.some.inj hy) ▸ E17.cell (j := 0) rfl
   · exact (Option.some.inj hy) ▸ E17.cell (j := 1) rfl
 have t4 : wz.rangeAt w1.heap.size 0 (EE.enc ⟨0, 1⟩) := fun j y hy => by
   have hj : j < 2 := (List.getElem?_eq_some_iff.1 hy).1
   rcases (by omega : j = 0 ∨ j = 1) with rfl | rfl
   · exact (Option.some.inj hy) ▸ B17.cell (j := 0) rfl
   · exact (Option.some.inj hy) ▸ B17.cell (j := 1) rfl
 have hq1 : ∀ W, (binOp BinOp.eql 43 (.agg (EE.enc ⟨1, 1⟩).toArray) (.agg (EE.enc ⟨1, 1⟩).toArray)).run Tryz.prog W = .ok (.bool true) W := fun W => by kernel_rfl
 have hq2 : ∀ W, (binOp BinOp.eql 43 (.agg (EE.enc ⟨0, 1⟩).toArray) (.agg (EE.enc ⟨0, 1⟩).toArray)).run Tryz.prog W = .ok (.bool true) W := fun W => by kernel_rfl
 clear l1 l2 r1 r2 V17 U17 IV17 IU17 B17 E17
 repeat (first | (refine Grow.reads rfl rfl ?_; go_big_quiet_want; refine Cel.quiet_row EE _ rfl _ _ rfl ⟨1, 1⟩ t1 ?_; go_big_quiet_on; refine wpQuiet_nil ?_; (try simp only [Act.put, List.setIfInBounds_toArray, List.set_cons_succ, List.set_cons_zero])) | (refine Grow.reads rfl rfl ?_; go_big_quiet_want; refine Cel.quiet_row EE _ rfl _ _ rfl ⟨0, 1⟩ t2 ?_; go_big_quiet_on; refine wpQuiet_nil ?_; (try simp only [Act.put, List.setIfInBounds_toArray, List.set_cons_succ, List.set_cons_zero])) | (refine Grow.reads rfl rfl ?_; go_big_quiet_want; refine Cel.quiet_row EE _ rfl _ _ rfl ⟨1, 1⟩ t3 ?_; go_big_quiet_on; refine wpQuiet_nil ?_; (try simp only [Act.put, List.setIfInBounds_toArray, List.set_cons_succ, List.set_cons_zero])) | (refine Grow.reads rfl rfl ?_; go_big_quiet_want; refine Cel.quiet_row EE _ rfl _ _ rfl ⟨0, 1⟩ t4 ?_; go_big_quiet_on; refine wpQuiet_nil ?_; (try simp only [Act.put, List.setIfInBounds_toArray, List.set_cons_succ, List.set_cons_zero])) | (refine Grow.reads rfl rfl ?_; go_big_quiet_step (fail); refine wpQuiet_nil ?_))
 refine Grow.ends ?_
 go_wp2_with (first | go_skip)
 go_ret
 exact ⟨rfl, b17⟩
end Go.Proofs.YtgmdhaepiclkcaaGreatDoor.EaA
