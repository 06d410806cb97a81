/- What package state's Merge returns: a contract. | What the walks of the laws of package eval lean on: how long states are, and that they fit. No condition. | The commits of chapter 12's example: their bytes, their ids (each block's words and states stand here written out; the kernel holds them against the definitions), that they are closed, their last ones, their head, what comes next. No condition. | What the document's Find of package dag returns: a contract. | What the five functions of package front return, as the walks need it; what they are on the chapter's two commits. No condition. | What the walks of the laws of package front lean on. No condition. | An event, an operation and a result's cell, boxed; slices of two. No condition. | Plain facts on how the project finds last ones, what joins, and what comes next. No condition. | What comes next, told by numbers of 64 bits. No condition. -/
import Derived.Test.YtgmdhaepiclkcaaGreatDoorLayCompSJ7
import Derived.Test.YtgmdhaepiclkcaaGreatDoorOpenPJ18
import Derived.Test.YtgmdhaepiclkcaaGreatDoorGrowLJ3
import Derived.Test.YtgmdhaepiclkcaaGreatDoorEaAJ11
import Derived.Test.YtgmdhaepiclkcaaGreatDoorShaDJ4
import Derived.Test.YtgmdhaepiclkcaaGreatDoorCmTJ4
import Derived.Test.YtgmdhaepiclkcaaGreatDoorFrMJ4
import Derived.Test.YtgmdhaepiclkcaaGreatDoorDgNJ21
import Derived.Test.YtgmdhaepiclkcaaGreatDoorRowBJ2
namespace Go.Proofs.YtgmdhaepiclkcaaGreatDoor.StL
set_option maxRecDepth 100000
open Go Go.Sort Go.RowKit Byt OpsM Rise RowS StM StW StE
def W4 (w : World) (u v z : Sv) : World := (((w.alloc (.cells (sc u) 30)).alloc (.cells (sc v) 30)).alloc (.cells (sc z) 30)).alloc (.cells (sc noV) 30)
theorem W4_below (w : World) (u v z : Sv) : Below w.heap.size w (W4 w u v z) := ((((Below.refl _ _).alloc (Nat.le_refl _) _).alloc (by simp) _).alloc (by simp; omega) _).alloc (by simp; omega) _
theorem W4_size (w : World) (u v z : Sv) : (W4 w u v z).heap.size = w.heap.size + 4 := by simp [W4]
theorem W4_boxes (w : World) (u v z : Sv) : Cel.Box SE (W4 w u v z) w.heap.size u ∧ Cel.Box SE (W4 w u v z) (w.heap.size + 1) v ∧ Cel.Box SE (W4 w u v z) (w.heap.size + 2) z ∧ Cel.Box SE (W4 w u v z) (w.heap.size + 3) noV := by
 have z1 : (w.alloc (.cells (sc u) 30)).heap.size = w.heap.size + 1 := by simp
 have z2 : ((w.alloc (.cells (sc u) 30)).alloc (.cells (sc v) 30)).heap.size = w.heap.size + 2 := by simp
 have z3 : (((w.alloc (.cells (sc u) 30)).alloc (.cells (sc v) 30)).alloc (.cells (sc z) 30)).heap.size = w.heap.size + 3 := by simp
 refine ⟨(((Cel.Box.new (E := SE) w u 30).alloc _).alloc _).alloc _, ?_, ?_, ?_⟩
 · rw [← z1]
   exact ((Cel.Box.new (E := SE) _ v 30).alloc _).alloc _
 · rw [← z2]
   exact (Cel.Box.new (E := SE) _ z 30).alloc _
 · rw [← z3]
   exact Cel.Box.new (E := SE) _ noV 30
set_option maxRecDepth 100000 in
set_option maxHeartbeats 16000000 in
theorem merge_ret (u v z : Sv) (w : World) (S : In w u) (T : In w v) (Z : In w z) (fu : Fits u.s) (fv : Fits v.s) (fz : Fits z.s) (lu : Len 10000000 u.s) (lv : Len 10000000 v.s) (lz : Len 10000000 z.s) :
   Calls Tryz.prog 19 #[.agg (sc u), .agg (sc v), .agg (sc z)] w (StW.New (mergeS u.s v.s z.s) w) := by
 have kb := W4_below w u v z
 have hz := W4_size w u v z
 obtain ⟨R0, Q0, P0, X0⟩ := W4_boxes w u v z
 have S0 := S.below kb
 have T0 := T.below kb
 have Z0 := Z.below kb
 have q0 := fun W S => may_ret u W S fu lu
 have q1 := fun W S => may_ret v W S fv lv
 have q2 := fun W S => may_ret z W S fz lz
 have m0 := fun W S T Z => CtrD.merge_ret u.a0 u.k0 u.s.c v.a0 v.k0 v.s.c z.a0 z.k0 z.s.c W S T Z fu.c fv.c fz.c lu.c lv.c lz.c
 have m1 := fun W T Z => RegD.merge_ret v.a1 v.k1 v.s.r z.a1 z.k1 z.s.r W T Z fv.r fz.r (by have := lv.r; omega) (by have := lz.r; omega)
 have m2 := fun W S T Z => PairD.merge_ret u.a2 u.k2 u.s.p v.a2 v.k2 v.s.p z.a2 z.k2 z.s.p W S T Z fu.p fv.p fz.p (by have := lu.p; omega) (by have := lv.p; omega) (by have := lz.p; omega)
 obtain ⟨x, hx⟩ : ∃ x, mayS u.s = x := ⟨_, rfl⟩
 obtain ⟨y, hy⟩ : ∃ y, mayS v.s = y := ⟨_, rfl⟩
 obtain ⟨t, ht⟩ : ∃ t, mayS z.s = t := ⟨_, rfl⟩
 have HR : Hid (mergeS u.s v.s z.s = if (x && (y && t)) = true then some (joinS u.s v.s z.s) else none) := aside (by unfold mergeS okM; rw [hx, hy, ht])
 rw [hx] at q0
 rw [hy] at q1
 rw [ht] at q2
 clear S T Z fu fv fz lu lv lz hx hy ht
 go_enter Tryz.func19, Tryz.ntmps19
 go_wp2_with (first | go_skip | (refine CelG.gload SE _ rfl _ rfl u R0 rfl ?_))
 refine (q0 _ S0).mono ?_
 rintro _ w1 ⟨rfl, k1⟩
 have R1 := R0.below k1
 have Q1 := Q0.below k1
 have P1 := P0.below k1
 have X1 := X0.below k1
 have S1 := S0.below k1
 have T1 := T0.below k1
 have Z1 := Z0.below k1
 have b1 := kb.trans (k1.mono kb.size)
 have h1 : w.heap.size + 4 ≤ w1.heap.size := by rw [← hz]; exact k1.size
 clear q0 R0 Q0 P0 X0 S0 T0 Z0 k1 kb hz
 cases x with
 | false =>
   go_wp2_with (first | go_skip | (refine Cel.wpList_store_box SE rfl _ _ rfl (w.heap.size + 3) rfl noV X1 noV rfl ?_; intro u' X' b' g' s'))
   have k' := b1.trans (b' _ (by omega))
   obtain ⟨r0, r1, r2⟩ := box_cells X'
   refine bodyPost_ret (v := .tuple #[.agg (sc noV), .int .i64 1]) (by simp [results, Tryz.results19, go_sem, r0, r1, r2, sc]) rfl ⟨noV, by rw [HR.out]; rfl, by rw [HR.out]; rfl, In.none _, k'⟩
 | true =>
   go_wp2_with (first | go_skip | (refine CelG.gload SE _ rfl _ rfl v Q1 rfl ?_))
   refine (q1 _ T1).mono ?_
   rintro _ w2 ⟨rfl, k2⟩
   have R2 := R1.below k2
   have Q2 := Q1.below k2
   have P2 := P1.below k2
   have X2 := X1.below k2
   have S2 := S1.below k2
   have T2 := T1.below k2
   have Z2 := Z1.below k2
   have b2 := b1.trans (k2.mono b1.size)
   have h2 := Nat.le_trans h1 k2.size
   clear q1 R1 Q1 P1 X1 S1 T1 Z1 k2 b1 h1
   cases y with
   | false =>
     go_wp2_with (first | go_skip | (refine Cel.wpList_store_box SE rfl _ _ rfl (w.heap.size + 3) rfl noV X2 noV rfl ?_; intro u' X' b' g' s'))
     have k' := b2.trans (b' _ (by omega))
     obtain ⟨r0, r1, r2⟩ := box_cells X'
     refine bodyPost_ret (v := .tuple #[.agg (sc noV), .int .i64 1]) (by simp [results, Tryz.results19, go_sem, r0, r1, r2, sc]) rfl ⟨noV, by rw [HR.out]; rfl, by rw [HR.out]; rfl, In.none _, k'⟩
   | true =>
     go_wp2_with (first | go_skip | (refine CelG.gload SE _ rfl _ rfl z P2 rfl ?_))
     refine (q2 _ Z2).mono ?_
     rintro _ w3 ⟨rfl, k3⟩
     have R3 := R2.below k3
     have Q3 := Q2.below k3
     have P3 := P2.below k3
     have X3 := X2.below k3
     have S3 := S2.below k3
     have T3 := T2.below k3
     have Z3 := Z2.below k3
     have b3 := b2.trans (k3.mono b2.size)
     have h3 := Nat.le_trans h2 k3.size
     clear q2 R2 Q2 P2 X2 S2 T2 Z2 k3 b2 h2
     cases t with
     | false =>
       go_wp2_with (first | go_skip | (refine Cel.wpList_store_box SE rfl _ _ rfl (w.heap.size + 3) rfl noV X3 noV rfl ?_; intro u' X' b' g' s'))
       have k' := b3.trans (b' _ (by omega))
       obtain ⟨r0, r1, r2⟩ := box_cells X'
       refine bodyPost_ret (v := .tuple #[.agg (sc noV), .int .i64 1]) (by simp [results, Tryz.results19, go_sem, r0, r1, r2, sc]) rfl ⟨noV, by rw [HR.out]; rfl, by rw [HR.out]; rfl, In.none _, k'⟩
     | true =>
       go_wp2_with (first | go_skip)
       refine GrowT.region 21 (.free 0 (.free 1 (.free 2 (.free 3 (.free 4 (.free 5 (.free 7 (.free 8 (.free 9 (.free 10 (.free 12 (.free 13 (.free 14 (.free 15 (.free 16 (.free 17 (.two 6 (.two 11 (.two 18 (.free 19 (.act 20 (.act 21 .ends))) 20 (.act 18 (.free 19 (.act 21 .ends)))) 20 (.act 11 (.act 18 (.free 19 (.act 21 .ends))))) 20 (.act 6 (.act 11 (.act 18 (.free 19 (.act 21 .ends)))))))))))))))))))))) (by kernel_rfl) (by kernel_rfl) rfl (by kernel_rfl) (by intro c a d v w h; cases d <;> exact h) ?_
       have dr := below_drew1 (Below.refl w3.heap.size w3)
       have R4 := R3.below dr
       have Q4 := Q3.below dr
       have P4 := P3.below dr
       have X4 := X3.below dr
       have S4 := S3.below dr
       have T4 := T3.below dr
       have Z4 := Z3.below dr
       have b4 := b3.trans (dr.mono b3.size)
       have h4 : w.heap.size + 4 ≤ w3.drew.heap.size := h3
       generalize w3.drew = w4 at R4 Q4 P4 X4 S4 T4 Z4 b4 h4 ⊢
       clear R3 Q3 P3 X3 S3 T3 Z3 b3 h3 dr
       have c0 := Grow.grown (w := w4) (fun y hy => (box_cells (R4.below hy)).1)
       have c2 := Grow.grown (w := w4) (fun y hy => (box_cells (R4.below hy)).2.2)
       have d0 := Grow.grown (w := w4) (fun y hy => (box_cells (Q4.below hy)).1)
       have d1 := Grow.grown (w := w4) (fun y hy => (box_cells (Q4.below hy)).2.1)
       have d2 := Grow.grown (w := w4) (fun y hy => (box_cells (Q4.below hy)).2.2)
       have e0 := Grow.grown (w := w4) (fun y hy => (box_cells (P4.below hy)).1)
       have e1 := Grow.grown (w := w4) (fun y hy => (box_cells (P4.below hy)).2.1)
       have e2 := Grow.grown (w := w4) (fun y hy => (box_cells (P4.below hy)).2.2)
       repeat (refine GrowT.reads rfl rfl ?_; go_big_quiet_step (fail); refine wpQuiet_nil ?_)
       clear c0 c2 d0 d1 d2 e0 e1 e2 R4 Q4 P4
       refine GrowT.forks rfl rfl ?_ ?_
       · skip
         go_wp2_with fail
         refine (m0 _ S4.c T4.c Z4.c).mono ?_
         rintro _ w5 ⟨AF, CF, rfl, F5, k5⟩
         go_wp2_with fail
         refine ⟨k5, ?_⟩
         have X5 := X4.below k5
         have S5 := S4.below k5
         have T5 := T4.below k5
         have Z5 := Z4.below k5
         have b5 := b4.trans (k5.mono b4.size)
         have h5 := Nat.le_trans h4 k5.size
         clear m0 X4 S4 T4 Z4 b4 k5
         refine GrowT.forks rfl rfl ?_ ?_
         · skip
           go_wp2_with fail
           refine (m1 _ T5.r Z5.r).mono ?_
           rintro _ w6 ⟨AG, CG, rfl, G6, k6⟩
           go_wp2_with fail
           refine ⟨k6, ?_⟩
           have X6 := X5.below k6
           have S6 := S5.below k6
           have T6 := T5.below k6
           have Z6 := Z5.below k6
           have F6 := F5.below k6
           have b6 := b5.trans (k6.mono b5.size)
           have h6 := Nat.le_trans h5 k6.size
           clear m1 X5 S5 T5 Z5 F5 b5 k6
           refine GrowT.forks rfl rfl ?_ ?_
           · skip
             go_wp2_with fail
             refine (m2 _ S6.p T6.p Z6.p).mono ?_
             rintro _ w7 ⟨AH, CH, rfl, H7, k7⟩
             go_wp2_with fail
             refine ⟨k7, ?_⟩
             have X7 := X6.below k7
             have F7 := F6.below k7
             have G7 := G6.below k7
             have b7 := b6.trans (k7.mono b6.size)
             have h7 := Nat.le_trans h6 k7.size
             clear m2 X6 S6 T6 Z6 F6 G6 b6 k7
             try simp only [Act.put, List.setIfInBounds_toArray, List.set_cons_succ, List.set_cons_zero]
             repeat (refine GrowT.reads rfl rfl ?_; go_big_quiet_step (fail); refine wpQuiet_nil ?_)
             refine GrowT.acts rfl ?_
             go_wp2_with fail
             have k8 := below_alloc w7 (.cells (sc noV) 30)
             refine ⟨k8, ?_⟩
             change GrowT.Seq _ _ _ _ _ _ (w7.alloc (.cells (sc noV) 30))
             have Y8 : Cel.Box SE (w7.alloc (.cells (sc noV) 30)) w7.heap.size noV := Cel.Box.new (E := SE) w7 noV _
             have hg : w.heap.size + 4 ≤ w7.heap.size := h7
             obtain ⟨g, hge⟩ : ∃ g, w7.heap.size = g := ⟨_, rfl⟩
             have X8 := X7.below k8
             have F8 := F7.below k8
             have G8 := G7.below k8
             have H8 := H7.below k8
             have b8 := b7.trans (k8.mono b7.size)
             have h8 := Nat.le_trans h7 k8.size
             generalize w7.alloc (.cells (sc noV) 30) = w8 at X8 F8 G8 H8 Y8 b8 h8 ⊢
             clear X7 F7 G7 H7 b7 k8
             rw [hge] at Y8 hg
             simp only [hge]
             clear hge
             try simp only [Act.put, List.setIfInBounds_toArray, List.set_cons_succ, List.set_cons_zero]
             repeat (refine GrowT.reads rfl rfl ?_; go_big_quiet_step (fail); refine wpQuiet_nil ?_)
             refine GrowT.last rfl ?_
             go_wp2_with (refine Cel.wpList_store_box SE rfl _ _ rfl g rfl noV Y8 ⟨AF, CF, AG, CG, AH, CH, joinS u.s v.s z.s⟩ rfl ?_; intro wa Ya ba ga sa)
             refine GrowL.done ?_
             have Xa := X8.kept ga (by simp; omega)
             have Na : In wa ⟨AF, CF, AG, CG, AH, CH, joinS u.s v.s z.s⟩ := In.kept ⟨F8, G8, H8⟩ Y8 ga
             have ka := b8.trans (ba _ (by omega))
             go_wp2_with (first | go_skip | (refine CelG.gload SE _ rfl _ rfl ⟨AF, CF, AG, CG, AH, CH, joinS u.s v.s z.s⟩ Ya rfl ?_) | (refine Cel.wpList_store_box SE rfl _ _ rfl (w.heap.size + 3) rfl noV Xa ⟨AF, CF, AG, CG, AH, CH, joinS u.s v.s z.s⟩ rfl ?_; intro wb Xb bb gb sb))
             have Nb := Na.kept Xa gb
             have kb := ka.trans (bb _ (by omega))
             obtain ⟨r0, r1, r2⟩ := box_cells Xb
             refine bodyPost_ret (v := .tuple #[.agg (sc ⟨AF, CF, AG, CG, AH, CH, joinS u.s v.s z.s⟩), .int .i64 0]) (by simp [results, Tryz.results19, go_sem, r0, r1, r2, sc]) rfl ⟨_, by rw [HR.out]; rfl, by rw [HR.out]; rfl, Nb, kb⟩
           · skip
             go_wp2_with fail
             have k9 := below_alloc w6 (.cells (sc noV) 30)
             refine ⟨k9, ?_⟩
             change GrowT.Seq _ _ _ _ _ _ (w6.alloc (.cells (sc noV) 30))
             have Y9 : Cel.Box SE (w6.alloc (.cells (sc noV) 30)) w6.heap.size noV := Cel.Box.new (E := SE) w6 noV _
             have hg : w.heap.size + 4 ≤ w6.heap.size := h6
             obtain ⟨g, hge⟩ : ∃ g, w6.heap.size = g := ⟨_, rfl⟩
             have X9 := X6.below k9
             have S9 := S6.below k9
             have T9 := T6.below k9
             have Z9 := Z6.below k9
             have F9 := F6.below k9
             have G9 := G6.below k9
             have b9 := b6.trans (k9.mono b6.size)
             have h9 := Nat.le_trans h6 k9.size
             generalize w6.alloc (.cells (sc noV) 30) = w9 at X9 S9 T9 Z9 F9 G9 Y9 b9 h9 ⊢
             clear X6 S6 T6 Z6 F6 G6 b6 k9
             rw [hge] at Y9 hg
             simp only [hge]
             clear hge
             refine GrowT.acts rfl ?_
             go_wp2_with fail
             refine (m2 _ S9.p T9.p Z9.p).mono ?_
             rintro _ w10 ⟨AH, CH, rfl, H10, k10⟩
             go_wp2_with fail
             refine ⟨k10, ?_⟩
             have X10 := X9.below k10
             have F10 := F9.below k10
             have G10 := G9.below k10
             have Y10 := Y9.below k10
             have b10 := b9.trans (k10.mono b9.size)
             have h10 := Nat.le_trans h9 k10.size
             clear m2 X9 S9 T9 Z9 F9 G9 Y9 b9 k10
             try simp only [Act.put, List.setIfInBounds_toArray, List.set_cons_succ, List.set_cons_zero]
             repeat (refine GrowT.reads rfl rfl ?_; go_big_quiet_step (fail); refine wpQuiet_nil ?_)
             refine GrowT.last rfl ?_
             go_wp2_with (refine Cel.wpList_store_box SE rfl _ _ rfl g rfl noV Y10 ⟨AF, CF, AG, CG, AH, CH, joinS u.s v.s z.s⟩ rfl ?_; intro wa Ya ba ga sa)
             refine GrowL.done ?_
             have Xa := X10.kept ga (by simp; omega)
             have Na : In wa ⟨AF, CF, AG, CG, AH, CH, joinS u.s v.s z.s⟩ := In.kept ⟨F10, G10, H10⟩ Y10 ga
             have ka := b10.trans (ba _ (by omega))
             go_wp2_with (first | go_skip | (refine CelG.gload SE _ rfl _ rfl ⟨AF, CF, AG, CG, AH, CH, joinS u.s v.s z.s⟩ Ya rfl ?_) | (refine Cel.wpList_store_box SE rfl _ _ rfl (w.heap.size + 3) rfl noV Xa ⟨AF, CF, AG, CG, AH, CH, joinS u.s v.s z.s⟩ rfl ?_; intro wb Xb bb gb sb))
             have Nb := Na.kept Xa gb
             have kb := ka.trans (bb _ (by omega))
             obtain ⟨r0, r1, r2⟩ := box_cells Xb
             refine bodyPost_ret (v := .tuple #[.agg (sc ⟨AF, CF, AG, CG, AH, CH, joinS u.s v.s z.s⟩), .int .i64 0]) (by simp [results, Tryz.results19, go_sem, r0, r1, r2, sc]) rfl ⟨_, by rw [HR.out]; rfl, by rw [HR.out]; rfl, Nb, kb⟩
         · skip
           go_wp2_with fail
           have k11 := below_alloc w5 (.cells (sc noV) 30)
           refine ⟨k11, ?_⟩
           change GrowT.Seq _ _ _ _ _ _ (w5.alloc (.cells (sc noV) 30))
           have Y11 : Cel.Box SE (w5.alloc (.cells (sc noV) 30)) w5.heap.size noV := Cel.Box.new (E := SE) w5 noV _
           have hg : w.heap.size + 4 ≤ w5.heap.size := h5
           obtain ⟨g, hge⟩ : ∃ g, w5.heap.size = g := ⟨_, rfl⟩
           have X11 := X5.below k11
           have S11 := S5.below k11
           have T11 := T5.below k11
           have Z11 := Z5.below k11
           have F11 := F5.below k11
           have b11 := b5.trans (k11.mono b5.size)
           have h11 := Nat.le_trans h5 k11.size
           generalize w5.alloc (.cells (sc noV) 30) = w11 at X11 S11 T11 Z11 F11 Y11 b11 h11 ⊢
           clear X5 S5 T5 Z5 F5 b5 k11
           rw [hge] at Y11 hg
           simp only [hge]
           clear hge
           refine GrowT.acts rfl ?_
           go_wp2_with fail
           refine (m1 _ T11.r Z11.r).mono ?_
           rintro _ w12 ⟨AG, CG, rfl, G12, k12⟩
           go_wp2_with fail
           refine ⟨k12, ?_⟩
           have X12 := X11.below k12
           have S12 := S11.below k12
           have T12 := T11.below k12
           have Z12 := Z11.below k12
           have F12 := F11.below k12
           have Y12 := Y11.below k12
           have b12 := b11.trans (k12.mono b11.size)
           have h12 := Nat.le_trans h11 k12.size
           clear m1 X11 S11 T11 Z11 F11 Y11 b11 k12
           refine GrowT.acts rfl ?_
           go_wp2_with fail
           refine (m2 _ S12.p T12.p Z12.p).mono ?_
           rintro _ w13 ⟨AH, CH, rfl, H13, k13⟩
           go_wp2_with fail
           refine ⟨k13, ?_⟩
           have X13 := X12.below k13
           have F13 := F12.below k13
           have Y13 := Y12.below k13
           have G13 := G12.below k13
           have b13 := b12.trans (k13.mono b12.size)
           have h13 := Nat.le_trans h12 k13.size
           clear m2 X12 S12 T12 Z12 F12 Y12 G12 b12 k13
           try simp only [Act.put, List.setIfInBounds_toArray, List.set_cons_succ, List.set_cons_zero]
           repeat (refine GrowT.reads rfl rfl ?_; go_big_quiet_step (fail); refine wpQuiet_nil ?_)
           refine GrowT.last rfl ?_
           go_wp2_with (refine Cel.wpList_store_box SE rfl _ _ rfl g rfl noV Y13 ⟨AF, CF, AG, CG, AH, CH, joinS u.s v.s z.s⟩ rfl ?_; intro wa Ya ba ga sa)
           refine GrowL.done ?_
           have Xa := X13.kept ga (by simp; omega)
           have Na : In wa ⟨AF, CF, AG, CG, AH, CH, joinS u.s v.s z.s⟩ := In.kept ⟨F13, G13, H13⟩ Y13 ga
           have ka := b13.trans (ba _ (by omega))
           go_wp2_with (first | go_skip | (refine CelG.gload SE _ rfl _ rfl ⟨AF, CF, AG, CG, AH, CH, joinS u.s v.s z.s⟩ Ya rfl ?_) | (refine Cel.wpList_store_box SE rfl _ _ rfl (w.heap.size + 3) rfl noV Xa ⟨AF, CF, AG, CG, AH, CH, joinS u.s v.s z.s⟩ rfl ?_; intro wb Xb bb gb sb))
           have Nb := Na.kept Xa gb
           have kb := ka.trans (bb _ (by omega))
           obtain ⟨r0, r1, r2⟩ := box_cells Xb
           refine bodyPost_ret (v := .tuple #[.agg (sc ⟨AF, CF, AG, CG, AH, CH, joinS u.s v.s z.s⟩), .int .i64 0]) (by simp [results, Tryz.results19, go_sem, r0, r1, r2, sc]) rfl ⟨_, by rw [HR.out]; rfl, by rw [HR.out]; rfl, Nb, kb⟩
       · skip
         go_wp2_with fail
         have k14 := below_alloc w4 (.cells (sc noV) 30)
         refine ⟨k14, ?_⟩
         change GrowT.Seq _ _ _ _ _ _ (w4.alloc (.cells (sc noV) 30))
         have Y14 : Cel.Box SE (w4.alloc (.cells (sc noV) 30)) w4.heap.size noV := Cel.Box.new (E := SE) w4 noV _
         have hg : w.heap.size + 4 ≤ w4.heap.size := h4
         obtain ⟨g, hge⟩ : ∃ g, w4.heap.size = g := ⟨_, rfl⟩
         have X14 := X4.below k14
         have S14 := S4.below k14
         have T14 := T4.below k14
         have Z14 := Z4.below k14
         have b14 := b4.trans (k14.mono b4.size)
         have h14 := Nat.le_trans h4 k14.size
         generalize w4.alloc (.cells (sc noV) 30) = w14 at X14 S14 T14 Z14 Y14 b14 h14 ⊢
         clear X4 S4 T4 Z4 b4 k14
         rw [hge] at Y14 hg
         simp only [hge]
         clear hge
         refine GrowT.acts rfl ?_
         go_wp2_with fail
         refine (m0 _ S14.c T14.c Z14.c).mono ?_
         rintro _ w15 ⟨AF, CF, rfl, F15, k15⟩
         go_wp2_with fail
         refine ⟨k15, ?_⟩
         have X15 := X14.below k15
         have S15 := S14.below k15
         have T15 := T14.below k15
         have Z15 := Z14.below k15
         have Y15 := Y14.below k15
         have b15 := b14.trans (k15.mono b14.size)
         have h15 := Nat.le_trans h14 k15.size
         clear m0 X14 S14 T14 Z14 Y14 b14 k15
         refine GrowT.acts rfl ?_
         go_wp2_with fail
         refine (m1 _ T15.r Z15.r).mono ?_
         rintro _ w16 ⟨AG, CG, rfl, G16, k16⟩
         go_wp2_with fail
         refine ⟨k16, ?_⟩
         have X16 := X15.below k16
         have S16 := S15.below k16
         have T16 := T15.below k16
         have Z16 := Z15.below k16
         have Y16 := Y15.below k16
         have F16 := F15.below k16
         have b16 := b15.trans (k16.mono b15.size)
         have h16 := Nat.le_trans h15 k16.size
         clear m1 X15 S15 T15 Z15 Y15 F15 b15 k16
         refine GrowT.acts rfl ?_
         go_wp2_with fail
         refine (m2 _ S16.p T16.p Z16.p).mono ?_
         rintro _ w17 ⟨AH, CH, rfl, H17, k17⟩
         go_wp2_with fail
         refine ⟨k17, ?_⟩
         have X17 := X16.below k17
         have Y17 := Y16.below k17
         have F17 := F16.below k17
         have G17 := G16.below k17
         have b17 := b16.trans (k17.mono b16.size)
         have h17 := Nat.le_trans h16 k17.size
         clear m2 X16 S16 T16 Z16 Y16 F16 G16 b16 k17
         try simp only [Act.put, List.setIfInBounds_toArray, List.set_cons_succ, List.set_cons_zero]
         repeat (refine GrowT.reads rfl rfl ?_; go_big_quiet_step (fail); refine wpQuiet_nil ?_)
         refine GrowT.last rfl ?_
         go_wp2_with (refine Cel.wpList_store_box SE rfl _ _ rfl g rfl noV Y17 ⟨AF, CF, AG, CG, AH, CH, joinS u.s v.s z.s⟩ rfl ?_; intro wa Ya ba ga sa)
         refine GrowL.done ?_
         have Xa := X17.kept ga (by simp; omega)
         have Na : In wa ⟨AF, CF, AG, CG, AH, CH, joinS u.s v.s z.s⟩ := In.kept ⟨F17, G17, H17⟩ Y17 ga
         have ka := b17.trans (ba _ (by omega))
         go_wp2_with (first | go_skip | (refine CelG.gload SE _ rfl _ rfl ⟨AF, CF, AG, CG, AH, CH, joinS u.s v.s z.s⟩ Ya rfl ?_) | (refine Cel.wpList_store_box SE rfl _ _ rfl (w.heap.size + 3) rfl noV Xa ⟨AF, CF, AG, CG, AH, CH, joinS u.s v.s z.s⟩ rfl ?_; intro wb Xb bb gb sb))
         have Nb := Na.kept Xa gb
         have kb := ka.trans (bb _ (by omega))
         obtain ⟨r0, r1, r2⟩ := box_cells Xb
         refine bodyPost_ret (v := .tuple #[.agg (sc ⟨AF, CF, AG, CG, AH, CH, joinS u.s v.s z.s⟩), .int .i64 0]) (by simp [results, Tryz.results19, go_sem, r0, r1, r2, sc]) rfl ⟨_, by rw [HR.out]; rfl, by rw [HR.out]; rfl, Nb, kb⟩
end Go.Proofs.YtgmdhaepiclkcaaGreatDoor.StL
namespace Go.Proofs.YtgmdhaepiclkcaaGreatDoor.EaW
set_option maxRecDepth 100000
open Go Go.Sort Go.RowKit Byt IdM IdW OpsM OpsW CmM StW CmW CmX CmY DgM DgW DgR DgF FrM FrN EaM EaN EaH EaS
open Classical
theorem same_self (s : StM.St) : StR.sameS s s = true := StR.sameS_iff.2 rfl
theorem wide_all {l : List Cv} (h : ∀ v ∈ l, CmW.Fit v.c) : ∀ c ∈ coms l, Wide c := fun c hc => by
 obtain ⟨v, hv, rfl⟩ := List.mem_map.1 hc
 exact wide_of (h v hv)
theorem eval_all {l : List Com} (C : Closed hashK l) (hw : ∀ c ∈ l, Wide c) : StM.mayS (evalK hashK l) = true ∧ Fits (evalK hashK l) ∧ Len l.length (evalK hashK l) := by
 have := up_facts (fine_all C) hw l.length
 rwa [up_all] at this
theorem do_next {l : List Com} {c : Com} (C : Closed hashK l) (D : Closed hashK (l ++ [c])) (hp : c.ps = front hashK l) : StM.doS (evalK hashK l) c.op c.node c.seq c.gen = some (evalK hashK (l ++ [c])) := by
 have hc := fine_all D c (by simp)
 unfold StM.doS
 rw [if_pos (StM.okD_iff.2 ⟨eval_may (fine_all C), hc.op, hc.ev, hc.gen⟩), eval_next C D hp]
theorem eval_of {l : List Com} (C : Closed hashK l) : evalC l = some (evalK hashK l) := if_pos C
end Go.Proofs.YtgmdhaepiclkcaaGreatDoor.EaW
namespace Go.Proofs.YtgmdhaepiclkcaaGreatDoor.FrJ
set_option maxRecDepth 100000
open Go RotM RotN ShaM ShaD PadM SumM ShaK Byt EncM EncC IdM IdW OpsM OpsW CmM CmW CmY CmA DgM FrM FrN
open Classical
end Go.Proofs.YtgmdhaepiclkcaaGreatDoor.FrJ
namespace Go.Proofs.YtgmdhaepiclkcaaGreatDoor.DgG
set_option maxRecDepth 100000
open Go Go.Sort Go.RowKit Byt IdM IdW OpsM OpsW CmM StW CmW CmX CmY DgM DgN DgW DgR
def FoundC (q : Option Com) (w : World) (e : Ending) (w' : World) : Prop := ∃ v, e = .returned (.tuple #[.agg (cc v), .bool q.isSome]) ∧ v.c = q.getD noK ∧ CmW.In w' v ∧ Fit v.c ∧ Below w.heap.size w w'
theorem results_cb {fn : Func} {p q : Tmp} (h : fn.results = #[.cell p 47, .tmp q]) (tmps : Array Value) (w : World) (g : Nat) (v : Cv) (x : Value)
   (hp : tmps.getD p undef = .pointer (some ⟨g, 0, none⟩)) (hq : tmps.getD q undef = x) (hg : Cel.Box CE w g v) : (results fn tmps).run Tryz.prog w = .ok (.tuple #[.agg (cc v), x]) w := by
 obtain ⟨t, ht⟩ := hg
 have hp' : tmps[p]?.getD undef = .pointer (some ⟨g, 0, none⟩) := by simpa using hp
 have hq' : tmps[q]?.getD undef = x := by simpa using hq
 have hl := run_loadVar_row w g t 47 (CE.enc v).toArray (0, 0) _ ht CE.under CE.row (CE.size' v)
 simp [results, h, hp', hq', asAddr, hl]
 rfl
theorem fit_noK : CmW.Fit noK := ⟨by unfold I64; decide, by unfold I64; decide, by unfold I64; decide, by constructor <;> first | (unfold I64; decide) | decide⟩
end Go.Proofs.YtgmdhaepiclkcaaGreatDoor.DgG
namespace Go.Proofs.YtgmdhaepiclkcaaGreatDoor.FrH
set_option maxRecDepth 100000
open Go Go.Sort Go.RowKit Byt IdM IdW OpsM OpsW CmM StW CmW CmX CmY CmA DgM DgW DgR DgF DgG FrM FrN FrJ
open Classical
noncomputable def frontC (l : List Com) : List Idn := if Closed hashK l then front hashK l else []
noncomputable def nextC (l : List Com) (ev : Ev) (o : Opn) : Option Com := next hashK l ev.node ev.seq o
end Go.Proofs.YtgmdhaepiclkcaaGreatDoor.FrH
namespace Go.Proofs.YtgmdhaepiclkcaaGreatDoor.FrU
set_option maxRecDepth 100000
open Go Go.Sort Go.RowKit Byt IdM IdW OpsM OpsW CmM StW CmW CmX CmY CmA DgM DgW DgR DgC DgF DgG FrM FrN FrJ FrH
open Classical
theorem okay_few {l : List Cv} {m : Int} (S : ∀ v ∈ l, Fit v.c) (h : fewD (coms l) m = true) : (∀ v ∈ l, CmR.Okay v.c) ∧ (l.length : Int) ≤ m := by
 unfold fewD at h
 rw [Bool.and_eq_true, decide_eq_true_eq, coms_len, List.all_eq_true] at h
 refine ⟨fun v hv => ?_, h.1⟩
 exact CmX.okay (h.2 v.c (List.mem_map_of_mem hv)) (S v hv)
theorem all_ids {l : List Com} (C : Closed hashK l) : idsD l = l.map hashK := by rw [idsD, if_pos (closed_may C)]
end Go.Proofs.YtgmdhaepiclkcaaGreatDoor.FrU
namespace Go.Proofs.YtgmdhaepiclkcaaGreatDoor.FrY
set_option maxRecDepth 100000
open Go Go.Sort Go.RowKit Byt IdM IdW OpsM OpsW CmM StW CmW CmX CmY DgM DgW
def OE : Cel.Cel Opn where
 T := 45
 k := 4
 bytes := 48
 d := _
 enc o := [.int .i64 o.kind, .string o.key, .string o.elem, .int .i64 o.n]
 zero := noO
 len _ := rfl
 one c v hv := by
   simp only [List.mem_cons, List.not_mem_nil, or_false] at hv
   rcases hv with rfl | rfl | rfl | rfl <;> rfl
 pos := by omega
 info := by kernel_rfl
 under := Tryz.underlying45
 row := rfl
def W3 (w : World) (e : Ev) (o : Opn) : World := ((w.alloc (.cells (ec e) 43)).alloc (.cells (opc o) 45)).alloc (.cells #[.int .i64 0, .int .i64 0, .int .i64 0, .slice none 0 0, .int .i64 0, .string ⟨#[]⟩, .string ⟨#[]⟩, .int .i64 0] 47)
theorem W3_below (w : World) (e : Ev) (o : Opn) : Below w.heap.size w (W3 w e o) := (((Below.refl _ _).alloc (Nat.le_refl _) _).alloc (by simp) _).alloc (by simp; omega) _
theorem W3_boxes (w : World) (e : Ev) (o : Opn) : Cel.Box EE (W3 w e o) w.heap.size e ∧ Cel.Box OE (W3 w e o) (w.heap.size + 1) o ∧ Cel.Box CE (W3 w e o) (w.heap.size + 1 + 1) noV := by
 have z1 : (w.alloc (.cells (ec e) 43)).heap.size = w.heap.size + 1 := by simp
 have z2 : ((w.alloc (.cells (ec e) 43)).alloc (.cells (opc o) 45)).heap.size = w.heap.size + 1 + 1 := by simp
 refine ⟨((Cel.Box.new (E := EE) w e 43).alloc _).alloc _, ?_, ?_⟩
 · rw [← z1]
   exact (Cel.Box.new (E := OE) _ o 45).alloc _
 · rw [← z2]
   exact Cel.Box.new (E := CE) _ noV 47
def W2 (w : World) (e : Ev) (o : Opn) : World := (w.alloc (.cells (ec e) 43)).alloc (.cells (opc o) 45)
theorem W2_below (w : World) (e : Ev) (o : Opn) : Below w.heap.size w (W2 w e o) := ((Below.refl _ _).alloc (Nat.le_refl _) _).alloc (by simp) _
theorem W2_boxes (w : World) (e : Ev) (o : Opn) : Cel.Box EE (W2 w e o) w.heap.size e ∧ Cel.Box OE (W2 w e o) (w.heap.size + 1) o := by
 have z1 : (w.alloc (.cells (ec e) 43)).heap.size = w.heap.size + 1 := by simp
 refine ⟨(Cel.Box.new (E := EE) w e 43).alloc _, ?_⟩
 rw [← z1]
 exact Cel.Box.new (E := OE) _ o 45
theorem two_cells (w : World) (x y : Value) (t : TypeId) : (w.alloc (.cells #[x, y] t)).cell? ⟨w.heap.size, 0, none⟩ = some x ∧ (w.alloc (.cells #[x, y] t)).cell? ⟨w.heap.size, 1, none⟩ = some y := by
 constructor
 · rw [cell_of_row _ _ 0 _ t (0, 0) (heap_alloc_new w _)]
   rfl
 · rw [cell_of_row _ _ 1 _ t (0, 0) (heap_alloc_new w _)]
   rfl
theorem build_com4 (ev : Ev) (g : Int) (A : Option Addr) (n k : Nat) (o : Opn) (w : World) : (Instr.build 47 #[(0, .agg (EE.enc ev).toArray), (1, .int .i64 g), (2, .slice A n k), (3, .agg (OE.enc o).toArray)]).run Tryz.prog w = .ok (.agg #[.int .i64 ev.node, .int .i64 ev.seq, .int .i64 g, .slice A n k, .int .i64 o.kind, .string o.key, .string o.elem, .int .i64 o.n]) w := by kernel_rfl
theorem quiet_build4 {a : Act} {o : Oper} {K : Act → Prop} {w : World} (x y z u : Operand) (ho : o.op = .build 47 #[(0, x), (1, y), (2, z), (3, u)]) (X Y Z U v : Value) (hx : a.eval x = X) (hy : a.eval y = Y) (hz : a.eval z = Z) (hu : a.eval u = U)
   (hb : ∀ W, (Instr.build 47 #[(0, X), (1, Y), (2, Z), (3, U)]).run Tryz.prog W = .ok v W) (hk : K (a.put o.dst v)) : o.quiet Tryz.prog a (fun w' => ∃ p : Regrown, w' = grow (redrawn w p.d) p.os) K := by
 refine ⟨v, fun u hu' => ?_, hk⟩
 unfold Oper.quietAt execOp
 simp only [ho, List.map_toArray, List.map_cons, List.map_nil, hx, hy, hz, hu, Sem.run_bind, hb u, Result.andThen_ok, Sem.run_pure]
 exact ⟨rfl, rfl⟩
theorem sl_both {w : World} {base n : Nat} {v : Value} {l m : List Cv} (h : w.ownsRow base 47 8 v n (RowS.flat KE (l ++ m))) (hl : ∀ x ∈ l, CmW.In w x ∧ Fit x.c) (hm : ∀ x ∈ m, CmW.In w x ∧ Fit x.c) :
   ∃ A cap, v = .slice A (l ++ m).length cap ∧ SlK w A cap (l ++ m) := by
 obtain ⟨A, cap, e, S⟩ := RowS.SlR.own (E := KE) h
 refine ⟨A, cap, e, S, fun x hx => ?_⟩
 rcases List.mem_append.1 hx with hx | hx
 · exact hl x hx
 · exact hm x hx
theorem coms_one (l : List Cv) (x : Cv) : coms (l ++ [x]) = coms l ++ [x.c] := by unfold coms; rw [List.map_append]; rfl
end Go.Proofs.YtgmdhaepiclkcaaGreatDoor.FrY
namespace Go.Proofs.YtgmdhaepiclkcaaGreatDoor.FrK
set_option maxRecDepth 100000
open IdM CmM DgM DgX FrM FrN
open Classical
section
variable {H : Com → Idn}
def pars (l : List Com) : List Idn := l.flatMap (·.ps)
theorem mem_pars {l : List Com} {x : Idn} : x ∈ pars l ↔ ¬ Last l x := by
 unfold pars Last
 rw [List.mem_flatMap]
 constructor
 · rintro ⟨c, hc, hx⟩ h
   exact h c hc hx
 · intro h
   apply Classical.byContradiction
   intro k
   exact h fun c hc hx => k ⟨c, hc, hx⟩
theorem front_of {l : List Com} {own : List Idn} (h : ∀ x, x ∈ own ↔ x ∈ l.map H) : without own (pars l) = front H l := by
 refine rising_uniq (rising_without _ _) (rising_front l) fun x => ?_
 rw [mem_without, mem_front, h, mem_pars, Classical.not_not]
theorem closed_low {l : List Com} {c : Com} (D : Closed H (l ++ [c])) (hg : ∀ d ∈ l, d.gen < c.gen) : Closed H l := by
 have hn := D.nodup
 rw [List.map_append, List.nodup_append] at hn
 have hne : ∀ d ∈ l, H d ≠ H c := fun d hd => hn.2.2 _ (List.mem_map_of_mem hd) (H c) (by simp)
 have e : DgM.part H (l ++ [c]) (· ≠ H c) = l := by
   unfold DgM.part
   rw [List.filter_append, List.filter_eq_self.2 fun d hd => by simpa using hne d hd]
   simp
 rw [← e]
 refine closed_part D fun d hd hdc a ha => ?_
 rintro rfl
 have hdl : d ∈ l := by
   rcases List.mem_append.1 hd with h | h
   · exact h
   · rw [List.mem_singleton.1 h] at hdc
     exact absurd rfl hdc
 have h1 := D.gen d hd
 have h2 := le_most (List.mem_map_of_mem (f := gAt H (l ++ [c])) ha)
 rw [gAt_of D.nodup (by simp : c ∈ l ++ [c])] at h2
 have := hg d hdl
 omega
theorem next_if {l : List Com} {node seq : Int} {o : OpsM.Opn} {g : Int} {ps : List Idn} (hC : Closed H l → g = most (l.map (·.gen)) + 1 ∧ ps = front H l) (hN : ¬ Closed H l → Closed H (l ++ [⟨node, seq, g, ps, o⟩]) → ∀ d ∈ l, d.gen < g) :
   next H l node seq o = if Closed H (l ++ [⟨node, seq, g, ps, o⟩]) then some ⟨node, seq, g, ps, o⟩ else none := by
 unfold next
 by_cases C : Closed H l
 · obtain ⟨rfl, rfl⟩ := hC C
   by_cases D : Closed H (l ++ [nextK H l node seq o])
   · rw [if_pos ⟨C, D.may _ (by simp), D⟩]
     exact (if_pos D).symm
   · rw [if_neg fun h => D h.2.2]
     exact (if_neg D).symm
 · rw [if_neg fun h => C h.1, if_neg fun D => C (closed_low D (hN C D))]
end
end Go.Proofs.YtgmdhaepiclkcaaGreatDoor.FrK
namespace Go.Proofs.YtgmdhaepiclkcaaGreatDoor.FrZ
set_option maxRecDepth 100000
open Go Go.Sort Go.RowKit Byt IdM IdW OpsM OpsW CmM StW CmW CmX CmY DgM DgX DgW FrM FrN FrH FrK
open Classical
theorem most_bound {l : List Com} (h : ∀ c ∈ l, I64 c.gen) : 0 ≤ most (l.map (·.gen)) ∧ most (l.map (·.gen)) ≤ 9223372036854775807 := by
 refine ⟨most_nonneg _, most_le (by omega) fun g hg => ?_⟩
 obtain ⟨c, hc, rfl⟩ := List.mem_map.1 hg
 have := h c hc
 unfold I64 at this
 show c.gen ≤ _
 omega
theorem most_small {l : List Com} (C : Closed hashK l) : most (l.map (·.gen)) ≤ l.length := most_le (by omega) fun g hg => by
 obtain ⟨c, hc, rfl⟩ := List.mem_map.1 hg
 exact (gen_len C c hc).2
theorem wrap_one (n : Int) : I64 (IntKind.i64.wrap n) := by
 unfold I64
 rw [IntKind.wrap_i64]
 omega
theorem next_wrap {l : List Com} {ev : Ev} {o : Opn} (hf : ∀ c ∈ l, I64 c.gen) (hl : l.length ≤ 1000) :
   nextC l ev o = if Closed hashK (l ++ [⟨ev.node, ev.seq, IntKind.i64.wrap (most (l.map (·.gen)) + 1), frontC l, o⟩]) then some ⟨ev.node, ev.seq, IntKind.i64.wrap (most (l.map (·.gen)) + 1), frontC l, o⟩ else none := by
 obtain ⟨h0, h1⟩ := most_bound hf
 refine next_if (fun C => ⟨?_, by rw [frontC, if_pos C]⟩) fun _ D d hd => ?_
 · have := most_small C
   rw [IntKind.wrap_i64]
   omega
 · have h2 := (lineB_iff.1 (mayK_iff.1 (D.may _ (List.mem_append_right _ (List.mem_singleton_self _)))).1).1
   have h3 := le_most (List.mem_map_of_mem (f := (·.gen)) hd)
   have h2 : 1 ≤ IntKind.i64.wrap (most (l.map (·.gen)) + 1) := h2
   rw [IntKind.wrap_i64] at h2 ⊢
   have h3 : d.gen ≤ most (l.map (·.gen)) := h3
   omega
theorem next_some {l : List Com} {ev : Ev} {o : Opn} {c : Com} (h : nextC l ev o = some c) : Closed hashK l ∧ Closed hashK (l ++ [c]) ∧ c.ps = front hashK l ∧ c.node = ev.node ∧ c.seq = ev.seq ∧ c.op = o := by
 unfold nextC next at h
 by_cases k : Closed hashK l ∧ mayK (nextK hashK l ev.node ev.seq o) = true ∧ Closed hashK (l ++ [nextK hashK l ev.node ev.seq o])
 · rw [if_pos k] at h
   obtain rfl := Option.some.inj h
   exact ⟨k.1, k.2.2, rfl, rfl, rfl, rfl⟩
 · rw [if_neg k] at h
   cases h
end Go.Proofs.YtgmdhaepiclkcaaGreatDoor.FrZ
