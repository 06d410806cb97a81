/- What the laws' Two of package dag returns: a contract. | The chapter's own example: 'awake' of the laws of package wait returns true, where its three functions return what Put1, Ready1 and Missing1 say. No condition. | Plain facts on clocks: of commits that are closed, the greatest Seq of each Node tells all that is known. No condition. -/
import Derived.Test.YteojkfbnenfmkaaDoorDgJ
import Derived.Test.YteojkfbnenfmkaaDoorIdBJ5
import Derived.Test.YteojkfbnenfmkaaDoorDgKJ8
import Derived.Test.YteojkfbnenfmkaaDoorGrow
import Derived.Test.YteojkfbnenfmkaaDoorCmA
import Derived.Test.YteojkfbnenfmkaaDoorDgMJ2
namespace Go.Proofs.YteojkfbnenfmkaaDoor.DgE
set_option maxRecDepth 100000
open Go Go.Sort Go.RowKit Byt IdM IdW OpsM OpsW CmM StW CmW CmX CmY CmA DgM DgW DgJ

set_option maxRecDepth 100000 in
set_option maxHeartbeats 16000000 in
theorem two_ret (w : World) (hK : ShaE.KIn w) : Calls Tryd.prog 22 #[] w fun e w' => ∃ A cap l, e = .returned (.slice A (List.length l) cap) ∧ SlK w' A cap l ∧ coms l = two ∧ Below w.heap.size w w' := by
  have hch := fun W K => hash_ret v1 W (in1 W) fit1 K
  unfold HashOut at hch
  obtain ⟨y1, y2, y3⟩ := putB_yes may1
  rw [show hashI v1.c = I1 from y3.trans id1, show putN v1.c = 0 from y2] at hch
  clear y1 y2 y3
  have F2 : CmW.Fit (c2 I1) := ⟨⟨by decide, by decide⟩, ⟨by decide, by decide⟩, ⟨by decide, by decide⟩, ⟨⟨by decide, by decide⟩, ⟨by decide, by decide⟩, of_decide_eq_true (by kernel_rfl), of_decide_eq_true (by kernel_rfl)⟩⟩
  have HF2 := aside F2
  clear F2
  obtain ⟨I, hI⟩ : ∃ I, I1 = I := ⟨_, rfl⟩
  rw [hI] at hch HF2
  have HI := aside hI
  clear hI
  go_enter Tryd.func22, Tryd.ntmps22
  go_wp2_with (first | go_skip)
  refine (some_ret _).mono ?_
  rintro e w1 ⟨rfl, k1⟩
  go_wp2_with (first | go_skip | (refine Cel.wpList_store_new CE rfl _ _ rfl w1 _ _ rfl v1 _ rfl rfl rfl rfl ?_; intro w2 B2 k2 g2 s2; have b2 := k1.trans (k2.mono k1.size); clear s2) | (refine Cel.wpList_load_box CE rfl _ rfl _ rfl v1 B2 ?_))
  refine (hch _ (hK.below b2)).mono ?_
  rintro e w3 ⟨rfl, k3⟩
  have b3 := b2.trans (k3.mono b2.size)
  have B3 := B2.below k3
  clear hch g2 B2 k3 b2
  go_wp2_with (first | go_skip | (refine IdJ.wpList_alloc_id rfl rfl ?_) | (refine CmG.wpList_store_id rfl _ _ rfl _ nought _ rfl I _ rfl rfl rfl ?_; intro w4 G4 k4 s4; have b4 := b3.trans (k4.mono b3.size); have B4 := B3.below k4; clear s4) | (refine Cel.wpList_load_box CE rfl _ rfl _ rfl v1 B4 ?_) | (refine wpList_load_id rfl _ rfl _ _ rfl I G4.range ?_) | (refine build_one rfl _ rfl I rfl ?_; intro w5 S5 k5; have b5 := b4.trans (k5.mono b4.size)) | (refine RowC.wpList_lit2 KE (of_decide_eq_true rfl) rfl _ _ rfl v1 (⟨some ⟨w4.heap.size, 0, none⟩, 1, c2 I⟩ : Cv) rfl rfl ?_; intro w6 S6 k6; have b6 := b5.trans (k6.mono b5.size)))
  go_ret
  refine ⟨some ⟨w5.heap.size, 0, none⟩, 2, [v1, ⟨some ⟨w4.heap.size, 0, none⟩, 1, c2 I⟩], rfl, ⟨S6, fun v hv => ?_⟩, ?_, b6⟩
  · rcases List.mem_cons.1 hv with rfl | hv
    · exact ⟨in1 _, fit1⟩
    · rw [List.mem_singleton] at hv
      subst hv
      exact ⟨S5.below k6, HF2.out⟩
  · rw [two, HI.out]
    rfl
end Go.Proofs.YteojkfbnenfmkaaDoor.DgE
namespace Go.Proofs.YteojkfbnenfmkaaDoor.WtV
set_option maxRecDepth 100000
open Go Go.Sort Go.RowKit Byt IdM IdW OpsM OpsW CmM StW CmW CmX CmY CmA DgM DgW DgR DgF DgJ WtM WtF
open Classical

theorem two2_ret (w : World) (hK : ShaE.KIn w) : Calls Tryd.prog 22 #[] w fun e w' => ∃ A cap x0 x1, e = .returned (.slice A 2 cap) ∧ SlK w' A cap [x0, x1] ∧ x0.c = c1 ∧ x1.c = c2 I1 ∧ Below w.heap.size w w' := by
  refine (DgE.two_ret w hK).mono ?_
  rintro e w' ⟨A, cap, l, rfl, S, h, k⟩
  have hl : l.length = 2 := by rw [← coms_len, h]; rfl
  obtain ⟨x0, x1, rfl⟩ : ∃ x0 x1, l = [x0, x1] := by
    match l, hl with
    | [x0, x1], _ => exact ⟨x0, x1, rfl⟩
  unfold coms two at h
  simp only [List.map_cons, List.map_nil, List.cons.injEq, and_true] at h
  exact ⟨A, cap, x0, x1, rfl, S, h.1, h.2, k⟩
theorem wait2 : waitB (c2 I1) = true := by
  unfold waitB
  rw [may2, nom2]
  rfl
theorem put_one : putW [] (c2 I1) = [c2 I1] := by
  rw [putW_yes wait2 (by simp)]
  rfl
theorem free_no : freeB [] (c2 I1) = false := by
  unfold freeB
  exact decide_eq_false fun h => by
    have := h I1 (by simp [c2])
    simp at this
theorem free_yes : freeB [I1] (c2 I1) = true := by
  unfold freeB
  exact decide_eq_true fun a ha => by simpa [c2] using ha
theorem ready_no : readyI [c2 I1] [] = none := readyI_no fun c hc => by rw [List.mem_singleton.1 hc]; exact free_no
theorem ready_yes : readyI [c2 I1] [I1] = some 0 := readyI_of (c := c2 I1) rfl free_yes fun j d hj => absurd hj (by omega)
theorem ready_is : readyC [c2 I1] [I1] = c2 I1 ∧ readyR [c2 I1] [I1] = [] := by
  obtain ⟨c, hc, _, _, h4, h5⟩ := readyI_some ready_yes
  refine ⟨?_, h5⟩
  rw [h4]
  exact (Option.some.inj hc).symm
theorem miss_one : missW hashK [c2 I1] [] = [I1] := by
  refine rising_uniq (rising_missW _ _ _) (by simp [Rising]) fun x => ?_
  rw [mem_missW, List.mem_singleton]
  constructor
  · rintro ⟨⟨c, hc, hx⟩, _⟩
    rw [List.mem_singleton.1 hc] at hx
    simpa [c2] using hx
  · rintro rfl
    refine ⟨⟨c2 I1, by simp, by simp [c2]⟩, by simp, ?_⟩
    rintro ⟨c, hc, _, he⟩
    rw [List.mem_singleton.1 hc, id2] at he
    exact ne12 he.symm
theorem hash_one : hashI c1 = I1 ∧ putN c1 = 0 := by
  obtain ⟨_, h2, h3⟩ := putB_yes may1
  exact ⟨by rw [h3, id1], h2⟩
set_option maxRecDepth 100000 in
set_option maxHeartbeats 32000000 in
theorem awake (X : Put1) (Y : Ready1) (V : Missing1) (w : World) (hK : ShaE.KIn w) : Calls Tryd.prog 8 #[] w fun e w' => e = .returned (.bool true) ∧ Below w.heap.size w w' := by
  go_enter Tryd.func8, Tryd.ntmps8
  go_wp2_with (first | go_skip)
  refine (two2_ret _ hK).mono ?_
  rintro e w1 ⟨A1, cp, x0, x1, rfl, S1, h0, h1, k1⟩
  obtain ⟨ba, oa, rfl, hba, hr⟩ := S1.plain (by simp)
  have r0 : w1.rangeAt ba oa (cc x0).toList := by have := hr 0 x0 rfl; rwa [Nat.zero_mul, Nat.add_zero] at this
  have r1 : w1.rangeAt ba (oa + 1 * 8) (cc x1).toList := hr 1 x1 rfl
  have E0 := S1.each x0 (by simp)
  have E1 := S1.each x1 (by simp)
  have hps1 : x1.c.ps.length ≤ 20 := by rw [h1]; decide
  have qp := X.put none 0 [] x1 w1 (SlK.nil _) ⟨by simp, by simp⟩ E1.1 E1.2 hps1 (hK.below k1)
  unfold NewC at qp
  rw [h1, show coms ([] : List Cv) = [] from rfl, put_one] at qp
  have qp : Calls Tryd.prog 11 #[.slice none 0 0, .agg (cc x1)] w1 _ := qp
  have H0 := aside h0
  have H1 := aside h1
  clear hr h0 h1 hps1
  go_wp2_with (first | go_skip | (refine load_at rfl _ rfl _ _ rfl x1 r1 ?_))
  refine qp.mono ?_
  rintro e w2 ⟨A2, c2', p2, rfl, S2, h2, k2⟩
  obtain ⟨y, rfl⟩ : ∃ y, p2 = [y] := by
    have : p2.length = 1 := by rw [← coms_len, h2]; rfl
    match p2, this with
    | [y], _ => exact ⟨y, rfl⟩
  have hy : y.c = c2 I1 := by
    unfold coms at h2
    simpa using h2
  have b2 := k1.trans (k2.mono k1.size)
  have r02 := range_on r0 k2
  have r12 := range_on r1 k2
  have E12 := E1.1.below k2
  have q := CmA.hash_ret x0 w2 (E0.1.below k2) E0.2 (hK.below b2)
  unfold HashOut at q
  rw [H0.out, hash_one.1, hash_one.2] at q
  have HY := aside hy
  have HYP : Hid (y.c.ps.length ≤ 20) := aside (by rw [hy]; decide)
  clear qp h2 hy r0 r1 S1 k1 k2
  simp only [List.length_cons, List.length_nil, Nat.zero_add]
  go_wp2_with (first | go_skip | (refine load_at rfl _ rfl _ _ rfl x0 r02 ?_))
  refine q.mono ?_
  rintro e w3 ⟨rfl, k3⟩
  have S3 := S2.below k3
  have r13 := range_on r12 k3
  have E13 := E12.below k3
  have b3 := b2.trans (k3.mono b2.size)
  obtain ⟨J, hJ⟩ : ∃ J, I1 = J := ⟨_, rfl⟩
  have HJ := aside hJ
  simp only [hJ]
  clear q S2 r02 r12 E12 b2 k3 hJ
  go_wp2_with (first | go_skip | (refine CmG.wpList_store_id rfl _ _ rfl _ nought _ rfl J _ rfl rfl rfl ?_; intro w4 J4 k4 s4; have b4 := b3.trans (k4.mono b3.size); have S4 := S3.below k4; have r14 := range_on r13 k4; have E14 := E13.below k4; clear s4 k4 S3 r13 E13 b3))
  have qm := V.missing A2 none c2' 0 [y] [] w4 S4 ⟨by simp, fun v hv => by rw [List.mem_singleton.1 hv]; exact HYP.out⟩ (SlI.nil _) (by simp) (hK.below b4)
  unfold DgR.NewD at qm
  rw [show coms [y] = [y.c] from rfl, HY.out, miss_one, HJ.out] at qm
  refine qm.mono ?_
  rintro e w5 ⟨A5, c5, rfl, S5, k5⟩
  obtain ⟨bm, om, rfl, _, hrm⟩ := S5.plain (by simp)
  have m5 : w5.rangeAt bm om (bv J.1) := by have := hrm 0 (by simp); rwa [Nat.zero_mul, Nat.add_zero] at this
  clear hrm S5
  have J5 := J4.below k5 J4.lt
  have S25 := S4.below k5
  have r15 := range_on r14 k5
  have E15 := E14.below k5
  have b5 := b4.trans (k5.mono b4.size)
  clear qm J4 S4 r14 E14 b4 k5
  simp only [List.length_cons, List.length_nil, Nat.zero_add]
  go_wp2_with (first | go_skip)
  have qn := Y.ready A2 none c2' 0 [y] [] w5 S25 ⟨by simp, fun v hv => by rw [List.mem_singleton.1 hv]; exact HYP.out⟩ (SlI.nil _) (by simp) (hK.below b5)
  unfold ReadyOut at qn
  rw [show coms [y] = [y.c] from rfl, HY.out, ready_no] at qn
  refine qn.mono ?_
  rintro e w6 ⟨v6, A6, c6, p6, rfl, _, _, _, _, _, k6⟩
  have J6 := J5.below k6 J5.lt
  have S26 := S25.below k6
  have m6 := RowS.range_below m5 k6
  have r16 := range_on r15 k6
  have E16 := E15.below k6
  have b6 := b5.trans (k6.mono b5.size)
  clear qn J5 S25 m5 r15 E15 b5 k6
  go_wp2_with (first | go_skip | (refine Cel.wpList_store_new CE rfl _ _ rfl w6 _ _ rfl v6 _ rfl rfl rfl rfl ?_; intro w7 B7 k7 g7 s7; have J7 := J6.below k7 J6.lt; have S27 := S26.below k7; have m7 := RowS.range_below m6 k7; have r17 := range_on r16 k7; have E17 := E16.below k7; have b7 := b6.trans (k7.mono b6.size); clear J6 S26 m6 r16 E16 b6 k7 g7 s7 B7) | (refine wpList_load_id rfl _ rfl _ _ rfl J J7.range ?_) | (refine build_one rfl _ rfl J rfl ?_; intro w8 T8 k8; have J8 := J7.below k8 J7.lt; have S28 := S27.below k8; have m8 := RowS.range_below m7 k8; have r18 := range_on r17 k8; have E18 := E17.below k8; have b8 := b7.trans (k8.mono b7.size); clear J7 S27 m7 r17 E17 b7 k8))
  have qy := Y.ready A2 _ c2' _ [y] [J] w8 S28 ⟨by simp, fun v hv => by rw [List.mem_singleton.1 hv]; exact HYP.out⟩ T8 (by simp) (hK.below b8)
  unfold ReadyOut at qy
  rw [show coms [y] = [y.c] from rfl, HY.out, ← HJ.out, ready_yes, ready_is.1, ready_is.2] at qy
  refine qy.mono ?_
  rintro e w9 ⟨v9, A9, c9, p9, rfl, h9, I9, _, hp9, S9, k9⟩
  obtain rfl : p9 = [] := List.map_eq_nil_iff.1 hp9
  have H9 := aside h9
  have J9 := J8.below k9 J8.lt
  have m9 := RowS.range_below m8 k9
  have r19 := range_on r18 k9
  have E19 := E18.below k9
  have b9 := b8.trans (k9.mono b8.size)
  clear qy J8 S28 m8 r18 E18 b8 k9 h9 hp9 T8
  simp only [List.length_nil]
  go_wp2_with (first | go_skip | (refine Cel.wpList_store_new CE rfl _ _ rfl w9 _ _ rfl v9 _ rfl rfl rfl rfl ?_; intro wa Ba ka ga sa; have Ja := J9.below ka J9.lt; have Ia := I9.below ka; have ma := RowS.range_below m9 ka; have ra := range_on r19 ka; have Ea := E19.below ka; have bb := b9.trans (ka.mono b9.size); clear J9 I9 m9 r19 E19 b9 ka ga sa))
  refine Grow.region [(0, true), (1, true), (2, true), (3, true), (4, true), (5, true), (6, true), (7, true), (8, true), (9, true), (10, true), (11, true), (12, true), (13, true), (14, true), (15, true), (16, true), (17, true), (18, true), (19, true), (20, true), (21, true), (22, true), (23, true), (24, true), (25, true), (26, true), (27, false), (28, true), (29, true), (30, true), (31, true), (32, true), (33, true), (34, true)] (by kernel_rfl) (by kernel_rfl) rfl (by kernel_rfl) (by intro c a d v w h; cases d <;> exact h) ?_
  have heq : ∀ W, (Op.equalIn 10000 42 (.agg (cs J)) (.agg (cs J))).run Tryd.prog W = .ok true W := fun W => by rw [IdW.equal W 9998 J J, decide_eq_true rfl]
  have kd := below_drew1 (Below.refl wa.heap.size wa)
  have Jb := Ja.below kd Ja.lt
  have Bb := Ba.below kd
  have Ib := Ia.below kd
  have mb := RowS.range_below ma kd
  have rb := range_on ra kd
  have Eb := Ea.below kd
  have bc := bb.trans (kd.mono bb.size)
  generalize wa.drew = wz at Jb Bb Ib mb rb Eb bc ⊢
  clear Ja Ba Ia ma ra Ea bb kd
  repeat (first | (refine Grow.reads rfl rfl ?_; go_big_quiet_want; refine Cel.quiet_row CE _ rfl _ _ rfl v9 Bb.range ?_; go_big_quiet_on; refine wpQuiet_nil ?_; (try simp only [Act.put, List.setIfInBounds_toArray, List.set_cons_succ, List.set_cons_zero])) | (refine Grow.reads rfl rfl ?_; go_big_quiet_want; refine quiet_com _ rfl _ _ rfl x1 rb ?_; go_big_quiet_on; refine wpQuiet_nil ?_; (try simp only [Act.put, List.setIfInBounds_toArray, List.set_cons_succ, List.set_cons_zero])) | (refine Grow.reads rfl rfl ?_; go_big_quiet_want; refine quiet_id _ rfl _ _ rfl J mb ?_; go_big_quiet_on; refine wpQuiet_nil ?_; (try simp only [Act.put, List.setIfInBounds_toArray, List.set_cons_succ, List.set_cons_zero])) | (refine Grow.reads rfl rfl ?_; go_big_quiet_want; refine quiet_id _ rfl _ _ rfl J Jb.range ?_; go_big_quiet_on; refine wpQuiet_nil ?_; (try simp only [Act.put, List.setIfInBounds_toArray, List.set_cons_succ, List.set_cons_zero])) | (refine Grow.reads rfl rfl ?_; go_big_quiet_step (fail); refine wpQuiet_nil ?_))
  refine Grow.acts rfl ?_
  go_wp2_with (first | go_skip)
  have qs := CmA.same_ret v9 x1 wz Ib Eb
  rw [CmR.sameK_iff.2 (H9.out.trans H1.out.symm)] at qs
  refine qs.mono ?_
  rintro e wd ⟨rfl, ke⟩
  have bd := bc.trans (ke.mono bc.size)
  clear qs
  go_wp2_with (first | go_skip)
  refine ⟨ke, ?_⟩
  clear ke
  (try simp only [Act.put, List.setIfInBounds_toArray, List.set_cons_succ, List.set_cons_zero])
  repeat (first | (refine Grow.reads rfl rfl ?_; go_big_quiet_step (fail); refine wpQuiet_nil ?_))
  refine Grow.ends ?_
  go_wp2_with (first | go_skip)
  go_ret
  exact ⟨rfl, bd⟩
end Go.Proofs.YteojkfbnenfmkaaDoor.WtV
namespace Go.Proofs.YteojkfbnenfmkaaDoor.DgX
set_option maxRecDepth 100000
open IdM CmM DgM
open Classical

section
variable {H : Com → Idn}

section
variable {P : List Com} {c : Com} (hf : ∀ d ∈ P, ∀ a ∈ d.ps, a ∈ P.map H) (hn : H c ∉ P.map H)
include hf hn
end
end
end Go.Proofs.YteojkfbnenfmkaaDoor.DgX
