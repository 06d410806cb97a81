/- WaitBound's walk: at most eight wait, the new one is the last one, and only the oldest one may be gone, where package wait's Put returns what Put1 says. No condition. -/
import Derived.Test.YteojkfbnenfmkaaDoorDgKJ8
import Derived.Test.YteojkfbnenfmkaaDoorWtX
import Derived.Test.YteojkfbnenfmkaaDoorCmA
import Derived.Test.YteojkfbnenfmkaaDoorGrow
namespace Go.Proofs.YteojkfbnenfmkaaDoor.WtY
set_option maxRecDepth 100000
open Go Go.Sort Go.RowKit Byt IdM IdW OpsM OpsW CmM StW CmW CmX CmY CmA DgM DgW DgR DgF WtM WtF WtN WtX
open Classical

set_option maxRecDepth 100000 in
set_option maxHeartbeats 32000000 in
theorem within (Z : Aw) (X : Put1) (A : Option Addr) (cap : Nat) (l : List Cv) (v : Cv) (w : World) (S : SlK w A cap l) (I : In w v) (F : Fit v.c) (hl : l.length ≤ 8) (hp : ∀ u ∈ l, fewK u.c = true) (hv : fewK v.c = true) (hK : ShaE.KIn w) :
    Calls Tryd.prog 3 #[.slice A l.length cap, .agg (cc v)] w fun e w' => e = .returned (.bool true) ∧ Below w.heap.size w w' := by
  have kb0 := StW.below_alloc w (.cells (cc v) 29)
  have B0 : Cel.Box CE (w.alloc (.cells (cc v) 29)) w.heap.size v := Cel.Box.new (E := CE) w v _
  have qa := Z _ (hK.below kb0)
  have hfl : fewD (coms l) 8 = true := by
    unfold fewD
    rw [Bool.and_eq_true, decide_eq_true_eq, coms_len]
    exact ⟨by omega, List.all_eq_true.2 fun c hc => by unfold coms at hc; obtain ⟨u, hu, rfl⟩ := List.mem_map.1 hc; exact hp u hu⟩
  have q1 := fun W S => DgR.few_ret A cap l 8 W S
  rw [hfl] at q1
  have q2 := fun W => CmX.few_ret v W
  rw [hv] at q2
  have hf20 : Few20 l := ⟨by omega, fun u hu => (fewK_iff.1 (hp u hu)).1⟩
  have r1 := fun W (S : SlK W A cap l) (I : In W v) K => X.put A cap l v W S hf20 I F (fewK_iff.1 hv).1 K
  unfold NewC at r1
  obtain ⟨n1, n2⟩ := putW_len (coms l) v.c (by rw [coms_len]; exact hl)
  rw [coms_len] at n1
  have HN1 := aside n1
  have HN2 := aside n2
  have HLC := aside (coms_len l)
  have HL := aside hl
  have hks := kb0.size
  have hmax := S.len
  clear hfl hp hv hf20 n1 n2 hl
  go_enter Tryd.func3, Tryd.ntmps3
  go_wp2_with (first | go_skip)
  refine qa.mono ?_
  rintro e w1 ⟨rfl, k1⟩
  have B1 := B0.below k1
  have b1 := kb0.trans (k1.mono hks)
  clear qa B0 kb0 k1 hks
  go_wp2_with (first | go_skip)
  refine (q1 _ (S.below b1)).mono ?_
  rintro e w2 ⟨rfl, k2⟩
  have B2 := B1.below k2
  have b2 := b1.trans (k2.mono b1.size)
  clear q1 B1 b1 k2
  go_wp2_with (first | go_skip | (refine Cel.wpList_load_box CE rfl _ rfl _ rfl v B2 ?_))
  refine (q2 _).mono ?_
  rintro e w3 ⟨rfl, k3⟩
  have B3 := B2.below k3
  have b3 := b2.trans (k3.mono b2.size)
  clear q2 B2 b2 k3
  go_wp2_with (first | go_skip | (refine Cel.wpList_load_box CE rfl _ rfl _ rfl v B3 ?_))
  refine (r1 _ (S.below b3) (I.below b3) (hK.below b3)).mono ?_
  rintro e w4 ⟨A4, c4, p4, rfl, S4, h4, k4⟩
  have H4 := aside h4
  have hpl : p4.length = (putW (coms l) v.c).length := by rw [← h4, coms_len]
  have hp8 : decide ((8 : Int) < (p4.length : Int)) = false := decide_eq_false (by have := HN2.out; omega)
  have hpn : decide (p4.length < l.length) = false := decide_eq_false (by have := HN1.out; omega)
  have HPL := aside hpl
  have B4 := B3.below k4
  have b4 := b3.trans (k4.mono b3.size)
  clear r1 B3 b3 k4 h4 hpl
  go_wp2_with (first | go_skip)
  clear hp8 hpn
  go_loopw [9, 10] (fun t i wr => ∃ (k : Nat) (b : Bool), k ≤ l.length ∧ i = .int .i64 k ∧ t = .bool b ∧ Hid (b = ((coms l).take k).any fun d => CmR.sameK d v.c) ∧ Below w4.heap.size w4 wr) (fun _ i _ => l.length - (intOf i).toNat)
  case atStart => exact ⟨0, false, Nat.zero_le _, rfl, rfl, aside (by simp), Below.refl _ _⟩
  case round =>
    obtain ⟨k, b, hk, rfl, rfl, HB, kc⟩ := hrel
    have kb := b4.trans (kc.mono b4.size)
    have BR := B4.below kc
    have SR := S4.below kc
    by_cases hlt : k < l.length
    · obtain ⟨bb, off, rfl, hbw, hrg⟩ := S.plain (by omega)
      obtain ⟨x, hx⟩ : ∃ x, l[k]? = some x := ⟨_, List.getElem?_eq_getElem hlt⟩
      have hxm := List.mem_of_getElem? hx
      have rx := range_on (hrg k x hx) kb
      have IX := (S.each x hxm).1.below kb
      have HS := aside (any_step (fun d => CmR.sameK d v.c) (coms_at hx))
      have p0 : (k : Int) < l.length := by omega
      have m0 : ((k : Int)).toNat = k := by omega
      clear hrg hx hxm SR
      cases b with
      | true =>
        have HB2 : Hid (true = ((coms l).take (k + 1)).any fun d => CmR.sameK d v.c) := aside (by rw [HS.out, ← HB.out]; rfl)
        clear HB HS rx IX
        go_wp2_with (first | go_skip)
        refine Grow.region [(0, true), (1, true), (2, true), (3, true), (4, true), (5, true), (6, true), (7, false), (8, true), (9, true)] (by kernel_rfl) (by kernel_rfl) rfl (by kernel_rfl) (by intro c a d v w h; cases d <;> exact h) ?_
        have kd := below_drew1 (Below.refl wr.heap.size wr)
        have kd2 := kc.trans (kd.mono kc.size)
        generalize wr.drew = wz at kd2 ⊢
        clear kd
        (try simp only [Act.put, List.setIfInBounds_toArray, List.set_cons_succ, List.set_cons_zero])
        repeat (refine Grow.reads rfl rfl ?_; go_big_quiet_step (fail); refine wpQuiet_nil ?_)
        refine Grow.acts rfl ?_
        go_wp2_with (first | go_skip)
        refine ⟨Below.refl _ _, ?_⟩
        (try simp only [Act.put, List.setIfInBounds_toArray, List.set_cons_succ, List.set_cons_zero])
        repeat (refine Grow.reads rfl rfl ?_; go_big_quiet_step (fail); refine wpQuiet_nil ?_)
        refine Grow.ends ?_
        go_wp2_with (first | go_skip)
        go_roundw
        case rel => exact ⟨k + 1, true, by omega, by go_num, rfl, HB2, kd2⟩
        case measure => simp [intOf]; omega
      | false =>
        obtain ⟨z, hz⟩ : ∃ z, CmR.sameK x.c v.c = z := ⟨_, rfl⟩
        have HB2 : Hid (z = ((coms l).take (k + 1)).any fun d => CmR.sameK d v.c) := aside (by rw [HS.out, ← HB.out, ← hz]; rfl)
        have HZ := aside hz
        clear HB HS hz
        go_wp2_with (first | go_skip)
        refine Grow.region [(0, true), (1, true), (2, true), (3, true), (4, true), (5, true), (6, true), (7, false), (8, true), (9, true)] (by kernel_rfl) (by kernel_rfl) rfl (by kernel_rfl) (by intro c a d v w h; cases d <;> exact h) ?_
        have kd := below_drew1 (Below.refl wr.heap.size wr)
        have kd2 := kc.trans (kd.mono kc.size)
        have Bz := BR.below kd
        have rz := range_on rx kd
        have qs := CmA.same_ret x v _ (IX.below kd) ((I.below kb).below kd)
        rw [HZ.out] at qs
        generalize wr.drew = wz at kd2 Bz rz qs ⊢
        clear kd BR rx IX
        (try simp only [Act.put, List.setIfInBounds_toArray, List.set_cons_succ, List.set_cons_zero])
        repeat (first | (refine Grow.reads rfl rfl ?_; go_big_quiet_want; refine Cel.quiet_row CE _ rfl _ _ rfl v Bz.range ?_; go_big_quiet_on; refine wpQuiet_nil ?_; (try simp only [Act.put, List.setIfInBounds_toArray, List.set_cons_succ, List.set_cons_zero])) | (refine Grow.reads rfl rfl ?_; go_big_quiet_want; refine quiet_com _ rfl _ _ rfl x rz ?_; go_big_quiet_on; refine wpQuiet_nil ?_; (try simp only [Act.put, List.setIfInBounds_toArray, List.set_cons_succ, List.set_cons_zero])) | (refine Grow.reads rfl rfl ?_; go_big_quiet_step (fail); refine wpQuiet_nil ?_))
        refine Grow.acts rfl ?_
        go_wp2_with (first | go_skip)
        refine qs.mono ?_
        rintro e w5 ⟨rfl, k5⟩
        have kd5 := kd2.trans (k5.mono kd2.size)
        clear qs
        go_wp2_with (first | go_skip)
        refine ⟨k5, ?_⟩
        (try simp only [Act.put, List.setIfInBounds_toArray, List.set_cons_succ, List.set_cons_zero])
        repeat (refine Grow.reads rfl rfl ?_; go_big_quiet_step (fail); refine wpQuiet_nil ?_)
        refine Grow.ends ?_
        cases z with
        | true =>
          go_wp2_with (first | go_skip)
          go_roundw
          case rel => exact ⟨k + 1, true, by omega, by go_num, rfl, HB2, kd5⟩
          case measure => simp [intOf]; omega
        | false =>
          go_wp2_with (first | go_skip)
          go_roundw
          case rel => exact ⟨k + 1, false, by omega, by go_num, rfl, HB2, kd5⟩
          case measure => simp [intOf]; omega
    · obtain rfl : k = l.length := by omega
      have hb : b = decide (v.c ∈ coms l) := by
        have := HB.out
        rwa [List.take_of_length_le (by rw [HLC.out]; omega), any_same] at this
      have qm := CmA.may_ret v wr (I.below kb) F
      obtain ⟨m, hm⟩ : ∃ b, mayK v.c = b := ⟨_, rfl⟩
      rw [hm] at qm
      have HM := aside hm
      have HBB := aside hb
      clear hm hb HB
      go_wp2_with (first | go_skip | (refine Cel.wpList_load_box CE rfl _ rfl _ rfl v BR ?_))
      refine qm.mono ?_
      rintro e w5 ⟨rfl, k5⟩
      have B5 := BR.below k5
      have b5 := kb.trans (k5.mono kb.size)
      have S5 := SR.below k5
      clear qm BR SR kb kc k5
      by_cases hw : waitB v.c = true ∧ v.c ∉ coms l
      · have hmt : m = true := by have h1 := hw.1; unfold waitB at h1; rw [HM.out, Bool.and_eq_true] at h1; exact h1.1
        have hit : isM v.c = false := by have h1 := hw.1; unfold waitB at h1; rw [Bool.and_eq_true] at h1; simpa using h1.2
        have hbf : b = false := by rw [HBB.out]; exact decide_eq_false hw.2
        subst hmt
        subst hbf
        have HE := aside (putW_split hw.1 hw.2 (by rw [HLC.out]; exact HL.out))
        have qg := CmA.merge_ret v w5 (I.below b5) F
        rw [hit] at qg
        clear hit hw HM HBB
        go_wp2_with (first | go_skip | (refine CmW.gload _ rfl _ rfl v B5 rfl ?_))
        refine qg.mono ?_
        rintro e w6 ⟨rfl, k6⟩
        have B6 := B5.below k6
        have b6 := b5.trans (k6.mono b5.size)
        have S6 := S5.below k6
        clear qg B5 S5 b5 k6
        obtain ⟨d, hd⟩ : ∃ d, p4.length = d + 1 := ⟨p4.length - 1, by have h1 := congrArg List.length HE.out; rw [List.length_append, List.length_singleton] at h1; have h2 := HPL.out; omega⟩
        obtain ⟨f, hf⟩ : ∃ f, l.length + 1 - p4.length = f := ⟨_, rfl⟩
        have h8 : p4.length ≤ 8 := by have h1 := HN2.out; have h2 := HPL.out; omega
        have hnn : l.length ≤ p4.length := by have h1 := HN1.out; have h2 := HPL.out; omega
        have hpn2 : p4.length ≤ l.length + 1 := by
          have h1 := congrArg List.length HE.out
          rw [List.length_append, List.length_singleton, List.length_drop, HLC.out] at h1
          have h2 := HPL.out
          omega
        have hdf : d = l.length - f := by omega
        have hfl : f ≤ l.length := by omega
        have HCS : Hid (coms p4 = (coms l).drop f ++ [v.c]) := aside (by
          rw [H4.out]
          have h1 := HE.out
          rwa [← HPL.out, HLC.out, hf] at h1)
        have m1 : IntKind.i64.wrap ((l.length : Int) + 1) = (l.length : Int) + 1 := IntWalk.i64_in _ (by have := HL.out; omega)
        have m2 : IntKind.i64.wrap ((l.length : Int) + 1 - (p4.length : Int)) = (f : Int) := by
          rw [show (l.length : Int) + 1 - (p4.length : Int) = (f : Int) by omega]
          exact IntWalk.i64_in _ (by have := HL.out; omega)
        have m3 : IntKind.i64.wrap ((p4.length : Int) - 1) = (d : Int) := by
          rw [show (p4.length : Int) - 1 = (d : Int) by omega]
          exact IntWalk.i64_in _ (by omega)
        have p1 : (d : Int) < (p4.length : Int) := by omega
        have p2 : ((d : Int)).toNat = d := by omega
        obtain ⟨x, hx⟩ : ∃ x, p4[d]? = some x := ⟨_, List.getElem?_eq_getElem (by omega)⟩
        have HXV : Hid (x.c = v.c) := aside (by
          have h1 := coms_at hx
          rw [HCS.out, List.getElem?_append_right (by rw [List.length_drop, HLC.out]; omega), List.length_drop, HLC.out, ← hdf, Nat.sub_self] at h1
          simpa using h1.symm)
        have HXM := aside (List.mem_of_getElem? hx)
        have HX := aside hx
        have HD := aside hd
        have HDF := aside hdf
        have HFL := aside hfl
        clear hx hd hf h8 hnn hpn2 hdf hfl HE
        go_wp2_with (first | go_skip)
        refine Grow.region [(0, true), (1, true), (2, true), (3, true), (4, true), (5, true), (6, true), (7, true), (8, false), (9, true)] (by kernel_rfl) (by kernel_rfl) rfl (by kernel_rfl) (by intro c a d v w h; cases d <;> exact h) ?_
        have kd := below_drew1 (Below.refl w6.heap.size w6)
        have B7 := B6.below kd
        have b7 := b6.trans (kd.mono b6.size)
        have S7 := S6.below kd
        generalize w6.drew = w7 at B7 b7 S7 ⊢
        clear B6 b6 S6 kd
        have U := S.below b7
        obtain ⟨A5, c5, hqs, S8⟩ := RowP.ahead S7.row d (by have := HD.out; omega)
        obtain ⟨A6, c6, hqt, S9⟩ := RowP.behind U.row f HFL.out
        have e1 : ∀ V, (Instr.sliceAt 22 (.slice A4 p4.length c4) none (some (.int .i64 (d : Int))) none).run Tryd.prog V = .ok (.slice A5 d c5) V := fun V => hqs V .i64
        have e2 : ∀ V, (Instr.sliceAt 22 (.slice A l.length cap) (some (.int .i64 (f : Int))) none none).run Tryd.prog V = .ok (.slice A6 (l.length - f) c6) V := fun V => hqt V .i64
        have S8 : SlK w7 A5 c5 (p4.take d) := ⟨S8, fun u hu => S7.each u (List.mem_of_mem_take hu)⟩
        have S9 : SlK w7 A6 c6 (l.drop f) := ⟨S9, fun u hu => U.each u (List.mem_of_mem_drop hu)⟩
        have ql := DgR.list_ret A5 A6 c5 c6 (p4.take d) (l.drop f) w7 S8 S9
        rw [listB_iff.2 (by
          have h1 : coms (p4.take d) = (coms p4).take d := List.map_take ..
          have h2 : coms (l.drop f) = (coms l).drop f := List.map_drop ..
          have h3 : ((coms l).drop f).length = d := by rw [List.length_drop, HLC.out, ← HDF.out]
          rw [h1, h2, HCS.out, List.take_append_of_le_length (by omega), List.take_of_length_le (by omega)]), List.length_take, List.length_drop, Nat.min_eq_left (by have := HD.out; omega)] at ql
        clear hqs hqt S8 S9 U
        (try simp only [Act.put, List.setIfInBounds_toArray, List.set_cons_succ, List.set_cons_zero])
        repeat (refine Grow.reads rfl rfl ?_; go_big_quiet_step (fail); refine wpQuiet_nil ?_)
        refine Grow.acts rfl ?_
        go_wp2_with (first | go_skip)
        refine ql.mono ?_
        rintro e w8 ⟨rfl, k8⟩
        have B8 := B7.below k8
        have b8 := b7.trans (k8.mono b7.size)
        have S8 := S7.below k8
        clear ql B7 b7 S7 e1 e2
        go_wp2_with (first | go_skip)
        refine ⟨k8, ?_⟩
        clear k8
        (try simp only [Act.put, List.setIfInBounds_toArray, List.set_cons_succ, List.set_cons_zero])
        repeat (refine Grow.reads rfl rfl ?_; go_big_quiet_step (fail); refine wpQuiet_nil ?_)
        refine Grow.ends ?_
        go_wp2_with (first | go_skip)
        refine Grow.region [(0, true), (1, true), (2, true), (3, true), (4, true), (5, true), (6, true), (7, true), (8, true), (9, false), (10, true), (11, true)] (by kernel_rfl) (by kernel_rfl) rfl (by kernel_rfl) (by intro c a d v w h; cases d <;> exact h) ?_
        have kd := below_drew1 (Below.refl w8.heap.size w8)
        have B9 := B8.below kd
        have b9 := b8.trans (kd.mono b8.size)
        have S9 := S8.below kd
        generalize w8.drew = w9 at B9 b9 S9 ⊢
        clear B8 b8 S8 kd
        have qs := CmA.same_ret x v w9 (S9.each x HXM.out).1 (I.below b9)
        rw [CmR.sameK_iff.2 HXV.out] at qs
        obtain ⟨g, off, rfl, _, hrg⟩ := S9.plain (by have := HD.out; omega)
        have rx := hrg d x HX.out
        clear hrg S9
        (try simp only [Act.put, List.setIfInBounds_toArray, List.set_cons_succ, List.set_cons_zero])
        repeat (first | (refine Grow.reads rfl rfl ?_; go_big_quiet_want; refine Cel.quiet_row CE _ rfl _ _ rfl v B9.range ?_; go_big_quiet_on; refine wpQuiet_nil ?_; (try simp only [Act.put, List.setIfInBounds_toArray, List.set_cons_succ, List.set_cons_zero])) | (refine Grow.reads rfl rfl ?_; go_big_quiet_want; refine quiet_com _ rfl _ _ rfl x rx ?_; go_big_quiet_on; refine wpQuiet_nil ?_; (try simp only [Act.put, List.setIfInBounds_toArray, List.set_cons_succ, List.set_cons_zero])) | (refine Grow.reads rfl rfl ?_; go_big_quiet_step (fail); refine wpQuiet_nil ?_))
        refine Grow.acts rfl ?_
        go_wp2_with (first | go_skip)
        refine qs.mono ?_
        rintro e wa ⟨rfl, ka⟩
        have ba := b9.trans (ka.mono b9.size)
        clear qs
        go_wp2_with (first | go_skip)
        refine ⟨ka, ?_⟩
        (try simp only [Act.put, List.setIfInBounds_toArray, List.set_cons_succ, List.set_cons_zero])
        repeat (refine Grow.reads rfl rfl ?_; go_big_quiet_step (fail); refine wpQuiet_nil ?_)
        refine Grow.ends ?_
        go_wp2_with (first | go_skip)
        go_ret
        exact ⟨rfl, ba⟩
      · have HPE : Hid (coms p4 = coms l) := aside (H4.out.trans (putW_no (by
          by_cases hc : v.c ∈ coms l
          · exact .inr hc
          · exact .inl (by cases hq : waitB v.c with
              | false => rfl
              | true => exact absurd ⟨hq, hc⟩ hw))))
        have ql := fun W (S1 : SlK W A4 c4 p4) (S2 : SlK W A cap l) => DgR.list_ret A4 A c4 cap p4 l W S1 S2
        rw [listB_iff.2 HPE.out] at ql
        cases m with
        | false =>
          clear hw HM HBB
          go_wp2_with (first | go_skip)
          refine (ql _ S5 (S.below b5)).mono ?_
          rintro e w6 ⟨rfl, k6⟩
          have b6 := b5.trans (k6.mono b5.size)
          clear ql
          go_wp2_with (first | go_skip)
          go_ret
          exact ⟨rfl, b6⟩
        | true =>
          have qg := CmA.merge_ret v w5 (I.below b5) F
          obtain ⟨m2, hm2⟩ : ∃ b, isM v.c = b := ⟨_, rfl⟩
          rw [hm2] at qg
          have HM2 := aside hm2
          have HW := aside hw
          clear hm2 hw
          go_wp2_with (first | go_skip | (refine CmW.gload _ rfl _ rfl v B5 rfl ?_))
          refine qg.mono ?_
          rintro e w6 ⟨rfl, k6⟩
          have b6 := b5.trans (k6.mono b5.size)
          have S6 := S5.below k6
          clear qg B5 S5 b5 k6
          cases m2 with
          | true =>
            clear HM HBB HW HM2
            go_wp2_with (first | go_skip)
            refine (ql _ S6 (S.below b6)).mono ?_
            rintro e w7 ⟨rfl, k7⟩
            have b7 := b6.trans (k7.mono b6.size)
            clear ql
            go_wp2_with (first | go_skip)
            go_ret
            exact ⟨rfl, b7⟩
          | false =>
            have hbt : b = true := by
              rw [HBB.out]
              refine decide_eq_true (Classical.byContradiction fun hn => HW.out ⟨?_, hn⟩)
              unfold waitB
              rw [HM.out, HM2.out]
              rfl
            subst hbt
            clear HM HBB HW HM2
            go_wp2_with (first | go_skip)
            refine (ql _ S6 (S.below b6)).mono ?_
            rintro e w7 ⟨rfl, k7⟩
            have b7 := b6.trans (k7.mono b6.size)
            clear ql
            go_wp2_with (first | go_skip)
            go_ret
            exact ⟨rfl, b7⟩
set_option maxRecDepth 100000 in
set_option maxHeartbeats 16000000 in
theorem no_list (Z : Aw) (A : Option Addr) (cap : Nat) (l : List Cv) (v : Cv) (w : World) (S : SlK w A cap l) (hfl : fewD (coms l) 8 = false) (hK : ShaE.KIn w) :
    Calls Tryd.prog 3 #[.slice A l.length cap, .agg (cc v)] w fun e w' => e = .returned (.bool true) ∧ Below w.heap.size w w' := by
  have kb := StW.below_alloc w (.cells (cc v) 29)
  have B0 : Cel.Box CE (w.alloc (.cells (cc v) 29)) w.heap.size v := Cel.Box.new (E := CE) w v _
  have qa := Z _ (hK.below kb)
  have q1 := fun W S => DgR.few_ret A cap l 8 W S
  have q2 := fun W => CmX.few_ret v W
  rw [hfl] at q1
  obtain ⟨z, hz⟩ : ∃ z, fewK v.c = z := ⟨_, rfl⟩
  rw [hz] at q2
  clear hz
  have hks := kb.size
  go_enter Tryd.func3, Tryd.ntmps3
  go_wp2_with (first | go_skip)
  refine qa.mono ?_
  rintro e w1 ⟨rfl, k1⟩
  have B1 := B0.below k1
  have b1 := kb.trans (k1.mono hks)
  clear qa B0 kb k1
  go_wp2_with (first | go_skip)
  refine (q1 _ (S.below b1)).mono ?_
  rintro e w2 ⟨rfl, k2⟩
  have B2 := B1.below k2
  have b2 := b1.trans (k2.mono b1.size)
  clear q1 B1 b1 k2
  go_wp2_with (first | go_skip | (refine Cel.wpList_load_box CE rfl _ rfl _ rfl v B2 ?_))
  refine (q2 _).mono ?_
  rintro e w3 ⟨rfl, k3⟩
  have b3 := b2.trans (k3.mono b2.size)
  clear q2 B2 b2 k3
  go_wp2_with (first | go_skip)
  go_ret
  exact ⟨rfl, b3⟩
set_option maxRecDepth 100000 in
set_option maxHeartbeats 16000000 in
theorem no_one (Z : Aw) (A : Option Addr) (cap : Nat) (l : List Cv) (v : Cv) (w : World) (S : SlK w A cap l) (hfl : fewD (coms l) 8 = true) (hv : fewK v.c = false) (hK : ShaE.KIn w) :
    Calls Tryd.prog 3 #[.slice A l.length cap, .agg (cc v)] w fun e w' => e = .returned (.bool true) ∧ Below w.heap.size w w' := by
  have kb := StW.below_alloc w (.cells (cc v) 29)
  have B0 : Cel.Box CE (w.alloc (.cells (cc v) 29)) w.heap.size v := Cel.Box.new (E := CE) w v _
  have qa := Z _ (hK.below kb)
  have q1 := fun W S => DgR.few_ret A cap l 8 W S
  have q2 := fun W => CmX.few_ret v W
  rw [hfl] at q1
  rw [hv] at q2
  have hks := kb.size
  go_enter Tryd.func3, Tryd.ntmps3
  go_wp2_with (first | go_skip)
  refine qa.mono ?_
  rintro e w1 ⟨rfl, k1⟩
  have B1 := B0.below k1
  have b1 := kb.trans (k1.mono hks)
  clear qa B0 kb k1
  go_wp2_with (first | go_skip)
  refine (q1 _ (S.below b1)).mono ?_
  rintro e w2 ⟨rfl, k2⟩
  have B2 := B1.below k2
  have b2 := b1.trans (k2.mono b1.size)
  clear q1 B1 b1 k2
  go_wp2_with (first | go_skip | (refine Cel.wpList_load_box CE rfl _ rfl _ rfl v B2 ?_))
  refine (q2 _).mono ?_
  rintro e w3 ⟨rfl, k3⟩
  have b3 := b2.trans (k3.mono b2.size)
  clear q2 B2 b2 k3
  go_wp2_with (first | go_skip)
  go_ret
  exact ⟨rfl, b3⟩
theorem walk (Z : Aw) (X : Put1) (A : Option Addr) (cap : Nat) (l : List Cv) (v : Cv) (w : World) (S : SlK w A cap l) (I : In w v) (F : Fit v.c) (hK : ShaE.KIn w) :
    Calls Tryd.prog 3 #[.slice A l.length cap, .agg (cc v)] w fun e w' => e = .returned (.bool true) ∧ Below w.heap.size w w' := by
  cases hfl : fewD (coms l) 8 with
  | false => exact no_list Z A cap l v w S hfl hK
  | true =>
    cases hv : fewK v.c with
    | false => exact no_one Z A cap l v w S hfl hv hK
    | true =>
      have hfl2 := hfl
      unfold fewD at hfl2
      rw [Bool.and_eq_true, decide_eq_true_eq, coms_len] at hfl2
      exact within Z X A cap l v w S I F (by omega) (fun u hu => List.all_eq_true.1 hfl2.2 _ (List.mem_map_of_mem (f := (·.c)) hu)) hv hK
end Go.Proofs.YteojkfbnenfmkaaDoor.WtY
