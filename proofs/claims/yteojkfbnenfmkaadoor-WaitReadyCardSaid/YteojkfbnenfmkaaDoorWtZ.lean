/- WaitReady's walk: one is ready just if some commit's parents are all there, and then the others are those ahead of it, and behind it, where package wait's Ready returns what Ready1 says. No condition. -/
import Derived.Test.YteojkfbnenfmkaaDoorDgKJ8
import Derived.Test.YteojkfbnenfmkaaDoorWtX
import Derived.Test.YteojkfbnenfmkaaDoorCmA
import Derived.Test.YteojkfbnenfmkaaDoorIdTJ6
import Derived.Test.YteojkfbnenfmkaaDoorGrowB
namespace Go.Proofs.YteojkfbnenfmkaaDoor.WtZ
set_option maxRecDepth 100000
open Go Go.Sort Go.RowKit Byt IdM IdW OpsM OpsW CmM StW CmW CmX CmY CmA DgM DgW DgR DgF WtM WtF WtN WtX
open Classical

set_option maxRecDepth 100000 in
set_option maxHeartbeats 32000000 in
theorem within (Z : Aw) (Y : Ready1) (A A' : Option Addr) (cap cap' : Nat) (l : List Cv) (h : List Idn) (w : World) (S : SlK w A cap l) (T : SlI w A' cap' h) (hl : l.length ≤ 20) (hp : ∀ u ∈ l, fewK u.c = true) (hh : h.length ≤ 20) (hK : ShaE.KIn w) :
    Calls Tryd.prog 4 #[.slice A l.length cap, .slice A' h.length cap'] w fun e w' => e = .returned (.bool true) ∧ Below w.heap.size w w' := by
  have qa := Z _ hK
  have hfl : fewD (coms l) 20 = true := by
    unfold fewD
    rw [Bool.and_eq_true, decide_eq_true_eq, coms_len]
    exact ⟨by omega, List.all_eq_true.2 fun c hc => by unfold coms at hc; obtain ⟨u, hu, rfl⟩ := List.mem_map.1 hc; exact hp u hu⟩
  have q1 := fun W S => DgR.few_ret A cap l 20 W S
  rw [hfl] at q1
  have hf20 : Few20 l := ⟨hl, fun u hu => (fewK_iff.1 (hp u hu)).1⟩
  have HPL := aside hf20.2
  have r3 := fun W (S : SlK W A cap l) (T : SlI W A' cap' h) K => Y.ready A A' cap cap' l h W S hf20 T hh K
  obtain ⟨z, hz⟩ : ∃ z, (readyI (coms l) h).isSome = z := ⟨_, rfl⟩
  unfold ReadyOut at r3
  simp only [hz] at r3
  have HZ := aside hz
  have hnh : ¬ (20 : Int) < (h.length : Int) := by omega
  have hlc := coms_len l
  have HLC := aside hlc
  have HH := aside hh
  clear hfl hp hf20 hz hlc hh
  go_enter Tryd.func4, Tryd.ntmps4
  go_wp2_with (first | go_skip)
  refine qa.mono ?_
  rintro e w1 ⟨rfl, b1⟩
  clear qa
  go_wp2_with (first | go_skip)
  refine (q1 _ (S.below b1)).mono ?_
  rintro e w2 ⟨rfl, k2⟩
  have b2 := b1.trans (k2.mono b1.size)
  clear q1 b1 k2
  go_wp2_with (first | go_skip)
  refine (r3 _ (S.below b2) (T.below b2) (hK.below b2)).mono ?_
  rintro e w8 ⟨v8, A8, c8, p8, rfl, hv8, I8, _, hp8, S8, k8⟩
  have HV8 := aside hv8
  have HP8 := aside hp8
  have b8 := b2.trans (k8.mono b2.size)
  clear r3 hv8 hp8 k8 b2
  go_wp2_with (first | go_skip | (refine Cel.wpList_store_new CE rfl _ _ rfl w8 _ _ rfl v8 _ rfl rfl rfl rfl ?_; intro w9 B9 k9 g9 s9; have b9 := b8.trans (k9.mono b8.size); have S9 := S8.below k9; have I9 := I8.below k9; clear g9 s9 S8 I8 k9 b8))
  go_loopw [10] (fun i wr => ∃ k : Nat, k ≤ l.length ∧ i = .int .i64 k ∧ Hid (∀ j d, j < k → (coms l)[j]? = some d → freeB h d = false) ∧ Below w9.heap.size w9 wr) (fun i _ => l.length - (intOf i).toNat)
  case atStart => exact ⟨0, Nat.zero_le _, rfl, aside (fun j d hj => absurd hj (Nat.not_lt_zero _)), Below.refl _ _⟩
  case round =>
    obtain ⟨k, hk, rfl, HN, kc⟩ := hrel
    have kb := b9.trans (kc.mono b9.size)
    have SR := S9.below kc
    have IR := I9.below kc
    have BR := B9.below kc
    by_cases hlt : k < l.length
    · have hrow := (S.below kb).row
      obtain ⟨b, off, rfl, hbw, hrg⟩ := S.plain (by omega)
      obtain ⟨x, hx⟩ : ∃ x, l[k]? = some x := ⟨_, List.getElem?_eq_getElem hlt⟩
      have hxm := List.mem_of_getElem? hx
      have rx := range_on (hrg k x hx) kb
      have vx := rx 3 _ rfl
      have IX := (S.each x hxm).1.below kb
      have q := IdU.without_ret x.a A' x.k cap' x.c.ps h wr IX (T.below kb) (by have := HPL.out x hxm; omega) (by have := HH.out; omega)
      have p0 : (k : Int) < l.length := by omega
      have m0 : ((k : Int)).toNat = k := by omega
      have HX := aside (coms_at hx)
      clear hrg hx hxm
      unfold NewI at q
      go_wp2_with (first | go_skip)
      refine q.mono ?_
      rintro e w2 ⟨v2, rfl, o2, k2⟩
      obtain ⟨A2, c2, rfl, S2⟩ := SlI.own o2
      have kb2 := kb.trans (k2.mono kb.size)
      have rx2 := range_on rx k2
      have IX2 := IX.below k2
      have SR2 := SR.below k2
      have IR2 := IR.below k2
      have BR2 := BR.below k2
      have kc2 := kc.trans (k2.mono kc.size)
      have hrow2 := hrow.below k2
      obtain ⟨n, hn⟩ : ∃ n, (without x.c.ps h).length = n := ⟨_, rfl⟩
      simp only [hn]
      have HF : Hid (freeB h x.c = true ↔ n = 0) := aside (by rw [freeB_iff, ← hn, List.length_eq_zero_iff])
      clear q o2 S2 hn vx rx kb k2 SR IR BR IX hrow
      by_cases h0 : n = 0
      · have hR := readyI_of HX.out (HF.out.2 h0) HN.out
        have hzt : z = true := by rw [← HZ.out, hR]; rfl
        subst hzt
        obtain ⟨y, hy, _, _, h4, h5⟩ := readyI_some hR
        rw [HX.out] at hy
        obtain rfl := Option.some.inj hy
        have HV : Hid (v8.c = x.c) := aside (HV8.out.trans h4)
        have HP : Hid (coms p8 = coms (l.take k ++ l.drop (k + 1))) := aside (by
          rw [HP8.out, h5]
          unfold coms
          rw [List.map_append, List.map_take, List.map_drop])
        subst h0
        clear hR hy h4 h5 HF HN HZ
        go_wp2_with (first | go_skip)
        refine GrowB.region w.heap.size [(0, true), (1, true), (2, true), (3, true), (5, true), (6, true), (7, true), (8, true), (4, false), (9, false), (10, false), (11, true)] (by kernel_rfl) (by kernel_rfl) rfl (by kernel_rfl) (by intro c a d v w h; cases d <;> exact h) ?_
        have kd := below_drew1 (Below.refl w2.heap.size w2)
        have kb3 := kb2.trans (kd.mono kb2.size)
        have rx3 := range_on rx2 kd
        have IX3 := IX2.below kd
        have SR3 := SR2.below kd
        have IR3 := IR2.below kd
        have BR3 := BR2.below kd
        generalize w2.drew = wz at kb3 rx3 IX3 SR3 IR3 BR3 ⊢
        clear kb2 rx2 IX2 SR2 IR2 BR2 kd hrow2 kc2 kc
        have U := S.below kb3
        obtain ⟨A5, c5, hqs, S5⟩ := RowP.ahead U.row k (by omega)
        obtain ⟨A6, c6, hqt, S6⟩ := RowP.behind U.row (k + 1) (by omega)
        have hq1 : ∀ V, (Instr.sliceAt 22 (.slice (some ⟨b, off, none⟩) l.length cap) none (some (.int .i64 (k : Int))) none).run Tryd.prog V = .ok (.slice A5 k c5) V := fun V => hqs V .i64
        have hq2 : ∀ V, (Instr.sliceAt 22 (.slice (some ⟨b, off, none⟩) l.length cap) (some (.int .i64 ((k : Int) + 1))) none none).run Tryd.prog V = .ok (.slice A6 (l.length - (k + 1)) c6) V := fun V => hqt V .i64
        have m1 : IntKind.i64.wrap ((k : Int) + 1) = (k : Int) + 1 := IntWalk.i64_in _ (by omega)
        have htl : (l.take k).length = k := by rw [List.length_take]; omega
        have hdl : (l.drop (k + 1)).length = l.length - (k + 1) := by rw [List.length_drop]
        have hl9 : (l.take k ++ l.drop (k + 1)).length = k + (l.length - (k + 1)) := by rw [List.length_append, htl, hdl]
        have HL9 := aside hl9
        have HTL := aside htl
        have HDL := aside hdl
        clear hqs hqt htl hdl hl9
        (try simp only [Act.put, List.setIfInBounds_toArray, List.set_cons_succ, List.set_cons_zero])
        repeat (refine GrowB.reads_below rfl rfl ?_; go_big_quiet_step (fail); refine wpQuiet_nil ?_)
        refine GrowB.acts rfl ?_
        go_wp2_with (first | go_skip | (refine RowS.wpList_append KE rfl _ _ rfl wz.heap.size _ 0 [] rfl ⟨rfl, .inl ⟨rfl, rfl⟩⟩ A5 k c5 (l.take k) rfl HTL.out S5 (by omega) (Nat.le_refl _) ?_; intro vx wx ox gx))
        have kx : Below wz.heap.size wz wx := below_grown (Below.refl _ _) (Nat.le_refl _) gx (fun q hq => by cases hq)
        have kx2 : Below w.heap.size wz wx := kx.mono kb3.size
        have Sx := S6.below kx
        clear gx S5 S6 hq1 hq2
        refine ⟨kx2, ?_⟩
        (try simp only [Act.put, List.setIfInBounds_toArray, List.set_cons_succ, List.set_cons_zero])
        refine GrowB.acts rfl ?_
        go_wp2_with (first | go_skip | (refine RowS.wpList_append KE rfl _ _ rfl wz.heap.size _ _ _ rfl ox A6 _ c6 (l.drop (k + 1)) rfl HDL.out Sx (by omega) kx.size ?_; intro vy wy oy gy))
        have ky : Below wz.heap.size wx wy := below_grown (Below.refl _ _) kx.size gy (fun q hq => (ox.lt q hq).1)
        have ky2 : Below w.heap.size wx wy := ky.mono kb3.size
        have kzy := kx.trans ky
        have kb4 := kb3.trans (kzy.mono kb3.size)
        have SRy := SR3.below kzy
        have BRy := BR3.below kzy
        have IRy := IR3.below kzy
        have rxy := range_on rx3 kzy
        have IXy := IX3.below kzy
        rw [List.nil_append, Nat.zero_add] at oy
        obtain ⟨A9, c9, hv9, SC⟩ := own_in (l := l.take k ++ l.drop (k + 1)) oy (fun y hy => (List.mem_append.1 hy).elim (fun hy => (S.below kb4).each y (List.mem_of_mem_take hy)) fun hy => (S.below kb4).each y (List.mem_of_mem_drop hy))
        rw [HL9.out] at hv9
        subst hv9
        have ql := DgR.list_ret A8 A9 c8 c9 p8 (l.take k ++ l.drop (k + 1)) wy SRy SC
        rw [listB_iff.2 HP.out, HL9.out] at ql
        clear SR3 BR3 IR3 rx3 IX3 Sx ox oy gy kx ky kzy SC SRy U
        refine ⟨ky2, ?_⟩
        clear kx2 ky2
        (try simp only [Act.put, List.setIfInBounds_toArray, List.set_cons_succ, List.set_cons_zero])
        refine GrowB.acts rfl ?_
        go_wp2_with (first | go_skip)
        refine ql.mono ?_
        rintro e wa ⟨rfl, ka⟩
        have ba := kb4.trans (ka.mono kb4.size)
        have Ba := BRy.below ka
        have Ia := IRy.below ka
        have ra := range_on rxy ka
        have IXa := IXy.below ka
        clear ql BRy IRy rxy IXy
        go_wp2_with (first | go_skip)
        refine ⟨ka.mono kb4.size, ?_⟩
        clear ka kb4 kb3
        (try simp only [Act.put, List.setIfInBounds_toArray, List.set_cons_succ, List.set_cons_zero])
        repeat (refine GrowB.reads_below rfl rfl ?_; go_big_quiet_step (fail); refine wpQuiet_nil ?_)
        refine GrowB.ends ?_
        go_wp2_with (first | go_skip)
        refine Grow.region [(0, true), (1, true), (2, true), (3, true), (4, true), (5, true), (6, true), (7, true), (8, true), (9, true), (10, false), (11, true), (12, true)] (by kernel_rfl) (by kernel_rfl) rfl (by kernel_rfl) (by intro c a d v w h; cases d <;> exact h) ?_
        have ke := below_drew1 (Below.refl wa.heap.size wa)
        have Bb := Ba.below ke
        have Ib := Ia.below ke
        have rb := range_on ra ke
        have IXb := IXa.below ke
        have bb := ba.trans (ke.mono ba.size)
        generalize wa.drew = wb at Bb Ib rb IXb bb ⊢
        clear Ba Ia ra IXa ba ke m1
        (try simp only [Act.put, List.setIfInBounds_toArray, List.set_cons_succ, List.set_cons_zero])
        repeat (first | (refine Grow.reads rfl rfl ?_; go_big_quiet_want; refine Cel.quiet_row CE _ rfl _ _ rfl v8 Bb.range ?_; go_big_quiet_on; refine wpQuiet_nil ?_; (try simp only [Act.put, List.setIfInBounds_toArray, List.set_cons_succ, List.set_cons_zero])) | (refine Grow.reads rfl rfl ?_; go_big_quiet_want; refine quiet_com _ rfl _ _ rfl x rb ?_; go_big_quiet_on; refine wpQuiet_nil ?_; (try simp only [Act.put, List.setIfInBounds_toArray, List.set_cons_succ, List.set_cons_zero])) | (refine Grow.reads rfl rfl ?_; go_big_quiet_step (fail); refine wpQuiet_nil ?_))
        refine Grow.acts rfl ?_
        go_wp2_with (first | go_skip)
        have qs := CmA.same_ret v8 x wb Ib IXb
        rw [CmR.sameK_iff.2 HV.out] at qs
        refine qs.mono ?_
        rintro e wc ⟨rfl, kf⟩
        have bd := bb.trans (kf.mono bb.size)
        clear qs
        go_wp2_with (first | go_skip)
        refine ⟨kf, ?_⟩
        clear kf
        (try simp only [Act.put, List.setIfInBounds_toArray, List.set_cons_succ, List.set_cons_zero])
        repeat (first | (refine Grow.reads rfl rfl ?_; go_big_quiet_step (fail); refine wpQuiet_nil ?_))
        refine Grow.ends ?_
        go_wp2_with (first | go_skip)
        go_ret
        exact ⟨rfl, bd⟩
      · have hf : freeB h x.c = false := by
          cases hq : freeB h x.c with
          | false => rfl
          | true => exact absurd (HF.out.1 hq) h0
        have HN2 := aside (busy_step HX.out HN.out hf)
        have n0 : (0 : Int) < (n : Int) := by omega
        clear hf HF HN
        go_wp2_with (first | go_skip)
        go_roundw
        case rel => exact ⟨k + 1, by omega, by go_num, HN2, kc2⟩
        case measure => simp [intOf]; omega
    · obtain rfl : k = l.length := by omega
      have hR := busy_all (l := coms l) (h := h) (fun j d hj hd => HN.out j d (by rwa [HLC.out] at hj) hd)
      have hzf : z = false := by rw [← HZ.out, hR]; rfl
      subst hzf
      obtain ⟨_, h4, h5⟩ := readyI_none hR
      have HG : Hid (v8.c.gen = 0) := aside (by rw [HV8.out, h4]; rfl)
      have ql := DgR.list_ret A8 A c8 cap p8 l wr SR (S.below kb)
      rw [listB_iff.2 (HP8.out.trans h5)] at ql
      clear HN hR h4 h5 HZ
      go_wp2_with (first | go_skip)
      refine ql.mono ?_
      rintro e wa ⟨rfl, ka⟩
      have ba := kb.trans (ka.mono kb.size)
      have ca := cell_gen (BR.below ka)
      rw [HG.out] at ca
      clear ql BR IR SR kb ka
      go_wp2_with (first | go_skip)
      go_ret
      exact ⟨rfl, ba⟩
set_option maxRecDepth 100000 in
set_option maxHeartbeats 16000000 in
theorem no_list (Z : Aw) (A A' : Option Addr) (cap cap' : Nat) (l : List Cv) (h : List Idn) (w : World) (S : SlK w A cap l) (hfl : fewD (coms l) 20 = false) (hK : ShaE.KIn w) :
    Calls Tryd.prog 4 #[.slice A l.length cap, .slice A' h.length cap'] w fun e w' => e = .returned (.bool true) ∧ Below w.heap.size w w' := by
  have qa := Z _ hK
  have q1 := fun W S => DgR.few_ret A cap l 20 W S
  rw [hfl] at q1
  go_enter Tryd.func4, Tryd.ntmps4
  go_wp2_with (first | go_skip)
  refine qa.mono ?_
  rintro e w1 ⟨rfl, b1⟩
  clear qa
  go_wp2_with (first | go_skip)
  refine (q1 _ (S.below b1)).mono ?_
  rintro e w2 ⟨rfl, k2⟩
  have b2 := b1.trans (k2.mono b1.size)
  clear q1 b1 k2
  go_wp2_with (first | go_skip)
  go_ret
  exact ⟨rfl, b2⟩
set_option maxRecDepth 100000 in
set_option maxHeartbeats 16000000 in
theorem no_ids (Z : Aw) (A A' : Option Addr) (cap cap' : Nat) (l : List Cv) (h : List Idn) (w : World) (S : SlK w A cap l) (hfl : fewD (coms l) 20 = true) (hh : 20 < h.length) (hK : ShaE.KIn w) :
    Calls Tryd.prog 4 #[.slice A l.length cap, .slice A' h.length cap'] w fun e w' => e = .returned (.bool true) ∧ Below w.heap.size w w' := by
  have qa := Z _ hK
  have q1 := fun W S => DgR.few_ret A cap l 20 W S
  rw [hfl] at q1
  have p0 : (20 : Int) < (h.length : Int) := by omega
  go_enter Tryd.func4, Tryd.ntmps4
  go_wp2_with (first | go_skip)
  refine qa.mono ?_
  rintro e w1 ⟨rfl, b1⟩
  clear qa
  go_wp2_with (first | go_skip)
  refine (q1 _ (S.below b1)).mono ?_
  rintro e w2 ⟨rfl, k2⟩
  have b2 := b1.trans (k2.mono b1.size)
  clear q1 b1 k2
  go_wp2_with (first | go_skip)
  go_ret
  exact ⟨rfl, b2⟩
theorem walk (Z : Aw) (Y : Ready1) (A : Option Addr) (cap : Nat) (l : List Cv) (A' : Option Addr) (cap' : Nat) (h : List Idn) (w : World) (S : SlK w A cap l) (T : SlI w A' cap' h) (hK : ShaE.KIn w) :
    Calls Tryd.prog 4 #[.slice A l.length cap, .slice A' h.length cap'] w fun e w' => e = .returned (.bool true) ∧ Below w.heap.size w w' := by
  cases hfl : fewD (coms l) 20 with
  | false => exact no_list Z A A' cap cap' l h w S hfl hK
  | true =>
    by_cases hh : h.length ≤ 20
    · have hfl2 := hfl
      unfold fewD at hfl2
      rw [Bool.and_eq_true, decide_eq_true_eq, coms_len] at hfl2
      exact within Z Y A A' cap cap' l h w S T (by omega) (fun u hu => List.all_eq_true.1 hfl2.2 _ (List.mem_map_of_mem (f := (·.c)) hu)) hh hK
    · exact no_ids Z A A' cap cap' l h w S hfl (by omega) hK
end Go.Proofs.YteojkfbnenfmkaaDoor.WtZ
