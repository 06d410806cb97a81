/- WaitTells' walk: package wait's three functions answer as the document does, where they return what Put1, Ready1 and Missing1 say. No condition. -/
import Derived.Test.YteojkfbnenfmkaaGreatDoorWtR
import Derived.Test.YteojkfbnenfmkaaGreatDoorWtLJ4
import Derived.Test.YteojkfbnenfmkaaGreatDoorWtOJ2
import Derived.Test.YteojkfbnenfmkaaGreatDoorCmXJ8
import Derived.Test.YteojkfbnenfmkaaGreatDoorIdV
namespace Go.Proofs.YteojkfbnenfmkaaGreatDoor.WtU
set_option maxRecDepth 100000
open Go Go.Sort Go.RowKit Byt IdM IdW OpsM OpsW CmM StW CmW CmX CmY DgM DgW DgF WtM WtF
open Classical

/-- The laws' own awake. -/
def Aw : Prop := ∀ w : World, ShaE.KIn w → Calls Tryz.prog 4 #[] w fun e w' => e = .returned (.bool true) ∧ Below w.heap.size w w'
theorem pars_few : ∀ (l : List Com) (m : Nat), (∀ c ∈ l, c.ps.length ≤ m) → (WtO.parsW l).length ≤ m * l.length
  | [], m, _ => by simp [WtO.parsW]
  | c :: l, m, h => by
    have h1 := h c (by simp)
    have h2 := pars_few l m (fun d hd => h d (by simp [hd]))
    simp only [WtO.parsW, List.flatMap_cons, List.length_append, List.length_cons] at h2 ⊢
    rw [Nat.mul_add, Nat.mul_one]
    omega
set_option maxRecDepth 100000 in
set_option maxHeartbeats 32000000 in
theorem within (Z : Aw) (X : Put1) (Y : Ready1) (V : Missing1) (A A' : Option Addr) (cap cap' : Nat) (l : List Cv) (h : List Idn) (v : Cv) (w : World) (S : SlK w A cap l) (T : SlI w A' cap' h) (I : In w v) (F : Fit v.c) (hl : l.length ≤ 20) (hp : ∀ u ∈ l, fewK u.c = true) (hv : fewK v.c = true) (hh : h.length ≤ 20) (hK : ShaE.KIn w) :
    Calls Tryz.prog 3 #[.slice A l.length cap, .agg (cc v), .slice A' h.length cap'] w fun e w' => e = .returned (.bool true) ∧ Below w.heap.size w w' := by
  have kb := StW.below_alloc w (.cells (cc v) 29)
  have B0 : Cel.Box CE (w.alloc (.cells (cc v) 29)) w.heap.size v := Cel.Box.new (E := CE) w v _
  have qa := Z _ (hK.below kb)
  have hfl : fewD (coms l) 20 = true := by
    unfold fewD
    rw [Bool.and_eq_true, decide_eq_true_eq, coms_len]
    exact ⟨by omega, List.all_eq_true.2 fun c hc => by unfold coms at hc; obtain ⟨u, hu, rfl⟩ := List.mem_map.1 hc; exact hp u hu⟩
  have q1 := fun W S => DgR.few_ret A cap l 20 W S
  have q2 := fun W => CmX.few_ret v W
  rw [hfl] at q1
  rw [hv] at q2
  have hok : ∀ u ∈ l, CmR.Okay u.c := fun u hu => okay (hp u hu) (S.each u hu).2
  have hokv : CmR.Okay v.c := okay hv F
  have hf20 : Few20 l := ⟨hl, fun u hu => (fewK_iff.1 (hp u hu)).1⟩
  have hpl : (WtO.parsW (coms l)).length ≤ 500 := by
    have := pars_few (coms l) 20 (fun c hc => by unfold coms at hc; obtain ⟨u, hu, rfl⟩ := List.mem_map.1 hc; exact hf20.2 u hu)
    rw [coms_len] at this
    omega
  have hvp := (fewK_iff.1 hv).1
  have hp500 : ∀ u ∈ l, u.c.ps.length ≤ 500 := fun u hu => Nat.le_trans (hf20.2 u hu) (by omega)
  have r1 := fun W (S : SlK W A cap l) (I : In W v) K => X.put A cap l v W S hf20 I F hvp K
  have r2 := fun W (S : SlK W A cap l) (I : In W v) => WtR.put_ret A cap l v W S (by omega) I F hokv
  have r3 := fun W (S : SlK W A cap l) (T : SlI W A' cap' h) K => Y.ready A A' cap cap' l h W S hf20 T hh K
  have r4 := fun W (S : SlK W A cap l) (T : SlI W A' cap' h) => WtS.ready_ret A A' cap cap' l h W S (by omega) hp500 T
  have r5 := fun W (S : SlK W A cap l) (T : SlI W A' cap' h) K => V.missing A A' cap cap' l h W S hf20 T hh K
  have r6 := fun W (S : SlK W A cap l) (T : SlI W A' cap' h) => WtT.missing_ret A A' cap cap' l h W S (by omega) hpl hok T (by omega)
  unfold NewC at r1 r2
  unfold ReadyOut at r3 r4
  unfold DgR.NewD at r5 r6
  have hks := kb.size
  have hnh : ¬ (20 : Int) < (h.length : Int) := by omega
  clear hfl hp hv hl hh hok hokv hf20 hpl hvp hp500
  go_enter Tryz.func3, Tryz.ntmps3
  go_wp2_with (first | go_skip)
  refine qa.mono ?_
  rintro e w1 ⟨rfl, k1⟩
  have B1 := B0.below k1
  have b1 := kb.trans (k1.mono hks)
  clear qa B0 kb k1
  go_wp2_with (first | go_skip)
  refine (q1 _ (S.below b1)).mono ?_
  rintro e w2 ⟨rfl, k2⟩
  have B2 := B1.below k2
  have b2 := b1.trans (k2.mono b1.size)
  clear q1 B1 b1 k2
  go_wp2_with (first | go_skip | (refine Cel.wpList_load_box CE rfl _ rfl _ rfl v B2 ?_))
  refine (q2 _).mono ?_
  rintro e w3 ⟨rfl, k3⟩
  have B3 := B2.below k3
  have b3 := b2.trans (k3.mono b2.size)
  clear q2 B2 b2 k3
  go_wp2_with (first | go_skip)
  refine Grow.region [(0, true), (1, true), (3, true), (4, true), (2, false), (5, false), (6, false), (7, true)] (by kernel_rfl) (by kernel_rfl) rfl (by kernel_rfl) (by intro c a d v w h; cases d <;> exact h) ?_
  have kd := below_drew1 (Below.refl w3.heap.size w3)
  have B4 := B3.below kd
  have b4 := b3.trans (kd.mono b3.size)
  generalize w3.drew = wz at B4 b4 ⊢
  clear B3 b3 kd
  (try simp only [Act.put, List.setIfInBounds_toArray, List.set_cons_succ, List.set_cons_zero])
  repeat (first | (refine Grow.reads rfl rfl ?_; go_big_quiet_want; refine Cel.quiet_row CE _ rfl _ _ rfl v B4.range ?_; go_big_quiet_on; refine wpQuiet_nil ?_; (try simp only [Act.put, List.setIfInBounds_toArray, List.set_cons_succ, List.set_cons_zero])) | (refine Grow.reads rfl rfl ?_; go_big_quiet_step (fail); refine wpQuiet_nil ?_))
  refine Grow.acts rfl ?_
  go_wp2_with (first | go_skip)
  refine (r1 _ (S.below b4) (I.below b4) (hK.below b4)).mono ?_
  rintro e w5 ⟨A5, c5, p5, rfl, S5, h5, k5⟩
  have H5 := aside h5
  have b5 := b4.trans (k5.mono b4.size)
  clear r1 B4 h5
  go_wp2_with (first | go_skip)
  refine ⟨k5, ?_⟩
  clear k5
  (try simp only [Act.put, List.setIfInBounds_toArray, List.set_cons_succ, List.set_cons_zero])
  refine Grow.acts rfl ?_
  go_wp2_with (first | go_skip)
  refine (r2 _ (S.below b5) (I.below b5)).mono ?_
  rintro e w6 ⟨A6, c6, p6, rfl, S6, h6, k6⟩
  have q := DgR.list_ret A5 A6 c5 c6 p5 p6 w6 (S5.below k6) S6
  rw [listB_iff.2 (H5.out.trans h6.symm)] at q
  have b6 := b5.trans (k6.mono b5.size)
  clear r2 h6 S5 S6 H5
  go_wp2_with (first | go_skip)
  refine ⟨k6, ?_⟩
  clear k6
  (try simp only [Act.put, List.setIfInBounds_toArray, List.set_cons_succ, List.set_cons_zero])
  refine Grow.acts rfl ?_
  go_wp2_with (first | go_skip)
  refine q.mono ?_
  rintro e w7 ⟨rfl, k7⟩
  have b7 := b6.trans (k7.mono b6.size)
  clear q
  go_wp2_with (first | go_skip)
  refine ⟨k7, ?_⟩
  clear k7
  (try simp only [Act.put, List.setIfInBounds_toArray, List.set_cons_succ, List.set_cons_zero])
  repeat (first | (refine Grow.reads rfl rfl ?_; go_big_quiet_step (fail); refine wpQuiet_nil ?_))
  refine Grow.ends ?_
  go_wp2_with (first | go_skip)
  refine (r3 _ (S.below b7) (T.below b7) (hK.below b7)).mono ?_
  rintro e w8 ⟨v8, A8, c8, p8, rfl, hv8, I8, _, hp8, S8, k8⟩
  have HV8 := aside hv8
  have HP8 := aside hp8
  have b8 := b7.trans (k8.mono b7.size)
  clear r3 hv8 hp8 b4 b5 b6 b7 k8
  go_wp2_with (first | go_skip | (refine Cel.wpList_store_new CE rfl _ _ rfl w8 _ _ rfl v8 _ rfl rfl rfl rfl ?_; intro w9 B9 k9 g9 s9; have I9 := I8.below k9; have S9 := S8.below k9; have b9 := b8.trans (k9.mono b8.size); clear g9 s9 I8 S8 b8 k9))
  refine (r4 _ (S.below b9) (T.below b9)).mono ?_
  rintro e wa ⟨va, Aa, ca, pa, rfl, hva, Ia, _, hpa, Sa, ka⟩
  have HVA := aside (HV8.out.trans hva.symm)
  have HPA := aside (HP8.out.trans hpa.symm)
  have B10 := B9.below ka
  have I10 := I9.below ka
  have S10 := S9.below ka
  have b10 := b9.trans (ka.mono b9.size)
  clear r4 hva hpa B9 I9 S9 b9 ka HV8 HP8
  go_wp2_with (first | go_skip | (refine Cel.wpList_store_new CE rfl _ _ rfl wa _ _ rfl va _ rfl rfl rfl rfl ?_; intro wb Bb kb1 gb sb; have B11 := B10.below kb1; have I11 := I10.below kb1; have Ib := Ia.below kb1; have S11 := S10.below kb1; have Sb := Sa.below kb1; have b11 := b10.trans (kb1.mono b10.size); clear gb sb B10 I10 Ia S10 Sa b10 kb1) | (refine Cel.wpList_load_box CE rfl _ rfl _ rfl v8 B11 ?_) | (refine Cel.wpList_load_box CE rfl _ rfl _ rfl va Bb ?_))
  have qs := CmR.same_ret v8 va wb I11 Ib
  rw [CmR.sameK_iff.2 HVA.out] at qs
  refine qs.mono ?_
  rintro e wc ⟨rfl, kc⟩
  have ql := DgR.list_ret A8 Aa c8 ca p8 pa wc (S11.below kc) (Sb.below kc)
  rw [listB_iff.2 HPA.out] at ql
  have b12 := b11.trans (kc.mono b11.size)
  clear qs B11 Bb I11 Ib S11 Sb b11 kc HVA HPA
  go_wp2_with (first | go_skip)
  refine ql.mono ?_
  rintro e wd ⟨rfl, kd⟩
  have b13 := b12.trans (kd.mono b12.size)
  clear ql b12 kd
  go_wp2_with (first | go_skip)
  refine (r5 _ (S.below b13) (T.below b13) (hK.below b13)).mono ?_
  rintro e we ⟨Ae, ce, rfl, Se, ke⟩
  have b14 := b13.trans (ke.mono b13.size)
  clear r5 b13 ke
  go_wp2_with (first | go_skip)
  refine (r6 _ (S.below b14) (T.below b14)).mono ?_
  rintro e wf ⟨Af, cf, rfl, Sf, kf⟩
  have qi := IdV.same_ret Ae Af ce cf _ _ wf (Se.below kf) Sf
  rw [decide_eq_true rfl] at qi
  have b15 := b14.trans (kf.mono b14.size)
  clear r6 b14 Se Sf kf
  go_wp2_with (first | go_skip)
  refine qi.mono ?_
  rintro e wg ⟨rfl, kg⟩
  have b16 := b15.trans (kg.mono b15.size)
  clear qi b15 kg
  have hbb : ∀ b : Bool, (b == b) = true := fun b => by simp
  go_wp2_with (first | go_skip)
  go_ret
  exact ⟨rfl, b16⟩
set_option maxRecDepth 100000 in
set_option maxHeartbeats 16000000 in
theorem no_list (Z : Aw) (A A' : Option Addr) (cap cap' : Nat) (l : List Cv) (h : List Idn) (v : Cv) (w : World) (S : SlK w A cap l) (hfl : fewD (coms l) 20 = false) (hK : ShaE.KIn w) :
    Calls Tryz.prog 3 #[.slice A l.length cap, .agg (cc v), .slice A' h.length cap'] w fun e w' => e = .returned (.bool true) ∧ Below w.heap.size w w' := by
  have kb := StW.below_alloc w (.cells (cc v) 29)
  have B0 : Cel.Box CE (w.alloc (.cells (cc v) 29)) w.heap.size v := Cel.Box.new (E := CE) w v _
  have qa := Z _ (hK.below kb)
  have q1 := fun W S => DgR.few_ret A cap l 20 W S
  have q2 := fun W => CmX.few_ret v W
  rw [hfl] at q1
  obtain ⟨z, hz⟩ : ∃ z, fewK v.c = z := ⟨_, rfl⟩
  rw [hz] at q2
  clear hz
  have hks := kb.size
  go_enter Tryz.func3, Tryz.ntmps3
  go_wp2_with (first | go_skip)
  refine qa.mono ?_
  rintro e w1 ⟨rfl, k1⟩
  have B1 := B0.below k1
  have b1 := kb.trans (k1.mono hks)
  clear qa B0 kb k1
  go_wp2_with (first | go_skip)
  refine (q1 _ (S.below b1)).mono ?_
  rintro e w2 ⟨rfl, k2⟩
  have B2 := B1.below k2
  have b2 := b1.trans (k2.mono b1.size)
  clear q1 B1 b1 k2
  go_wp2_with (first | go_skip | (refine Cel.wpList_load_box CE rfl _ rfl _ rfl v B2 ?_))
  refine (q2 _).mono ?_
  rintro e w3 ⟨rfl, k3⟩
  have b3 := b2.trans (k3.mono b2.size)
  clear q2 B2 b2 k3
  go_wp2_with (first | go_skip)
  go_ret
  exact ⟨rfl, b3⟩
set_option maxRecDepth 100000 in
set_option maxHeartbeats 16000000 in
theorem no_one (Z : Aw) (A A' : Option Addr) (cap cap' : Nat) (l : List Cv) (h : List Idn) (v : Cv) (w : World) (S : SlK w A cap l) (hfl : fewD (coms l) 20 = true) (hv : fewK v.c = false) (hK : ShaE.KIn w) :
    Calls Tryz.prog 3 #[.slice A l.length cap, .agg (cc v), .slice A' h.length cap'] w fun e w' => e = .returned (.bool true) ∧ Below w.heap.size w w' := by
  have kb := StW.below_alloc w (.cells (cc v) 29)
  have B0 : Cel.Box CE (w.alloc (.cells (cc v) 29)) w.heap.size v := Cel.Box.new (E := CE) w v _
  have qa := Z _ (hK.below kb)
  have q1 := fun W S => DgR.few_ret A cap l 20 W S
  have q2 := fun W => CmX.few_ret v W
  rw [hfl] at q1
  rw [hv] at q2
  have hks := kb.size
  go_enter Tryz.func3, Tryz.ntmps3
  go_wp2_with (first | go_skip)
  refine qa.mono ?_
  rintro e w1 ⟨rfl, k1⟩
  have B1 := B0.below k1
  have b1 := kb.trans (k1.mono hks)
  clear qa B0 kb k1
  go_wp2_with (first | go_skip)
  refine (q1 _ (S.below b1)).mono ?_
  rintro e w2 ⟨rfl, k2⟩
  have B2 := B1.below k2
  have b2 := b1.trans (k2.mono b1.size)
  clear q1 B1 b1 k2
  go_wp2_with (first | go_skip | (refine Cel.wpList_load_box CE rfl _ rfl _ rfl v B2 ?_))
  refine (q2 _).mono ?_
  rintro e w3 ⟨rfl, k3⟩
  have b3 := b2.trans (k3.mono b2.size)
  clear q2 B2 b2 k3
  go_wp2_with (first | go_skip)
  go_ret
  exact ⟨rfl, b3⟩
set_option maxRecDepth 100000 in
set_option maxHeartbeats 16000000 in
theorem no_ids (Z : Aw) (A A' : Option Addr) (cap cap' : Nat) (l : List Cv) (h : List Idn) (v : Cv) (w : World) (S : SlK w A cap l) (hfl : fewD (coms l) 20 = true) (hv : fewK v.c = true) (hh : 20 < h.length) (hK : ShaE.KIn w) :
    Calls Tryz.prog 3 #[.slice A l.length cap, .agg (cc v), .slice A' h.length cap'] w fun e w' => e = .returned (.bool true) ∧ Below w.heap.size w w' := by
  have kb := StW.below_alloc w (.cells (cc v) 29)
  have B0 : Cel.Box CE (w.alloc (.cells (cc v) 29)) w.heap.size v := Cel.Box.new (E := CE) w v _
  have qa := Z _ (hK.below kb)
  have q1 := fun W S => DgR.few_ret A cap l 20 W S
  have q2 := fun W => CmX.few_ret v W
  rw [hfl] at q1
  rw [hv] at q2
  have hks := kb.size
  have p0 : (20 : Int) < (h.length : Int) := by omega
  go_enter Tryz.func3, Tryz.ntmps3
  go_wp2_with (first | go_skip)
  refine qa.mono ?_
  rintro e w1 ⟨rfl, k1⟩
  have B1 := B0.below k1
  have b1 := kb.trans (k1.mono hks)
  clear qa B0 kb k1
  go_wp2_with (first | go_skip)
  refine (q1 _ (S.below b1)).mono ?_
  rintro e w2 ⟨rfl, k2⟩
  have B2 := B1.below k2
  have b2 := b1.trans (k2.mono b1.size)
  clear q1 B1 b1 k2
  go_wp2_with (first | go_skip | (refine Cel.wpList_load_box CE rfl _ rfl _ rfl v B2 ?_))
  refine (q2 _).mono ?_
  rintro e w3 ⟨rfl, k3⟩
  have b3 := b2.trans (k3.mono b2.size)
  clear q2 B2 b2 k3
  go_wp2_with (first | go_skip)
  go_ret
  exact ⟨rfl, b3⟩
theorem walk (Z : Aw) (X : Put1) (Y : Ready1) (V : Missing1) (A : Option Addr) (cap : Nat) (l : List Cv) (v : Cv) (A' : Option Addr) (cap' : Nat) (h : List Idn) (w : World) (S : SlK w A cap l) (I : In w v) (F : Fit v.c) (T : SlI w A' cap' h) (hK : ShaE.KIn w) :
    Calls Tryz.prog 3 #[.slice A l.length cap, .agg (cc v), .slice A' h.length cap'] w fun e w' => e = .returned (.bool true) ∧ Below w.heap.size w w' := by
  cases hfl : fewD (coms l) 20 with
  | false => exact no_list Z A A' cap cap' l h v w S hfl hK
  | true =>
    cases hv : fewK v.c with
    | false => exact no_one Z A A' cap cap' l h v w S hfl hv hK
    | true =>
      by_cases hh : h.length ≤ 20
      · have hfl2 := hfl
        unfold fewD at hfl2
        rw [Bool.and_eq_true, decide_eq_true_eq, coms_len] at hfl2
        exact within Z X Y V A A' cap cap' l h v w S T I F (by omega) (fun u hu => List.all_eq_true.1 hfl2.2 _ (List.mem_map_of_mem (f := (·.c)) hu)) hv hh hK
      · exact no_ids Z A A' cap cap' l h v w S hfl hv (by omega) hK
end Go.Proofs.YteojkfbnenfmkaaGreatDoor.WtU
