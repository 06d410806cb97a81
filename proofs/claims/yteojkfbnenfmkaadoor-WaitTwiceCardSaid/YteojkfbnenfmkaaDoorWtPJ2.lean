/- What the project's Put of package wait returns: a contract. No condition but sizes. | As GrowL, where operations that act need not wait for one another: of these every order is walked, as a tree; what only reads is taken first. No condition. -/
import Derived.Test.YteojkfbnenfmkaaDoorWtH
import Derived.Test.YteojkfbnenfmkaaDoorMapVJ10
namespace Go.Proofs.YteojkfbnenfmkaaDoor.WtP
set_option maxRecDepth 100000
open Go Go.Sort Go.RowKit Byt IdM IdW OpsM OpsW CmM StW CmW CmX CmY CmA DgM DgW DgR DgF RowS DhB WtM WtF WtG WtH
open Classical

theorem copied_c (A : Option Addr) (cap : Nat) (l : List Cv) (w : World) (S : SlK w A cap l) (hl : l.length ≤ 1000000) (hp : ∀ v ∈ l, v.c.ps.length ≤ 1000000) :
    Calls Tryd.prog 25 #[.slice A l.length cap] w (NewC (coms l) w) := by
  refine (copied_ret A cap l w S hl hp).mono ?_
  rintro e w1 ⟨v, r, rfl, hr, o1, H1, k1⟩
  obtain ⟨A1, c1, rfl, S1⟩ := own_in o1 H1.each
  exact ⟨A1, c1, r, rfl, S1, hr, k1⟩
set_option maxRecDepth 100000 in
set_option maxHeartbeats 16000000 in
theorem put_ret (A : Option Addr) (cap : Nat) (l : List Cv) (v : Cv) (w : World) (S : SlK w A cap l) (hl : l.length ≤ 100000) (hp : ∀ v ∈ l, v.c.ps.length ≤ 1000000) (I : In w v) (F : Fit v.c) (hvp : v.c.ps.length ≤ 1000000) :
    Calls Tryd.prog 11 #[.slice A l.length cap, .agg (cc v)] w (NewC (putW (coms l) v.c) w) := by
  have kb := StW.below_alloc w (.cells (cc v) 29)
  have B0 : Cel.Box CE (w.alloc (.cells (cc v) 29)) w.heap.size v := Cel.Box.new (E := CE) w v _
  have q1 := CmA.may_ret v _ (I.below kb) F
  obtain ⟨m, hm⟩ : ∃ b, mayK v.c = b := ⟨_, rfl⟩
  rw [hm] at q1
  have HM := aside hm
  have HP := aside hp
  have qc := fun W (S : SlK W A cap l) => copied_c A cap l W S (by omega) hp
  clear hm hp
  unfold NewC at qc ⊢
  go_enter Tryd.func11, Tryd.ntmps11
  go_wp2_with (first | go_skip | (refine Cel.wpList_load_box CE rfl _ rfl _ rfl v B0 ?_))
  refine q1.mono ?_
  rintro e w1 ⟨rfl, k1⟩
  have B1 := B0.below k1
  have b1 := kb.trans (k1.mono kb.size)
  clear q1 B0 k1 kb
  cases m with
  | false =>
    have HN := aside (putW_no (l := coms l) (c := v.c) (.inl (by unfold waitB; rw [HM.out]; rfl)))
    clear HM HP
    go_wp2_with (first | go_skip)
    refine (qc _ (S.below b1)).mono ?_
    rintro e w2 ⟨A2, c2, r, rfl, S2, hr, k2⟩
    have HR := aside (hr.trans HN.out.symm)
    clear qc hr HN
    go_wp2_with (first | go_skip)
    go_ret
    exact ⟨A2, c2, r, rfl, S2, HR.out, b1.trans (k2.mono b1.size)⟩
  | true =>
    have q2 := CmA.merge_ret v w1 (I.below b1) F
    obtain ⟨m2, hm2⟩ : ∃ b, isM v.c = b := ⟨_, rfl⟩
    rw [hm2] at q2
    have HM2 := aside hm2
    clear hm2
    go_wp2_with (first | go_skip | (refine CmW.gload _ rfl _ rfl v B1 rfl ?_))
    refine q2.mono ?_
    rintro e w2 ⟨rfl, k2⟩
    have B2 := B1.below k2
    have b2 := b1.trans (k2.mono b1.size)
    clear q2 B1 k2 b1
    cases m2 with
    | true =>
      have HN := aside (putW_no (l := coms l) (c := v.c) (.inl (by unfold waitB; rw [HM.out, HM2.out]; rfl)))
      clear HM HM2 HP
      go_wp2_with (first | go_skip)
      refine (qc _ (S.below b2)).mono ?_
      rintro e w3 ⟨A3, c3, r, rfl, S3, hr, k3⟩
      have HR := aside (hr.trans HN.out.symm)
      clear qc hr HN
      go_wp2_with (first | go_skip)
      go_ret
      exact ⟨A3, c3, r, rfl, S3, HR.out, b2.trans (k3.mono b2.size)⟩
    | false =>
      have q3 := contains_ret w.heap.size v A cap l w2 (S.below b2) B2 (I.below b2)
      have HW : Hid (waitB v.c = true) := aside (by unfold waitB; rw [HM.out, HM2.out]; rfl)
      obtain ⟨m3, hm3⟩ : ∃ b, decide (v.c ∈ coms l) = b := ⟨_, rfl⟩
      rw [hm3] at q3
      have HM3 := aside hm3
      clear hm3 HM HM2
      go_wp2_with (first | go_skip)
      refine q3.mono ?_
      rintro e w3 ⟨rfl, k3⟩
      have B3 := B2.below k3
      have b3 := b2.trans (k3.mono b2.size)
      clear q3 B2 k3 b2
      cases m3 with
      | true =>
        have HN := aside (putW_no (l := coms l) (c := v.c) (.inr (of_decide_eq_true HM3.out)))
        clear HM3 HP HW
        go_wp2_with (first | go_skip)
        refine (qc _ (S.below b3)).mono ?_
        rintro e w4 ⟨A4, c4, r, rfl, S4, hr, k4⟩
        have HR := aside (hr.trans HN.out.symm)
        clear qc hr HN
        go_wp2_with (first | go_skip)
        go_ret
        exact ⟨A4, c4, r, rfl, S4, HR.out, b3.trans (k4.mono b3.size)⟩
      | false =>
        clear qc
        have m1 : IntKind.i64.wrap ((l.length : Int) + 1) = (l.length : Int) + 1 := IntWalk.i64_in _ (by omega)
        have m2 : IntKind.i64.wrap ((l.length : Int) + 1 - 8) = (l.length : Int) + 1 - 8 := IntWalk.i64_in _ (by omega)
        obtain ⟨f, hf⟩ : ∃ f, l.length + 1 - 8 = f := ⟨_, rfl⟩
        have mx : max (0 : Int) ((l.length : Int) + 1 - 8) = (f : Int) := by omega
        have hfl : f ≤ l.length := by omega
        obtain ⟨d, hd⟩ : ∃ d, l.length - f = d := ⟨_, rfl⟩
        have hdl : (l.drop f).length = d := by rw [List.length_drop, hd]
        have hlen : (l.drop f ++ [v]).length = d + 1 := by rw [List.length_append, hdl]; rfl
        have HC : Hid (coms (l.drop f ++ [v]) = putW (coms l) v.c) := aside (by
          rw [putW_yes HW.out (of_decide_eq_false HM3.out), coms_len, hf, List.drop_append_of_le_length (by rw [coms_len]; exact hfl)]
          unfold coms
          rw [List.map_append, List.map_drop]
          rfl)
        have HF := aside hfl
        have HD := aside hd
        have HL := aside hlen
        have HDL := aside hdl
        have hd9 : d ≤ 100000 := by omega
        clear hf hfl hd hlen hdl HW HM3
        go_wp2_with (first | go_skip)
        refine Grow.region [(0, true), (1, true), (2, true), (3, true), (4, true), (5, true), (6, true), (7, true), (8, false), (9, false), (10, false), (11, true)] (by kernel_rfl) (by kernel_rfl) rfl (by kernel_rfl) (by intro c a d v w h; cases d <;> exact h) ?_
        have kd := below_drew1 (Below.refl w3.heap.size w3)
        have B4 := B3.below kd
        have b4 := b3.trans (kd.mono b3.size)
        generalize w3.drew = wz at B4 b4 ⊢
        clear B3 b3 kd
        obtain ⟨A1, hq, S1⟩ := part_lhm (S.below b4).row f HF.out
        rw [HD.out] at hq S1
        have e1 : ∀ W, (Instr.sliceAt 22 (.slice A l.length cap) (some (.int .i64 (f : Int))) (some (.int .i64 (l.length : Int))) (some (.int .i64 (l.length : Int)))).run Tryd.prog W = .ok (.slice A1 d d) W := fun W => hq W .i64 .i64 .i64
        clear hq m1 m2 mx
        (try simp only [Act.put, List.setIfInBounds_toArray, List.set_cons_succ, List.set_cons_zero])
        repeat (first | (refine Grow.reads rfl rfl ?_; go_big_quiet_want; refine Cel.quiet_row CE _ rfl _ _ rfl v B4.range ?_; go_big_quiet_on; refine wpQuiet_nil ?_; (try simp only [Act.put, List.setIfInBounds_toArray, List.set_cons_succ, List.set_cons_zero])) | (refine Grow.reads rfl rfl ?_; go_big_quiet_step (fail); refine wpQuiet_nil ?_))
        clear e1
        refine Grow.acts rfl ?_
        go_wp2_with (first | go_skip | (refine build_com rfl _ rfl v rfl ?_; intro w5 X5 k5; have b5 := b4.trans (k5.mono b4.size); have S5 := S1.below k5))
        refine ⟨k5, ?_⟩
        clear k5 S1 B4
        (try simp only [Act.put, List.setIfInBounds_toArray, List.set_cons_succ, List.set_cons_zero])
        refine Grow.acts rfl ?_
        go_wp2_with (first | go_skip | (refine append_full rfl (.tmp 33) (.tmp 35) rfl A1 d (l.drop f) HDL.out rfl S5 _ v rfl X5 (by omega) ?_; intro w6 c6 o6 k6; have b6 := b5.trans (k6.mono b5.size)))
        refine ⟨k6, ?_⟩
        have U := S.below b6
        obtain ⟨A6, c7, hv6, T6⟩ := own_in (l := l.drop f ++ [v]) o6 (fun x hx => by
          rcases List.mem_append.1 hx with hx | hx
          · exact U.each x (List.mem_of_mem_drop hx)
          · rw [List.mem_singleton.1 hx]; exact ⟨I.below b6, F⟩)
        rw [HL.out] at hv6
        injection hv6 with h1 _ h3
        subst h1
        subst h3
        have q := copied_c _ c6 (l.drop f ++ [v]) w6 T6 (by rw [HL.out]; omega) (fun x hx => by
          rcases List.mem_append.1 hx with hx | hx
          · exact HP.out x (List.mem_of_mem_drop hx)
          · rw [List.mem_singleton.1 hx]; exact hvp)
        rw [HL.out, HC.out] at q
        unfold NewC at q
        clear k6 S5 X5 o6 U T6
        (try simp only [Act.put, List.setIfInBounds_toArray, List.set_cons_succ, List.set_cons_zero])
        refine Grow.acts rfl ?_
        go_wp2_with (first | go_skip)
        refine q.mono ?_
        rintro e w7 ⟨A7, c8, r, rfl, S7, hr, k7⟩
        have HR := aside hr
        clear q hr
        go_wp2_with (first | go_skip)
        refine ⟨k7, ?_⟩
        (try simp only [Act.put, List.setIfInBounds_toArray, List.set_cons_succ, List.set_cons_zero])
        repeat (first | (refine Grow.reads rfl rfl ?_; go_big_quiet_step (fail); refine wpQuiet_nil ?_))
        refine Grow.ends ?_
        go_wp2_with (first | go_skip)
        go_ret
        exact ⟨A7, c8, r, rfl, S7, HR.out, b6.trans (k7.mono b6.size)⟩
end Go.Proofs.YteojkfbnenfmkaaDoor.WtP
namespace Go.Proofs.YteojkfbnenfmkaaDoor.GrowT
set_option maxRecDepth 100000
open Go Go.Sort Go.RowKit GrowL
open Forks (Tree One)

section
variable {P : Program} {ops : Array Oper} {Q : Exit → Act → World → Prop} {md : Region.Mode}




end
end Go.Proofs.YteojkfbnenfmkaaDoor.GrowT
