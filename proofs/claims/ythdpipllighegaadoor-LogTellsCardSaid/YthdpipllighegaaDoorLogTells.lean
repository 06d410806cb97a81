/- LogTells returns true for every input, where the table of constants is as the program's text lays it: Frame, Read, Mend and Write answer what the document's answers do. No other condition. -/
import Derived.Test.YthdpipllighegaaDoorLogA
import Derived.Test.YthdpipllighegaaDoorLogU
import Derived.Test.YthdpipllighegaaDoorShaL
import Derived.Test.YthdpipllighegaaDoorCards
import Derived.Test.YthdpipllighegaaDoorTie
import Derived.ChangeOld
namespace Go.Proofs.YthdpipllighegaaDoor.logTells
set_option maxRecDepth 100000
open Go Go.Sort Go.ChangeShapes Go.WideShapes Go.ChangeAt Go.RowKit Byt EncM LogM LogD LogE LogB LogW LogA

set_option maxRecDepth 100000 in
theorem out1 (A A' : Option Addr) (len len' cap cap' : Nat) (room : Int) (w : World) (h : 1000 < len) (hK : ShaE.KIn w) :
    Calls Tryd.prog 3 #[.slice A len cap, .int .i64 room, .slice A' len' cap'] w fun e w' => e = .returned (.bool true) ∧ Below w.heap.size w w' := by
  have p0 : (1000 : Int) < (len : Int) := by omega
  clear h
  go_enter Tryd.func3, Tryd.ntmps3
  go_wp2_with (first | go_skip)
  refine (awake _ hK).mono ?_
  rintro e w1 ⟨rfl, k1⟩
  go_wp2_with (first | go_skip)
  go_ret
  exact ⟨rfl, k1⟩
set_option maxRecDepth 100000 in
theorem out2 (A A' : Option Addr) (len len' cap cap' : Nat) (room : Int) (w : World) (h0 : len ≤ 1000) (h : 1000 < len') (hK : ShaE.KIn w) :
    Calls Tryd.prog 3 #[.slice A len cap, .int .i64 room, .slice A' len' cap'] w fun e w' => e = .returned (.bool true) ∧ Below w.heap.size w w' := by
  have p0 : ¬ (1000 : Int) < (len : Int) := by omega
  have p1 : (1000 : Int) < (len' : Int) := by omega
  clear h h0
  go_enter Tryd.func3, Tryd.ntmps3
  go_wp2_with (first | go_skip)
  refine (awake _ hK).mono ?_
  rintro e w1 ⟨rfl, k1⟩
  go_wp2_with (first | go_skip)
  go_ret
  exact ⟨rfl, k1⟩
set_option maxRecDepth 100000 in
set_option maxHeartbeats 16000000 in
theorem within (A A' : Option Addr) (len len' cap cap' : Nat) (room : Int) (b x : List Int) (w : World) (S : Sl w A cap b) (T : Sl w A' cap' x) (hl : b.length = len) (hl' : x.length = len') (h : len ≤ 1000) (h' : len' ≤ 1000) (hK : ShaE.KIn w) :
    Calls Tryd.prog 3 #[.slice A len cap, .int .i64 room, .slice A' len' cap'] w fun e w' => e = .returned (.bool true) ∧ Below w.heap.size w w' := by
  have p0 : ¬ (1000 : Int) < (len : Int) := by omega
  have p1 : ¬ (1000 : Int) < (len' : Int) := by omega
  have q1 := fun W (T : Sl W A' cap' x) (K : ShaE.KIn W) => frame_yes T hl' (by omega) K
  have q2 := fun W (T : Sl W A' cap' x) => LogS.frame_yes T hl' (by omega)
  have q3 := fun W (S : Sl W A cap b) (K : ShaE.KIn W) => LogR.read_ret S hl (by omega) K
  have q4 := fun W (S : Sl W A cap b) => LogT.read_ret S hl (by omega)
  have q5 := fun W (S : Sl W A cap b) (T : Sl W A' cap' x) (K : ShaE.KIn W) => write_ret (room := room) S T hl hl' (by omega) K
  have q6 := fun W (S : Sl W A cap b) (T : Sl W A' cap' x) => LogU.write_ret (room := room) S T hl hl' (by omega)
  have q7 := fun W (S : Sl W A cap b) (K : ShaE.KIn W) => LogR.mend_ret S hl (by omega) K
  have q8 := fun W (S : Sl W A cap b) => LogU.mend_ret S hl (by omega)
  obtain ⟨F, hF⟩ : ∃ F, frameL x = F := ⟨_, rfl⟩
  obtain ⟨n, hn⟩ : ∃ n, (readL b).2 = n := ⟨_, rfl⟩
  obtain ⟨rs, hrs⟩ : ∃ rs, (readL b).1 = rs := ⟨_, rfl⟩
  obtain ⟨Y, hY⟩ : ∃ Y, writeO b x room = Y := ⟨_, rfl⟩
  obtain ⟨M, hM⟩ : ∃ M, mendL b = M := ⟨_, rfl⟩
  simp only [hF] at q1 q2
  simp only [hn, hrs] at q3 q4
  simp only [hY] at q5 q6
  simp only [hM] at q7 q8
  obtain ⟨Y, ey⟩ := Y
  have tF : ((strOf F).toList == (strOf F).toList) = true := by simp
  have tY : ((strOf Y).toList == (strOf Y).toList) = true := by simp
  have tM : ((strOf M).toList == (strOf M).toList) = true := by simp
  have te : (ey == ey) = true := by simp
  have tn : ((n : Int) == (n : Int)) = true := by simp
  obtain ⟨lF, hlF⟩ : ∃ k, F.length = k := ⟨_, rfl⟩
  obtain ⟨lY, hlY⟩ : ∃ k, Y.length = k := ⟨_, rfl⟩
  obtain ⟨lM, hlM⟩ : ∃ k, M.length = k := ⟨_, rfl⟩
  clear hF hn hrs hY hM
  go_enter Tryd.func3, Tryd.ntmps3
  go_wp2_with (first | go_skip)
  refine (awake _ hK).mono ?_
  rintro e w1 ⟨rfl, k1⟩
  go_wp2_with (first | go_skip)
  refine (q1 _ (T.below k1) (hK.below k1)).mono ?_
  rintro e w2 ⟨A2, c2, rfl, S2, k2⟩
  have b2 := k1.trans (k2.mono k1.size)
  simp only [hlF] at S2 ⊢
  clear q1 k1 k2
  go_wp2_with (first | go_skip)
  refine (q2 _ (T.below b2)).mono ?_
  rintro e w3 ⟨A3, c3, rfl, S3, k3⟩
  have b3 := b2.trans (k3.mono b2.size)
  have S2' := S2.below k3
  simp only [hlF] at S3 ⊢
  clear q2 k3 b2 S2
  go_wp2_with (first | go_skip)
  refine (q3 _ (S.below b3) (hK.below b3)).mono ?_
  rintro e w4 ⟨A4, c4, ps, rfl, hps, S4, k4⟩
  have b4 := b3.trans (k4.mono b3.size)
  have S2 := S2'.below k4
  have S3' := S3.below k4
  clear q3 k4 b3 S2' S3
  go_wp2_with (first | go_skip)
  refine (q4 _ (S.below b4)).mono ?_
  rintro e w5 ⟨A5, c5, qs, rfl, hqs, S5, k5⟩
  have b5 := b4.trans (k5.mono b4.size)
  have S2' := S2.below k5
  have S3 := S3'.below k5
  have S4' := S4.below k5
  have qe := LogU.same_ret S4' S5 rfl rfl
  rw [hps, hqs, decide_eq_true rfl] at qe
  clear q4 k5 b4 S2 S3' S4 S5 hps hqs S4'
  go_wp2_with (first | go_skip)
  refine qe.mono ?_
  rintro e w6 ⟨rfl, k6⟩
  have b6 := b5.trans (k6.mono b5.size)
  have S2 := S2'.below k6
  have S3' := S3.below k6
  clear qe k6 b5 S2' S3
  go_wp2_with (first | go_skip)
  refine (q5 _ (S.below b6) (T.below b6) (hK.below b6)).mono ?_
  rintro e w7 ⟨A7, c7, rfl, S7, k7⟩
  have b7 := b6.trans (k7.mono b6.size)
  have S2' := S2.below k7
  have S3 := S3'.below k7
  simp only [hlY] at S7 ⊢
  clear q5 k7 b6 S2 S3'
  go_wp2_with (first | go_skip)
  refine (q6 _ (S.below b7) (T.below b7)).mono ?_
  rintro e w8 ⟨A8, c8, rfl, S8, k8⟩
  have b8 := b7.trans (k8.mono b7.size)
  have S2 := S2'.below k8
  have S3' := S3.below k8
  have S7' := S7.below k8
  simp only [hlY] at S8 ⊢
  clear q6 k8 b7 S2' S3 S7
  go_wp2_with (first | go_skip)
  refine Grow.region [(0, true), (1, true), (2, true), (3, true), (4, true), (5, true), (6, true), (7, true), (8, true), (9, true), (10, true), (11, true), (12, true), (13, true), (14, true), (15, true), (16, true), (17, true), (18, true), (19, true), (20, true), (21, true), (22, true), (23, true), (24, true), (25, true), (26, true), (27, true), (28, true), (29, true), (30, true), (31, true), (34, true), (32, false), (33, true), (35, false), (36, true), (37, true), (38, true), (39, true)] (by kernel_rfl) (by kernel_rfl) rfl (by kernel_rfl) (by intro c a d v w h; cases d <;> exact h) ?_
  change Grow.Seq _ _ _ _ _ w8.drew
  have dr := Byt.below_drew1 (Below.refl w8.heap.size w8)
  have T2 := S2.below dr
  have T3 := S3'.below dr
  have T7 := S7'.below dr
  have T8 := S8.below dr
  have b9 := b8.trans (dr.mono b8.size)
  generalize w8.drew = w9 at T2 T3 T7 T8 b9 ⊢
  clear S2 S3' S7' S8 b8 dr
  have cv2 := fun d os => (T2.below (below_regrown _ d os)).conv hlF
  have cv3 := fun d os => (T3.below (below_regrown _ d os)).conv hlF
  have cv7 := fun d os => (T7.below (below_regrown _ d os)).conv hlY
  have cv8 := fun d os => (T8.below (below_regrown _ d os)).conv hlY
  clear T2 T3 T7 T8
  repeat (refine Grow.reads rfl rfl ?_; go_big_quiet_step (fail); refine wpQuiet_nil ?_)
  clear cv2 cv3 cv7 cv8
  refine Grow.acts rfl ?_
  go_wp2_with (first | go_skip)
  refine (q7 _ (S.below b9) (hK.below b9)).mono ?_
  rintro e wa ⟨A6, c6, rfl, Sa, ka, _⟩
  simp only [hlM]
  go_wp2_with (first | go_skip)
  refine ⟨ka, ?_⟩
  have ba := b9.trans (ka.mono b9.size)
  have cva := fun d os => (Sa.below (below_regrown _ d os)).conv hlM
  clear q7 ka b9
  repeat (refine Grow.reads rfl rfl ?_; go_big_quiet_step (fail); refine wpQuiet_nil ?_)
  clear cva
  refine Grow.acts rfl ?_
  go_wp2_with (first | go_skip)
  refine (q8 _ (S.below ba)).mono ?_
  rintro e wb ⟨A9, c9, rfl, Sb, kb, _⟩
  simp only [hlM]
  go_wp2_with (first | go_skip)
  refine ⟨kb, ?_⟩
  have bb := ba.trans (kb.mono ba.size)
  have cvb := fun d os => (Sb.below (below_regrown _ d os)).conv hlM
  clear q8 kb ba
  repeat (refine Grow.reads rfl rfl ?_; go_big_quiet_step (fail); refine wpQuiet_nil ?_)
  clear cvb
  refine Grow.ends ?_
  go_wp2_with (first | go_skip)
  go_ret
  exact ⟨rfl, bb⟩
theorem walk (a0 : Option Addr) (len0 cap0 : Nat) (z0 : List Int) (a1 : Int) (a2 : Option Addr) (len2 cap2 : Nat) (z2 : List Int) (w : World) (w0 : RowIn.RowIn .u8 w a0 len0 cap0 z0) (_ : (Lit.int .i64 a1).wf = true) (w2 : RowIn.RowIn .u8 w a2 len2 cap2 z2) (hK : ShaE.KIn w) :
    Calls Tryd.prog 3 #[.slice a0 len0 cap0, .int .i64 a1, .slice a2 len2 cap2] w fun e w' => e = .returned (.bool true) ∧ Below w.heap.size w w' := by
  by_cases h : 1000 < len0
  · exact out1 a0 a2 len0 len2 cap0 cap2 a1 w h hK
  by_cases h' : 1000 < len2
  · exact out2 a0 a2 len0 len2 cap0 cap2 a1 w (by omega) h' hK
  · obtain ⟨S, hl⟩ := Sl.of_row w0
    obtain ⟨T, hl'⟩ := Sl.of_row w2
    exact within a0 a2 len0 len2 cap0 cap2 a1 _ _ w S T hl hl' (by omega) (by omega) hK

theorem own : ownKnob Tryd.prog.godebug = none := by kernel_rfl
theorem laidOut : laidOutB Tryd.prog = true := by kernel_rfl
set_option linter.unusedVariables false in
set_option maxRecDepth 100000 in
theorem lifted (os : Os) (started : os.Started) (H : Type) (enc : TypeId × Value → H) :
    ReturnsInHanded {} Tryd.checked os 3 .any (fun w args => (Rows.logTellsSpec.pre enc Tryd.prog Tryd.f3 [] false w args ∧ laidMetH Tryd.prog ShaL.laid1 w) ∧ sizedMet enc Tryd.prog Tryd.f3 (OpenSpec.ofChange Rows.logTellsSpec) false w args)
      (Rows.logTellsSpec.post enc Tryd.prog Tryd.f3 false true false false) := by
  refine returnsInHanded_of_change_and (C := Tryd.checked) (X := fun w _ => laidMetH Tryd.prog ShaL.laid1 w) (fun _ _ _ hh h => h.of_heap hh) own started (by kernel_rfl) Tryd.func3
    (ChangeSpec.witness_shaped (enc := enc) (C := Tryd.checked) (os := os) (X := fun w _ => laidMetH Tryd.prog ShaL.laid1 w) false (World.doorLaid Tryd.prog 14 os) #[.slice none 0 0, .int .i64 0, .slice none 0 0] 8 rfl (World.shaped_of_RefB (by kernel_rfl) (by kernel_rfl)) (by kernel_rfl) (by kernel_rfl) (by kernel_rfl) (ShaL.door_met os _)) ?_
  intro W base args ds gs before hval0 hW _ _ hL _
  have hval : ∀ (j : Nat) t v, Tryd.f3.params[j]? = some t → args[j]? = some v → Value.okWide Tryd.prog W .any base t v := hval0
  have hW' := hW
  obtain ⟨p, q, hA0, hV, rfl, hfz, hnd⟩ := hW
  have hA : DataW.TrodAll enc Tryd.prog W 0 (fun _ => true) true Tryd.f3.params.toList args.toList ds p := hA0
  rw [Tryd.params3] at hA hval
  obtain ⟨v0, vs0, d0, ds0, p0, q0, hargs, rfl, rfl, h0, r0⟩ := trodAll_cons hA
  obtain ⟨v1, vs1, d1, ds1, p1, q1, rfl, rfl, rfl, h1, r1⟩ := trodAll_cons r0
  obtain ⟨v2, vs2, d2, ds2, p2, q2, rfl, rfl, rfl, h2, r2⟩ := trodAll_cons r1
  obtain ⟨rfl, rfl, rfl⟩ := trodAll_nil r2
  obtain rfl : args = #[v0, v1, v2] := by cases args; simp_all
  obtain ⟨rfl, rfl⟩ := trodVars_none hV
  have k0 := h0
  have lt0 : ∀ x ∈ p0, x.block < W.heap.size := by obtain ⟨m, hm⟩ := k0; exact DataW.trod_lt m _ _ _ hm
  obtain ⟨a0, len0, cap0, z0, rfl, w0⟩ := RowIn.open_row Tryd.underlying22 Tryd.underlying5 (by kernel_rfl) (hval 0 22 v0 rfl rfl) h0
  obtain ⟨a1, rfl, rfl, rfl, w1⟩ := open_int Tryd.underlying3 (hval 1 3 v1 rfl rfl) h1
  have k2 := h2
  have lt2 : ∀ x ∈ p2, x.block < W.heap.size := by obtain ⟨m, hm⟩ := k2; exact DataW.trod_lt m _ _ _ hm
  obtain ⟨a2, len2, cap2, z2, rfl, w2⟩ := RowIn.open_row Tryd.underlying22 Tryd.underlying5 (by kernel_rfl) (hval 2 22 v2 rfl rfl) h2
  clear hA0 hval0
  refine (walk a0 len0 cap0 z0 a1 a2 len2 cap2 z2 W w0 w1 w2 (ShaL.of_laid hL)).mono fun e W' ⟨he, bel⟩ => ?_
  subst he
  exact ⟨_, rfl, _, _, _, [], _, [], hW', trodAll_mk1 (shut_bool Tryd.underlying4 _), (trodAll_cons_mk (Below.trod laidOut (by kernel_rfl) (of_decide_eq_true (by kernel_rfl)) k0 bel lt0) (trodAll_cons_mk (shut_int Tryd.underlying3 w1) (trodAll_cons_mk (Below.trod laidOut (by kernel_rfl) (of_decide_eq_true (by kernel_rfl)) k2 bel lt2) trodAll_mk0))), rfl, bel.frame _, fun h => by cases h⟩

theorem over : Rows.logTellsRow.holds Tryd.pinned (OpenSpec.ofChange Rows.logTellsSpec) :=
  OpenClaim.holds_of_wide 3 Tryd.f3 rfl rfl rfl rfl rfl rfl rfl ⟨rfl, rfl, rfl, rfl, rfl⟩ rfl rfl rfl rfl rfl (by kernel_rfl) Tryd.func3 (by kernel_rfl)
    (of_decide_eq_true (by kernel_rfl)) (by unfold Func.isWrapper; first | (rw [if_pos (by decide +kernel)]; kernel_rfl) | (rw [if_neg (by decide +kernel)]; exact ⟨rfl, rfl⟩))
    (fun os started H enc _ => lifted os started H enc)

theorem proved : Rows.LogTellsCardSaid :=
  Claim7.holds_tied_plain_at .later [] Rows.logTellsCard.laidKinds true Rows.logTellsCard.stood.harness Rows.logTellsCard.stood.looks
    over (fun _ h => by cases h) (by kernel_rfl) (fun _ h => by cases h) logTells_row_tie rfl ⟨rfl, rfl⟩ (by kernel_rfl) rfl
    (fun f fn hf hfn => by
      obtain rfl : f = 3 := Option.some.inj ((show Tryd.prog.funcNamed Rows.logTellsRow.func = some 3 by kernel_rfl).symm.trans hf) |>.symm
      obtain rfl : fn = Tryd.f3 := (Option.some.inj (Tryd.func3.symm.trans hfn)).symm
      exact ⟨by kernel_rfl, fun j t ht => by
        rw [Tryd.params3] at ht
        have hm : t ∈ [22, 3, 22] := by simpa using Array.mem_of_getElem? ht
        have hall : ([22, 3, 22].all fun u => !Tryd.prog.wantsStandIn u) = true := by kernel_rfl
        exact (show Tryd.prog.wantsStandIn t = false by simpa using List.all_eq_true.1 hall t hm)⟩)
    (by kernel_rfl)
end Go.Proofs.YthdpipllighegaaDoor.logTells
