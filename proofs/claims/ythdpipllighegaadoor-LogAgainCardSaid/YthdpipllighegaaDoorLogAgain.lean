/- LogAgain returns true for every input, where the table of constants is as the program's text lays it: what is mended stays, and nothing is read of what stands behind. No other condition. -/
import Derived.Test.YthdpipllighegaaDoorLogA
import Derived.Test.YthdpipllighegaaDoorShaL
import Derived.Test.YthdpipllighegaaDoorCards
import Derived.Test.YthdpipllighegaaDoorTie
import Derived.ChangeOld
namespace Go.Proofs.YthdpipllighegaaDoor.logAgain
set_option maxRecDepth 100000
open Go Go.Sort Go.ChangeShapes Go.WideShapes Go.ChangeAt Go.RowKit Byt EncM LogM LogD LogE LogB LogA

set_option maxRecDepth 100000 in
theorem out (A : Option Addr) (len cap : Nat) (w : World) (h : 1000 < len) (hK : ShaE.KIn w) :
    Calls Tryd.prog 5 #[.slice A len cap] w fun e w' => e = .returned (.bool true) ∧ Below w.heap.size w w' := by
  have p0 : (1000 : Int) < (len : Int) := by omega
  clear h
  go_enter Tryd.func5, Tryd.ntmps5
  go_wp2_with (first | go_skip)
  refine (awake _ hK).mono ?_
  rintro e w1 ⟨rfl, k1⟩
  go_wp2_with (first | go_skip)
  go_ret
  exact ⟨rfl, k1⟩
set_option maxRecDepth 100000 in
set_option maxHeartbeats 8000000 in
theorem within (A : Option Addr) (len cap : Nat) (b : List Int) (w : World) (S : Sl w A cap b) (hl : b.length = len) (h : len ≤ 1000) (hK : ShaE.KIn w) :
    Calls Tryd.prog 5 #[.slice A len cap] w fun e w' => e = .returned (.bool true) ∧ Below w.heap.size w w' := by
  have p0 : ¬ (1000 : Int) < (len : Int) := by omega
  have hle := readL_le S.bytes
  have hmm := mendL_mend S.bytes
  have hbe := readL_behind S.bytes
  have hml : mendL b = b.take (readL b).2 := rfl
  obtain ⟨n, hn⟩ : ∃ n, (readL b).2 = n := ⟨_, rfl⟩
  obtain ⟨rs, hrs⟩ : ∃ rs, (readL b).1 = rs := ⟨_, rfl⟩
  obtain ⟨X, hX⟩ : ∃ X, mendL b = X := ⟨_, rfl⟩
  have q1 := fun W (T : Sl W A cap b) (K : ShaE.KIn W) => LogR.mend_ret T hl (by omega) K
  have q2 := fun W (T : Sl W A cap b) (K : ShaE.KIn W) => LogR.read_ret T hl (by omega) K
  rw [hX] at q1 hml hmm
  rw [hn, hrs] at q2
  rw [hn] at hml hle hbe
  have hXl : X.length = n := by rw [hml, List.length_take]; omega
  have hcap := S.1
  have parts := fun W (T : Sl W A cap b) => T.part 0 n (by omega) hle
  simp only [List.drop_zero, Nat.sub_zero, ← hml] at parts
  have parts2 := fun W (T : Sl W A cap b) => T.part n len (by omega) (by omega)
  have e1 : (b.drop n).take (len - n) = b.drop n := List.take_of_length_le (by rw [List.length_drop]; omega)
  simp only [e1] at parts2
  obtain ⟨A3, c3, hs3, S3, hl3⟩ := parts w S
  have hr3 := fun W => run_part_h W A len cap .i64 n (by omega)
  rw [hs3] at hr3
  obtain ⟨A4, c4, hs4, S4, hl4⟩ := parts2 w S
  have hr4 := fun W => run_part_l W A len cap .i64 n (by omega)
  rw [hs4] at hr4
  have pn0 : decide ((n : Int) < 0) = false := decide_eq_false (by omega)
  have pn1 : decide (len < n) = false := decide_eq_false (by omega)
  have p2 : 0 ≤ (n : Int) := by omega
  have XB : ∀ y ∈ X, Byt.B y := S3.bytes
  have t1 : ((strOf X).toList == (strOf X).toList) = true := by simp
  have q3 := fun W A c (T : Sl W A c X) (K : ShaE.KIn W) => LogR.mend_ret T hXl (by omega) K
  rw [hmm] at q3
  have q4 := fun W (T : Sl W A4 c4 (b.drop n)) (K : ShaE.KIn W) => LogR.read_ret T hl4 (by omega) K
  rw [hbe] at q4
  clear parts parts2 hml hmm hbe hn hrs hX e1 hs3 hs4 hle
  go_enter Tryd.func5, Tryd.ntmps5
  go_wp2_with (first | go_skip)
  refine (awake _ hK).mono ?_
  rintro e w1 ⟨rfl, k1⟩
  go_wp2_with (first | go_skip)
  refine (q1 _ (S.below k1) (hK.below k1)).mono ?_
  rintro e w2 ⟨A2, c2, rfl, S2, k2, _⟩
  have b2 := k1.trans (k2.mono k1.size)
  simp only [hXl]
  go_wp2_with (first | go_skip)
  refine (q2 _ (S.below b2) (hK.below b2)).mono ?_
  rintro e w3 ⟨A5, c5, ps, rfl, _, _, k3⟩
  have b3 := b2.trans (k3.mono b2.size)
  have T2 := S2.below k3
  clear q1 q2 k1 k2 k3 b2 S2
  go_wp2_with (first | go_skip)
  refine Grow.region [(0, true), (1, true), (2, true), (3, true), (4, true), (5, true), (6, true), (7, true), (8, true), (9, true), (10, true), (11, true), (12, true), (13, true), (14, true), (15, true), (16, true), (17, true), (18, true), (21, true), (22, true), (19, false), (20, true), (23, true), (24, true)] (by kernel_rfl) (by kernel_rfl) rfl (by kernel_rfl) (by intro c a d v w h; cases d <;> exact h) ?_
  change Grow.Seq _ _ _ _ _ w3.drew
  have dr := Byt.below_drew1 (Below.refl w3.heap.size w3)
  have T3 := T2.below dr
  have b4 := b3.trans (dr.mono b3.size)
  generalize w3.drew = w4 at T3 b4 ⊢
  clear T2 b3 dr
  have U3 := S3.below b4
  have cv2 := fun d os => (T3.below (below_regrown _ d os)).conv hXl
  have cv3 := fun d os => (U3.below (below_regrown _ d os)).conv hl3
  repeat (refine Grow.reads rfl rfl ?_; go_big_quiet_step (fail); refine wpQuiet_nil ?_)
  refine Grow.acts rfl ?_
  go_wp2_with (first | go_skip)
  refine (q3 _ _ _ T3 (hK.below b4)).mono ?_
  rintro e w5 ⟨A6, c6, rfl, S6, k6, _⟩
  simp only [hXl]
  go_wp2_with (first | go_skip)
  refine ⟨k6, ?_⟩
  have b6 := b4.trans (k6.mono b4.size)
  clear cv2 cv3
  have cv6 := fun d os => (S6.below (below_regrown _ d os)).conv hXl
  repeat (refine Grow.reads rfl rfl ?_; go_big_quiet_step (fail); refine wpQuiet_nil ?_)
  refine Grow.ends ?_
  clear cv6 q3
  go_wp2_with (first | go_skip)
  refine (q4 _ (S4.below b6) (hK.below b6)).mono ?_
  rintro e w7 ⟨A7, c7, qs, rfl, hqs, _, k7⟩
  have hq0 : qs.length = 0 := by rw [← tx_len, hqs]; rfl
  have b7 := b6.trans (k7.mono b6.size)
  simp only [hq0]
  go_wp2_with (first | go_skip)
  go_ret
  exact ⟨rfl, b7⟩
theorem walk (a0 : Option Addr) (len0 cap0 : Nat) (z0 : List Int) (w : World) (w0 : RowIn.RowIn .u8 w a0 len0 cap0 z0) (hK : ShaE.KIn w) :
    Calls Tryd.prog 5 #[.slice a0 len0 cap0] w fun e w' => e = .returned (.bool true) ∧ Below w.heap.size w w' := by
  by_cases h : 1000 < len0
  · exact out a0 len0 cap0 w h hK
  · obtain ⟨S, hl⟩ := Sl.of_row w0
    exact within a0 len0 cap0 _ w S hl (by omega) hK

theorem own : ownKnob Tryd.prog.godebug = none := by kernel_rfl
theorem laidOut : laidOutB Tryd.prog = true := by kernel_rfl
set_option linter.unusedVariables false in
set_option maxRecDepth 100000 in
theorem lifted (os : Os) (started : os.Started) (H : Type) (enc : TypeId × Value → H) :
    ReturnsInHanded {} Tryd.checked os 5 .any (fun w args => (Rows.logAgainSpec.pre enc Tryd.prog Tryd.f5 [] false w args ∧ laidMetH Tryd.prog ShaL.laid1 w) ∧ sizedMet enc Tryd.prog Tryd.f5 (OpenSpec.ofChange Rows.logAgainSpec) false w args)
      (Rows.logAgainSpec.post enc Tryd.prog Tryd.f5 false true false false) := by
  refine returnsInHanded_of_change_and (C := Tryd.checked) (X := fun w _ => laidMetH Tryd.prog ShaL.laid1 w) (fun _ _ _ hh h => h.of_heap hh) own started (by kernel_rfl) Tryd.func5
    (ChangeSpec.witness_shaped (enc := enc) (C := Tryd.checked) (os := os) (X := fun w _ => laidMetH Tryd.prog ShaL.laid1 w) false (World.doorLaid Tryd.prog 14 os) #[.slice none 0 0] 8 rfl (World.shaped_of_RefB (by kernel_rfl) (by kernel_rfl)) (by kernel_rfl) (by kernel_rfl) (by kernel_rfl) (ShaL.door_met os _)) ?_
  intro W base args ds gs before hval0 hW _ _ hL _
  have hval : ∀ (j : Nat) t v, Tryd.f5.params[j]? = some t → args[j]? = some v → Value.okWide Tryd.prog W .any base t v := hval0
  have hW' := hW
  obtain ⟨p, q, hA0, hV, rfl, hfz, hnd⟩ := hW
  have hA : DataW.TrodAll enc Tryd.prog W 0 (fun _ => true) true Tryd.f5.params.toList args.toList ds p := hA0
  rw [Tryd.params5] at hA hval
  obtain ⟨v0, vs0, d0, ds0, p0, q0, hargs, rfl, rfl, h0, r0⟩ := trodAll_cons hA
  obtain ⟨rfl, rfl, rfl⟩ := trodAll_nil r0
  obtain rfl : args = #[v0] := by cases args; simp_all
  obtain ⟨rfl, rfl⟩ := trodVars_none hV
  have k0 := h0
  have lt0 : ∀ x ∈ p0, x.block < W.heap.size := by obtain ⟨m, hm⟩ := k0; exact DataW.trod_lt m _ _ _ hm
  obtain ⟨a0, len0, cap0, z0, rfl, w0⟩ := RowIn.open_row Tryd.underlying22 Tryd.underlying5 (by kernel_rfl) (hval 0 22 v0 rfl rfl) h0
  clear hA0 hval0
  refine (walk a0 len0 cap0 z0 W w0 (ShaL.of_laid hL)).mono fun e W' ⟨he, bel⟩ => ?_
  subst he
  exact ⟨_, rfl, _, _, _, [], _, [], hW', trodAll_mk1 (shut_bool Tryd.underlying4 _), (trodAll_cons_mk (Below.trod laidOut (by kernel_rfl) (of_decide_eq_true (by kernel_rfl)) k0 bel lt0) trodAll_mk0), rfl, bel.frame _, fun h => by cases h⟩

theorem over : Rows.logAgainRow.holds Tryd.pinned (OpenSpec.ofChange Rows.logAgainSpec) :=
  OpenClaim.holds_of_wide 5 Tryd.f5 rfl rfl rfl rfl rfl rfl rfl ⟨rfl, rfl, rfl, rfl, rfl⟩ rfl rfl rfl rfl rfl (by kernel_rfl) Tryd.func5 (by kernel_rfl)
    (of_decide_eq_true (by kernel_rfl)) (by unfold Func.isWrapper; first | (rw [if_pos (by decide +kernel)]; kernel_rfl) | (rw [if_neg (by decide +kernel)]; exact ⟨rfl, rfl⟩))
    (fun os started H enc _ => lifted os started H enc)

theorem proved : Rows.LogAgainCardSaid :=
  Claim7.holds_tied_plain_at .later [] Rows.logAgainCard.laidKinds true Rows.logAgainCard.stood.harness Rows.logAgainCard.stood.looks
    over (fun _ h => by cases h) (by kernel_rfl) (fun _ h => by cases h) logAgain_row_tie rfl ⟨rfl, rfl⟩ (by kernel_rfl) rfl
    (fun f fn hf hfn => by
      obtain rfl : f = 5 := Option.some.inj ((show Tryd.prog.funcNamed Rows.logAgainRow.func = some 5 by kernel_rfl).symm.trans hf) |>.symm
      obtain rfl : fn = Tryd.f5 := (Option.some.inj (Tryd.func5.symm.trans hfn)).symm
      exact ⟨by kernel_rfl, fun j t ht => by
        rw [Tryd.params5] at ht
        have hm : t ∈ [22] := by simpa using Array.mem_of_getElem? ht
        have hall : ([22].all fun u => !Tryd.prog.wantsStandIn u) = true := by kernel_rfl
        exact (show Tryd.prog.wantsStandIn t = false by simpa using List.all_eq_true.1 hall t hm)⟩)
    (by kernel_rfl)
end Go.Proofs.YthdpipllighegaaDoor.logAgain
