/- LogLongs returns true for every input, where the table of constants is as the program's text lays it: a frame has five bytes more than its record, or six; more than 4000 bytes are an error. No other condition. -/
import Derived.Test.YthdpipllighegaaDoorLogA
import Derived.Test.YthdpipllighegaaDoorShaL
import Derived.Test.YthdpipllighegaaDoorCards
import Derived.Test.YthdpipllighegaaDoorTie
import Derived.ChangeOld
namespace Go.Proofs.YthdpipllighegaaDoor.logLongs
set_option maxRecDepth 100000
open Go.ChangeShapes Go.WideShapes Go.ChangeAt Go.RowKit Byt EncM LogM LogD LogE LogA

set_option maxRecDepth 100000 in
theorem out (a : Int) (w : World) (h : a < 0 ∨ 5000 < a) (hK : ShaE.KIn w) :
    Calls Tryd.prog 6 #[.int .i64 a] w fun e w' => e = .returned (.bool true) ∧ Below w.heap.size w w' := by
  by_cases h0 : a < 0
  all_goals
    try have h1 : 5000 < a := by omega
    clear h
    go_enter Tryd.func6, Tryd.ntmps6
    go_wp2_with (first | go_skip)
    refine (awake _ hK).mono ?_
    rintro e w1 ⟨rfl, k1⟩
    go_wp2_with (first | go_skip)
    go_ret
    exact ⟨rfl, k1⟩
theorem zero_B (n : Nat) : ∀ x ∈ List.replicate n (0 : Int), Byt.B x := fun x hx => by
  rw [(List.mem_replicate.1 hx).2]
  unfold Byt.B
  omega
theorem zero_at (w : World) (n : Nat) (hn : n ≤ 5000) : Sl (w.alloc (.cells (List.replicate n (.int .u8 0)).toArray 5)) (some ⟨w.heap.size, 0, none⟩) n (List.replicate n 0) := by
  have h := sl_at (l := List.replicate n (0 : Int)) (w := w.alloc (.cells (List.replicate n (.int .u8 0)).toArray 5)) (g := w.heap.size) ⟨5, by rw [heap_alloc_new]; simp [Byt.bv]⟩ (by simp [maxLen]; omega) (zero_B n)
  rwa [List.length_replicate] at h
set_option maxRecDepth 100000 in
set_option maxHeartbeats 4000000 in
theorem within (n : Nat) (w : World) (h : n ≤ 5000) (hK : ShaE.KIn w) :
    Calls Tryd.prog 6 #[.int .i64 n] w fun e w' => e = .returned (.bool true) ∧ Below w.heap.size w w' := by
  have h0 : ¬ (n : Int) < 0 := by omega
  have h1 : ¬ (5000 : Int) < (n : Int) := by omega
  obtain ⟨F, hF⟩ : ∃ F, frameL (List.replicate n 0) = F := ⟨_, rfl⟩
  have hl := frameL_len (List.replicate n 0)
  rw [hF, List.length_replicate] at hl
  by_cases h4 : 4000 < n
  · have qf := fun W A cap => frame_no (w := W) (A := A) (cap := cap) h4
    have p4 : (4000 : Int) < (n : Int) := by omega
    clear h4 hl hF F
    go_enter Tryd.func6, Tryd.ntmps6
    go_wp2_with (first | go_skip)
    refine (awake _ hK).mono ?_
    rintro e w1 ⟨rfl, k1⟩
    go_wp2_with (first | go_skip | (refine Small.wpList_make_at rfl 22 _ _ rfl 5 (.int .u8 0) Tryd.underlying22 zero_u8 rfl n rfl rfl n rfl (by omega) ?_))
    have k2 := k1.alloc k1.size (.cells (List.replicate n (.int .u8 0)).toArray 5)
    refine (qf _ _ _).mono ?_
    rintro e w3 ⟨A3, c3, rfl, S3, k3⟩
    have b3 := k2.trans (k3.mono k2.size)
    go_wp2_with (first | go_skip)
    go_ret
    exact ⟨rfl, b3⟩
  · have p4 : ¬ (4000 : Int) < (n : Int) := by omega
    have qf := fun (W : World) (A : Option Addr) (T : Sl W A n (List.replicate n 0)) (K : ShaE.KIn W) => frame_yes T (len := n) (by simp) (by omega) K
    rw [hF] at qf
    have m5 : IntKind.i64.wrap ((n : Int) + 5) = (n : Int) + 5 := IntWalk.i64_in _ (by omega)
    have m6 : IntKind.i64.wrap ((n : Int) + 6) = (n : Int) + 6 := IntWalk.i64_in _ (by omega)
    by_cases h2 : 127 < n
    all_goals
      first | (have p2 : (127 : Int) < (n : Int) := by omega) | (have p2 : ¬ (127 : Int) < (n : Int) := by omega)
      first | (have hlen : F.length = n + 6 := by have := (numL_len1 n); have := (numL_len2 n); have := numL_pos n; omega) | (have hlen : F.length = n + 5 := by have := (numL_len1 n); omega)
      clear h4 hl hF h2
      go_enter Tryd.func6, Tryd.ntmps6
      go_wp2_with (first | go_skip)
      refine (awake _ hK).mono ?_
      rintro e w1 ⟨rfl, k1⟩
      go_wp2_with (first | go_skip | (refine Small.wpList_make_at rfl 22 _ _ rfl 5 (.int .u8 0) Tryd.underlying22 zero_u8 rfl n rfl rfl n rfl (by omega) ?_))
      have k2 := k1.alloc k1.size (.cells (List.replicate n (.int .u8 0)).toArray 5)
      refine (qf _ _ (zero_at w1 n h) (hK.below k2)).mono ?_
      rintro e w3 ⟨A3, c3, rfl, S3, k3⟩
      have b3 := k2.trans (k3.mono k2.size)
      simp only [hlen]
      clear qf hlen S3
      go_wp2_with (first | go_skip)
      go_ret
      exact ⟨by simp, b3⟩
theorem walk (a0 : Int) (w : World) (w0 : (Lit.int .i64 a0).wf = true) (hK : ShaE.KIn w) :
    Calls Tryd.prog 6 #[.int .i64 a0] w fun e w' => e = .returned (.bool true) ∧ Below w.heap.size w w' := by
  by_cases h : a0 < 0 ∨ 5000 < a0
  · exact out a0 w h hK
  · obtain ⟨n, rfl⟩ : ∃ n : Nat, a0 = n := ⟨a0.toNat, by omega⟩
    exact within n w (by omega) hK

theorem own : ownKnob Tryd.prog.godebug = none := by kernel_rfl
set_option linter.unusedVariables false in
set_option maxRecDepth 100000 in
theorem lifted (os : Os) (started : os.Started) (H : Type) (enc : TypeId × Value → H) :
    ReturnsInHanded {} Tryd.checked os 6 .any (fun w args => (Rows.logLongsSpec.pre enc Tryd.prog Tryd.f6 [] false w args ∧ laidMetH Tryd.prog ShaL.laid1 w) ∧ sizedMet enc Tryd.prog Tryd.f6 (OpenSpec.ofChange Rows.logLongsSpec) false w args)
      (Rows.logLongsSpec.post enc Tryd.prog Tryd.f6 false true false false) := by
  refine returnsInHanded_of_change_and (C := Tryd.checked) (X := fun w _ => laidMetH Tryd.prog ShaL.laid1 w) (fun _ _ _ hh h => h.of_heap hh) own started (by kernel_rfl) Tryd.func6
    (ChangeSpec.witness_shaped (enc := enc) (C := Tryd.checked) (os := os) (X := fun w _ => laidMetH Tryd.prog ShaL.laid1 w) false (World.doorLaid Tryd.prog 14 os) #[.int .i64 0] 8 rfl (World.shaped_of_RefB (by kernel_rfl) (by kernel_rfl)) (by kernel_rfl) (by kernel_rfl) (by kernel_rfl) (ShaL.door_met os _)) ?_
  intro W base args ds gs before hval0 hW _ _ hL _
  have hval : ∀ (j : Nat) t v, Tryd.f6.params[j]? = some t → args[j]? = some v → Value.okWide Tryd.prog W .any base t v := hval0
  have hW' := hW
  obtain ⟨p, q, hA0, hV, rfl, hfz, hnd⟩ := hW
  have hA : DataW.TrodAll enc Tryd.prog W 0 (fun _ => true) true Tryd.f6.params.toList args.toList ds p := hA0
  rw [Tryd.params6] at hA hval
  obtain ⟨v0, vs0, d0, ds0, p0, q0, hargs, rfl, rfl, h0, r0⟩ := trodAll_cons hA
  obtain ⟨rfl, rfl, rfl⟩ := trodAll_nil r0
  obtain rfl : args = #[v0] := by cases args; simp_all
  obtain ⟨rfl, rfl⟩ := trodVars_none hV
  obtain ⟨a0, rfl, rfl, rfl, w0⟩ := open_int Tryd.underlying3 (hval 0 3 v0 rfl rfl) h0
  clear hA0 hval0
  refine (walk a0 W w0 (ShaL.of_laid hL)).mono fun e W' ⟨he, bel⟩ => ?_
  subst he
  exact ⟨_, rfl, _, _, _, [], _, [], hW', trodAll_mk1 (shut_bool Tryd.underlying4 _), (trodAll_cons_mk (shut_int Tryd.underlying3 w0) trodAll_mk0), rfl, bel.frame _, fun h => by cases h⟩

theorem over : Rows.logLongsRow.holds Tryd.pinned (OpenSpec.ofChange Rows.logLongsSpec) :=
  OpenClaim.holds_of_wide 6 Tryd.f6 rfl rfl rfl rfl rfl rfl rfl ⟨rfl, rfl, rfl, rfl, rfl⟩ rfl rfl rfl rfl rfl (by kernel_rfl) Tryd.func6 (by kernel_rfl)
    (of_decide_eq_true (by kernel_rfl)) (by unfold Func.isWrapper; first | (rw [if_pos (by decide +kernel)]; kernel_rfl) | (rw [if_neg (by decide +kernel)]; exact ⟨rfl, rfl⟩))
    (fun os started H enc _ => lifted os started H enc)

theorem proved : Rows.LogLongsCardSaid :=
  Claim7.holds_tied_plain_at .later [] Rows.logLongsCard.laidKinds true Rows.logLongsCard.stood.harness Rows.logLongsCard.stood.looks
    over (fun _ h => by cases h) (by kernel_rfl) (fun _ h => by cases h) logLongs_row_tie rfl ⟨rfl, rfl⟩ (by kernel_rfl) rfl
    (fun f fn hf hfn => by
      obtain rfl : f = 6 := Option.some.inj ((show Tryd.prog.funcNamed Rows.logLongsRow.func = some 6 by kernel_rfl).symm.trans hf) |>.symm
      obtain rfl : fn = Tryd.f6 := (Option.some.inj (Tryd.func6.symm.trans hfn)).symm
      exact ⟨by kernel_rfl, fun j t ht => by
        rw [Tryd.params6] at ht
        have hm : t ∈ [3] := by simpa using Array.mem_of_getElem? ht
        have hall : ([3].all fun u => !Tryd.prog.wantsStandIn u) = true := by kernel_rfl
        exact (show Tryd.prog.wantsStandIn t = false by simpa using List.all_eq_true.1 hall t hm)⟩)
    (by kernel_rfl)
end Go.Proofs.YthdpipllighegaaDoor.logLongs
