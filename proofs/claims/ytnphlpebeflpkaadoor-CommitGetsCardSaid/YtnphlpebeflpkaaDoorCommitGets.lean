/- CommitGets returns true for every input: the commit that any bytes begin with, or that they begin with none, is what the document says. No condition. -/
import Derived.Test.YtnphlpebeflpkaaDoorCmA
import Derived.Test.YtnphlpebeflpkaaDoorShaLJ4
import Derived.Test.YtnphlpebeflpkaaDoorCards
import Derived.Test.YtnphlpebeflpkaaDoorTie
import Derived.ShutString
import Derived.ChangeOld
namespace Go.Proofs.YtnphlpebeflpkaaDoor.commitGets
set_option maxRecDepth 100000
open Go Go.Sort Go.ChangeShapes Go.WideShapes Go.ChangeAt Go.RowKit Byt IdM IdW OpsM OpsW CmM StW CmW CmX CmY CmA
open ShaE (KIn)
open CmR (sameK sameK_iff sameK_self)

set_option maxRecDepth 100000 in
set_option maxHeartbeats 16000000 in
theorem out (a0 : Option Addr) (len0 cap0 : Nat) (z0 : List Int) (w : World) (w0 : RowIn.RowIn .u8 w a0 len0 cap0 z0) (hK : KIn w) (h : 1000 < len0) :
    Calls Tryd.prog 4 #[.slice a0 len0 cap0] w fun e w' => e = .returned (.bool true) ∧ Below w.heap.size w w' := by
  have h1 := w0.1
  have h2 := w0.2.1
  unfold maxLen at h2
  clear w0
  go_enter Tryd.func4, Tryd.ntmps4
  go_wp2_with fail
  refine (awake _ hK).mono ?_
  rintro e W1 ⟨rfl, k1⟩
  have hb : w.heap.size + 0 ≤ W1.heap.size := Nat.le_trans (by first | (simp; done) | (simp; omega)) k1.size
  have hK' := hK.below k1
  clear hK
  have hK := hK'
  clear hK'
  have kb := k1
  clear k1
  go_wp2_with (first | go_skip)
  go_ret
  exact ⟨by first | rfl | simp, kb⟩

set_option maxRecDepth 100000 in
set_option maxHeartbeats 32000000 in
theorem yes (a0 : Option Addr) (len0 cap0 : Nat) (z0 : List Int) (w : World) (w0 : RowIn.RowIn .u8 w a0 len0 cap0 z0) (hK : KIn w) (h : len0 ≤ 1000) :
    Calls Tryd.prog 4 #[.slice a0 len0 cap0] w fun e w' => e = .returned (.bool true) ∧ Below w.heap.size w w' := by
  obtain ⟨S, hl⟩ := Sl.of_row w0
  obtain ⟨bs, hbs⟩ : ∃ l, z0.take len0 = l := ⟨_, rfl⟩
  rw [hbs] at S hl
  obtain ⟨Q, hQ⟩ : ∃ q, getK bs = q := ⟨_, rfl⟩
  obtain ⟨R, hR⟩ : ∃ r, gotR Q = r := ⟨_, rfl⟩
  obtain ⟨N, hN⟩ : ∃ n, gotN Q = n := ⟨_, rfl⟩
  obtain ⟨X, hX⟩ : ∃ c, gotC Q = c := ⟨_, rfl⟩
  have cp := fun W T => CmA.get_ret a0 cap0 bs W T (by omega)
  have cd := fun W T => CmY.get_doc a0 cap0 bs W T (by omega)
  rw [hl, hQ] at cp cd
  unfold GetAll at cp cd
  simp only [hR, hN, hX] at cp cd
  have h2 : (len0 : Int) ≤ 1000 := by omega
  clear w0 hbs hl hQ hR hN hX h
  go_enter Tryd.func4, Tryd.ntmps4
  go_wp2_with fail
  refine (awake _ hK).mono ?_
  rintro e W1 ⟨rfl, k1⟩
  have hb : w.heap.size + 0 ≤ W1.heap.size := Nat.le_trans (by first | (simp; done) | (simp; omega)) k1.size
  have hK' := hK.below k1
  clear hK
  have hK := hK'
  clear hK'
  have S' := S.below k1
  clear S
  have S := S'
  clear S'
  have kb := k1
  clear k1
  go_wp2_with (first | go_skip)
  refine (cp _ S).mono ?_
  rintro e W2 ⟨vP, AP, CP, rfl, hP, IP, SP, k2⟩
  have hK' := hK.below k2
  clear hK
  have hK := hK'
  clear hK'
  have S' := S.below k2
  clear S
  have S := S'
  clear S'
  have kb' := kb.trans (k2.mono kb.size)
  clear kb k2
  have kb := kb'
  clear kb'
  clear cp
  go_wp2_with (first | go_skip | (refine Cel.wpList_store_new CE rfl _ _ rfl _ _ _ rfl vP _ rfl rfl rfl rfl ?_; intro W3 BP k3 g3 s3; clear g3 s3; have hK' := hK.below k3; clear hK; have hK := hK'; clear hK'; have S' := S.below k3; clear S; have S := S'; clear S'; have IP' := IP.below k3; clear IP; have IP := IP'; clear IP'; have SP' := SP.below k3; clear SP; have SP := SP'; clear SP'; have kb' := kb.trans (k3.mono kb.size); clear kb k3; have kb := kb'; clear kb') | (refine CmW.gload _ rfl _ rfl vP BP rfl ?_))
  refine (cd _ S).mono ?_
  rintro e W4 ⟨vD, AD, CD, rfl, hD, ID, SD, k4⟩
  have hK' := hK.below k4
  clear hK
  have hK := hK'
  clear hK'
  have S' := S.below k4
  clear S
  have S := S'
  clear S'
  have IP' := IP.below k4
  clear IP
  have IP := IP'
  clear IP'
  have SP' := SP.below k4
  clear SP
  have SP := SP'
  clear SP'
  have BP' := BP.below k4
  clear BP
  have BP := BP'
  clear BP'
  have kb' := kb.trans (k4.mono kb.size)
  clear kb k4
  have kb := kb'
  clear kb'
  clear cd
  go_wp2_with (first | go_skip | (refine CmW.gload _ rfl _ rfl vP BP rfl ?_) | (refine Cel.wpList_store_new CE rfl _ _ rfl _ _ _ rfl vD _ rfl rfl rfl rfl ?_; intro W5 BD k5 g5 s5; clear g5 s5; have hK' := hK.below k5; clear hK; have hK := hK'; clear hK'; have S' := S.below k5; clear S; have S := S'; clear S'; have IP' := IP.below k5; clear IP; have IP := IP'; clear IP'; have SP' := SP.below k5; clear SP; have SP := SP'; clear SP'; have BP' := BP.below k5; clear BP; have BP := BP'; clear BP'; have ID' := ID.below k5; clear ID; have ID := ID'; clear ID'; have SD' := SD.below k5; clear SD; have SD := SD'; clear SD'; have kb' := kb.trans (k5.mono kb.size); clear kb k5; have kb := kb'; clear kb') | (refine CmW.gload _ rfl _ rfl vD BD rfl ?_))
  have hc := CmR.same_ret vP vD _ IP ID
  rw [hP, hD, sameK_self] at hc
  refine hc.mono ?_
  clear hc
  rintro e W6 ⟨rfl, k⟩
  have hK' := hK.below k
  clear hK
  have hK := hK'
  clear hK'
  have S' := S.below k
  clear S
  have S := S'
  clear S'
  have IP' := IP.below k
  clear IP
  have IP := IP'
  clear IP'
  have SP' := SP.below k
  clear SP
  have SP := SP'
  clear SP'
  have BP' := BP.below k
  clear BP
  have BP := BP'
  clear BP'
  have ID' := ID.below k
  clear ID
  have ID := ID'
  clear ID'
  have SD' := SD.below k
  clear SD
  have SD := SD'
  clear SD'
  have BD' := BD.below k
  clear BD
  have BD := BD'
  clear BD'
  have kb' := kb.trans (k.mono kb.size)
  clear kb k
  have kb := kb'
  clear kb'
  have qP := SP.conv rfl
  have qD := SD.conv rfl
  have hs : ((strOf R).toList == (strOf R).toList) = true := beq_self_eq_true _
  have hn : (N == N) = true := beq_self_eq_true _
  go_wp2_with (first | go_skip | (refine CmW.gload _ rfl _ rfl vP BP rfl ?_) | (refine CmW.gload _ rfl _ rfl vD BD rfl ?_))
  go_ret
  exact ⟨by first | rfl | simp, kb⟩

theorem walk (a0 : Option Addr) (len0 cap0 : Nat) (z0 : List Int) (w : World) (w0 : RowIn.RowIn .u8 w a0 len0 cap0 z0) (hK : KIn w) :
    Calls Tryd.prog 4 #[.slice a0 len0 cap0] w fun e w' => e = .returned (.bool true) ∧ Below w.heap.size w w' := by
  by_cases h : 1000 < len0
  · exact out a0 len0 cap0 z0 w w0 hK h
  · exact yes a0 len0 cap0 z0 w w0 hK (by omega)

theorem own : ownKnob Tryd.prog.godebug = none := by kernel_rfl
theorem laidOut : laidOutB Tryd.prog = true := by kernel_rfl
set_option linter.unusedVariables false in
set_option maxRecDepth 100000 in
theorem lifted (os : Os) (started : os.Started) (H : Type) (enc : TypeId × Value → H) :
    ReturnsInHanded {} Tryd.checked os 4 .any (fun w args => (Rows.commitGetsSpec.pre enc Tryd.prog Tryd.f4 [] false w args ∧ laidMetH Tryd.prog ShaL.laid1 w) ∧ sizedMet enc Tryd.prog Tryd.f4 (OpenSpec.ofChange Rows.commitGetsSpec) false w args)
      (Rows.commitGetsSpec.post enc Tryd.prog Tryd.f4 false true false false) := by
  refine returnsInHanded_of_change_and (C := Tryd.checked) (X := fun w _ => laidMetH Tryd.prog ShaL.laid1 w) (fun _ _ _ hh h => h.of_heap hh) own started (by kernel_rfl) Tryd.func4
    (ChangeSpec.witness_shaped (enc := enc) (C := Tryd.checked) (os := os) (X := fun w _ => laidMetH Tryd.prog ShaL.laid1 w) false (World.doorLaid Tryd.prog 14 os) #[.slice none 0 0] 8 rfl (World.shaped_of_RefB (by kernel_rfl) (by kernel_rfl)) (by kernel_rfl) (by kernel_rfl) (by kernel_rfl) (ShaL.door_met os _)) ?_
  intro W base args ds gs before hval0 hW _ _ hL _
  have hval : ∀ (j : Nat) t v, Tryd.f4.params[j]? = some t → args[j]? = some v → Value.okWide Tryd.prog W .any base t v := hval0
  have hW' := hW
  obtain ⟨p, q, hA0, hV, rfl, hfz, hnd⟩ := hW
  have hA : DataW.TrodAll enc Tryd.prog W 0 (fun _ => true) true Tryd.f4.params.toList args.toList ds p := hA0
  rw [Tryd.params4] at hA hval
  obtain ⟨v0, vs0, d0, ds0, p0, q0, hargs, rfl, rfl, h0, r0⟩ := trodAll_cons hA
  obtain ⟨rfl, rfl, rfl⟩ := trodAll_nil r0
  obtain rfl : args = #[v0] := by cases args; simp_all
  obtain ⟨rfl, rfl⟩ := trodVars_none hV
  have k0 := h0
  have lt0 : ∀ x ∈ p0, x.block < W.heap.size := by obtain ⟨m, hm⟩ := k0; exact DataW.trod_lt m _ _ _ hm
  obtain ⟨a0, len0, cap0, z0, rfl, w0⟩ := RowIn.open_row Tryd.underlying31 Tryd.underlying5 (by kernel_rfl) (hval 0 31 v0 rfl rfl) h0
  clear hA0 hval0
  refine (walk a0 len0 cap0 z0 W w0 (ShaL.of_laid hL)).mono fun e W' ⟨he, bel⟩ => ?_
  subst he
  exact ⟨_, rfl, _, _, _, [], _, [], hW', trodAll_mk1 (shut_bool Tryd.underlying4 _), (trodAll_cons_mk (Below.trod laidOut (by kernel_rfl) (of_decide_eq_true (by kernel_rfl)) k0 bel lt0) trodAll_mk0), rfl, bel.frame _, fun h => by cases h⟩

theorem over : Rows.commitGetsRow.holds Tryd.pinned (OpenSpec.ofChange Rows.commitGetsSpec) :=
  OpenClaim.holds_of_wide 4 Tryd.f4 rfl rfl rfl rfl rfl rfl rfl ⟨rfl, rfl, rfl, rfl, rfl⟩ rfl rfl rfl rfl rfl (by kernel_rfl) Tryd.func4 (by kernel_rfl)
    (of_decide_eq_true (by kernel_rfl)) (by unfold Func.isWrapper; first | (rw [if_pos (by decide +kernel)]; kernel_rfl) | (rw [if_neg (by decide +kernel)]; exact ⟨rfl, rfl⟩))
    (fun os started H enc _ => lifted os started H enc)

theorem proved : Rows.CommitGetsCardSaid :=
  Claim7.holds_tied_plain_at .later [] Rows.commitGetsCard.laidKinds true Rows.commitGetsCard.stood.harness Rows.commitGetsCard.stood.looks
    over (fun _ h => by cases h) (by kernel_rfl) (fun _ h => by cases h) commitGets_row_tie rfl ⟨rfl, rfl⟩ (by kernel_rfl) rfl
    (fun f fn hf hfn => by
      obtain rfl : f = 4 := Option.some.inj ((show Tryd.prog.funcNamed Rows.commitGetsRow.func = some 4 by kernel_rfl).symm.trans hf) |>.symm
      obtain rfl : fn = Tryd.f4 := (Option.some.inj (Tryd.func4.symm.trans hfn)).symm
      exact ⟨by kernel_rfl, fun j t ht => by
        rw [Tryd.params4] at ht
        have hm : t ∈ [31] := by simpa using Array.mem_of_getElem? ht
        have hall : ([31].all fun u => !Tryd.prog.wantsStandIn u) = true := by kernel_rfl
        exact (show Tryd.prog.wantsStandIn t = false by simpa using List.all_eq_true.1 hall t hm)⟩)
    (by kernel_rfl)
end Go.Proofs.YtnphlpebeflpkaaDoor.commitGets
