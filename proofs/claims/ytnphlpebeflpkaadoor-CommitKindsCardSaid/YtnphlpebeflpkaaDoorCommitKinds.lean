/- CommitKinds returns true for every input: a merge has two parents at least, and no event; any other one has an event, and an operation; one without parents is of the first generation. No condition. -/
import Derived.Test.YtnphlpebeflpkaaDoorCmA
import Derived.Test.YtnphlpebeflpkaaDoorShaLJ4
import Derived.Test.YtnphlpebeflpkaaDoorCards
import Derived.Test.YtnphlpebeflpkaaDoorTie
import Derived.ShutString
import Derived.ChangeOld
namespace Go.Proofs.YtnphlpebeflpkaaDoor.commitKinds
set_option maxRecDepth 100000
open Go Go.Sort Go.ChangeShapes Go.WideShapes Go.ChangeAt Go.RowKit Byt IdM IdW OpsM OpsW CmM StW CmW CmX CmY CmA
open ShaE (KIn)
open CmR (sameK sameK_iff sameK_self)

set_option maxRecDepth 100000 in
set_option maxHeartbeats 16000000 in
theorem long (a0 : Cv) (w : World) (_w0 : In w a0) (_g0 : Fit a0.c) (hK : KIn w) (x0 : fewK a0.c = false) :
    Calls Tryd.prog 7 #[.agg (cc a0)] w fun e w' => e = .returned (.bool true) ∧ Below w.heap.size w w' := by
  have X0 := aside x0
  clear x0
  have B0 : Cel.Box CE (w.alloc (.cells (cc a0) 28)) (w.heap.size) a0 := by exact Cel.Box.new (E := CE) w a0 _
  have k0 := StW.below_alloc w (.cells (cc a0) 28)
  have hK' := hK.below k0
  clear hK
  have hK := hK'
  clear hK'
  have kb := k0
  clear k0
  go_enter Tryd.func7, Tryd.ntmps7
  go_wp2_with fail
  refine (awake _ hK).mono ?_
  rintro e W1 ⟨rfl, k1⟩
  have hb : w.heap.size + 1 ≤ W1.heap.size := Nat.le_trans (by first | (simp; done) | (simp; omega)) k1.size
  have hK' := hK.below k1
  clear hK
  have hK := hK'
  clear hK'
  have B0' := B0.below k1
  clear B0
  have B0 := B0'
  clear B0'
  have kb' := kb.trans (k1.mono kb.size)
  clear kb k1
  have kb := kb'
  clear kb'
  go_wp2_with (first | go_skip | (refine CmW.gload _ rfl _ rfl a0 B0 rfl ?_))
  have hc := fun W => few_ret a0 W
  simp only [X0.out] at hc
  refine (hc _).mono ?_
  clear hc
  rintro e W2 ⟨rfl, k2⟩
  have hK' := hK.below k2
  clear hK
  have hK := hK'
  clear hK'
  have B0' := B0.below k2
  clear B0
  have B0 := B0'
  clear B0'
  have kb' := kb.trans (k2.mono kb.size)
  clear kb k2
  have kb := kb'
  clear kb'
  go_wp2_with (first | go_skip | (refine CmW.gload _ rfl _ rfl a0 B0 rfl ?_))
  go_ret
  exact ⟨by first | rfl | simp, kb⟩

set_option maxRecDepth 100000 in
set_option maxHeartbeats 16000000 in
theorem mayno (a0 : Cv) (w : World) (w0 : In w a0) (g0 : Fit a0.c) (hK : KIn w) (x0 : fewK a0.c = true) (x1 : mayK a0.c = false) :
    Calls Tryd.prog 7 #[.agg (cc a0)] w fun e w' => e = .returned (.bool true) ∧ Below w.heap.size w w' := by
  have X0 := aside x0
  have X1 := aside x1
  have X2 : Hid (isM a0.c = false) := aside (by unfold isM; rw [x1]; rfl)
  clear x0 x1
  have B0 : Cel.Box CE (w.alloc (.cells (cc a0) 28)) (w.heap.size) a0 := by exact Cel.Box.new (E := CE) w a0 _
  have k0 := StW.below_alloc w (.cells (cc a0) 28)
  have w0' := w0.below k0
  clear w0
  have w0 := w0'
  clear w0'
  have hK' := hK.below k0
  clear hK
  have hK := hK'
  clear hK'
  have kb := k0
  clear k0
  go_enter Tryd.func7, Tryd.ntmps7
  go_wp2_with fail
  refine (awake _ hK).mono ?_
  rintro e W1 ⟨rfl, k1⟩
  have hb : w.heap.size + 1 ≤ W1.heap.size := Nat.le_trans (by first | (simp; done) | (simp; omega)) k1.size
  have w0' := w0.below k1
  clear w0
  have w0 := w0'
  clear w0'
  have hK' := hK.below k1
  clear hK
  have hK := hK'
  clear hK'
  have B0' := B0.below k1
  clear B0
  have B0 := B0'
  clear B0'
  have kb' := kb.trans (k1.mono kb.size)
  clear kb k1
  have kb := kb'
  clear kb'
  go_wp2_with (first | go_skip | (refine CmW.gload _ rfl _ rfl a0 B0 rfl ?_))
  have hc := fun W => few_ret a0 W
  simp only [X0.out] at hc
  refine (hc _).mono ?_
  clear hc
  rintro e W2 ⟨rfl, k2⟩
  have w0' := w0.below k2
  clear w0
  have w0 := w0'
  clear w0'
  have hK' := hK.below k2
  clear hK
  have hK := hK'
  clear hK'
  have B0' := B0.below k2
  clear B0
  have B0 := B0'
  clear B0'
  have kb' := kb.trans (k2.mono kb.size)
  clear kb k2
  have kb := kb'
  clear kb'
  go_wp2_with (first | go_skip | (refine CmW.gload _ rfl _ rfl a0 B0 rfl ?_))
  have hc := CmA.may_ret a0 _ w0 g0
  rw [X1.out] at hc
  refine hc.mono ?_
  clear hc
  rintro e W3 ⟨rfl, k3⟩
  have w0' := w0.below k3
  clear w0
  have w0 := w0'
  clear w0'
  have hK' := hK.below k3
  clear hK
  have hK := hK'
  clear hK'
  have B0' := B0.below k3
  clear B0
  have B0 := B0'
  clear B0'
  have kb' := kb.trans (k3.mono kb.size)
  clear kb k3
  have kb := kb'
  clear kb'
  go_wp2_with (first | go_skip | (refine CmW.gload _ rfl _ rfl a0 B0 rfl ?_))
  have hc := CmA.merge_ret a0 _ w0 g0
  rw [X2.out] at hc
  refine hc.mono ?_
  clear hc
  rintro e W4 ⟨rfl, k4⟩
  have w0' := w0.below k4
  clear w0
  have w0 := w0'
  clear w0'
  have hK' := hK.below k4
  clear hK
  have hK := hK'
  clear hK'
  have B0' := B0.below k4
  clear B0
  have B0 := B0'
  clear B0'
  have kb' := kb.trans (k4.mono kb.size)
  clear kb k4
  have kb := kb'
  clear kb'
  go_wp2_with (first | go_skip | (refine CmW.gload _ rfl _ rfl a0 B0 rfl ?_))
  go_ret
  exact ⟨by first | rfl | simp, kb⟩

set_option maxRecDepth 100000 in
set_option maxHeartbeats 32000000 in
theorem merge (a0 : Cv) (w : World) (w0 : In w a0) (g0 : Fit a0.c) (hK : KIn w) (x0 : fewK a0.c = true) (x1 : mayK a0.c = true) (x2 : isM a0.c = true) :
    Calls Tryd.prog 7 #[.agg (cc a0)] w fun e w' => e = .returned (.bool true) ∧ Below w.heap.size w w' := by
  have X0 := aside x0
  have X1 := aside x1
  have X2 := aside x2
  obtain ⟨y1, y2⟩ := isM_iff.1 x2
  obtain ⟨z1, z2, z3, z4⟩ := mergeB_iff.1 y2
  obtain ⟨v1, v2, v3, v4, v5⟩ := lineB_iff.1 y1
  have p1 : 2 ≤ (a0.c.ps.length : Int) := by omega
  have p2 : 1 < a0.c.gen := by omega
  have heqE : ∀ W : World, (Op.equalIn 10000 23 (.agg #[.int .i64 a0.c.node, .int .i64 a0.c.seq]) (.agg #[.int .i64 (-1), .int .i64 0])).run Tryd.prog W = .ok true W := fun W => by
    rw [equal_ev 9998 W, sameE_iff.2 ⟨z1, z2⟩]
  have heqO : ∀ W : World, (Op.equalIn 10000 26 (.agg (opc a0.c.op)) (.agg #[.int .i64 0, .string ⟨#[]⟩, .string ⟨#[]⟩, .int .i64 0])).run Tryd.prog W = .ok true W := fun W => by
    rw [equal_nought W, noughtO_iff.2 z3]
  obtain ⟨n, hn⟩ : ∃ n, a0.c.ps.length = n := ⟨_, rfl⟩
  obtain ⟨g, hg⟩ : ∃ g, a0.c.gen = g := ⟨_, rfl⟩
  rw [hn] at p1
  rw [hg] at p2
  have HN := aside hn
  have HG := aside hg
  clear x0 x1 x2 y1 y2 z1 z2 z3 z4 v1 v2 v3 v4 v5 hn hg
  have B0 : Cel.Box CE (w.alloc (.cells (cc a0) 28)) (w.heap.size) a0 := by exact Cel.Box.new (E := CE) w a0 _
  have k0 := StW.below_alloc w (.cells (cc a0) 28)
  have w0' := w0.below k0
  clear w0
  have w0 := w0'
  clear w0'
  have hK' := hK.below k0
  clear hK
  have hK := hK'
  clear hK'
  have kb := k0
  clear k0
  go_enter Tryd.func7, Tryd.ntmps7
  go_wp2_with fail
  refine (awake _ hK).mono ?_
  rintro e W1 ⟨rfl, k1⟩
  have hb : w.heap.size + 1 ≤ W1.heap.size := Nat.le_trans (by first | (simp; done) | (simp; omega)) k1.size
  have w0' := w0.below k1
  clear w0
  have w0 := w0'
  clear w0'
  have hK' := hK.below k1
  clear hK
  have hK := hK'
  clear hK'
  have B0' := B0.below k1
  clear B0
  have B0 := B0'
  clear B0'
  have kb' := kb.trans (k1.mono kb.size)
  clear kb k1
  have kb := kb'
  clear kb'
  go_wp2_with (first | go_skip | (refine CmW.gload _ rfl _ rfl a0 B0 rfl ?_))
  have hc := fun W => few_ret a0 W
  simp only [X0.out] at hc
  refine (hc _).mono ?_
  clear hc
  rintro e W2 ⟨rfl, k2⟩
  have w0' := w0.below k2
  clear w0
  have w0 := w0'
  clear w0'
  have hK' := hK.below k2
  clear hK
  have hK := hK'
  clear hK'
  have B0' := B0.below k2
  clear B0
  have B0 := B0'
  clear B0'
  have kb' := kb.trans (k2.mono kb.size)
  clear kb k2
  have kb := kb'
  clear kb'
  go_wp2_with (first | go_skip | (refine CmW.gload _ rfl _ rfl a0 B0 rfl ?_))
  have hc := CmA.may_ret a0 _ w0 g0
  rw [X1.out] at hc
  refine hc.mono ?_
  clear hc
  rintro e W3 ⟨rfl, k3⟩
  have w0' := w0.below k3
  clear w0
  have w0 := w0'
  clear w0'
  have hK' := hK.below k3
  clear hK
  have hK := hK'
  clear hK'
  have B0' := B0.below k3
  clear B0
  have B0 := B0'
  clear B0'
  have kb' := kb.trans (k3.mono kb.size)
  clear kb k3
  have kb := kb'
  clear kb'
  go_wp2_with (first | go_skip | (refine CmW.gload _ rfl _ rfl a0 B0 rfl ?_))
  have hc := CmA.merge_ret a0 _ w0 g0
  rw [X2.out] at hc
  refine hc.mono ?_
  clear hc
  rintro e W4 ⟨rfl, k4⟩
  have w0' := w0.below k4
  clear w0
  have w0 := w0'
  clear w0'
  have hK' := hK.below k4
  clear hK
  have hK := hK'
  clear hK'
  have B0' := B0.below k4
  clear B0
  have B0 := B0'
  clear B0'
  have kb' := kb.trans (k4.mono kb.size)
  clear kb k4
  have kb := kb'
  clear kb'
  have d2 := cell_gen B0
  have d3 := cell_ps B0
  rw [HG.out] at d2
  rw [HN.out] at d3
  go_wp2_with (first | go_skip | (refine CmW.gload _ rfl _ rfl a0 B0 rfl ?_) | (refine gkev _ rfl _ rfl a0 B0 rfl ?_) | (refine gkop _ rfl _ rfl a0 B0 rfl ?_))
  go_ret
  exact ⟨by first | rfl | simp, kb⟩

set_option maxRecDepth 100000 in
set_option maxHeartbeats 32000000 in
theorem plain (a0 : Cv) (w : World) (w0 : In w a0) (g0 : Fit a0.c) (hK : KIn w) (x0 : fewK a0.c = true) (x1 : mayK a0.c = true) (x2 : isM a0.c = false) (p0 : 0 ≤ a0.c.node) (p1 : 1 ≤ a0.c.seq) (p2 : 0 < (a0.c.op.key.size : Int)) (p3 : (a0.c.ps.length : Int) ≤ 8) (p4 : 0 < (a0.c.ps.length : Int) ∨ ¬ 0 < (a0.c.ps.length : Int) ∧ (a0.c.gen == 1) = true) :
    Calls Tryd.prog 7 #[.agg (cc a0)] w fun e w' => e = .returned (.bool true) ∧ Below w.heap.size w w' := by
  have X0 := aside x0
  have X1 := aside x1
  have X2 := aside x2
  obtain ⟨n, hn⟩ : ∃ n, a0.c.ps.length = n := ⟨_, rfl⟩
  rw [hn] at p3 p4
  have HN := aside hn
  clear x0 x1 x2 hn
  rcases p4 with p4 | ⟨p4, p5⟩
  all_goals
    have B0 : Cel.Box CE (w.alloc (.cells (cc a0) 28)) (w.heap.size) a0 := by exact Cel.Box.new (E := CE) w a0 _
    have k0 := StW.below_alloc w (.cells (cc a0) 28)
    have w0' := w0.below k0
    clear w0
    have w0 := w0'
    clear w0'
    have hK' := hK.below k0
    clear hK
    have hK := hK'
    clear hK'
    have kb := k0
    clear k0
    go_enter Tryd.func7, Tryd.ntmps7
    go_wp2_with fail
    refine (awake _ hK).mono ?_
    rintro e W1 ⟨rfl, k1⟩
    have hb : w.heap.size + 1 ≤ W1.heap.size := Nat.le_trans (by first | (simp; done) | (simp; omega)) k1.size
    have w0' := w0.below k1
    clear w0
    have w0 := w0'
    clear w0'
    have hK' := hK.below k1
    clear hK
    have hK := hK'
    clear hK'
    have B0' := B0.below k1
    clear B0
    have B0 := B0'
    clear B0'
    have kb' := kb.trans (k1.mono kb.size)
    clear kb k1
    have kb := kb'
    clear kb'
    go_wp2_with (first | go_skip | (refine CmW.gload _ rfl _ rfl a0 B0 rfl ?_))
    have hc := fun W => few_ret a0 W
    simp only [X0.out] at hc
    refine (hc _).mono ?_
    clear hc
    rintro e W2 ⟨rfl, k2⟩
    have w0' := w0.below k2
    clear w0
    have w0 := w0'
    clear w0'
    have hK' := hK.below k2
    clear hK
    have hK := hK'
    clear hK'
    have B0' := B0.below k2
    clear B0
    have B0 := B0'
    clear B0'
    have kb' := kb.trans (k2.mono kb.size)
    clear kb k2
    have kb := kb'
    clear kb'
    go_wp2_with (first | go_skip | (refine CmW.gload _ rfl _ rfl a0 B0 rfl ?_))
    have hc := CmA.may_ret a0 _ w0 g0
    rw [X1.out] at hc
    refine hc.mono ?_
    clear hc
    rintro e W3 ⟨rfl, k3⟩
    have w0' := w0.below k3
    clear w0
    have w0 := w0'
    clear w0'
    have hK' := hK.below k3
    clear hK
    have hK := hK'
    clear hK'
    have B0' := B0.below k3
    clear B0
    have B0 := B0'
    clear B0'
    have kb' := kb.trans (k3.mono kb.size)
    clear kb k3
    have kb := kb'
    clear kb'
    go_wp2_with (first | go_skip | (refine CmW.gload _ rfl _ rfl a0 B0 rfl ?_))
    have hc := CmA.merge_ret a0 _ w0 g0
    rw [X2.out] at hc
    refine hc.mono ?_
    clear hc
    rintro e W4 ⟨rfl, k4⟩
    have w0' := w0.below k4
    clear w0
    have w0 := w0'
    clear w0'
    have hK' := hK.below k4
    clear hK
    have hK := hK'
    clear hK'
    have B0' := B0.below k4
    clear B0
    have B0 := B0'
    clear B0'
    have kb' := kb.trans (k4.mono kb.size)
    clear kb k4
    have kb := kb'
    clear kb'
    have d0 := cell_node B0
    have d1 := cell_seq B0
    have d2 := cell_gen B0
    have d3 := cell_ps B0
    have d5 := cell_key B0
    rw [HN.out] at d3
    go_wp2_with (first | go_skip | (refine CmW.gload _ rfl _ rfl a0 B0 rfl ?_))
    go_ret
    exact ⟨by first | rfl | simp, kb⟩

theorem walk (a0 : Cv) (w : World) (w0 : In w a0) (g0 : Fit a0.c) (hK : KIn w) :
    Calls Tryd.prog 7 #[.agg (cc a0)] w fun e w' => e = .returned (.bool true) ∧ Below w.heap.size w w' := by
  cases x0 : fewK a0.c with
  | false => exact long a0 w w0 g0 hK x0
  | true =>
    cases x1 : mayK a0.c with
    | false => exact mayno a0 w w0 g0 hK x0 x1
    | true =>
      cases x2 : isM a0.c with
      | true => exact merge a0 w w0 g0 hK x0 x1 x2
      | false =>
        have hl := (mayK_iff.1 x1).1
        obtain ⟨v1, v2, v3, v4, v5⟩ := lineB_iff.1 hl
        rcases (mayK_iff.1 x1).2 with h1 | ⟨h1, h2⟩
        · rw [isM_iff.2 ⟨hl, h1⟩] at x2
          cases x2
        · obtain ⟨⟨e1, e2⟩, e3, e4⟩ := StM.eventB_iff.1 h1
          have hk := keyL_len (mayO_kind h2).1
          rw [bytesL_length] at hk
          have h4 : 0 < (a0.c.ps.length : Int) ∨ ¬ 0 < (a0.c.ps.length : Int) ∧ (a0.c.gen == 1) = true := by
            by_cases hz : a0.c.ps.length = 0
            · right
              have := v5.2 hz
              rw [this]
              exact ⟨by omega, rfl⟩
            · left; omega
          exact plain a0 w w0 g0 hK x0 x1 x2 e1 e3 (by omega) (by omega) h4

theorem own : ownKnob Tryd.prog.godebug = none := by kernel_rfl
theorem laidOut : laidOutB Tryd.prog = true := by kernel_rfl
set_option linter.unusedVariables false in
set_option maxRecDepth 100000 in
theorem lifted (os : Os) (started : os.Started) (H : Type) (enc : TypeId × Value → H) :
    ReturnsInHanded {} Tryd.checked os 7 .any (fun w args => (Rows.commitKindsSpec.pre enc Tryd.prog Tryd.f7 [] false w args ∧ laidMetH Tryd.prog ShaL.laid1 w) ∧ sizedMet enc Tryd.prog Tryd.f7 (OpenSpec.ofChange Rows.commitKindsSpec) false w args)
      (Rows.commitKindsSpec.post enc Tryd.prog Tryd.f7 false true false false) := by
  refine returnsInHanded_of_change_and (C := Tryd.checked) (X := fun w _ => laidMetH Tryd.prog ShaL.laid1 w) (fun _ _ _ hh h => h.of_heap hh) own started (by kernel_rfl) Tryd.func7
    (ChangeSpec.witness_shaped (enc := enc) (C := Tryd.checked) (os := os) (X := fun w _ => laidMetH Tryd.prog ShaL.laid1 w) false (World.doorLaid Tryd.prog 14 os) #[.agg #[.int .i64 0, .int .i64 0, .int .i64 0, .slice none 0 0, .int .i64 0, .string ByteArray.empty, .string ByteArray.empty, .int .i64 0]] 8 rfl (World.shaped_of_RefB (by kernel_rfl) (by kernel_rfl)) (by kernel_rfl) (by kernel_rfl) (by kernel_rfl) (ShaL.door_met os _)) ?_
  intro W base args ds gs before hval0 hW _ _ hL _
  have hval : ∀ (j : Nat) t v, Tryd.f7.params[j]? = some t → args[j]? = some v → Value.okWide Tryd.prog W .any base t v := hval0
  have hW' := hW
  obtain ⟨p, q, hA0, hV, rfl, hfz, hnd⟩ := hW
  have hA : DataW.TrodAll enc Tryd.prog W 0 (fun _ => true) true Tryd.f7.params.toList args.toList ds p := hA0
  rw [Tryd.params7] at hA hval
  obtain ⟨v0, vs0, d0, ds0, p0, q0, hargs, rfl, rfl, h0, r0⟩ := trodAll_cons hA
  obtain ⟨rfl, rfl, rfl⟩ := trodAll_nil r0
  obtain rfl : args = #[v0] := by cases args; simp_all
  obtain ⟨rfl, rfl⟩ := trodVars_none hV
  have k0 := h0
  have lt0 : ∀ x ∈ p0, x.block < W.heap.size := by obtain ⟨m, hm⟩ := k0; exact DataW.trod_lt m _ _ _ hm
  obtain ⟨a0, rfl, w0, g0⟩ := OpenK.open_com (hval 0 28 v0 rfl rfl) h0
  clear hA0 hval0
  refine (walk a0 W w0 g0 (ShaL.of_laid hL)).mono fun e W' ⟨he, bel⟩ => ?_
  subst he
  exact ⟨_, rfl, _, _, _, [], _, [], hW', trodAll_mk1 (shut_bool Tryd.underlying4 _), (trodAll_cons_mk (Below.trod laidOut (by kernel_rfl) (of_decide_eq_true (by kernel_rfl)) k0 bel lt0) trodAll_mk0), rfl, bel.frame _, fun h => by cases h⟩

theorem over : Rows.commitKindsRow.holds Tryd.pinned (OpenSpec.ofChange Rows.commitKindsSpec) :=
  OpenClaim.holds_of_wide 7 Tryd.f7 rfl rfl rfl rfl rfl rfl rfl ⟨rfl, rfl, rfl, rfl, rfl⟩ rfl rfl rfl rfl rfl (by kernel_rfl) Tryd.func7 (by kernel_rfl)
    (of_decide_eq_true (by kernel_rfl)) (by unfold Func.isWrapper; first | (rw [if_pos (by decide +kernel)]; kernel_rfl) | (rw [if_neg (by decide +kernel)]; exact ⟨rfl, rfl⟩))
    (fun os started H enc _ => lifted os started H enc)

theorem proved : Rows.CommitKindsCardSaid :=
  Claim7.holds_tied_plain_at .later [] Rows.commitKindsCard.laidKinds true Rows.commitKindsCard.stood.harness Rows.commitKindsCard.stood.looks
    over (fun _ h => by cases h) (by kernel_rfl) (fun _ h => by cases h) commitKinds_row_tie rfl ⟨rfl, rfl⟩ (by kernel_rfl) rfl
    (fun f fn hf hfn => by
      obtain rfl : f = 7 := Option.some.inj ((show Tryd.prog.funcNamed Rows.commitKindsRow.func = some 7 by kernel_rfl).symm.trans hf) |>.symm
      obtain rfl : fn = Tryd.f7 := (Option.some.inj (Tryd.func7.symm.trans hfn)).symm
      exact ⟨by kernel_rfl, fun j t ht => by
        rw [Tryd.params7] at ht
        have hm : t ∈ [28] := by simpa using Array.mem_of_getElem? ht
        have hall : ([28].all fun u => !Tryd.prog.wantsStandIn u) = true := by kernel_rfl
        exact (show Tryd.prog.wantsStandIn t = false by simpa using List.all_eq_true.1 hall t hm)⟩)
    (by kernel_rfl)
end Go.Proofs.YtnphlpebeflpkaaDoor.commitKinds
