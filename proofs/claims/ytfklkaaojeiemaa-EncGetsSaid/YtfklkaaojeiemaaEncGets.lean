/- EncGets returns true for every input: the number, and the text, that any bytes begin with, or that they begin with none, is what the document says. No condition. -/
import Derived.Test.YtfklkaaojeiemaaEncA
import Derived.Test.YtfklkaaojeiemaaEncT
import Derived.Test.YtfklkaaojeiemaaRefY
import Derived.ChangeOld
namespace Go.Proofs.Ytfklkaaojeiemaa.encGets
open Go.ChangeShapes Go.WideShapes Go.ChangeAt Go.RowKit Byt EncM EncC EncE EncT EncA

set_option maxRecDepth 100000 in
set_option maxHeartbeats 2000000 in
theorem out (A : Option Addr) (len cap : Nat) (m : Int) (w : World) (hl : 300 < len) (hm : len ≤ 9223372036854775807) :
    Calls Try.prog 4 #[.slice A len cap, .int .i64 m] w fun e w' => e = .returned (.bool true) ∧ Below w.heap.size w w' := by
  go_enter Try.func4, Try.ntmps4
  go_wp2_with fail
  refine (awake _).mono ?_
  rintro e w1 ⟨rfl, k1⟩
  go_wp2_with fail
  go_ret
  exact ⟨rfl, k1⟩

set_option maxRecDepth 100000 in
set_option maxHeartbeats 8000000 in
theorem within (A : Option Addr) (len cap : Nat) (bs : List Int) (m : Int) (w : World) (hS : Sl w A cap bs) (hl : bs.length = len) (hlen : len ≤ 300) (hm : -9223372036854775808 ≤ m ∧ m ≤ 9223372036854775807) :
    Calls Try.prog 4 #[.slice A len cap, .int .i64 m] w fun e w' => e = .returned (.bool true) ∧ Below w.heap.size w w' := by
  have HL := aside hl
  clear hl
  go_enter Try.func4, Try.ntmps4
  go_wp2_with fail
  refine (awake _).mono ?_
  rintro e w1 ⟨rfl, k1⟩
  have S1 := hS.below k1
  go_wp2_with fail
  refine (EncG.get S1 HL.out).mono ?_
  rintro e w2 ⟨rfl, h2⟩
  have S2 := S1.below h2
  have k2 := k1.trans (h2.mono k1.size)
  clear k1 h2 S1
  go_wp2_with fail
  refine (RefF.get S2 HL.out (by omega)).mono ?_
  rintro e w3 ⟨rfl, h3⟩
  have S3 := S2.below h3
  have k3 := k2.trans (h3.mono k2.size)
  clear k2 h3 S2
  go_wp2_with fail
  have c1 := EncE.cut m S3 HL.out (by omega) hm
  unfold CutOut at c1
  obtain ⟨n, hn⟩ : ∃ n, (getL bs).1 = n := ⟨_, rfl⟩
  obtain ⟨k, hk⟩ : ∃ k, (getL bs).2 = k := ⟨_, rfl⟩
  rw [hn, hk]
  clear hn hk
  cases hc : cutL bs m with
  | none =>
    rw [hc] at c1
    refine c1.mono ?_
    clear c1
    rintro e w4 ⟨h4, rfl⟩
    have S4 := S3.below h4
    have k4 := k3.trans (h4.mono k3.size)
    have c2 := RefY.cut m S4 HL.out (by omega) hm
    unfold CutOut at c2
    rw [hc] at c2
    clear k3 h4 S3 hc
    go_wp2_with fail
    refine c2.mono ?_
    clear c2
    rintro e w5 ⟨h5, rfl⟩
    have k5 := k4.trans (h5.mono k4.size)
    have v1 := (Sl.nil w5).conv (len := 0) rfl
    clear k4 h5 S4
    go_wp2_with fail
    go_ret
    exact ⟨rfl, k5⟩
  | some p =>
    obtain ⟨a, r⟩ := p
    rw [hc] at c1
    have hr : ∀ x ∈ r, B x := by
      unfold cutL at hc
      split at hc
      · cases hc
      · intro x hx
        obtain ⟨_, rfl⟩ := Prod.mk.inj (Option.some.inj hc)
        exact hS.bytes x (List.mem_of_mem_drop (List.mem_of_mem_drop hx))
    refine c1.mono ?_
    clear c1
    rintro e w4 ⟨h4, v4, rfl, hown4⟩
    have S4 := S3.below h4
    have k4 := k3.trans (h4.mono k3.size)
    obtain ⟨A4, c4, rfl, T4⟩ := Sl.own hown4 hr
    have c2 := RefY.cut m S4 HL.out (by omega) hm
    unfold CutOut at c2
    rw [hc] at c2
    clear k3 h4 S3 hc hown4
    go_wp2_with fail
    refine c2.mono ?_
    clear c2
    rintro e w5 ⟨h5, v5, rfl, hown5⟩
    have k5 := k4.trans (h5.mono k4.size)
    have T5 := T4.below h5
    obtain ⟨A6, c6, rfl, T6⟩ := Sl.own hown5 hr
    have v1 := T5.conv rfl
    have v2 := T6.conv rfl
    clear k4 h5 S4 hown5 T4 T5 T6
    go_wp2_with fail
    go_ret
    exact ⟨rfl, k5⟩

theorem walk (a0 : Option Addr) (len0 cap0 : Nat) (z0 : List Int) (a1 : Int) (w : World) (w0 : RowIn.RowIn .u8 w a0 len0 cap0 z0) (w1 : (Lit.int .i64 a1).wf = true) :
    Calls Try.prog 4 #[.slice a0 len0 cap0, .int .i64 a1] w fun e w' => e = .returned (.bool true) ∧ Below w.heap.size w w' := by
  have h1 : -9223372036854775808 ≤ a1 ∧ a1 ≤ 9223372036854775807 := by simpa [Lit.wf, IntKind.min, IntKind.max, IntKind.bits, IntKind.signed] using w1
  have h2 := w0.1
  have h3 := w0.2.1
  unfold maxLen at h3
  obtain ⟨hS, hl⟩ := Sl.of_row w0
  by_cases h : 300 < len0
  · exact out a0 len0 cap0 a1 w h (by omega)
  · exact within a0 len0 cap0 _ a1 w hS hl (by omega) h1

theorem own : ownKnob Try.prog.godebug = none := by kernel_rfl
theorem laidOut : laidOutB Try.prog = true := by kernel_rfl
set_option linter.unusedVariables false in
set_option maxRecDepth 100000 in
theorem lifted (os : Os) (started : os.Started) (H : Type) (enc : TypeId × Value → H) :
    ReturnsInHanded {} Try.checked os 4 .any (Rows.encGetsSpec.pre6 enc Try.prog Try.f4 Rows.encGetsRow.domain false) (Rows.encGetsSpec.post enc Try.prog Try.f4 false true false false) := by
  refine returnsInHanded_of_change (C := Try.checked) own started (by kernel_rfl) Try.func4
    (ChangeSpec.witness6 (enc := enc) (C := Try.checked) false ⟨#[], #[.slice none 0 0, .int .i64 0], []⟩ 8 (by kernel_rfl) (by kernel_rfl) (by kernel_rfl) (by kernel_rfl)) ?_
  intro W base args ds gs before hval0 hW hcnd _
  have hval : ∀ (j : Nat) t v, Try.f4.params[j]? = some t → args[j]? = some v → Value.okWide Try.prog W .any base t v := hval0
  have hW' := hW
  obtain ⟨p, q, hA0, hV, rfl, hfz, hnd⟩ := hW
  have hA : DataW.TrodAll enc Try.prog W 0 (fun _ => true) true Try.f4.params.toList args.toList ds p := hA0
  rw [Try.params4] at hA hval
  obtain ⟨v0, vs0, d0, ds0, p0, q0, hargs, rfl, rfl, h0, r0⟩ := trodAll_cons hA
  obtain ⟨v1, vs1, d1, ds1, p1, q1, rfl, rfl, rfl, h1, r1⟩ := trodAll_cons r0
  obtain ⟨rfl, rfl, rfl⟩ := trodAll_nil r1
  obtain rfl : args = #[v0, v1] := by cases args; simp_all
  obtain ⟨rfl, rfl⟩ := trodVars_none hV
  have k0 := h0
  have lt0 : ∀ x ∈ p0, x.block < W.heap.size := by obtain ⟨m, hm⟩ := k0; exact DataW.trod_lt m _ _ _ hm
  obtain ⟨a0, len0, cap0, z0, rfl, w0⟩ := RowIn.open_row Try.underlying24 Try.underlying5 (by kernel_rfl) (hval 0 24 v0 rfl rfl) h0
  obtain ⟨a1, rfl, rfl, rfl, w1⟩ := open_int Try.underlying3 (hval 1 3 v1 rfl rfl) h1
  clear hA0 hval0
  refine (walk a0 len0 cap0 z0 a1 W w0 w1).mono fun e W' ⟨he, bel⟩ => ?_
  subst he
  exact ⟨_, rfl, _, _, _, [], _, [], hW', trodAll_mk1 (shut_bool Try.underlying4 _), (trodAll_cons_mk (Below.trod laidOut (by kernel_rfl) (of_decide_eq_true (by kernel_rfl)) k0 bel lt0) (trodAll_cons_mk (shut_int Try.underlying3 w1) trodAll_mk0)), rfl, bel.frame _, fun h => by cases h⟩

theorem over : Rows.encGetsRow.holds Try.pinned (OpenSpec.ofChange Rows.encGetsSpec) :=
  OpenClaim.holds_of_wide 4 Try.f4 rfl rfl rfl rfl rfl rfl rfl ⟨rfl, rfl, rfl, rfl, rfl⟩ rfl rfl rfl rfl rfl (by kernel_rfl) Try.func4 (by kernel_rfl)
    (of_decide_eq_true (by kernel_rfl)) (by unfold Func.isWrapper; first | (rw [if_pos (by decide +kernel)]; kernel_rfl) | (rw [if_neg (by decide +kernel)]; exact ⟨rfl, rfl⟩))
    (fun os started H enc _ => lifted os started H enc)

theorem proved : Rows.EncGetsSaid := over
end Go.Proofs.Ytfklkaaojeiemaa.encGets
