/- EncOnly returns true for every input: no two numbers, and no two texts, have the same bytes; nor do a beginning of a number's bytes, or nothing, make one. No condition. -/
import Derived.Test.YtfklkaaojeiemaaEncA
import Derived.Test.YtfklkaaojeiemaaEncT
import Derived.Test.YtfklkaaojeiemaaGrow
import Derived.ShutString
import Derived.ChangeOld
namespace Go.Proofs.Ytfklkaaojeiemaa.encOnly
open Go.ChangeShapes Go.WideShapes Go.ChangeAt Go.RowKit Go.Sort Byt EncM EncC EncE EncT EncA

set_option maxRecDepth 100000 in
set_option maxHeartbeats 2000000 in
theorem out (n m : Int) (a b : ByteArray) (w : World) (ha : a.size ≤ maxLen) (hb : b.size ≤ maxLen) (h : 300 < a.size ∨ (a.size ≤ 300 ∧ 300 < b.size)) :
    Calls Try.prog 9 #[.int .u64 n, .int .u64 m, .string a, .string b] w fun e w' => e = .returned (.bool true) ∧ Below w.heap.size w w' := by
  unfold maxLen at ha hb
  rcases h with h | ⟨h, h2⟩
  all_goals
    go_enter Try.func9, Try.ntmps9
    go_wp2_with fail
    refine (awake _).mono ?_
    rintro e w1 ⟨rfl, k1⟩
    go_wp2_with fail
    go_ret
    exact ⟨rfl, k1⟩

set_option maxRecDepth 100000 in
set_option maxHeartbeats 8000000 in
theorem within (n m : Nat) (a b : ByteArray) (w : World) (hn : Fits n) (hm : Fits m) (ha : a.size ≤ 300) (hb : b.size ≤ 300) :
    Calls Try.prog 9 #[.int .u64 n, .int .u64 m, .string a, .string b] w fun e w' => e = .returned (.bool true) ∧ Below w.heap.size w w' := by
  have cn := num n hn
  have cm := num m hm
  have ca := text a (by omega)
  have cb := text b (by omega)
  have bn : ∀ x ∈ numL n, B x := numL_range n
  have bm : ∀ x ∈ numL m, B x := numL_range m
  have la : (bytesL a).length ≤ 1099511627776 := by rw [bytesL_length]; omega
  have lb : (bytesL b).length ≤ 1099511627776 := by rw [bytesL_length]; omega
  have ba := textL_B (bytesL_B a)
  have bb := textL_B (bytesL_B b)
  have e1 : ((strOf (numL n)).toList == (strOf (numL m)).toList) = ((n : Int) == (m : Int)) := by
    rw [strOf_beq bn bm, Bool.eq_iff_iff, decide_eq_true_eq, beq_iff_eq]
    exact ⟨fun h => by rw [numL_inj hn.lt hm.lt h], fun h => by rw [show n = m by omega]⟩
  have e2 : ((strOf (textL (bytesL a))).toList == (strOf (textL (bytesL b))).toList) = (a.toList == b.toList) := by
    rw [strOf_beq ba bb, str_beq, Bool.eq_iff_iff, decide_eq_true_eq, decide_eq_true_eq]
    exact ⟨textL_inj la lb, fun h => by rw [h]⟩
  have hp := numL_pos n
  have ht := numL_ten hn.lt
  have hcut := getL_cut n ((numL n).length - 1) hn.lt (by omega)
  obtain ⟨X, hX⟩ : ∃ X, numL n = X := ⟨_, rfl⟩
  obtain ⟨Y, hY⟩ : ∃ Y, numL m = Y := ⟨_, rfl⟩
  obtain ⟨TA, hTA⟩ : ∃ X, textL (bytesL a) = X := ⟨_, rfl⟩
  obtain ⟨TB, hTB⟩ : ∃ X, textL (bytesL b) = X := ⟨_, rfl⟩
  rw [hX] at cn bn hp ht hcut e1
  rw [hY] at cm bm e1
  rw [hTA] at ca ba e2
  rw [hTB] at cb bb e2
  have E1 := aside e1
  have E2 := aside e2
  have HBn := aside bn
  have HBm := aside bm
  have HBa := aside ba
  have HBb := aside bb
  have HCut := aside hcut
  clear hX hY hTA hTB e1 e2 bn bm ba bb hcut la lb
  go_enter Try.func9, Try.ntmps9
  go_wp2_with fail
  refine (awake _).mono ?_
  rintro e w1 ⟨rfl, k1⟩
  go_wp2_with fail
  refine (cn _).mono ?_
  clear cn
  rintro e w2 ⟨v2, rfl, hown2, h2⟩
  have k2 := k1.trans (h2.mono k1.size)
  obtain ⟨A2, c2, rfl, S2⟩ := Sl.own hown2 HBn.out
  clear k1 h2 hown2
  obtain ⟨A3, c3, hs3, S3, l3⟩ := S2.part 0 (X.length - 1) (by omega) (by omega)
  have hr3 := fun W => run_part_h W A2 X.length c2 .i64 (X.length - 1) (by have := S2.1; omega)
  have q1 : ((X.length - 1 : Nat) : Int) = (X.length : Int) - 1 := by omega
  rw [hs3, Nat.sub_zero, q1] at hr3
  rw [Nat.sub_zero, List.drop_zero] at S3 l3
  have hg := EncG.get S3 l3
  rw [HCut.out] at hg
  clear hs3 q1 l3
  go_wp2_with fail
  refine hg.mono ?_
  clear hg hr3
  rintro e w3 ⟨rfl, h3⟩
  have T3 := S2.below h3
  have k3 := k2.trans (h3.mono k2.size)
  clear k2 h3 S2 S3
  have hg := EncG.get (Sl.nil w3) rfl
  rw [show getL [] = (0, 0) from rfl] at hg
  go_wp2_with fail
  refine hg.mono ?_
  clear hg
  rintro e w4 ⟨rfl, h4⟩
  have T4 := T3.below h4
  have k4 := k3.trans (h4.mono k3.size)
  clear k3 h4 T3
  go_wp2_with fail
  refine Grow.region [(0, true), (1, true), (2, true), (3, true), (4, true), (5, true), (6, true), (7, true), (8, true), (9, true), (13, true), (14, true), (15, true), (10, false), (11, true), (12, true), (16, true), (17, true), (18, true), (19, true), (22, true), (26, true), (27, true), (28, true), (20, false), (21, true), (23, false), (24, true), (25, true), (29, true), (30, true), (31, true)] (by kernel_rfl) (by kernel_rfl) rfl (by kernel_rfl) (by intro c a d v w h; cases d <;> exact h) ?_
  have S4 := T4.drew
  have kd := below_drew1 k4
  obtain ⟨W4, hW4⟩ : ∃ W, w4.drew = W := ⟨_, rfl⟩
  rw [hW4] at S4 kd ⊢
  clear hW4 T4 k4
  have qx := fun d os => (S4.below (below_regrown _ d os)).conv rfl
  repeat (refine Grow.reads rfl rfl ?_; go_big_quiet_step (fail); refine wpQuiet_nil ?_)
  clear qx
  refine Grow.acts rfl ?_
  go_wp2_with fail
  refine (cm _).mono ?_
  rintro e w5 ⟨v5, rfl, hown5, h5⟩
  obtain ⟨A5, c5, rfl, S5⟩ := Sl.own hown5 HBm.out
  have k5 := kd.trans (h5.mono kd.size)
  clear hown5 cm
  go_wp2_with fail
  refine ⟨h5, ?_⟩
  clear h5
  have q5 := fun d os => (S5.below (below_regrown _ d os)).conv rfl
  have e1 := E1.out
  repeat (refine Grow.reads rfl rfl ?_; go_big_quiet_step (fail); refine wpQuiet_nil ?_)
  clear q5 e1
  refine Grow.acts rfl ?_
  go_wp2_with fail
  refine (ca _).mono ?_
  rintro e w6 ⟨v6, rfl, hown6, h6⟩
  obtain ⟨A6, c6, rfl, S6⟩ := Sl.own hown6 HBa.out
  have k6 := k5.trans (h6.mono k5.size)
  clear hown6 ca
  go_wp2_with fail
  refine ⟨h6, ?_⟩
  clear h6
  have q6 := fun d os => (S6.below (below_regrown _ d os)).conv rfl
  repeat (refine Grow.reads rfl rfl ?_; go_big_quiet_step (fail); refine wpQuiet_nil ?_)
  clear q6
  refine Grow.acts rfl ?_
  go_wp2_with fail
  refine (cb _).mono ?_
  rintro e w7 ⟨v7, rfl, hown7, h7⟩
  obtain ⟨A7, c7, rfl, S7⟩ := Sl.own hown7 HBb.out
  have k7 := k6.trans (h7.mono k6.size)
  clear hown7 cb
  go_wp2_with fail
  refine ⟨h7, ?_⟩
  clear h7
  have q7 := fun d os => (S7.below (below_regrown _ d os)).conv rfl
  have e2 := E2.out
  repeat (refine Grow.reads rfl rfl ?_; go_big_quiet_step (fail); refine wpQuiet_nil ?_)
  refine Grow.ends ?_
  go_wp2_with fail
  go_ret
  exact ⟨rfl, k7⟩

theorem walk (a0 a1 : Int) (a2 a3 : ByteArray) (w : World) (w0 : (Lit.int .u64 a0).wf = true) (w1 : (Lit.int .u64 a1).wf = true) (w2 : a2.size ≤ maxLen) (w3 : a3.size ≤ maxLen) :
    Calls Try.prog 9 #[.int .u64 a0, .int .u64 a1, .string a2, .string a3] w fun e w' => e = .returned (.bool true) ∧ Below w.heap.size w w' := by
  have h0 : 0 ≤ a0 ∧ a0 ≤ 18446744073709551615 := by simpa [Lit.wf, IntKind.min, IntKind.max, IntKind.bits, IntKind.signed] using w0
  have h1 : 0 ≤ a1 ∧ a1 ≤ 18446744073709551615 := by simpa [Lit.wf, IntKind.min, IntKind.max, IntKind.bits, IntKind.signed] using w1
  by_cases h : 300 < a2.size ∨ (a2.size ≤ 300 ∧ 300 < a3.size)
  · exact out a0 a1 a2 a3 w w2 w3 h
  · obtain ⟨n, rfl⟩ : ∃ n : Nat, a0 = n := ⟨a0.toNat, by omega⟩
    obtain ⟨m, rfl⟩ : ∃ m : Nat, a1 = m := ⟨a1.toNat, by omega⟩
    exact within n m a2 a3 w (by unfold Fits; omega) (by unfold Fits; omega) (by omega) (by omega)

theorem own : ownKnob Try.prog.godebug = none := by kernel_rfl
set_option linter.unusedVariables false in
set_option maxRecDepth 100000 in
theorem lifted (os : Os) (started : os.Started) (H : Type) (enc : TypeId × Value → H) :
    ReturnsInHanded {} Try.checked os 9 .any (Rows.encOnlySpec.pre6 enc Try.prog Try.f9 Rows.encOnlyRow.domain false) (Rows.encOnlySpec.post enc Try.prog Try.f9 false true false false) := by
  refine returnsInHanded_of_change (C := Try.checked) own started (by kernel_rfl) Try.func9
    (ChangeSpec.witness6 (enc := enc) (C := Try.checked) false ⟨#[], #[.int .u64 0, .int .u64 0, .string ByteArray.empty, .string ByteArray.empty], []⟩ 8 (by kernel_rfl) (by kernel_rfl) (by kernel_rfl) (by kernel_rfl)) ?_
  intro W base args ds gs before hval0 hW hcnd _
  have hval : ∀ (j : Nat) t v, Try.f9.params[j]? = some t → args[j]? = some v → Value.okWide Try.prog W .any base t v := hval0
  have hW' := hW
  obtain ⟨p, q, hA0, hV, rfl, hfz, hnd⟩ := hW
  have hA : DataW.TrodAll enc Try.prog W 0 (fun _ => true) true Try.f9.params.toList args.toList ds p := hA0
  rw [Try.params9] at hA hval
  obtain ⟨v0, vs0, d0, ds0, p0, q0, hargs, rfl, rfl, h0, r0⟩ := trodAll_cons hA
  obtain ⟨v1, vs1, d1, ds1, p1, q1, rfl, rfl, rfl, h1, r1⟩ := trodAll_cons r0
  obtain ⟨v2, vs2, d2, ds2, p2, q2, rfl, rfl, rfl, h2, r2⟩ := trodAll_cons r1
  obtain ⟨v3, vs3, d3, ds3, p3, q3, rfl, rfl, rfl, h3, r3⟩ := trodAll_cons r2
  obtain ⟨rfl, rfl, rfl⟩ := trodAll_nil r3
  obtain rfl : args = #[v0, v1, v2, v3] := by cases args; simp_all
  obtain ⟨rfl, rfl⟩ := trodVars_none hV
  obtain ⟨a0, rfl, rfl, rfl, w0⟩ := open_int Try.underlying22 (hval 0 22 v0 rfl rfl) h0
  obtain ⟨a1, rfl, rfl, rfl, w1⟩ := open_int Try.underlying22 (hval 1 22 v1 rfl rfl) h1
  obtain ⟨a2, rfl, rfl, rfl, w2⟩ := Go.ChangeMaps.open_string Try.underlying9 (hval 2 9 v2 rfl rfl) h2
  obtain ⟨a3, rfl, rfl, rfl, w3⟩ := Go.ChangeMaps.open_string Try.underlying9 (hval 3 9 v3 rfl rfl) h3
  clear hA0 hval0
  refine (walk a0 a1 a2 a3 W w0 w1 w2 w3).mono fun e W' ⟨he, bel⟩ => ?_
  subst he
  exact ⟨_, rfl, _, _, _, [], _, [], hW', trodAll_mk1 (shut_bool Try.underlying4 _), (trodAll_cons_mk (shut_int Try.underlying22 w0) (trodAll_cons_mk (shut_int Try.underlying22 w1) (trodAll_cons_mk (Go.ChangeMaps.shut_string Try.underlying9 w2) (trodAll_cons_mk (Go.ChangeMaps.shut_string Try.underlying9 w3) trodAll_mk0)))), rfl, bel.frame _, fun h => by cases h⟩

theorem over : Rows.encOnlyRow.holds Try.pinned (OpenSpec.ofChange Rows.encOnlySpec) :=
  OpenClaim.holds_of_wide 9 Try.f9 rfl rfl rfl rfl rfl rfl rfl ⟨rfl, rfl, rfl, rfl, rfl⟩ rfl rfl rfl rfl rfl (by kernel_rfl) Try.func9 (by kernel_rfl)
    (of_decide_eq_true (by kernel_rfl)) (by unfold Func.isWrapper; first | (rw [if_pos (by decide +kernel)]; kernel_rfl) | (rw [if_neg (by decide +kernel)]; exact ⟨rfl, rfl⟩))
    (fun os started H enc _ => lifted os started H enc)

theorem proved : Rows.EncOnlySaid := over
end Go.Proofs.Ytfklkaaojeiemaa.encOnly
