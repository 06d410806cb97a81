/- EncMost returns true for every input: a text that is longer than what is asked for is none; of two texts, one behind the other, each is cut off in its turn. No condition. -/
import Derived.Test.YtfklkaaojeiemaaEncA
import Derived.Test.YtfklkaaojeiemaaEncT
import Derived.ShutString
import Derived.ChangeOld
namespace Go.Proofs.Ytfklkaaojeiemaa.encMost
open Go.ChangeShapes Go.WideShapes Go.ChangeAt Go.RowKit Byt EncM EncC EncE EncT EncA

set_option maxRecDepth 100000 in
set_option maxHeartbeats 2000000 in
theorem out (a b : ByteArray) (m : Int) (w : World) (ha : a.size ≤ maxLen) (hb : b.size ≤ maxLen) (h : 300 < a.size ∨ (a.size ≤ 300 ∧ 300 < b.size)) :
    Calls Try.prog 8 #[.string a, .string b, .int .i64 m] w fun e w' => e = .returned (.bool true) ∧ Below w.heap.size w w' := by
  unfold maxLen at ha hb
  rcases h with h | ⟨h, h2⟩
  all_goals
    go_enter Try.func8, Try.ntmps8
    go_wp2_with fail
    refine (awake _).mono ?_
    rintro e w1 ⟨rfl, k1⟩
    go_wp2_with fail
    go_ret
    exact ⟨rfl, k1⟩

set_option maxRecDepth 100000 in
set_option maxHeartbeats 8000000 in
theorem within (a b : ByteArray) (m : Int) (w : World) (ha : a.size ≤ 300) (hb : b.size ≤ 300) (hm : -9223372036854775808 ≤ m ∧ m ≤ 9223372036854775807) :
    Calls Try.prog 8 #[.string a, .string b, .int .i64 m] w fun e w' => e = .returned (.bool true) ∧ Below w.heap.size w w' := by
  have ca := text a (by omega)
  have cb := text b (by omega)
  have la : (bytesL a).length ≤ 1099511627776 := by rw [bytesL_length]; omega
  have lb : (bytesL b).length ≤ 1099511627776 := by rw [bytesL_length]; omega
  have c1 := cut_text (bytesL a) (textL (bytesL b)) m la
  have c2 := cut_text0 (bytesL b) 300 lb
  rw [bytesL_length] at c1 c2
  rw [if_pos (by omega)] at c2
  have lx := textL_length _ la
  have ly := textL_length _ lb
  rw [bytesL_length] at lx ly
  have bx := textL_B (bytesL_B a)
  have by' := textL_B (bytesL_B b)
  have sa := strOf_bytesL a
  have sb := strOf_bytesL b
  obtain ⟨X, hX⟩ : ∃ X, textL (bytesL a) = X := ⟨_, rfl⟩
  obtain ⟨Y, hY⟩ : ∃ Y, textL (bytesL b) = Y := ⟨_, rfl⟩
  rw [hX] at ca c1 lx bx
  rw [hY] at cb c1 c2 ly by'
  have HC1 := aside c1
  have HC2 := aside c2
  have HBX := aside bx
  have HBY := aside by'
  have HSa := aside sa
  have HSb := aside sb
  clear hX hY c1 c2 bx by' sa sb la lb
  go_enter Try.func8, Try.ntmps8
  go_wp2_with fail
  refine (awake _).mono ?_
  rintro e w1 ⟨rfl, k1⟩
  go_wp2_with fail
  refine (ca _).mono ?_
  rintro e w2 ⟨v2, rfl, hown2, h2⟩
  have k2 := k1.trans (h2.mono k1.size)
  have HO2 := aside hown2
  clear h2 hown2 ca
  go_wp2_with fail
  refine (cb _).mono ?_
  rintro e w3 ⟨v3, rfl, hown3, h3⟩
  have k3 := k2.trans (h3.mono k2.size)
  have HO2' := aside (owns_less (owns_below HO2.out h3) k1.size)
  obtain ⟨A3, c3, rfl, hS3⟩ := Sl.own hown3 HBY.out
  clear h3 hown3 cb HO2 k2
  have hs3 := k3.size
  go_wp2_with (refine wpList_append_sl rfl (.tmp 30) (.tmp 32) 24 rfl w.heap.size 5 Try.underlying24 zero_u8 v2 X.length X rfl HO2'.out A3 Y.length c3 Y rfl rfl hS3 (by omega) hs3 ?_; intro v4 w4 hown4 hg4; have k4 : Below w.heap.size w w4 := below_grown k3 hs3 hg4 (fun k hk => (HO2'.out.lt k hk).1); have HO4 := aside hown4; clear hown4 hg4)
  have h4 := HO4.out
  rw [← List.length_append] at h4
  obtain ⟨A4, c4, rfl, hS4⟩ := Sl.own h4 (fun x hx => (List.mem_append.1 hx).elim (HBX.out x) (HBY.out x))
  have hc := cut m hS4 rfl (by rw [List.length_append]; omega) hm
  unfold CutOut at hc
  rw [HC1.out] at hc
  clear h4 HO4 HO2' hS3 hS4 HC1
  by_cases hma : (a.size : Int) ≤ m
  · rw [if_pos hma] at hc
    simp only [HSa.out] at hc
    refine hc.mono ?_
    clear hc
    rintro e w5 ⟨h5, v5, rfl, hown5⟩
    have k5 := k4.trans (h5.mono k4.size)
    obtain ⟨A5, c5, rfl, hS5⟩ := Sl.own hown5 HBY.out
    have hc := cut 300 hS5 rfl (by omega) (by omega)
    unfold CutOut at hc
    rw [HC2.out] at hc
    simp only [HSb.out] at hc
    clear h5 hown5 hS5 HC2
    go_wp2_with fail
    refine hc.mono ?_
    clear hc
    rintro e w6 ⟨h6, v6, rfl, hown6⟩
    have k6 := k5.trans (h6.mono k5.size)
    obtain ⟨A6, c6, rfl, hS6⟩ := Sl.own hown6 (by simp)
    rw [List.length_nil]
    clear h6 hown6 hS6
    go_wp2_with fail
    go_ret
    exact ⟨rfl, k6⟩
  · rw [if_neg hma] at hc
    refine hc.mono ?_
    clear hc
    rintro e w5 ⟨h5, rfl⟩
    have k5 := k4.trans (h5.mono k4.size)
    clear h5
    go_wp2_with fail
    go_ret
    exact ⟨rfl, k5⟩

theorem walk (a0 a1 : ByteArray) (a2 : Int) (w : World) (w0 : a0.size ≤ maxLen) (w1 : a1.size ≤ maxLen) (w2 : (Lit.int .i64 a2).wf = true) :
    Calls Try.prog 8 #[.string a0, .string a1, .int .i64 a2] w fun e w' => e = .returned (.bool true) ∧ Below w.heap.size w w' := by
  have h2 : -9223372036854775808 ≤ a2 ∧ a2 ≤ 9223372036854775807 := by simpa [Lit.wf, IntKind.min, IntKind.max, IntKind.bits, IntKind.signed] using w2
  by_cases h : 300 < a0.size ∨ (a0.size ≤ 300 ∧ 300 < a1.size)
  · exact out a0 a1 a2 w w0 w1 h
  · exact within a0 a1 a2 w (by omega) (by omega) h2

theorem own : ownKnob Try.prog.godebug = none := by kernel_rfl
set_option linter.unusedVariables false in
set_option maxRecDepth 100000 in
theorem lifted (os : Os) (started : os.Started) (H : Type) (enc : TypeId × Value → H) :
    ReturnsInHanded {} Try.checked os 8 .any (Rows.encMostSpec.pre6 enc Try.prog Try.f8 Rows.encMostRow.domain false) (Rows.encMostSpec.post enc Try.prog Try.f8 false true false false) := by
  refine returnsInHanded_of_change (C := Try.checked) own started (by kernel_rfl) Try.func8
    (ChangeSpec.witness6 (enc := enc) (C := Try.checked) false ⟨#[], #[.string ByteArray.empty, .string ByteArray.empty, .int .i64 0], []⟩ 8 (by kernel_rfl) (by kernel_rfl) (by kernel_rfl) (by kernel_rfl)) ?_
  intro W base args ds gs before hval0 hW hcnd _
  have hval : ∀ (j : Nat) t v, Try.f8.params[j]? = some t → args[j]? = some v → Value.okWide Try.prog W .any base t v := hval0
  have hW' := hW
  obtain ⟨p, q, hA0, hV, rfl, hfz, hnd⟩ := hW
  have hA : DataW.TrodAll enc Try.prog W 0 (fun _ => true) true Try.f8.params.toList args.toList ds p := hA0
  rw [Try.params8] at hA hval
  obtain ⟨v0, vs0, d0, ds0, p0, q0, hargs, rfl, rfl, h0, r0⟩ := trodAll_cons hA
  obtain ⟨v1, vs1, d1, ds1, p1, q1, rfl, rfl, rfl, h1, r1⟩ := trodAll_cons r0
  obtain ⟨v2, vs2, d2, ds2, p2, q2, rfl, rfl, rfl, h2, r2⟩ := trodAll_cons r1
  obtain ⟨rfl, rfl, rfl⟩ := trodAll_nil r2
  obtain rfl : args = #[v0, v1, v2] := by cases args; simp_all
  obtain ⟨rfl, rfl⟩ := trodVars_none hV
  obtain ⟨a0, rfl, rfl, rfl, w0⟩ := Go.ChangeMaps.open_string Try.underlying9 (hval 0 9 v0 rfl rfl) h0
  obtain ⟨a1, rfl, rfl, rfl, w1⟩ := Go.ChangeMaps.open_string Try.underlying9 (hval 1 9 v1 rfl rfl) h1
  obtain ⟨a2, rfl, rfl, rfl, w2⟩ := open_int Try.underlying3 (hval 2 3 v2 rfl rfl) h2
  clear hA0 hval0
  refine (walk a0 a1 a2 W w0 w1 w2).mono fun e W' ⟨he, bel⟩ => ?_
  subst he
  exact ⟨_, rfl, _, _, _, [], _, [], hW', trodAll_mk1 (shut_bool Try.underlying4 _), (trodAll_cons_mk (Go.ChangeMaps.shut_string Try.underlying9 w0) (trodAll_cons_mk (Go.ChangeMaps.shut_string Try.underlying9 w1) (trodAll_cons_mk (shut_int Try.underlying3 w2) trodAll_mk0))), rfl, bel.frame _, fun h => by cases h⟩

theorem over : Rows.encMostRow.holds Try.pinned (OpenSpec.ofChange Rows.encMostSpec) :=
  OpenClaim.holds_of_wide 8 Try.f8 rfl rfl rfl rfl rfl rfl rfl ⟨rfl, rfl, rfl, rfl, rfl⟩ rfl rfl rfl rfl rfl (by kernel_rfl) Try.func8 (by kernel_rfl)
    (of_decide_eq_true (by kernel_rfl)) (by unfold Func.isWrapper; first | (rw [if_pos (by decide +kernel)]; kernel_rfl) | (rw [if_neg (by decide +kernel)]; exact ⟨rfl, rfl⟩))
    (fun os started H enc _ => lifted os started H enc)

theorem proved : Rows.EncMostSaid := over
end Go.Proofs.Ytfklkaaojeiemaa.encMost
