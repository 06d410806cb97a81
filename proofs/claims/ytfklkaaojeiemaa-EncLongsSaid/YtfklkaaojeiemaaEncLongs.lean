/- EncLongs returns true for every input: a number has one byte for each seven bits begun, and only its last one is below 128; a greater one has no fewer. No condition. -/
import Derived.Test.YtfklkaaojeiemaaEncA
import Derived.ChangeOld
namespace Go.Proofs.Ytfklkaaojeiemaa.encLongs
open Go.ChangeShapes Go.WideShapes Go.ChangeAt Go.RowKit Byt EncM EncC EncA

set_option maxRecDepth 100000 in
set_option maxHeartbeats 2000000 in
theorem within (n m : Nat) (hn : Fits n) (hm : Fits m) (w : World) :
    Calls Try.prog 7 #[.int .u64 n, .int .u64 m] w fun e w' => e = .returned (.bool true) ∧ Below w.heap.size w w' := by
  have cn := num n hn
  have cm := num m hm
  have hB1 : ∀ x ∈ numL n, B x := numL_range n
  have hB2 : ∀ x ∈ numL m, B x := numL_range m
  have hlast := numL_last n
  have hmono := numL_mono n m
  have h1 := numL_len1 n
  have h2 := numL_len2 n
  have hp := numL_pos n
  have ht := numL_ten hn.lt
  have hp2 := numL_pos m
  have ht2 := numL_ten hm.lt
  obtain ⟨X, hX⟩ : ∃ X, numL n = X := ⟨_, rfl⟩
  obtain ⟨Y, hY⟩ : ∃ Y, numL m = Y := ⟨_, rfl⟩
  rw [hX] at cn hB1 hlast hmono h1 h2 hp ht
  rw [hY] at cm hB2 hmono hp2 ht2
  clear hX hY hn hm
  obtain ⟨lx, hlx⟩ : ∃ lx, X.length = lx := ⟨_, rfl⟩
  obtain ⟨ly, hly⟩ : ∃ ly, Y.length = ly := ⟨_, rfl⟩
  rw [hlx] at hlast hmono h1 h2 hp ht
  rw [hly] at hmono hp2 ht2
  have e1 : ((lx : Int) == 1) = decide ((n : Int) < 128) := by rw [Bool.eq_iff_iff]; simp; omega
  have e2 : decide ((2 : Int) < lx) = decide (16384 ≤ (n : Int)) := by rw [Bool.eq_iff_iff]; simp; omega
  have E1 := aside e1
  have E2 := aside e2
  have HLX := aside hlx
  have HLY := aside hly
  have HLa := aside hlast
  have HB1 := aside hB1
  have HB2 := aside hB2
  have hnm : ¬ m < n ∨ (m < n ∧ ¬ lx < ly) := by
    by_cases h : m < n
    · exact .inr ⟨h, by have := hmono (by omega); omega⟩
    · exact .inl h
  clear e1 e2 hlx hly hlast h1 h2 hmono hB1 hB2
  go_enter Try.func7, Try.ntmps7
  go_wp2_with fail
  refine (awake _).mono ?_
  rintro e v1 ⟨rfl, k1⟩
  go_wp2_with fail
  refine (cn _).mono ?_
  rintro e v2 ⟨x, rfl, hown2, h2⟩
  obtain ⟨A2, c2, rfl, hS2⟩ := Sl.own hown2 HB1.out
  have k2 := k1.trans (h2.mono k1.size)
  clear hown2 h2 k1 cn
  rw [HLX.out]
  go_wp2_with fail
  refine (cm _).mono ?_
  rintro e v3 ⟨x, rfl, hown3, h3⟩
  obtain ⟨A3, c3, rfl, hS3⟩ := Sl.own hown3 HB2.out
  have k3 := k2.trans (h3.mono k2.size)
  have hS2' := hS2.below h3
  clear hown3 h3 k2 cm hS2 hS3
  rw [HLY.out]
  obtain ⟨b, off, rfl, hblk, hcs⟩ := hS2'.plain (by rw [HLX.out]; omega)
  rw [HLX.out] at hcs
  have HC := aside hcs
  clear hcs
  have t1 : ¬ lx < 1 := by omega
  rcases hnm with hnm | ⟨hnm, hly⟩
  all_goals
    go_wp2_with fail
    go_loop [8] (fun i => ∃ k : Nat, k ≤ lx ∧ i = .int .i64 k) (fun i => lx - (intOf i).toNat)
    case atStart => exact ⟨0, Nat.zero_le _, rfl⟩
    case round =>
      obtain ⟨k, hk, rfl⟩ := hrel
      by_cases hlt : k < lx
      · have hc := HC.out k hlt
        have hl := HLa.out k hlt
        obtain ⟨y, hy⟩ : ∃ y, X.getD k 0 = y := ⟨_, rfl⟩
        rw [hy] at hc hl
        have tt : (decide (y < 128) == ((k : Int) == (lx : Int) - 1)) = true := by
          have : decide (y < 128) = ((k : Int) == (lx : Int) - 1) := by rw [Bool.eq_iff_iff]; simp; omega
          rw [this]; simp
        clear hl hy
        go_wp2_with fail
        go_round
        case rel => exact ⟨k + 1, by omega, by simp⟩
        case measure => simp [intOf]; omega
      · have q1 := E1.out
        have q2 := E2.out
        go_wp2_with fail
        go_ret
        exact ⟨rfl, k3⟩

theorem walk (a0 a1 : Int) (w : World) (w0 : (Lit.int .u64 a0).wf = true) (w1 : (Lit.int .u64 a1).wf = true) :
    Calls Try.prog 7 #[.int .u64 a0, .int .u64 a1] w fun e w' => e = .returned (.bool true) ∧ Below w.heap.size w w' := by
  have h0 : 0 ≤ a0 ∧ a0 ≤ 18446744073709551615 := by simpa [Lit.wf, IntKind.min, IntKind.max, IntKind.bits, IntKind.signed] using w0
  have h1 : 0 ≤ a1 ∧ a1 ≤ 18446744073709551615 := by simpa [Lit.wf, IntKind.min, IntKind.max, IntKind.bits, IntKind.signed] using w1
  obtain ⟨n, rfl⟩ : ∃ n : Nat, a0 = n := ⟨a0.toNat, by omega⟩
  obtain ⟨m, rfl⟩ : ∃ m : Nat, a1 = m := ⟨a1.toNat, by omega⟩
  exact within n m (by unfold Fits; omega) (by unfold Fits; omega) w

theorem own : ownKnob Try.prog.godebug = none := by kernel_rfl
set_option linter.unusedVariables false in
set_option maxRecDepth 100000 in
theorem lifted (os : Os) (started : os.Started) (H : Type) (enc : TypeId × Value → H) :
    ReturnsInHanded {} Try.checked os 7 .any (Rows.encLongsSpec.pre6 enc Try.prog Try.f7 Rows.encLongsRow.domain false) (Rows.encLongsSpec.post enc Try.prog Try.f7 false true false false) := by
  refine returnsInHanded_of_change (C := Try.checked) own started (by kernel_rfl) Try.func7
    (ChangeSpec.witness6 (enc := enc) (C := Try.checked) false ⟨#[], #[.int .u64 0, .int .u64 0], []⟩ 8 (by kernel_rfl) (by kernel_rfl) (by kernel_rfl) (by kernel_rfl)) ?_
  intro W base args ds gs before hval0 hW hcnd _
  have hval : ∀ (j : Nat) t v, Try.f7.params[j]? = some t → args[j]? = some v → Value.okWide Try.prog W .any base t v := hval0
  have hW' := hW
  obtain ⟨p, q, hA0, hV, rfl, hfz, hnd⟩ := hW
  have hA : DataW.TrodAll enc Try.prog W 0 (fun _ => true) true Try.f7.params.toList args.toList ds p := hA0
  rw [Try.params7] at hA hval
  obtain ⟨v0, vs0, d0, ds0, p0, q0, hargs, rfl, rfl, h0, r0⟩ := trodAll_cons hA
  obtain ⟨v1, vs1, d1, ds1, p1, q1, rfl, rfl, rfl, h1, r1⟩ := trodAll_cons r0
  obtain ⟨rfl, rfl, rfl⟩ := trodAll_nil r1
  obtain rfl : args = #[v0, v1] := by cases args; simp_all
  obtain ⟨rfl, rfl⟩ := trodVars_none hV
  obtain ⟨a0, rfl, rfl, rfl, w0⟩ := open_int Try.underlying22 (hval 0 22 v0 rfl rfl) h0
  obtain ⟨a1, rfl, rfl, rfl, w1⟩ := open_int Try.underlying22 (hval 1 22 v1 rfl rfl) h1
  clear hA0 hval0
  refine (walk a0 a1 W w0 w1).mono fun e W' ⟨he, bel⟩ => ?_
  subst he
  exact ⟨_, rfl, _, _, _, [], _, [], hW', trodAll_mk1 (shut_bool Try.underlying4 _), (trodAll_cons_mk (shut_int Try.underlying22 w0) (trodAll_cons_mk (shut_int Try.underlying22 w1) trodAll_mk0)), rfl, bel.frame _, fun h => by cases h⟩

theorem over : Rows.encLongsRow.holds Try.pinned (OpenSpec.ofChange Rows.encLongsSpec) :=
  OpenClaim.holds_of_wide 7 Try.f7 rfl rfl rfl rfl rfl rfl rfl ⟨rfl, rfl, rfl, rfl, rfl⟩ rfl rfl rfl rfl rfl (by kernel_rfl) Try.func7 (by kernel_rfl)
    (of_decide_eq_true (by kernel_rfl)) (by unfold Func.isWrapper; first | (rw [if_pos (by decide +kernel)]; kernel_rfl) | (rw [if_neg (by decide +kernel)]; exact ⟨rfl, rfl⟩))
    (fun os started H enc _ => lifted os started H enc)

theorem proved : Rows.EncLongsSaid := over
end Go.Proofs.Ytfklkaaojeiemaa.encLongs
