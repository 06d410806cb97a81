/- EncBack returns true for every input: what is put is got, whatever stands behind; what is got is put as the same bytes. No condition. -/
import Derived.Test.YtfklkaaojeiemaaEncA
import Derived.Test.YtfklkaaojeiemaaEncT
import Derived.Test.YtfklkaaojeiemaaGrow
import Derived.ShutString
import Derived.ChangeOld
namespace Go.Proofs.Ytfklkaaojeiemaa.encBack
open Go.ChangeShapes Go.WideShapes Go.ChangeAt Go.RowKit Go.Sort Byt EncM EncC EncE EncT EncA

set_option maxRecDepth 100000 in
set_option maxHeartbeats 2000000 in
theorem out (n : Int) (s : ByteArray) (A : Option Addr) (len cap : Nat) (w : World) (hs : s.size ≤ maxLen) (hm : len ≤ 9223372036854775807) (h : 300 < s.size ∨ (s.size ≤ 300 ∧ 300 < len)) :
    Calls Try.prog 5 #[.int .u64 n, .string s, .slice A len cap] w fun e w' => e = .returned (.bool true) ∧ Below w.heap.size w w' := by
  unfold maxLen at hs
  rcases h with h | ⟨h, h2⟩
  all_goals
    go_enter Try.func5, Try.ntmps5
    go_wp2_with fail
    refine (awake _).mono ?_
    rintro e w1 ⟨rfl, k1⟩
    go_wp2_with fail
    go_ret
    exact ⟨rfl, k1⟩

set_option maxRecDepth 100000 in
set_option maxHeartbeats 8000000 in
theorem within (n : Nat) (s : ByteArray) (A : Option Addr) (len cap : Nat) (bs : List Int) (w : World) (hn : Fits n) (hs : s.size ≤ 300) (hS : Sl w A cap bs) (hl : bs.length = len) (hlen : len ≤ 300) :
    Calls Try.prog 5 #[.int .u64 n, .string s, .slice A len cap] w fun e w' => e = .returned (.bool true) ∧ Below w.heap.size w w' := by
  have c1 := num n hn
  have c2 := text s (by omega)
  have b1 : ∀ x ∈ numL n, B x := numL_range n
  have b2 := textL_B (bytesL_B s)
  have ls : (bytesL s).length ≤ 1099511627776 := by rw [bytesL_length]; omega
  have g1 := getL_num n bs hn.lt
  have g2 := cut_text (bytesL s) bs 300 ls
  rw [bytesL_length, if_pos (by omega)] at g2
  have l1 := numL_ten hn.lt
  have l2 := textL_length _ ls
  rw [bytesL_length] at l2
  have sa := strOf_bytesL s
  have hle := getL_le hS.bytes
  have hbk := fun h => getL_back hS.bytes (N := (getL bs).1) (k := (getL bs).2) rfl h
  have hz := @getL_zero bs
  obtain ⟨X, hX⟩ : ∃ X, numL n = X := ⟨_, rfl⟩
  obtain ⟨T, hT⟩ : ∃ T, textL (bytesL s) = T := ⟨_, rfl⟩
  rw [hX] at c1 b1 g1 l1
  rw [hT] at c2 b2 g2 l2
  have HB1 := aside b1
  have HB2 := aside b2
  have HG1 := aside g1
  have HG2 := aside g2
  have HSa := aside sa
  have HL := aside hl
  have HBk := aside hbk
  have HLe := aside hle
  clear hX hT b1 b2 g1 g2 sa hl hbk hle hz ls
  go_enter Try.func5, Try.ntmps5
  go_wp2_with fail
  refine (awake _).mono ?_
  rintro e w1 ⟨rfl, k1⟩
  go_wp2_with fail
  refine (c1 _).mono ?_
  clear c1
  rintro e w2 ⟨v2, rfl, hown2, h2⟩
  have k2 := k1.trans (h2.mono k1.size)
  obtain ⟨A2, l2', rfl, S2⟩ := Sl.own hown2 HB1.out
  have SB2 := hS.below k2
  have s2 := k2.size
  clear k1 h2 hown2
  go_wp2_with (first
    | (refine wpList_append_sl rfl (.const (.slice none 0 0)) (.tmp 31) 24 rfl w.heap.size 5 Try.underlying24 zero_u8 (.slice none 0 0) 0 [] rfl (World.ownsRow_nil _ _ _ _) A2 X.length l2' X rfl rfl S2 (by omega) s2 ?_; intro v3 w3 hown3 hg3; have k3 : Below w.heap.size w w3 := below_grown k2 s2 hg3 (fun k hk => by cases hk); have s3 := k3.size; have SB3 := hS.below k3; rw [Nat.zero_add, List.nil_append] at hown3; have HO3 := aside hown3; clear hown3 hg3)
    | (refine wpList_append_sl rfl (.tmp 32) (.tmp 33) 24 rfl w.heap.size 5 Try.underlying24 zero_u8 v3 X.length X rfl HO3.out A len cap bs rfl HL.out SB3 (by omega) s3 ?_; intro v4 w4 hown4 hg4; have k4 : Below w.heap.size w w4 := below_grown k3 s3 hg4 (fun k hk => (HO3.out.lt k hk).1); have HO4 := aside hown4; clear hown4 hg4))
  have h4 := HO4.out
  rw [← HL.out, ← List.length_append] at h4
  obtain ⟨A4, c4, rfl, S4⟩ := Sl.own h4 (fun x hx => (List.mem_append.1 hx).elim (HB1.out x) (hS.bytes x))
  have hg := EncG.get S4 rfl
  rw [HG1.out] at hg
  clear h4 HO3 HO4 SB2 SB3 k2 k3 s2 s3 S2 S4
  refine hg.mono ?_
  clear hg
  rintro e w5 ⟨rfl, h5⟩
  have k5 := k4.trans (h5.mono k4.size)
  clear h5 k4
  go_wp2_with fail
  refine (c2 _).mono ?_
  clear c2
  rintro e w6 ⟨v6, rfl, hown6, h6⟩
  have k6 := k5.trans (h6.mono k5.size)
  obtain ⟨A6, l6', rfl, S6⟩ := Sl.own hown6 HB2.out
  have s6 := k6.size
  clear k5 h6 hown6
  go_wp2_with (first
    | (refine wpList_append_sl rfl (.const (.slice none 0 0)) (.tmp 40) 24 rfl w.heap.size 5 Try.underlying24 zero_u8 (.slice none 0 0) 0 [] rfl (World.ownsRow_nil _ _ _ _) A6 T.length l6' T rfl rfl S6 (by omega) s6 ?_; intro v7 w7 hown7 hg7; have k7 : Below w.heap.size w w7 := below_grown k6 s6 hg7 (fun k hk => by cases hk); have s7 := k7.size; have SB7 := hS.below k7; rw [Nat.zero_add, List.nil_append] at hown7; have HO7 := aside hown7; clear hown7 hg7)
    | (refine wpList_append_sl rfl (.tmp 41) (.tmp 42) 24 rfl w.heap.size 5 Try.underlying24 zero_u8 v7 T.length T rfl HO7.out A len cap bs rfl HL.out SB7 (by omega) s7 ?_; intro v8 w8 hown8 hg8; have k8 : Below w.heap.size w w8 := below_grown k7 s7 hg8 (fun k hk => (HO7.out.lt k hk).1); have HO8 := aside hown8; clear hown8 hg8))
  have h8 := HO8.out
  rw [← HL.out, ← List.length_append] at h8
  obtain ⟨A8, c8, rfl, S8⟩ := Sl.own h8 (fun x hx => (List.mem_append.1 hx).elim (HB2.out x) (hS.bytes x))
  have hc := cut 300 S8 rfl (by rw [List.length_append, HL.out]; omega) (by omega)
  unfold CutOut at hc
  rw [HG2.out] at hc
  simp only [HSa.out] at hc
  clear h8 HO7 HO8 SB7 k6 k7 s6 s7 S6 S8
  refine hc.mono ?_
  clear hc
  rintro e w9 ⟨h9, v9, rfl, hown9⟩
  have k9 := k8.trans (h9.mono k8.size)
  obtain ⟨A9, c9, rfl, S9⟩ := Sl.own hown9 hS.bytes
  have SB9 := hS.below k9
  have q1 := S9.conv rfl
  have q2 := SB9.conv HL.out
  clear h9 k8 hown9
  go_wp2_with fail
  clear q1 q2 S9
  have hg := EncG.get SB9 HL.out
  have hle := HLe.out
  have hbk := HBk.out
  obtain ⟨N, hN⟩ : ∃ N, (getL bs).1 = N := ⟨_, rfl⟩
  obtain ⟨K, hK⟩ : ∃ K, (getL bs).2 = K := ⟨_, rfl⟩
  rw [hN, hK] at hg hle hbk
  obtain ⟨g1, g2, g3⟩ := hle
  rw [HL.out] at g3
  have HG := aside g1
  have HBk2 := aside hbk
  clear hN hK g1 hbk
  refine hg.mono ?_
  clear hg
  rintro e w10 ⟨rfl, h10⟩
  have k10 := k9.trans (h10.mono k9.size)
  have SB := hS.below k10
  clear k9 h10 SB9
  have t1 : ¬ len < K := by omega
  by_cases hK : K = 0
  · subst hK
    go_wp2_with fail
    refine Grow.region [(0, true), (1, true), (2, true), (3, true), (6, true), (7, true), (8, true), (9, true), (4, false), (5, true), (10, true), (11, true), (12, true)] (by kernel_rfl) (by kernel_rfl) rfl (by kernel_rfl) (by intro c a d v w h; cases d <;> exact h) ?_
    have kd := below_drew1 k10
    obtain ⟨W1, hW1⟩ : ∃ W, w10.drew = W := ⟨_, rfl⟩
    rw [hW1] at kd ⊢
    clear hW1 k10
    repeat (refine Grow.reads rfl rfl ?_; go_big_quiet_step (fail); refine wpQuiet_nil ?_)
    refine Grow.acts rfl ?_
    go_wp2_with fail
    refine ⟨Below.refl _ _, ?_⟩
    repeat (refine Grow.reads rfl rfl ?_; go_big_quiet_step (fail); refine wpQuiet_nil ?_)
    refine Grow.ends ?_
    go_wp2_with fail
    go_ret
    exact ⟨rfl, kd⟩
  · have t2 : ((K : Int) == 0) = false := by simp; omega
    obtain ⟨_, hb2, _, _, hb5⟩ := HBk2.out hK
    have HE := aside hb5
    clear hK hb5
    go_wp2_with fail
    refine Grow.region [(0, true), (1, true), (2, true), (3, true), (6, true), (7, true), (8, true), (9, true), (4, false), (5, true), (10, true), (11, true), (12, true)] (by kernel_rfl) (by kernel_rfl) rfl (by kernel_rfl) (by intro c a d v w h; cases d <;> exact h) ?_
    have kd := below_drew1 k10
    have SD := SB.drew
    obtain ⟨W1, hW1⟩ : ∃ W, w10.drew = W := ⟨_, rfl⟩
    rw [hW1] at kd SD ⊢
    clear hW1 k10 SB
    obtain ⟨A3, c3, hs3, S3, l3⟩ := SD.part 0 K (by omega) (by have := HL.out; omega)
    have hr3 := fun W => run_part_h W A len cap .i64 K (by have := hS.1; have := HL.out; omega)
    rw [hs3, Nat.sub_zero] at hr3
    rw [Nat.sub_zero, List.drop_zero] at S3 l3
    have q3 := fun d os => (S3.below (below_regrown _ d os)).conv l3
    rw [HE.out] at q3
    clear hs3
    repeat (refine Grow.reads rfl rfl ?_; go_big_quiet_step (fail); refine wpQuiet_nil ?_)
    clear q3 hr3 S3 SD
    refine Grow.acts rfl ?_
    go_wp2_with fail
    refine (num N HG.out _).mono ?_
    rintro e w11 ⟨v11, rfl, hown11, h11⟩
    obtain ⟨A11, c11, rfl, S11⟩ := Sl.own hown11 (numL_range N)
    have k11 := kd.trans (h11.mono kd.size)
    clear hown11
    go_wp2_with fail
    refine ⟨h11, ?_⟩
    clear h11 kd
    have q4 := fun d os => (S11.below (below_regrown _ d os)).conv rfl
    repeat (refine Grow.reads rfl rfl ?_; go_big_quiet_step (fail); refine wpQuiet_nil ?_)
    refine Grow.ends ?_
    go_wp2_with fail
    go_ret
    exact ⟨rfl, k11⟩

theorem walk (a0 : Int) (a1 : ByteArray) (a2 : Option Addr) (len2 cap2 : Nat) (z2 : List Int) (w : World) (w0 : (Lit.int .u64 a0).wf = true) (w1 : a1.size ≤ maxLen) (w2 : RowIn.RowIn .u8 w a2 len2 cap2 z2) :
    Calls Try.prog 5 #[.int .u64 a0, .string a1, .slice a2 len2 cap2] w fun e w' => e = .returned (.bool true) ∧ Below w.heap.size w w' := by
  have h0 : 0 ≤ a0 ∧ a0 ≤ 18446744073709551615 := by simpa [Lit.wf, IntKind.min, IntKind.max, IntKind.bits, IntKind.signed] using w0
  have h2 := w2.1
  have h3 := w2.2.1
  unfold maxLen at h3
  obtain ⟨hS, hl⟩ := Sl.of_row w2
  by_cases h : 300 < a1.size ∨ (a1.size ≤ 300 ∧ 300 < len2)
  · exact out a0 a1 a2 len2 cap2 w w1 (by omega) h
  · obtain ⟨n, rfl⟩ : ∃ n : Nat, a0 = n := ⟨a0.toNat, by omega⟩
    exact within n a1 a2 len2 cap2 _ w (by unfold Fits; omega) (by omega) hS hl (by omega)

theorem own : ownKnob Try.prog.godebug = none := by kernel_rfl
theorem laidOut : laidOutB Try.prog = true := by kernel_rfl
set_option linter.unusedVariables false in
set_option maxRecDepth 100000 in
theorem lifted (os : Os) (started : os.Started) (H : Type) (enc : TypeId × Value → H) :
    ReturnsInHanded {} Try.checked os 5 .any (Rows.encBackSpec.pre6 enc Try.prog Try.f5 Rows.encBackRow.domain false) (Rows.encBackSpec.post enc Try.prog Try.f5 false true false false) := by
  refine returnsInHanded_of_change (C := Try.checked) own started (by kernel_rfl) Try.func5
    (ChangeSpec.witness6 (enc := enc) (C := Try.checked) false ⟨#[], #[.int .u64 0, .string ByteArray.empty, .slice none 0 0], []⟩ 8 (by kernel_rfl) (by kernel_rfl) (by kernel_rfl) (by kernel_rfl)) ?_
  intro W base args ds gs before hval0 hW hcnd _
  have hval : ∀ (j : Nat) t v, Try.f5.params[j]? = some t → args[j]? = some v → Value.okWide Try.prog W .any base t v := hval0
  have hW' := hW
  obtain ⟨p, q, hA0, hV, rfl, hfz, hnd⟩ := hW
  have hA : DataW.TrodAll enc Try.prog W 0 (fun _ => true) true Try.f5.params.toList args.toList ds p := hA0
  rw [Try.params5] at hA hval
  obtain ⟨v0, vs0, d0, ds0, p0, q0, hargs, rfl, rfl, h0, r0⟩ := trodAll_cons hA
  obtain ⟨v1, vs1, d1, ds1, p1, q1, rfl, rfl, rfl, h1, r1⟩ := trodAll_cons r0
  obtain ⟨v2, vs2, d2, ds2, p2, q2, rfl, rfl, rfl, h2, r2⟩ := trodAll_cons r1
  obtain ⟨rfl, rfl, rfl⟩ := trodAll_nil r2
  obtain rfl : args = #[v0, v1, v2] := by cases args; simp_all
  obtain ⟨rfl, rfl⟩ := trodVars_none hV
  obtain ⟨a0, rfl, rfl, rfl, w0⟩ := open_int Try.underlying22 (hval 0 22 v0 rfl rfl) h0
  obtain ⟨a1, rfl, rfl, rfl, w1⟩ := Go.ChangeMaps.open_string Try.underlying9 (hval 1 9 v1 rfl rfl) h1
  have k2 := h2
  have lt2 : ∀ x ∈ p2, x.block < W.heap.size := by obtain ⟨m, hm⟩ := k2; exact DataW.trod_lt m _ _ _ hm
  obtain ⟨a2, len2, cap2, z2, rfl, w2⟩ := RowIn.open_row Try.underlying24 Try.underlying5 (by kernel_rfl) (hval 2 24 v2 rfl rfl) h2
  clear hA0 hval0
  refine (walk a0 a1 a2 len2 cap2 z2 W w0 w1 w2).mono fun e W' ⟨he, bel⟩ => ?_
  subst he
  exact ⟨_, rfl, _, _, _, [], _, [], hW', trodAll_mk1 (shut_bool Try.underlying4 _), (trodAll_cons_mk (shut_int Try.underlying22 w0) (trodAll_cons_mk (Go.ChangeMaps.shut_string Try.underlying9 w1) (trodAll_cons_mk (Below.trod laidOut (by kernel_rfl) (of_decide_eq_true (by kernel_rfl)) k2 bel lt2) trodAll_mk0))), rfl, bel.frame _, fun h => by cases h⟩

theorem over : Rows.encBackRow.holds Try.pinned (OpenSpec.ofChange Rows.encBackSpec) :=
  OpenClaim.holds_of_wide 5 Try.f5 rfl rfl rfl rfl rfl rfl rfl ⟨rfl, rfl, rfl, rfl, rfl⟩ rfl rfl rfl rfl rfl (by kernel_rfl) Try.func5 (by kernel_rfl)
    (of_decide_eq_true (by kernel_rfl)) (by unfold Func.isWrapper; first | (rw [if_pos (by decide +kernel)]; kernel_rfl) | (rw [if_neg (by decide +kernel)]; exact ⟨rfl, rfl⟩))
    (fun os started H enc _ => lifted os started H enc)

theorem proved : Rows.EncBackSaid := over
end Go.Proofs.Ytfklkaaojeiemaa.encBack
