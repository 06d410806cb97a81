/- OpsTells returns true for every input: any operation may be, or not, and is in bytes, or has the error, that the document says. No condition. -/
import Derived.Test.YtkjhjaeglgoepaaOpsA
import Derived.Test.YtkjhjaeglgoepaaOpsS
import Derived.Test.YtkjhjaeglgoepaaOpsT
import Derived.Test.YtkjhjaeglgoepaaOpenO
import Derived.ShutString
import Derived.ChangeOld
namespace Go.Proofs.Ytkjhjaeglgoepaa.opsTells
open Go Go.ChangeShapes Go.WideShapes Go.ChangeAt Go.RowKit Go.Sort Byt OpsM OpsK OpsW OpsC OpsP OpsH OpsE OpsA

set_option maxRecDepth 100000 in
set_option maxHeartbeats 8000000 in
theorem out (o : Opn) (s : ByteArray) (w : World) (hf : Fit o) (hs : s.size ≤ maxLen) (h : shortB o = false ∨ (shortB o = true ∧ 100 < s.size)) :
    Calls Try.prog 3 #[.agg (opc o), .string s] w fun e w' => e = .returned (.bool true) ∧ Below w.heap.size w w' := by
  unfold maxLen at hs
  have cs := fun W => short o W hf
  rcases h with h | ⟨h, h2⟩
  all_goals
    rw [h] at cs
    clear h
    go_enter Try.func3, Try.ntmps3
    go_wp2_with fail
    refine (awake _).mono ?_
    rintro e w1 ⟨rfl, h1⟩
    have k1 : Below w.heap.size w w1 := (below_alloc w _).trans (h1.mono (by simp))
    have O1 := (OpAt.new w o 23).below h1
    clear h1
    go_wp2_with (refine wpList_load_op rfl _ rfl _ rfl o O1 ?_)
    refine (cs _).mono ?_
    clear cs
    rintro e w2 ⟨rfl, h2⟩
    have k2 := k1.trans (h2.mono k1.size)
    have O2 := O1.below h2
    clear k1 O1 h2
    go_wp2_with fail
    go_ret
    exact ⟨rfl, k2⟩

set_option maxRecDepth 100000 in
set_option maxHeartbeats 8000000 in
theorem yes (o : Opn) (s : ByteArray) (w : World) (hf : Fit o) (hsh : shortB o = true) (hs : s.size ≤ 100) (hm : mayO o = true) :
    Calls Try.prog 3 #[.agg (opc o), .string s] w fun e w' => e = .returned (.bool true) ∧ Below w.heap.size w w' := by
  have cs := fun W => short o W hf
  rw [hsh] at cs
  obtain ⟨z1, z2⟩ : o.key.size ≤ 1099511627776 ∧ o.elem.size ≤ 1099511627776 := by
    unfold shortB at hsh
    simp only [Bool.and_eq_true, decide_eq_true_eq] at hsh
    omega
  have c1 := fun W => OpsP.put_yes o W hf hm
  have c2 := fun W => OpsS.put_yes o W hf z1 z2 hm
  have c3 := fun W => OpsR.may o W hf z1 z2
  have c4 := OpsR.key s (by omega)
  have c5 := fun W => may o W hf
  have c6 := key s (by unfold maxLen; omega)
  obtain ⟨ks, hks⟩ : ∃ b, keyL (bytesL s) = b := ⟨_, rfl⟩
  rw [hks] at c4 c6
  rw [hm] at c3 c5
  unfold PutYes at c1 c2
  clear hks hsh hm z1 z2
  go_enter Try.func3, Try.ntmps3
  go_wp2_with fail
  refine (awake _).mono ?_
  rintro e w1 ⟨rfl, h1⟩
  have k1 : Below w.heap.size w w1 := (below_alloc w _).trans (h1.mono (by simp))
  have O1 := (OpAt.new w o 23).below h1
  clear h1
  go_wp2_with (refine wpList_load_op rfl _ rfl _ rfl o O1 ?_)
  refine (cs _).mono ?_
  clear cs
  rintro e w2 ⟨rfl, h2⟩
  have k2 := k1.trans (h2.mono k1.size)
  have O2 := O1.below h2
  clear k1 O1 h2
  have hB := putL_B o
  have HB := aside hB
  clear hB
  go_wp2_with (refine wpList_load_op rfl _ rfl _ rfl o O2 ?_)
  refine (c1 _).mono ?_
  clear c1
  rintro e w3 ⟨v3, rfl, own3, h3⟩
  obtain ⟨A3, l3, rfl, S3⟩ := Sl.own own3 HB.out
  have k3 := k2.trans (h3.mono k2.size)
  have O3 := O2.below h3
  clear k2 O2 h3 own3
  go_wp2_with (refine wpList_load_op rfl _ rfl _ rfl o O3 ?_)
  refine (c2 _).mono ?_
  clear c2
  rintro e w4 ⟨v4, rfl, own4, h4⟩
  obtain ⟨A4, l4, rfl, S4⟩ := Sl.own own4 HB.out
  have k4 := k3.trans (h4.mono k3.size)
  have O4 := O3.below h4
  have T4 := S3.below h4
  clear k3 O3 h4 own4 S3
  go_wp2_with (refine wpList_load_op rfl _ rfl _ rfl o O4 ?_)
  refine (c3 _).mono ?_
  clear c3
  rintro e w5 ⟨rfl, h5⟩
  have k5 := k4.trans (h5.mono k4.size)
  have O5 := O4.below h5
  have q1 := (T4.below h5).conv rfl
  have q2 := (S4.below h5).conv rfl
  have r0 := O5.kind
  have r1 := O5.key
  have r2 := O5.elem
  have r3 := O5.n
  clear k4 O4 h5 T4 S4
  go_wp2_with fail
  refine (c4 _).mono ?_
  rintro e w' ⟨rfl, rfl⟩
  go_wp2_with fail
  refine (c5 _).mono ?_
  rintro e w6 ⟨rfl, h6⟩
  have k6 := k5.trans (h6.mono k5.size)
  clear q1 q2 r0 r1 r2 r3 h6
  go_wp2_with fail
  refine (c6 _).mono ?_
  rintro e w' ⟨rfl, rfl⟩
  go_wp2_with fail
  go_ret
  exact ⟨by simp, k6⟩

set_option maxRecDepth 100000 in
set_option maxHeartbeats 8000000 in
theorem no (o : Opn) (s : ByteArray) (w : World) (hf : Fit o) (hsh : shortB o = true) (hs : s.size ≤ 100) (hm : mayO o = false) :
    Calls Try.prog 3 #[.agg (opc o), .string s] w fun e w' => e = .returned (.bool true) ∧ Below w.heap.size w w' := by
  have cs := fun W => short o W hf
  rw [hsh] at cs
  obtain ⟨z1, z2⟩ : o.key.size ≤ 1099511627776 ∧ o.elem.size ≤ 1099511627776 := by
    unfold shortB at hsh
    simp only [Bool.and_eq_true, decide_eq_true_eq] at hsh
    omega
  have c1 := fun W => OpsP.put_no o W hf hm
  have c2 := fun W => OpsS.put_no o W hf z1 z2 hm
  have c3 := fun W => OpsR.may o W hf z1 z2
  have c4 := OpsR.key s (by omega)
  have c5 := fun W => may o W hf
  have c6 := key s (by unfold maxLen; omega)
  obtain ⟨ks, hks⟩ : ∃ b, keyL (bytesL s) = b := ⟨_, rfl⟩
  rw [hks] at c4 c6
  rw [hm] at c3 c5
  unfold PutNo at c1 c2
  clear hks hsh hm z1 z2
  go_enter Try.func3, Try.ntmps3
  go_wp2_with fail
  refine (awake _).mono ?_
  rintro e w1 ⟨rfl, h1⟩
  have k1 : Below w.heap.size w w1 := (below_alloc w _).trans (h1.mono (by simp))
  have O1 := (OpAt.new w o 23).below h1
  clear h1
  go_wp2_with (refine wpList_load_op rfl _ rfl _ rfl o O1 ?_)
  refine (cs _).mono ?_
  clear cs
  rintro e w2 ⟨rfl, h2⟩
  have k2 := k1.trans (h2.mono k1.size)
  have O2 := O1.below h2
  clear k1 O1 h2
  go_wp2_with (refine wpList_load_op rfl _ rfl _ rfl o O2 ?_)
  refine (c1 _).mono ?_
  clear c1
  rintro e w3 ⟨rfl, h3⟩
  have k3 := k2.trans (h3.mono k2.size)
  have O3 := O2.below h3
  clear k2 O2 h3
  go_wp2_with (refine wpList_load_op rfl _ rfl _ rfl o O3 ?_)
  refine (c2 _).mono ?_
  clear c2
  rintro e w4 ⟨rfl, h4⟩
  have k4 := k3.trans (h4.mono k3.size)
  have O4 := O3.below h4
  clear k3 O3 h4
  go_wp2_with (refine wpList_load_op rfl _ rfl _ rfl o O4 ?_)
  refine (c3 _).mono ?_
  clear c3
  rintro e w5 ⟨rfl, h5⟩
  have k5 := k4.trans (h5.mono k4.size)
  have O5 := O4.below h5
  have q1 := (Sl.nil w5).conv (len := 0) rfl
  have r0 := O5.kind
  have r1 := O5.key
  have r2 := O5.elem
  have r3 := O5.n
  clear k4 O4 h5
  go_wp2_with fail
  refine (c4 _).mono ?_
  rintro e w' ⟨rfl, rfl⟩
  go_wp2_with fail
  refine (c5 _).mono ?_
  rintro e w6 ⟨rfl, h6⟩
  have k6 := k5.trans (h6.mono k5.size)
  clear q1 r0 r1 r2 r3 h6
  go_wp2_with fail
  refine (c6 _).mono ?_
  rintro e w' ⟨rfl, rfl⟩
  go_wp2_with fail
  go_ret
  exact ⟨by simp, k6⟩

theorem walk (a0 : Opn) (a1 : ByteArray) (w : World) (w0 : Fit a0) (w1 : a1.size ≤ maxLen) :
    Calls Try.prog 3 #[.agg (opc a0), .string a1] w fun e w' => e = .returned (.bool true) ∧ Below w.heap.size w w' := by
  cases hsh : shortB a0 with
  | false => exact out a0 a1 w w0 w1 (.inl hsh)
  | true =>
    by_cases h : 100 < a1.size
    · exact out a0 a1 w w0 w1 (.inr ⟨hsh, h⟩)
    · cases hm : mayO a0 with
      | true => exact yes a0 a1 w w0 hsh (by omega) hm
      | false => exact no a0 a1 w w0 hsh (by omega) hm

theorem own : ownKnob Try.prog.godebug = none := by kernel_rfl
theorem laidOut : laidOutB Try.prog = true := by kernel_rfl
set_option linter.unusedVariables false in
set_option maxRecDepth 100000 in
theorem lifted (os : Os) (started : os.Started) (H : Type) (enc : TypeId × Value → H) :
    ReturnsInHanded {} Try.checked os 3 .any (Rows.opsTellsSpec.pre6 enc Try.prog Try.f3 Rows.opsTellsRow.domain false) (Rows.opsTellsSpec.post enc Try.prog Try.f3 false true false false) := by
  refine returnsInHanded_of_change (C := Try.checked) own started (by kernel_rfl) Try.func3
    (ChangeSpec.witness6 (enc := enc) (C := Try.checked) false ⟨#[], #[.agg #[.int .i64 0, .string ByteArray.empty, .string ByteArray.empty, .int .i64 0], .string ByteArray.empty], []⟩ 8 (by kernel_rfl) (by kernel_rfl) (by kernel_rfl) (by kernel_rfl)) ?_
  intro W base args ds gs before hval0 hW hcnd _
  have hval : ∀ (j : Nat) t v, Try.f3.params[j]? = some t → args[j]? = some v → Value.okWide Try.prog W .any base t v := hval0
  have hW' := hW
  obtain ⟨p, q, hA0, hV, rfl, hfz, hnd⟩ := hW
  have hA : DataW.TrodAll enc Try.prog W 0 (fun _ => true) true Try.f3.params.toList args.toList ds p := hA0
  rw [Try.params3] at hA hval
  obtain ⟨v0, vs0, d0, ds0, p0, q0, hargs, rfl, rfl, h0, r0⟩ := trodAll_cons hA
  obtain ⟨v1, vs1, d1, ds1, p1, q1, rfl, rfl, rfl, h1, r1⟩ := trodAll_cons r0
  obtain ⟨rfl, rfl, rfl⟩ := trodAll_nil r1
  obtain rfl : args = #[v0, v1] := by cases args; simp_all
  obtain ⟨rfl, rfl⟩ := trodVars_none hV
  have k0 := h0
  have lt0 : ∀ x ∈ p0, x.block < W.heap.size := by obtain ⟨m, hm⟩ := k0; exact DataW.trod_lt m _ _ _ hm
  obtain ⟨a0, rfl, w0⟩ := OpenO.open_op Try.underlying23 (by kernel_rfl) (by kernel_rfl) Try.underlying3 Try.underlying9 Try.underlying9 Try.underlying3 (hval 0 23 v0 rfl rfl) h0
  obtain ⟨a1, rfl, rfl, rfl, w1⟩ := Go.ChangeMaps.open_string Try.underlying9 (hval 1 9 v1 rfl rfl) h1
  clear hA0 hval0
  refine (walk a0 a1 W w0 w1).mono fun e W' ⟨he, bel⟩ => ?_
  subst he
  exact ⟨_, rfl, _, _, _, [], _, [], hW', trodAll_mk1 (shut_bool Try.underlying4 _), (trodAll_cons_mk (Below.trod laidOut (by kernel_rfl) (of_decide_eq_true (by kernel_rfl)) k0 bel lt0) (trodAll_cons_mk (Go.ChangeMaps.shut_string Try.underlying9 w1) trodAll_mk0)), rfl, bel.frame _, fun h => by cases h⟩

theorem over : Rows.opsTellsRow.holds Try.pinned (OpenSpec.ofChange Rows.opsTellsSpec) :=
  OpenClaim.holds_of_wide 3 Try.f3 rfl rfl rfl rfl rfl rfl rfl ⟨rfl, rfl, rfl, rfl, rfl⟩ rfl rfl rfl rfl rfl (by kernel_rfl) Try.func3 (by kernel_rfl)
    (of_decide_eq_true (by kernel_rfl)) (by unfold Func.isWrapper; first | (rw [if_pos (by decide +kernel)]; kernel_rfl) | (rw [if_neg (by decide +kernel)]; exact ⟨rfl, rfl⟩))
    (fun os started H enc _ => lifted os started H enc)

theorem proved : Rows.OpsTellsSaid := over
end Go.Proofs.Ytkjhjaeglgoepaa.opsTells
