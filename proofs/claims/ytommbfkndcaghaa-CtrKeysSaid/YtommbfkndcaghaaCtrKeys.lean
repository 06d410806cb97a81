/- CtrKeys returns true for every input: what is merged has a key only if one of the three has it, and just if what both have, less what the base has, is not nothing. No condition. -/
import Derived.Test.YtommbfkndcaghaaCtrA
import Derived.ShutString
import Derived.ChangeOld
namespace Go.Proofs.Ytommbfkndcaghaa.ctrKeys
open Go Go.ChangeShapes Go.WideShapes Go.ChangeAt Go.RowKit Byt OpsM Rise CtrM RowS CtrW CtrS CtrL CtrX CtrA

theorem any_take (l : List Cn) (p : Cn → Bool) (k : Nat) (x : Cn) (h : l[k]? = some x) : (l.take (k + 1)).any p = ((l.take k).any p || p x) := by
  obtain ⟨hk, rfl⟩ := List.getElem?_eq_some_iff.1 h
  rw [List.take_succ_eq_append_getElem hk, List.any_append]
  simp
theorem any_key {l : List Cn} (h : mayC l = true) (k : ByteArray) : (l.any fun c => decide (c.key = k)) = (getC l k != 0) := by
  rw [Bool.eq_iff_iff, List.any_eq_true, bne_iff_ne, ← key_iff h k]
  simp only [decide_eq_true_eq]

set_option maxRecDepth 100000 in
set_option maxHeartbeats 8000000 in
theorem out (a0 : Option Addr) (cap0 : Nat) (l0 : List Cn) (a1 : Option Addr) (cap1 : Nat) (l1 : List Cn) (a2 : Option Addr) (cap2 : Nat) (l2 : List Cn) (a3 : ByteArray) (w : World) (w0 : SlR E w a0 cap0 l0) (g0 : ∀ x ∈ l0, OpenC.Good x) (w1 : SlR E w a1 cap1 l1) (g1 : ∀ x ∈ l1, OpenC.Good x) (w2 : SlR E w a2 cap2 l2) (g2 : ∀ x ∈ l2, OpenC.Good x) (b0 b1 b2 : Bool) (x0 : fewB l0 = b0) (x1 : fewB l1 = b1) (x2 : fewB l2 = b2) (h : (b0 = false) ∨ (b0 = true ∧ b1 = false) ∨ (b0 = true ∧ b1 = true ∧ b2 = false)) :
    Calls Try.prog 8 #[.slice a0 l0.length cap0, .slice a1 l1.length cap1, .slice a2 l2.length cap2, .string a3] w fun e w' => e = .returned (.bool true) ∧ Below w.heap.size w w' := by
  rcases h with rfl | ⟨rfl, rfl⟩ | ⟨rfl, rfl, rfl⟩
  all_goals
    go_enter Try.func8, Try.ntmps8
    go_wp2_with fail
    refine (awake _).mono ?_
    rintro e W1 ⟨rfl, k1⟩
    have w0' := w0.below k1
    have w1' := w1.below k1
    have w2' := w2.below k1
    have kb := k1
    clear w0 w1 w2 k1
    have w0 := w0'
    have w1 := w1'
    have w2 := w2'
    clear w0' w1' w2'
    go_wp2_with fail
    have hc := few_ret a0 cap0 l0 _ w0 (max_of g0)
    rw [x0] at hc
    refine hc.mono ?_
    clear hc
    rintro e w' ⟨rfl, rfl⟩
    go_wp2_with fail
    have hc := few_ret a1 cap1 l1 _ w1 (max_of g1)
    rw [x1] at hc
    refine hc.mono ?_
    clear hc
    rintro e w' ⟨rfl, rfl⟩
    go_wp2_with fail
    have hc := few_ret a2 cap2 l2 _ w2 (max_of g2)
    rw [x2] at hc
    refine hc.mono ?_
    clear hc
    rintro e w' ⟨rfl, rfl⟩
    go_wp2_with fail
    go_ret
    exact ⟨by first | rfl | simp, kb⟩

set_option maxRecDepth 100000 in
set_option maxHeartbeats 8000000 in
theorem outm0 (a0 : Option Addr) (cap0 : Nat) (l0 : List Cn) (a1 : Option Addr) (cap1 : Nat) (l1 : List Cn) (a2 : Option Addr) (cap2 : Nat) (l2 : List Cn) (a3 : ByteArray) (w : World) (w0 : SlR E w a0 cap0 l0) (g0 : ∀ x ∈ l0, OpenC.Good x) (w1 : SlR E w a1 cap1 l1) (g1 : ∀ x ∈ l1, OpenC.Good x) (w2 : SlR E w a2 cap2 l2) (g2 : ∀ x ∈ l2, OpenC.Good x) (x0 : fewB l0 = true) (x1 : fewB l1 = true) (x2 : fewB l2 = true) (m0 : mayC l0 = false) :
    Calls Try.prog 8 #[.slice a0 l0.length cap0, .slice a1 l1.length cap1, .slice a2 l2.length cap2, .string a3] w fun e w' => e = .returned (.bool true) ∧ Below w.heap.size w w' := by
  have y0 := few_len x0
  have f0 := few_fits x0 (inl_of g0)
  have X0 := aside x0
  have y1 := few_len x1
  have f1 := few_fits x1 (inl_of g1)
  have X1 := aside x1
  have y2 := few_len x2
  have f2 := few_fits x2 (inl_of g2)
  have X2 := aside x2
  have M0 := aside m0
  clear x0 x1 x2 m0
  go_enter Try.func8, Try.ntmps8
  go_wp2_with fail
  refine (awake _).mono ?_
  rintro e W1 ⟨rfl, k1⟩
  have w0' := w0.below k1
  have w1' := w1.below k1
  have w2' := w2.below k1
  have kb := k1
  clear w0 w1 w2 k1
  have w0 := w0'
  have w1 := w1'
  have w2 := w2'
  clear w0' w1' w2'
  go_wp2_with fail
  have hc := few_ret a0 cap0 l0 _ w0 (max_of g0)
  rw [X0.out] at hc
  refine hc.mono ?_
  clear hc
  rintro e w' ⟨rfl, rfl⟩
  go_wp2_with fail
  have hc := few_ret a1 cap1 l1 _ w1 (max_of g1)
  rw [X1.out] at hc
  refine hc.mono ?_
  clear hc
  rintro e w' ⟨rfl, rfl⟩
  go_wp2_with fail
  have hc := few_ret a2 cap2 l2 _ w2 (max_of g2)
  rw [X2.out] at hc
  refine hc.mono ?_
  clear hc
  rintro e w' ⟨rfl, rfl⟩
  go_wp2_with fail
  have hc := CtrD.may_ret a0 cap0 l0 _ w0 f0 (by omega)
  rw [M0.out] at hc
  refine hc.mono ?_
  clear hc
  rintro e W2 ⟨rfl, k2⟩
  have w0' := w0.below k2
  have w1' := w1.below k2
  have w2' := w2.below k2
  have kb' := kb.trans (k2.mono kb.size)
  clear w0 w1 w2 kb k2
  have w0 := w0'
  have w1 := w1'
  have w2 := w2'
  have kb := kb'
  clear w0' w1' w2' kb'
  go_wp2_with fail
  go_ret
  exact ⟨by first | rfl | simp, kb⟩

set_option maxRecDepth 100000 in
set_option maxHeartbeats 8000000 in
theorem outm1 (a0 : Option Addr) (cap0 : Nat) (l0 : List Cn) (a1 : Option Addr) (cap1 : Nat) (l1 : List Cn) (a2 : Option Addr) (cap2 : Nat) (l2 : List Cn) (a3 : ByteArray) (w : World) (w0 : SlR E w a0 cap0 l0) (g0 : ∀ x ∈ l0, OpenC.Good x) (w1 : SlR E w a1 cap1 l1) (g1 : ∀ x ∈ l1, OpenC.Good x) (w2 : SlR E w a2 cap2 l2) (g2 : ∀ x ∈ l2, OpenC.Good x) (x0 : fewB l0 = true) (x1 : fewB l1 = true) (x2 : fewB l2 = true) (m0 : mayC l0 = true) (m1 : mayC l1 = false) :
    Calls Try.prog 8 #[.slice a0 l0.length cap0, .slice a1 l1.length cap1, .slice a2 l2.length cap2, .string a3] w fun e w' => e = .returned (.bool true) ∧ Below w.heap.size w w' := by
  have y0 := few_len x0
  have f0 := few_fits x0 (inl_of g0)
  have X0 := aside x0
  have y1 := few_len x1
  have f1 := few_fits x1 (inl_of g1)
  have X1 := aside x1
  have y2 := few_len x2
  have f2 := few_fits x2 (inl_of g2)
  have X2 := aside x2
  have M0 := aside m0
  have M1 := aside m1
  clear x0 x1 x2 m0 m1
  go_enter Try.func8, Try.ntmps8
  go_wp2_with fail
  refine (awake _).mono ?_
  rintro e W1 ⟨rfl, k1⟩
  have w0' := w0.below k1
  have w1' := w1.below k1
  have w2' := w2.below k1
  have kb := k1
  clear w0 w1 w2 k1
  have w0 := w0'
  have w1 := w1'
  have w2 := w2'
  clear w0' w1' w2'
  go_wp2_with fail
  have hc := few_ret a0 cap0 l0 _ w0 (max_of g0)
  rw [X0.out] at hc
  refine hc.mono ?_
  clear hc
  rintro e w' ⟨rfl, rfl⟩
  go_wp2_with fail
  have hc := few_ret a1 cap1 l1 _ w1 (max_of g1)
  rw [X1.out] at hc
  refine hc.mono ?_
  clear hc
  rintro e w' ⟨rfl, rfl⟩
  go_wp2_with fail
  have hc := few_ret a2 cap2 l2 _ w2 (max_of g2)
  rw [X2.out] at hc
  refine hc.mono ?_
  clear hc
  rintro e w' ⟨rfl, rfl⟩
  go_wp2_with fail
  have hc := CtrD.may_ret a0 cap0 l0 _ w0 f0 (by omega)
  rw [M0.out] at hc
  refine hc.mono ?_
  clear hc
  rintro e W2 ⟨rfl, k2⟩
  have w0' := w0.below k2
  have w1' := w1.below k2
  have w2' := w2.below k2
  have kb' := kb.trans (k2.mono kb.size)
  clear w0 w1 w2 kb k2
  have w0 := w0'
  have w1 := w1'
  have w2 := w2'
  have kb := kb'
  clear w0' w1' w2' kb'
  go_wp2_with fail
  have hc := CtrD.may_ret a1 cap1 l1 _ w1 f1 (by omega)
  rw [M1.out] at hc
  refine hc.mono ?_
  clear hc
  rintro e W3 ⟨rfl, k3⟩
  have w0' := w0.below k3
  have w1' := w1.below k3
  have w2' := w2.below k3
  have kb' := kb.trans (k3.mono kb.size)
  clear w0 w1 w2 kb k3
  have w0 := w0'
  have w1 := w1'
  have w2 := w2'
  have kb := kb'
  clear w0' w1' w2' kb'
  go_wp2_with fail
  go_ret
  exact ⟨by first | rfl | simp, kb⟩

set_option maxRecDepth 100000 in
set_option maxHeartbeats 8000000 in
theorem outm2 (a0 : Option Addr) (cap0 : Nat) (l0 : List Cn) (a1 : Option Addr) (cap1 : Nat) (l1 : List Cn) (a2 : Option Addr) (cap2 : Nat) (l2 : List Cn) (a3 : ByteArray) (w : World) (w0 : SlR E w a0 cap0 l0) (g0 : ∀ x ∈ l0, OpenC.Good x) (w1 : SlR E w a1 cap1 l1) (g1 : ∀ x ∈ l1, OpenC.Good x) (w2 : SlR E w a2 cap2 l2) (g2 : ∀ x ∈ l2, OpenC.Good x) (x0 : fewB l0 = true) (x1 : fewB l1 = true) (x2 : fewB l2 = true) (m0 : mayC l0 = true) (m1 : mayC l1 = true) (m2 : mayC l2 = false) :
    Calls Try.prog 8 #[.slice a0 l0.length cap0, .slice a1 l1.length cap1, .slice a2 l2.length cap2, .string a3] w fun e w' => e = .returned (.bool true) ∧ Below w.heap.size w w' := by
  have y0 := few_len x0
  have f0 := few_fits x0 (inl_of g0)
  have X0 := aside x0
  have y1 := few_len x1
  have f1 := few_fits x1 (inl_of g1)
  have X1 := aside x1
  have y2 := few_len x2
  have f2 := few_fits x2 (inl_of g2)
  have X2 := aside x2
  have M0 := aside m0
  have M1 := aside m1
  have M2 := aside m2
  clear x0 x1 x2 m0 m1 m2
  go_enter Try.func8, Try.ntmps8
  go_wp2_with fail
  refine (awake _).mono ?_
  rintro e W1 ⟨rfl, k1⟩
  have w0' := w0.below k1
  have w1' := w1.below k1
  have w2' := w2.below k1
  have kb := k1
  clear w0 w1 w2 k1
  have w0 := w0'
  have w1 := w1'
  have w2 := w2'
  clear w0' w1' w2'
  go_wp2_with fail
  have hc := few_ret a0 cap0 l0 _ w0 (max_of g0)
  rw [X0.out] at hc
  refine hc.mono ?_
  clear hc
  rintro e w' ⟨rfl, rfl⟩
  go_wp2_with fail
  have hc := few_ret a1 cap1 l1 _ w1 (max_of g1)
  rw [X1.out] at hc
  refine hc.mono ?_
  clear hc
  rintro e w' ⟨rfl, rfl⟩
  go_wp2_with fail
  have hc := few_ret a2 cap2 l2 _ w2 (max_of g2)
  rw [X2.out] at hc
  refine hc.mono ?_
  clear hc
  rintro e w' ⟨rfl, rfl⟩
  go_wp2_with fail
  have hc := CtrD.may_ret a0 cap0 l0 _ w0 f0 (by omega)
  rw [M0.out] at hc
  refine hc.mono ?_
  clear hc
  rintro e W2 ⟨rfl, k2⟩
  have w0' := w0.below k2
  have w1' := w1.below k2
  have w2' := w2.below k2
  have kb' := kb.trans (k2.mono kb.size)
  clear w0 w1 w2 kb k2
  have w0 := w0'
  have w1 := w1'
  have w2 := w2'
  have kb := kb'
  clear w0' w1' w2' kb'
  go_wp2_with fail
  have hc := CtrD.may_ret a1 cap1 l1 _ w1 f1 (by omega)
  rw [M1.out] at hc
  refine hc.mono ?_
  clear hc
  rintro e W3 ⟨rfl, k3⟩
  have w0' := w0.below k3
  have w1' := w1.below k3
  have w2' := w2.below k3
  have kb' := kb.trans (k3.mono kb.size)
  clear w0 w1 w2 kb k3
  have w0 := w0'
  have w1 := w1'
  have w2 := w2'
  have kb := kb'
  clear w0' w1' w2' kb'
  go_wp2_with fail
  have hc := CtrD.may_ret a2 cap2 l2 _ w2 f2 (by omega)
  rw [M2.out] at hc
  refine hc.mono ?_
  clear hc
  rintro e W4 ⟨rfl, k4⟩
  have w0' := w0.below k4
  have w1' := w1.below k4
  have w2' := w2.below k4
  have kb' := kb.trans (k4.mono kb.size)
  clear w0 w1 w2 kb k4
  have w0 := w0'
  have w1 := w1'
  have w2 := w2'
  have kb := kb'
  clear w0' w1' w2' kb'
  go_wp2_with fail
  go_ret
  exact ⟨by first | rfl | simp, kb⟩

set_option maxRecDepth 100000 in
set_option maxHeartbeats 8000000 in
theorem outm3 (a0 : Option Addr) (cap0 : Nat) (l0 : List Cn) (a1 : Option Addr) (cap1 : Nat) (l1 : List Cn) (a2 : Option Addr) (cap2 : Nat) (l2 : List Cn) (a3 : ByteArray) (w : World) (w0 : SlR E w a0 cap0 l0) (g0 : ∀ x ∈ l0, OpenC.Good x) (w1 : SlR E w a1 cap1 l1) (g1 : ∀ x ∈ l1, OpenC.Good x) (w2 : SlR E w a2 cap2 l2) (g2 : ∀ x ∈ l2, OpenC.Good x) (x0 : fewB l0 = true) (x1 : fewB l1 = true) (x2 : fewB l2 = true) (m0 : mayC l0 = true) (m1 : mayC l1 = true) (m2 : mayC l2 = true) (hk : a3.size ≤ maxLen) (hk2 : 100 < a3.size) :
    Calls Try.prog 8 #[.slice a0 l0.length cap0, .slice a1 l1.length cap1, .slice a2 l2.length cap2, .string a3] w fun e w' => e = .returned (.bool true) ∧ Below w.heap.size w w' := by
  unfold maxLen at hk
  have y0 := few_len x0
  have f0 := few_fits x0 (inl_of g0)
  have X0 := aside x0
  have y1 := few_len x1
  have f1 := few_fits x1 (inl_of g1)
  have X1 := aside x1
  have y2 := few_len x2
  have f2 := few_fits x2 (inl_of g2)
  have X2 := aside x2
  have M0 := aside m0
  have M1 := aside m1
  have M2 := aside m2
  clear x0 x1 x2 m0 m1 m2
  go_enter Try.func8, Try.ntmps8
  go_wp2_with fail
  refine (awake _).mono ?_
  rintro e W1 ⟨rfl, k1⟩
  have w0' := w0.below k1
  have w1' := w1.below k1
  have w2' := w2.below k1
  have kb := k1
  clear w0 w1 w2 k1
  have w0 := w0'
  have w1 := w1'
  have w2 := w2'
  clear w0' w1' w2'
  go_wp2_with fail
  have hc := few_ret a0 cap0 l0 _ w0 (max_of g0)
  rw [X0.out] at hc
  refine hc.mono ?_
  clear hc
  rintro e w' ⟨rfl, rfl⟩
  go_wp2_with fail
  have hc := few_ret a1 cap1 l1 _ w1 (max_of g1)
  rw [X1.out] at hc
  refine hc.mono ?_
  clear hc
  rintro e w' ⟨rfl, rfl⟩
  go_wp2_with fail
  have hc := few_ret a2 cap2 l2 _ w2 (max_of g2)
  rw [X2.out] at hc
  refine hc.mono ?_
  clear hc
  rintro e w' ⟨rfl, rfl⟩
  go_wp2_with fail
  have hc := CtrD.may_ret a0 cap0 l0 _ w0 f0 (by omega)
  rw [M0.out] at hc
  refine hc.mono ?_
  clear hc
  rintro e W2 ⟨rfl, k2⟩
  have w0' := w0.below k2
  have w1' := w1.below k2
  have w2' := w2.below k2
  have kb' := kb.trans (k2.mono kb.size)
  clear w0 w1 w2 kb k2
  have w0 := w0'
  have w1 := w1'
  have w2 := w2'
  have kb := kb'
  clear w0' w1' w2' kb'
  go_wp2_with fail
  have hc := CtrD.may_ret a1 cap1 l1 _ w1 f1 (by omega)
  rw [M1.out] at hc
  refine hc.mono ?_
  clear hc
  rintro e W3 ⟨rfl, k3⟩
  have w0' := w0.below k3
  have w1' := w1.below k3
  have w2' := w2.below k3
  have kb' := kb.trans (k3.mono kb.size)
  clear w0 w1 w2 kb k3
  have w0 := w0'
  have w1 := w1'
  have w2 := w2'
  have kb := kb'
  clear w0' w1' w2' kb'
  go_wp2_with fail
  have hc := CtrD.may_ret a2 cap2 l2 _ w2 f2 (by omega)
  rw [M2.out] at hc
  refine hc.mono ?_
  clear hc
  rintro e W4 ⟨rfl, k4⟩
  have w0' := w0.below k4
  have w1' := w1.below k4
  have w2' := w2.below k4
  have kb' := kb.trans (k4.mono kb.size)
  clear w0 w1 w2 kb k4
  have w0 := w0'
  have w1 := w1'
  have w2 := w2'
  have kb := kb'
  clear w0' w1' w2' kb'
  go_wp2_with fail
  go_ret
  exact ⟨by first | rfl | simp, kb⟩

set_option maxRecDepth 100000 in
set_option maxHeartbeats 8000000 in
theorem within (a0 : Option Addr) (cap0 : Nat) (l0 : List Cn) (a1 : Option Addr) (cap1 : Nat) (l1 : List Cn) (a2 : Option Addr) (cap2 : Nat) (l2 : List Cn) (a3 : ByteArray) (w : World) (w0 : SlR E w a0 cap0 l0) (g0 : ∀ x ∈ l0, OpenC.Good x) (w1 : SlR E w a1 cap1 l1) (g1 : ∀ x ∈ l1, OpenC.Good x) (w2 : SlR E w a2 cap2 l2) (g2 : ∀ x ∈ l2, OpenC.Good x) (x0 : fewB l0 = true) (x1 : fewB l1 = true) (x2 : fewB l2 = true) (m0 : mayC l0 = true) (m1 : mayC l1 = true) (m2 : mayC l2 = true) (hk : a3.size ≤ 100) :
    Calls Try.prog 8 #[.slice a0 l0.length cap0, .slice a1 l1.length cap1, .slice a2 l2.length cap2, .string a3] w fun e w' => e = .returned (.bool true) ∧ Below w.heap.size w w' := by
  have y0 := few_len x0
  have f0 := few_fits x0 (inl_of g0)
  have X0 := aside x0
  have y1 := few_len x1
  have f1 := few_fits x1 (inl_of g1)
  have X1 := aside x1
  have y2 := few_len x2
  have f2 := few_fits x2 (inl_of g2)
  have X2 := aside x2
  have ml := merge_len l0 l1 l2
  have hg := merge_get m0 m1 m2 a3
  have hany := any_key (merge_may m0 m1 m2) a3
  have hs : sumC l0 l1 l2 a3 = w64 (w64 (getC l1 a3 + getC l2 a3) - getC l0 a3) := rfl
  obtain ⟨P, hP⟩ : ∃ l, mergeC l0 l1 l2 = l := ⟨_, rfl⟩
  rw [hP] at ml hg hany
  rw [hg] at hany
  obtain ⟨u0, hu0⟩ : ∃ u, getC l0 a3 = u := ⟨_, rfl⟩
  obtain ⟨u1, hu1⟩ : ∃ u, getC l1 a3 = u := ⟨_, rfl⟩
  obtain ⟨u2, hu2⟩ : ∃ u, getC l2 a3 = u := ⟨_, rfl⟩
  rw [hu0, hu1, hu2] at hs
  obtain ⟨s1, hs1⟩ : ∃ u, w64 (u1 + u2) = u := ⟨_, rfl⟩
  rw [hs1] at hs
  obtain ⟨s2, hs2⟩ : ∃ u, sumC l0 l1 l2 a3 = u := ⟨_, rfl⟩
  rw [hs2] at hs hg hany
  have Z1 : Hid (IntKind.i64.wrap (u1 + u2) = s1) := hs1
  have Z2 : Hid (IntKind.i64.wrap (s1 - u0) = s2) := hs.symm
  have HP := aside hP
  have HG := aside hg
  have HA := aside hany
  have U0 := aside hu0
  have U1 := aside hu1
  have U2 := aside hu2
  have M0 := aside m0
  have M1 := aside m1
  have M2 := aside m2
  clear x0 x1 x2 m0 m1 m2 hP hg hany hu0 hu1 hu2 hs1 hs2 hs
  go_enter Try.func8, Try.ntmps8
  go_wp2_with fail
  refine (awake _).mono ?_
  rintro e W1 ⟨rfl, k1⟩
  have w0' := w0.below k1
  have w1' := w1.below k1
  have w2' := w2.below k1
  have kb := k1
  clear w0 w1 w2 k1
  have w0 := w0'
  have w1 := w1'
  have w2 := w2'
  clear w0' w1' w2'
  go_wp2_with fail
  have hc := few_ret a0 cap0 l0 _ w0 (max_of g0)
  rw [X0.out] at hc
  refine hc.mono ?_
  clear hc
  rintro e w' ⟨rfl, rfl⟩
  go_wp2_with fail
  have hc := few_ret a1 cap1 l1 _ w1 (max_of g1)
  rw [X1.out] at hc
  refine hc.mono ?_
  clear hc
  rintro e w' ⟨rfl, rfl⟩
  go_wp2_with fail
  have hc := few_ret a2 cap2 l2 _ w2 (max_of g2)
  rw [X2.out] at hc
  refine hc.mono ?_
  clear hc
  rintro e w' ⟨rfl, rfl⟩
  go_wp2_with fail
  have hc := CtrD.may_ret a0 cap0 l0 _ w0 f0 (by omega)
  rw [M0.out] at hc
  refine hc.mono ?_
  clear hc
  rintro e W2 ⟨rfl, k2⟩
  have w0' := w0.below k2
  have w1' := w1.below k2
  have w2' := w2.below k2
  have kb' := kb.trans (k2.mono kb.size)
  clear w0 w1 w2 kb k2
  have w0 := w0'
  have w1 := w1'
  have w2 := w2'
  have kb := kb'
  clear w0' w1' w2' kb'
  go_wp2_with fail
  have hc := CtrD.may_ret a1 cap1 l1 _ w1 f1 (by omega)
  rw [M1.out] at hc
  refine hc.mono ?_
  clear hc
  rintro e W3 ⟨rfl, k3⟩
  have w0' := w0.below k3
  have w1' := w1.below k3
  have w2' := w2.below k3
  have kb' := kb.trans (k3.mono kb.size)
  clear w0 w1 w2 kb k3
  have w0 := w0'
  have w1 := w1'
  have w2 := w2'
  have kb := kb'
  clear w0' w1' w2' kb'
  go_wp2_with fail
  have hc := CtrD.may_ret a2 cap2 l2 _ w2 f2 (by omega)
  rw [M2.out] at hc
  refine hc.mono ?_
  clear hc
  rintro e W4 ⟨rfl, k4⟩
  have w0' := w0.below k4
  have w1' := w1.below k4
  have w2' := w2.below k4
  have kb' := kb.trans (k4.mono kb.size)
  clear w0 w1 w2 kb k4
  have w0 := w0'
  have w1 := w1'
  have w2 := w2'
  have kb := kb'
  clear w0' w1' w2' kb'
  go_wp2_with fail
  have hc := CtrD.merge_ret a0 cap0 l0 a1 cap1 l1 a2 cap2 l2 _ w0 w1 w2 f0 f1 f2 (by omega) (by omega) (by omega)
  rw [HP.out] at hc
  refine hc.mono ?_
  clear hc
  rintro e W5 ⟨AP, CP, rfl, SP, k5⟩
  have w0' := w0.below k5
  have w1' := w1.below k5
  have w2' := w2.below k5
  have kb' := kb.trans (k5.mono kb.size)
  clear w0 w1 w2 kb k5
  have w0 := w0'
  have w1 := w1'
  have w2 := w2'
  have kb := kb'
  clear w0' w1' w2' kb'
  go_wp2_with fail
  have hc := CtrD.get_ret a1 cap1 l1 a3 _ w1 (by omega)
  rw [U1.out] at hc
  refine hc.mono ?_
  clear hc
  rintro e W6 ⟨rfl, k6⟩
  have w0' := w0.below k6
  have w1' := w1.below k6
  have w2' := w2.below k6
  have SP' := SP.below k6
  have kb' := kb.trans (k6.mono kb.size)
  clear w0 w1 w2 SP kb k6
  have w0 := w0'
  have w1 := w1'
  have w2 := w2'
  have SP := SP'
  have kb := kb'
  clear w0' w1' w2' SP' kb'
  go_wp2_with fail
  have hc := CtrD.get_ret a2 cap2 l2 a3 _ w2 (by omega)
  rw [U2.out] at hc
  refine hc.mono ?_
  clear hc
  rintro e W7 ⟨rfl, k7⟩
  have w0' := w0.below k7
  have w1' := w1.below k7
  have w2' := w2.below k7
  have SP' := SP.below k7
  have kb' := kb.trans (k7.mono kb.size)
  clear w0 w1 w2 SP kb k7
  have w0 := w0'
  have w1 := w1'
  have w2 := w2'
  have SP := SP'
  have kb := kb'
  clear w0' w1' w2' SP' kb'
  have z1 := Z1.out
  go_wp2_with fail
  have hc := CtrD.get_ret a0 cap0 l0 a3 _ w0 (by omega)
  rw [U0.out] at hc
  refine hc.mono ?_
  clear hc
  rintro e W8 ⟨rfl, k8⟩
  have w0' := w0.below k8
  have w1' := w1.below k8
  have w2' := w2.below k8
  have SP' := SP.below k8
  have kb' := kb.trans (k8.mono kb.size)
  clear w0 w1 w2 SP kb k8
  have w0 := w0'
  have w1 := w1'
  have w2 := w2'
  have SP := SP'
  have kb := kb'
  clear w0' w1' w2' SP' kb'
  have z2 := Z2.out
  go_wp2_with fail
  clear z1 z2 w0 w1 w2
  have hcap := SP.1
  go_loop [15, 16] (fun b i => ∃ (j : Nat) (q : Bool), j ≤ P.length ∧ i = .int .i64 j ∧ b = .bool q ∧ Hid (((P.take j).any fun c => decide (c.key = a3)) = q)) (fun _ i => P.length - (intOf i).toNat)
  case atStart => exact ⟨0, false, Nat.zero_le _, rfl, rfl, aside rfl⟩
  case round =>
    obtain ⟨j, q, hj, rfl, rfl, HQ⟩ := hrel
    by_cases hlt : j < P.length
    · have SP' := SP
      obtain ⟨g, off, rfl, hbw, hr⟩ := CtrW.plain SP' (by omega)
      obtain ⟨x, hx⟩ : ∃ x, P[j]? = some x := ⟨_, List.getElem?_eq_getElem hlt⟩
      obtain ⟨c0, c1⟩ := cells (hr j x hx)
      have p0 : (j : Int) < P.length := by omega
      have m0 : ((j : Int)).toNat = j := by omega
      have ht := any_take P (fun c => decide (c.key = a3)) j x hx
      rw [HQ.out] at ht
      have HT := aside ht
      clear ht hr hx SP SP' HQ
      cases q with
      | true =>
        go_wp2
        go_round
        case rel => exact ⟨j + 1, true, by omega, by go_num, rfl, aside (by rw [HT.out]; rfl)⟩
        case measure => simp [intOf]; omega
      | false =>
        by_cases hk3 : x.key = a3
        · have t0 := str_yes hk3
          have HT2 : Hid (((P.take (j + 1)).any fun c => decide (c.key = a3)) = true) := aside (by rw [HT.out, decide_eq_true hk3]; rfl)
          clear HT hk3
          go_wp2
          go_round
          case rel => exact ⟨j + 1, true, by omega, by go_num, rfl, HT2⟩
          case measure => simp [intOf]; omega
        · have t0 := str_no hk3
          have HT2 : Hid (((P.take (j + 1)).any fun c => decide (c.key = a3)) = false) := aside (by rw [HT.out, decide_eq_false hk3]; rfl)
          clear HT hk3
          go_wp2
          go_round
          case rel => exact ⟨j + 1, false, by omega, by go_num, rfl, HT2⟩
          case measure => simp [intOf]; omega
    · have hq : q = (s2 != 0) := by
        have := HQ.out
        rw [List.take_of_length_le (by omega), HA.out] at this
        exact this.symm
      have hgp := CtrD.get_ret AP CP P a3 _ SP (by omega)
      rw [HG.out] at hgp
      by_cases h0 : s2 = 0
      · have t0 : (s2 != 0) = false := by simpa using h0
        rw [t0] at hq
        subst hq
        clear HQ h0
        go_wp2_with fail
        refine hgp.mono ?_
        clear hgp
        rintro e w9 ⟨rfl, k9⟩
        have kf := kb.trans (k9.mono kb.size)
        go_wp2
        go_ret
        exact ⟨by first | rfl | simp, kf⟩
      · have t0 : (s2 != 0) = true := by simpa using h0
        rw [t0] at hq
        subst hq
        clear HQ h0
        go_wp2_with fail
        refine hgp.mono ?_
        clear hgp
        rintro e w9 ⟨rfl, k9⟩
        have kf := kb.trans (k9.mono kb.size)
        go_wp2
        go_ret
        exact ⟨by first | rfl | simp, kf⟩

theorem walk (a0 : Option Addr) (cap0 : Nat) (l0 : List Cn) (a1 : Option Addr) (cap1 : Nat) (l1 : List Cn) (a2 : Option Addr) (cap2 : Nat) (l2 : List Cn) (a3 : ByteArray) (w : World) (w0 : SlR E w a0 cap0 l0) (g0 : ∀ x ∈ l0, OpenC.Good x) (w1 : SlR E w a1 cap1 l1) (g1 : ∀ x ∈ l1, OpenC.Good x) (w2 : SlR E w a2 cap2 l2) (g2 : ∀ x ∈ l2, OpenC.Good x) (w3 : a3.size ≤ maxLen) :
    Calls Try.prog 8 #[.slice a0 l0.length cap0, .slice a1 l1.length cap1, .slice a2 l2.length cap2, .string a3] w fun e w' => e = .returned (.bool true) ∧ Below w.heap.size w w' := by
  cases x0 : fewB l0 with
  | false => exact out a0 cap0 l0 a1 cap1 l1 a2 cap2 l2 a3 w w0 g0 w1 g1 w2 g2 _ _ _ x0 rfl rfl (.inl rfl)
  | true =>
    cases x1 : fewB l1 with
    | false => exact out a0 cap0 l0 a1 cap1 l1 a2 cap2 l2 a3 w w0 g0 w1 g1 w2 g2 _ _ _ x0 x1 rfl (.inr (.inl ⟨rfl, rfl⟩))
    | true =>
      cases x2 : fewB l2 with
      | false => exact out a0 cap0 l0 a1 cap1 l1 a2 cap2 l2 a3 w w0 g0 w1 g1 w2 g2 _ _ _ x0 x1 x2 (.inr (.inr (⟨rfl, rfl, rfl⟩)))
      | true =>
        cases m0 : mayC l0 with
        | false => exact outm0 a0 cap0 l0 a1 cap1 l1 a2 cap2 l2 a3 w w0 g0 w1 g1 w2 g2 x0 x1 x2 m0
        | true =>
          cases m1 : mayC l1 with
          | false => exact outm1 a0 cap0 l0 a1 cap1 l1 a2 cap2 l2 a3 w w0 g0 w1 g1 w2 g2 x0 x1 x2 m0 m1
          | true =>
            cases m2 : mayC l2 with
            | false => exact outm2 a0 cap0 l0 a1 cap1 l1 a2 cap2 l2 a3 w w0 g0 w1 g1 w2 g2 x0 x1 x2 m0 m1 m2
            | true =>
              by_cases hk : 100 < a3.size
              · exact outm3 a0 cap0 l0 a1 cap1 l1 a2 cap2 l2 a3 w w0 g0 w1 g1 w2 g2 x0 x1 x2 m0 m1 m2 w3 hk
              · exact within a0 cap0 l0 a1 cap1 l1 a2 cap2 l2 a3 w w0 g0 w1 g1 w2 g2 x0 x1 x2 m0 m1 m2 (by omega)

theorem own : ownKnob Try.prog.godebug = none := by kernel_rfl
theorem laidOut : laidOutB Try.prog = true := by kernel_rfl
set_option linter.unusedVariables false in
set_option maxRecDepth 100000 in
theorem lifted (os : Os) (started : os.Started) (H : Type) (enc : TypeId × Value → H) :
    ReturnsInHanded {} Try.checked os 8 .any (Rows.ctrKeysSpec.pre6 enc Try.prog Try.f8 Rows.ctrKeysRow.domain false) (Rows.ctrKeysSpec.post enc Try.prog Try.f8 false true false false) := by
  refine returnsInHanded_of_change (C := Try.checked) own started (by kernel_rfl) Try.func8
    (ChangeSpec.witness6 (enc := enc) (C := Try.checked) false ⟨#[], #[.slice none 0 0, .slice none 0 0, .slice none 0 0, .string ByteArray.empty], []⟩ 8 (by kernel_rfl) (by kernel_rfl) (by kernel_rfl) (by kernel_rfl)) ?_
  intro W base args ds gs before hval0 hW hcnd _
  have hval : ∀ (j : Nat) t v, Try.f8.params[j]? = some t → args[j]? = some v → Value.okWide Try.prog W .any base t v := hval0
  have hW' := hW
  obtain ⟨p, q, hA0, hV, rfl, hfz, hnd⟩ := hW
  have hA : DataW.TrodAll enc Try.prog W 0 (fun _ => true) true Try.f8.params.toList args.toList ds p := hA0
  rw [Try.params8] at hA hval
  obtain ⟨v0, vs0, d0, ds0, p0, q0, hargs, rfl, rfl, h0, r0⟩ := trodAll_cons hA
  obtain ⟨v1, vs1, d1, ds1, p1, q1, rfl, rfl, rfl, h1, r1⟩ := trodAll_cons r0
  obtain ⟨v2, vs2, d2, ds2, p2, q2, rfl, rfl, rfl, h2, r2⟩ := trodAll_cons r1
  obtain ⟨v3, vs3, d3, ds3, p3, q3, rfl, rfl, rfl, h3, r3⟩ := trodAll_cons r2
  obtain ⟨rfl, rfl, rfl⟩ := trodAll_nil r3
  obtain rfl : args = #[v0, v1, v2, v3] := by cases args; simp_all
  obtain ⟨rfl, rfl⟩ := trodVars_none hV
  have k0 := h0
  have lt0 : ∀ x ∈ p0, x.block < W.heap.size := by obtain ⟨m, hm⟩ := k0; exact DataW.trod_lt m _ _ _ hm
  obtain ⟨a0, cap0, l0, rfl, w0, g0⟩ := OpenC.open_ctrs (hval 0 22 v0 rfl rfl) h0
  have k1 := h1
  have lt1 : ∀ x ∈ p1, x.block < W.heap.size := by obtain ⟨m, hm⟩ := k1; exact DataW.trod_lt m _ _ _ hm
  obtain ⟨a1, cap1, l1, rfl, w1, g1⟩ := OpenC.open_ctrs (hval 1 22 v1 rfl rfl) h1
  have k2 := h2
  have lt2 : ∀ x ∈ p2, x.block < W.heap.size := by obtain ⟨m, hm⟩ := k2; exact DataW.trod_lt m _ _ _ hm
  obtain ⟨a2, cap2, l2, rfl, w2, g2⟩ := OpenC.open_ctrs (hval 2 22 v2 rfl rfl) h2
  obtain ⟨a3, rfl, rfl, rfl, w3⟩ := Go.ChangeMaps.open_string Try.underlying9 (hval 3 9 v3 rfl rfl) h3
  clear hA0 hval0
  refine (walk a0 cap0 l0 a1 cap1 l1 a2 cap2 l2 a3 W w0 g0 w1 g1 w2 g2 w3).mono fun e W' ⟨he, bel⟩ => ?_
  subst he
  exact ⟨_, rfl, _, _, _, [], _, [], hW', trodAll_mk1 (shut_bool Try.underlying4 _), (trodAll_cons_mk (Below.trod laidOut (by kernel_rfl) (of_decide_eq_true (by kernel_rfl)) k0 bel lt0) (trodAll_cons_mk (Below.trod laidOut (by kernel_rfl) (of_decide_eq_true (by kernel_rfl)) k1 bel lt1) (trodAll_cons_mk (Below.trod laidOut (by kernel_rfl) (of_decide_eq_true (by kernel_rfl)) k2 bel lt2) (trodAll_cons_mk (Go.ChangeMaps.shut_string Try.underlying9 w3) trodAll_mk0)))), rfl, bel.frame _, fun h => by cases h⟩

theorem over : Rows.ctrKeysRow.holds Try.pinned (OpenSpec.ofChange Rows.ctrKeysSpec) :=
  OpenClaim.holds_of_wide 8 Try.f8 rfl rfl rfl rfl rfl rfl rfl ⟨rfl, rfl, rfl, rfl, rfl⟩ rfl rfl rfl rfl rfl (by kernel_rfl) Try.func8 (by kernel_rfl)
    (of_decide_eq_true (by kernel_rfl)) (by unfold Func.isWrapper; first | (rw [if_pos (by decide +kernel)]; kernel_rfl) | (rw [if_neg (by decide +kernel)]; exact ⟨rfl, rfl⟩))
    (fun os started H enc _ => lifted os started H enc)

theorem proved : Rows.CtrKeysSaid := over
end Go.Proofs.Ytommbfkndcaghaa.ctrKeys
