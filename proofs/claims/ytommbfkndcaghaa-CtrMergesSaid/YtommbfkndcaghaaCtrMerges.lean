/- CtrMerges returns true for every input: what is merged does not hang on which one is which; with the base as one of both it is the other one; what both counted since the base is in it once each. No condition. -/
import Derived.Test.YtommbfkndcaghaaCtrA
import Derived.ShutString
import Derived.ChangeOld
namespace Go.Proofs.Ytommbfkndcaghaa.ctrMerges
open Go Go.ChangeShapes Go.WideShapes Go.ChangeAt Go.RowKit Byt OpsM Rise CtrM RowS CtrW CtrS CtrL CtrX CtrA

set_option maxRecDepth 100000 in
set_option maxHeartbeats 8000000 in
theorem out (a0 : Option Addr) (cap0 : Nat) (l0 : List Cn) (a1 : Option Addr) (cap1 : Nat) (l1 : List Cn) (a2 : Option Addr) (cap2 : Nat) (l2 : List Cn) (a3 : ByteArray) (a4 : Int) (a5 : Int) (w : World) (w0 : SlR E w a0 cap0 l0) (g0 : ∀ x ∈ l0, OpenC.Good x) (w1 : SlR E w a1 cap1 l1) (g1 : ∀ x ∈ l1, OpenC.Good x) (w2 : SlR E w a2 cap2 l2) (g2 : ∀ x ∈ l2, OpenC.Good x) (b0 b1 b2 kk : Bool) (x0 : fewB l0 = b0) (x1 : fewB l1 = b1) (x2 : fewB l2 = b2) (xk : keyL (bytesL a3) = kk) (hk : a3.size ≤ maxLen) (h : (b0 = false) ∨ (b0 = true ∧ b1 = false) ∨ (b0 = true ∧ b1 = true ∧ b2 = false) ∨ (b0 = true ∧ b1 = true ∧ b2 = true ∧ kk = false)) :
    Calls Try.prog 5 #[.slice a0 l0.length cap0, .slice a1 l1.length cap1, .slice a2 l2.length cap2, .string a3, .int .i64 a4, .int .i64 a5] w fun e w' => e = .returned (.bool true) ∧ Below w.heap.size w w' := by
  have KK := aside xk
  clear xk
  rcases h with rfl | ⟨rfl, rfl⟩ | ⟨rfl, rfl, rfl⟩ | ⟨rfl, rfl, rfl, rfl⟩
  all_goals
    go_enter Try.func5, Try.ntmps5
    go_wp2_with fail
    refine (awake _).mono ?_
    rintro e W1 ⟨rfl, k1⟩
    have w0' := w0.below k1
    have w1' := w1.below k1
    have w2' := w2.below k1
    have kb := k1
    clear w0 w1 w2 k1
    have w0 := w0'
    have w1 := w1'
    have w2 := w2'
    clear w0' w1' w2'
    go_wp2_with fail
    have hc := few_ret a0 cap0 l0 _ w0 (max_of g0)
    rw [x0] at hc
    refine hc.mono ?_
    clear hc
    rintro e w' ⟨rfl, rfl⟩
    go_wp2_with fail
    have hc := few_ret a1 cap1 l1 _ w1 (max_of g1)
    rw [x1] at hc
    refine hc.mono ?_
    clear hc
    rintro e w' ⟨rfl, rfl⟩
    go_wp2_with fail
    have hc := few_ret a2 cap2 l2 _ w2 (max_of g2)
    rw [x2] at hc
    refine hc.mono ?_
    clear hc
    rintro e w' ⟨rfl, rfl⟩
    go_wp2_with fail
    have hc := OpsR.key_any a3 hk
    simp only [KK.out] at hc
    refine (hc _).mono ?_
    clear hc
    rintro e w' ⟨rfl, rfl⟩
    go_wp2_with fail
    go_ret
    exact ⟨by first | rfl | simp, kb⟩

set_option maxRecDepth 100000 in
set_option maxHeartbeats 8000000 in
theorem outm0 (a0 : Option Addr) (cap0 : Nat) (l0 : List Cn) (a1 : Option Addr) (cap1 : Nat) (l1 : List Cn) (a2 : Option Addr) (cap2 : Nat) (l2 : List Cn) (a3 : ByteArray) (a4 : Int) (a5 : Int) (w : World) (w0 : SlR E w a0 cap0 l0) (g0 : ∀ x ∈ l0, OpenC.Good x) (w1 : SlR E w a1 cap1 l1) (g1 : ∀ x ∈ l1, OpenC.Good x) (w2 : SlR E w a2 cap2 l2) (g2 : ∀ x ∈ l2, OpenC.Good x) (x0 : fewB l0 = true) (x1 : fewB l1 = true) (x2 : fewB l2 = true) (xk : keyL (bytesL a3) = true) (hk : a3.size ≤ maxLen) (m0 : mayC l0 = false) :
    Calls Try.prog 5 #[.slice a0 l0.length cap0, .slice a1 l1.length cap1, .slice a2 l2.length cap2, .string a3, .int .i64 a4, .int .i64 a5] w fun e w' => e = .returned (.bool true) ∧ Below w.heap.size w w' := by
  have y0 := few_len x0
  have f0 := few_fits x0 (inl_of g0)
  have X0 := aside x0
  have y1 := few_len x1
  have f1 := few_fits x1 (inl_of g1)
  have X1 := aside x1
  have y2 := few_len x2
  have f2 := few_fits x2 (inl_of g2)
  have X2 := aside x2
  have KK := aside xk
  have M0 := aside m0
  clear xk x0 x1 x2 m0
  go_enter Try.func5, Try.ntmps5
  go_wp2_with fail
  refine (awake _).mono ?_
  rintro e W1 ⟨rfl, k1⟩
  have w0' := w0.below k1
  have w1' := w1.below k1
  have w2' := w2.below k1
  have kb := k1
  clear w0 w1 w2 k1
  have w0 := w0'
  have w1 := w1'
  have w2 := w2'
  clear w0' w1' w2'
  go_wp2_with fail
  have hc := few_ret a0 cap0 l0 _ w0 (max_of g0)
  rw [X0.out] at hc
  refine hc.mono ?_
  clear hc
  rintro e w' ⟨rfl, rfl⟩
  go_wp2_with fail
  have hc := few_ret a1 cap1 l1 _ w1 (max_of g1)
  rw [X1.out] at hc
  refine hc.mono ?_
  clear hc
  rintro e w' ⟨rfl, rfl⟩
  go_wp2_with fail
  have hc := few_ret a2 cap2 l2 _ w2 (max_of g2)
  rw [X2.out] at hc
  refine hc.mono ?_
  clear hc
  rintro e w' ⟨rfl, rfl⟩
  go_wp2_with fail
  have hc := OpsR.key_any a3 hk
  simp only [KK.out] at hc
  refine (hc _).mono ?_
  clear hc
  rintro e w' ⟨rfl, rfl⟩
  go_wp2_with fail
  have hc := CtrD.may_ret a0 cap0 l0 _ w0 f0 (by omega)
  rw [M0.out] at hc
  refine hc.mono ?_
  clear hc
  rintro e W2 ⟨rfl, k2⟩
  have w0' := w0.below k2
  have w1' := w1.below k2
  have w2' := w2.below k2
  have kb' := kb.trans (k2.mono kb.size)
  clear w0 w1 w2 kb k2
  have w0 := w0'
  have w1 := w1'
  have w2 := w2'
  have kb := kb'
  clear w0' w1' w2' kb'
  go_wp2_with fail
  go_ret
  exact ⟨by first | rfl | simp, kb⟩

set_option maxRecDepth 100000 in
set_option maxHeartbeats 8000000 in
theorem outm1 (a0 : Option Addr) (cap0 : Nat) (l0 : List Cn) (a1 : Option Addr) (cap1 : Nat) (l1 : List Cn) (a2 : Option Addr) (cap2 : Nat) (l2 : List Cn) (a3 : ByteArray) (a4 : Int) (a5 : Int) (w : World) (w0 : SlR E w a0 cap0 l0) (g0 : ∀ x ∈ l0, OpenC.Good x) (w1 : SlR E w a1 cap1 l1) (g1 : ∀ x ∈ l1, OpenC.Good x) (w2 : SlR E w a2 cap2 l2) (g2 : ∀ x ∈ l2, OpenC.Good x) (x0 : fewB l0 = true) (x1 : fewB l1 = true) (x2 : fewB l2 = true) (xk : keyL (bytesL a3) = true) (hk : a3.size ≤ maxLen) (m0 : mayC l0 = true) (m1 : mayC l1 = false) :
    Calls Try.prog 5 #[.slice a0 l0.length cap0, .slice a1 l1.length cap1, .slice a2 l2.length cap2, .string a3, .int .i64 a4, .int .i64 a5] w fun e w' => e = .returned (.bool true) ∧ Below w.heap.size w w' := by
  have y0 := few_len x0
  have f0 := few_fits x0 (inl_of g0)
  have X0 := aside x0
  have y1 := few_len x1
  have f1 := few_fits x1 (inl_of g1)
  have X1 := aside x1
  have y2 := few_len x2
  have f2 := few_fits x2 (inl_of g2)
  have X2 := aside x2
  have KK := aside xk
  have M0 := aside m0
  have M1 := aside m1
  clear xk x0 x1 x2 m0 m1
  go_enter Try.func5, Try.ntmps5
  go_wp2_with fail
  refine (awake _).mono ?_
  rintro e W1 ⟨rfl, k1⟩
  have w0' := w0.below k1
  have w1' := w1.below k1
  have w2' := w2.below k1
  have kb := k1
  clear w0 w1 w2 k1
  have w0 := w0'
  have w1 := w1'
  have w2 := w2'
  clear w0' w1' w2'
  go_wp2_with fail
  have hc := few_ret a0 cap0 l0 _ w0 (max_of g0)
  rw [X0.out] at hc
  refine hc.mono ?_
  clear hc
  rintro e w' ⟨rfl, rfl⟩
  go_wp2_with fail
  have hc := few_ret a1 cap1 l1 _ w1 (max_of g1)
  rw [X1.out] at hc
  refine hc.mono ?_
  clear hc
  rintro e w' ⟨rfl, rfl⟩
  go_wp2_with fail
  have hc := few_ret a2 cap2 l2 _ w2 (max_of g2)
  rw [X2.out] at hc
  refine hc.mono ?_
  clear hc
  rintro e w' ⟨rfl, rfl⟩
  go_wp2_with fail
  have hc := OpsR.key_any a3 hk
  simp only [KK.out] at hc
  refine (hc _).mono ?_
  clear hc
  rintro e w' ⟨rfl, rfl⟩
  go_wp2_with fail
  have hc := CtrD.may_ret a0 cap0 l0 _ w0 f0 (by omega)
  rw [M0.out] at hc
  refine hc.mono ?_
  clear hc
  rintro e W2 ⟨rfl, k2⟩
  have w0' := w0.below k2
  have w1' := w1.below k2
  have w2' := w2.below k2
  have kb' := kb.trans (k2.mono kb.size)
  clear w0 w1 w2 kb k2
  have w0 := w0'
  have w1 := w1'
  have w2 := w2'
  have kb := kb'
  clear w0' w1' w2' kb'
  go_wp2_with fail
  have hc := CtrD.may_ret a1 cap1 l1 _ w1 f1 (by omega)
  rw [M1.out] at hc
  refine hc.mono ?_
  clear hc
  rintro e W3 ⟨rfl, k3⟩
  have w0' := w0.below k3
  have w1' := w1.below k3
  have w2' := w2.below k3
  have kb' := kb.trans (k3.mono kb.size)
  clear w0 w1 w2 kb k3
  have w0 := w0'
  have w1 := w1'
  have w2 := w2'
  have kb := kb'
  clear w0' w1' w2' kb'
  go_wp2_with fail
  go_ret
  exact ⟨by first | rfl | simp, kb⟩

set_option maxRecDepth 100000 in
set_option maxHeartbeats 8000000 in
theorem outm2 (a0 : Option Addr) (cap0 : Nat) (l0 : List Cn) (a1 : Option Addr) (cap1 : Nat) (l1 : List Cn) (a2 : Option Addr) (cap2 : Nat) (l2 : List Cn) (a3 : ByteArray) (a4 : Int) (a5 : Int) (w : World) (w0 : SlR E w a0 cap0 l0) (g0 : ∀ x ∈ l0, OpenC.Good x) (w1 : SlR E w a1 cap1 l1) (g1 : ∀ x ∈ l1, OpenC.Good x) (w2 : SlR E w a2 cap2 l2) (g2 : ∀ x ∈ l2, OpenC.Good x) (x0 : fewB l0 = true) (x1 : fewB l1 = true) (x2 : fewB l2 = true) (xk : keyL (bytesL a3) = true) (hk : a3.size ≤ maxLen) (m0 : mayC l0 = true) (m1 : mayC l1 = true) (m2 : mayC l2 = false) :
    Calls Try.prog 5 #[.slice a0 l0.length cap0, .slice a1 l1.length cap1, .slice a2 l2.length cap2, .string a3, .int .i64 a4, .int .i64 a5] w fun e w' => e = .returned (.bool true) ∧ Below w.heap.size w w' := by
  have y0 := few_len x0
  have f0 := few_fits x0 (inl_of g0)
  have X0 := aside x0
  have y1 := few_len x1
  have f1 := few_fits x1 (inl_of g1)
  have X1 := aside x1
  have y2 := few_len x2
  have f2 := few_fits x2 (inl_of g2)
  have X2 := aside x2
  have KK := aside xk
  have M0 := aside m0
  have M1 := aside m1
  have M2 := aside m2
  clear xk x0 x1 x2 m0 m1 m2
  go_enter Try.func5, Try.ntmps5
  go_wp2_with fail
  refine (awake _).mono ?_
  rintro e W1 ⟨rfl, k1⟩
  have w0' := w0.below k1
  have w1' := w1.below k1
  have w2' := w2.below k1
  have kb := k1
  clear w0 w1 w2 k1
  have w0 := w0'
  have w1 := w1'
  have w2 := w2'
  clear w0' w1' w2'
  go_wp2_with fail
  have hc := few_ret a0 cap0 l0 _ w0 (max_of g0)
  rw [X0.out] at hc
  refine hc.mono ?_
  clear hc
  rintro e w' ⟨rfl, rfl⟩
  go_wp2_with fail
  have hc := few_ret a1 cap1 l1 _ w1 (max_of g1)
  rw [X1.out] at hc
  refine hc.mono ?_
  clear hc
  rintro e w' ⟨rfl, rfl⟩
  go_wp2_with fail
  have hc := few_ret a2 cap2 l2 _ w2 (max_of g2)
  rw [X2.out] at hc
  refine hc.mono ?_
  clear hc
  rintro e w' ⟨rfl, rfl⟩
  go_wp2_with fail
  have hc := OpsR.key_any a3 hk
  simp only [KK.out] at hc
  refine (hc _).mono ?_
  clear hc
  rintro e w' ⟨rfl, rfl⟩
  go_wp2_with fail
  have hc := CtrD.may_ret a0 cap0 l0 _ w0 f0 (by omega)
  rw [M0.out] at hc
  refine hc.mono ?_
  clear hc
  rintro e W2 ⟨rfl, k2⟩
  have w0' := w0.below k2
  have w1' := w1.below k2
  have w2' := w2.below k2
  have kb' := kb.trans (k2.mono kb.size)
  clear w0 w1 w2 kb k2
  have w0 := w0'
  have w1 := w1'
  have w2 := w2'
  have kb := kb'
  clear w0' w1' w2' kb'
  go_wp2_with fail
  have hc := CtrD.may_ret a1 cap1 l1 _ w1 f1 (by omega)
  rw [M1.out] at hc
  refine hc.mono ?_
  clear hc
  rintro e W3 ⟨rfl, k3⟩
  have w0' := w0.below k3
  have w1' := w1.below k3
  have w2' := w2.below k3
  have kb' := kb.trans (k3.mono kb.size)
  clear w0 w1 w2 kb k3
  have w0 := w0'
  have w1 := w1'
  have w2 := w2'
  have kb := kb'
  clear w0' w1' w2' kb'
  go_wp2_with fail
  have hc := CtrD.may_ret a2 cap2 l2 _ w2 f2 (by omega)
  rw [M2.out] at hc
  refine hc.mono ?_
  clear hc
  rintro e W4 ⟨rfl, k4⟩
  have w0' := w0.below k4
  have w1' := w1.below k4
  have w2' := w2.below k4
  have kb' := kb.trans (k4.mono kb.size)
  clear w0 w1 w2 kb k4
  have w0 := w0'
  have w1 := w1'
  have w2 := w2'
  have kb := kb'
  clear w0' w1' w2' kb'
  go_wp2_with fail
  go_ret
  exact ⟨by first | rfl | simp, kb⟩

set_option maxRecDepth 100000 in
set_option maxHeartbeats 8000000 in
theorem outt (a0 : Option Addr) (cap0 : Nat) (l0 : List Cn) (a1 : Option Addr) (cap1 : Nat) (l1 : List Cn) (a2 : Option Addr) (cap2 : Nat) (l2 : List Cn) (a3 : ByteArray) (a4 : Int) (a5 : Int) (w : World) (w0 : SlR E w a0 cap0 l0) (g0 : ∀ x ∈ l0, OpenC.Good x) (w1 : SlR E w a1 cap1 l1) (g1 : ∀ x ∈ l1, OpenC.Good x) (w2 : SlR E w a2 cap2 l2) (g2 : ∀ x ∈ l2, OpenC.Good x) (x0 : fewB l0 = true) (x1 : fewB l1 = true) (x2 : fewB l2 = true) (xk : keyL (bytesL a3) = true) (hk : a3.size ≤ maxLen) (m0 : mayC l0 = true) (m1 : mayC l1 = true) (m2 : mayC l2 = true) (h : a4 < -1099511627776 ∨ (-1099511627776 ≤ a4 ∧ 1099511627776 < a4) ∨ (-1099511627776 ≤ a4 ∧ a4 ≤ 1099511627776 ∧ a5 < -1099511627776) ∨ (-1099511627776 ≤ a4 ∧ a4 ≤ 1099511627776 ∧ -1099511627776 ≤ a5 ∧ 1099511627776 < a5)) :
    Calls Try.prog 5 #[.slice a0 l0.length cap0, .slice a1 l1.length cap1, .slice a2 l2.length cap2, .string a3, .int .i64 a4, .int .i64 a5] w fun e w' => e = .returned (.bool true) ∧ Below w.heap.size w w' := by
  have y0 := few_len x0
  have f0 := few_fits x0 (inl_of g0)
  have X0 := aside x0
  have y1 := few_len x1
  have f1 := few_fits x1 (inl_of g1)
  have X1 := aside x1
  have y2 := few_len x2
  have f2 := few_fits x2 (inl_of g2)
  have X2 := aside x2
  have KK := aside xk
  have M0 := aside m0
  have M1 := aside m1
  have M2 := aside m2
  clear xk x0 x1 x2 m0 m1 m2
  rcases h with h | ⟨h, h2⟩ | ⟨h, h2, h3⟩ | ⟨h, h2, h3, h4⟩
  all_goals
    go_enter Try.func5, Try.ntmps5
    go_wp2_with fail
    refine (awake _).mono ?_
    rintro e W1 ⟨rfl, k1⟩
    have w0' := w0.below k1
    have w1' := w1.below k1
    have w2' := w2.below k1
    have kb := k1
    clear w0 w1 w2 k1
    have w0 := w0'
    have w1 := w1'
    have w2 := w2'
    clear w0' w1' w2'
    go_wp2_with fail
    have hc := few_ret a0 cap0 l0 _ w0 (max_of g0)
    rw [X0.out] at hc
    refine hc.mono ?_
    clear hc
    rintro e w' ⟨rfl, rfl⟩
    go_wp2_with fail
    have hc := few_ret a1 cap1 l1 _ w1 (max_of g1)
    rw [X1.out] at hc
    refine hc.mono ?_
    clear hc
    rintro e w' ⟨rfl, rfl⟩
    go_wp2_with fail
    have hc := few_ret a2 cap2 l2 _ w2 (max_of g2)
    rw [X2.out] at hc
    refine hc.mono ?_
    clear hc
    rintro e w' ⟨rfl, rfl⟩
    go_wp2_with fail
    have hc := OpsR.key_any a3 hk
    simp only [KK.out] at hc
    refine (hc _).mono ?_
    clear hc
    rintro e w' ⟨rfl, rfl⟩
    go_wp2_with fail
    have hc := CtrD.may_ret a0 cap0 l0 _ w0 f0 (by omega)
    rw [M0.out] at hc
    refine hc.mono ?_
    clear hc
    rintro e W2 ⟨rfl, k2⟩
    have w0' := w0.below k2
    have w1' := w1.below k2
    have w2' := w2.below k2
    have kb' := kb.trans (k2.mono kb.size)
    clear w0 w1 w2 kb k2
    have w0 := w0'
    have w1 := w1'
    have w2 := w2'
    have kb := kb'
    clear w0' w1' w2' kb'
    go_wp2_with fail
    have hc := CtrD.may_ret a1 cap1 l1 _ w1 f1 (by omega)
    rw [M1.out] at hc
    refine hc.mono ?_
    clear hc
    rintro e W3 ⟨rfl, k3⟩
    have w0' := w0.below k3
    have w1' := w1.below k3
    have w2' := w2.below k3
    have kb' := kb.trans (k3.mono kb.size)
    clear w0 w1 w2 kb k3
    have w0 := w0'
    have w1 := w1'
    have w2 := w2'
    have kb := kb'
    clear w0' w1' w2' kb'
    go_wp2_with fail
    have hc := CtrD.may_ret a2 cap2 l2 _ w2 f2 (by omega)
    rw [M2.out] at hc
    refine hc.mono ?_
    clear hc
    rintro e W4 ⟨rfl, k4⟩
    have w0' := w0.below k4
    have w1' := w1.below k4
    have w2' := w2.below k4
    have kb' := kb.trans (k4.mono kb.size)
    clear w0 w1 w2 kb k4
    have w0 := w0'
    have w1 := w1'
    have w2 := w2'
    have kb := kb'
    clear w0' w1' w2' kb'
    go_wp2_with fail
    go_ret
    exact ⟨by first | rfl | simp, kb⟩

set_option maxRecDepth 100000 in
set_option maxHeartbeats 8000000 in
theorem within (a0 : Option Addr) (cap0 : Nat) (l0 : List Cn) (a1 : Option Addr) (cap1 : Nat) (l1 : List Cn) (a2 : Option Addr) (cap2 : Nat) (l2 : List Cn) (a3 : ByteArray) (a4 : Int) (a5 : Int) (w : World) (w0 : SlR E w a0 cap0 l0) (g0 : ∀ x ∈ l0, OpenC.Good x) (w1 : SlR E w a1 cap1 l1) (g1 : ∀ x ∈ l1, OpenC.Good x) (w2 : SlR E w a2 cap2 l2) (g2 : ∀ x ∈ l2, OpenC.Good x) (x0 : fewB l0 = true) (x1 : fewB l1 = true) (x2 : fewB l2 = true) (xk : keyL (bytesL a3) = true) (hk : a3.size ≤ maxLen) (m0 : mayC l0 = true) (m1 : mayC l1 = true) (m2 : mayC l2 = true) (n1 : -1099511627776 ≤ a4) (n2 : a4 ≤ 1099511627776) (n3 : -1099511627776 ≤ a5) (n4 : a5 ≤ 1099511627776) :
    Calls Try.prog 5 #[.slice a0 l0.length cap0, .slice a1 l1.length cap1, .slice a2 l2.length cap2, .string a3, .int .i64 a4, .int .i64 a5] w fun e w' => e = .returned (.bool true) ∧ Below w.heap.size w w' := by
  have y0 := few_len x0
  have f0 := few_fits x0 (inl_of g0)
  have X0 := aside x0
  have y1 := few_len x1
  have f1 := few_fits x1 (inl_of g1)
  have X1 := aside x1
  have y2 := few_len x2
  have f2 := few_fits x2 (inl_of g2)
  have X2 := aside x2
  have KK := aside xk
  have hks : a3.size ≤ 1099511627776 := by have := keyL_len xk; have := bytesL_length a3; omega
  have z4 : In64 a4 := by unfold In64; omega
  have z5 : In64 a5 := by unfold In64; omega
  have i0 := inl_of g0
  have e1 := merge_turn m0 m1 m2
  have e2 := merge_one m0 m2 (inl_of g2)
  have e3 := merge_one m1 m1 (inl_of g1)
  have e4 := merge_sum a4 a5 m0 xk i0
  have d1 := merge_len l0 l1 l2
  have d2 := inc_len l0 a3 a4
  have d3 := inc_len l0 a3 a5
  have q2 := inc_fits a3 a4 i0
  have q3 := inc_fits a3 a5 i0
  have d5 := inc_len (incC l0 a3 a4) a3 a5
  have hmx := merge_may m0 m1 m2
  have hfx := merge_fits l0 l1 l2
  obtain ⟨X, hX⟩ : ∃ l, mergeC l0 l1 l2 = l := ⟨_, rfl⟩
  rw [hX] at e1 d1 hmx hfx
  obtain ⟨P, hP⟩ : ∃ l, incC l0 a3 a4 = l := ⟨_, rfl⟩
  rw [hP] at e4 d2 q2 d5
  obtain ⟨Q, hQ⟩ : ∃ l, incC l0 a3 a5 = l := ⟨_, rfl⟩
  rw [hQ] at e4 d3 q3
  obtain ⟨Y, hY⟩ : ∃ l, incC P a3 a5 = l := ⟨_, rfl⟩
  rw [hY] at e4 d5
  have Z4 := aside z4
  have Z5 := aside z5
  have E1 := aside e1.symm
  have E2 := aside e2
  have E3 := aside e3
  have E4 := aside e4
  have HX := aside hX
  have HP := aside hP
  have HQ := aside hQ
  have HY := aside hY
  have HM := aside hmx
  have M0 := aside m0
  have M1 := aside m1
  have M2 := aside m2
  clear xk x0 x1 x2 m0 m1 m2 z4 z5 e1 e2 e3 e4 hX hP hQ hY hmx i0
  go_enter Try.func5, Try.ntmps5
  go_wp2_with fail
  refine (awake _).mono ?_
  rintro e W1 ⟨rfl, k1⟩
  have w0' := w0.below k1
  have w1' := w1.below k1
  have w2' := w2.below k1
  have kb := k1
  clear w0 w1 w2 k1
  have w0 := w0'
  have w1 := w1'
  have w2 := w2'
  clear w0' w1' w2'
  go_wp2_with fail
  have hc := few_ret a0 cap0 l0 _ w0 (max_of g0)
  rw [X0.out] at hc
  refine hc.mono ?_
  clear hc
  rintro e w' ⟨rfl, rfl⟩
  go_wp2_with fail
  have hc := few_ret a1 cap1 l1 _ w1 (max_of g1)
  rw [X1.out] at hc
  refine hc.mono ?_
  clear hc
  rintro e w' ⟨rfl, rfl⟩
  go_wp2_with fail
  have hc := few_ret a2 cap2 l2 _ w2 (max_of g2)
  rw [X2.out] at hc
  refine hc.mono ?_
  clear hc
  rintro e w' ⟨rfl, rfl⟩
  go_wp2_with fail
  have hc := OpsR.key_any a3 hk
  simp only [KK.out] at hc
  refine (hc _).mono ?_
  clear hc
  rintro e w' ⟨rfl, rfl⟩
  go_wp2_with fail
  have hc := CtrD.may_ret a0 cap0 l0 _ w0 f0 (by omega)
  rw [M0.out] at hc
  refine hc.mono ?_
  clear hc
  rintro e W2 ⟨rfl, k2⟩
  have w0' := w0.below k2
  have w1' := w1.below k2
  have w2' := w2.below k2
  have kb' := kb.trans (k2.mono kb.size)
  clear w0 w1 w2 kb k2
  have w0 := w0'
  have w1 := w1'
  have w2 := w2'
  have kb := kb'
  clear w0' w1' w2' kb'
  go_wp2_with fail
  have hc := CtrD.may_ret a1 cap1 l1 _ w1 f1 (by omega)
  rw [M1.out] at hc
  refine hc.mono ?_
  clear hc
  rintro e W3 ⟨rfl, k3⟩
  have w0' := w0.below k3
  have w1' := w1.below k3
  have w2' := w2.below k3
  have kb' := kb.trans (k3.mono kb.size)
  clear w0 w1 w2 kb k3
  have w0 := w0'
  have w1 := w1'
  have w2 := w2'
  have kb := kb'
  clear w0' w1' w2' kb'
  go_wp2_with fail
  have hc := CtrD.may_ret a2 cap2 l2 _ w2 f2 (by omega)
  rw [M2.out] at hc
  refine hc.mono ?_
  clear hc
  rintro e W4 ⟨rfl, k4⟩
  have w0' := w0.below k4
  have w1' := w1.below k4
  have w2' := w2.below k4
  have kb' := kb.trans (k4.mono kb.size)
  clear w0 w1 w2 kb k4
  have w0 := w0'
  have w1 := w1'
  have w2 := w2'
  have kb := kb'
  clear w0' w1' w2' kb'
  go_wp2_with fail
  have hc := CtrD.merge_ret a0 cap0 l0 a1 cap1 l1 a2 cap2 l2 _ w0 w1 w2 f0 f1 f2 (by omega) (by omega) (by omega)
  rw [HX.out] at hc
  refine hc.mono ?_
  clear hc
  rintro e W5 ⟨AX, CX, rfl, SX, k5⟩
  have w0' := w0.below k5
  have w1' := w1.below k5
  have w2' := w2.below k5
  have kb' := kb.trans (k5.mono kb.size)
  clear w0 w1 w2 kb k5
  have w0 := w0'
  have w1 := w1'
  have w2 := w2'
  have kb := kb'
  clear w0' w1' w2' kb'
  go_wp2_with fail
  have hc := CtrD.merge_ret a0 cap0 l0 a2 cap2 l2 a1 cap1 l1 _ w0 w2 w1 f0 f2 f1 (by omega) (by omega) (by omega)
  rw [E1.out] at hc
  refine hc.mono ?_
  clear hc
  rintro e W6 ⟨AT, CT, rfl, ST, k6⟩
  have w0' := w0.below k6
  have w1' := w1.below k6
  have w2' := w2.below k6
  have SX' := SX.below k6
  have kb' := kb.trans (k6.mono kb.size)
  clear w0 w1 w2 SX kb k6
  have w0 := w0'
  have w1 := w1'
  have w2 := w2'
  have SX := SX'
  have kb := kb'
  clear w0' w1' w2' SX' kb'
  go_wp2_with fail
  have hc := same_ret AX CX X AT CT X _ SX ST
  rw [sameB_self] at hc
  refine hc.mono ?_
  clear hc
  rintro e W7 ⟨rfl, k7⟩
  clear ST
  have w0' := w0.below k7
  have w1' := w1.below k7
  have w2' := w2.below k7
  have SX' := SX.below k7
  have kb' := kb.trans (k7.mono kb.size)
  clear w0 w1 w2 SX kb k7
  have w0 := w0'
  have w1 := w1'
  have w2 := w2'
  have SX := SX'
  have kb := kb'
  clear w0' w1' w2' SX' kb'
  go_wp2_with fail
  have hc := CtrD.merge_ret a0 cap0 l0 a0 cap0 l0 a2 cap2 l2 _ w0 w0 w2 f0 f0 f2 (by omega) (by omega) (by omega)
  rw [E2.out] at hc
  refine hc.mono ?_
  clear hc
  rintro e W8 ⟨AT, CT, rfl, ST, k8⟩
  have w0' := w0.below k8
  have w1' := w1.below k8
  have w2' := w2.below k8
  have SX' := SX.below k8
  have kb' := kb.trans (k8.mono kb.size)
  clear w0 w1 w2 SX kb k8
  have w0 := w0'
  have w1 := w1'
  have w2 := w2'
  have SX := SX'
  have kb := kb'
  clear w0' w1' w2' SX' kb'
  go_wp2_with fail
  have hc := same_ret AT CT l2 a2 cap2 l2 _ ST w2
  rw [sameB_self] at hc
  refine hc.mono ?_
  clear hc
  rintro e W9 ⟨rfl, k9⟩
  clear ST
  have w0' := w0.below k9
  have w1' := w1.below k9
  have w2' := w2.below k9
  have SX' := SX.below k9
  have kb' := kb.trans (k9.mono kb.size)
  clear w0 w1 w2 SX kb k9
  have w0 := w0'
  have w1 := w1'
  have w2 := w2'
  have SX := SX'
  have kb := kb'
  clear w0' w1' w2' SX' kb'
  go_wp2_with fail
  have hc := CtrD.merge_ret a1 cap1 l1 a1 cap1 l1 a1 cap1 l1 _ w1 w1 w1 f1 f1 f1 (by omega) (by omega) (by omega)
  rw [E3.out] at hc
  refine hc.mono ?_
  clear hc
  rintro e W10 ⟨AT, CT, rfl, ST, k10⟩
  have w0' := w0.below k10
  have w1' := w1.below k10
  have w2' := w2.below k10
  have SX' := SX.below k10
  have kb' := kb.trans (k10.mono kb.size)
  clear w0 w1 w2 SX kb k10
  have w0 := w0'
  have w1 := w1'
  have w2 := w2'
  have SX := SX'
  have kb := kb'
  clear w0' w1' w2' SX' kb'
  go_wp2_with fail
  have hc := same_ret AT CT l1 a1 cap1 l1 _ ST w1
  rw [sameB_self] at hc
  refine hc.mono ?_
  clear hc
  rintro e W11 ⟨rfl, k11⟩
  clear ST
  have w0' := w0.below k11
  have w1' := w1.below k11
  have w2' := w2.below k11
  have SX' := SX.below k11
  have kb' := kb.trans (k11.mono kb.size)
  clear w0 w1 w2 SX kb k11
  have w0 := w0'
  have w1 := w1'
  have w2 := w2'
  have SX := SX'
  have kb := kb'
  clear w0' w1' w2' SX' kb'
  go_wp2_with fail
  have hc := CtrD.inc_ret a0 cap0 l0 a3 a4 _ w0 f0 (by omega) hks Z4.out
  rw [HP.out] at hc
  refine hc.mono ?_
  clear hc
  rintro e W12 ⟨AP, CP, rfl, SP, k12⟩
  have w0' := w0.below k12
  have w1' := w1.below k12
  have w2' := w2.below k12
  have SX' := SX.below k12
  have kb' := kb.trans (k12.mono kb.size)
  clear w0 w1 w2 SX kb k12
  have w0 := w0'
  have w1 := w1'
  have w2 := w2'
  have SX := SX'
  have kb := kb'
  clear w0' w1' w2' SX' kb'
  go_wp2_with fail
  have hc := CtrD.inc_ret a0 cap0 l0 a3 a5 _ w0 f0 (by omega) hks Z5.out
  rw [HQ.out] at hc
  refine hc.mono ?_
  clear hc
  rintro e W13 ⟨AQ, CQ, rfl, SQ, k13⟩
  have w0' := w0.below k13
  have w1' := w1.below k13
  have w2' := w2.below k13
  have SX' := SX.below k13
  have SP' := SP.below k13
  have kb' := kb.trans (k13.mono kb.size)
  clear w0 w1 w2 SX SP kb k13
  have w0 := w0'
  have w1 := w1'
  have w2 := w2'
  have SX := SX'
  have SP := SP'
  have kb := kb'
  clear w0' w1' w2' SX' SP' kb'
  go_wp2_with fail
  have hc := CtrD.merge_ret a0 cap0 l0 AP CP P AQ CQ Q _ w0 SP SQ f0 q2 q3 (by omega) (by omega) (by omega)
  rw [E4.out] at hc
  refine hc.mono ?_
  clear hc
  rintro e W14 ⟨AY, CY, rfl, SY, k14⟩
  clear SP
  clear SQ
  have w0' := w0.below k14
  have w1' := w1.below k14
  have w2' := w2.below k14
  have SX' := SX.below k14
  have kb' := kb.trans (k14.mono kb.size)
  clear w0 w1 w2 SX kb k14
  have w0 := w0'
  have w1 := w1'
  have w2 := w2'
  have SX := SX'
  have kb := kb'
  clear w0' w1' w2' SX' kb'
  go_wp2_with fail
  have hc := CtrD.inc_ret a0 cap0 l0 a3 a4 _ w0 f0 (by omega) hks Z4.out
  rw [HP.out] at hc
  refine hc.mono ?_
  clear hc
  rintro e W15 ⟨AP, CP, rfl, SP, k15⟩
  have w0' := w0.below k15
  have w1' := w1.below k15
  have w2' := w2.below k15
  have SX' := SX.below k15
  have SY' := SY.below k15
  have kb' := kb.trans (k15.mono kb.size)
  clear w0 w1 w2 SX SY kb k15
  have w0 := w0'
  have w1 := w1'
  have w2 := w2'
  have SX := SX'
  have SY := SY'
  have kb := kb'
  clear w0' w1' w2' SX' SY' kb'
  go_wp2_with fail
  have hc := CtrD.inc_ret AP CP P a3 a5 _ SP q2 (by omega) hks Z5.out
  rw [HY.out] at hc
  refine hc.mono ?_
  clear hc
  rintro e W16 ⟨AZ, CZ, rfl, SZ, k16⟩
  clear SP
  have w0' := w0.below k16
  have w1' := w1.below k16
  have w2' := w2.below k16
  have SX' := SX.below k16
  have SY' := SY.below k16
  have kb' := kb.trans (k16.mono kb.size)
  clear w0 w1 w2 SX SY kb k16
  have w0 := w0'
  have w1 := w1'
  have w2 := w2'
  have SX := SX'
  have SY := SY'
  have kb := kb'
  clear w0' w1' w2' SX' SY' kb'
  go_wp2_with fail
  have hc := same_ret AY CY Y AZ CZ Y _ SY SZ
  rw [sameB_self] at hc
  refine hc.mono ?_
  clear hc
  rintro e W17 ⟨rfl, k17⟩
  clear SY
  clear SZ
  have w0' := w0.below k17
  have w1' := w1.below k17
  have w2' := w2.below k17
  have SX' := SX.below k17
  have kb' := kb.trans (k17.mono kb.size)
  clear w0 w1 w2 SX kb k17
  have w0 := w0'
  have w1 := w1'
  have w2 := w2'
  have SX := SX'
  have kb := kb'
  clear w0' w1' w2' SX' kb'
  go_wp2_with fail
  have hc := CtrD.may_ret AX CX X _ SX hfx (by omega)
  rw [HM.out] at hc
  refine hc.mono ?_
  clear hc
  rintro e W18 ⟨rfl, k18⟩
  have w0' := w0.below k18
  have w1' := w1.below k18
  have w2' := w2.below k18
  have SX' := SX.below k18
  have kb' := kb.trans (k18.mono kb.size)
  clear w0 w1 w2 SX kb k18
  have w0 := w0'
  have w1 := w1'
  have w2 := w2'
  have SX := SX'
  have kb := kb'
  clear w0' w1' w2' SX' kb'
  go_wp2_with fail
  go_ret
  exact ⟨by first | rfl | simp, kb⟩

theorem walk (a0 : Option Addr) (cap0 : Nat) (l0 : List Cn) (a1 : Option Addr) (cap1 : Nat) (l1 : List Cn) (a2 : Option Addr) (cap2 : Nat) (l2 : List Cn) (a3 : ByteArray) (a4 : Int) (a5 : Int) (w : World) (w0 : SlR E w a0 cap0 l0) (g0 : ∀ x ∈ l0, OpenC.Good x) (w1 : SlR E w a1 cap1 l1) (g1 : ∀ x ∈ l1, OpenC.Good x) (w2 : SlR E w a2 cap2 l2) (g2 : ∀ x ∈ l2, OpenC.Good x) (w3 : a3.size ≤ maxLen) (_w4 : (Lit.int .i64 a4).wf = true) (_w5 : (Lit.int .i64 a5).wf = true) :
    Calls Try.prog 5 #[.slice a0 l0.length cap0, .slice a1 l1.length cap1, .slice a2 l2.length cap2, .string a3, .int .i64 a4, .int .i64 a5] w fun e w' => e = .returned (.bool true) ∧ Below w.heap.size w w' := by
  cases x0 : fewB l0 with
  | false => exact out a0 cap0 l0 a1 cap1 l1 a2 cap2 l2 a3 a4 a5 w w0 g0 w1 g1 w2 g2 _ _ _ _ x0 rfl rfl rfl w3 (.inl rfl)
  | true =>
    cases x1 : fewB l1 with
    | false => exact out a0 cap0 l0 a1 cap1 l1 a2 cap2 l2 a3 a4 a5 w w0 g0 w1 g1 w2 g2 _ _ _ _ x0 x1 rfl rfl w3 (.inr (.inl ⟨rfl, rfl⟩))
    | true =>
      cases x2 : fewB l2 with
      | false => exact out a0 cap0 l0 a1 cap1 l1 a2 cap2 l2 a3 a4 a5 w w0 g0 w1 g1 w2 g2 _ _ _ _ x0 x1 x2 rfl w3 (.inr (.inr (.inl ⟨rfl, rfl, rfl⟩)))
      | true =>
        cases xk : keyL (bytesL a3) with
        | false => exact out a0 cap0 l0 a1 cap1 l1 a2 cap2 l2 a3 a4 a5 w w0 g0 w1 g1 w2 g2 _ _ _ _ x0 x1 x2 xk w3 (.inr (.inr (.inr (⟨rfl, rfl, rfl, rfl⟩))))
        | true =>
          cases m0 : mayC l0 with
          | false => exact outm0 a0 cap0 l0 a1 cap1 l1 a2 cap2 l2 a3 a4 a5 w w0 g0 w1 g1 w2 g2 x0 x1 x2 xk w3 m0
          | true =>
            cases m1 : mayC l1 with
            | false => exact outm1 a0 cap0 l0 a1 cap1 l1 a2 cap2 l2 a3 a4 a5 w w0 g0 w1 g1 w2 g2 x0 x1 x2 xk w3 m0 m1
            | true =>
              cases m2 : mayC l2 with
              | false => exact outm2 a0 cap0 l0 a1 cap1 l1 a2 cap2 l2 a3 a4 a5 w w0 g0 w1 g1 w2 g2 x0 x1 x2 xk w3 m0 m1 m2
              | true =>
                by_cases h : a4 < -1099511627776 ∨ (-1099511627776 ≤ a4 ∧ 1099511627776 < a4) ∨ (-1099511627776 ≤ a4 ∧ a4 ≤ 1099511627776 ∧ a5 < -1099511627776) ∨ (-1099511627776 ≤ a4 ∧ a4 ≤ 1099511627776 ∧ -1099511627776 ≤ a5 ∧ 1099511627776 < a5)
                · exact outt a0 cap0 l0 a1 cap1 l1 a2 cap2 l2 a3 a4 a5 w w0 g0 w1 g1 w2 g2 x0 x1 x2 xk w3 m0 m1 m2 h
                · exact within a0 cap0 l0 a1 cap1 l1 a2 cap2 l2 a3 a4 a5 w w0 g0 w1 g1 w2 g2 x0 x1 x2 xk w3 m0 m1 m2 (by omega) (by omega) (by omega) (by omega)

theorem own : ownKnob Try.prog.godebug = none := by kernel_rfl
theorem laidOut : laidOutB Try.prog = true := by kernel_rfl
set_option linter.unusedVariables false in
set_option maxRecDepth 100000 in
theorem lifted (os : Os) (started : os.Started) (H : Type) (enc : TypeId × Value → H) :
    ReturnsInHanded {} Try.checked os 5 .any (Rows.ctrMergesSpec.pre6 enc Try.prog Try.f5 Rows.ctrMergesRow.domain false) (Rows.ctrMergesSpec.post enc Try.prog Try.f5 false true false false) := by
  refine returnsInHanded_of_change (C := Try.checked) own started (by kernel_rfl) Try.func5
    (ChangeSpec.witness6 (enc := enc) (C := Try.checked) false ⟨#[], #[.slice none 0 0, .slice none 0 0, .slice none 0 0, .string ByteArray.empty, .int .i64 0, .int .i64 0], []⟩ 8 (by kernel_rfl) (by kernel_rfl) (by kernel_rfl) (by kernel_rfl)) ?_
  intro W base args ds gs before hval0 hW hcnd _
  have hval : ∀ (j : Nat) t v, Try.f5.params[j]? = some t → args[j]? = some v → Value.okWide Try.prog W .any base t v := hval0
  have hW' := hW
  obtain ⟨p, q, hA0, hV, rfl, hfz, hnd⟩ := hW
  have hA : DataW.TrodAll enc Try.prog W 0 (fun _ => true) true Try.f5.params.toList args.toList ds p := hA0
  rw [Try.params5] at hA hval
  obtain ⟨v0, vs0, d0, ds0, p0, q0, hargs, rfl, rfl, h0, r0⟩ := trodAll_cons hA
  obtain ⟨v1, vs1, d1, ds1, p1, q1, rfl, rfl, rfl, h1, r1⟩ := trodAll_cons r0
  obtain ⟨v2, vs2, d2, ds2, p2, q2, rfl, rfl, rfl, h2, r2⟩ := trodAll_cons r1
  obtain ⟨v3, vs3, d3, ds3, p3, q3, rfl, rfl, rfl, h3, r3⟩ := trodAll_cons r2
  obtain ⟨v4, vs4, d4, ds4, p4, q4, rfl, rfl, rfl, h4, r4⟩ := trodAll_cons r3
  obtain ⟨v5, vs5, d5, ds5, p5, q5, rfl, rfl, rfl, h5, r5⟩ := trodAll_cons r4
  obtain ⟨rfl, rfl, rfl⟩ := trodAll_nil r5
  obtain rfl : args = #[v0, v1, v2, v3, v4, v5] := by cases args; simp_all
  obtain ⟨rfl, rfl⟩ := trodVars_none hV
  have k0 := h0
  have lt0 : ∀ x ∈ p0, x.block < W.heap.size := by obtain ⟨m, hm⟩ := k0; exact DataW.trod_lt m _ _ _ hm
  obtain ⟨a0, cap0, l0, rfl, w0, g0⟩ := OpenC.open_ctrs (hval 0 22 v0 rfl rfl) h0
  have k1 := h1
  have lt1 : ∀ x ∈ p1, x.block < W.heap.size := by obtain ⟨m, hm⟩ := k1; exact DataW.trod_lt m _ _ _ hm
  obtain ⟨a1, cap1, l1, rfl, w1, g1⟩ := OpenC.open_ctrs (hval 1 22 v1 rfl rfl) h1
  have k2 := h2
  have lt2 : ∀ x ∈ p2, x.block < W.heap.size := by obtain ⟨m, hm⟩ := k2; exact DataW.trod_lt m _ _ _ hm
  obtain ⟨a2, cap2, l2, rfl, w2, g2⟩ := OpenC.open_ctrs (hval 2 22 v2 rfl rfl) h2
  obtain ⟨a3, rfl, rfl, rfl, w3⟩ := Go.ChangeMaps.open_string Try.underlying9 (hval 3 9 v3 rfl rfl) h3
  obtain ⟨a4, rfl, rfl, rfl, w4⟩ := open_int Try.underlying3 (hval 4 3 v4 rfl rfl) h4
  obtain ⟨a5, rfl, rfl, rfl, w5⟩ := open_int Try.underlying3 (hval 5 3 v5 rfl rfl) h5
  clear hA0 hval0
  refine (walk a0 cap0 l0 a1 cap1 l1 a2 cap2 l2 a3 a4 a5 W w0 g0 w1 g1 w2 g2 w3 w4 w5).mono fun e W' ⟨he, bel⟩ => ?_
  subst he
  exact ⟨_, rfl, _, _, _, [], _, [], hW', trodAll_mk1 (shut_bool Try.underlying4 _), (trodAll_cons_mk (Below.trod laidOut (by kernel_rfl) (of_decide_eq_true (by kernel_rfl)) k0 bel lt0) (trodAll_cons_mk (Below.trod laidOut (by kernel_rfl) (of_decide_eq_true (by kernel_rfl)) k1 bel lt1) (trodAll_cons_mk (Below.trod laidOut (by kernel_rfl) (of_decide_eq_true (by kernel_rfl)) k2 bel lt2) (trodAll_cons_mk (Go.ChangeMaps.shut_string Try.underlying9 w3) (trodAll_cons_mk (shut_int Try.underlying3 w4) (trodAll_cons_mk (shut_int Try.underlying3 w5) trodAll_mk0)))))), rfl, bel.frame _, fun h => by cases h⟩

theorem over : Rows.ctrMergesRow.holds Try.pinned (OpenSpec.ofChange Rows.ctrMergesSpec) :=
  OpenClaim.holds_of_wide 5 Try.f5 rfl rfl rfl rfl rfl rfl rfl ⟨rfl, rfl, rfl, rfl, rfl⟩ rfl rfl rfl rfl rfl (by kernel_rfl) Try.func5 (by kernel_rfl)
    (of_decide_eq_true (by kernel_rfl)) (by unfold Func.isWrapper; first | (rw [if_pos (by decide +kernel)]; kernel_rfl) | (rw [if_neg (by decide +kernel)]; exact ⟨rfl, rfl⟩))
    (fun os started H enc _ => lifted os started H enc)

theorem proved : Rows.CtrMergesSaid := over
end Go.Proofs.Ytommbfkndcaghaa.ctrMerges
