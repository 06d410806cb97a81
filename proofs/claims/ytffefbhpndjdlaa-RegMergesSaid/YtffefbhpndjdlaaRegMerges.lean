/- RegMerges returns true for every input: what is merged does not hang on the order, and on how often; of each key it has what one has, and none of both is newer. No condition. -/
import Derived.Test.YtffefbhpndjdlaaRegA
import Derived.Test.YtffefbhpndjdlaaRowF
import Derived.ShutString
import Derived.ChangeOld
namespace Go.Proofs.Ytffefbhpndjdlaa.regMerges
open Go Go.ChangeShapes Go.WideShapes Go.ChangeAt Go.RowKit Byt OpsM Rise RegM RegL RowS RowB RegW RegG RegS RegQ RegU RegX RegA

set_option maxRecDepth 100000 in
set_option maxHeartbeats 8000000 in
theorem out (a0 : Option Addr) (cap0 : Nat) (l0 : List Rg) (a1 : Option Addr) (cap1 : Nat) (l1 : List Rg) (a2 : Option Addr) (cap2 : Nat) (l2 : List Rg) (a3 : ByteArray) (w : World) (w0 : SlR E w a0 cap0 l0) (g0 : ∀ x ∈ l0, OpenG.Good x) (w1 : SlR E w a1 cap1 l1) (g1 : ∀ x ∈ l1, OpenG.Good x) (w2 : SlR E w a2 cap2 l2) (g2 : ∀ x ∈ l2, OpenG.Good x) (b0 : Bool) (b1 : Bool) (b2 : Bool) (x0 : fewB l0 = b0) (x1 : fewB l1 = b1) (x2 : fewB l2 = b2) (h : (b0 = false) ∨ (b0 = true ∧ b1 = false) ∨ (b0 = true ∧ b1 = true ∧ b2 = false)) :
    Calls Try.prog 4 #[.slice a0 l0.length cap0, .slice a1 l1.length cap1, .slice a2 l2.length cap2, .string a3] w fun e w' => e = .returned (.bool true) ∧ Below w.heap.size w w' := by
  rcases h with rfl | ⟨rfl, rfl⟩ | ⟨rfl, rfl, rfl⟩
  all_goals
    go_enter Try.func4, Try.ntmps4
    go_wp2_with fail
    refine (awake _).mono ?_
    rintro e W1 ⟨rfl, k1⟩
    have w0' := w0.below k1
    clear w0
    have w0 := w0'
    clear w0'
    have w1' := w1.below k1
    clear w1
    have w1 := w1'
    clear w1'
    have w2' := w2.below k1
    clear w2
    have w2 := w2'
    clear w2'
    have kb := k1
    clear k1
    go_wp2_with fail
    have hc := few_ret a0 cap0 l0 _ w0 (max_of g0)
    rw [x0] at hc
    refine hc.mono ?_
    clear hc
    rintro e w' ⟨rfl, rfl⟩
    go_wp2_with fail
    have hc := few_ret a1 cap1 l1 _ w1 (max_of g1)
    rw [x1] at hc
    refine hc.mono ?_
    clear hc
    rintro e w' ⟨rfl, rfl⟩
    go_wp2_with fail
    have hc := few_ret a2 cap2 l2 _ w2 (max_of g2)
    rw [x2] at hc
    refine hc.mono ?_
    clear hc
    rintro e w' ⟨rfl, rfl⟩
    go_wp2_with fail
    go_ret
    exact ⟨by first | rfl | simp, kb⟩

set_option maxRecDepth 100000 in
set_option maxHeartbeats 8000000 in
theorem outm0 (a0 : Option Addr) (cap0 : Nat) (l0 : List Rg) (a1 : Option Addr) (cap1 : Nat) (l1 : List Rg) (a2 : Option Addr) (cap2 : Nat) (l2 : List Rg) (a3 : ByteArray) (w : World) (w0 : SlR E w a0 cap0 l0) (g0 : ∀ x ∈ l0, OpenG.Good x) (w1 : SlR E w a1 cap1 l1) (g1 : ∀ x ∈ l1, OpenG.Good x) (w2 : SlR E w a2 cap2 l2) (g2 : ∀ x ∈ l2, OpenG.Good x) (x0 : fewB l0 = true) (x1 : fewB l1 = true) (x2 : fewB l2 = true) (m0 : mayR l0 = false) :
    Calls Try.prog 4 #[.slice a0 l0.length cap0, .slice a1 l1.length cap1, .slice a2 l2.length cap2, .string a3] w fun e w' => e = .returned (.bool true) ∧ Below w.heap.size w w' := by
  have y0 := few_len x0
  have f0 := few_fits x0 g0
  have X0 := aside x0
  have y1 := few_len x1
  have f1 := few_fits x1 g1
  have X1 := aside x1
  have y2 := few_len x2
  have f2 := few_fits x2 g2
  have X2 := aside x2
  have M0 := aside m0
  clear x0 x1 x2 m0
  go_enter Try.func4, Try.ntmps4
  go_wp2_with fail
  refine (awake _).mono ?_
  rintro e W1 ⟨rfl, k1⟩
  have w0' := w0.below k1
  clear w0
  have w0 := w0'
  clear w0'
  have w1' := w1.below k1
  clear w1
  have w1 := w1'
  clear w1'
  have w2' := w2.below k1
  clear w2
  have w2 := w2'
  clear w2'
  have kb := k1
  clear k1
  go_wp2_with fail
  have hc := few_ret a0 cap0 l0 _ w0 (max_of g0)
  rw [X0.out] at hc
  refine hc.mono ?_
  clear hc
  rintro e w' ⟨rfl, rfl⟩
  go_wp2_with fail
  have hc := few_ret a1 cap1 l1 _ w1 (max_of g1)
  rw [X1.out] at hc
  refine hc.mono ?_
  clear hc
  rintro e w' ⟨rfl, rfl⟩
  go_wp2_with fail
  have hc := few_ret a2 cap2 l2 _ w2 (max_of g2)
  rw [X2.out] at hc
  refine hc.mono ?_
  clear hc
  rintro e w' ⟨rfl, rfl⟩
  go_wp2_with fail
  have hc := RegD.may_ret a0 cap0 l0 _ w0 f0 (by omega)
  rw [M0.out] at hc
  refine hc.mono ?_
  clear hc
  rintro e W2 ⟨rfl, k2⟩
  have w0' := w0.below k2
  clear w0
  have w0 := w0'
  clear w0'
  have w1' := w1.below k2
  clear w1
  have w1 := w1'
  clear w1'
  have w2' := w2.below k2
  clear w2
  have w2 := w2'
  clear w2'
  have kb' := kb.trans (k2.mono kb.size)
  clear kb k2
  have kb := kb'
  clear kb'
  go_wp2_with fail
  go_ret
  exact ⟨by first | rfl | simp, kb⟩

set_option maxRecDepth 100000 in
set_option maxHeartbeats 8000000 in
theorem outm1 (a0 : Option Addr) (cap0 : Nat) (l0 : List Rg) (a1 : Option Addr) (cap1 : Nat) (l1 : List Rg) (a2 : Option Addr) (cap2 : Nat) (l2 : List Rg) (a3 : ByteArray) (w : World) (w0 : SlR E w a0 cap0 l0) (g0 : ∀ x ∈ l0, OpenG.Good x) (w1 : SlR E w a1 cap1 l1) (g1 : ∀ x ∈ l1, OpenG.Good x) (w2 : SlR E w a2 cap2 l2) (g2 : ∀ x ∈ l2, OpenG.Good x) (x0 : fewB l0 = true) (x1 : fewB l1 = true) (x2 : fewB l2 = true) (m0 : mayR l0 = true) (m1 : mayR l1 = false) :
    Calls Try.prog 4 #[.slice a0 l0.length cap0, .slice a1 l1.length cap1, .slice a2 l2.length cap2, .string a3] w fun e w' => e = .returned (.bool true) ∧ Below w.heap.size w w' := by
  have y0 := few_len x0
  have f0 := few_fits x0 g0
  have X0 := aside x0
  have y1 := few_len x1
  have f1 := few_fits x1 g1
  have X1 := aside x1
  have y2 := few_len x2
  have f2 := few_fits x2 g2
  have X2 := aside x2
  have M0 := aside m0
  have M1 := aside m1
  clear x0 x1 x2 m0 m1
  go_enter Try.func4, Try.ntmps4
  go_wp2_with fail
  refine (awake _).mono ?_
  rintro e W1 ⟨rfl, k1⟩
  have w0' := w0.below k1
  clear w0
  have w0 := w0'
  clear w0'
  have w1' := w1.below k1
  clear w1
  have w1 := w1'
  clear w1'
  have w2' := w2.below k1
  clear w2
  have w2 := w2'
  clear w2'
  have kb := k1
  clear k1
  go_wp2_with fail
  have hc := few_ret a0 cap0 l0 _ w0 (max_of g0)
  rw [X0.out] at hc
  refine hc.mono ?_
  clear hc
  rintro e w' ⟨rfl, rfl⟩
  go_wp2_with fail
  have hc := few_ret a1 cap1 l1 _ w1 (max_of g1)
  rw [X1.out] at hc
  refine hc.mono ?_
  clear hc
  rintro e w' ⟨rfl, rfl⟩
  go_wp2_with fail
  have hc := few_ret a2 cap2 l2 _ w2 (max_of g2)
  rw [X2.out] at hc
  refine hc.mono ?_
  clear hc
  rintro e w' ⟨rfl, rfl⟩
  go_wp2_with fail
  have hc := RegD.may_ret a0 cap0 l0 _ w0 f0 (by omega)
  rw [M0.out] at hc
  refine hc.mono ?_
  clear hc
  rintro e W2 ⟨rfl, k2⟩
  have w0' := w0.below k2
  clear w0
  have w0 := w0'
  clear w0'
  have w1' := w1.below k2
  clear w1
  have w1 := w1'
  clear w1'
  have w2' := w2.below k2
  clear w2
  have w2 := w2'
  clear w2'
  have kb' := kb.trans (k2.mono kb.size)
  clear kb k2
  have kb := kb'
  clear kb'
  go_wp2_with fail
  have hc := RegD.may_ret a1 cap1 l1 _ w1 f1 (by omega)
  rw [M1.out] at hc
  refine hc.mono ?_
  clear hc
  rintro e W3 ⟨rfl, k3⟩
  have w0' := w0.below k3
  clear w0
  have w0 := w0'
  clear w0'
  have w1' := w1.below k3
  clear w1
  have w1 := w1'
  clear w1'
  have w2' := w2.below k3
  clear w2
  have w2 := w2'
  clear w2'
  have kb' := kb.trans (k3.mono kb.size)
  clear kb k3
  have kb := kb'
  clear kb'
  go_wp2_with fail
  go_ret
  exact ⟨by first | rfl | simp, kb⟩

set_option maxRecDepth 100000 in
set_option maxHeartbeats 8000000 in
theorem outm2 (a0 : Option Addr) (cap0 : Nat) (l0 : List Rg) (a1 : Option Addr) (cap1 : Nat) (l1 : List Rg) (a2 : Option Addr) (cap2 : Nat) (l2 : List Rg) (a3 : ByteArray) (w : World) (w0 : SlR E w a0 cap0 l0) (g0 : ∀ x ∈ l0, OpenG.Good x) (w1 : SlR E w a1 cap1 l1) (g1 : ∀ x ∈ l1, OpenG.Good x) (w2 : SlR E w a2 cap2 l2) (g2 : ∀ x ∈ l2, OpenG.Good x) (x0 : fewB l0 = true) (x1 : fewB l1 = true) (x2 : fewB l2 = true) (m0 : mayR l0 = true) (m1 : mayR l1 = true) (m2 : mayR l2 = false) :
    Calls Try.prog 4 #[.slice a0 l0.length cap0, .slice a1 l1.length cap1, .slice a2 l2.length cap2, .string a3] w fun e w' => e = .returned (.bool true) ∧ Below w.heap.size w w' := by
  have y0 := few_len x0
  have f0 := few_fits x0 g0
  have X0 := aside x0
  have y1 := few_len x1
  have f1 := few_fits x1 g1
  have X1 := aside x1
  have y2 := few_len x2
  have f2 := few_fits x2 g2
  have X2 := aside x2
  have M0 := aside m0
  have M1 := aside m1
  have M2 := aside m2
  clear x0 x1 x2 m0 m1 m2
  go_enter Try.func4, Try.ntmps4
  go_wp2_with fail
  refine (awake _).mono ?_
  rintro e W1 ⟨rfl, k1⟩
  have w0' := w0.below k1
  clear w0
  have w0 := w0'
  clear w0'
  have w1' := w1.below k1
  clear w1
  have w1 := w1'
  clear w1'
  have w2' := w2.below k1
  clear w2
  have w2 := w2'
  clear w2'
  have kb := k1
  clear k1
  go_wp2_with fail
  have hc := few_ret a0 cap0 l0 _ w0 (max_of g0)
  rw [X0.out] at hc
  refine hc.mono ?_
  clear hc
  rintro e w' ⟨rfl, rfl⟩
  go_wp2_with fail
  have hc := few_ret a1 cap1 l1 _ w1 (max_of g1)
  rw [X1.out] at hc
  refine hc.mono ?_
  clear hc
  rintro e w' ⟨rfl, rfl⟩
  go_wp2_with fail
  have hc := few_ret a2 cap2 l2 _ w2 (max_of g2)
  rw [X2.out] at hc
  refine hc.mono ?_
  clear hc
  rintro e w' ⟨rfl, rfl⟩
  go_wp2_with fail
  have hc := RegD.may_ret a0 cap0 l0 _ w0 f0 (by omega)
  rw [M0.out] at hc
  refine hc.mono ?_
  clear hc
  rintro e W2 ⟨rfl, k2⟩
  have w0' := w0.below k2
  clear w0
  have w0 := w0'
  clear w0'
  have w1' := w1.below k2
  clear w1
  have w1 := w1'
  clear w1'
  have w2' := w2.below k2
  clear w2
  have w2 := w2'
  clear w2'
  have kb' := kb.trans (k2.mono kb.size)
  clear kb k2
  have kb := kb'
  clear kb'
  go_wp2_with fail
  have hc := RegD.may_ret a1 cap1 l1 _ w1 f1 (by omega)
  rw [M1.out] at hc
  refine hc.mono ?_
  clear hc
  rintro e W3 ⟨rfl, k3⟩
  have w0' := w0.below k3
  clear w0
  have w0 := w0'
  clear w0'
  have w1' := w1.below k3
  clear w1
  have w1 := w1'
  clear w1'
  have w2' := w2.below k3
  clear w2
  have w2 := w2'
  clear w2'
  have kb' := kb.trans (k3.mono kb.size)
  clear kb k3
  have kb := kb'
  clear kb'
  go_wp2_with fail
  have hc := RegD.may_ret a2 cap2 l2 _ w2 f2 (by omega)
  rw [M2.out] at hc
  refine hc.mono ?_
  clear hc
  rintro e W4 ⟨rfl, k4⟩
  have w0' := w0.below k4
  clear w0
  have w0 := w0'
  clear w0'
  have w1' := w1.below k4
  clear w1
  have w1 := w1'
  clear w1'
  have w2' := w2.below k4
  clear w2
  have w2 := w2'
  clear w2'
  have kb' := kb.trans (k4.mono kb.size)
  clear kb k4
  have kb := kb'
  clear kb'
  go_wp2_with fail
  go_ret
  exact ⟨by first | rfl | simp, kb⟩

set_option maxRecDepth 100000 in
set_option maxHeartbeats 8000000 in
theorem outm3 (a0 : Option Addr) (cap0 : Nat) (l0 : List Rg) (a1 : Option Addr) (cap1 : Nat) (l1 : List Rg) (a2 : Option Addr) (cap2 : Nat) (l2 : List Rg) (a3 : ByteArray) (w : World) (w0 : SlR E w a0 cap0 l0) (g0 : ∀ x ∈ l0, OpenG.Good x) (w1 : SlR E w a1 cap1 l1) (g1 : ∀ x ∈ l1, OpenG.Good x) (w2 : SlR E w a2 cap2 l2) (g2 : ∀ x ∈ l2, OpenG.Good x) (x0 : fewB l0 = true) (x1 : fewB l1 = true) (x2 : fewB l2 = true) (m0 : mayR l0 = true) (m1 : mayR l1 = true) (m2 : mayR l2 = true) (hk : 100 < a3.size) (hk2 : a3.size ≤ maxLen) :
    Calls Try.prog 4 #[.slice a0 l0.length cap0, .slice a1 l1.length cap1, .slice a2 l2.length cap2, .string a3] w fun e w' => e = .returned (.bool true) ∧ Below w.heap.size w w' := by
  have y0 := few_len x0
  have f0 := few_fits x0 g0
  have X0 := aside x0
  have y1 := few_len x1
  have f1 := few_fits x1 g1
  have X1 := aside x1
  have y2 := few_len x2
  have f2 := few_fits x2 g2
  have X2 := aside x2
  have M0 := aside m0
  have M1 := aside m1
  have M2 := aside m2
  unfold maxLen at hk2
  clear x0 x1 x2 m0 m1 m2
  go_enter Try.func4, Try.ntmps4
  go_wp2_with fail
  refine (awake _).mono ?_
  rintro e W1 ⟨rfl, k1⟩
  have w0' := w0.below k1
  clear w0
  have w0 := w0'
  clear w0'
  have w1' := w1.below k1
  clear w1
  have w1 := w1'
  clear w1'
  have w2' := w2.below k1
  clear w2
  have w2 := w2'
  clear w2'
  have kb := k1
  clear k1
  go_wp2_with fail
  have hc := few_ret a0 cap0 l0 _ w0 (max_of g0)
  rw [X0.out] at hc
  refine hc.mono ?_
  clear hc
  rintro e w' ⟨rfl, rfl⟩
  go_wp2_with fail
  have hc := few_ret a1 cap1 l1 _ w1 (max_of g1)
  rw [X1.out] at hc
  refine hc.mono ?_
  clear hc
  rintro e w' ⟨rfl, rfl⟩
  go_wp2_with fail
  have hc := few_ret a2 cap2 l2 _ w2 (max_of g2)
  rw [X2.out] at hc
  refine hc.mono ?_
  clear hc
  rintro e w' ⟨rfl, rfl⟩
  go_wp2_with fail
  have hc := RegD.may_ret a0 cap0 l0 _ w0 f0 (by omega)
  rw [M0.out] at hc
  refine hc.mono ?_
  clear hc
  rintro e W2 ⟨rfl, k2⟩
  have w0' := w0.below k2
  clear w0
  have w0 := w0'
  clear w0'
  have w1' := w1.below k2
  clear w1
  have w1 := w1'
  clear w1'
  have w2' := w2.below k2
  clear w2
  have w2 := w2'
  clear w2'
  have kb' := kb.trans (k2.mono kb.size)
  clear kb k2
  have kb := kb'
  clear kb'
  go_wp2_with fail
  have hc := RegD.may_ret a1 cap1 l1 _ w1 f1 (by omega)
  rw [M1.out] at hc
  refine hc.mono ?_
  clear hc
  rintro e W3 ⟨rfl, k3⟩
  have w0' := w0.below k3
  clear w0
  have w0 := w0'
  clear w0'
  have w1' := w1.below k3
  clear w1
  have w1 := w1'
  clear w1'
  have w2' := w2.below k3
  clear w2
  have w2 := w2'
  clear w2'
  have kb' := kb.trans (k3.mono kb.size)
  clear kb k3
  have kb := kb'
  clear kb'
  go_wp2_with fail
  have hc := RegD.may_ret a2 cap2 l2 _ w2 f2 (by omega)
  rw [M2.out] at hc
  refine hc.mono ?_
  clear hc
  rintro e W4 ⟨rfl, k4⟩
  have w0' := w0.below k4
  clear w0
  have w0 := w0'
  clear w0'
  have w1' := w1.below k4
  clear w1
  have w1 := w1'
  clear w1'
  have w2' := w2.below k4
  clear w2
  have w2 := w2'
  clear w2'
  have kb' := kb.trans (k4.mono kb.size)
  clear kb k4
  have kb := kb'
  clear kb'
  go_wp2_with fail
  go_ret
  exact ⟨by first | rfl | simp, kb⟩

set_option maxRecDepth 100000 in
set_option maxHeartbeats 16000000 in
theorem way_nn (a0 : Option Addr) (cap0 : Nat) (l0 : List Rg) (a1 : Option Addr) (cap1 : Nat) (l1 : List Rg) (a2 : Option Addr) (cap2 : Nat) (l2 : List Rg) (a3 : ByteArray) (w : World) (w0 : SlR E w a0 cap0 l0) (g0 : ∀ x ∈ l0, OpenG.Good x) (w1 : SlR E w a1 cap1 l1) (g1 : ∀ x ∈ l1, OpenG.Good x) (w2 : SlR E w a2 cap2 l2) (g2 : ∀ x ∈ l2, OpenG.Good x) (x0 : fewB l0 = true) (x1 : fewB l1 = true) (x2 : fewB l2 = true) (m0 : mayR l0 = true) (m1 : mayR l1 = true) (m2 : mayR l2 = true) (hk : a3.size ≤ 100) (ha : getR l0 a3 = none) (hb : getR l1 a3 = none) (hx : getR (mergeR l0 l1) a3 = none) :
    Calls Try.prog 4 #[.slice a0 l0.length cap0, .slice a1 l1.length cap1, .slice a2 l2.length cap2, .string a3] w fun e w' => e = .returned (.bool true) ∧ Below w.heap.size w w' := by
  have y0 := few_len x0
  have f0 := few_fits x0 g0
  have X0 := aside x0
  have y1 := few_len x1
  have f1 := few_fits x1 g1
  have X1 := aside x1
  have y2 := few_len x2
  have f2 := few_fits x2 g2
  have X2 := aside x2
  have r1 := merge_length l0 l1
  have r2 := merge_length l1 l2
  have r3 := merge_length (mergeR l0 l1) l2
  have q1 := merge_fits f0 f1
  have q2 := merge_fits f1 f2
  have e1 := merge_turn m0 m1
  have e2 := merge_twice m0 m1
  have e3 := merge_three m0 m1 m2
  have e4 := merge_self m0
  have mm := merge_may l0 l1
  obtain ⟨M, hM⟩ : ∃ l, mergeR l0 l1 = l := ⟨_, rfl⟩
  rw [hM] at r1 r3 q1 e1 e2 e3 mm hx
  obtain ⟨Y, hY⟩ : ∃ l, mergeR l1 l2 = l := ⟨_, rfl⟩
  rw [hY] at r2 q2 e3
  obtain ⟨X, hX⟩ : ∃ l, mergeR M l2 = l := ⟨_, rfl⟩
  rw [hX] at r3 e3
  have HM := aside hM
  have HY := aside hY
  have HX := aside hX
  have E1 := aside e1.symm
  have E2 := aside e2
  have E3 := aside e3.symm
  have E4 := aside e4
  have HA := aside ha
  have HB := aside hb
  have HG := aside hx
  have MM := aside mm
  have M0 := aside m0
  have M1 := aside m1
  have M2 := aside m2
  clear x0 m0 x1 m1 x2 m2 e1 e2 e3 e4 hM hY hX ha hb hx mm
  go_enter Try.func4, Try.ntmps4
  go_wp2_with fail
  refine (awake _).mono ?_
  rintro e W1 ⟨rfl, k1⟩
  have w0' := w0.below k1
  clear w0
  have w0 := w0'
  clear w0'
  have w1' := w1.below k1
  clear w1
  have w1 := w1'
  clear w1'
  have w2' := w2.below k1
  clear w2
  have w2 := w2'
  clear w2'
  have kb := k1
  clear k1
  go_wp2_with fail
  have hc := few_ret a0 cap0 l0 _ w0 (max_of g0)
  rw [X0.out] at hc
  refine hc.mono ?_
  clear hc
  rintro e w' ⟨rfl, rfl⟩
  go_wp2_with fail
  have hc := few_ret a1 cap1 l1 _ w1 (max_of g1)
  rw [X1.out] at hc
  refine hc.mono ?_
  clear hc
  rintro e w' ⟨rfl, rfl⟩
  go_wp2_with fail
  have hc := few_ret a2 cap2 l2 _ w2 (max_of g2)
  rw [X2.out] at hc
  refine hc.mono ?_
  clear hc
  rintro e w' ⟨rfl, rfl⟩
  go_wp2_with fail
  have hc := RegD.may_ret a0 cap0 l0 _ w0 f0 (by omega)
  rw [M0.out] at hc
  refine hc.mono ?_
  clear hc
  rintro e W2 ⟨rfl, k2⟩
  have w0' := w0.below k2
  clear w0
  have w0 := w0'
  clear w0'
  have w1' := w1.below k2
  clear w1
  have w1 := w1'
  clear w1'
  have w2' := w2.below k2
  clear w2
  have w2 := w2'
  clear w2'
  have kb' := kb.trans (k2.mono kb.size)
  clear kb k2
  have kb := kb'
  clear kb'
  go_wp2_with fail
  have hc := RegD.may_ret a1 cap1 l1 _ w1 f1 (by omega)
  rw [M1.out] at hc
  refine hc.mono ?_
  clear hc
  rintro e W3 ⟨rfl, k3⟩
  have w0' := w0.below k3
  clear w0
  have w0 := w0'
  clear w0'
  have w1' := w1.below k3
  clear w1
  have w1 := w1'
  clear w1'
  have w2' := w2.below k3
  clear w2
  have w2 := w2'
  clear w2'
  have kb' := kb.trans (k3.mono kb.size)
  clear kb k3
  have kb := kb'
  clear kb'
  go_wp2_with fail
  have hc := RegD.may_ret a2 cap2 l2 _ w2 f2 (by omega)
  rw [M2.out] at hc
  refine hc.mono ?_
  clear hc
  rintro e W4 ⟨rfl, k4⟩
  have w0' := w0.below k4
  clear w0
  have w0 := w0'
  clear w0'
  have w1' := w1.below k4
  clear w1
  have w1 := w1'
  clear w1'
  have w2' := w2.below k4
  clear w2
  have w2 := w2'
  clear w2'
  have kb' := kb.trans (k4.mono kb.size)
  clear kb k4
  have kb := kb'
  clear kb'
  go_wp2_with fail
  have hc := RegD.merge_ret a0 cap0 l0 a1 cap1 l1 _ w0 w1 f0 f1 (by omega) (by omega)
  rw [HM.out] at hc
  refine hc.mono ?_
  clear hc
  rintro e W5 ⟨AM, CM, rfl, SM, k5⟩
  have w0' := w0.below k5
  clear w0
  have w0 := w0'
  clear w0'
  have w1' := w1.below k5
  clear w1
  have w1 := w1'
  clear w1'
  have w2' := w2.below k5
  clear w2
  have w2 := w2'
  clear w2'
  have kb' := kb.trans (k5.mono kb.size)
  clear kb k5
  have kb := kb'
  clear kb'
  go_wp2_with fail
  have hc := RegD.merge_ret a1 cap1 l1 a0 cap0 l0 _ w1 w0 f1 f0 (by omega) (by omega)
  rw [E1.out] at hc
  refine hc.mono ?_
  clear hc
  rintro e W6 ⟨AT, CT, rfl, ST, k6⟩
  have w0' := w0.below k6
  clear w0
  have w0 := w0'
  clear w0'
  have w1' := w1.below k6
  clear w1
  have w1 := w1'
  clear w1'
  have w2' := w2.below k6
  clear w2
  have w2 := w2'
  clear w2'
  have SM' := SM.below k6
  clear SM
  have SM := SM'
  clear SM'
  have kb' := kb.trans (k6.mono kb.size)
  clear kb k6
  have kb := kb'
  clear kb'
  go_wp2_with fail
  have hc := same_ret AM CM M AT CT M _ SM ST
  rw [sameB_self] at hc
  refine hc.mono ?_
  clear hc
  rintro e W7 ⟨rfl, k7⟩
  clear ST
  have w0' := w0.below k7
  clear w0
  have w0 := w0'
  clear w0'
  have w1' := w1.below k7
  clear w1
  have w1 := w1'
  clear w1'
  have w2' := w2.below k7
  clear w2
  have w2 := w2'
  clear w2'
  have SM' := SM.below k7
  clear SM
  have SM := SM'
  clear SM'
  have kb' := kb.trans (k7.mono kb.size)
  clear kb k7
  have kb := kb'
  clear kb'
  go_wp2_with fail
  have hc := RegD.merge_ret AM CM M a1 cap1 l1 _ SM w1 q1 f1 (by omega) (by omega)
  rw [E2.out] at hc
  refine hc.mono ?_
  clear hc
  rintro e W8 ⟨AT, CT, rfl, ST, k8⟩
  have w0' := w0.below k8
  clear w0
  have w0 := w0'
  clear w0'
  have w1' := w1.below k8
  clear w1
  have w1 := w1'
  clear w1'
  have w2' := w2.below k8
  clear w2
  have w2 := w2'
  clear w2'
  have SM' := SM.below k8
  clear SM
  have SM := SM'
  clear SM'
  have kb' := kb.trans (k8.mono kb.size)
  clear kb k8
  have kb := kb'
  clear kb'
  go_wp2_with fail
  have hc := same_ret AM CM M AT CT M _ SM ST
  rw [sameB_self] at hc
  refine hc.mono ?_
  clear hc
  rintro e W9 ⟨rfl, k9⟩
  clear ST
  have w0' := w0.below k9
  clear w0
  have w0 := w0'
  clear w0'
  have w1' := w1.below k9
  clear w1
  have w1 := w1'
  clear w1'
  have w2' := w2.below k9
  clear w2
  have w2 := w2'
  clear w2'
  have SM' := SM.below k9
  clear SM
  have SM := SM'
  clear SM'
  have kb' := kb.trans (k9.mono kb.size)
  clear kb k9
  have kb := kb'
  clear kb'
  go_wp2_with fail
  have hc := RegD.merge_ret AM CM M a2 cap2 l2 _ SM w2 q1 f2 (by omega) (by omega)
  rw [HX.out] at hc
  refine hc.mono ?_
  clear hc
  rintro e W10 ⟨AT, CT, rfl, ST, k10⟩
  have w0' := w0.below k10
  clear w0
  have w0 := w0'
  clear w0'
  have w1' := w1.below k10
  clear w1
  have w1 := w1'
  clear w1'
  have w2' := w2.below k10
  clear w2
  have w2 := w2'
  clear w2'
  have SM' := SM.below k10
  clear SM
  have SM := SM'
  clear SM'
  have kb' := kb.trans (k10.mono kb.size)
  clear kb k10
  have kb := kb'
  clear kb'
  go_wp2_with fail
  have hc := RegD.merge_ret a1 cap1 l1 a2 cap2 l2 _ w1 w2 f1 f2 (by omega) (by omega)
  rw [HY.out] at hc
  refine hc.mono ?_
  clear hc
  rintro e W11 ⟨AU, CU, rfl, SU, k11⟩
  have w0' := w0.below k11
  clear w0
  have w0 := w0'
  clear w0'
  have w1' := w1.below k11
  clear w1
  have w1 := w1'
  clear w1'
  have w2' := w2.below k11
  clear w2
  have w2 := w2'
  clear w2'
  have SM' := SM.below k11
  clear SM
  have SM := SM'
  clear SM'
  have ST' := ST.below k11
  clear ST
  have ST := ST'
  clear ST'
  have kb' := kb.trans (k11.mono kb.size)
  clear kb k11
  have kb := kb'
  clear kb'
  go_wp2_with fail
  have hc := RegD.merge_ret a0 cap0 l0 AU CU Y _ w0 SU f0 q2 (by omega) (by omega)
  rw [E3.out] at hc
  refine hc.mono ?_
  clear hc
  rintro e W12 ⟨AV, CV, rfl, SV, k12⟩
  clear SU
  have w0' := w0.below k12
  clear w0
  have w0 := w0'
  clear w0'
  have w1' := w1.below k12
  clear w1
  have w1 := w1'
  clear w1'
  have w2' := w2.below k12
  clear w2
  have w2 := w2'
  clear w2'
  have SM' := SM.below k12
  clear SM
  have SM := SM'
  clear SM'
  have ST' := ST.below k12
  clear ST
  have ST := ST'
  clear ST'
  have kb' := kb.trans (k12.mono kb.size)
  clear kb k12
  have kb := kb'
  clear kb'
  go_wp2_with fail
  have hc := same_ret AT CT X AV CV X _ ST SV
  rw [sameB_self] at hc
  refine hc.mono ?_
  clear hc
  rintro e W13 ⟨rfl, k13⟩
  clear ST SV
  have w0' := w0.below k13
  clear w0
  have w0 := w0'
  clear w0'
  have w1' := w1.below k13
  clear w1
  have w1 := w1'
  clear w1'
  have w2' := w2.below k13
  clear w2
  have w2 := w2'
  clear w2'
  have SM' := SM.below k13
  clear SM
  have SM := SM'
  clear SM'
  have kb' := kb.trans (k13.mono kb.size)
  clear kb k13
  have kb := kb'
  clear kb'
  go_wp2_with fail
  have hc := RegD.merge_ret a0 cap0 l0 a0 cap0 l0 _ w0 w0 f0 f0 (by omega) (by omega)
  rw [E4.out] at hc
  refine hc.mono ?_
  clear hc
  rintro e W14 ⟨AT, CT, rfl, ST, k14⟩
  have w0' := w0.below k14
  clear w0
  have w0 := w0'
  clear w0'
  have w1' := w1.below k14
  clear w1
  have w1 := w1'
  clear w1'
  have w2' := w2.below k14
  clear w2
  have w2 := w2'
  clear w2'
  have SM' := SM.below k14
  clear SM
  have SM := SM'
  clear SM'
  have kb' := kb.trans (k14.mono kb.size)
  clear kb k14
  have kb := kb'
  clear kb'
  go_wp2_with fail
  have hc := same_ret AT CT l0 a0 cap0 l0 _ ST w0
  rw [sameB_self] at hc
  refine hc.mono ?_
  clear hc
  rintro e W15 ⟨rfl, k15⟩
  clear ST
  have w0' := w0.below k15
  clear w0
  have w0 := w0'
  clear w0'
  have w1' := w1.below k15
  clear w1
  have w1 := w1'
  clear w1'
  have w2' := w2.below k15
  clear w2
  have w2 := w2'
  clear w2'
  have SM' := SM.below k15
  clear SM
  have SM := SM'
  clear SM'
  have kb' := kb.trans (k15.mono kb.size)
  clear kb k15
  have kb := kb'
  clear kb'
  go_wp2_with fail
  have hc := RegD.get_ret AM CM M a3 _ SM (by omega)
  rw [HG.out, gv_eq] at hc
  refine hc.mono ?_
  clear hc
  rintro e W16 ⟨rfl, k16⟩
  have w0' := w0.below k16
  clear w0
  have w0 := w0'
  clear w0'
  have w1' := w1.below k16
  clear w1
  have w1 := w1'
  clear w1'
  have w2' := w2.below k16
  clear w2
  have w2 := w2'
  clear w2'
  have SM' := SM.below k16
  clear SM
  have SM := SM'
  clear SM'
  have kb' := kb.trans (k16.mono kb.size)
  clear kb k16
  have kb := kb'
  clear kb'
  go_wp2_with (first | go_skip | (refine wpList_store_new E rfl _ _ rfl _ _ _ rfl noR _ rfl rfl rfl rfl ?_; intro W17 BX k17 g17 s17; clear g17 s17; have w0' := w0.below k17; clear w0; have w0 := w0'; clear w0'; have w1' := w1.below k17; clear w1; have w1 := w1'; clear w1'; have w2' := w2.below k17; clear w2; have w2 := w2'; clear w2'; have SM' := SM.below k17; clear SM; have SM := SM'; clear SM'; have kb' := kb.trans (k17.mono kb.size); clear kb k17; have kb := kb'; clear kb') | (refine RowC.gload E _ rfl _ rfl noR BX rfl ?_))
  have hc := RegD.get_ret a0 cap0 l0 a3 _ w0 (by omega)
  rw [HA.out, gv_eq] at hc
  refine hc.mono ?_
  clear hc
  rintro e W18 ⟨rfl, k18⟩
  have w0' := w0.below k18
  clear w0
  have w0 := w0'
  clear w0'
  have w1' := w1.below k18
  clear w1
  have w1 := w1'
  clear w1'
  have w2' := w2.below k18
  clear w2
  have w2 := w2'
  clear w2'
  have SM' := SM.below k18
  clear SM
  have SM := SM'
  clear SM'
  have BX' := BX.below k18
  clear BX
  have BX := BX'
  clear BX'
  have kb' := kb.trans (k18.mono kb.size)
  clear kb k18
  have kb := kb'
  clear kb'
  go_wp2_with (first | go_skip | (refine RowC.gload E _ rfl _ rfl noR BX rfl ?_) | (refine wpList_store_new E rfl _ _ rfl _ _ _ rfl noR _ rfl rfl rfl rfl ?_; intro W19 BY k19 g19 s19; clear g19 s19; have w0' := w0.below k19; clear w0; have w0 := w0'; clear w0'; have w1' := w1.below k19; clear w1; have w1 := w1'; clear w1'; have w2' := w2.below k19; clear w2; have w2 := w2'; clear w2'; have SM' := SM.below k19; clear SM; have SM := SM'; clear SM'; have BX' := BX.below k19; clear BX; have BX := BX'; clear BX'; have kb' := kb.trans (k19.mono kb.size); clear kb k19; have kb := kb'; clear kb') | (refine RowC.gload E _ rfl _ rfl noR BY rfl ?_))
  have hc := RegD.get_ret a1 cap1 l1 a3 _ w1 (by omega)
  rw [HB.out, gv_eq] at hc
  refine hc.mono ?_
  clear hc
  rintro e W20 ⟨rfl, k20⟩
  have w0' := w0.below k20
  clear w0
  have w0 := w0'
  clear w0'
  have w1' := w1.below k20
  clear w1
  have w1 := w1'
  clear w1'
  have w2' := w2.below k20
  clear w2
  have w2 := w2'
  clear w2'
  have SM' := SM.below k20
  clear SM
  have SM := SM'
  clear SM'
  have BX' := BX.below k20
  clear BX
  have BX := BX'
  clear BX'
  have BY' := BY.below k20
  clear BY
  have BY := BY'
  clear BY'
  have kb' := kb.trans (k20.mono kb.size)
  clear kb k20
  have kb := kb'
  clear kb'
  go_wp2_with (first | go_skip | (refine RowC.gload E _ rfl _ rfl noR BX rfl ?_) | (refine RowC.gload E _ rfl _ rfl noR BY rfl ?_) | (refine wpList_store_new E rfl _ _ rfl _ _ _ rfl noR _ rfl rfl rfl rfl ?_; intro W21 BZ k21 g21 s21; clear g21 s21; have w0' := w0.below k21; clear w0; have w0 := w0'; clear w0'; have w1' := w1.below k21; clear w1; have w1 := w1'; clear w1'; have w2' := w2.below k21; clear w2; have w2 := w2'; clear w2'; have SM' := SM.below k21; clear SM; have SM := SM'; clear SM'; have BX' := BX.below k21; clear BX; have BX := BX'; clear BX'; have BY' := BY.below k21; clear BY; have BY := BY'; clear BY'; have kb' := kb.trans (k21.mono kb.size); clear kb k21; have kb := kb'; clear kb') | (refine RowC.gload E _ rfl _ rfl noR BZ rfl ?_))
  have hc := RegD.may_ret AM CM M _ SM q1 (by omega)
  rw [MM.out] at hc
  refine hc.mono ?_
  clear hc
  rintro e W22 ⟨rfl, k22⟩
  have w0' := w0.below k22
  clear w0
  have w0 := w0'
  clear w0'
  have w1' := w1.below k22
  clear w1
  have w1 := w1'
  clear w1'
  have w2' := w2.below k22
  clear w2
  have w2 := w2'
  clear w2'
  have SM' := SM.below k22
  clear SM
  have SM := SM'
  clear SM'
  have BX' := BX.below k22
  clear BX
  have BX := BX'
  clear BX'
  have BY' := BY.below k22
  clear BY
  have BY := BY'
  clear BY'
  have BZ' := BZ.below k22
  clear BZ
  have BZ := BZ'
  clear BZ'
  have kb' := kb.trans (k22.mono kb.size)
  clear kb k22
  have kb := kb'
  clear kb'
  go_wp2_with (first | go_skip | (refine RowC.gload E _ rfl _ rfl noR BX rfl ?_) | (refine RowC.gload E _ rfl _ rfl noR BY rfl ?_) | (refine RowC.gload E _ rfl _ rfl noR BZ rfl ?_))
  go_ret
  exact ⟨by first | rfl | simp, kb⟩

set_option maxRecDepth 100000 in
set_option maxHeartbeats 16000000 in
theorem way_yn (a0 : Option Addr) (cap0 : Nat) (l0 : List Rg) (a1 : Option Addr) (cap1 : Nat) (l1 : List Rg) (a2 : Option Addr) (cap2 : Nat) (l2 : List Rg) (a3 : ByteArray) (w : World) (w0 : SlR E w a0 cap0 l0) (g0 : ∀ x ∈ l0, OpenG.Good x) (w1 : SlR E w a1 cap1 l1) (g1 : ∀ x ∈ l1, OpenG.Good x) (w2 : SlR E w a2 cap2 l2) (g2 : ∀ x ∈ l2, OpenG.Good x) (x0 : fewB l0 = true) (x1 : fewB l1 = true) (x2 : fewB l2 = true) (m0 : mayR l0 = true) (m1 : mayR l1 = true) (m2 : mayR l2 = true) (hk : a3.size ≤ 100) (y : Rg) (ha : getR l0 a3 = some y) (hb : getR l1 a3 = none) (hx : getR (mergeR l0 l1) a3 = some y) :
    Calls Try.prog 4 #[.slice a0 l0.length cap0, .slice a1 l1.length cap1, .slice a2 l2.length cap2, .string a3] w fun e w' => e = .returned (.bool true) ∧ Below w.heap.size w w' := by
  have y0 := few_len x0
  have f0 := few_fits x0 g0
  have X0 := aside x0
  have y1 := few_len x1
  have f1 := few_fits x1 g1
  have X1 := aside x1
  have y2 := few_len x2
  have f2 := few_fits x2 g2
  have X2 := aside x2
  have r1 := merge_length l0 l1
  have r2 := merge_length l1 l2
  have r3 := merge_length (mergeR l0 l1) l2
  have q1 := merge_fits f0 f1
  have q2 := merge_fits f1 f2
  have e1 := merge_turn m0 m1
  have e2 := merge_twice m0 m1
  have e3 := merge_three m0 m1 m2
  have e4 := merge_self m0
  have mm := merge_may l0 l1
  obtain ⟨M, hM⟩ : ∃ l, mergeR l0 l1 = l := ⟨_, rfl⟩
  rw [hM] at r1 r3 q1 e1 e2 e3 mm hx
  obtain ⟨Y, hY⟩ : ∃ l, mergeR l1 l2 = l := ⟨_, rfl⟩
  rw [hY] at r2 q2 e3
  obtain ⟨X, hX⟩ : ∃ l, mergeR M l2 = l := ⟨_, rfl⟩
  rw [hX] at r3 e3
  have HM := aside hM
  have HY := aside hY
  have HX := aside hX
  have E1 := aside e1.symm
  have E2 := aside e2
  have E3 := aside e3.symm
  have E4 := aside e4
  have HA := aside ha
  have HB := aside hb
  have HG := aside hx
  have MM := aside mm
  have M0 := aside m0
  have M1 := aside m1
  have M2 := aside m2
  have t1 := equal_yes (x := y) rfl
  clear x0 m0 x1 m1 x2 m2 e1 e2 e3 e4 hM hY hX ha hb hx mm
  go_enter Try.func4, Try.ntmps4
  go_wp2_with fail
  refine (awake _).mono ?_
  rintro e W1 ⟨rfl, k1⟩
  have w0' := w0.below k1
  clear w0
  have w0 := w0'
  clear w0'
  have w1' := w1.below k1
  clear w1
  have w1 := w1'
  clear w1'
  have w2' := w2.below k1
  clear w2
  have w2 := w2'
  clear w2'
  have kb := k1
  clear k1
  go_wp2_with fail
  have hc := few_ret a0 cap0 l0 _ w0 (max_of g0)
  rw [X0.out] at hc
  refine hc.mono ?_
  clear hc
  rintro e w' ⟨rfl, rfl⟩
  go_wp2_with fail
  have hc := few_ret a1 cap1 l1 _ w1 (max_of g1)
  rw [X1.out] at hc
  refine hc.mono ?_
  clear hc
  rintro e w' ⟨rfl, rfl⟩
  go_wp2_with fail
  have hc := few_ret a2 cap2 l2 _ w2 (max_of g2)
  rw [X2.out] at hc
  refine hc.mono ?_
  clear hc
  rintro e w' ⟨rfl, rfl⟩
  go_wp2_with fail
  have hc := RegD.may_ret a0 cap0 l0 _ w0 f0 (by omega)
  rw [M0.out] at hc
  refine hc.mono ?_
  clear hc
  rintro e W2 ⟨rfl, k2⟩
  have w0' := w0.below k2
  clear w0
  have w0 := w0'
  clear w0'
  have w1' := w1.below k2
  clear w1
  have w1 := w1'
  clear w1'
  have w2' := w2.below k2
  clear w2
  have w2 := w2'
  clear w2'
  have kb' := kb.trans (k2.mono kb.size)
  clear kb k2
  have kb := kb'
  clear kb'
  go_wp2_with fail
  have hc := RegD.may_ret a1 cap1 l1 _ w1 f1 (by omega)
  rw [M1.out] at hc
  refine hc.mono ?_
  clear hc
  rintro e W3 ⟨rfl, k3⟩
  have w0' := w0.below k3
  clear w0
  have w0 := w0'
  clear w0'
  have w1' := w1.below k3
  clear w1
  have w1 := w1'
  clear w1'
  have w2' := w2.below k3
  clear w2
  have w2 := w2'
  clear w2'
  have kb' := kb.trans (k3.mono kb.size)
  clear kb k3
  have kb := kb'
  clear kb'
  go_wp2_with fail
  have hc := RegD.may_ret a2 cap2 l2 _ w2 f2 (by omega)
  rw [M2.out] at hc
  refine hc.mono ?_
  clear hc
  rintro e W4 ⟨rfl, k4⟩
  have w0' := w0.below k4
  clear w0
  have w0 := w0'
  clear w0'
  have w1' := w1.below k4
  clear w1
  have w1 := w1'
  clear w1'
  have w2' := w2.below k4
  clear w2
  have w2 := w2'
  clear w2'
  have kb' := kb.trans (k4.mono kb.size)
  clear kb k4
  have kb := kb'
  clear kb'
  go_wp2_with fail
  have hc := RegD.merge_ret a0 cap0 l0 a1 cap1 l1 _ w0 w1 f0 f1 (by omega) (by omega)
  rw [HM.out] at hc
  refine hc.mono ?_
  clear hc
  rintro e W5 ⟨AM, CM, rfl, SM, k5⟩
  have w0' := w0.below k5
  clear w0
  have w0 := w0'
  clear w0'
  have w1' := w1.below k5
  clear w1
  have w1 := w1'
  clear w1'
  have w2' := w2.below k5
  clear w2
  have w2 := w2'
  clear w2'
  have kb' := kb.trans (k5.mono kb.size)
  clear kb k5
  have kb := kb'
  clear kb'
  go_wp2_with fail
  have hc := RegD.merge_ret a1 cap1 l1 a0 cap0 l0 _ w1 w0 f1 f0 (by omega) (by omega)
  rw [E1.out] at hc
  refine hc.mono ?_
  clear hc
  rintro e W6 ⟨AT, CT, rfl, ST, k6⟩
  have w0' := w0.below k6
  clear w0
  have w0 := w0'
  clear w0'
  have w1' := w1.below k6
  clear w1
  have w1 := w1'
  clear w1'
  have w2' := w2.below k6
  clear w2
  have w2 := w2'
  clear w2'
  have SM' := SM.below k6
  clear SM
  have SM := SM'
  clear SM'
  have kb' := kb.trans (k6.mono kb.size)
  clear kb k6
  have kb := kb'
  clear kb'
  go_wp2_with fail
  have hc := same_ret AM CM M AT CT M _ SM ST
  rw [sameB_self] at hc
  refine hc.mono ?_
  clear hc
  rintro e W7 ⟨rfl, k7⟩
  clear ST
  have w0' := w0.below k7
  clear w0
  have w0 := w0'
  clear w0'
  have w1' := w1.below k7
  clear w1
  have w1 := w1'
  clear w1'
  have w2' := w2.below k7
  clear w2
  have w2 := w2'
  clear w2'
  have SM' := SM.below k7
  clear SM
  have SM := SM'
  clear SM'
  have kb' := kb.trans (k7.mono kb.size)
  clear kb k7
  have kb := kb'
  clear kb'
  go_wp2_with fail
  have hc := RegD.merge_ret AM CM M a1 cap1 l1 _ SM w1 q1 f1 (by omega) (by omega)
  rw [E2.out] at hc
  refine hc.mono ?_
  clear hc
  rintro e W8 ⟨AT, CT, rfl, ST, k8⟩
  have w0' := w0.below k8
  clear w0
  have w0 := w0'
  clear w0'
  have w1' := w1.below k8
  clear w1
  have w1 := w1'
  clear w1'
  have w2' := w2.below k8
  clear w2
  have w2 := w2'
  clear w2'
  have SM' := SM.below k8
  clear SM
  have SM := SM'
  clear SM'
  have kb' := kb.trans (k8.mono kb.size)
  clear kb k8
  have kb := kb'
  clear kb'
  go_wp2_with fail
  have hc := same_ret AM CM M AT CT M _ SM ST
  rw [sameB_self] at hc
  refine hc.mono ?_
  clear hc
  rintro e W9 ⟨rfl, k9⟩
  clear ST
  have w0' := w0.below k9
  clear w0
  have w0 := w0'
  clear w0'
  have w1' := w1.below k9
  clear w1
  have w1 := w1'
  clear w1'
  have w2' := w2.below k9
  clear w2
  have w2 := w2'
  clear w2'
  have SM' := SM.below k9
  clear SM
  have SM := SM'
  clear SM'
  have kb' := kb.trans (k9.mono kb.size)
  clear kb k9
  have kb := kb'
  clear kb'
  go_wp2_with fail
  have hc := RegD.merge_ret AM CM M a2 cap2 l2 _ SM w2 q1 f2 (by omega) (by omega)
  rw [HX.out] at hc
  refine hc.mono ?_
  clear hc
  rintro e W10 ⟨AT, CT, rfl, ST, k10⟩
  have w0' := w0.below k10
  clear w0
  have w0 := w0'
  clear w0'
  have w1' := w1.below k10
  clear w1
  have w1 := w1'
  clear w1'
  have w2' := w2.below k10
  clear w2
  have w2 := w2'
  clear w2'
  have SM' := SM.below k10
  clear SM
  have SM := SM'
  clear SM'
  have kb' := kb.trans (k10.mono kb.size)
  clear kb k10
  have kb := kb'
  clear kb'
  go_wp2_with fail
  have hc := RegD.merge_ret a1 cap1 l1 a2 cap2 l2 _ w1 w2 f1 f2 (by omega) (by omega)
  rw [HY.out] at hc
  refine hc.mono ?_
  clear hc
  rintro e W11 ⟨AU, CU, rfl, SU, k11⟩
  have w0' := w0.below k11
  clear w0
  have w0 := w0'
  clear w0'
  have w1' := w1.below k11
  clear w1
  have w1 := w1'
  clear w1'
  have w2' := w2.below k11
  clear w2
  have w2 := w2'
  clear w2'
  have SM' := SM.below k11
  clear SM
  have SM := SM'
  clear SM'
  have ST' := ST.below k11
  clear ST
  have ST := ST'
  clear ST'
  have kb' := kb.trans (k11.mono kb.size)
  clear kb k11
  have kb := kb'
  clear kb'
  go_wp2_with fail
  have hc := RegD.merge_ret a0 cap0 l0 AU CU Y _ w0 SU f0 q2 (by omega) (by omega)
  rw [E3.out] at hc
  refine hc.mono ?_
  clear hc
  rintro e W12 ⟨AV, CV, rfl, SV, k12⟩
  clear SU
  have w0' := w0.below k12
  clear w0
  have w0 := w0'
  clear w0'
  have w1' := w1.below k12
  clear w1
  have w1 := w1'
  clear w1'
  have w2' := w2.below k12
  clear w2
  have w2 := w2'
  clear w2'
  have SM' := SM.below k12
  clear SM
  have SM := SM'
  clear SM'
  have ST' := ST.below k12
  clear ST
  have ST := ST'
  clear ST'
  have kb' := kb.trans (k12.mono kb.size)
  clear kb k12
  have kb := kb'
  clear kb'
  go_wp2_with fail
  have hc := same_ret AT CT X AV CV X _ ST SV
  rw [sameB_self] at hc
  refine hc.mono ?_
  clear hc
  rintro e W13 ⟨rfl, k13⟩
  clear ST SV
  have w0' := w0.below k13
  clear w0
  have w0 := w0'
  clear w0'
  have w1' := w1.below k13
  clear w1
  have w1 := w1'
  clear w1'
  have w2' := w2.below k13
  clear w2
  have w2 := w2'
  clear w2'
  have SM' := SM.below k13
  clear SM
  have SM := SM'
  clear SM'
  have kb' := kb.trans (k13.mono kb.size)
  clear kb k13
  have kb := kb'
  clear kb'
  go_wp2_with fail
  have hc := RegD.merge_ret a0 cap0 l0 a0 cap0 l0 _ w0 w0 f0 f0 (by omega) (by omega)
  rw [E4.out] at hc
  refine hc.mono ?_
  clear hc
  rintro e W14 ⟨AT, CT, rfl, ST, k14⟩
  have w0' := w0.below k14
  clear w0
  have w0 := w0'
  clear w0'
  have w1' := w1.below k14
  clear w1
  have w1 := w1'
  clear w1'
  have w2' := w2.below k14
  clear w2
  have w2 := w2'
  clear w2'
  have SM' := SM.below k14
  clear SM
  have SM := SM'
  clear SM'
  have kb' := kb.trans (k14.mono kb.size)
  clear kb k14
  have kb := kb'
  clear kb'
  go_wp2_with fail
  have hc := same_ret AT CT l0 a0 cap0 l0 _ ST w0
  rw [sameB_self] at hc
  refine hc.mono ?_
  clear hc
  rintro e W15 ⟨rfl, k15⟩
  clear ST
  have w0' := w0.below k15
  clear w0
  have w0 := w0'
  clear w0'
  have w1' := w1.below k15
  clear w1
  have w1 := w1'
  clear w1'
  have w2' := w2.below k15
  clear w2
  have w2 := w2'
  clear w2'
  have SM' := SM.below k15
  clear SM
  have SM := SM'
  clear SM'
  have kb' := kb.trans (k15.mono kb.size)
  clear kb k15
  have kb := kb'
  clear kb'
  go_wp2_with fail
  have hc := RegD.get_ret AM CM M a3 _ SM (by omega)
  rw [HG.out, gv_eq] at hc
  refine hc.mono ?_
  clear hc
  rintro e W16 ⟨rfl, k16⟩
  have w0' := w0.below k16
  clear w0
  have w0 := w0'
  clear w0'
  have w1' := w1.below k16
  clear w1
  have w1 := w1'
  clear w1'
  have w2' := w2.below k16
  clear w2
  have w2 := w2'
  clear w2'
  have SM' := SM.below k16
  clear SM
  have SM := SM'
  clear SM'
  have kb' := kb.trans (k16.mono kb.size)
  clear kb k16
  have kb := kb'
  clear kb'
  go_wp2_with (first | go_skip | (refine wpList_store_new E rfl _ _ rfl _ _ _ rfl y _ rfl rfl rfl rfl ?_; intro W17 BX k17 g17 s17; clear g17 s17; have w0' := w0.below k17; clear w0; have w0 := w0'; clear w0'; have w1' := w1.below k17; clear w1; have w1 := w1'; clear w1'; have w2' := w2.below k17; clear w2; have w2 := w2'; clear w2'; have SM' := SM.below k17; clear SM; have SM := SM'; clear SM'; have kb' := kb.trans (k17.mono kb.size); clear kb k17; have kb := kb'; clear kb') | (refine RowC.gload E _ rfl _ rfl y BX rfl ?_))
  have hc := RegD.get_ret a0 cap0 l0 a3 _ w0 (by omega)
  rw [HA.out, gv_eq] at hc
  refine hc.mono ?_
  clear hc
  rintro e W18 ⟨rfl, k18⟩
  have w0' := w0.below k18
  clear w0
  have w0 := w0'
  clear w0'
  have w1' := w1.below k18
  clear w1
  have w1 := w1'
  clear w1'
  have w2' := w2.below k18
  clear w2
  have w2 := w2'
  clear w2'
  have SM' := SM.below k18
  clear SM
  have SM := SM'
  clear SM'
  have BX' := BX.below k18
  clear BX
  have BX := BX'
  clear BX'
  have kb' := kb.trans (k18.mono kb.size)
  clear kb k18
  have kb := kb'
  clear kb'
  go_wp2_with (first | go_skip | (refine RowC.gload E _ rfl _ rfl y BX rfl ?_) | (refine wpList_store_new E rfl _ _ rfl _ _ _ rfl y _ rfl rfl rfl rfl ?_; intro W19 BY k19 g19 s19; clear g19 s19; have w0' := w0.below k19; clear w0; have w0 := w0'; clear w0'; have w1' := w1.below k19; clear w1; have w1 := w1'; clear w1'; have w2' := w2.below k19; clear w2; have w2 := w2'; clear w2'; have SM' := SM.below k19; clear SM; have SM := SM'; clear SM'; have BX' := BX.below k19; clear BX; have BX := BX'; clear BX'; have kb' := kb.trans (k19.mono kb.size); clear kb k19; have kb := kb'; clear kb') | (refine RowC.gload E _ rfl _ rfl y BY rfl ?_))
  have hc := RegD.get_ret a1 cap1 l1 a3 _ w1 (by omega)
  rw [HB.out, gv_eq] at hc
  refine hc.mono ?_
  clear hc
  rintro e W20 ⟨rfl, k20⟩
  have w0' := w0.below k20
  clear w0
  have w0 := w0'
  clear w0'
  have w1' := w1.below k20
  clear w1
  have w1 := w1'
  clear w1'
  have w2' := w2.below k20
  clear w2
  have w2 := w2'
  clear w2'
  have SM' := SM.below k20
  clear SM
  have SM := SM'
  clear SM'
  have BX' := BX.below k20
  clear BX
  have BX := BX'
  clear BX'
  have BY' := BY.below k20
  clear BY
  have BY := BY'
  clear BY'
  have kb' := kb.trans (k20.mono kb.size)
  clear kb k20
  have kb := kb'
  clear kb'
  go_wp2_with (first | go_skip | (refine RowC.gload E _ rfl _ rfl y BX rfl ?_) | (refine RowC.gload E _ rfl _ rfl y BY rfl ?_) | (refine wpList_store_new E rfl _ _ rfl _ _ _ rfl noR _ rfl rfl rfl rfl ?_; intro W21 BZ k21 g21 s21; clear g21 s21; have w0' := w0.below k21; clear w0; have w0 := w0'; clear w0'; have w1' := w1.below k21; clear w1; have w1 := w1'; clear w1'; have w2' := w2.below k21; clear w2; have w2 := w2'; clear w2'; have SM' := SM.below k21; clear SM; have SM := SM'; clear SM'; have BX' := BX.below k21; clear BX; have BX := BX'; clear BX'; have BY' := BY.below k21; clear BY; have BY := BY'; clear BY'; have kb' := kb.trans (k21.mono kb.size); clear kb k21; have kb := kb'; clear kb') | (refine RowC.gload E _ rfl _ rfl noR BZ rfl ?_))
  have hc := RegD.may_ret AM CM M _ SM q1 (by omega)
  rw [MM.out] at hc
  refine hc.mono ?_
  clear hc
  rintro e W22 ⟨rfl, k22⟩
  have w0' := w0.below k22
  clear w0
  have w0 := w0'
  clear w0'
  have w1' := w1.below k22
  clear w1
  have w1 := w1'
  clear w1'
  have w2' := w2.below k22
  clear w2
  have w2 := w2'
  clear w2'
  have SM' := SM.below k22
  clear SM
  have SM := SM'
  clear SM'
  have BX' := BX.below k22
  clear BX
  have BX := BX'
  clear BX'
  have BY' := BY.below k22
  clear BY
  have BY := BY'
  clear BY'
  have BZ' := BZ.below k22
  clear BZ
  have BZ := BZ'
  clear BZ'
  have kb' := kb.trans (k22.mono kb.size)
  clear kb k22
  have kb := kb'
  clear kb'
  go_wp2_with (first | go_skip | (refine RowC.gload E _ rfl _ rfl y BX rfl ?_) | (refine RowC.gload E _ rfl _ rfl y BY rfl ?_) | (refine RowC.gload E _ rfl _ rfl noR BZ rfl ?_))
  have hc := fun W => RegD.newer_ret y y W
  simp only [newer_irrefl] at hc
  refine (hc _).mono ?_
  clear hc
  rintro e W23 ⟨rfl, k23⟩
  have w0' := w0.below k23
  clear w0
  have w0 := w0'
  clear w0'
  have w1' := w1.below k23
  clear w1
  have w1 := w1'
  clear w1'
  have w2' := w2.below k23
  clear w2
  have w2 := w2'
  clear w2'
  have SM' := SM.below k23
  clear SM
  have SM := SM'
  clear SM'
  have BX' := BX.below k23
  clear BX
  have BX := BX'
  clear BX'
  have BY' := BY.below k23
  clear BY
  have BY := BY'
  clear BY'
  have BZ' := BZ.below k23
  clear BZ
  have BZ := BZ'
  clear BZ'
  have kb' := kb.trans (k23.mono kb.size)
  clear kb k23
  have kb := kb'
  clear kb'
  go_wp2_with (first | go_skip | (refine RowC.gload E _ rfl _ rfl y BX rfl ?_) | (refine RowC.gload E _ rfl _ rfl y BY rfl ?_) | (refine RowC.gload E _ rfl _ rfl noR BZ rfl ?_))
  go_ret
  exact ⟨by first | rfl | simp, kb⟩

set_option maxRecDepth 100000 in
set_option maxHeartbeats 16000000 in
theorem way_ny (a0 : Option Addr) (cap0 : Nat) (l0 : List Rg) (a1 : Option Addr) (cap1 : Nat) (l1 : List Rg) (a2 : Option Addr) (cap2 : Nat) (l2 : List Rg) (a3 : ByteArray) (w : World) (w0 : SlR E w a0 cap0 l0) (g0 : ∀ x ∈ l0, OpenG.Good x) (w1 : SlR E w a1 cap1 l1) (g1 : ∀ x ∈ l1, OpenG.Good x) (w2 : SlR E w a2 cap2 l2) (g2 : ∀ x ∈ l2, OpenG.Good x) (x0 : fewB l0 = true) (x1 : fewB l1 = true) (x2 : fewB l2 = true) (m0 : mayR l0 = true) (m1 : mayR l1 = true) (m2 : mayR l2 = true) (hk : a3.size ≤ 100) (z : Rg) (ha : getR l0 a3 = none) (hb : getR l1 a3 = some z) (hx : getR (mergeR l0 l1) a3 = some z) :
    Calls Try.prog 4 #[.slice a0 l0.length cap0, .slice a1 l1.length cap1, .slice a2 l2.length cap2, .string a3] w fun e w' => e = .returned (.bool true) ∧ Below w.heap.size w w' := by
  have y0 := few_len x0
  have f0 := few_fits x0 g0
  have X0 := aside x0
  have y1 := few_len x1
  have f1 := few_fits x1 g1
  have X1 := aside x1
  have y2 := few_len x2
  have f2 := few_fits x2 g2
  have X2 := aside x2
  have r1 := merge_length l0 l1
  have r2 := merge_length l1 l2
  have r3 := merge_length (mergeR l0 l1) l2
  have q1 := merge_fits f0 f1
  have q2 := merge_fits f1 f2
  have e1 := merge_turn m0 m1
  have e2 := merge_twice m0 m1
  have e3 := merge_three m0 m1 m2
  have e4 := merge_self m0
  have mm := merge_may l0 l1
  obtain ⟨M, hM⟩ : ∃ l, mergeR l0 l1 = l := ⟨_, rfl⟩
  rw [hM] at r1 r3 q1 e1 e2 e3 mm hx
  obtain ⟨Y, hY⟩ : ∃ l, mergeR l1 l2 = l := ⟨_, rfl⟩
  rw [hY] at r2 q2 e3
  obtain ⟨X, hX⟩ : ∃ l, mergeR M l2 = l := ⟨_, rfl⟩
  rw [hX] at r3 e3
  have HM := aside hM
  have HY := aside hY
  have HX := aside hX
  have E1 := aside e1.symm
  have E2 := aside e2
  have E3 := aside e3.symm
  have E4 := aside e4
  have HA := aside ha
  have HB := aside hb
  have HG := aside hx
  have MM := aside mm
  have M0 := aside m0
  have M1 := aside m1
  have M2 := aside m2
  have t1 := equal_yes (x := z) rfl
  clear x0 m0 x1 m1 x2 m2 e1 e2 e3 e4 hM hY hX ha hb hx mm
  go_enter Try.func4, Try.ntmps4
  go_wp2_with fail
  refine (awake _).mono ?_
  rintro e W1 ⟨rfl, k1⟩
  have w0' := w0.below k1
  clear w0
  have w0 := w0'
  clear w0'
  have w1' := w1.below k1
  clear w1
  have w1 := w1'
  clear w1'
  have w2' := w2.below k1
  clear w2
  have w2 := w2'
  clear w2'
  have kb := k1
  clear k1
  go_wp2_with fail
  have hc := few_ret a0 cap0 l0 _ w0 (max_of g0)
  rw [X0.out] at hc
  refine hc.mono ?_
  clear hc
  rintro e w' ⟨rfl, rfl⟩
  go_wp2_with fail
  have hc := few_ret a1 cap1 l1 _ w1 (max_of g1)
  rw [X1.out] at hc
  refine hc.mono ?_
  clear hc
  rintro e w' ⟨rfl, rfl⟩
  go_wp2_with fail
  have hc := few_ret a2 cap2 l2 _ w2 (max_of g2)
  rw [X2.out] at hc
  refine hc.mono ?_
  clear hc
  rintro e w' ⟨rfl, rfl⟩
  go_wp2_with fail
  have hc := RegD.may_ret a0 cap0 l0 _ w0 f0 (by omega)
  rw [M0.out] at hc
  refine hc.mono ?_
  clear hc
  rintro e W2 ⟨rfl, k2⟩
  have w0' := w0.below k2
  clear w0
  have w0 := w0'
  clear w0'
  have w1' := w1.below k2
  clear w1
  have w1 := w1'
  clear w1'
  have w2' := w2.below k2
  clear w2
  have w2 := w2'
  clear w2'
  have kb' := kb.trans (k2.mono kb.size)
  clear kb k2
  have kb := kb'
  clear kb'
  go_wp2_with fail
  have hc := RegD.may_ret a1 cap1 l1 _ w1 f1 (by omega)
  rw [M1.out] at hc
  refine hc.mono ?_
  clear hc
  rintro e W3 ⟨rfl, k3⟩
  have w0' := w0.below k3
  clear w0
  have w0 := w0'
  clear w0'
  have w1' := w1.below k3
  clear w1
  have w1 := w1'
  clear w1'
  have w2' := w2.below k3
  clear w2
  have w2 := w2'
  clear w2'
  have kb' := kb.trans (k3.mono kb.size)
  clear kb k3
  have kb := kb'
  clear kb'
  go_wp2_with fail
  have hc := RegD.may_ret a2 cap2 l2 _ w2 f2 (by omega)
  rw [M2.out] at hc
  refine hc.mono ?_
  clear hc
  rintro e W4 ⟨rfl, k4⟩
  have w0' := w0.below k4
  clear w0
  have w0 := w0'
  clear w0'
  have w1' := w1.below k4
  clear w1
  have w1 := w1'
  clear w1'
  have w2' := w2.below k4
  clear w2
  have w2 := w2'
  clear w2'
  have kb' := kb.trans (k4.mono kb.size)
  clear kb k4
  have kb := kb'
  clear kb'
  go_wp2_with fail
  have hc := RegD.merge_ret a0 cap0 l0 a1 cap1 l1 _ w0 w1 f0 f1 (by omega) (by omega)
  rw [HM.out] at hc
  refine hc.mono ?_
  clear hc
  rintro e W5 ⟨AM, CM, rfl, SM, k5⟩
  have w0' := w0.below k5
  clear w0
  have w0 := w0'
  clear w0'
  have w1' := w1.below k5
  clear w1
  have w1 := w1'
  clear w1'
  have w2' := w2.below k5
  clear w2
  have w2 := w2'
  clear w2'
  have kb' := kb.trans (k5.mono kb.size)
  clear kb k5
  have kb := kb'
  clear kb'
  go_wp2_with fail
  have hc := RegD.merge_ret a1 cap1 l1 a0 cap0 l0 _ w1 w0 f1 f0 (by omega) (by omega)
  rw [E1.out] at hc
  refine hc.mono ?_
  clear hc
  rintro e W6 ⟨AT, CT, rfl, ST, k6⟩
  have w0' := w0.below k6
  clear w0
  have w0 := w0'
  clear w0'
  have w1' := w1.below k6
  clear w1
  have w1 := w1'
  clear w1'
  have w2' := w2.below k6
  clear w2
  have w2 := w2'
  clear w2'
  have SM' := SM.below k6
  clear SM
  have SM := SM'
  clear SM'
  have kb' := kb.trans (k6.mono kb.size)
  clear kb k6
  have kb := kb'
  clear kb'
  go_wp2_with fail
  have hc := same_ret AM CM M AT CT M _ SM ST
  rw [sameB_self] at hc
  refine hc.mono ?_
  clear hc
  rintro e W7 ⟨rfl, k7⟩
  clear ST
  have w0' := w0.below k7
  clear w0
  have w0 := w0'
  clear w0'
  have w1' := w1.below k7
  clear w1
  have w1 := w1'
  clear w1'
  have w2' := w2.below k7
  clear w2
  have w2 := w2'
  clear w2'
  have SM' := SM.below k7
  clear SM
  have SM := SM'
  clear SM'
  have kb' := kb.trans (k7.mono kb.size)
  clear kb k7
  have kb := kb'
  clear kb'
  go_wp2_with fail
  have hc := RegD.merge_ret AM CM M a1 cap1 l1 _ SM w1 q1 f1 (by omega) (by omega)
  rw [E2.out] at hc
  refine hc.mono ?_
  clear hc
  rintro e W8 ⟨AT, CT, rfl, ST, k8⟩
  have w0' := w0.below k8
  clear w0
  have w0 := w0'
  clear w0'
  have w1' := w1.below k8
  clear w1
  have w1 := w1'
  clear w1'
  have w2' := w2.below k8
  clear w2
  have w2 := w2'
  clear w2'
  have SM' := SM.below k8
  clear SM
  have SM := SM'
  clear SM'
  have kb' := kb.trans (k8.mono kb.size)
  clear kb k8
  have kb := kb'
  clear kb'
  go_wp2_with fail
  have hc := same_ret AM CM M AT CT M _ SM ST
  rw [sameB_self] at hc
  refine hc.mono ?_
  clear hc
  rintro e W9 ⟨rfl, k9⟩
  clear ST
  have w0' := w0.below k9
  clear w0
  have w0 := w0'
  clear w0'
  have w1' := w1.below k9
  clear w1
  have w1 := w1'
  clear w1'
  have w2' := w2.below k9
  clear w2
  have w2 := w2'
  clear w2'
  have SM' := SM.below k9
  clear SM
  have SM := SM'
  clear SM'
  have kb' := kb.trans (k9.mono kb.size)
  clear kb k9
  have kb := kb'
  clear kb'
  go_wp2_with fail
  have hc := RegD.merge_ret AM CM M a2 cap2 l2 _ SM w2 q1 f2 (by omega) (by omega)
  rw [HX.out] at hc
  refine hc.mono ?_
  clear hc
  rintro e W10 ⟨AT, CT, rfl, ST, k10⟩
  have w0' := w0.below k10
  clear w0
  have w0 := w0'
  clear w0'
  have w1' := w1.below k10
  clear w1
  have w1 := w1'
  clear w1'
  have w2' := w2.below k10
  clear w2
  have w2 := w2'
  clear w2'
  have SM' := SM.below k10
  clear SM
  have SM := SM'
  clear SM'
  have kb' := kb.trans (k10.mono kb.size)
  clear kb k10
  have kb := kb'
  clear kb'
  go_wp2_with fail
  have hc := RegD.merge_ret a1 cap1 l1 a2 cap2 l2 _ w1 w2 f1 f2 (by omega) (by omega)
  rw [HY.out] at hc
  refine hc.mono ?_
  clear hc
  rintro e W11 ⟨AU, CU, rfl, SU, k11⟩
  have w0' := w0.below k11
  clear w0
  have w0 := w0'
  clear w0'
  have w1' := w1.below k11
  clear w1
  have w1 := w1'
  clear w1'
  have w2' := w2.below k11
  clear w2
  have w2 := w2'
  clear w2'
  have SM' := SM.below k11
  clear SM
  have SM := SM'
  clear SM'
  have ST' := ST.below k11
  clear ST
  have ST := ST'
  clear ST'
  have kb' := kb.trans (k11.mono kb.size)
  clear kb k11
  have kb := kb'
  clear kb'
  go_wp2_with fail
  have hc := RegD.merge_ret a0 cap0 l0 AU CU Y _ w0 SU f0 q2 (by omega) (by omega)
  rw [E3.out] at hc
  refine hc.mono ?_
  clear hc
  rintro e W12 ⟨AV, CV, rfl, SV, k12⟩
  clear SU
  have w0' := w0.below k12
  clear w0
  have w0 := w0'
  clear w0'
  have w1' := w1.below k12
  clear w1
  have w1 := w1'
  clear w1'
  have w2' := w2.below k12
  clear w2
  have w2 := w2'
  clear w2'
  have SM' := SM.below k12
  clear SM
  have SM := SM'
  clear SM'
  have ST' := ST.below k12
  clear ST
  have ST := ST'
  clear ST'
  have kb' := kb.trans (k12.mono kb.size)
  clear kb k12
  have kb := kb'
  clear kb'
  go_wp2_with fail
  have hc := same_ret AT CT X AV CV X _ ST SV
  rw [sameB_self] at hc
  refine hc.mono ?_
  clear hc
  rintro e W13 ⟨rfl, k13⟩
  clear ST SV
  have w0' := w0.below k13
  clear w0
  have w0 := w0'
  clear w0'
  have w1' := w1.below k13
  clear w1
  have w1 := w1'
  clear w1'
  have w2' := w2.below k13
  clear w2
  have w2 := w2'
  clear w2'
  have SM' := SM.below k13
  clear SM
  have SM := SM'
  clear SM'
  have kb' := kb.trans (k13.mono kb.size)
  clear kb k13
  have kb := kb'
  clear kb'
  go_wp2_with fail
  have hc := RegD.merge_ret a0 cap0 l0 a0 cap0 l0 _ w0 w0 f0 f0 (by omega) (by omega)
  rw [E4.out] at hc
  refine hc.mono ?_
  clear hc
  rintro e W14 ⟨AT, CT, rfl, ST, k14⟩
  have w0' := w0.below k14
  clear w0
  have w0 := w0'
  clear w0'
  have w1' := w1.below k14
  clear w1
  have w1 := w1'
  clear w1'
  have w2' := w2.below k14
  clear w2
  have w2 := w2'
  clear w2'
  have SM' := SM.below k14
  clear SM
  have SM := SM'
  clear SM'
  have kb' := kb.trans (k14.mono kb.size)
  clear kb k14
  have kb := kb'
  clear kb'
  go_wp2_with fail
  have hc := same_ret AT CT l0 a0 cap0 l0 _ ST w0
  rw [sameB_self] at hc
  refine hc.mono ?_
  clear hc
  rintro e W15 ⟨rfl, k15⟩
  clear ST
  have w0' := w0.below k15
  clear w0
  have w0 := w0'
  clear w0'
  have w1' := w1.below k15
  clear w1
  have w1 := w1'
  clear w1'
  have w2' := w2.below k15
  clear w2
  have w2 := w2'
  clear w2'
  have SM' := SM.below k15
  clear SM
  have SM := SM'
  clear SM'
  have kb' := kb.trans (k15.mono kb.size)
  clear kb k15
  have kb := kb'
  clear kb'
  go_wp2_with fail
  have hc := RegD.get_ret AM CM M a3 _ SM (by omega)
  rw [HG.out, gv_eq] at hc
  refine hc.mono ?_
  clear hc
  rintro e W16 ⟨rfl, k16⟩
  have w0' := w0.below k16
  clear w0
  have w0 := w0'
  clear w0'
  have w1' := w1.below k16
  clear w1
  have w1 := w1'
  clear w1'
  have w2' := w2.below k16
  clear w2
  have w2 := w2'
  clear w2'
  have SM' := SM.below k16
  clear SM
  have SM := SM'
  clear SM'
  have kb' := kb.trans (k16.mono kb.size)
  clear kb k16
  have kb := kb'
  clear kb'
  go_wp2_with (first | go_skip | (refine wpList_store_new E rfl _ _ rfl _ _ _ rfl z _ rfl rfl rfl rfl ?_; intro W17 BX k17 g17 s17; clear g17 s17; have w0' := w0.below k17; clear w0; have w0 := w0'; clear w0'; have w1' := w1.below k17; clear w1; have w1 := w1'; clear w1'; have w2' := w2.below k17; clear w2; have w2 := w2'; clear w2'; have SM' := SM.below k17; clear SM; have SM := SM'; clear SM'; have kb' := kb.trans (k17.mono kb.size); clear kb k17; have kb := kb'; clear kb') | (refine RowC.gload E _ rfl _ rfl z BX rfl ?_))
  have hc := RegD.get_ret a0 cap0 l0 a3 _ w0 (by omega)
  rw [HA.out, gv_eq] at hc
  refine hc.mono ?_
  clear hc
  rintro e W18 ⟨rfl, k18⟩
  have w0' := w0.below k18
  clear w0
  have w0 := w0'
  clear w0'
  have w1' := w1.below k18
  clear w1
  have w1 := w1'
  clear w1'
  have w2' := w2.below k18
  clear w2
  have w2 := w2'
  clear w2'
  have SM' := SM.below k18
  clear SM
  have SM := SM'
  clear SM'
  have BX' := BX.below k18
  clear BX
  have BX := BX'
  clear BX'
  have kb' := kb.trans (k18.mono kb.size)
  clear kb k18
  have kb := kb'
  clear kb'
  go_wp2_with (first | go_skip | (refine RowC.gload E _ rfl _ rfl z BX rfl ?_) | (refine wpList_store_new E rfl _ _ rfl _ _ _ rfl noR _ rfl rfl rfl rfl ?_; intro W19 BY k19 g19 s19; clear g19 s19; have w0' := w0.below k19; clear w0; have w0 := w0'; clear w0'; have w1' := w1.below k19; clear w1; have w1 := w1'; clear w1'; have w2' := w2.below k19; clear w2; have w2 := w2'; clear w2'; have SM' := SM.below k19; clear SM; have SM := SM'; clear SM'; have BX' := BX.below k19; clear BX; have BX := BX'; clear BX'; have kb' := kb.trans (k19.mono kb.size); clear kb k19; have kb := kb'; clear kb') | (refine RowC.gload E _ rfl _ rfl noR BY rfl ?_))
  have hc := RegD.get_ret a1 cap1 l1 a3 _ w1 (by omega)
  rw [HB.out, gv_eq] at hc
  refine hc.mono ?_
  clear hc
  rintro e W20 ⟨rfl, k20⟩
  have w0' := w0.below k20
  clear w0
  have w0 := w0'
  clear w0'
  have w1' := w1.below k20
  clear w1
  have w1 := w1'
  clear w1'
  have w2' := w2.below k20
  clear w2
  have w2 := w2'
  clear w2'
  have SM' := SM.below k20
  clear SM
  have SM := SM'
  clear SM'
  have BX' := BX.below k20
  clear BX
  have BX := BX'
  clear BX'
  have BY' := BY.below k20
  clear BY
  have BY := BY'
  clear BY'
  have kb' := kb.trans (k20.mono kb.size)
  clear kb k20
  have kb := kb'
  clear kb'
  go_wp2_with (first | go_skip | (refine RowC.gload E _ rfl _ rfl z BX rfl ?_) | (refine RowC.gload E _ rfl _ rfl noR BY rfl ?_) | (refine wpList_store_new E rfl _ _ rfl _ _ _ rfl z _ rfl rfl rfl rfl ?_; intro W21 BZ k21 g21 s21; clear g21 s21; have w0' := w0.below k21; clear w0; have w0 := w0'; clear w0'; have w1' := w1.below k21; clear w1; have w1 := w1'; clear w1'; have w2' := w2.below k21; clear w2; have w2 := w2'; clear w2'; have SM' := SM.below k21; clear SM; have SM := SM'; clear SM'; have BX' := BX.below k21; clear BX; have BX := BX'; clear BX'; have BY' := BY.below k21; clear BY; have BY := BY'; clear BY'; have kb' := kb.trans (k21.mono kb.size); clear kb k21; have kb := kb'; clear kb') | (refine RowC.gload E _ rfl _ rfl z BZ rfl ?_))
  have hc := RegD.may_ret AM CM M _ SM q1 (by omega)
  rw [MM.out] at hc
  refine hc.mono ?_
  clear hc
  rintro e W22 ⟨rfl, k22⟩
  have w0' := w0.below k22
  clear w0
  have w0 := w0'
  clear w0'
  have w1' := w1.below k22
  clear w1
  have w1 := w1'
  clear w1'
  have w2' := w2.below k22
  clear w2
  have w2 := w2'
  clear w2'
  have SM' := SM.below k22
  clear SM
  have SM := SM'
  clear SM'
  have BX' := BX.below k22
  clear BX
  have BX := BX'
  clear BX'
  have BY' := BY.below k22
  clear BY
  have BY := BY'
  clear BY'
  have BZ' := BZ.below k22
  clear BZ
  have BZ := BZ'
  clear BZ'
  have kb' := kb.trans (k22.mono kb.size)
  clear kb k22
  have kb := kb'
  clear kb'
  go_wp2_with (first | go_skip | (refine RowC.gload E _ rfl _ rfl z BX rfl ?_) | (refine RowC.gload E _ rfl _ rfl noR BY rfl ?_) | (refine RowC.gload E _ rfl _ rfl z BZ rfl ?_))
  have hc := fun W => RegD.newer_ret z z W
  simp only [newer_irrefl] at hc
  refine (hc _).mono ?_
  clear hc
  rintro e W23 ⟨rfl, k23⟩
  have w0' := w0.below k23
  clear w0
  have w0 := w0'
  clear w0'
  have w1' := w1.below k23
  clear w1
  have w1 := w1'
  clear w1'
  have w2' := w2.below k23
  clear w2
  have w2 := w2'
  clear w2'
  have SM' := SM.below k23
  clear SM
  have SM := SM'
  clear SM'
  have BX' := BX.below k23
  clear BX
  have BX := BX'
  clear BX'
  have BY' := BY.below k23
  clear BY
  have BY := BY'
  clear BY'
  have BZ' := BZ.below k23
  clear BZ
  have BZ := BZ'
  clear BZ'
  have kb' := kb.trans (k23.mono kb.size)
  clear kb k23
  have kb := kb'
  clear kb'
  go_wp2_with (first | go_skip | (refine RowC.gload E _ rfl _ rfl z BX rfl ?_) | (refine RowC.gload E _ rfl _ rfl noR BY rfl ?_) | (refine RowC.gload E _ rfl _ rfl z BZ rfl ?_))
  go_ret
  exact ⟨by first | rfl | simp, kb⟩

set_option maxRecDepth 100000 in
set_option maxHeartbeats 16000000 in
theorem way_y (a0 : Option Addr) (cap0 : Nat) (l0 : List Rg) (a1 : Option Addr) (cap1 : Nat) (l1 : List Rg) (a2 : Option Addr) (cap2 : Nat) (l2 : List Rg) (a3 : ByteArray) (w : World) (w0 : SlR E w a0 cap0 l0) (g0 : ∀ x ∈ l0, OpenG.Good x) (w1 : SlR E w a1 cap1 l1) (g1 : ∀ x ∈ l1, OpenG.Good x) (w2 : SlR E w a2 cap2 l2) (g2 : ∀ x ∈ l2, OpenG.Good x) (x0 : fewB l0 = true) (x1 : fewB l1 = true) (x2 : fewB l2 = true) (m0 : mayR l0 = true) (m1 : mayR l1 = true) (m2 : mayR l2 = true) (hk : a3.size ≤ 100) (y z : Rg) (hn : newerB z y = false) (ha : getR l0 a3 = some y) (hb : getR l1 a3 = some z) (hx : getR (mergeR l0 l1) a3 = some y) :
    Calls Try.prog 4 #[.slice a0 l0.length cap0, .slice a1 l1.length cap1, .slice a2 l2.length cap2, .string a3] w fun e w' => e = .returned (.bool true) ∧ Below w.heap.size w w' := by
  have y0 := few_len x0
  have f0 := few_fits x0 g0
  have X0 := aside x0
  have y1 := few_len x1
  have f1 := few_fits x1 g1
  have X1 := aside x1
  have y2 := few_len x2
  have f2 := few_fits x2 g2
  have X2 := aside x2
  have r1 := merge_length l0 l1
  have r2 := merge_length l1 l2
  have r3 := merge_length (mergeR l0 l1) l2
  have q1 := merge_fits f0 f1
  have q2 := merge_fits f1 f2
  have e1 := merge_turn m0 m1
  have e2 := merge_twice m0 m1
  have e3 := merge_three m0 m1 m2
  have e4 := merge_self m0
  have mm := merge_may l0 l1
  obtain ⟨M, hM⟩ : ∃ l, mergeR l0 l1 = l := ⟨_, rfl⟩
  rw [hM] at r1 r3 q1 e1 e2 e3 mm hx
  obtain ⟨Y, hY⟩ : ∃ l, mergeR l1 l2 = l := ⟨_, rfl⟩
  rw [hY] at r2 q2 e3
  obtain ⟨X, hX⟩ : ∃ l, mergeR M l2 = l := ⟨_, rfl⟩
  rw [hX] at r3 e3
  have HM := aside hM
  have HY := aside hY
  have HX := aside hX
  have E1 := aside e1.symm
  have E2 := aside e2
  have E3 := aside e3.symm
  have E4 := aside e4
  have HA := aside ha
  have HB := aside hb
  have HG := aside hx
  have MM := aside mm
  have M0 := aside m0
  have M1 := aside m1
  have M2 := aside m2
  have t1 := equal_yes (x := y) rfl
  have HN := aside hn
  clear hn
  clear x0 m0 x1 m1 x2 m2 e1 e2 e3 e4 hM hY hX ha hb hx mm
  go_enter Try.func4, Try.ntmps4
  go_wp2_with fail
  refine (awake _).mono ?_
  rintro e W1 ⟨rfl, k1⟩
  have w0' := w0.below k1
  clear w0
  have w0 := w0'
  clear w0'
  have w1' := w1.below k1
  clear w1
  have w1 := w1'
  clear w1'
  have w2' := w2.below k1
  clear w2
  have w2 := w2'
  clear w2'
  have kb := k1
  clear k1
  go_wp2_with fail
  have hc := few_ret a0 cap0 l0 _ w0 (max_of g0)
  rw [X0.out] at hc
  refine hc.mono ?_
  clear hc
  rintro e w' ⟨rfl, rfl⟩
  go_wp2_with fail
  have hc := few_ret a1 cap1 l1 _ w1 (max_of g1)
  rw [X1.out] at hc
  refine hc.mono ?_
  clear hc
  rintro e w' ⟨rfl, rfl⟩
  go_wp2_with fail
  have hc := few_ret a2 cap2 l2 _ w2 (max_of g2)
  rw [X2.out] at hc
  refine hc.mono ?_
  clear hc
  rintro e w' ⟨rfl, rfl⟩
  go_wp2_with fail
  have hc := RegD.may_ret a0 cap0 l0 _ w0 f0 (by omega)
  rw [M0.out] at hc
  refine hc.mono ?_
  clear hc
  rintro e W2 ⟨rfl, k2⟩
  have w0' := w0.below k2
  clear w0
  have w0 := w0'
  clear w0'
  have w1' := w1.below k2
  clear w1
  have w1 := w1'
  clear w1'
  have w2' := w2.below k2
  clear w2
  have w2 := w2'
  clear w2'
  have kb' := kb.trans (k2.mono kb.size)
  clear kb k2
  have kb := kb'
  clear kb'
  go_wp2_with fail
  have hc := RegD.may_ret a1 cap1 l1 _ w1 f1 (by omega)
  rw [M1.out] at hc
  refine hc.mono ?_
  clear hc
  rintro e W3 ⟨rfl, k3⟩
  have w0' := w0.below k3
  clear w0
  have w0 := w0'
  clear w0'
  have w1' := w1.below k3
  clear w1
  have w1 := w1'
  clear w1'
  have w2' := w2.below k3
  clear w2
  have w2 := w2'
  clear w2'
  have kb' := kb.trans (k3.mono kb.size)
  clear kb k3
  have kb := kb'
  clear kb'
  go_wp2_with fail
  have hc := RegD.may_ret a2 cap2 l2 _ w2 f2 (by omega)
  rw [M2.out] at hc
  refine hc.mono ?_
  clear hc
  rintro e W4 ⟨rfl, k4⟩
  have w0' := w0.below k4
  clear w0
  have w0 := w0'
  clear w0'
  have w1' := w1.below k4
  clear w1
  have w1 := w1'
  clear w1'
  have w2' := w2.below k4
  clear w2
  have w2 := w2'
  clear w2'
  have kb' := kb.trans (k4.mono kb.size)
  clear kb k4
  have kb := kb'
  clear kb'
  go_wp2_with fail
  have hc := RegD.merge_ret a0 cap0 l0 a1 cap1 l1 _ w0 w1 f0 f1 (by omega) (by omega)
  rw [HM.out] at hc
  refine hc.mono ?_
  clear hc
  rintro e W5 ⟨AM, CM, rfl, SM, k5⟩
  have w0' := w0.below k5
  clear w0
  have w0 := w0'
  clear w0'
  have w1' := w1.below k5
  clear w1
  have w1 := w1'
  clear w1'
  have w2' := w2.below k5
  clear w2
  have w2 := w2'
  clear w2'
  have kb' := kb.trans (k5.mono kb.size)
  clear kb k5
  have kb := kb'
  clear kb'
  go_wp2_with fail
  have hc := RegD.merge_ret a1 cap1 l1 a0 cap0 l0 _ w1 w0 f1 f0 (by omega) (by omega)
  rw [E1.out] at hc
  refine hc.mono ?_
  clear hc
  rintro e W6 ⟨AT, CT, rfl, ST, k6⟩
  have w0' := w0.below k6
  clear w0
  have w0 := w0'
  clear w0'
  have w1' := w1.below k6
  clear w1
  have w1 := w1'
  clear w1'
  have w2' := w2.below k6
  clear w2
  have w2 := w2'
  clear w2'
  have SM' := SM.below k6
  clear SM
  have SM := SM'
  clear SM'
  have kb' := kb.trans (k6.mono kb.size)
  clear kb k6
  have kb := kb'
  clear kb'
  go_wp2_with fail
  have hc := same_ret AM CM M AT CT M _ SM ST
  rw [sameB_self] at hc
  refine hc.mono ?_
  clear hc
  rintro e W7 ⟨rfl, k7⟩
  clear ST
  have w0' := w0.below k7
  clear w0
  have w0 := w0'
  clear w0'
  have w1' := w1.below k7
  clear w1
  have w1 := w1'
  clear w1'
  have w2' := w2.below k7
  clear w2
  have w2 := w2'
  clear w2'
  have SM' := SM.below k7
  clear SM
  have SM := SM'
  clear SM'
  have kb' := kb.trans (k7.mono kb.size)
  clear kb k7
  have kb := kb'
  clear kb'
  go_wp2_with fail
  have hc := RegD.merge_ret AM CM M a1 cap1 l1 _ SM w1 q1 f1 (by omega) (by omega)
  rw [E2.out] at hc
  refine hc.mono ?_
  clear hc
  rintro e W8 ⟨AT, CT, rfl, ST, k8⟩
  have w0' := w0.below k8
  clear w0
  have w0 := w0'
  clear w0'
  have w1' := w1.below k8
  clear w1
  have w1 := w1'
  clear w1'
  have w2' := w2.below k8
  clear w2
  have w2 := w2'
  clear w2'
  have SM' := SM.below k8
  clear SM
  have SM := SM'
  clear SM'
  have kb' := kb.trans (k8.mono kb.size)
  clear kb k8
  have kb := kb'
  clear kb'
  go_wp2_with fail
  have hc := same_ret AM CM M AT CT M _ SM ST
  rw [sameB_self] at hc
  refine hc.mono ?_
  clear hc
  rintro e W9 ⟨rfl, k9⟩
  clear ST
  have w0' := w0.below k9
  clear w0
  have w0 := w0'
  clear w0'
  have w1' := w1.below k9
  clear w1
  have w1 := w1'
  clear w1'
  have w2' := w2.below k9
  clear w2
  have w2 := w2'
  clear w2'
  have SM' := SM.below k9
  clear SM
  have SM := SM'
  clear SM'
  have kb' := kb.trans (k9.mono kb.size)
  clear kb k9
  have kb := kb'
  clear kb'
  go_wp2_with fail
  have hc := RegD.merge_ret AM CM M a2 cap2 l2 _ SM w2 q1 f2 (by omega) (by omega)
  rw [HX.out] at hc
  refine hc.mono ?_
  clear hc
  rintro e W10 ⟨AT, CT, rfl, ST, k10⟩
  have w0' := w0.below k10
  clear w0
  have w0 := w0'
  clear w0'
  have w1' := w1.below k10
  clear w1
  have w1 := w1'
  clear w1'
  have w2' := w2.below k10
  clear w2
  have w2 := w2'
  clear w2'
  have SM' := SM.below k10
  clear SM
  have SM := SM'
  clear SM'
  have kb' := kb.trans (k10.mono kb.size)
  clear kb k10
  have kb := kb'
  clear kb'
  go_wp2_with fail
  have hc := RegD.merge_ret a1 cap1 l1 a2 cap2 l2 _ w1 w2 f1 f2 (by omega) (by omega)
  rw [HY.out] at hc
  refine hc.mono ?_
  clear hc
  rintro e W11 ⟨AU, CU, rfl, SU, k11⟩
  have w0' := w0.below k11
  clear w0
  have w0 := w0'
  clear w0'
  have w1' := w1.below k11
  clear w1
  have w1 := w1'
  clear w1'
  have w2' := w2.below k11
  clear w2
  have w2 := w2'
  clear w2'
  have SM' := SM.below k11
  clear SM
  have SM := SM'
  clear SM'
  have ST' := ST.below k11
  clear ST
  have ST := ST'
  clear ST'
  have kb' := kb.trans (k11.mono kb.size)
  clear kb k11
  have kb := kb'
  clear kb'
  go_wp2_with fail
  have hc := RegD.merge_ret a0 cap0 l0 AU CU Y _ w0 SU f0 q2 (by omega) (by omega)
  rw [E3.out] at hc
  refine hc.mono ?_
  clear hc
  rintro e W12 ⟨AV, CV, rfl, SV, k12⟩
  clear SU
  have w0' := w0.below k12
  clear w0
  have w0 := w0'
  clear w0'
  have w1' := w1.below k12
  clear w1
  have w1 := w1'
  clear w1'
  have w2' := w2.below k12
  clear w2
  have w2 := w2'
  clear w2'
  have SM' := SM.below k12
  clear SM
  have SM := SM'
  clear SM'
  have ST' := ST.below k12
  clear ST
  have ST := ST'
  clear ST'
  have kb' := kb.trans (k12.mono kb.size)
  clear kb k12
  have kb := kb'
  clear kb'
  go_wp2_with fail
  have hc := same_ret AT CT X AV CV X _ ST SV
  rw [sameB_self] at hc
  refine hc.mono ?_
  clear hc
  rintro e W13 ⟨rfl, k13⟩
  clear ST SV
  have w0' := w0.below k13
  clear w0
  have w0 := w0'
  clear w0'
  have w1' := w1.below k13
  clear w1
  have w1 := w1'
  clear w1'
  have w2' := w2.below k13
  clear w2
  have w2 := w2'
  clear w2'
  have SM' := SM.below k13
  clear SM
  have SM := SM'
  clear SM'
  have kb' := kb.trans (k13.mono kb.size)
  clear kb k13
  have kb := kb'
  clear kb'
  go_wp2_with fail
  have hc := RegD.merge_ret a0 cap0 l0 a0 cap0 l0 _ w0 w0 f0 f0 (by omega) (by omega)
  rw [E4.out] at hc
  refine hc.mono ?_
  clear hc
  rintro e W14 ⟨AT, CT, rfl, ST, k14⟩
  have w0' := w0.below k14
  clear w0
  have w0 := w0'
  clear w0'
  have w1' := w1.below k14
  clear w1
  have w1 := w1'
  clear w1'
  have w2' := w2.below k14
  clear w2
  have w2 := w2'
  clear w2'
  have SM' := SM.below k14
  clear SM
  have SM := SM'
  clear SM'
  have kb' := kb.trans (k14.mono kb.size)
  clear kb k14
  have kb := kb'
  clear kb'
  go_wp2_with fail
  have hc := same_ret AT CT l0 a0 cap0 l0 _ ST w0
  rw [sameB_self] at hc
  refine hc.mono ?_
  clear hc
  rintro e W15 ⟨rfl, k15⟩
  clear ST
  have w0' := w0.below k15
  clear w0
  have w0 := w0'
  clear w0'
  have w1' := w1.below k15
  clear w1
  have w1 := w1'
  clear w1'
  have w2' := w2.below k15
  clear w2
  have w2 := w2'
  clear w2'
  have SM' := SM.below k15
  clear SM
  have SM := SM'
  clear SM'
  have kb' := kb.trans (k15.mono kb.size)
  clear kb k15
  have kb := kb'
  clear kb'
  go_wp2_with fail
  have hc := RegD.get_ret AM CM M a3 _ SM (by omega)
  rw [HG.out, gv_eq] at hc
  refine hc.mono ?_
  clear hc
  rintro e W16 ⟨rfl, k16⟩
  have w0' := w0.below k16
  clear w0
  have w0 := w0'
  clear w0'
  have w1' := w1.below k16
  clear w1
  have w1 := w1'
  clear w1'
  have w2' := w2.below k16
  clear w2
  have w2 := w2'
  clear w2'
  have SM' := SM.below k16
  clear SM
  have SM := SM'
  clear SM'
  have kb' := kb.trans (k16.mono kb.size)
  clear kb k16
  have kb := kb'
  clear kb'
  go_wp2_with (first | go_skip | (refine wpList_store_new E rfl _ _ rfl _ _ _ rfl y _ rfl rfl rfl rfl ?_; intro W17 BX k17 g17 s17; clear g17 s17; have w0' := w0.below k17; clear w0; have w0 := w0'; clear w0'; have w1' := w1.below k17; clear w1; have w1 := w1'; clear w1'; have w2' := w2.below k17; clear w2; have w2 := w2'; clear w2'; have SM' := SM.below k17; clear SM; have SM := SM'; clear SM'; have kb' := kb.trans (k17.mono kb.size); clear kb k17; have kb := kb'; clear kb') | (refine RowC.gload E _ rfl _ rfl y BX rfl ?_))
  have hc := RegD.get_ret a0 cap0 l0 a3 _ w0 (by omega)
  rw [HA.out, gv_eq] at hc
  refine hc.mono ?_
  clear hc
  rintro e W18 ⟨rfl, k18⟩
  have w0' := w0.below k18
  clear w0
  have w0 := w0'
  clear w0'
  have w1' := w1.below k18
  clear w1
  have w1 := w1'
  clear w1'
  have w2' := w2.below k18
  clear w2
  have w2 := w2'
  clear w2'
  have SM' := SM.below k18
  clear SM
  have SM := SM'
  clear SM'
  have BX' := BX.below k18
  clear BX
  have BX := BX'
  clear BX'
  have kb' := kb.trans (k18.mono kb.size)
  clear kb k18
  have kb := kb'
  clear kb'
  go_wp2_with (first | go_skip | (refine RowC.gload E _ rfl _ rfl y BX rfl ?_) | (refine wpList_store_new E rfl _ _ rfl _ _ _ rfl y _ rfl rfl rfl rfl ?_; intro W19 BY k19 g19 s19; clear g19 s19; have w0' := w0.below k19; clear w0; have w0 := w0'; clear w0'; have w1' := w1.below k19; clear w1; have w1 := w1'; clear w1'; have w2' := w2.below k19; clear w2; have w2 := w2'; clear w2'; have SM' := SM.below k19; clear SM; have SM := SM'; clear SM'; have BX' := BX.below k19; clear BX; have BX := BX'; clear BX'; have kb' := kb.trans (k19.mono kb.size); clear kb k19; have kb := kb'; clear kb') | (refine RowC.gload E _ rfl _ rfl y BY rfl ?_))
  have hc := RegD.get_ret a1 cap1 l1 a3 _ w1 (by omega)
  rw [HB.out, gv_eq] at hc
  refine hc.mono ?_
  clear hc
  rintro e W20 ⟨rfl, k20⟩
  have w0' := w0.below k20
  clear w0
  have w0 := w0'
  clear w0'
  have w1' := w1.below k20
  clear w1
  have w1 := w1'
  clear w1'
  have w2' := w2.below k20
  clear w2
  have w2 := w2'
  clear w2'
  have SM' := SM.below k20
  clear SM
  have SM := SM'
  clear SM'
  have BX' := BX.below k20
  clear BX
  have BX := BX'
  clear BX'
  have BY' := BY.below k20
  clear BY
  have BY := BY'
  clear BY'
  have kb' := kb.trans (k20.mono kb.size)
  clear kb k20
  have kb := kb'
  clear kb'
  go_wp2_with (first | go_skip | (refine RowC.gload E _ rfl _ rfl y BX rfl ?_) | (refine RowC.gload E _ rfl _ rfl y BY rfl ?_) | (refine wpList_store_new E rfl _ _ rfl _ _ _ rfl z _ rfl rfl rfl rfl ?_; intro W21 BZ k21 g21 s21; clear g21 s21; have w0' := w0.below k21; clear w0; have w0 := w0'; clear w0'; have w1' := w1.below k21; clear w1; have w1 := w1'; clear w1'; have w2' := w2.below k21; clear w2; have w2 := w2'; clear w2'; have SM' := SM.below k21; clear SM; have SM := SM'; clear SM'; have BX' := BX.below k21; clear BX; have BX := BX'; clear BX'; have BY' := BY.below k21; clear BY; have BY := BY'; clear BY'; have kb' := kb.trans (k21.mono kb.size); clear kb k21; have kb := kb'; clear kb') | (refine RowC.gload E _ rfl _ rfl z BZ rfl ?_))
  have hc := RegD.may_ret AM CM M _ SM q1 (by omega)
  rw [MM.out] at hc
  refine hc.mono ?_
  clear hc
  rintro e W22 ⟨rfl, k22⟩
  have w0' := w0.below k22
  clear w0
  have w0 := w0'
  clear w0'
  have w1' := w1.below k22
  clear w1
  have w1 := w1'
  clear w1'
  have w2' := w2.below k22
  clear w2
  have w2 := w2'
  clear w2'
  have SM' := SM.below k22
  clear SM
  have SM := SM'
  clear SM'
  have BX' := BX.below k22
  clear BX
  have BX := BX'
  clear BX'
  have BY' := BY.below k22
  clear BY
  have BY := BY'
  clear BY'
  have BZ' := BZ.below k22
  clear BZ
  have BZ := BZ'
  clear BZ'
  have kb' := kb.trans (k22.mono kb.size)
  clear kb k22
  have kb := kb'
  clear kb'
  go_wp2_with (first | go_skip | (refine RowC.gload E _ rfl _ rfl y BX rfl ?_) | (refine RowC.gload E _ rfl _ rfl y BY rfl ?_) | (refine RowC.gload E _ rfl _ rfl z BZ rfl ?_))
  have hc := fun W => RegD.newer_ret y y W
  simp only [newer_irrefl] at hc
  refine (hc _).mono ?_
  clear hc
  rintro e W23 ⟨rfl, k23⟩
  have w0' := w0.below k23
  clear w0
  have w0 := w0'
  clear w0'
  have w1' := w1.below k23
  clear w1
  have w1 := w1'
  clear w1'
  have w2' := w2.below k23
  clear w2
  have w2 := w2'
  clear w2'
  have SM' := SM.below k23
  clear SM
  have SM := SM'
  clear SM'
  have BX' := BX.below k23
  clear BX
  have BX := BX'
  clear BX'
  have BY' := BY.below k23
  clear BY
  have BY := BY'
  clear BY'
  have BZ' := BZ.below k23
  clear BZ
  have BZ := BZ'
  clear BZ'
  have kb' := kb.trans (k23.mono kb.size)
  clear kb k23
  have kb := kb'
  clear kb'
  go_wp2_with (first | go_skip | (refine RowC.gload E _ rfl _ rfl y BX rfl ?_) | (refine RowC.gload E _ rfl _ rfl y BY rfl ?_) | (refine RowC.gload E _ rfl _ rfl z BZ rfl ?_))
  have hc := fun W => RegD.newer_ret z y W
  simp only [HN.out] at hc
  refine (hc _).mono ?_
  clear hc
  rintro e W24 ⟨rfl, k24⟩
  have w0' := w0.below k24
  clear w0
  have w0 := w0'
  clear w0'
  have w1' := w1.below k24
  clear w1
  have w1 := w1'
  clear w1'
  have w2' := w2.below k24
  clear w2
  have w2 := w2'
  clear w2'
  have SM' := SM.below k24
  clear SM
  have SM := SM'
  clear SM'
  have BX' := BX.below k24
  clear BX
  have BX := BX'
  clear BX'
  have BY' := BY.below k24
  clear BY
  have BY := BY'
  clear BY'
  have BZ' := BZ.below k24
  clear BZ
  have BZ := BZ'
  clear BZ'
  have kb' := kb.trans (k24.mono kb.size)
  clear kb k24
  have kb := kb'
  clear kb'
  go_wp2_with (first | go_skip | (refine RowC.gload E _ rfl _ rfl y BX rfl ?_) | (refine RowC.gload E _ rfl _ rfl y BY rfl ?_) | (refine RowC.gload E _ rfl _ rfl z BZ rfl ?_))
  go_ret
  exact ⟨by first | rfl | simp, kb⟩

set_option maxRecDepth 100000 in
set_option maxHeartbeats 16000000 in
theorem way_z (a0 : Option Addr) (cap0 : Nat) (l0 : List Rg) (a1 : Option Addr) (cap1 : Nat) (l1 : List Rg) (a2 : Option Addr) (cap2 : Nat) (l2 : List Rg) (a3 : ByteArray) (w : World) (w0 : SlR E w a0 cap0 l0) (g0 : ∀ x ∈ l0, OpenG.Good x) (w1 : SlR E w a1 cap1 l1) (g1 : ∀ x ∈ l1, OpenG.Good x) (w2 : SlR E w a2 cap2 l2) (g2 : ∀ x ∈ l2, OpenG.Good x) (x0 : fewB l0 = true) (x1 : fewB l1 = true) (x2 : fewB l2 = true) (m0 : mayR l0 = true) (m1 : mayR l1 = true) (m2 : mayR l2 = true) (hk : a3.size ≤ 100) (y z : Rg) (hn : newerB y z = false) (hd : z ≠ y) (ha : getR l0 a3 = some y) (hb : getR l1 a3 = some z) (hx : getR (mergeR l0 l1) a3 = some z) :
    Calls Try.prog 4 #[.slice a0 l0.length cap0, .slice a1 l1.length cap1, .slice a2 l2.length cap2, .string a3] w fun e w' => e = .returned (.bool true) ∧ Below w.heap.size w w' := by
  have y0 := few_len x0
  have f0 := few_fits x0 g0
  have X0 := aside x0
  have y1 := few_len x1
  have f1 := few_fits x1 g1
  have X1 := aside x1
  have y2 := few_len x2
  have f2 := few_fits x2 g2
  have X2 := aside x2
  have r1 := merge_length l0 l1
  have r2 := merge_length l1 l2
  have r3 := merge_length (mergeR l0 l1) l2
  have q1 := merge_fits f0 f1
  have q2 := merge_fits f1 f2
  have e1 := merge_turn m0 m1
  have e2 := merge_twice m0 m1
  have e3 := merge_three m0 m1 m2
  have e4 := merge_self m0
  have mm := merge_may l0 l1
  obtain ⟨M, hM⟩ : ∃ l, mergeR l0 l1 = l := ⟨_, rfl⟩
  rw [hM] at r1 r3 q1 e1 e2 e3 mm hx
  obtain ⟨Y, hY⟩ : ∃ l, mergeR l1 l2 = l := ⟨_, rfl⟩
  rw [hY] at r2 q2 e3
  obtain ⟨X, hX⟩ : ∃ l, mergeR M l2 = l := ⟨_, rfl⟩
  rw [hX] at r3 e3
  have HM := aside hM
  have HY := aside hY
  have HX := aside hX
  have E1 := aside e1.symm
  have E2 := aside e2
  have E3 := aside e3.symm
  have E4 := aside e4
  have HA := aside ha
  have HB := aside hb
  have HG := aside hx
  have MM := aside mm
  have M0 := aside m0
  have M1 := aside m1
  have M2 := aside m2
  have t1 := equal_yes (x := z) rfl
  have t2 := equal_no hd
  have HN := aside hn
  clear hn hd
  clear x0 m0 x1 m1 x2 m2 e1 e2 e3 e4 hM hY hX ha hb hx mm
  go_enter Try.func4, Try.ntmps4
  go_wp2_with fail
  refine (awake _).mono ?_
  rintro e W1 ⟨rfl, k1⟩
  have w0' := w0.below k1
  clear w0
  have w0 := w0'
  clear w0'
  have w1' := w1.below k1
  clear w1
  have w1 := w1'
  clear w1'
  have w2' := w2.below k1
  clear w2
  have w2 := w2'
  clear w2'
  have kb := k1
  clear k1
  go_wp2_with fail
  have hc := few_ret a0 cap0 l0 _ w0 (max_of g0)
  rw [X0.out] at hc
  refine hc.mono ?_
  clear hc
  rintro e w' ⟨rfl, rfl⟩
  go_wp2_with fail
  have hc := few_ret a1 cap1 l1 _ w1 (max_of g1)
  rw [X1.out] at hc
  refine hc.mono ?_
  clear hc
  rintro e w' ⟨rfl, rfl⟩
  go_wp2_with fail
  have hc := few_ret a2 cap2 l2 _ w2 (max_of g2)
  rw [X2.out] at hc
  refine hc.mono ?_
  clear hc
  rintro e w' ⟨rfl, rfl⟩
  go_wp2_with fail
  have hc := RegD.may_ret a0 cap0 l0 _ w0 f0 (by omega)
  rw [M0.out] at hc
  refine hc.mono ?_
  clear hc
  rintro e W2 ⟨rfl, k2⟩
  have w0' := w0.below k2
  clear w0
  have w0 := w0'
  clear w0'
  have w1' := w1.below k2
  clear w1
  have w1 := w1'
  clear w1'
  have w2' := w2.below k2
  clear w2
  have w2 := w2'
  clear w2'
  have kb' := kb.trans (k2.mono kb.size)
  clear kb k2
  have kb := kb'
  clear kb'
  go_wp2_with fail
  have hc := RegD.may_ret a1 cap1 l1 _ w1 f1 (by omega)
  rw [M1.out] at hc
  refine hc.mono ?_
  clear hc
  rintro e W3 ⟨rfl, k3⟩
  have w0' := w0.below k3
  clear w0
  have w0 := w0'
  clear w0'
  have w1' := w1.below k3
  clear w1
  have w1 := w1'
  clear w1'
  have w2' := w2.below k3
  clear w2
  have w2 := w2'
  clear w2'
  have kb' := kb.trans (k3.mono kb.size)
  clear kb k3
  have kb := kb'
  clear kb'
  go_wp2_with fail
  have hc := RegD.may_ret a2 cap2 l2 _ w2 f2 (by omega)
  rw [M2.out] at hc
  refine hc.mono ?_
  clear hc
  rintro e W4 ⟨rfl, k4⟩
  have w0' := w0.below k4
  clear w0
  have w0 := w0'
  clear w0'
  have w1' := w1.below k4
  clear w1
  have w1 := w1'
  clear w1'
  have w2' := w2.below k4
  clear w2
  have w2 := w2'
  clear w2'
  have kb' := kb.trans (k4.mono kb.size)
  clear kb k4
  have kb := kb'
  clear kb'
  go_wp2_with fail
  have hc := RegD.merge_ret a0 cap0 l0 a1 cap1 l1 _ w0 w1 f0 f1 (by omega) (by omega)
  rw [HM.out] at hc
  refine hc.mono ?_
  clear hc
  rintro e W5 ⟨AM, CM, rfl, SM, k5⟩
  have w0' := w0.below k5
  clear w0
  have w0 := w0'
  clear w0'
  have w1' := w1.below k5
  clear w1
  have w1 := w1'
  clear w1'
  have w2' := w2.below k5
  clear w2
  have w2 := w2'
  clear w2'
  have kb' := kb.trans (k5.mono kb.size)
  clear kb k5
  have kb := kb'
  clear kb'
  go_wp2_with fail
  have hc := RegD.merge_ret a1 cap1 l1 a0 cap0 l0 _ w1 w0 f1 f0 (by omega) (by omega)
  rw [E1.out] at hc
  refine hc.mono ?_
  clear hc
  rintro e W6 ⟨AT, CT, rfl, ST, k6⟩
  have w0' := w0.below k6
  clear w0
  have w0 := w0'
  clear w0'
  have w1' := w1.below k6
  clear w1
  have w1 := w1'
  clear w1'
  have w2' := w2.below k6
  clear w2
  have w2 := w2'
  clear w2'
  have SM' := SM.below k6
  clear SM
  have SM := SM'
  clear SM'
  have kb' := kb.trans (k6.mono kb.size)
  clear kb k6
  have kb := kb'
  clear kb'
  go_wp2_with fail
  have hc := same_ret AM CM M AT CT M _ SM ST
  rw [sameB_self] at hc
  refine hc.mono ?_
  clear hc
  rintro e W7 ⟨rfl, k7⟩
  clear ST
  have w0' := w0.below k7
  clear w0
  have w0 := w0'
  clear w0'
  have w1' := w1.below k7
  clear w1
  have w1 := w1'
  clear w1'
  have w2' := w2.below k7
  clear w2
  have w2 := w2'
  clear w2'
  have SM' := SM.below k7
  clear SM
  have SM := SM'
  clear SM'
  have kb' := kb.trans (k7.mono kb.size)
  clear kb k7
  have kb := kb'
  clear kb'
  go_wp2_with fail
  have hc := RegD.merge_ret AM CM M a1 cap1 l1 _ SM w1 q1 f1 (by omega) (by omega)
  rw [E2.out] at hc
  refine hc.mono ?_
  clear hc
  rintro e W8 ⟨AT, CT, rfl, ST, k8⟩
  have w0' := w0.below k8
  clear w0
  have w0 := w0'
  clear w0'
  have w1' := w1.below k8
  clear w1
  have w1 := w1'
  clear w1'
  have w2' := w2.below k8
  clear w2
  have w2 := w2'
  clear w2'
  have SM' := SM.below k8
  clear SM
  have SM := SM'
  clear SM'
  have kb' := kb.trans (k8.mono kb.size)
  clear kb k8
  have kb := kb'
  clear kb'
  go_wp2_with fail
  have hc := same_ret AM CM M AT CT M _ SM ST
  rw [sameB_self] at hc
  refine hc.mono ?_
  clear hc
  rintro e W9 ⟨rfl, k9⟩
  clear ST
  have w0' := w0.below k9
  clear w0
  have w0 := w0'
  clear w0'
  have w1' := w1.below k9
  clear w1
  have w1 := w1'
  clear w1'
  have w2' := w2.below k9
  clear w2
  have w2 := w2'
  clear w2'
  have SM' := SM.below k9
  clear SM
  have SM := SM'
  clear SM'
  have kb' := kb.trans (k9.mono kb.size)
  clear kb k9
  have kb := kb'
  clear kb'
  go_wp2_with fail
  have hc := RegD.merge_ret AM CM M a2 cap2 l2 _ SM w2 q1 f2 (by omega) (by omega)
  rw [HX.out] at hc
  refine hc.mono ?_
  clear hc
  rintro e W10 ⟨AT, CT, rfl, ST, k10⟩
  have w0' := w0.below k10
  clear w0
  have w0 := w0'
  clear w0'
  have w1' := w1.below k10
  clear w1
  have w1 := w1'
  clear w1'
  have w2' := w2.below k10
  clear w2
  have w2 := w2'
  clear w2'
  have SM' := SM.below k10
  clear SM
  have SM := SM'
  clear SM'
  have kb' := kb.trans (k10.mono kb.size)
  clear kb k10
  have kb := kb'
  clear kb'
  go_wp2_with fail
  have hc := RegD.merge_ret a1 cap1 l1 a2 cap2 l2 _ w1 w2 f1 f2 (by omega) (by omega)
  rw [HY.out] at hc
  refine hc.mono ?_
  clear hc
  rintro e W11 ⟨AU, CU, rfl, SU, k11⟩
  have w0' := w0.below k11
  clear w0
  have w0 := w0'
  clear w0'
  have w1' := w1.below k11
  clear w1
  have w1 := w1'
  clear w1'
  have w2' := w2.below k11
  clear w2
  have w2 := w2'
  clear w2'
  have SM' := SM.below k11
  clear SM
  have SM := SM'
  clear SM'
  have ST' := ST.below k11
  clear ST
  have ST := ST'
  clear ST'
  have kb' := kb.trans (k11.mono kb.size)
  clear kb k11
  have kb := kb'
  clear kb'
  go_wp2_with fail
  have hc := RegD.merge_ret a0 cap0 l0 AU CU Y _ w0 SU f0 q2 (by omega) (by omega)
  rw [E3.out] at hc
  refine hc.mono ?_
  clear hc
  rintro e W12 ⟨AV, CV, rfl, SV, k12⟩
  clear SU
  have w0' := w0.below k12
  clear w0
  have w0 := w0'
  clear w0'
  have w1' := w1.below k12
  clear w1
  have w1 := w1'
  clear w1'
  have w2' := w2.below k12
  clear w2
  have w2 := w2'
  clear w2'
  have SM' := SM.below k12
  clear SM
  have SM := SM'
  clear SM'
  have ST' := ST.below k12
  clear ST
  have ST := ST'
  clear ST'
  have kb' := kb.trans (k12.mono kb.size)
  clear kb k12
  have kb := kb'
  clear kb'
  go_wp2_with fail
  have hc := same_ret AT CT X AV CV X _ ST SV
  rw [sameB_self] at hc
  refine hc.mono ?_
  clear hc
  rintro e W13 ⟨rfl, k13⟩
  clear ST SV
  have w0' := w0.below k13
  clear w0
  have w0 := w0'
  clear w0'
  have w1' := w1.below k13
  clear w1
  have w1 := w1'
  clear w1'
  have w2' := w2.below k13
  clear w2
  have w2 := w2'
  clear w2'
  have SM' := SM.below k13
  clear SM
  have SM := SM'
  clear SM'
  have kb' := kb.trans (k13.mono kb.size)
  clear kb k13
  have kb := kb'
  clear kb'
  go_wp2_with fail
  have hc := RegD.merge_ret a0 cap0 l0 a0 cap0 l0 _ w0 w0 f0 f0 (by omega) (by omega)
  rw [E4.out] at hc
  refine hc.mono ?_
  clear hc
  rintro e W14 ⟨AT, CT, rfl, ST, k14⟩
  have w0' := w0.below k14
  clear w0
  have w0 := w0'
  clear w0'
  have w1' := w1.below k14
  clear w1
  have w1 := w1'
  clear w1'
  have w2' := w2.below k14
  clear w2
  have w2 := w2'
  clear w2'
  have SM' := SM.below k14
  clear SM
  have SM := SM'
  clear SM'
  have kb' := kb.trans (k14.mono kb.size)
  clear kb k14
  have kb := kb'
  clear kb'
  go_wp2_with fail
  have hc := same_ret AT CT l0 a0 cap0 l0 _ ST w0
  rw [sameB_self] at hc
  refine hc.mono ?_
  clear hc
  rintro e W15 ⟨rfl, k15⟩
  clear ST
  have w0' := w0.below k15
  clear w0
  have w0 := w0'
  clear w0'
  have w1' := w1.below k15
  clear w1
  have w1 := w1'
  clear w1'
  have w2' := w2.below k15
  clear w2
  have w2 := w2'
  clear w2'
  have SM' := SM.below k15
  clear SM
  have SM := SM'
  clear SM'
  have kb' := kb.trans (k15.mono kb.size)
  clear kb k15
  have kb := kb'
  clear kb'
  go_wp2_with fail
  have hc := RegD.get_ret AM CM M a3 _ SM (by omega)
  rw [HG.out, gv_eq] at hc
  refine hc.mono ?_
  clear hc
  rintro e W16 ⟨rfl, k16⟩
  have w0' := w0.below k16
  clear w0
  have w0 := w0'
  clear w0'
  have w1' := w1.below k16
  clear w1
  have w1 := w1'
  clear w1'
  have w2' := w2.below k16
  clear w2
  have w2 := w2'
  clear w2'
  have SM' := SM.below k16
  clear SM
  have SM := SM'
  clear SM'
  have kb' := kb.trans (k16.mono kb.size)
  clear kb k16
  have kb := kb'
  clear kb'
  go_wp2_with (first | go_skip | (refine wpList_store_new E rfl _ _ rfl _ _ _ rfl z _ rfl rfl rfl rfl ?_; intro W17 BX k17 g17 s17; clear g17 s17; have w0' := w0.below k17; clear w0; have w0 := w0'; clear w0'; have w1' := w1.below k17; clear w1; have w1 := w1'; clear w1'; have w2' := w2.below k17; clear w2; have w2 := w2'; clear w2'; have SM' := SM.below k17; clear SM; have SM := SM'; clear SM'; have kb' := kb.trans (k17.mono kb.size); clear kb k17; have kb := kb'; clear kb') | (refine RowC.gload E _ rfl _ rfl z BX rfl ?_))
  have hc := RegD.get_ret a0 cap0 l0 a3 _ w0 (by omega)
  rw [HA.out, gv_eq] at hc
  refine hc.mono ?_
  clear hc
  rintro e W18 ⟨rfl, k18⟩
  have w0' := w0.below k18
  clear w0
  have w0 := w0'
  clear w0'
  have w1' := w1.below k18
  clear w1
  have w1 := w1'
  clear w1'
  have w2' := w2.below k18
  clear w2
  have w2 := w2'
  clear w2'
  have SM' := SM.below k18
  clear SM
  have SM := SM'
  clear SM'
  have BX' := BX.below k18
  clear BX
  have BX := BX'
  clear BX'
  have kb' := kb.trans (k18.mono kb.size)
  clear kb k18
  have kb := kb'
  clear kb'
  go_wp2_with (first | go_skip | (refine RowC.gload E _ rfl _ rfl z BX rfl ?_) | (refine wpList_store_new E rfl _ _ rfl _ _ _ rfl y _ rfl rfl rfl rfl ?_; intro W19 BY k19 g19 s19; clear g19 s19; have w0' := w0.below k19; clear w0; have w0 := w0'; clear w0'; have w1' := w1.below k19; clear w1; have w1 := w1'; clear w1'; have w2' := w2.below k19; clear w2; have w2 := w2'; clear w2'; have SM' := SM.below k19; clear SM; have SM := SM'; clear SM'; have BX' := BX.below k19; clear BX; have BX := BX'; clear BX'; have kb' := kb.trans (k19.mono kb.size); clear kb k19; have kb := kb'; clear kb') | (refine RowC.gload E _ rfl _ rfl y BY rfl ?_))
  have hc := RegD.get_ret a1 cap1 l1 a3 _ w1 (by omega)
  rw [HB.out, gv_eq] at hc
  refine hc.mono ?_
  clear hc
  rintro e W20 ⟨rfl, k20⟩
  have w0' := w0.below k20
  clear w0
  have w0 := w0'
  clear w0'
  have w1' := w1.below k20
  clear w1
  have w1 := w1'
  clear w1'
  have w2' := w2.below k20
  clear w2
  have w2 := w2'
  clear w2'
  have SM' := SM.below k20
  clear SM
  have SM := SM'
  clear SM'
  have BX' := BX.below k20
  clear BX
  have BX := BX'
  clear BX'
  have BY' := BY.below k20
  clear BY
  have BY := BY'
  clear BY'
  have kb' := kb.trans (k20.mono kb.size)
  clear kb k20
  have kb := kb'
  clear kb'
  go_wp2_with (first | go_skip | (refine RowC.gload E _ rfl _ rfl z BX rfl ?_) | (refine RowC.gload E _ rfl _ rfl y BY rfl ?_) | (refine wpList_store_new E rfl _ _ rfl _ _ _ rfl z _ rfl rfl rfl rfl ?_; intro W21 BZ k21 g21 s21; clear g21 s21; have w0' := w0.below k21; clear w0; have w0 := w0'; clear w0'; have w1' := w1.below k21; clear w1; have w1 := w1'; clear w1'; have w2' := w2.below k21; clear w2; have w2 := w2'; clear w2'; have SM' := SM.below k21; clear SM; have SM := SM'; clear SM'; have BX' := BX.below k21; clear BX; have BX := BX'; clear BX'; have BY' := BY.below k21; clear BY; have BY := BY'; clear BY'; have kb' := kb.trans (k21.mono kb.size); clear kb k21; have kb := kb'; clear kb') | (refine RowC.gload E _ rfl _ rfl z BZ rfl ?_))
  have hc := RegD.may_ret AM CM M _ SM q1 (by omega)
  rw [MM.out] at hc
  refine hc.mono ?_
  clear hc
  rintro e W22 ⟨rfl, k22⟩
  have w0' := w0.below k22
  clear w0
  have w0 := w0'
  clear w0'
  have w1' := w1.below k22
  clear w1
  have w1 := w1'
  clear w1'
  have w2' := w2.below k22
  clear w2
  have w2 := w2'
  clear w2'
  have SM' := SM.below k22
  clear SM
  have SM := SM'
  clear SM'
  have BX' := BX.below k22
  clear BX
  have BX := BX'
  clear BX'
  have BY' := BY.below k22
  clear BY
  have BY := BY'
  clear BY'
  have BZ' := BZ.below k22
  clear BZ
  have BZ := BZ'
  clear BZ'
  have kb' := kb.trans (k22.mono kb.size)
  clear kb k22
  have kb := kb'
  clear kb'
  go_wp2_with (first | go_skip | (refine RowC.gload E _ rfl _ rfl z BX rfl ?_) | (refine RowC.gload E _ rfl _ rfl y BY rfl ?_) | (refine RowC.gload E _ rfl _ rfl z BZ rfl ?_))
  have hc := fun W => RegD.newer_ret y z W
  simp only [HN.out] at hc
  refine (hc _).mono ?_
  clear hc
  rintro e W23 ⟨rfl, k23⟩
  have w0' := w0.below k23
  clear w0
  have w0 := w0'
  clear w0'
  have w1' := w1.below k23
  clear w1
  have w1 := w1'
  clear w1'
  have w2' := w2.below k23
  clear w2
  have w2 := w2'
  clear w2'
  have SM' := SM.below k23
  clear SM
  have SM := SM'
  clear SM'
  have BX' := BX.below k23
  clear BX
  have BX := BX'
  clear BX'
  have BY' := BY.below k23
  clear BY
  have BY := BY'
  clear BY'
  have BZ' := BZ.below k23
  clear BZ
  have BZ := BZ'
  clear BZ'
  have kb' := kb.trans (k23.mono kb.size)
  clear kb k23
  have kb := kb'
  clear kb'
  go_wp2_with (first | go_skip | (refine RowC.gload E _ rfl _ rfl z BX rfl ?_) | (refine RowC.gload E _ rfl _ rfl y BY rfl ?_) | (refine RowC.gload E _ rfl _ rfl z BZ rfl ?_))
  have hc := fun W => RegD.newer_ret z z W
  simp only [newer_irrefl] at hc
  refine (hc _).mono ?_
  clear hc
  rintro e W24 ⟨rfl, k24⟩
  have w0' := w0.below k24
  clear w0
  have w0 := w0'
  clear w0'
  have w1' := w1.below k24
  clear w1
  have w1 := w1'
  clear w1'
  have w2' := w2.below k24
  clear w2
  have w2 := w2'
  clear w2'
  have SM' := SM.below k24
  clear SM
  have SM := SM'
  clear SM'
  have BX' := BX.below k24
  clear BX
  have BX := BX'
  clear BX'
  have BY' := BY.below k24
  clear BY
  have BY := BY'
  clear BY'
  have BZ' := BZ.below k24
  clear BZ
  have BZ := BZ'
  clear BZ'
  have kb' := kb.trans (k24.mono kb.size)
  clear kb k24
  have kb := kb'
  clear kb'
  go_wp2_with (first | go_skip | (refine RowC.gload E _ rfl _ rfl z BX rfl ?_) | (refine RowC.gload E _ rfl _ rfl y BY rfl ?_) | (refine RowC.gload E _ rfl _ rfl z BZ rfl ?_))
  go_ret
  exact ⟨by first | rfl | simp, kb⟩

theorem walk (a0 : Option Addr) (cap0 : Nat) (l0 : List Rg) (a1 : Option Addr) (cap1 : Nat) (l1 : List Rg) (a2 : Option Addr) (cap2 : Nat) (l2 : List Rg) (a3 : ByteArray) (w : World) (w0 : SlR E w a0 cap0 l0) (g0 : ∀ x ∈ l0, OpenG.Good x) (w1 : SlR E w a1 cap1 l1) (g1 : ∀ x ∈ l1, OpenG.Good x) (w2 : SlR E w a2 cap2 l2) (g2 : ∀ x ∈ l2, OpenG.Good x) (w3 : a3.size ≤ maxLen) :
    Calls Try.prog 4 #[.slice a0 l0.length cap0, .slice a1 l1.length cap1, .slice a2 l2.length cap2, .string a3] w fun e w' => e = .returned (.bool true) ∧ Below w.heap.size w w' := by
  cases x0 : fewB l0 with
  | false => exact out a0 cap0 l0 a1 cap1 l1 a2 cap2 l2 a3 w w0 g0 w1 g1 w2 g2 _ _ _ x0 rfl rfl (.inl rfl)
  | true =>
    cases x1 : fewB l1 with
    | false => exact out a0 cap0 l0 a1 cap1 l1 a2 cap2 l2 a3 w w0 g0 w1 g1 w2 g2 _ _ _ x0 x1 rfl (.inr (.inl ⟨rfl, rfl⟩))
    | true =>
      cases x2 : fewB l2 with
      | false => exact out a0 cap0 l0 a1 cap1 l1 a2 cap2 l2 a3 w w0 g0 w1 g1 w2 g2 _ _ _ x0 x1 x2 (.inr (.inr (⟨rfl, rfl, rfl⟩)))
      | true =>
        cases m0 : mayR l0 with
        | false => exact outm0 a0 cap0 l0 a1 cap1 l1 a2 cap2 l2 a3 w w0 g0 w1 g1 w2 g2 x0 x1 x2 m0
        | true =>
          cases m1 : mayR l1 with
          | false => exact outm1 a0 cap0 l0 a1 cap1 l1 a2 cap2 l2 a3 w w0 g0 w1 g1 w2 g2 x0 x1 x2 m0 m1
          | true =>
            cases m2 : mayR l2 with
            | false => exact outm2 a0 cap0 l0 a1 cap1 l1 a2 cap2 l2 a3 w w0 g0 w1 g1 w2 g2 x0 x1 x2 m0 m1 m2
            | true =>
              by_cases hk : 100 < a3.size
              · exact outm3 a0 cap0 l0 a1 cap1 l1 a2 cap2 l2 a3 w w0 g0 w1 g1 w2 g2 x0 x1 x2 m0 m1 m2 hk w3
              · have hg := merge_get m0 m1 a3
                cases ha : getR l0 a3 with
                | none =>
                  cases hb : getR l1 a3 with
                  | none =>
                    rw [ha, hb] at hg
                    exact way_nn a0 cap0 l0 a1 cap1 l1 a2 cap2 l2 a3 w w0 g0 w1 g1 w2 g2 x0 x1 x2 m0 m1 m2 (by omega) ha hb hg
                  | some z =>
                    rw [ha, hb] at hg
                    exact way_ny a0 cap0 l0 a1 cap1 l1 a2 cap2 l2 a3 w w0 g0 w1 g1 w2 g2 x0 x1 x2 m0 m1 m2 (by omega) z ha hb hg
                | some y =>
                  cases hb : getR l1 a3 with
                  | none =>
                    rw [ha, hb] at hg
                    exact way_yn a0 cap0 l0 a1 cap1 l1 a2 cap2 l2 a3 w w0 g0 w1 g1 w2 g2 x0 x1 x2 m0 m1 m2 (by omega) y ha hb hg
                  | some z =>
                    rw [ha, hb] at hg
                    have hn := best_not z y
                    have hg2 : getR (mergeR l0 l1) a3 = some (best z y) := hg
                    by_cases hd : best z y = y
                    · rw [hd] at hn hg2
                      exact way_y a0 cap0 l0 a1 cap1 l1 a2 cap2 l2 a3 w w0 g0 w1 g1 w2 g2 x0 x1 x2 m0 m1 m2 (by omega) y z hn.1 ha hb hg2
                    · have hz : best z y = z := (best_or z y).resolve_right hd
                      rw [hz] at hn hg2 hd
                      exact way_z a0 cap0 l0 a1 cap1 l1 a2 cap2 l2 a3 w w0 g0 w1 g1 w2 g2 x0 x1 x2 m0 m1 m2 (by omega) y z hn.2 hd ha hb hg2

theorem own : ownKnob Try.prog.godebug = none := by kernel_rfl
theorem laidOut : laidOutB Try.prog = true := by kernel_rfl
set_option linter.unusedVariables false in
set_option maxRecDepth 100000 in
theorem lifted (os : Os) (started : os.Started) (H : Type) (enc : TypeId × Value → H) :
    ReturnsInHanded {} Try.checked os 4 .any (Rows.regMergesSpec.pre6 enc Try.prog Try.f4 Rows.regMergesRow.domain false) (Rows.regMergesSpec.post enc Try.prog Try.f4 false true false false) := by
  refine returnsInHanded_of_change (C := Try.checked) own started (by kernel_rfl) Try.func4
    (ChangeSpec.witness6 (enc := enc) (C := Try.checked) false ⟨#[], #[.slice none 0 0, .slice none 0 0, .slice none 0 0, .string ByteArray.empty], []⟩ 8 (by kernel_rfl) (by kernel_rfl) (by kernel_rfl) (by kernel_rfl)) ?_
  intro W base args ds gs before hval0 hW hcnd _
  have hval : ∀ (j : Nat) t v, Try.f4.params[j]? = some t → args[j]? = some v → Value.okWide Try.prog W .any base t v := hval0
  have hW' := hW
  obtain ⟨p, q, hA0, hV, rfl, hfz, hnd⟩ := hW
  have hA : DataW.TrodAll enc Try.prog W 0 (fun _ => true) true Try.f4.params.toList args.toList ds p := hA0
  rw [Try.params4] at hA hval
  obtain ⟨v0, vs0, d0, ds0, p0, q0, hargs, rfl, rfl, h0, r0⟩ := trodAll_cons hA
  obtain ⟨v1, vs1, d1, ds1, p1, q1, rfl, rfl, rfl, h1, r1⟩ := trodAll_cons r0
  obtain ⟨v2, vs2, d2, ds2, p2, q2, rfl, rfl, rfl, h2, r2⟩ := trodAll_cons r1
  obtain ⟨v3, vs3, d3, ds3, p3, q3, rfl, rfl, rfl, h3, r3⟩ := trodAll_cons r2
  obtain ⟨rfl, rfl, rfl⟩ := trodAll_nil r3
  obtain rfl : args = #[v0, v1, v2, v3] := by cases args; simp_all
  obtain ⟨rfl, rfl⟩ := trodVars_none hV
  have k0 := h0
  have lt0 : ∀ x ∈ p0, x.block < W.heap.size := by obtain ⟨m, hm⟩ := k0; exact DataW.trod_lt m _ _ _ hm
  obtain ⟨a0, cap0, l0, rfl, w0, g0⟩ := OpenG.open_regs (hval 0 22 v0 rfl rfl) h0
  have k1 := h1
  have lt1 : ∀ x ∈ p1, x.block < W.heap.size := by obtain ⟨m, hm⟩ := k1; exact DataW.trod_lt m _ _ _ hm
  obtain ⟨a1, cap1, l1, rfl, w1, g1⟩ := OpenG.open_regs (hval 1 22 v1 rfl rfl) h1
  have k2 := h2
  have lt2 : ∀ x ∈ p2, x.block < W.heap.size := by obtain ⟨m, hm⟩ := k2; exact DataW.trod_lt m _ _ _ hm
  obtain ⟨a2, cap2, l2, rfl, w2, g2⟩ := OpenG.open_regs (hval 2 22 v2 rfl rfl) h2
  obtain ⟨a3, rfl, rfl, rfl, w3⟩ := Go.ChangeMaps.open_string Try.underlying9 (hval 3 9 v3 rfl rfl) h3
  clear hA0 hval0
  refine (walk a0 cap0 l0 a1 cap1 l1 a2 cap2 l2 a3 W w0 g0 w1 g1 w2 g2 w3).mono fun e W' ⟨he, bel⟩ => ?_
  subst he
  exact ⟨_, rfl, _, _, _, [], _, [], hW', trodAll_mk1 (shut_bool Try.underlying4 _), (trodAll_cons_mk (Below.trod laidOut (by kernel_rfl) (of_decide_eq_true (by kernel_rfl)) k0 bel lt0) (trodAll_cons_mk (Below.trod laidOut (by kernel_rfl) (of_decide_eq_true (by kernel_rfl)) k1 bel lt1) (trodAll_cons_mk (Below.trod laidOut (by kernel_rfl) (of_decide_eq_true (by kernel_rfl)) k2 bel lt2) (trodAll_cons_mk (Go.ChangeMaps.shut_string Try.underlying9 w3) trodAll_mk0)))), rfl, bel.frame _, fun h => by cases h⟩

theorem over : Rows.regMergesRow.holds Try.pinned (OpenSpec.ofChange Rows.regMergesSpec) :=
  OpenClaim.holds_of_wide 4 Try.f4 rfl rfl rfl rfl rfl rfl rfl ⟨rfl, rfl, rfl, rfl, rfl⟩ rfl rfl rfl rfl rfl (by kernel_rfl) Try.func4 (by kernel_rfl)
    (of_decide_eq_true (by kernel_rfl)) (by unfold Func.isWrapper; first | (rw [if_pos (by decide +kernel)]; kernel_rfl) | (rw [if_neg (by decide +kernel)]; exact ⟨rfl, rfl⟩))
    (fun os started H enc _ => lifted os started H enc)

theorem proved : Rows.RegMergesSaid := over
end Go.Proofs.Ytffefbhpndjdlaa.regMerges
