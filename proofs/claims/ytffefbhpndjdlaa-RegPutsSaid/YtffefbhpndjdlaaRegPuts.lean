/- RegPuts returns true for every input: one that is put in is there, unless one that is not older was; all other keys have what they had. No condition. -/
import Derived.Test.YtffefbhpndjdlaaRegA
import Derived.Test.YtffefbhpndjdlaaRowF
import Derived.ShutString
import Derived.ChangeOld
namespace Go.Proofs.Ytffefbhpndjdlaa.regPuts
open Go Go.ChangeShapes Go.WideShapes Go.ChangeAt Go.RowKit Byt OpsM Rise RegM RegL RowS RowB RegW RegG RegS RegQ RegU RegX RegA

set_option maxRecDepth 100000 in
set_option maxHeartbeats 8000000 in
theorem out (a0 : Option Addr) (cap0 : Nat) (l0 : List Rg) (a1 : Rg) (a2 : ByteArray) (w : World) (w0 : SlR E w a0 cap0 l0) (g0 : ∀ x ∈ l0, OpenG.Good x) (g1 : OpenG.Good a1) (b0 b1 : Bool) (x0 : fewB l0 = b0) (x1 : fewB [a1] = b1) (h : b0 = false ∨ (b0 = true ∧ b1 = false)) :
    Calls Try.prog 6 #[.slice a0 l0.length cap0, .agg (rc a1), .string a2] w fun e w' => e = .returned (.bool true) ∧ Below w.heap.size w w' := by
  rcases h with rfl | ⟨rfl, rfl⟩
  all_goals
    have B1 : Box E (w.alloc (.cells (rc a1) 26)) (w.heap.size) a1 := by exact Box.new w a1 _
    have Z1 := below_alloc w (.cells (rc a1) 26)
    have w0' := w0.below Z1
    clear w0
    have w0 := w0'
    clear w0'
    have kb : Below w.heap.size w (w.alloc (.cells (rc a1) 26)) := by go_grown
    clear Z1
    go_enter Try.func6, Try.ntmps6
    go_wp2_with fail
    refine (awake _).mono ?_
    rintro e W1 ⟨rfl, k1⟩
    have w0' := w0.below k1
    clear w0
    have w0 := w0'
    clear w0'
    have B1' := B1.below k1
    clear B1
    have B1 := B1'
    clear B1'
    have kb' := kb.trans (k1.mono kb.size)
    clear kb k1
    have kb := kb'
    clear kb'
    go_wp2_with (first | go_skip | (refine RowC.gload E _ rfl _ rfl a1 B1 rfl ?_))
    have hc := few_ret a0 cap0 l0 _ w0 (max_of g0)
    rw [x0] at hc
    refine hc.mono ?_
    clear hc
    rintro e w' ⟨rfl, rfl⟩
    go_wp2_with (first | go_skip | (refine RowC.gload E _ rfl _ rfl a1 B1 rfl ?_) | (refine RowC.glit1 E (of_decide_eq_true rfl) _ rfl a1 rfl rfl ?_; intro W2 T k2; have w0' := w0.below k2; clear w0; have w0 := w0'; clear w0'; have B1' := B1.below k2; clear B1; have B1 := B1'; clear B1'; have kb' := kb.trans (k2.mono kb.size); clear kb k2; have kb := kb'; clear kb'))
    have hc := few_ret _ _ [a1] _ T (max_of (one_of g1))
    rw [x1] at hc
    refine hc.mono ?_
    clear hc
    rintro e w' ⟨rfl, rfl⟩
    clear T
    go_wp2_with (first | go_skip | (refine RowC.gload E _ rfl _ rfl a1 B1 rfl ?_))
    go_ret
    exact ⟨by first | rfl | simp, kb⟩

set_option maxRecDepth 100000 in
set_option maxHeartbeats 8000000 in
theorem outm0 (a0 : Option Addr) (cap0 : Nat) (l0 : List Rg) (a1 : Rg) (a2 : ByteArray) (w : World) (w0 : SlR E w a0 cap0 l0) (g0 : ∀ x ∈ l0, OpenG.Good x) (g1 : OpenG.Good a1) (x0 : fewB l0 = true) (x1 : fewB [a1] = true) (m0 : mayR l0 = false) :
    Calls Try.prog 6 #[.slice a0 l0.length cap0, .agg (rc a1), .string a2] w fun e w' => e = .returned (.bool true) ∧ Below w.heap.size w w' := by
  have y0 := few_len x0
  have f0 := few_fits x0 g0
  have fa := fit_one x1 g1
  have fA := fits_one fa
  have X0 := aside x0
  have X1 := aside x1
  have M0 := aside m0
  clear x0 x1 m0
  have B1 : Box E (w.alloc (.cells (rc a1) 26)) (w.heap.size) a1 := by exact Box.new w a1 _
  have Z1 := below_alloc w (.cells (rc a1) 26)
  have w0' := w0.below Z1
  clear w0
  have w0 := w0'
  clear w0'
  have kb : Below w.heap.size w (w.alloc (.cells (rc a1) 26)) := by go_grown
  clear Z1
  go_enter Try.func6, Try.ntmps6
  go_wp2_with fail
  refine (awake _).mono ?_
  rintro e W1 ⟨rfl, k1⟩
  have w0' := w0.below k1
  clear w0
  have w0 := w0'
  clear w0'
  have B1' := B1.below k1
  clear B1
  have B1 := B1'
  clear B1'
  have kb' := kb.trans (k1.mono kb.size)
  clear kb k1
  have kb := kb'
  clear kb'
  go_wp2_with (first | go_skip | (refine RowC.gload E _ rfl _ rfl a1 B1 rfl ?_))
  have hc := few_ret a0 cap0 l0 _ w0 (max_of g0)
  rw [X0.out] at hc
  refine hc.mono ?_
  clear hc
  rintro e w' ⟨rfl, rfl⟩
  go_wp2_with (first | go_skip | (refine RowC.gload E _ rfl _ rfl a1 B1 rfl ?_) | (refine RowC.glit1 E (of_decide_eq_true rfl) _ rfl a1 rfl rfl ?_; intro W2 T k2; have w0' := w0.below k2; clear w0; have w0 := w0'; clear w0'; have B1' := B1.below k2; clear B1; have B1 := B1'; clear B1'; have kb' := kb.trans (k2.mono kb.size); clear kb k2; have kb := kb'; clear kb'))
  have hc := few_ret _ _ [a1] _ T (max_of (one_of g1))
  rw [X1.out] at hc
  refine hc.mono ?_
  clear hc
  rintro e w' ⟨rfl, rfl⟩
  clear T
  go_wp2_with (first | go_skip | (refine RowC.gload E _ rfl _ rfl a1 B1 rfl ?_))
  have hc := RegD.may_ret a0 cap0 l0 _ w0 f0 (by omega)
  rw [M0.out] at hc
  refine hc.mono ?_
  clear hc
  rintro e W3 ⟨rfl, k3⟩
  have w0' := w0.below k3
  clear w0
  have w0 := w0'
  clear w0'
  have B1' := B1.below k3
  clear B1
  have B1 := B1'
  clear B1'
  have kb' := kb.trans (k3.mono kb.size)
  clear kb k3
  have kb := kb'
  clear kb'
  go_wp2_with (first | go_skip | (refine RowC.gload E _ rfl _ rfl a1 B1 rfl ?_))
  go_ret
  exact ⟨by first | rfl | simp, kb⟩

set_option maxRecDepth 100000 in
set_option maxHeartbeats 8000000 in
theorem outm1 (a0 : Option Addr) (cap0 : Nat) (l0 : List Rg) (a1 : Rg) (a2 : ByteArray) (w : World) (w0 : SlR E w a0 cap0 l0) (g0 : ∀ x ∈ l0, OpenG.Good x) (g1 : OpenG.Good a1) (x0 : fewB l0 = true) (x1 : fewB [a1] = true) (m0 : mayR l0 = true) (m1 : mayR [a1] = false) :
    Calls Try.prog 6 #[.slice a0 l0.length cap0, .agg (rc a1), .string a2] w fun e w' => e = .returned (.bool true) ∧ Below w.heap.size w w' := by
  have y0 := few_len x0
  have f0 := few_fits x0 g0
  have fa := fit_one x1 g1
  have fA := fits_one fa
  have X0 := aside x0
  have X1 := aside x1
  have M0 := aside m0
  have M1 := aside m1
  clear x0 x1 m0 m1
  have B1 : Box E (w.alloc (.cells (rc a1) 26)) (w.heap.size) a1 := by exact Box.new w a1 _
  have Z1 := below_alloc w (.cells (rc a1) 26)
  have w0' := w0.below Z1
  clear w0
  have w0 := w0'
  clear w0'
  have kb : Below w.heap.size w (w.alloc (.cells (rc a1) 26)) := by go_grown
  clear Z1
  go_enter Try.func6, Try.ntmps6
  go_wp2_with fail
  refine (awake _).mono ?_
  rintro e W1 ⟨rfl, k1⟩
  have w0' := w0.below k1
  clear w0
  have w0 := w0'
  clear w0'
  have B1' := B1.below k1
  clear B1
  have B1 := B1'
  clear B1'
  have kb' := kb.trans (k1.mono kb.size)
  clear kb k1
  have kb := kb'
  clear kb'
  go_wp2_with (first | go_skip | (refine RowC.gload E _ rfl _ rfl a1 B1 rfl ?_))
  have hc := few_ret a0 cap0 l0 _ w0 (max_of g0)
  rw [X0.out] at hc
  refine hc.mono ?_
  clear hc
  rintro e w' ⟨rfl, rfl⟩
  go_wp2_with (first | go_skip | (refine RowC.gload E _ rfl _ rfl a1 B1 rfl ?_) | (refine RowC.glit1 E (of_decide_eq_true rfl) _ rfl a1 rfl rfl ?_; intro W2 T k2; have w0' := w0.below k2; clear w0; have w0 := w0'; clear w0'; have B1' := B1.below k2; clear B1; have B1 := B1'; clear B1'; have kb' := kb.trans (k2.mono kb.size); clear kb k2; have kb := kb'; clear kb'))
  have hc := few_ret _ _ [a1] _ T (max_of (one_of g1))
  rw [X1.out] at hc
  refine hc.mono ?_
  clear hc
  rintro e w' ⟨rfl, rfl⟩
  clear T
  go_wp2_with (first | go_skip | (refine RowC.gload E _ rfl _ rfl a1 B1 rfl ?_))
  have hc := RegD.may_ret a0 cap0 l0 _ w0 f0 (by omega)
  rw [M0.out] at hc
  refine hc.mono ?_
  clear hc
  rintro e W3 ⟨rfl, k3⟩
  have w0' := w0.below k3
  clear w0
  have w0 := w0'
  clear w0'
  have B1' := B1.below k3
  clear B1
  have B1 := B1'
  clear B1'
  have kb' := kb.trans (k3.mono kb.size)
  clear kb k3
  have kb := kb'
  clear kb'
  go_wp2_with (first | go_skip | (refine RowC.gload E _ rfl _ rfl a1 B1 rfl ?_) | (refine RowC.glit1 E (of_decide_eq_true rfl) _ rfl a1 rfl rfl ?_; intro W4 T1 k4; have w0' := w0.below k4; clear w0; have w0 := w0'; clear w0'; have B1' := B1.below k4; clear B1; have B1 := B1'; clear B1'; have kb' := kb.trans (k4.mono kb.size); clear kb k4; have kb := kb'; clear kb'))
  have hc := RegD.may_ret _ _ [a1] _ T1 fA (by simp)
  rw [M1.out] at hc
  refine hc.mono ?_
  clear hc
  rintro e W5 ⟨rfl, k5⟩
  clear T1
  have w0' := w0.below k5
  clear w0
  have w0 := w0'
  clear w0'
  have B1' := B1.below k5
  clear B1
  have B1 := B1'
  clear B1'
  have kb' := kb.trans (k5.mono kb.size)
  clear kb k5
  have kb := kb'
  clear kb'
  go_wp2_with (first | go_skip | (refine RowC.gload E _ rfl _ rfl a1 B1 rfl ?_))
  go_ret
  exact ⟨by first | rfl | simp, kb⟩

set_option maxRecDepth 100000 in
set_option maxHeartbeats 8000000 in
theorem outm2 (a0 : Option Addr) (cap0 : Nat) (l0 : List Rg) (a1 : Rg) (a2 : ByteArray) (w : World) (w0 : SlR E w a0 cap0 l0) (g0 : ∀ x ∈ l0, OpenG.Good x) (g1 : OpenG.Good a1) (x0 : fewB l0 = true) (x1 : fewB [a1] = true) (m0 : mayR l0 = true) (m1 : mayR [a1] = true) (hk : 100 < a2.size) (hk2 : a2.size ≤ maxLen) :
    Calls Try.prog 6 #[.slice a0 l0.length cap0, .agg (rc a1), .string a2] w fun e w' => e = .returned (.bool true) ∧ Below w.heap.size w w' := by
  have y0 := few_len x0
  have f0 := few_fits x0 g0
  have fa := fit_one x1 g1
  have fA := fits_one fa
  have X0 := aside x0
  have X1 := aside x1
  have M0 := aside m0
  have M1 := aside m1
  unfold maxLen at hk2
  clear x0 x1 m0 m1
  have B1 : Box E (w.alloc (.cells (rc a1) 26)) (w.heap.size) a1 := by exact Box.new w a1 _
  have Z1 := below_alloc w (.cells (rc a1) 26)
  have w0' := w0.below Z1
  clear w0
  have w0 := w0'
  clear w0'
  have kb : Below w.heap.size w (w.alloc (.cells (rc a1) 26)) := by go_grown
  clear Z1
  go_enter Try.func6, Try.ntmps6
  go_wp2_with fail
  refine (awake _).mono ?_
  rintro e W1 ⟨rfl, k1⟩
  have w0' := w0.below k1
  clear w0
  have w0 := w0'
  clear w0'
  have B1' := B1.below k1
  clear B1
  have B1 := B1'
  clear B1'
  have kb' := kb.trans (k1.mono kb.size)
  clear kb k1
  have kb := kb'
  clear kb'
  go_wp2_with (first | go_skip | (refine RowC.gload E _ rfl _ rfl a1 B1 rfl ?_))
  have hc := few_ret a0 cap0 l0 _ w0 (max_of g0)
  rw [X0.out] at hc
  refine hc.mono ?_
  clear hc
  rintro e w' ⟨rfl, rfl⟩
  go_wp2_with (first | go_skip | (refine RowC.gload E _ rfl _ rfl a1 B1 rfl ?_) | (refine RowC.glit1 E (of_decide_eq_true rfl) _ rfl a1 rfl rfl ?_; intro W2 T k2; have w0' := w0.below k2; clear w0; have w0 := w0'; clear w0'; have B1' := B1.below k2; clear B1; have B1 := B1'; clear B1'; have kb' := kb.trans (k2.mono kb.size); clear kb k2; have kb := kb'; clear kb'))
  have hc := few_ret _ _ [a1] _ T (max_of (one_of g1))
  rw [X1.out] at hc
  refine hc.mono ?_
  clear hc
  rintro e w' ⟨rfl, rfl⟩
  clear T
  go_wp2_with (first | go_skip | (refine RowC.gload E _ rfl _ rfl a1 B1 rfl ?_))
  have hc := RegD.may_ret a0 cap0 l0 _ w0 f0 (by omega)
  rw [M0.out] at hc
  refine hc.mono ?_
  clear hc
  rintro e W3 ⟨rfl, k3⟩
  have w0' := w0.below k3
  clear w0
  have w0 := w0'
  clear w0'
  have B1' := B1.below k3
  clear B1
  have B1 := B1'
  clear B1'
  have kb' := kb.trans (k3.mono kb.size)
  clear kb k3
  have kb := kb'
  clear kb'
  go_wp2_with (first | go_skip | (refine RowC.gload E _ rfl _ rfl a1 B1 rfl ?_) | (refine RowC.glit1 E (of_decide_eq_true rfl) _ rfl a1 rfl rfl ?_; intro W4 T1 k4; have w0' := w0.below k4; clear w0; have w0 := w0'; clear w0'; have B1' := B1.below k4; clear B1; have B1 := B1'; clear B1'; have kb' := kb.trans (k4.mono kb.size); clear kb k4; have kb := kb'; clear kb'))
  have hc := RegD.may_ret _ _ [a1] _ T1 fA (by simp)
  rw [M1.out] at hc
  refine hc.mono ?_
  clear hc
  rintro e W5 ⟨rfl, k5⟩
  clear T1
  have w0' := w0.below k5
  clear w0
  have w0 := w0'
  clear w0'
  have B1' := B1.below k5
  clear B1
  have B1 := B1'
  clear B1'
  have kb' := kb.trans (k5.mono kb.size)
  clear kb k5
  have kb := kb'
  clear kb'
  go_wp2_with (first | go_skip | (refine RowC.gload E _ rfl _ rfl a1 B1 rfl ?_))
  go_ret
  exact ⟨by first | rfl | simp, kb⟩

set_option maxRecDepth 100000 in
set_option maxHeartbeats 8000000 in
theorem way_d_none (a0 : Option Addr) (cap0 : Nat) (l0 : List Rg) (a1 : Rg) (a2 : ByteArray) (w : World) (w0 : SlR E w a0 cap0 l0) (g0 : ∀ x ∈ l0, OpenG.Good x) (g1 : OpenG.Good a1) (x0 : fewB l0 = true) (x1 : fewB [a1] = true) (m0 : mayR l0 = true) (m1 : mayR [a1] = true) (hk : a2.size ≤ 100) (ho : getR l0 a1.key = none) (hx : getR (putR l0 a1) a1.key = some a1) (oq op : Option Rg) (hq : getR l0 a2 = oq) (hp : getR (putR l0 a1) a2 = op) (hd : a2 ≠ a1.key) (hpq : op = oq) :
    Calls Try.prog 6 #[.slice a0 l0.length cap0, .agg (rc a1), .string a2] w fun e w' => e = .returned (.bool true) ∧ Below w.heap.size w w' := by
  have y0 := few_len x0
  have f0 := few_fits x0 g0
  have fa := fit_one x1 g1
  have fA := fits_one fa
  have X0 := aside x0
  have X1 := aside x1
  have p1 := put_length l0 a1
  have q1 := put_fits f0 fa
  have mp := put_may l0 a1
  obtain ⟨P, hP⟩ : ∃ l, putR l0 a1 = l := ⟨_, rfl⟩
  rw [hP] at p1 q1 mp hx hp
  have HP := aside hP
  have HX := aside hx
  have HO := aside ho
  have HQ := aside hq
  have HPK := aside hp
  have MP := aside mp
  have M0 := aside m0
  have M1 := aside m1
  have e1 := bne_no hd
  have e2 := str_no hd
  have t1 := equal_yes (x := a1) rfl
  subst hpq
  have t2 := equal_yes (x := vR op) rfl
  clear x0 x1 m0 m1 mp hx ho hq hp hP hd
  have B1 : Box E (w.alloc (.cells (rc a1) 26)) (w.heap.size) a1 := by exact Box.new w a1 _
  have Z1 := below_alloc w (.cells (rc a1) 26)
  have w0' := w0.below Z1
  clear w0
  have w0 := w0'
  clear w0'
  have kb : Below w.heap.size w (w.alloc (.cells (rc a1) 26)) := by go_grown
  clear Z1
  go_enter Try.func6, Try.ntmps6
  go_wp2_with fail
  refine (awake _).mono ?_
  rintro e W1 ⟨rfl, k1⟩
  have w0' := w0.below k1
  clear w0
  have w0 := w0'
  clear w0'
  have B1' := B1.below k1
  clear B1
  have B1 := B1'
  clear B1'
  have kb' := kb.trans (k1.mono kb.size)
  clear kb k1
  have kb := kb'
  clear kb'
  go_wp2_with (first | go_skip | (refine RowC.gload E _ rfl _ rfl a1 B1 rfl ?_))
  have hc := few_ret a0 cap0 l0 _ w0 (max_of g0)
  rw [X0.out] at hc
  refine hc.mono ?_
  clear hc
  rintro e w' ⟨rfl, rfl⟩
  go_wp2_with (first | go_skip | (refine RowC.gload E _ rfl _ rfl a1 B1 rfl ?_) | (refine RowC.glit1 E (of_decide_eq_true rfl) _ rfl a1 rfl rfl ?_; intro W2 T k2; have w0' := w0.below k2; clear w0; have w0 := w0'; clear w0'; have B1' := B1.below k2; clear B1; have B1 := B1'; clear B1'; have kb' := kb.trans (k2.mono kb.size); clear kb k2; have kb := kb'; clear kb'))
  have hc := few_ret _ _ [a1] _ T (max_of (one_of g1))
  rw [X1.out] at hc
  refine hc.mono ?_
  clear hc
  rintro e w' ⟨rfl, rfl⟩
  clear T
  go_wp2_with (first | go_skip | (refine RowC.gload E _ rfl _ rfl a1 B1 rfl ?_))
  have hc := RegD.may_ret a0 cap0 l0 _ w0 f0 (by omega)
  rw [M0.out] at hc
  refine hc.mono ?_
  clear hc
  rintro e W3 ⟨rfl, k3⟩
  have w0' := w0.below k3
  clear w0
  have w0 := w0'
  clear w0'
  have B1' := B1.below k3
  clear B1
  have B1 := B1'
  clear B1'
  have kb' := kb.trans (k3.mono kb.size)
  clear kb k3
  have kb := kb'
  clear kb'
  go_wp2_with (first | go_skip | (refine RowC.gload E _ rfl _ rfl a1 B1 rfl ?_) | (refine RowC.glit1 E (of_decide_eq_true rfl) _ rfl a1 rfl rfl ?_; intro W4 T1 k4; have w0' := w0.below k4; clear w0; have w0 := w0'; clear w0'; have B1' := B1.below k4; clear B1; have B1 := B1'; clear B1'; have kb' := kb.trans (k4.mono kb.size); clear kb k4; have kb := kb'; clear kb'))
  have hc := RegD.may_ret _ _ [a1] _ T1 fA (by simp)
  rw [M1.out] at hc
  refine hc.mono ?_
  clear hc
  rintro e W5 ⟨rfl, k5⟩
  clear T1
  have w0' := w0.below k5
  clear w0
  have w0 := w0'
  clear w0'
  have B1' := B1.below k5
  clear B1
  have B1 := B1'
  clear B1'
  have kb' := kb.trans (k5.mono kb.size)
  clear kb k5
  have kb := kb'
  clear kb'
  go_wp2_with (first | go_skip | (refine RowC.gload E _ rfl _ rfl a1 B1 rfl ?_))
  have hc := RegD.put_ret a0 cap0 l0 a1 _ w0 f0 fa (by omega)
  rw [HP.out] at hc
  refine hc.mono ?_
  clear hc
  rintro e W6 ⟨AP, CP, rfl, SP, k6⟩
  have w0' := w0.below k6
  clear w0
  have w0 := w0'
  clear w0'
  have B1' := B1.below k6
  clear B1
  have B1 := B1'
  clear B1'
  have kb' := kb.trans (k6.mono kb.size)
  clear kb k6
  have kb := kb'
  clear kb'
  have c0 := B1.cell (j := 0) (v := .string a1.key) rfl
  go_wp2_with (first | go_skip | (refine RowC.gload E _ rfl _ rfl a1 B1 rfl ?_))
  have hc := RegD.get_ret AP CP P a1.key _ SP (by omega)
  rw [HX.out, gv_eq] at hc
  refine hc.mono ?_
  clear hc
  rintro e W7 ⟨rfl, k7⟩
  have w0' := w0.below k7
  clear w0
  have w0 := w0'
  clear w0'
  have B1' := B1.below k7
  clear B1
  have B1 := B1'
  clear B1'
  have SP' := SP.below k7
  clear SP
  have SP := SP'
  clear SP'
  have kb' := kb.trans (k7.mono kb.size)
  clear kb k7
  have kb := kb'
  clear kb'
  clear c0
  go_wp2_with (first | go_skip | (refine RowC.gload E _ rfl _ rfl a1 B1 rfl ?_) | (refine wpList_store_new E rfl _ _ rfl _ _ _ rfl a1 _ rfl rfl rfl rfl ?_; intro W8 BX k8 g8 s8; clear g8 s8; have w0' := w0.below k8; clear w0; have w0 := w0'; clear w0'; have B1' := B1.below k8; clear B1; have B1 := B1'; clear B1'; have SP' := SP.below k8; clear SP; have SP := SP'; clear SP'; have kb' := kb.trans (k8.mono kb.size); clear kb k8; have kb := kb'; clear kb'; have c0 := B1.cell (j := 0) (v := .string a1.key) rfl) | (refine RowC.gload E _ rfl _ rfl a1 BX rfl ?_))
  have hc := RegD.get_ret a0 cap0 l0 a1.key _ w0 (by omega)
  rw [HO.out, gv_eq] at hc
  refine hc.mono ?_
  clear hc
  rintro e W9 ⟨rfl, k9⟩
  have w0' := w0.below k9
  clear w0
  have w0 := w0'
  clear w0'
  have B1' := B1.below k9
  clear B1
  have B1 := B1'
  clear B1'
  have SP' := SP.below k9
  clear SP
  have SP := SP'
  clear SP'
  have BX' := BX.below k9
  clear BX
  have BX := BX'
  clear BX'
  have kb' := kb.trans (k9.mono kb.size)
  clear kb k9
  have kb := kb'
  clear kb'
  clear c0
  go_wp2_with (first | go_skip | (refine RowC.gload E _ rfl _ rfl a1 B1 rfl ?_) | (refine RowC.gload E _ rfl _ rfl a1 BX rfl ?_) | (refine wpList_store_new E rfl _ _ rfl _ _ _ rfl noR _ rfl rfl rfl rfl ?_; intro W10 BY k10 g10 s10; clear g10 s10; have w0' := w0.below k10; clear w0; have w0 := w0'; clear w0'; have B1' := B1.below k10; clear B1; have B1 := B1'; clear B1'; have SP' := SP.below k10; clear SP; have SP := SP'; clear SP'; have BX' := BX.below k10; clear BX; have BX := BX'; clear BX'; have kb' := kb.trans (k10.mono kb.size); clear kb k10; have kb := kb'; clear kb') | (refine RowC.gload E _ rfl _ rfl noR BY rfl ?_))
  have hc := RegD.get_ret AP CP P a2 _ SP (by omega)
  rw [HPK.out, gv_eq] at hc
  refine hc.mono ?_
  clear hc
  rintro e W11 ⟨rfl, k11⟩
  have w0' := w0.below k11
  clear w0
  have w0 := w0'
  clear w0'
  have B1' := B1.below k11
  clear B1
  have B1 := B1'
  clear B1'
  have SP' := SP.below k11
  clear SP
  have SP := SP'
  clear SP'
  have BX' := BX.below k11
  clear BX
  have BX := BX'
  clear BX'
  have BY' := BY.below k11
  clear BY
  have BY := BY'
  clear BY'
  have kb' := kb.trans (k11.mono kb.size)
  clear kb k11
  have kb := kb'
  clear kb'
  go_wp2_with (first | go_skip | (refine RowC.gload E _ rfl _ rfl a1 B1 rfl ?_) | (refine RowC.gload E _ rfl _ rfl a1 BX rfl ?_) | (refine RowC.gload E _ rfl _ rfl noR BY rfl ?_) | (refine wpList_store_new E rfl _ _ rfl _ _ _ rfl (vR op) _ rfl rfl rfl rfl ?_; intro W12 BP k12 g12 s12; clear g12 s12; have w0' := w0.below k12; clear w0; have w0 := w0'; clear w0'; have B1' := B1.below k12; clear B1; have B1 := B1'; clear B1'; have SP' := SP.below k12; clear SP; have SP := SP'; clear SP'; have BX' := BX.below k12; clear BX; have BX := BX'; clear BX'; have BY' := BY.below k12; clear BY; have BY := BY'; clear BY'; have kb' := kb.trans (k12.mono kb.size); clear kb k12; have kb := kb'; clear kb') | (refine RowC.gload E _ rfl _ rfl (vR op) BP rfl ?_))
  have hc := RegD.get_ret a0 cap0 l0 a2 _ w0 (by omega)
  rw [HQ.out, gv_eq] at hc
  refine hc.mono ?_
  clear hc
  rintro e W13 ⟨rfl, k13⟩
  have w0' := w0.below k13
  clear w0
  have w0 := w0'
  clear w0'
  have B1' := B1.below k13
  clear B1
  have B1 := B1'
  clear B1'
  have SP' := SP.below k13
  clear SP
  have SP := SP'
  clear SP'
  have BX' := BX.below k13
  clear BX
  have BX := BX'
  clear BX'
  have BY' := BY.below k13
  clear BY
  have BY := BY'
  clear BY'
  have BP' := BP.below k13
  clear BP
  have BP := BP'
  clear BP'
  have kb' := kb.trans (k13.mono kb.size)
  clear kb k13
  have kb := kb'
  clear kb'
  go_wp2_with (first | go_skip | (refine RowC.gload E _ rfl _ rfl a1 B1 rfl ?_) | (refine RowC.gload E _ rfl _ rfl a1 BX rfl ?_) | (refine RowC.gload E _ rfl _ rfl noR BY rfl ?_) | (refine RowC.gload E _ rfl _ rfl (vR op) BP rfl ?_) | (refine wpList_store_new E rfl _ _ rfl _ _ _ rfl (vR op) _ rfl rfl rfl rfl ?_; intro W14 BQ k14 g14 s14; clear g14 s14; have w0' := w0.below k14; clear w0; have w0 := w0'; clear w0'; have B1' := B1.below k14; clear B1; have B1 := B1'; clear B1'; have SP' := SP.below k14; clear SP; have SP := SP'; clear SP'; have BX' := BX.below k14; clear BX; have BX := BX'; clear BX'; have BY' := BY.below k14; clear BY; have BY := BY'; clear BY'; have BP' := BP.below k14; clear BP; have BP := BP'; clear BP'; have kb' := kb.trans (k14.mono kb.size); clear kb k14; have kb := kb'; clear kb') | (refine RowC.gload E _ rfl _ rfl (vR op) BQ rfl ?_))
  have hc := RegD.may_ret AP CP P _ SP q1 (by omega)
  rw [MP.out] at hc
  refine hc.mono ?_
  clear hc
  rintro e W15 ⟨rfl, k15⟩
  have w0' := w0.below k15
  clear w0
  have w0 := w0'
  clear w0'
  have B1' := B1.below k15
  clear B1
  have B1 := B1'
  clear B1'
  have SP' := SP.below k15
  clear SP
  have SP := SP'
  clear SP'
  have BX' := BX.below k15
  clear BX
  have BX := BX'
  clear BX'
  have BY' := BY.below k15
  clear BY
  have BY := BY'
  clear BY'
  have BP' := BP.below k15
  clear BP
  have BP := BP'
  clear BP'
  have BQ' := BQ.below k15
  clear BQ
  have BQ := BQ'
  clear BQ'
  have kb' := kb.trans (k15.mono kb.size)
  clear kb k15
  have kb := kb'
  clear kb'
  have c0 := B1.cell (j := 0) (v := .string a1.key) rfl
  go_wp2_with (first | go_skip | (refine RowC.gload E _ rfl _ rfl a1 B1 rfl ?_) | (refine RowC.gload E _ rfl _ rfl a1 BX rfl ?_) | (refine RowC.gload E _ rfl _ rfl noR BY rfl ?_) | (refine RowC.gload E _ rfl _ rfl (vR op) BP rfl ?_) | (refine RowC.gload E _ rfl _ rfl (vR op) BQ rfl ?_))
  go_ret
  exact ⟨by first | rfl | simp, kb⟩

set_option maxRecDepth 100000 in
set_option maxHeartbeats 8000000 in
theorem way_d_new (a0 : Option Addr) (cap0 : Nat) (l0 : List Rg) (a1 : Rg) (a2 : ByteArray) (w : World) (w0 : SlR E w a0 cap0 l0) (g0 : ∀ x ∈ l0, OpenG.Good x) (g1 : OpenG.Good a1) (x0 : fewB l0 = true) (x1 : fewB [a1] = true) (m0 : mayR l0 = true) (m1 : mayR [a1] = true) (hk : a2.size ≤ 100) (y : Rg) (hn : newerB a1 y = true) (ho : getR l0 a1.key = some y) (hx : getR (putR l0 a1) a1.key = some a1) (oq op : Option Rg) (hq : getR l0 a2 = oq) (hp : getR (putR l0 a1) a2 = op) (hd : a2 ≠ a1.key) (hpq : op = oq) :
    Calls Try.prog 6 #[.slice a0 l0.length cap0, .agg (rc a1), .string a2] w fun e w' => e = .returned (.bool true) ∧ Below w.heap.size w w' := by
  have y0 := few_len x0
  have f0 := few_fits x0 g0
  have fa := fit_one x1 g1
  have fA := fits_one fa
  have X0 := aside x0
  have X1 := aside x1
  have p1 := put_length l0 a1
  have q1 := put_fits f0 fa
  have mp := put_may l0 a1
  obtain ⟨P, hP⟩ : ∃ l, putR l0 a1 = l := ⟨_, rfl⟩
  rw [hP] at p1 q1 mp hx hp
  have HP := aside hP
  have HX := aside hx
  have HO := aside ho
  have HQ := aside hq
  have HPK := aside hp
  have MP := aside mp
  have M0 := aside m0
  have M1 := aside m1
  have e1 := bne_no hd
  have e2 := str_no hd
  have t1 := equal_yes (x := a1) rfl
  subst hpq
  have t2 := equal_yes (x := vR op) rfl
  have HN := aside hn
  clear hn
  clear x0 x1 m0 m1 mp hx ho hq hp hP hd
  have B1 : Box E (w.alloc (.cells (rc a1) 26)) (w.heap.size) a1 := by exact Box.new w a1 _
  have Z1 := below_alloc w (.cells (rc a1) 26)
  have w0' := w0.below Z1
  clear w0
  have w0 := w0'
  clear w0'
  have kb : Below w.heap.size w (w.alloc (.cells (rc a1) 26)) := by go_grown
  clear Z1
  go_enter Try.func6, Try.ntmps6
  go_wp2_with fail
  refine (awake _).mono ?_
  rintro e W1 ⟨rfl, k1⟩
  have w0' := w0.below k1
  clear w0
  have w0 := w0'
  clear w0'
  have B1' := B1.below k1
  clear B1
  have B1 := B1'
  clear B1'
  have kb' := kb.trans (k1.mono kb.size)
  clear kb k1
  have kb := kb'
  clear kb'
  go_wp2_with (first | go_skip | (refine RowC.gload E _ rfl _ rfl a1 B1 rfl ?_))
  have hc := few_ret a0 cap0 l0 _ w0 (max_of g0)
  rw [X0.out] at hc
  refine hc.mono ?_
  clear hc
  rintro e w' ⟨rfl, rfl⟩
  go_wp2_with (first | go_skip | (refine RowC.gload E _ rfl _ rfl a1 B1 rfl ?_) | (refine RowC.glit1 E (of_decide_eq_true rfl) _ rfl a1 rfl rfl ?_; intro W2 T k2; have w0' := w0.below k2; clear w0; have w0 := w0'; clear w0'; have B1' := B1.below k2; clear B1; have B1 := B1'; clear B1'; have kb' := kb.trans (k2.mono kb.size); clear kb k2; have kb := kb'; clear kb'))
  have hc := few_ret _ _ [a1] _ T (max_of (one_of g1))
  rw [X1.out] at hc
  refine hc.mono ?_
  clear hc
  rintro e w' ⟨rfl, rfl⟩
  clear T
  go_wp2_with (first | go_skip | (refine RowC.gload E _ rfl _ rfl a1 B1 rfl ?_))
  have hc := RegD.may_ret a0 cap0 l0 _ w0 f0 (by omega)
  rw [M0.out] at hc
  refine hc.mono ?_
  clear hc
  rintro e W3 ⟨rfl, k3⟩
  have w0' := w0.below k3
  clear w0
  have w0 := w0'
  clear w0'
  have B1' := B1.below k3
  clear B1
  have B1 := B1'
  clear B1'
  have kb' := kb.trans (k3.mono kb.size)
  clear kb k3
  have kb := kb'
  clear kb'
  go_wp2_with (first | go_skip | (refine RowC.gload E _ rfl _ rfl a1 B1 rfl ?_) | (refine RowC.glit1 E (of_decide_eq_true rfl) _ rfl a1 rfl rfl ?_; intro W4 T1 k4; have w0' := w0.below k4; clear w0; have w0 := w0'; clear w0'; have B1' := B1.below k4; clear B1; have B1 := B1'; clear B1'; have kb' := kb.trans (k4.mono kb.size); clear kb k4; have kb := kb'; clear kb'))
  have hc := RegD.may_ret _ _ [a1] _ T1 fA (by simp)
  rw [M1.out] at hc
  refine hc.mono ?_
  clear hc
  rintro e W5 ⟨rfl, k5⟩
  clear T1
  have w0' := w0.below k5
  clear w0
  have w0 := w0'
  clear w0'
  have B1' := B1.below k5
  clear B1
  have B1 := B1'
  clear B1'
  have kb' := kb.trans (k5.mono kb.size)
  clear kb k5
  have kb := kb'
  clear kb'
  go_wp2_with (first | go_skip | (refine RowC.gload E _ rfl _ rfl a1 B1 rfl ?_))
  have hc := RegD.put_ret a0 cap0 l0 a1 _ w0 f0 fa (by omega)
  rw [HP.out] at hc
  refine hc.mono ?_
  clear hc
  rintro e W6 ⟨AP, CP, rfl, SP, k6⟩
  have w0' := w0.below k6
  clear w0
  have w0 := w0'
  clear w0'
  have B1' := B1.below k6
  clear B1
  have B1 := B1'
  clear B1'
  have kb' := kb.trans (k6.mono kb.size)
  clear kb k6
  have kb := kb'
  clear kb'
  have c0 := B1.cell (j := 0) (v := .string a1.key) rfl
  go_wp2_with (first | go_skip | (refine RowC.gload E _ rfl _ rfl a1 B1 rfl ?_))
  have hc := RegD.get_ret AP CP P a1.key _ SP (by omega)
  rw [HX.out, gv_eq] at hc
  refine hc.mono ?_
  clear hc
  rintro e W7 ⟨rfl, k7⟩
  have w0' := w0.below k7
  clear w0
  have w0 := w0'
  clear w0'
  have B1' := B1.below k7
  clear B1
  have B1 := B1'
  clear B1'
  have SP' := SP.below k7
  clear SP
  have SP := SP'
  clear SP'
  have kb' := kb.trans (k7.mono kb.size)
  clear kb k7
  have kb := kb'
  clear kb'
  clear c0
  go_wp2_with (first | go_skip | (refine RowC.gload E _ rfl _ rfl a1 B1 rfl ?_) | (refine wpList_store_new E rfl _ _ rfl _ _ _ rfl a1 _ rfl rfl rfl rfl ?_; intro W8 BX k8 g8 s8; clear g8 s8; have w0' := w0.below k8; clear w0; have w0 := w0'; clear w0'; have B1' := B1.below k8; clear B1; have B1 := B1'; clear B1'; have SP' := SP.below k8; clear SP; have SP := SP'; clear SP'; have kb' := kb.trans (k8.mono kb.size); clear kb k8; have kb := kb'; clear kb'; have c0 := B1.cell (j := 0) (v := .string a1.key) rfl) | (refine RowC.gload E _ rfl _ rfl a1 BX rfl ?_))
  have hc := RegD.get_ret a0 cap0 l0 a1.key _ w0 (by omega)
  rw [HO.out, gv_eq] at hc
  refine hc.mono ?_
  clear hc
  rintro e W9 ⟨rfl, k9⟩
  have w0' := w0.below k9
  clear w0
  have w0 := w0'
  clear w0'
  have B1' := B1.below k9
  clear B1
  have B1 := B1'
  clear B1'
  have SP' := SP.below k9
  clear SP
  have SP := SP'
  clear SP'
  have BX' := BX.below k9
  clear BX
  have BX := BX'
  clear BX'
  have kb' := kb.trans (k9.mono kb.size)
  clear kb k9
  have kb := kb'
  clear kb'
  clear c0
  go_wp2_with (first | go_skip | (refine RowC.gload E _ rfl _ rfl a1 B1 rfl ?_) | (refine RowC.gload E _ rfl _ rfl a1 BX rfl ?_) | (refine wpList_store_new E rfl _ _ rfl _ _ _ rfl y _ rfl rfl rfl rfl ?_; intro W10 BY k10 g10 s10; clear g10 s10; have w0' := w0.below k10; clear w0; have w0 := w0'; clear w0'; have B1' := B1.below k10; clear B1; have B1 := B1'; clear B1'; have SP' := SP.below k10; clear SP; have SP := SP'; clear SP'; have BX' := BX.below k10; clear BX; have BX := BX'; clear BX'; have kb' := kb.trans (k10.mono kb.size); clear kb k10; have kb := kb'; clear kb') | (refine RowC.gload E _ rfl _ rfl y BY rfl ?_))
  have hc := RegD.get_ret AP CP P a2 _ SP (by omega)
  rw [HPK.out, gv_eq] at hc
  refine hc.mono ?_
  clear hc
  rintro e W11 ⟨rfl, k11⟩
  have w0' := w0.below k11
  clear w0
  have w0 := w0'
  clear w0'
  have B1' := B1.below k11
  clear B1
  have B1 := B1'
  clear B1'
  have SP' := SP.below k11
  clear SP
  have SP := SP'
  clear SP'
  have BX' := BX.below k11
  clear BX
  have BX := BX'
  clear BX'
  have BY' := BY.below k11
  clear BY
  have BY := BY'
  clear BY'
  have kb' := kb.trans (k11.mono kb.size)
  clear kb k11
  have kb := kb'
  clear kb'
  go_wp2_with (first | go_skip | (refine RowC.gload E _ rfl _ rfl a1 B1 rfl ?_) | (refine RowC.gload E _ rfl _ rfl a1 BX rfl ?_) | (refine RowC.gload E _ rfl _ rfl y BY rfl ?_) | (refine wpList_store_new E rfl _ _ rfl _ _ _ rfl (vR op) _ rfl rfl rfl rfl ?_; intro W12 BP k12 g12 s12; clear g12 s12; have w0' := w0.below k12; clear w0; have w0 := w0'; clear w0'; have B1' := B1.below k12; clear B1; have B1 := B1'; clear B1'; have SP' := SP.below k12; clear SP; have SP := SP'; clear SP'; have BX' := BX.below k12; clear BX; have BX := BX'; clear BX'; have BY' := BY.below k12; clear BY; have BY := BY'; clear BY'; have kb' := kb.trans (k12.mono kb.size); clear kb k12; have kb := kb'; clear kb') | (refine RowC.gload E _ rfl _ rfl (vR op) BP rfl ?_))
  have hc := RegD.get_ret a0 cap0 l0 a2 _ w0 (by omega)
  rw [HQ.out, gv_eq] at hc
  refine hc.mono ?_
  clear hc
  rintro e W13 ⟨rfl, k13⟩
  have w0' := w0.below k13
  clear w0
  have w0 := w0'
  clear w0'
  have B1' := B1.below k13
  clear B1
  have B1 := B1'
  clear B1'
  have SP' := SP.below k13
  clear SP
  have SP := SP'
  clear SP'
  have BX' := BX.below k13
  clear BX
  have BX := BX'
  clear BX'
  have BY' := BY.below k13
  clear BY
  have BY := BY'
  clear BY'
  have BP' := BP.below k13
  clear BP
  have BP := BP'
  clear BP'
  have kb' := kb.trans (k13.mono kb.size)
  clear kb k13
  have kb := kb'
  clear kb'
  go_wp2_with (first | go_skip | (refine RowC.gload E _ rfl _ rfl a1 B1 rfl ?_) | (refine RowC.gload E _ rfl _ rfl a1 BX rfl ?_) | (refine RowC.gload E _ rfl _ rfl y BY rfl ?_) | (refine RowC.gload E _ rfl _ rfl (vR op) BP rfl ?_) | (refine wpList_store_new E rfl _ _ rfl _ _ _ rfl (vR op) _ rfl rfl rfl rfl ?_; intro W14 BQ k14 g14 s14; clear g14 s14; have w0' := w0.below k14; clear w0; have w0 := w0'; clear w0'; have B1' := B1.below k14; clear B1; have B1 := B1'; clear B1'; have SP' := SP.below k14; clear SP; have SP := SP'; clear SP'; have BX' := BX.below k14; clear BX; have BX := BX'; clear BX'; have BY' := BY.below k14; clear BY; have BY := BY'; clear BY'; have BP' := BP.below k14; clear BP; have BP := BP'; clear BP'; have kb' := kb.trans (k14.mono kb.size); clear kb k14; have kb := kb'; clear kb') | (refine RowC.gload E _ rfl _ rfl (vR op) BQ rfl ?_))
  have hc := RegD.may_ret AP CP P _ SP q1 (by omega)
  rw [MP.out] at hc
  refine hc.mono ?_
  clear hc
  rintro e W15 ⟨rfl, k15⟩
  have w0' := w0.below k15
  clear w0
  have w0 := w0'
  clear w0'
  have B1' := B1.below k15
  clear B1
  have B1 := B1'
  clear B1'
  have SP' := SP.below k15
  clear SP
  have SP := SP'
  clear SP'
  have BX' := BX.below k15
  clear BX
  have BX := BX'
  clear BX'
  have BY' := BY.below k15
  clear BY
  have BY := BY'
  clear BY'
  have BP' := BP.below k15
  clear BP
  have BP := BP'
  clear BP'
  have BQ' := BQ.below k15
  clear BQ
  have BQ := BQ'
  clear BQ'
  have kb' := kb.trans (k15.mono kb.size)
  clear kb k15
  have kb := kb'
  clear kb'
  have c0 := B1.cell (j := 0) (v := .string a1.key) rfl
  go_wp2_with (first | go_skip | (refine RowC.gload E _ rfl _ rfl a1 B1 rfl ?_) | (refine RowC.gload E _ rfl _ rfl a1 BX rfl ?_) | (refine RowC.gload E _ rfl _ rfl y BY rfl ?_) | (refine RowC.gload E _ rfl _ rfl (vR op) BP rfl ?_) | (refine RowC.gload E _ rfl _ rfl (vR op) BQ rfl ?_))
  have hc := fun W => RegD.newer_ret a1 y W
  simp only [HN.out] at hc
  refine (hc _).mono ?_
  clear hc
  rintro e W16 ⟨rfl, k16⟩
  have w0' := w0.below k16
  clear w0
  have w0 := w0'
  clear w0'
  have B1' := B1.below k16
  clear B1
  have B1 := B1'
  clear B1'
  have SP' := SP.below k16
  clear SP
  have SP := SP'
  clear SP'
  have BX' := BX.below k16
  clear BX
  have BX := BX'
  clear BX'
  have BY' := BY.below k16
  clear BY
  have BY := BY'
  clear BY'
  have BP' := BP.below k16
  clear BP
  have BP := BP'
  clear BP'
  have BQ' := BQ.below k16
  clear BQ
  have BQ := BQ'
  clear BQ'
  have kb' := kb.trans (k16.mono kb.size)
  clear kb k16
  have kb := kb'
  clear kb'
  go_wp2_with (first | go_skip | (refine RowC.gload E _ rfl _ rfl a1 B1 rfl ?_) | (refine RowC.gload E _ rfl _ rfl a1 BX rfl ?_) | (refine RowC.gload E _ rfl _ rfl y BY rfl ?_) | (refine RowC.gload E _ rfl _ rfl (vR op) BP rfl ?_) | (refine RowC.gload E _ rfl _ rfl (vR op) BQ rfl ?_))
  go_ret
  exact ⟨by first | rfl | simp, kb⟩

set_option maxRecDepth 100000 in
set_option maxHeartbeats 8000000 in
theorem way_d_old (a0 : Option Addr) (cap0 : Nat) (l0 : List Rg) (a1 : Rg) (a2 : ByteArray) (w : World) (w0 : SlR E w a0 cap0 l0) (g0 : ∀ x ∈ l0, OpenG.Good x) (g1 : OpenG.Good a1) (x0 : fewB l0 = true) (x1 : fewB [a1] = true) (m0 : mayR l0 = true) (m1 : mayR [a1] = true) (hk : a2.size ≤ 100) (y : Rg) (hn : newerB a1 y = false) (ho : getR l0 a1.key = some y) (hx : getR (putR l0 a1) a1.key = some y) (oq op : Option Rg) (hq : getR l0 a2 = oq) (hp : getR (putR l0 a1) a2 = op) (hd : a2 ≠ a1.key) (hpq : op = oq) :
    Calls Try.prog 6 #[.slice a0 l0.length cap0, .agg (rc a1), .string a2] w fun e w' => e = .returned (.bool true) ∧ Below w.heap.size w w' := by
  have y0 := few_len x0
  have f0 := few_fits x0 g0
  have fa := fit_one x1 g1
  have fA := fits_one fa
  have X0 := aside x0
  have X1 := aside x1
  have p1 := put_length l0 a1
  have q1 := put_fits f0 fa
  have mp := put_may l0 a1
  obtain ⟨P, hP⟩ : ∃ l, putR l0 a1 = l := ⟨_, rfl⟩
  rw [hP] at p1 q1 mp hx hp
  have HP := aside hP
  have HX := aside hx
  have HO := aside ho
  have HQ := aside hq
  have HPK := aside hp
  have MP := aside mp
  have M0 := aside m0
  have M1 := aside m1
  have e1 := bne_no hd
  have e2 := str_no hd
  have t1 := equal_yes (x := y) rfl
  subst hpq
  have t2 := equal_yes (x := vR op) rfl
  have HN := aside hn
  clear hn
  clear x0 x1 m0 m1 mp hx ho hq hp hP hd
  have B1 : Box E (w.alloc (.cells (rc a1) 26)) (w.heap.size) a1 := by exact Box.new w a1 _
  have Z1 := below_alloc w (.cells (rc a1) 26)
  have w0' := w0.below Z1
  clear w0
  have w0 := w0'
  clear w0'
  have kb : Below w.heap.size w (w.alloc (.cells (rc a1) 26)) := by go_grown
  clear Z1
  go_enter Try.func6, Try.ntmps6
  go_wp2_with fail
  refine (awake _).mono ?_
  rintro e W1 ⟨rfl, k1⟩
  have w0' := w0.below k1
  clear w0
  have w0 := w0'
  clear w0'
  have B1' := B1.below k1
  clear B1
  have B1 := B1'
  clear B1'
  have kb' := kb.trans (k1.mono kb.size)
  clear kb k1
  have kb := kb'
  clear kb'
  go_wp2_with (first | go_skip | (refine RowC.gload E _ rfl _ rfl a1 B1 rfl ?_))
  have hc := few_ret a0 cap0 l0 _ w0 (max_of g0)
  rw [X0.out] at hc
  refine hc.mono ?_
  clear hc
  rintro e w' ⟨rfl, rfl⟩
  go_wp2_with (first | go_skip | (refine RowC.gload E _ rfl _ rfl a1 B1 rfl ?_) | (refine RowC.glit1 E (of_decide_eq_true rfl) _ rfl a1 rfl rfl ?_; intro W2 T k2; have w0' := w0.below k2; clear w0; have w0 := w0'; clear w0'; have B1' := B1.below k2; clear B1; have B1 := B1'; clear B1'; have kb' := kb.trans (k2.mono kb.size); clear kb k2; have kb := kb'; clear kb'))
  have hc := few_ret _ _ [a1] _ T (max_of (one_of g1))
  rw [X1.out] at hc
  refine hc.mono ?_
  clear hc
  rintro e w' ⟨rfl, rfl⟩
  clear T
  go_wp2_with (first | go_skip | (refine RowC.gload E _ rfl _ rfl a1 B1 rfl ?_))
  have hc := RegD.may_ret a0 cap0 l0 _ w0 f0 (by omega)
  rw [M0.out] at hc
  refine hc.mono ?_
  clear hc
  rintro e W3 ⟨rfl, k3⟩
  have w0' := w0.below k3
  clear w0
  have w0 := w0'
  clear w0'
  have B1' := B1.below k3
  clear B1
  have B1 := B1'
  clear B1'
  have kb' := kb.trans (k3.mono kb.size)
  clear kb k3
  have kb := kb'
  clear kb'
  go_wp2_with (first | go_skip | (refine RowC.gload E _ rfl _ rfl a1 B1 rfl ?_) | (refine RowC.glit1 E (of_decide_eq_true rfl) _ rfl a1 rfl rfl ?_; intro W4 T1 k4; have w0' := w0.below k4; clear w0; have w0 := w0'; clear w0'; have B1' := B1.below k4; clear B1; have B1 := B1'; clear B1'; have kb' := kb.trans (k4.mono kb.size); clear kb k4; have kb := kb'; clear kb'))
  have hc := RegD.may_ret _ _ [a1] _ T1 fA (by simp)
  rw [M1.out] at hc
  refine hc.mono ?_
  clear hc
  rintro e W5 ⟨rfl, k5⟩
  clear T1
  have w0' := w0.below k5
  clear w0
  have w0 := w0'
  clear w0'
  have B1' := B1.below k5
  clear B1
  have B1 := B1'
  clear B1'
  have kb' := kb.trans (k5.mono kb.size)
  clear kb k5
  have kb := kb'
  clear kb'
  go_wp2_with (first | go_skip | (refine RowC.gload E _ rfl _ rfl a1 B1 rfl ?_))
  have hc := RegD.put_ret a0 cap0 l0 a1 _ w0 f0 fa (by omega)
  rw [HP.out] at hc
  refine hc.mono ?_
  clear hc
  rintro e W6 ⟨AP, CP, rfl, SP, k6⟩
  have w0' := w0.below k6
  clear w0
  have w0 := w0'
  clear w0'
  have B1' := B1.below k6
  clear B1
  have B1 := B1'
  clear B1'
  have kb' := kb.trans (k6.mono kb.size)
  clear kb k6
  have kb := kb'
  clear kb'
  have c0 := B1.cell (j := 0) (v := .string a1.key) rfl
  go_wp2_with (first | go_skip | (refine RowC.gload E _ rfl _ rfl a1 B1 rfl ?_))
  have hc := RegD.get_ret AP CP P a1.key _ SP (by omega)
  rw [HX.out, gv_eq] at hc
  refine hc.mono ?_
  clear hc
  rintro e W7 ⟨rfl, k7⟩
  have w0' := w0.below k7
  clear w0
  have w0 := w0'
  clear w0'
  have B1' := B1.below k7
  clear B1
  have B1 := B1'
  clear B1'
  have SP' := SP.below k7
  clear SP
  have SP := SP'
  clear SP'
  have kb' := kb.trans (k7.mono kb.size)
  clear kb k7
  have kb := kb'
  clear kb'
  clear c0
  go_wp2_with (first | go_skip | (refine RowC.gload E _ rfl _ rfl a1 B1 rfl ?_) | (refine wpList_store_new E rfl _ _ rfl _ _ _ rfl y _ rfl rfl rfl rfl ?_; intro W8 BX k8 g8 s8; clear g8 s8; have w0' := w0.below k8; clear w0; have w0 := w0'; clear w0'; have B1' := B1.below k8; clear B1; have B1 := B1'; clear B1'; have SP' := SP.below k8; clear SP; have SP := SP'; clear SP'; have kb' := kb.trans (k8.mono kb.size); clear kb k8; have kb := kb'; clear kb'; have c0 := B1.cell (j := 0) (v := .string a1.key) rfl) | (refine RowC.gload E _ rfl _ rfl y BX rfl ?_))
  have hc := RegD.get_ret a0 cap0 l0 a1.key _ w0 (by omega)
  rw [HO.out, gv_eq] at hc
  refine hc.mono ?_
  clear hc
  rintro e W9 ⟨rfl, k9⟩
  have w0' := w0.below k9
  clear w0
  have w0 := w0'
  clear w0'
  have B1' := B1.below k9
  clear B1
  have B1 := B1'
  clear B1'
  have SP' := SP.below k9
  clear SP
  have SP := SP'
  clear SP'
  have BX' := BX.below k9
  clear BX
  have BX := BX'
  clear BX'
  have kb' := kb.trans (k9.mono kb.size)
  clear kb k9
  have kb := kb'
  clear kb'
  clear c0
  go_wp2_with (first | go_skip | (refine RowC.gload E _ rfl _ rfl a1 B1 rfl ?_) | (refine RowC.gload E _ rfl _ rfl y BX rfl ?_) | (refine wpList_store_new E rfl _ _ rfl _ _ _ rfl y _ rfl rfl rfl rfl ?_; intro W10 BY k10 g10 s10; clear g10 s10; have w0' := w0.below k10; clear w0; have w0 := w0'; clear w0'; have B1' := B1.below k10; clear B1; have B1 := B1'; clear B1'; have SP' := SP.below k10; clear SP; have SP := SP'; clear SP'; have BX' := BX.below k10; clear BX; have BX := BX'; clear BX'; have kb' := kb.trans (k10.mono kb.size); clear kb k10; have kb := kb'; clear kb') | (refine RowC.gload E _ rfl _ rfl y BY rfl ?_))
  have hc := RegD.get_ret AP CP P a2 _ SP (by omega)
  rw [HPK.out, gv_eq] at hc
  refine hc.mono ?_
  clear hc
  rintro e W11 ⟨rfl, k11⟩
  have w0' := w0.below k11
  clear w0
  have w0 := w0'
  clear w0'
  have B1' := B1.below k11
  clear B1
  have B1 := B1'
  clear B1'
  have SP' := SP.below k11
  clear SP
  have SP := SP'
  clear SP'
  have BX' := BX.below k11
  clear BX
  have BX := BX'
  clear BX'
  have BY' := BY.below k11
  clear BY
  have BY := BY'
  clear BY'
  have kb' := kb.trans (k11.mono kb.size)
  clear kb k11
  have kb := kb'
  clear kb'
  go_wp2_with (first | go_skip | (refine RowC.gload E _ rfl _ rfl a1 B1 rfl ?_) | (refine RowC.gload E _ rfl _ rfl y BX rfl ?_) | (refine RowC.gload E _ rfl _ rfl y BY rfl ?_) | (refine wpList_store_new E rfl _ _ rfl _ _ _ rfl (vR op) _ rfl rfl rfl rfl ?_; intro W12 BP k12 g12 s12; clear g12 s12; have w0' := w0.below k12; clear w0; have w0 := w0'; clear w0'; have B1' := B1.below k12; clear B1; have B1 := B1'; clear B1'; have SP' := SP.below k12; clear SP; have SP := SP'; clear SP'; have BX' := BX.below k12; clear BX; have BX := BX'; clear BX'; have BY' := BY.below k12; clear BY; have BY := BY'; clear BY'; have kb' := kb.trans (k12.mono kb.size); clear kb k12; have kb := kb'; clear kb') | (refine RowC.gload E _ rfl _ rfl (vR op) BP rfl ?_))
  have hc := RegD.get_ret a0 cap0 l0 a2 _ w0 (by omega)
  rw [HQ.out, gv_eq] at hc
  refine hc.mono ?_
  clear hc
  rintro e W13 ⟨rfl, k13⟩
  have w0' := w0.below k13
  clear w0
  have w0 := w0'
  clear w0'
  have B1' := B1.below k13
  clear B1
  have B1 := B1'
  clear B1'
  have SP' := SP.below k13
  clear SP
  have SP := SP'
  clear SP'
  have BX' := BX.below k13
  clear BX
  have BX := BX'
  clear BX'
  have BY' := BY.below k13
  clear BY
  have BY := BY'
  clear BY'
  have BP' := BP.below k13
  clear BP
  have BP := BP'
  clear BP'
  have kb' := kb.trans (k13.mono kb.size)
  clear kb k13
  have kb := kb'
  clear kb'
  go_wp2_with (first | go_skip | (refine RowC.gload E _ rfl _ rfl a1 B1 rfl ?_) | (refine RowC.gload E _ rfl _ rfl y BX rfl ?_) | (refine RowC.gload E _ rfl _ rfl y BY rfl ?_) | (refine RowC.gload E _ rfl _ rfl (vR op) BP rfl ?_) | (refine wpList_store_new E rfl _ _ rfl _ _ _ rfl (vR op) _ rfl rfl rfl rfl ?_; intro W14 BQ k14 g14 s14; clear g14 s14; have w0' := w0.below k14; clear w0; have w0 := w0'; clear w0'; have B1' := B1.below k14; clear B1; have B1 := B1'; clear B1'; have SP' := SP.below k14; clear SP; have SP := SP'; clear SP'; have BX' := BX.below k14; clear BX; have BX := BX'; clear BX'; have BY' := BY.below k14; clear BY; have BY := BY'; clear BY'; have BP' := BP.below k14; clear BP; have BP := BP'; clear BP'; have kb' := kb.trans (k14.mono kb.size); clear kb k14; have kb := kb'; clear kb') | (refine RowC.gload E _ rfl _ rfl (vR op) BQ rfl ?_))
  have hc := RegD.may_ret AP CP P _ SP q1 (by omega)
  rw [MP.out] at hc
  refine hc.mono ?_
  clear hc
  rintro e W15 ⟨rfl, k15⟩
  have w0' := w0.below k15
  clear w0
  have w0 := w0'
  clear w0'
  have B1' := B1.below k15
  clear B1
  have B1 := B1'
  clear B1'
  have SP' := SP.below k15
  clear SP
  have SP := SP'
  clear SP'
  have BX' := BX.below k15
  clear BX
  have BX := BX'
  clear BX'
  have BY' := BY.below k15
  clear BY
  have BY := BY'
  clear BY'
  have BP' := BP.below k15
  clear BP
  have BP := BP'
  clear BP'
  have BQ' := BQ.below k15
  clear BQ
  have BQ := BQ'
  clear BQ'
  have kb' := kb.trans (k15.mono kb.size)
  clear kb k15
  have kb := kb'
  clear kb'
  have c0 := B1.cell (j := 0) (v := .string a1.key) rfl
  go_wp2_with (first | go_skip | (refine RowC.gload E _ rfl _ rfl a1 B1 rfl ?_) | (refine RowC.gload E _ rfl _ rfl y BX rfl ?_) | (refine RowC.gload E _ rfl _ rfl y BY rfl ?_) | (refine RowC.gload E _ rfl _ rfl (vR op) BP rfl ?_) | (refine RowC.gload E _ rfl _ rfl (vR op) BQ rfl ?_))
  have hc := fun W => RegD.newer_ret a1 y W
  simp only [HN.out] at hc
  refine (hc _).mono ?_
  clear hc
  rintro e W16 ⟨rfl, k16⟩
  have w0' := w0.below k16
  clear w0
  have w0 := w0'
  clear w0'
  have B1' := B1.below k16
  clear B1
  have B1 := B1'
  clear B1'
  have SP' := SP.below k16
  clear SP
  have SP := SP'
  clear SP'
  have BX' := BX.below k16
  clear BX
  have BX := BX'
  clear BX'
  have BY' := BY.below k16
  clear BY
  have BY := BY'
  clear BY'
  have BP' := BP.below k16
  clear BP
  have BP := BP'
  clear BP'
  have BQ' := BQ.below k16
  clear BQ
  have BQ := BQ'
  clear BQ'
  have kb' := kb.trans (k16.mono kb.size)
  clear kb k16
  have kb := kb'
  clear kb'
  go_wp2_with (first | go_skip | (refine RowC.gload E _ rfl _ rfl a1 B1 rfl ?_) | (refine RowC.gload E _ rfl _ rfl y BX rfl ?_) | (refine RowC.gload E _ rfl _ rfl y BY rfl ?_) | (refine RowC.gload E _ rfl _ rfl (vR op) BP rfl ?_) | (refine RowC.gload E _ rfl _ rfl (vR op) BQ rfl ?_))
  go_ret
  exact ⟨by first | rfl | simp, kb⟩

set_option maxRecDepth 100000 in
set_option maxHeartbeats 8000000 in
theorem way_s_none (a0 : Option Addr) (cap0 : Nat) (l0 : List Rg) (a1 : Rg) (a2 : ByteArray) (w : World) (w0 : SlR E w a0 cap0 l0) (g0 : ∀ x ∈ l0, OpenG.Good x) (g1 : OpenG.Good a1) (x0 : fewB l0 = true) (x1 : fewB [a1] = true) (m0 : mayR l0 = true) (m1 : mayR [a1] = true) (hk : a2.size ≤ 100) (ho : getR l0 a1.key = none) (hx : getR (putR l0 a1) a1.key = some a1) (oq op : Option Rg) (hq : getR l0 a2 = oq) (hp : getR (putR l0 a1) a2 = op) (hd : a2 = a1.key) :
    Calls Try.prog 6 #[.slice a0 l0.length cap0, .agg (rc a1), .string a2] w fun e w' => e = .returned (.bool true) ∧ Below w.heap.size w w' := by
  subst hd
  have y0 := few_len x0
  have f0 := few_fits x0 g0
  have fa := fit_one x1 g1
  have fA := fits_one fa
  have X0 := aside x0
  have X1 := aside x1
  have p1 := put_length l0 a1
  have q1 := put_fits f0 fa
  have mp := put_may l0 a1
  obtain ⟨P, hP⟩ : ∃ l, putR l0 a1 = l := ⟨_, rfl⟩
  rw [hP] at p1 q1 mp hx hp
  have HP := aside hP
  have HX := aside hx
  have HO := aside ho
  have HQ := aside hq
  have HPK := aside hp
  have MP := aside mp
  have M0 := aside m0
  have M1 := aside m1
  have e2 := str_yes (rfl : a1.key = a1.key)
  have t1 := equal_yes (x := a1) rfl
  clear x0 x1 m0 m1 mp hx ho hq hp hP
  have B1 : Box E (w.alloc (.cells (rc a1) 26)) (w.heap.size) a1 := by exact Box.new w a1 _
  have Z1 := below_alloc w (.cells (rc a1) 26)
  have w0' := w0.below Z1
  clear w0
  have w0 := w0'
  clear w0'
  have kb : Below w.heap.size w (w.alloc (.cells (rc a1) 26)) := by go_grown
  clear Z1
  go_enter Try.func6, Try.ntmps6
  go_wp2_with fail
  refine (awake _).mono ?_
  rintro e W1 ⟨rfl, k1⟩
  have w0' := w0.below k1
  clear w0
  have w0 := w0'
  clear w0'
  have B1' := B1.below k1
  clear B1
  have B1 := B1'
  clear B1'
  have kb' := kb.trans (k1.mono kb.size)
  clear kb k1
  have kb := kb'
  clear kb'
  go_wp2_with (first | go_skip | (refine RowC.gload E _ rfl _ rfl a1 B1 rfl ?_))
  have hc := few_ret a0 cap0 l0 _ w0 (max_of g0)
  rw [X0.out] at hc
  refine hc.mono ?_
  clear hc
  rintro e w' ⟨rfl, rfl⟩
  go_wp2_with (first | go_skip | (refine RowC.gload E _ rfl _ rfl a1 B1 rfl ?_) | (refine RowC.glit1 E (of_decide_eq_true rfl) _ rfl a1 rfl rfl ?_; intro W2 T k2; have w0' := w0.below k2; clear w0; have w0 := w0'; clear w0'; have B1' := B1.below k2; clear B1; have B1 := B1'; clear B1'; have kb' := kb.trans (k2.mono kb.size); clear kb k2; have kb := kb'; clear kb'))
  have hc := few_ret _ _ [a1] _ T (max_of (one_of g1))
  rw [X1.out] at hc
  refine hc.mono ?_
  clear hc
  rintro e w' ⟨rfl, rfl⟩
  clear T
  go_wp2_with (first | go_skip | (refine RowC.gload E _ rfl _ rfl a1 B1 rfl ?_))
  have hc := RegD.may_ret a0 cap0 l0 _ w0 f0 (by omega)
  rw [M0.out] at hc
  refine hc.mono ?_
  clear hc
  rintro e W3 ⟨rfl, k3⟩
  have w0' := w0.below k3
  clear w0
  have w0 := w0'
  clear w0'
  have B1' := B1.below k3
  clear B1
  have B1 := B1'
  clear B1'
  have kb' := kb.trans (k3.mono kb.size)
  clear kb k3
  have kb := kb'
  clear kb'
  go_wp2_with (first | go_skip | (refine RowC.gload E _ rfl _ rfl a1 B1 rfl ?_) | (refine RowC.glit1 E (of_decide_eq_true rfl) _ rfl a1 rfl rfl ?_; intro W4 T1 k4; have w0' := w0.below k4; clear w0; have w0 := w0'; clear w0'; have B1' := B1.below k4; clear B1; have B1 := B1'; clear B1'; have kb' := kb.trans (k4.mono kb.size); clear kb k4; have kb := kb'; clear kb'))
  have hc := RegD.may_ret _ _ [a1] _ T1 fA (by simp)
  rw [M1.out] at hc
  refine hc.mono ?_
  clear hc
  rintro e W5 ⟨rfl, k5⟩
  clear T1
  have w0' := w0.below k5
  clear w0
  have w0 := w0'
  clear w0'
  have B1' := B1.below k5
  clear B1
  have B1 := B1'
  clear B1'
  have kb' := kb.trans (k5.mono kb.size)
  clear kb k5
  have kb := kb'
  clear kb'
  go_wp2_with (first | go_skip | (refine RowC.gload E _ rfl _ rfl a1 B1 rfl ?_))
  have hc := RegD.put_ret a0 cap0 l0 a1 _ w0 f0 fa (by omega)
  rw [HP.out] at hc
  refine hc.mono ?_
  clear hc
  rintro e W6 ⟨AP, CP, rfl, SP, k6⟩
  have w0' := w0.below k6
  clear w0
  have w0 := w0'
  clear w0'
  have B1' := B1.below k6
  clear B1
  have B1 := B1'
  clear B1'
  have kb' := kb.trans (k6.mono kb.size)
  clear kb k6
  have kb := kb'
  clear kb'
  have c0 := B1.cell (j := 0) (v := .string a1.key) rfl
  go_wp2_with (first | go_skip | (refine RowC.gload E _ rfl _ rfl a1 B1 rfl ?_))
  have hc := RegD.get_ret AP CP P a1.key _ SP (by omega)
  rw [HX.out, gv_eq] at hc
  refine hc.mono ?_
  clear hc
  rintro e W7 ⟨rfl, k7⟩
  have w0' := w0.below k7
  clear w0
  have w0 := w0'
  clear w0'
  have B1' := B1.below k7
  clear B1
  have B1 := B1'
  clear B1'
  have SP' := SP.below k7
  clear SP
  have SP := SP'
  clear SP'
  have kb' := kb.trans (k7.mono kb.size)
  clear kb k7
  have kb := kb'
  clear kb'
  clear c0
  go_wp2_with (first | go_skip | (refine RowC.gload E _ rfl _ rfl a1 B1 rfl ?_) | (refine wpList_store_new E rfl _ _ rfl _ _ _ rfl a1 _ rfl rfl rfl rfl ?_; intro W8 BX k8 g8 s8; clear g8 s8; have w0' := w0.below k8; clear w0; have w0 := w0'; clear w0'; have B1' := B1.below k8; clear B1; have B1 := B1'; clear B1'; have SP' := SP.below k8; clear SP; have SP := SP'; clear SP'; have kb' := kb.trans (k8.mono kb.size); clear kb k8; have kb := kb'; clear kb'; have c0 := B1.cell (j := 0) (v := .string a1.key) rfl) | (refine RowC.gload E _ rfl _ rfl a1 BX rfl ?_))
  have hc := RegD.get_ret a0 cap0 l0 a1.key _ w0 (by omega)
  rw [HO.out, gv_eq] at hc
  refine hc.mono ?_
  clear hc
  rintro e W9 ⟨rfl, k9⟩
  have w0' := w0.below k9
  clear w0
  have w0 := w0'
  clear w0'
  have B1' := B1.below k9
  clear B1
  have B1 := B1'
  clear B1'
  have SP' := SP.below k9
  clear SP
  have SP := SP'
  clear SP'
  have BX' := BX.below k9
  clear BX
  have BX := BX'
  clear BX'
  have kb' := kb.trans (k9.mono kb.size)
  clear kb k9
  have kb := kb'
  clear kb'
  clear c0
  go_wp2_with (first | go_skip | (refine RowC.gload E _ rfl _ rfl a1 B1 rfl ?_) | (refine RowC.gload E _ rfl _ rfl a1 BX rfl ?_) | (refine wpList_store_new E rfl _ _ rfl _ _ _ rfl noR _ rfl rfl rfl rfl ?_; intro W10 BY k10 g10 s10; clear g10 s10; have w0' := w0.below k10; clear w0; have w0 := w0'; clear w0'; have B1' := B1.below k10; clear B1; have B1 := B1'; clear B1'; have SP' := SP.below k10; clear SP; have SP := SP'; clear SP'; have BX' := BX.below k10; clear BX; have BX := BX'; clear BX'; have kb' := kb.trans (k10.mono kb.size); clear kb k10; have kb := kb'; clear kb') | (refine RowC.gload E _ rfl _ rfl noR BY rfl ?_))
  have hc := RegD.get_ret AP CP P a1.key _ SP (by omega)
  rw [HPK.out, gv_eq] at hc
  refine hc.mono ?_
  clear hc
  rintro e W11 ⟨rfl, k11⟩
  have w0' := w0.below k11
  clear w0
  have w0 := w0'
  clear w0'
  have B1' := B1.below k11
  clear B1
  have B1 := B1'
  clear B1'
  have SP' := SP.below k11
  clear SP
  have SP := SP'
  clear SP'
  have BX' := BX.below k11
  clear BX
  have BX := BX'
  clear BX'
  have BY' := BY.below k11
  clear BY
  have BY := BY'
  clear BY'
  have kb' := kb.trans (k11.mono kb.size)
  clear kb k11
  have kb := kb'
  clear kb'
  go_wp2_with (first | go_skip | (refine RowC.gload E _ rfl _ rfl a1 B1 rfl ?_) | (refine RowC.gload E _ rfl _ rfl a1 BX rfl ?_) | (refine RowC.gload E _ rfl _ rfl noR BY rfl ?_) | (refine wpList_store_new E rfl _ _ rfl _ _ _ rfl (vR op) _ rfl rfl rfl rfl ?_; intro W12 BP k12 g12 s12; clear g12 s12; have w0' := w0.below k12; clear w0; have w0 := w0'; clear w0'; have B1' := B1.below k12; clear B1; have B1 := B1'; clear B1'; have SP' := SP.below k12; clear SP; have SP := SP'; clear SP'; have BX' := BX.below k12; clear BX; have BX := BX'; clear BX'; have BY' := BY.below k12; clear BY; have BY := BY'; clear BY'; have kb' := kb.trans (k12.mono kb.size); clear kb k12; have kb := kb'; clear kb') | (refine RowC.gload E _ rfl _ rfl (vR op) BP rfl ?_))
  have hc := RegD.get_ret a0 cap0 l0 a1.key _ w0 (by omega)
  rw [HQ.out, gv_eq] at hc
  refine hc.mono ?_
  clear hc
  rintro e W13 ⟨rfl, k13⟩
  have w0' := w0.below k13
  clear w0
  have w0 := w0'
  clear w0'
  have B1' := B1.below k13
  clear B1
  have B1 := B1'
  clear B1'
  have SP' := SP.below k13
  clear SP
  have SP := SP'
  clear SP'
  have BX' := BX.below k13
  clear BX
  have BX := BX'
  clear BX'
  have BY' := BY.below k13
  clear BY
  have BY := BY'
  clear BY'
  have BP' := BP.below k13
  clear BP
  have BP := BP'
  clear BP'
  have kb' := kb.trans (k13.mono kb.size)
  clear kb k13
  have kb := kb'
  clear kb'
  go_wp2_with (first | go_skip | (refine RowC.gload E _ rfl _ rfl a1 B1 rfl ?_) | (refine RowC.gload E _ rfl _ rfl a1 BX rfl ?_) | (refine RowC.gload E _ rfl _ rfl noR BY rfl ?_) | (refine RowC.gload E _ rfl _ rfl (vR op) BP rfl ?_) | (refine wpList_store_new E rfl _ _ rfl _ _ _ rfl (vR oq) _ rfl rfl rfl rfl ?_; intro W14 BQ k14 g14 s14; clear g14 s14; have w0' := w0.below k14; clear w0; have w0 := w0'; clear w0'; have B1' := B1.below k14; clear B1; have B1 := B1'; clear B1'; have SP' := SP.below k14; clear SP; have SP := SP'; clear SP'; have BX' := BX.below k14; clear BX; have BX := BX'; clear BX'; have BY' := BY.below k14; clear BY; have BY := BY'; clear BY'; have BP' := BP.below k14; clear BP; have BP := BP'; clear BP'; have kb' := kb.trans (k14.mono kb.size); clear kb k14; have kb := kb'; clear kb') | (refine RowC.gload E _ rfl _ rfl (vR oq) BQ rfl ?_))
  have hc := RegD.may_ret AP CP P _ SP q1 (by omega)
  rw [MP.out] at hc
  refine hc.mono ?_
  clear hc
  rintro e W15 ⟨rfl, k15⟩
  have w0' := w0.below k15
  clear w0
  have w0 := w0'
  clear w0'
  have B1' := B1.below k15
  clear B1
  have B1 := B1'
  clear B1'
  have SP' := SP.below k15
  clear SP
  have SP := SP'
  clear SP'
  have BX' := BX.below k15
  clear BX
  have BX := BX'
  clear BX'
  have BY' := BY.below k15
  clear BY
  have BY := BY'
  clear BY'
  have BP' := BP.below k15
  clear BP
  have BP := BP'
  clear BP'
  have BQ' := BQ.below k15
  clear BQ
  have BQ := BQ'
  clear BQ'
  have kb' := kb.trans (k15.mono kb.size)
  clear kb k15
  have kb := kb'
  clear kb'
  have c0 := B1.cell (j := 0) (v := .string a1.key) rfl
  go_wp2_with (first | go_skip | (refine RowC.gload E _ rfl _ rfl a1 B1 rfl ?_) | (refine RowC.gload E _ rfl _ rfl a1 BX rfl ?_) | (refine RowC.gload E _ rfl _ rfl noR BY rfl ?_) | (refine RowC.gload E _ rfl _ rfl (vR op) BP rfl ?_) | (refine RowC.gload E _ rfl _ rfl (vR oq) BQ rfl ?_))
  go_ret
  exact ⟨by first | rfl | simp, kb⟩

set_option maxRecDepth 100000 in
set_option maxHeartbeats 8000000 in
theorem way_s_new (a0 : Option Addr) (cap0 : Nat) (l0 : List Rg) (a1 : Rg) (a2 : ByteArray) (w : World) (w0 : SlR E w a0 cap0 l0) (g0 : ∀ x ∈ l0, OpenG.Good x) (g1 : OpenG.Good a1) (x0 : fewB l0 = true) (x1 : fewB [a1] = true) (m0 : mayR l0 = true) (m1 : mayR [a1] = true) (hk : a2.size ≤ 100) (y : Rg) (hn : newerB a1 y = true) (ho : getR l0 a1.key = some y) (hx : getR (putR l0 a1) a1.key = some a1) (oq op : Option Rg) (hq : getR l0 a2 = oq) (hp : getR (putR l0 a1) a2 = op) (hd : a2 = a1.key) :
    Calls Try.prog 6 #[.slice a0 l0.length cap0, .agg (rc a1), .string a2] w fun e w' => e = .returned (.bool true) ∧ Below w.heap.size w w' := by
  subst hd
  have y0 := few_len x0
  have f0 := few_fits x0 g0
  have fa := fit_one x1 g1
  have fA := fits_one fa
  have X0 := aside x0
  have X1 := aside x1
  have p1 := put_length l0 a1
  have q1 := put_fits f0 fa
  have mp := put_may l0 a1
  obtain ⟨P, hP⟩ : ∃ l, putR l0 a1 = l := ⟨_, rfl⟩
  rw [hP] at p1 q1 mp hx hp
  have HP := aside hP
  have HX := aside hx
  have HO := aside ho
  have HQ := aside hq
  have HPK := aside hp
  have MP := aside mp
  have M0 := aside m0
  have M1 := aside m1
  have e2 := str_yes (rfl : a1.key = a1.key)
  have t1 := equal_yes (x := a1) rfl
  have HN := aside hn
  clear hn
  clear x0 x1 m0 m1 mp hx ho hq hp hP
  have B1 : Box E (w.alloc (.cells (rc a1) 26)) (w.heap.size) a1 := by exact Box.new w a1 _
  have Z1 := below_alloc w (.cells (rc a1) 26)
  have w0' := w0.below Z1
  clear w0
  have w0 := w0'
  clear w0'
  have kb : Below w.heap.size w (w.alloc (.cells (rc a1) 26)) := by go_grown
  clear Z1
  go_enter Try.func6, Try.ntmps6
  go_wp2_with fail
  refine (awake _).mono ?_
  rintro e W1 ⟨rfl, k1⟩
  have w0' := w0.below k1
  clear w0
  have w0 := w0'
  clear w0'
  have B1' := B1.below k1
  clear B1
  have B1 := B1'
  clear B1'
  have kb' := kb.trans (k1.mono kb.size)
  clear kb k1
  have kb := kb'
  clear kb'
  go_wp2_with (first | go_skip | (refine RowC.gload E _ rfl _ rfl a1 B1 rfl ?_))
  have hc := few_ret a0 cap0 l0 _ w0 (max_of g0)
  rw [X0.out] at hc
  refine hc.mono ?_
  clear hc
  rintro e w' ⟨rfl, rfl⟩
  go_wp2_with (first | go_skip | (refine RowC.gload E _ rfl _ rfl a1 B1 rfl ?_) | (refine RowC.glit1 E (of_decide_eq_true rfl) _ rfl a1 rfl rfl ?_; intro W2 T k2; have w0' := w0.below k2; clear w0; have w0 := w0'; clear w0'; have B1' := B1.below k2; clear B1; have B1 := B1'; clear B1'; have kb' := kb.trans (k2.mono kb.size); clear kb k2; have kb := kb'; clear kb'))
  have hc := few_ret _ _ [a1] _ T (max_of (one_of g1))
  rw [X1.out] at hc
  refine hc.mono ?_
  clear hc
  rintro e w' ⟨rfl, rfl⟩
  clear T
  go_wp2_with (first | go_skip | (refine RowC.gload E _ rfl _ rfl a1 B1 rfl ?_))
  have hc := RegD.may_ret a0 cap0 l0 _ w0 f0 (by omega)
  rw [M0.out] at hc
  refine hc.mono ?_
  clear hc
  rintro e W3 ⟨rfl, k3⟩
  have w0' := w0.below k3
  clear w0
  have w0 := w0'
  clear w0'
  have B1' := B1.below k3
  clear B1
  have B1 := B1'
  clear B1'
  have kb' := kb.trans (k3.mono kb.size)
  clear kb k3
  have kb := kb'
  clear kb'
  go_wp2_with (first | go_skip | (refine RowC.gload E _ rfl _ rfl a1 B1 rfl ?_) | (refine RowC.glit1 E (of_decide_eq_true rfl) _ rfl a1 rfl rfl ?_; intro W4 T1 k4; have w0' := w0.below k4; clear w0; have w0 := w0'; clear w0'; have B1' := B1.below k4; clear B1; have B1 := B1'; clear B1'; have kb' := kb.trans (k4.mono kb.size); clear kb k4; have kb := kb'; clear kb'))
  have hc := RegD.may_ret _ _ [a1] _ T1 fA (by simp)
  rw [M1.out] at hc
  refine hc.mono ?_
  clear hc
  rintro e W5 ⟨rfl, k5⟩
  clear T1
  have w0' := w0.below k5
  clear w0
  have w0 := w0'
  clear w0'
  have B1' := B1.below k5
  clear B1
  have B1 := B1'
  clear B1'
  have kb' := kb.trans (k5.mono kb.size)
  clear kb k5
  have kb := kb'
  clear kb'
  go_wp2_with (first | go_skip | (refine RowC.gload E _ rfl _ rfl a1 B1 rfl ?_))
  have hc := RegD.put_ret a0 cap0 l0 a1 _ w0 f0 fa (by omega)
  rw [HP.out] at hc
  refine hc.mono ?_
  clear hc
  rintro e W6 ⟨AP, CP, rfl, SP, k6⟩
  have w0' := w0.below k6
  clear w0
  have w0 := w0'
  clear w0'
  have B1' := B1.below k6
  clear B1
  have B1 := B1'
  clear B1'
  have kb' := kb.trans (k6.mono kb.size)
  clear kb k6
  have kb := kb'
  clear kb'
  have c0 := B1.cell (j := 0) (v := .string a1.key) rfl
  go_wp2_with (first | go_skip | (refine RowC.gload E _ rfl _ rfl a1 B1 rfl ?_))
  have hc := RegD.get_ret AP CP P a1.key _ SP (by omega)
  rw [HX.out, gv_eq] at hc
  refine hc.mono ?_
  clear hc
  rintro e W7 ⟨rfl, k7⟩
  have w0' := w0.below k7
  clear w0
  have w0 := w0'
  clear w0'
  have B1' := B1.below k7
  clear B1
  have B1 := B1'
  clear B1'
  have SP' := SP.below k7
  clear SP
  have SP := SP'
  clear SP'
  have kb' := kb.trans (k7.mono kb.size)
  clear kb k7
  have kb := kb'
  clear kb'
  clear c0
  go_wp2_with (first | go_skip | (refine RowC.gload E _ rfl _ rfl a1 B1 rfl ?_) | (refine wpList_store_new E rfl _ _ rfl _ _ _ rfl a1 _ rfl rfl rfl rfl ?_; intro W8 BX k8 g8 s8; clear g8 s8; have w0' := w0.below k8; clear w0; have w0 := w0'; clear w0'; have B1' := B1.below k8; clear B1; have B1 := B1'; clear B1'; have SP' := SP.below k8; clear SP; have SP := SP'; clear SP'; have kb' := kb.trans (k8.mono kb.size); clear kb k8; have kb := kb'; clear kb'; have c0 := B1.cell (j := 0) (v := .string a1.key) rfl) | (refine RowC.gload E _ rfl _ rfl a1 BX rfl ?_))
  have hc := RegD.get_ret a0 cap0 l0 a1.key _ w0 (by omega)
  rw [HO.out, gv_eq] at hc
  refine hc.mono ?_
  clear hc
  rintro e W9 ⟨rfl, k9⟩
  have w0' := w0.below k9
  clear w0
  have w0 := w0'
  clear w0'
  have B1' := B1.below k9
  clear B1
  have B1 := B1'
  clear B1'
  have SP' := SP.below k9
  clear SP
  have SP := SP'
  clear SP'
  have BX' := BX.below k9
  clear BX
  have BX := BX'
  clear BX'
  have kb' := kb.trans (k9.mono kb.size)
  clear kb k9
  have kb := kb'
  clear kb'
  clear c0
  go_wp2_with (first | go_skip | (refine RowC.gload E _ rfl _ rfl a1 B1 rfl ?_) | (refine RowC.gload E _ rfl _ rfl a1 BX rfl ?_) | (refine wpList_store_new E rfl _ _ rfl _ _ _ rfl y _ rfl rfl rfl rfl ?_; intro W10 BY k10 g10 s10; clear g10 s10; have w0' := w0.below k10; clear w0; have w0 := w0'; clear w0'; have B1' := B1.below k10; clear B1; have B1 := B1'; clear B1'; have SP' := SP.below k10; clear SP; have SP := SP'; clear SP'; have BX' := BX.below k10; clear BX; have BX := BX'; clear BX'; have kb' := kb.trans (k10.mono kb.size); clear kb k10; have kb := kb'; clear kb') | (refine RowC.gload E _ rfl _ rfl y BY rfl ?_))
  have hc := RegD.get_ret AP CP P a1.key _ SP (by omega)
  rw [HPK.out, gv_eq] at hc
  refine hc.mono ?_
  clear hc
  rintro e W11 ⟨rfl, k11⟩
  have w0' := w0.below k11
  clear w0
  have w0 := w0'
  clear w0'
  have B1' := B1.below k11
  clear B1
  have B1 := B1'
  clear B1'
  have SP' := SP.below k11
  clear SP
  have SP := SP'
  clear SP'
  have BX' := BX.below k11
  clear BX
  have BX := BX'
  clear BX'
  have BY' := BY.below k11
  clear BY
  have BY := BY'
  clear BY'
  have kb' := kb.trans (k11.mono kb.size)
  clear kb k11
  have kb := kb'
  clear kb'
  go_wp2_with (first | go_skip | (refine RowC.gload E _ rfl _ rfl a1 B1 rfl ?_) | (refine RowC.gload E _ rfl _ rfl a1 BX rfl ?_) | (refine RowC.gload E _ rfl _ rfl y BY rfl ?_) | (refine wpList_store_new E rfl _ _ rfl _ _ _ rfl (vR op) _ rfl rfl rfl rfl ?_; intro W12 BP k12 g12 s12; clear g12 s12; have w0' := w0.below k12; clear w0; have w0 := w0'; clear w0'; have B1' := B1.below k12; clear B1; have B1 := B1'; clear B1'; have SP' := SP.below k12; clear SP; have SP := SP'; clear SP'; have BX' := BX.below k12; clear BX; have BX := BX'; clear BX'; have BY' := BY.below k12; clear BY; have BY := BY'; clear BY'; have kb' := kb.trans (k12.mono kb.size); clear kb k12; have kb := kb'; clear kb') | (refine RowC.gload E _ rfl _ rfl (vR op) BP rfl ?_))
  have hc := RegD.get_ret a0 cap0 l0 a1.key _ w0 (by omega)
  rw [HQ.out, gv_eq] at hc
  refine hc.mono ?_
  clear hc
  rintro e W13 ⟨rfl, k13⟩
  have w0' := w0.below k13
  clear w0
  have w0 := w0'
  clear w0'
  have B1' := B1.below k13
  clear B1
  have B1 := B1'
  clear B1'
  have SP' := SP.below k13
  clear SP
  have SP := SP'
  clear SP'
  have BX' := BX.below k13
  clear BX
  have BX := BX'
  clear BX'
  have BY' := BY.below k13
  clear BY
  have BY := BY'
  clear BY'
  have BP' := BP.below k13
  clear BP
  have BP := BP'
  clear BP'
  have kb' := kb.trans (k13.mono kb.size)
  clear kb k13
  have kb := kb'
  clear kb'
  go_wp2_with (first | go_skip | (refine RowC.gload E _ rfl _ rfl a1 B1 rfl ?_) | (refine RowC.gload E _ rfl _ rfl a1 BX rfl ?_) | (refine RowC.gload E _ rfl _ rfl y BY rfl ?_) | (refine RowC.gload E _ rfl _ rfl (vR op) BP rfl ?_) | (refine wpList_store_new E rfl _ _ rfl _ _ _ rfl (vR oq) _ rfl rfl rfl rfl ?_; intro W14 BQ k14 g14 s14; clear g14 s14; have w0' := w0.below k14; clear w0; have w0 := w0'; clear w0'; have B1' := B1.below k14; clear B1; have B1 := B1'; clear B1'; have SP' := SP.below k14; clear SP; have SP := SP'; clear SP'; have BX' := BX.below k14; clear BX; have BX := BX'; clear BX'; have BY' := BY.below k14; clear BY; have BY := BY'; clear BY'; have BP' := BP.below k14; clear BP; have BP := BP'; clear BP'; have kb' := kb.trans (k14.mono kb.size); clear kb k14; have kb := kb'; clear kb') | (refine RowC.gload E _ rfl _ rfl (vR oq) BQ rfl ?_))
  have hc := RegD.may_ret AP CP P _ SP q1 (by omega)
  rw [MP.out] at hc
  refine hc.mono ?_
  clear hc
  rintro e W15 ⟨rfl, k15⟩
  have w0' := w0.below k15
  clear w0
  have w0 := w0'
  clear w0'
  have B1' := B1.below k15
  clear B1
  have B1 := B1'
  clear B1'
  have SP' := SP.below k15
  clear SP
  have SP := SP'
  clear SP'
  have BX' := BX.below k15
  clear BX
  have BX := BX'
  clear BX'
  have BY' := BY.below k15
  clear BY
  have BY := BY'
  clear BY'
  have BP' := BP.below k15
  clear BP
  have BP := BP'
  clear BP'
  have BQ' := BQ.below k15
  clear BQ
  have BQ := BQ'
  clear BQ'
  have kb' := kb.trans (k15.mono kb.size)
  clear kb k15
  have kb := kb'
  clear kb'
  have c0 := B1.cell (j := 0) (v := .string a1.key) rfl
  go_wp2_with (first | go_skip | (refine RowC.gload E _ rfl _ rfl a1 B1 rfl ?_) | (refine RowC.gload E _ rfl _ rfl a1 BX rfl ?_) | (refine RowC.gload E _ rfl _ rfl y BY rfl ?_) | (refine RowC.gload E _ rfl _ rfl (vR op) BP rfl ?_) | (refine RowC.gload E _ rfl _ rfl (vR oq) BQ rfl ?_))
  have hc := fun W => RegD.newer_ret a1 y W
  simp only [HN.out] at hc
  refine (hc _).mono ?_
  clear hc
  rintro e W16 ⟨rfl, k16⟩
  have w0' := w0.below k16
  clear w0
  have w0 := w0'
  clear w0'
  have B1' := B1.below k16
  clear B1
  have B1 := B1'
  clear B1'
  have SP' := SP.below k16
  clear SP
  have SP := SP'
  clear SP'
  have BX' := BX.below k16
  clear BX
  have BX := BX'
  clear BX'
  have BY' := BY.below k16
  clear BY
  have BY := BY'
  clear BY'
  have BP' := BP.below k16
  clear BP
  have BP := BP'
  clear BP'
  have BQ' := BQ.below k16
  clear BQ
  have BQ := BQ'
  clear BQ'
  have kb' := kb.trans (k16.mono kb.size)
  clear kb k16
  have kb := kb'
  clear kb'
  go_wp2_with (first | go_skip | (refine RowC.gload E _ rfl _ rfl a1 B1 rfl ?_) | (refine RowC.gload E _ rfl _ rfl a1 BX rfl ?_) | (refine RowC.gload E _ rfl _ rfl y BY rfl ?_) | (refine RowC.gload E _ rfl _ rfl (vR op) BP rfl ?_) | (refine RowC.gload E _ rfl _ rfl (vR oq) BQ rfl ?_))
  go_ret
  exact ⟨by first | rfl | simp, kb⟩

set_option maxRecDepth 100000 in
set_option maxHeartbeats 8000000 in
theorem way_s_old (a0 : Option Addr) (cap0 : Nat) (l0 : List Rg) (a1 : Rg) (a2 : ByteArray) (w : World) (w0 : SlR E w a0 cap0 l0) (g0 : ∀ x ∈ l0, OpenG.Good x) (g1 : OpenG.Good a1) (x0 : fewB l0 = true) (x1 : fewB [a1] = true) (m0 : mayR l0 = true) (m1 : mayR [a1] = true) (hk : a2.size ≤ 100) (y : Rg) (hn : newerB a1 y = false) (ho : getR l0 a1.key = some y) (hx : getR (putR l0 a1) a1.key = some y) (oq op : Option Rg) (hq : getR l0 a2 = oq) (hp : getR (putR l0 a1) a2 = op) (hd : a2 = a1.key) :
    Calls Try.prog 6 #[.slice a0 l0.length cap0, .agg (rc a1), .string a2] w fun e w' => e = .returned (.bool true) ∧ Below w.heap.size w w' := by
  subst hd
  have y0 := few_len x0
  have f0 := few_fits x0 g0
  have fa := fit_one x1 g1
  have fA := fits_one fa
  have X0 := aside x0
  have X1 := aside x1
  have p1 := put_length l0 a1
  have q1 := put_fits f0 fa
  have mp := put_may l0 a1
  obtain ⟨P, hP⟩ : ∃ l, putR l0 a1 = l := ⟨_, rfl⟩
  rw [hP] at p1 q1 mp hx hp
  have HP := aside hP
  have HX := aside hx
  have HO := aside ho
  have HQ := aside hq
  have HPK := aside hp
  have MP := aside mp
  have M0 := aside m0
  have M1 := aside m1
  have e2 := str_yes (rfl : a1.key = a1.key)
  have t1 := equal_yes (x := y) rfl
  have HN := aside hn
  clear hn
  clear x0 x1 m0 m1 mp hx ho hq hp hP
  have B1 : Box E (w.alloc (.cells (rc a1) 26)) (w.heap.size) a1 := by exact Box.new w a1 _
  have Z1 := below_alloc w (.cells (rc a1) 26)
  have w0' := w0.below Z1
  clear w0
  have w0 := w0'
  clear w0'
  have kb : Below w.heap.size w (w.alloc (.cells (rc a1) 26)) := by go_grown
  clear Z1
  go_enter Try.func6, Try.ntmps6
  go_wp2_with fail
  refine (awake _).mono ?_
  rintro e W1 ⟨rfl, k1⟩
  have w0' := w0.below k1
  clear w0
  have w0 := w0'
  clear w0'
  have B1' := B1.below k1
  clear B1
  have B1 := B1'
  clear B1'
  have kb' := kb.trans (k1.mono kb.size)
  clear kb k1
  have kb := kb'
  clear kb'
  go_wp2_with (first | go_skip | (refine RowC.gload E _ rfl _ rfl a1 B1 rfl ?_))
  have hc := few_ret a0 cap0 l0 _ w0 (max_of g0)
  rw [X0.out] at hc
  refine hc.mono ?_
  clear hc
  rintro e w' ⟨rfl, rfl⟩
  go_wp2_with (first | go_skip | (refine RowC.gload E _ rfl _ rfl a1 B1 rfl ?_) | (refine RowC.glit1 E (of_decide_eq_true rfl) _ rfl a1 rfl rfl ?_; intro W2 T k2; have w0' := w0.below k2; clear w0; have w0 := w0'; clear w0'; have B1' := B1.below k2; clear B1; have B1 := B1'; clear B1'; have kb' := kb.trans (k2.mono kb.size); clear kb k2; have kb := kb'; clear kb'))
  have hc := few_ret _ _ [a1] _ T (max_of (one_of g1))
  rw [X1.out] at hc
  refine hc.mono ?_
  clear hc
  rintro e w' ⟨rfl, rfl⟩
  clear T
  go_wp2_with (first | go_skip | (refine RowC.gload E _ rfl _ rfl a1 B1 rfl ?_))
  have hc := RegD.may_ret a0 cap0 l0 _ w0 f0 (by omega)
  rw [M0.out] at hc
  refine hc.mono ?_
  clear hc
  rintro e W3 ⟨rfl, k3⟩
  have w0' := w0.below k3
  clear w0
  have w0 := w0'
  clear w0'
  have B1' := B1.below k3
  clear B1
  have B1 := B1'
  clear B1'
  have kb' := kb.trans (k3.mono kb.size)
  clear kb k3
  have kb := kb'
  clear kb'
  go_wp2_with (first | go_skip | (refine RowC.gload E _ rfl _ rfl a1 B1 rfl ?_) | (refine RowC.glit1 E (of_decide_eq_true rfl) _ rfl a1 rfl rfl ?_; intro W4 T1 k4; have w0' := w0.below k4; clear w0; have w0 := w0'; clear w0'; have B1' := B1.below k4; clear B1; have B1 := B1'; clear B1'; have kb' := kb.trans (k4.mono kb.size); clear kb k4; have kb := kb'; clear kb'))
  have hc := RegD.may_ret _ _ [a1] _ T1 fA (by simp)
  rw [M1.out] at hc
  refine hc.mono ?_
  clear hc
  rintro e W5 ⟨rfl, k5⟩
  clear T1
  have w0' := w0.below k5
  clear w0
  have w0 := w0'
  clear w0'
  have B1' := B1.below k5
  clear B1
  have B1 := B1'
  clear B1'
  have kb' := kb.trans (k5.mono kb.size)
  clear kb k5
  have kb := kb'
  clear kb'
  go_wp2_with (first | go_skip | (refine RowC.gload E _ rfl _ rfl a1 B1 rfl ?_))
  have hc := RegD.put_ret a0 cap0 l0 a1 _ w0 f0 fa (by omega)
  rw [HP.out] at hc
  refine hc.mono ?_
  clear hc
  rintro e W6 ⟨AP, CP, rfl, SP, k6⟩
  have w0' := w0.below k6
  clear w0
  have w0 := w0'
  clear w0'
  have B1' := B1.below k6
  clear B1
  have B1 := B1'
  clear B1'
  have kb' := kb.trans (k6.mono kb.size)
  clear kb k6
  have kb := kb'
  clear kb'
  have c0 := B1.cell (j := 0) (v := .string a1.key) rfl
  go_wp2_with (first | go_skip | (refine RowC.gload E _ rfl _ rfl a1 B1 rfl ?_))
  have hc := RegD.get_ret AP CP P a1.key _ SP (by omega)
  rw [HX.out, gv_eq] at hc
  refine hc.mono ?_
  clear hc
  rintro e W7 ⟨rfl, k7⟩
  have w0' := w0.below k7
  clear w0
  have w0 := w0'
  clear w0'
  have B1' := B1.below k7
  clear B1
  have B1 := B1'
  clear B1'
  have SP' := SP.below k7
  clear SP
  have SP := SP'
  clear SP'
  have kb' := kb.trans (k7.mono kb.size)
  clear kb k7
  have kb := kb'
  clear kb'
  clear c0
  go_wp2_with (first | go_skip | (refine RowC.gload E _ rfl _ rfl a1 B1 rfl ?_) | (refine wpList_store_new E rfl _ _ rfl _ _ _ rfl y _ rfl rfl rfl rfl ?_; intro W8 BX k8 g8 s8; clear g8 s8; have w0' := w0.below k8; clear w0; have w0 := w0'; clear w0'; have B1' := B1.below k8; clear B1; have B1 := B1'; clear B1'; have SP' := SP.below k8; clear SP; have SP := SP'; clear SP'; have kb' := kb.trans (k8.mono kb.size); clear kb k8; have kb := kb'; clear kb'; have c0 := B1.cell (j := 0) (v := .string a1.key) rfl) | (refine RowC.gload E _ rfl _ rfl y BX rfl ?_))
  have hc := RegD.get_ret a0 cap0 l0 a1.key _ w0 (by omega)
  rw [HO.out, gv_eq] at hc
  refine hc.mono ?_
  clear hc
  rintro e W9 ⟨rfl, k9⟩
  have w0' := w0.below k9
  clear w0
  have w0 := w0'
  clear w0'
  have B1' := B1.below k9
  clear B1
  have B1 := B1'
  clear B1'
  have SP' := SP.below k9
  clear SP
  have SP := SP'
  clear SP'
  have BX' := BX.below k9
  clear BX
  have BX := BX'
  clear BX'
  have kb' := kb.trans (k9.mono kb.size)
  clear kb k9
  have kb := kb'
  clear kb'
  clear c0
  go_wp2_with (first | go_skip | (refine RowC.gload E _ rfl _ rfl a1 B1 rfl ?_) | (refine RowC.gload E _ rfl _ rfl y BX rfl ?_) | (refine wpList_store_new E rfl _ _ rfl _ _ _ rfl y _ rfl rfl rfl rfl ?_; intro W10 BY k10 g10 s10; clear g10 s10; have w0' := w0.below k10; clear w0; have w0 := w0'; clear w0'; have B1' := B1.below k10; clear B1; have B1 := B1'; clear B1'; have SP' := SP.below k10; clear SP; have SP := SP'; clear SP'; have BX' := BX.below k10; clear BX; have BX := BX'; clear BX'; have kb' := kb.trans (k10.mono kb.size); clear kb k10; have kb := kb'; clear kb') | (refine RowC.gload E _ rfl _ rfl y BY rfl ?_))
  have hc := RegD.get_ret AP CP P a1.key _ SP (by omega)
  rw [HPK.out, gv_eq] at hc
  refine hc.mono ?_
  clear hc
  rintro e W11 ⟨rfl, k11⟩
  have w0' := w0.below k11
  clear w0
  have w0 := w0'
  clear w0'
  have B1' := B1.below k11
  clear B1
  have B1 := B1'
  clear B1'
  have SP' := SP.below k11
  clear SP
  have SP := SP'
  clear SP'
  have BX' := BX.below k11
  clear BX
  have BX := BX'
  clear BX'
  have BY' := BY.below k11
  clear BY
  have BY := BY'
  clear BY'
  have kb' := kb.trans (k11.mono kb.size)
  clear kb k11
  have kb := kb'
  clear kb'
  go_wp2_with (first | go_skip | (refine RowC.gload E _ rfl _ rfl a1 B1 rfl ?_) | (refine RowC.gload E _ rfl _ rfl y BX rfl ?_) | (refine RowC.gload E _ rfl _ rfl y BY rfl ?_) | (refine wpList_store_new E rfl _ _ rfl _ _ _ rfl (vR op) _ rfl rfl rfl rfl ?_; intro W12 BP k12 g12 s12; clear g12 s12; have w0' := w0.below k12; clear w0; have w0 := w0'; clear w0'; have B1' := B1.below k12; clear B1; have B1 := B1'; clear B1'; have SP' := SP.below k12; clear SP; have SP := SP'; clear SP'; have BX' := BX.below k12; clear BX; have BX := BX'; clear BX'; have BY' := BY.below k12; clear BY; have BY := BY'; clear BY'; have kb' := kb.trans (k12.mono kb.size); clear kb k12; have kb := kb'; clear kb') | (refine RowC.gload E _ rfl _ rfl (vR op) BP rfl ?_))
  have hc := RegD.get_ret a0 cap0 l0 a1.key _ w0 (by omega)
  rw [HQ.out, gv_eq] at hc
  refine hc.mono ?_
  clear hc
  rintro e W13 ⟨rfl, k13⟩
  have w0' := w0.below k13
  clear w0
  have w0 := w0'
  clear w0'
  have B1' := B1.below k13
  clear B1
  have B1 := B1'
  clear B1'
  have SP' := SP.below k13
  clear SP
  have SP := SP'
  clear SP'
  have BX' := BX.below k13
  clear BX
  have BX := BX'
  clear BX'
  have BY' := BY.below k13
  clear BY
  have BY := BY'
  clear BY'
  have BP' := BP.below k13
  clear BP
  have BP := BP'
  clear BP'
  have kb' := kb.trans (k13.mono kb.size)
  clear kb k13
  have kb := kb'
  clear kb'
  go_wp2_with (first | go_skip | (refine RowC.gload E _ rfl _ rfl a1 B1 rfl ?_) | (refine RowC.gload E _ rfl _ rfl y BX rfl ?_) | (refine RowC.gload E _ rfl _ rfl y BY rfl ?_) | (refine RowC.gload E _ rfl _ rfl (vR op) BP rfl ?_) | (refine wpList_store_new E rfl _ _ rfl _ _ _ rfl (vR oq) _ rfl rfl rfl rfl ?_; intro W14 BQ k14 g14 s14; clear g14 s14; have w0' := w0.below k14; clear w0; have w0 := w0'; clear w0'; have B1' := B1.below k14; clear B1; have B1 := B1'; clear B1'; have SP' := SP.below k14; clear SP; have SP := SP'; clear SP'; have BX' := BX.below k14; clear BX; have BX := BX'; clear BX'; have BY' := BY.below k14; clear BY; have BY := BY'; clear BY'; have BP' := BP.below k14; clear BP; have BP := BP'; clear BP'; have kb' := kb.trans (k14.mono kb.size); clear kb k14; have kb := kb'; clear kb') | (refine RowC.gload E _ rfl _ rfl (vR oq) BQ rfl ?_))
  have hc := RegD.may_ret AP CP P _ SP q1 (by omega)
  rw [MP.out] at hc
  refine hc.mono ?_
  clear hc
  rintro e W15 ⟨rfl, k15⟩
  have w0' := w0.below k15
  clear w0
  have w0 := w0'
  clear w0'
  have B1' := B1.below k15
  clear B1
  have B1 := B1'
  clear B1'
  have SP' := SP.below k15
  clear SP
  have SP := SP'
  clear SP'
  have BX' := BX.below k15
  clear BX
  have BX := BX'
  clear BX'
  have BY' := BY.below k15
  clear BY
  have BY := BY'
  clear BY'
  have BP' := BP.below k15
  clear BP
  have BP := BP'
  clear BP'
  have BQ' := BQ.below k15
  clear BQ
  have BQ := BQ'
  clear BQ'
  have kb' := kb.trans (k15.mono kb.size)
  clear kb k15
  have kb := kb'
  clear kb'
  have c0 := B1.cell (j := 0) (v := .string a1.key) rfl
  go_wp2_with (first | go_skip | (refine RowC.gload E _ rfl _ rfl a1 B1 rfl ?_) | (refine RowC.gload E _ rfl _ rfl y BX rfl ?_) | (refine RowC.gload E _ rfl _ rfl y BY rfl ?_) | (refine RowC.gload E _ rfl _ rfl (vR op) BP rfl ?_) | (refine RowC.gload E _ rfl _ rfl (vR oq) BQ rfl ?_))
  have hc := fun W => RegD.newer_ret a1 y W
  simp only [HN.out] at hc
  refine (hc _).mono ?_
  clear hc
  rintro e W16 ⟨rfl, k16⟩
  have w0' := w0.below k16
  clear w0
  have w0 := w0'
  clear w0'
  have B1' := B1.below k16
  clear B1
  have B1 := B1'
  clear B1'
  have SP' := SP.below k16
  clear SP
  have SP := SP'
  clear SP'
  have BX' := BX.below k16
  clear BX
  have BX := BX'
  clear BX'
  have BY' := BY.below k16
  clear BY
  have BY := BY'
  clear BY'
  have BP' := BP.below k16
  clear BP
  have BP := BP'
  clear BP'
  have BQ' := BQ.below k16
  clear BQ
  have BQ := BQ'
  clear BQ'
  have kb' := kb.trans (k16.mono kb.size)
  clear kb k16
  have kb := kb'
  clear kb'
  go_wp2_with (first | go_skip | (refine RowC.gload E _ rfl _ rfl a1 B1 rfl ?_) | (refine RowC.gload E _ rfl _ rfl y BX rfl ?_) | (refine RowC.gload E _ rfl _ rfl y BY rfl ?_) | (refine RowC.gload E _ rfl _ rfl (vR op) BP rfl ?_) | (refine RowC.gload E _ rfl _ rfl (vR oq) BQ rfl ?_))
  go_ret
  exact ⟨by first | rfl | simp, kb⟩

theorem walk (a0 : Option Addr) (cap0 : Nat) (l0 : List Rg) (a1 : Rg) (a2 : ByteArray) (w : World) (w0 : SlR E w a0 cap0 l0) (g0 : ∀ x ∈ l0, OpenG.Good x) (g1 : OpenG.Good a1) (w2 : a2.size ≤ maxLen) :
    Calls Try.prog 6 #[.slice a0 l0.length cap0, .agg (rc a1), .string a2] w fun e w' => e = .returned (.bool true) ∧ Below w.heap.size w w' := by
  cases x0 : fewB l0 with
  | false => exact out a0 cap0 l0 a1 a2 w w0 g0 g1 _ _ x0 rfl (.inl rfl)
  | true =>
    cases x1 : fewB [a1] with
    | false => exact out a0 cap0 l0 a1 a2 w w0 g0 g1 _ _ x0 x1 (.inr ⟨rfl, rfl⟩)
    | true =>
      cases m0 : mayR l0 with
      | false => exact outm0 a0 cap0 l0 a1 a2 w w0 g0 g1 x0 x1 m0
      | true =>
        cases m1 : mayR [a1] with
        | false => exact outm1 a0 cap0 l0 a1 a2 w w0 g0 g1 x0 x1 m0 m1
        | true =>
          by_cases hk : 100 < a2.size
          · exact outm2 a0 cap0 l0 a1 a2 w w0 g0 g1 x0 x1 m0 m1 hk w2
          · have o1 : oneR a1 = true := by rw [← may_one]; exact m1
            have hx := put_there m0 o1
            cases ho : getR l0 a1.key with
            | none =>
              rw [ho] at hx
              by_cases hd : a2 = a1.key
              · exact way_s_none a0 cap0 l0 a1 a2 w w0 g0 g1 x0 x1 m0 m1 (by omega) ho hx _ _ rfl rfl hd
              · exact way_d_none a0 cap0 l0 a1 a2 w w0 g0 g1 x0 x1 m0 m1 (by omega) ho hx _ _ rfl rfl hd (put_else m0 o1 hd)
            | some y =>
              rw [ho] at hx
              cases hn : newerB a1 y with
              | true =>
                have hb : best a1 y = a1 := by unfold best; rw [hn]; rfl
                simp only [hb] at hx
                by_cases hd : a2 = a1.key
                · exact way_s_new a0 cap0 l0 a1 a2 w w0 g0 g1 x0 x1 m0 m1 (by omega) y hn ho hx _ _ rfl rfl hd
                · exact way_d_new a0 cap0 l0 a1 a2 w w0 g0 g1 x0 x1 m0 m1 (by omega) y hn ho hx _ _ rfl rfl hd (put_else m0 o1 hd)
              | false =>
                have hb : best a1 y = y := by unfold best; rw [hn]; rfl
                simp only [hb] at hx
                by_cases hd : a2 = a1.key
                · exact way_s_old a0 cap0 l0 a1 a2 w w0 g0 g1 x0 x1 m0 m1 (by omega) y hn ho hx _ _ rfl rfl hd
                · exact way_d_old a0 cap0 l0 a1 a2 w w0 g0 g1 x0 x1 m0 m1 (by omega) y hn ho hx _ _ rfl rfl hd (put_else m0 o1 hd)

theorem own : ownKnob Try.prog.godebug = none := by kernel_rfl
theorem laidOut : laidOutB Try.prog = true := by kernel_rfl
set_option linter.unusedVariables false in
set_option maxRecDepth 100000 in
theorem lifted (os : Os) (started : os.Started) (H : Type) (enc : TypeId × Value → H) :
    ReturnsInHanded {} Try.checked os 6 .any (Rows.regPutsSpec.pre6 enc Try.prog Try.f6 Rows.regPutsRow.domain false) (Rows.regPutsSpec.post enc Try.prog Try.f6 false true false false) := by
  refine returnsInHanded_of_change (C := Try.checked) own started (by kernel_rfl) Try.func6
    (ChangeSpec.witness6 (enc := enc) (C := Try.checked) false ⟨#[], #[.slice none 0 0, .agg #[.string ByteArray.empty, .string ByteArray.empty, .int .i64 0, .int .i64 0, .int .i64 0], .string ByteArray.empty], []⟩ 8 (by kernel_rfl) (by kernel_rfl) (by kernel_rfl) (by kernel_rfl)) ?_
  intro W base args ds gs before hval0 hW hcnd _
  have hval : ∀ (j : Nat) t v, Try.f6.params[j]? = some t → args[j]? = some v → Value.okWide Try.prog W .any base t v := hval0
  have hW' := hW
  obtain ⟨p, q, hA0, hV, rfl, hfz, hnd⟩ := hW
  have hA : DataW.TrodAll enc Try.prog W 0 (fun _ => true) true Try.f6.params.toList args.toList ds p := hA0
  rw [Try.params6] at hA hval
  obtain ⟨v0, vs0, d0, ds0, p0, q0, hargs, rfl, rfl, h0, r0⟩ := trodAll_cons hA
  obtain ⟨v1, vs1, d1, ds1, p1, q1, rfl, rfl, rfl, h1, r1⟩ := trodAll_cons r0
  obtain ⟨v2, vs2, d2, ds2, p2, q2, rfl, rfl, rfl, h2, r2⟩ := trodAll_cons r1
  obtain ⟨rfl, rfl, rfl⟩ := trodAll_nil r2
  obtain rfl : args = #[v0, v1, v2] := by cases args; simp_all
  obtain ⟨rfl, rfl⟩ := trodVars_none hV
  have k0 := h0
  have lt0 : ∀ x ∈ p0, x.block < W.heap.size := by obtain ⟨m, hm⟩ := k0; exact DataW.trod_lt m _ _ _ hm
  obtain ⟨a0, cap0, l0, rfl, w0, g0⟩ := OpenG.open_regs (hval 0 22 v0 rfl rfl) h0
  have k1 := h1
  have lt1 : ∀ x ∈ p1, x.block < W.heap.size := by obtain ⟨m, hm⟩ := k1; exact DataW.trod_lt m _ _ _ hm
  obtain ⟨a1, rfl, w1⟩ := OpenG.open_reg (hval 1 26 v1 rfl rfl) h1
  obtain ⟨a2, rfl, rfl, rfl, w2⟩ := Go.ChangeMaps.open_string Try.underlying9 (hval 2 9 v2 rfl rfl) h2
  clear hA0 hval0
  refine (walk a0 cap0 l0 a1 a2 W w0 g0 w1 w2).mono fun e W' ⟨he, bel⟩ => ?_
  subst he
  exact ⟨_, rfl, _, _, _, [], _, [], hW', trodAll_mk1 (shut_bool Try.underlying4 _), (trodAll_cons_mk (Below.trod laidOut (by kernel_rfl) (of_decide_eq_true (by kernel_rfl)) k0 bel lt0) (trodAll_cons_mk (Below.trod laidOut (by kernel_rfl) (of_decide_eq_true (by kernel_rfl)) k1 bel lt1) (trodAll_cons_mk (Go.ChangeMaps.shut_string Try.underlying9 w2) trodAll_mk0))), rfl, bel.frame _, fun h => by cases h⟩

theorem over : Rows.regPutsRow.holds Try.pinned (OpenSpec.ofChange Rows.regPutsSpec) :=
  OpenClaim.holds_of_wide 6 Try.f6 rfl rfl rfl rfl rfl rfl rfl ⟨rfl, rfl, rfl, rfl, rfl⟩ rfl rfl rfl rfl rfl (by kernel_rfl) Try.func6 (by kernel_rfl)
    (of_decide_eq_true (by kernel_rfl)) (by unfold Func.isWrapper; first | (rw [if_pos (by decide +kernel)]; kernel_rfl) | (rw [if_neg (by decide +kernel)]; exact ⟨rfl, rfl⟩))
    (fun os started H enc _ => lifted os started H enc)

theorem proved : Rows.RegPutsSaid := over
end Go.Proofs.Ytffefbhpndjdlaa.regPuts
