/- RegNewer returns true for every input: of two that differ, but for their keys, just one is newer; of three it goes on. No condition. -/
import Derived.Test.YtffefbhpndjdlaaRegA
import Derived.Test.YtffefbhpndjdlaaRowF
import Derived.ShutString
import Derived.ChangeOld
namespace Go.Proofs.Ytffefbhpndjdlaa.regNewer
open Go Go.ChangeShapes Go.WideShapes Go.ChangeAt Go.RowKit Byt OpsM Rise RegM RegL RowS RowB RegW RegG RegS RegX RegA

/-- A register of another key. -/
def wk (r : Rg) (k : ByteArray) : Rg := ⟨k, r.elem, r.gen, r.node, r.seq⟩
set_option maxRecDepth 100000 in
set_option maxHeartbeats 8000000 in
theorem way1 (a0 : Rg) (a1 : Rg) (a2 : Rg) (w : World)  (hx : newerB a0 (wk a1 a0.key) = true) (hy : newerB (wk a1 a0.key) a0 = false) (he : false = true ↔ a0 = (wk a1 a0.key)) (hz : newerB (wk a1 a0.key) (wk a2 a0.key) = false) :
    Calls Try.prog 5 #[.agg (rc a0), .agg (rc a1), .agg (rc a2)] w fun e w' => e = .returned (.bool true) ∧ Below w.heap.size w w' := by
  have hq := equal_is he
  have HX := aside hx
  have HY := aside hy
  clear he hx hy
  have HZ := aside hz
  clear hz
  have B0 : Box E (w.alloc (.cells (rc a0) 26)) (w.heap.size) a0 := by exact Box.new w a0 _
  have Z0 := below_alloc w (.cells (rc a0) 26)
  have z1 : (w.alloc (.cells (rc a0) 26)).heap.size = w.heap.size + 1 := by simp
  have B1 : Box E ((w.alloc (.cells (rc a0) 26)).alloc (.cells (rc a1) 26)) (w.heap.size + 1) a1 := by rw [← z1]; exact Box.new (w.alloc (.cells (rc a0) 26)) a1 _
  have Z1 := below_alloc (w.alloc (.cells (rc a0) 26)) (.cells (rc a1) 26)
  have B0' := B0.below Z1
  clear B0
  have B0 := B0'
  clear B0'
  have z2 : ((w.alloc (.cells (rc a0) 26)).alloc (.cells (rc a1) 26)).heap.size = w.heap.size + 1 + 1 := by simp
  have B2 : Box E (((w.alloc (.cells (rc a0) 26)).alloc (.cells (rc a1) 26)).alloc (.cells (rc a2) 26)) (w.heap.size + 1 + 1) a2 := by rw [← z2]; exact Box.new ((w.alloc (.cells (rc a0) 26)).alloc (.cells (rc a1) 26)) a2 _
  have Z2 := below_alloc ((w.alloc (.cells (rc a0) 26)).alloc (.cells (rc a1) 26)) (.cells (rc a2) 26)
  have B0' := B0.below Z2
  clear B0
  have B0 := B0'
  clear B0'
  have B1' := B1.below Z2
  clear B1
  have B1 := B1'
  clear B1'
  have kb : Below w.heap.size w (((w.alloc (.cells (rc a0) 26)).alloc (.cells (rc a1) 26)).alloc (.cells (rc a2) 26)) := by go_grown
  clear Z0 Z1 Z2
  go_enter Try.func5, Try.ntmps5
  go_wp2_with fail
  refine (awake _).mono ?_
  rintro e W1 ⟨rfl, k1⟩
  have B0' := B0.below k1
  clear B0
  have B0 := B0'
  clear B0'
  have B1' := B1.below k1
  clear B1
  have B1 := B1'
  clear B1'
  have B2' := B2.below k1
  clear B2
  have B2 := B2'
  clear B2'
  have kb' := kb.trans (k1.mono kb.size)
  clear kb k1
  have kb := kb'
  clear kb'
  have c0 := B0.cell (j := 0) (v := .string a0.key) rfl
  go_wp2_with (first | (refine RowC.gload E _ rfl _ rfl a0 B0 rfl ?_) | (refine RowC.gload E _ rfl _ rfl (wk a1 a0.key) B1 rfl ?_) | (refine RowC.gload E _ rfl _ rfl (wk a2 a0.key) B2 rfl ?_) | (refine RowF.wpList_store_field E rfl rfl 9 _ _ rfl RowF.info_str (w.heap.size + 1) 0 rfl (of_decide_eq_true rfl) a1 B1 (wk a1 a0.key) (.string a0.key) rfl rfl rfl rfl ?_; intro W2 B1' f2 g2; clear B1; have B1 := B1'; clear B1'; have B0' := B0.kept g2 (by omega); clear B0; have B0 := B0'; clear B0'; have B2' := B2.kept g2 (by omega); clear B2; have B2 := B2'; clear B2'; have kb' := kb.trans (f2 _ (by omega)); clear kb; have kb := kb'; clear kb' f2 g2; have c0 := B0.cell (j := 0) (v := .string a0.key) rfl) | (refine RowF.wpList_store_field E rfl rfl 9 _ _ rfl RowF.info_str (w.heap.size + 1 + 1) 0 rfl (of_decide_eq_true rfl) a2 B2 (wk a2 a0.key) (.string a0.key) rfl rfl rfl rfl ?_; intro W3 B2' f3 g3; clear B2; have B2 := B2'; clear B2'; have B0' := B0.kept g3 (by omega); clear B0; have B0 := B0'; clear B0'; have B1' := B1.kept g3 (by omega); clear B1; have B1 := B1'; clear B1'; have kb' := kb.trans (f3 _ (by omega)); clear kb; have kb := kb'; clear kb' f3 g3))
  have hc := fun W => RegD.newer_ret a0 (wk a1 a0.key) W
  simp only [HX.out] at hc
  refine (hc _).mono ?_
  clear hc
  rintro e W4 ⟨rfl, k4⟩
  have B0' := B0.below k4
  clear B0
  have B0 := B0'
  clear B0'
  have B1' := B1.below k4
  clear B1
  have B1 := B1'
  clear B1'
  have B2' := B2.below k4
  clear B2
  have B2 := B2'
  clear B2'
  have kb' := kb.trans (k4.mono kb.size)
  clear kb k4
  have kb := kb'
  clear kb'
  go_wp2_with (first | (refine RowC.gload E _ rfl _ rfl a0 B0 rfl ?_) | (refine RowC.gload E _ rfl _ rfl (wk a1 a0.key) B1 rfl ?_) | (refine RowC.gload E _ rfl _ rfl (wk a2 a0.key) B2 rfl ?_))
  have hc := fun W => RegD.newer_ret (wk a1 a0.key) a0 W
  simp only [HY.out] at hc
  refine (hc _).mono ?_
  clear hc
  rintro e W5 ⟨rfl, k5⟩
  have B0' := B0.below k5
  clear B0
  have B0 := B0'
  clear B0'
  have B1' := B1.below k5
  clear B1
  have B1 := B1'
  clear B1'
  have B2' := B2.below k5
  clear B2
  have B2 := B2'
  clear B2'
  have kb' := kb.trans (k5.mono kb.size)
  clear kb k5
  have kb := kb'
  clear kb'
  go_wp2_with (first | (refine RowC.gload E _ rfl _ rfl a0 B0 rfl ?_) | (refine RowC.gload E _ rfl _ rfl (wk a1 a0.key) B1 rfl ?_) | (refine RowC.gload E _ rfl _ rfl (wk a2 a0.key) B2 rfl ?_))
  have hc := fun W => RegD.newer_ret (wk a1 a0.key) (wk a2 a0.key) W
  simp only [HZ.out] at hc
  refine (hc _).mono ?_
  clear hc
  rintro e W6 ⟨rfl, k6⟩
  have B0' := B0.below k6
  clear B0
  have B0 := B0'
  clear B0'
  have B1' := B1.below k6
  clear B1
  have B1 := B1'
  clear B1'
  have B2' := B2.below k6
  clear B2
  have B2 := B2'
  clear B2'
  have kb' := kb.trans (k6.mono kb.size)
  clear kb k6
  have kb := kb'
  clear kb'
  go_wp2_with (first | (refine RowC.gload E _ rfl _ rfl a0 B0 rfl ?_) | (refine RowC.gload E _ rfl _ rfl (wk a1 a0.key) B1 rfl ?_) | (refine RowC.gload E _ rfl _ rfl (wk a2 a0.key) B2 rfl ?_))
  go_ret
  exact ⟨by first | rfl | simp, kb⟩

set_option maxRecDepth 100000 in
set_option maxHeartbeats 8000000 in
theorem way2 (a0 : Rg) (a1 : Rg) (a2 : Rg) (w : World)  (hx : newerB a0 (wk a1 a0.key) = true) (hy : newerB (wk a1 a0.key) a0 = false) (he : false = true ↔ a0 = (wk a1 a0.key)) (hz : newerB (wk a1 a0.key) (wk a2 a0.key) = true) (hu : newerB a0 (wk a2 a0.key) = true) :
    Calls Try.prog 5 #[.agg (rc a0), .agg (rc a1), .agg (rc a2)] w fun e w' => e = .returned (.bool true) ∧ Below w.heap.size w w' := by
  have hq := equal_is he
  have HX := aside hx
  have HY := aside hy
  clear he hx hy
  have HZ := aside hz
  clear hz
  have HU := aside hu
  clear hu
  have B0 : Box E (w.alloc (.cells (rc a0) 26)) (w.heap.size) a0 := by exact Box.new w a0 _
  have Z0 := below_alloc w (.cells (rc a0) 26)
  have z1 : (w.alloc (.cells (rc a0) 26)).heap.size = w.heap.size + 1 := by simp
  have B1 : Box E ((w.alloc (.cells (rc a0) 26)).alloc (.cells (rc a1) 26)) (w.heap.size + 1) a1 := by rw [← z1]; exact Box.new (w.alloc (.cells (rc a0) 26)) a1 _
  have Z1 := below_alloc (w.alloc (.cells (rc a0) 26)) (.cells (rc a1) 26)
  have B0' := B0.below Z1
  clear B0
  have B0 := B0'
  clear B0'
  have z2 : ((w.alloc (.cells (rc a0) 26)).alloc (.cells (rc a1) 26)).heap.size = w.heap.size + 1 + 1 := by simp
  have B2 : Box E (((w.alloc (.cells (rc a0) 26)).alloc (.cells (rc a1) 26)).alloc (.cells (rc a2) 26)) (w.heap.size + 1 + 1) a2 := by rw [← z2]; exact Box.new ((w.alloc (.cells (rc a0) 26)).alloc (.cells (rc a1) 26)) a2 _
  have Z2 := below_alloc ((w.alloc (.cells (rc a0) 26)).alloc (.cells (rc a1) 26)) (.cells (rc a2) 26)
  have B0' := B0.below Z2
  clear B0
  have B0 := B0'
  clear B0'
  have B1' := B1.below Z2
  clear B1
  have B1 := B1'
  clear B1'
  have kb : Below w.heap.size w (((w.alloc (.cells (rc a0) 26)).alloc (.cells (rc a1) 26)).alloc (.cells (rc a2) 26)) := by go_grown
  clear Z0 Z1 Z2
  go_enter Try.func5, Try.ntmps5
  go_wp2_with fail
  refine (awake _).mono ?_
  rintro e W1 ⟨rfl, k1⟩
  have B0' := B0.below k1
  clear B0
  have B0 := B0'
  clear B0'
  have B1' := B1.below k1
  clear B1
  have B1 := B1'
  clear B1'
  have B2' := B2.below k1
  clear B2
  have B2 := B2'
  clear B2'
  have kb' := kb.trans (k1.mono kb.size)
  clear kb k1
  have kb := kb'
  clear kb'
  have c0 := B0.cell (j := 0) (v := .string a0.key) rfl
  go_wp2_with (first | (refine RowC.gload E _ rfl _ rfl a0 B0 rfl ?_) | (refine RowC.gload E _ rfl _ rfl (wk a1 a0.key) B1 rfl ?_) | (refine RowC.gload E _ rfl _ rfl (wk a2 a0.key) B2 rfl ?_) | (refine RowF.wpList_store_field E rfl rfl 9 _ _ rfl RowF.info_str (w.heap.size + 1) 0 rfl (of_decide_eq_true rfl) a1 B1 (wk a1 a0.key) (.string a0.key) rfl rfl rfl rfl ?_; intro W2 B1' f2 g2; clear B1; have B1 := B1'; clear B1'; have B0' := B0.kept g2 (by omega); clear B0; have B0 := B0'; clear B0'; have B2' := B2.kept g2 (by omega); clear B2; have B2 := B2'; clear B2'; have kb' := kb.trans (f2 _ (by omega)); clear kb; have kb := kb'; clear kb' f2 g2; have c0 := B0.cell (j := 0) (v := .string a0.key) rfl) | (refine RowF.wpList_store_field E rfl rfl 9 _ _ rfl RowF.info_str (w.heap.size + 1 + 1) 0 rfl (of_decide_eq_true rfl) a2 B2 (wk a2 a0.key) (.string a0.key) rfl rfl rfl rfl ?_; intro W3 B2' f3 g3; clear B2; have B2 := B2'; clear B2'; have B0' := B0.kept g3 (by omega); clear B0; have B0 := B0'; clear B0'; have B1' := B1.kept g3 (by omega); clear B1; have B1 := B1'; clear B1'; have kb' := kb.trans (f3 _ (by omega)); clear kb; have kb := kb'; clear kb' f3 g3))
  have hc := fun W => RegD.newer_ret a0 (wk a1 a0.key) W
  simp only [HX.out] at hc
  refine (hc _).mono ?_
  clear hc
  rintro e W4 ⟨rfl, k4⟩
  have B0' := B0.below k4
  clear B0
  have B0 := B0'
  clear B0'
  have B1' := B1.below k4
  clear B1
  have B1 := B1'
  clear B1'
  have B2' := B2.below k4
  clear B2
  have B2 := B2'
  clear B2'
  have kb' := kb.trans (k4.mono kb.size)
  clear kb k4
  have kb := kb'
  clear kb'
  go_wp2_with (first | (refine RowC.gload E _ rfl _ rfl a0 B0 rfl ?_) | (refine RowC.gload E _ rfl _ rfl (wk a1 a0.key) B1 rfl ?_) | (refine RowC.gload E _ rfl _ rfl (wk a2 a0.key) B2 rfl ?_))
  have hc := fun W => RegD.newer_ret (wk a1 a0.key) a0 W
  simp only [HY.out] at hc
  refine (hc _).mono ?_
  clear hc
  rintro e W5 ⟨rfl, k5⟩
  have B0' := B0.below k5
  clear B0
  have B0 := B0'
  clear B0'
  have B1' := B1.below k5
  clear B1
  have B1 := B1'
  clear B1'
  have B2' := B2.below k5
  clear B2
  have B2 := B2'
  clear B2'
  have kb' := kb.trans (k5.mono kb.size)
  clear kb k5
  have kb := kb'
  clear kb'
  go_wp2_with (first | (refine RowC.gload E _ rfl _ rfl a0 B0 rfl ?_) | (refine RowC.gload E _ rfl _ rfl (wk a1 a0.key) B1 rfl ?_) | (refine RowC.gload E _ rfl _ rfl (wk a2 a0.key) B2 rfl ?_))
  have hc := fun W => RegD.newer_ret (wk a1 a0.key) (wk a2 a0.key) W
  simp only [HZ.out] at hc
  refine (hc _).mono ?_
  clear hc
  rintro e W6 ⟨rfl, k6⟩
  have B0' := B0.below k6
  clear B0
  have B0 := B0'
  clear B0'
  have B1' := B1.below k6
  clear B1
  have B1 := B1'
  clear B1'
  have B2' := B2.below k6
  clear B2
  have B2 := B2'
  clear B2'
  have kb' := kb.trans (k6.mono kb.size)
  clear kb k6
  have kb := kb'
  clear kb'
  go_wp2_with (first | (refine RowC.gload E _ rfl _ rfl a0 B0 rfl ?_) | (refine RowC.gload E _ rfl _ rfl (wk a1 a0.key) B1 rfl ?_) | (refine RowC.gload E _ rfl _ rfl (wk a2 a0.key) B2 rfl ?_))
  have hc := fun W => RegD.newer_ret a0 (wk a2 a0.key) W
  simp only [HU.out] at hc
  refine (hc _).mono ?_
  clear hc
  rintro e W7 ⟨rfl, k7⟩
  have B0' := B0.below k7
  clear B0
  have B0 := B0'
  clear B0'
  have B1' := B1.below k7
  clear B1
  have B1 := B1'
  clear B1'
  have B2' := B2.below k7
  clear B2
  have B2 := B2'
  clear B2'
  have kb' := kb.trans (k7.mono kb.size)
  clear kb k7
  have kb := kb'
  clear kb'
  go_wp2_with (first | (refine RowC.gload E _ rfl _ rfl a0 B0 rfl ?_) | (refine RowC.gload E _ rfl _ rfl (wk a1 a0.key) B1 rfl ?_) | (refine RowC.gload E _ rfl _ rfl (wk a2 a0.key) B2 rfl ?_))
  go_ret
  exact ⟨by first | rfl | simp, kb⟩

set_option maxRecDepth 100000 in
set_option maxHeartbeats 8000000 in
theorem way3 (a0 : Rg) (a1 : Rg) (a2 : Rg) (w : World)  (hx : newerB a0 (wk a1 a0.key) = false) (hy : newerB (wk a1 a0.key) a0 = true) (he : false = true ↔ a0 = (wk a1 a0.key)) :
    Calls Try.prog 5 #[.agg (rc a0), .agg (rc a1), .agg (rc a2)] w fun e w' => e = .returned (.bool true) ∧ Below w.heap.size w w' := by
  have hq := equal_is he
  have HX := aside hx
  have HY := aside hy
  clear he hx hy
  have B0 : Box E (w.alloc (.cells (rc a0) 26)) (w.heap.size) a0 := by exact Box.new w a0 _
  have Z0 := below_alloc w (.cells (rc a0) 26)
  have z1 : (w.alloc (.cells (rc a0) 26)).heap.size = w.heap.size + 1 := by simp
  have B1 : Box E ((w.alloc (.cells (rc a0) 26)).alloc (.cells (rc a1) 26)) (w.heap.size + 1) a1 := by rw [← z1]; exact Box.new (w.alloc (.cells (rc a0) 26)) a1 _
  have Z1 := below_alloc (w.alloc (.cells (rc a0) 26)) (.cells (rc a1) 26)
  have B0' := B0.below Z1
  clear B0
  have B0 := B0'
  clear B0'
  have z2 : ((w.alloc (.cells (rc a0) 26)).alloc (.cells (rc a1) 26)).heap.size = w.heap.size + 1 + 1 := by simp
  have B2 : Box E (((w.alloc (.cells (rc a0) 26)).alloc (.cells (rc a1) 26)).alloc (.cells (rc a2) 26)) (w.heap.size + 1 + 1) a2 := by rw [← z2]; exact Box.new ((w.alloc (.cells (rc a0) 26)).alloc (.cells (rc a1) 26)) a2 _
  have Z2 := below_alloc ((w.alloc (.cells (rc a0) 26)).alloc (.cells (rc a1) 26)) (.cells (rc a2) 26)
  have B0' := B0.below Z2
  clear B0
  have B0 := B0'
  clear B0'
  have B1' := B1.below Z2
  clear B1
  have B1 := B1'
  clear B1'
  have kb : Below w.heap.size w (((w.alloc (.cells (rc a0) 26)).alloc (.cells (rc a1) 26)).alloc (.cells (rc a2) 26)) := by go_grown
  clear Z0 Z1 Z2
  go_enter Try.func5, Try.ntmps5
  go_wp2_with fail
  refine (awake _).mono ?_
  rintro e W1 ⟨rfl, k1⟩
  have B0' := B0.below k1
  clear B0
  have B0 := B0'
  clear B0'
  have B1' := B1.below k1
  clear B1
  have B1 := B1'
  clear B1'
  have B2' := B2.below k1
  clear B2
  have B2 := B2'
  clear B2'
  have kb' := kb.trans (k1.mono kb.size)
  clear kb k1
  have kb := kb'
  clear kb'
  have c0 := B0.cell (j := 0) (v := .string a0.key) rfl
  go_wp2_with (first | (refine RowC.gload E _ rfl _ rfl a0 B0 rfl ?_) | (refine RowC.gload E _ rfl _ rfl (wk a1 a0.key) B1 rfl ?_) | (refine RowC.gload E _ rfl _ rfl (wk a2 a0.key) B2 rfl ?_) | (refine RowF.wpList_store_field E rfl rfl 9 _ _ rfl RowF.info_str (w.heap.size + 1) 0 rfl (of_decide_eq_true rfl) a1 B1 (wk a1 a0.key) (.string a0.key) rfl rfl rfl rfl ?_; intro W2 B1' f2 g2; clear B1; have B1 := B1'; clear B1'; have B0' := B0.kept g2 (by omega); clear B0; have B0 := B0'; clear B0'; have B2' := B2.kept g2 (by omega); clear B2; have B2 := B2'; clear B2'; have kb' := kb.trans (f2 _ (by omega)); clear kb; have kb := kb'; clear kb' f2 g2; have c0 := B0.cell (j := 0) (v := .string a0.key) rfl) | (refine RowF.wpList_store_field E rfl rfl 9 _ _ rfl RowF.info_str (w.heap.size + 1 + 1) 0 rfl (of_decide_eq_true rfl) a2 B2 (wk a2 a0.key) (.string a0.key) rfl rfl rfl rfl ?_; intro W3 B2' f3 g3; clear B2; have B2 := B2'; clear B2'; have B0' := B0.kept g3 (by omega); clear B0; have B0 := B0'; clear B0'; have B1' := B1.kept g3 (by omega); clear B1; have B1 := B1'; clear B1'; have kb' := kb.trans (f3 _ (by omega)); clear kb; have kb := kb'; clear kb' f3 g3))
  have hc := fun W => RegD.newer_ret a0 (wk a1 a0.key) W
  simp only [HX.out] at hc
  refine (hc _).mono ?_
  clear hc
  rintro e W4 ⟨rfl, k4⟩
  have B0' := B0.below k4
  clear B0
  have B0 := B0'
  clear B0'
  have B1' := B1.below k4
  clear B1
  have B1 := B1'
  clear B1'
  have B2' := B2.below k4
  clear B2
  have B2 := B2'
  clear B2'
  have kb' := kb.trans (k4.mono kb.size)
  clear kb k4
  have kb := kb'
  clear kb'
  go_wp2_with (first | (refine RowC.gload E _ rfl _ rfl a0 B0 rfl ?_) | (refine RowC.gload E _ rfl _ rfl (wk a1 a0.key) B1 rfl ?_) | (refine RowC.gload E _ rfl _ rfl (wk a2 a0.key) B2 rfl ?_))
  have hc := fun W => RegD.newer_ret (wk a1 a0.key) a0 W
  simp only [HY.out] at hc
  refine (hc _).mono ?_
  clear hc
  rintro e W5 ⟨rfl, k5⟩
  have B0' := B0.below k5
  clear B0
  have B0 := B0'
  clear B0'
  have B1' := B1.below k5
  clear B1
  have B1 := B1'
  clear B1'
  have B2' := B2.below k5
  clear B2
  have B2 := B2'
  clear B2'
  have kb' := kb.trans (k5.mono kb.size)
  clear kb k5
  have kb := kb'
  clear kb'
  go_wp2_with (first | (refine RowC.gload E _ rfl _ rfl a0 B0 rfl ?_) | (refine RowC.gload E _ rfl _ rfl (wk a1 a0.key) B1 rfl ?_) | (refine RowC.gload E _ rfl _ rfl (wk a2 a0.key) B2 rfl ?_))
  go_ret
  exact ⟨by first | rfl | simp, kb⟩

set_option maxRecDepth 100000 in
set_option maxHeartbeats 8000000 in
theorem way4 (a0 : Rg) (a1 : Rg) (a2 : Rg) (w : World)  (hx : newerB a0 (wk a1 a0.key) = false) (hy : newerB (wk a1 a0.key) a0 = false) (he : true = true ↔ a0 = (wk a1 a0.key)) :
    Calls Try.prog 5 #[.agg (rc a0), .agg (rc a1), .agg (rc a2)] w fun e w' => e = .returned (.bool true) ∧ Below w.heap.size w w' := by
  have hq := equal_is he
  have HX := aside hx
  have HY := aside hy
  clear he hx hy
  have B0 : Box E (w.alloc (.cells (rc a0) 26)) (w.heap.size) a0 := by exact Box.new w a0 _
  have Z0 := below_alloc w (.cells (rc a0) 26)
  have z1 : (w.alloc (.cells (rc a0) 26)).heap.size = w.heap.size + 1 := by simp
  have B1 : Box E ((w.alloc (.cells (rc a0) 26)).alloc (.cells (rc a1) 26)) (w.heap.size + 1) a1 := by rw [← z1]; exact Box.new (w.alloc (.cells (rc a0) 26)) a1 _
  have Z1 := below_alloc (w.alloc (.cells (rc a0) 26)) (.cells (rc a1) 26)
  have B0' := B0.below Z1
  clear B0
  have B0 := B0'
  clear B0'
  have z2 : ((w.alloc (.cells (rc a0) 26)).alloc (.cells (rc a1) 26)).heap.size = w.heap.size + 1 + 1 := by simp
  have B2 : Box E (((w.alloc (.cells (rc a0) 26)).alloc (.cells (rc a1) 26)).alloc (.cells (rc a2) 26)) (w.heap.size + 1 + 1) a2 := by rw [← z2]; exact Box.new ((w.alloc (.cells (rc a0) 26)).alloc (.cells (rc a1) 26)) a2 _
  have Z2 := below_alloc ((w.alloc (.cells (rc a0) 26)).alloc (.cells (rc a1) 26)) (.cells (rc a2) 26)
  have B0' := B0.below Z2
  clear B0
  have B0 := B0'
  clear B0'
  have B1' := B1.below Z2
  clear B1
  have B1 := B1'
  clear B1'
  have kb : Below w.heap.size w (((w.alloc (.cells (rc a0) 26)).alloc (.cells (rc a1) 26)).alloc (.cells (rc a2) 26)) := by go_grown
  clear Z0 Z1 Z2
  go_enter Try.func5, Try.ntmps5
  go_wp2_with fail
  refine (awake _).mono ?_
  rintro e W1 ⟨rfl, k1⟩
  have B0' := B0.below k1
  clear B0
  have B0 := B0'
  clear B0'
  have B1' := B1.below k1
  clear B1
  have B1 := B1'
  clear B1'
  have B2' := B2.below k1
  clear B2
  have B2 := B2'
  clear B2'
  have kb' := kb.trans (k1.mono kb.size)
  clear kb k1
  have kb := kb'
  clear kb'
  have c0 := B0.cell (j := 0) (v := .string a0.key) rfl
  go_wp2_with (first | (refine RowC.gload E _ rfl _ rfl a0 B0 rfl ?_) | (refine RowC.gload E _ rfl _ rfl (wk a1 a0.key) B1 rfl ?_) | (refine RowC.gload E _ rfl _ rfl (wk a2 a0.key) B2 rfl ?_) | (refine RowF.wpList_store_field E rfl rfl 9 _ _ rfl RowF.info_str (w.heap.size + 1) 0 rfl (of_decide_eq_true rfl) a1 B1 (wk a1 a0.key) (.string a0.key) rfl rfl rfl rfl ?_; intro W2 B1' f2 g2; clear B1; have B1 := B1'; clear B1'; have B0' := B0.kept g2 (by omega); clear B0; have B0 := B0'; clear B0'; have B2' := B2.kept g2 (by omega); clear B2; have B2 := B2'; clear B2'; have kb' := kb.trans (f2 _ (by omega)); clear kb; have kb := kb'; clear kb' f2 g2; have c0 := B0.cell (j := 0) (v := .string a0.key) rfl) | (refine RowF.wpList_store_field E rfl rfl 9 _ _ rfl RowF.info_str (w.heap.size + 1 + 1) 0 rfl (of_decide_eq_true rfl) a2 B2 (wk a2 a0.key) (.string a0.key) rfl rfl rfl rfl ?_; intro W3 B2' f3 g3; clear B2; have B2 := B2'; clear B2'; have B0' := B0.kept g3 (by omega); clear B0; have B0 := B0'; clear B0'; have B1' := B1.kept g3 (by omega); clear B1; have B1 := B1'; clear B1'; have kb' := kb.trans (f3 _ (by omega)); clear kb; have kb := kb'; clear kb' f3 g3))
  have hc := fun W => RegD.newer_ret a0 (wk a1 a0.key) W
  simp only [HX.out] at hc
  refine (hc _).mono ?_
  clear hc
  rintro e W4 ⟨rfl, k4⟩
  have B0' := B0.below k4
  clear B0
  have B0 := B0'
  clear B0'
  have B1' := B1.below k4
  clear B1
  have B1 := B1'
  clear B1'
  have B2' := B2.below k4
  clear B2
  have B2 := B2'
  clear B2'
  have kb' := kb.trans (k4.mono kb.size)
  clear kb k4
  have kb := kb'
  clear kb'
  go_wp2_with (first | (refine RowC.gload E _ rfl _ rfl a0 B0 rfl ?_) | (refine RowC.gload E _ rfl _ rfl (wk a1 a0.key) B1 rfl ?_) | (refine RowC.gload E _ rfl _ rfl (wk a2 a0.key) B2 rfl ?_))
  have hc := fun W => RegD.newer_ret (wk a1 a0.key) a0 W
  simp only [HY.out] at hc
  refine (hc _).mono ?_
  clear hc
  rintro e W5 ⟨rfl, k5⟩
  have B0' := B0.below k5
  clear B0
  have B0 := B0'
  clear B0'
  have B1' := B1.below k5
  clear B1
  have B1 := B1'
  clear B1'
  have B2' := B2.below k5
  clear B2
  have B2 := B2'
  clear B2'
  have kb' := kb.trans (k5.mono kb.size)
  clear kb k5
  have kb := kb'
  clear kb'
  go_wp2_with (first | (refine RowC.gload E _ rfl _ rfl a0 B0 rfl ?_) | (refine RowC.gload E _ rfl _ rfl (wk a1 a0.key) B1 rfl ?_) | (refine RowC.gload E _ rfl _ rfl (wk a2 a0.key) B2 rfl ?_))
  go_ret
  exact ⟨by first | rfl | simp, kb⟩

theorem walk (a0 : Rg) (a1 : Rg) (a2 : Rg) (w : World) (_g0 : OpenG.Good a0) (_g1 : OpenG.Good a1) (_g2 : OpenG.Good a2) :
    Calls Try.prog 5 #[.agg (rc a0), .agg (rc a1), .agg (rc a2)] w fun e w' => e = .returned (.bool true) ∧ Below w.heap.size w w' := by
  have hk : a0.key = (wk a1 a0.key).key := rfl
  cases hx : newerB a0 (wk a1 a0.key) with
  | true =>
    have hy := newer_asymm hx
    have hn : a0 ≠ wk a1 a0.key := fun e => by rw [← e, newer_irrefl] at hx; cases hx
    have he : (false = true) ↔ a0 = wk a1 a0.key := ⟨(fun h => by cases h), fun h => absurd h hn⟩
    cases hz : newerB (wk a1 a0.key) (wk a2 a0.key) with
    | false => exact way1 a0 a1 a2 w hx hy he hz
    | true => exact way2 a0 a1 a2 w hx hy he hz (newer_trans hx hz)
  | false =>
    cases hy : newerB (wk a1 a0.key) a0 with
    | true =>
      have hn : a0 ≠ wk a1 a0.key := fun e => by rw [← e, newer_irrefl] at hy; cases hy
      exact way3 a0 a1 a2 w hx hy ⟨(fun h => by cases h), fun h => absurd h hn⟩
    | false => exact way4 a0 a1 a2 w hx hy ⟨fun _ => newer_tri hk hx hy, fun _ => rfl⟩

theorem own : ownKnob Try.prog.godebug = none := by kernel_rfl
theorem laidOut : laidOutB Try.prog = true := by kernel_rfl
set_option linter.unusedVariables false in
set_option maxRecDepth 100000 in
theorem lifted (os : Os) (started : os.Started) (H : Type) (enc : TypeId × Value → H) :
    ReturnsInHanded {} Try.checked os 5 .any (Rows.regNewerSpec.pre6 enc Try.prog Try.f5 Rows.regNewerRow.domain false) (Rows.regNewerSpec.post enc Try.prog Try.f5 false true false false) := by
  refine returnsInHanded_of_change (C := Try.checked) own started (by kernel_rfl) Try.func5
    (ChangeSpec.witness6 (enc := enc) (C := Try.checked) false ⟨#[], #[.agg #[.string ByteArray.empty, .string ByteArray.empty, .int .i64 0, .int .i64 0, .int .i64 0], .agg #[.string ByteArray.empty, .string ByteArray.empty, .int .i64 0, .int .i64 0, .int .i64 0], .agg #[.string ByteArray.empty, .string ByteArray.empty, .int .i64 0, .int .i64 0, .int .i64 0]], []⟩ 8 (by kernel_rfl) (by kernel_rfl) (by kernel_rfl) (by kernel_rfl)) ?_
  intro W base args ds gs before hval0 hW hcnd _
  have hval : ∀ (j : Nat) t v, Try.f5.params[j]? = some t → args[j]? = some v → Value.okWide Try.prog W .any base t v := hval0
  have hW' := hW
  obtain ⟨p, q, hA0, hV, rfl, hfz, hnd⟩ := hW
  have hA : DataW.TrodAll enc Try.prog W 0 (fun _ => true) true Try.f5.params.toList args.toList ds p := hA0
  rw [Try.params5] at hA hval
  obtain ⟨v0, vs0, d0, ds0, p0, q0, hargs, rfl, rfl, h0, r0⟩ := trodAll_cons hA
  obtain ⟨v1, vs1, d1, ds1, p1, q1, rfl, rfl, rfl, h1, r1⟩ := trodAll_cons r0
  obtain ⟨v2, vs2, d2, ds2, p2, q2, rfl, rfl, rfl, h2, r2⟩ := trodAll_cons r1
  obtain ⟨rfl, rfl, rfl⟩ := trodAll_nil r2
  obtain rfl : args = #[v0, v1, v2] := by cases args; simp_all
  obtain ⟨rfl, rfl⟩ := trodVars_none hV
  have k0 := h0
  have lt0 : ∀ x ∈ p0, x.block < W.heap.size := by obtain ⟨m, hm⟩ := k0; exact DataW.trod_lt m _ _ _ hm
  obtain ⟨a0, rfl, w0⟩ := OpenG.open_reg (hval 0 26 v0 rfl rfl) h0
  have k1 := h1
  have lt1 : ∀ x ∈ p1, x.block < W.heap.size := by obtain ⟨m, hm⟩ := k1; exact DataW.trod_lt m _ _ _ hm
  obtain ⟨a1, rfl, w1⟩ := OpenG.open_reg (hval 1 26 v1 rfl rfl) h1
  have k2 := h2
  have lt2 : ∀ x ∈ p2, x.block < W.heap.size := by obtain ⟨m, hm⟩ := k2; exact DataW.trod_lt m _ _ _ hm
  obtain ⟨a2, rfl, w2⟩ := OpenG.open_reg (hval 2 26 v2 rfl rfl) h2
  clear hA0 hval0
  refine (walk a0 a1 a2 W w0 w1 w2).mono fun e W' ⟨he, bel⟩ => ?_
  subst he
  exact ⟨_, rfl, _, _, _, [], _, [], hW', trodAll_mk1 (shut_bool Try.underlying4 _), (trodAll_cons_mk (Below.trod laidOut (by kernel_rfl) (of_decide_eq_true (by kernel_rfl)) k0 bel lt0) (trodAll_cons_mk (Below.trod laidOut (by kernel_rfl) (of_decide_eq_true (by kernel_rfl)) k1 bel lt1) (trodAll_cons_mk (Below.trod laidOut (by kernel_rfl) (of_decide_eq_true (by kernel_rfl)) k2 bel lt2) trodAll_mk0))), rfl, bel.frame _, fun h => by cases h⟩

theorem over : Rows.regNewerRow.holds Try.pinned (OpenSpec.ofChange Rows.regNewerSpec) :=
  OpenClaim.holds_of_wide 5 Try.f5 rfl rfl rfl rfl rfl rfl rfl ⟨rfl, rfl, rfl, rfl, rfl⟩ rfl rfl rfl rfl rfl (by kernel_rfl) Try.func5 (by kernel_rfl)
    (of_decide_eq_true (by kernel_rfl)) (by unfold Func.isWrapper; first | (rw [if_pos (by decide +kernel)]; kernel_rfl) | (rw [if_neg (by decide +kernel)]; exact ⟨rfl, rfl⟩))
    (fun os started H enc _ => lifted os started H enc)

theorem proved : Rows.RegNewerSaid := over
end Go.Proofs.Ytffefbhpndjdlaa.regNewer
