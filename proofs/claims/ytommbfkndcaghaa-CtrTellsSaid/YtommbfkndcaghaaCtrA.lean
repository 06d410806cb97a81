/- The chapter's own example: 'awake' returns true. -/
import Derived.Test.YtommbfkndcaghaaCtrD
namespace Go.Proofs.Ytommbfkndcaghaa.CtrA
open Go Go.RowKit Byt OpsM Rise CtrM RowS CtrW CtrS CtrL CtrX

theorem in5 : In64 (-5) := by unfold In64; omega
theorem fits_lit {l : List Cn} (h : l.all fun c => decide (c.key.size ≤ 8) && (decide (-100 ≤ c.n) && decide (c.n ≤ 100))) : Fits l := by
  rw [List.all_eq_true] at h
  intro c hc
  have := h c hc
  simp only [Bool.and_eq_true, decide_eq_true_eq] at this
  omega
theorem f1 : Fits a1 := fits_lit (by kernel_rfl)
theorem f3 : Fits a3 := fits_lit (by kernel_rfl)
theorem f5 : Fits b5 := fits_lit (by kernel_rfl)
theorem fab : Fits ab := fits_lit (by kernel_rfl)
theorem sl_lit {w : World} {g : Nat} {l : List Cn} {cs : Array Value} {n : Nat} (hn : n = l.length) (h : w.heap[g]? = some (.cells cs 36 (0, 0))) (hc : cs = (flat E l).toArray) (hl : l.length ≤ 10) : SlR E w (some ⟨g, 0, none⟩) n l := by
  subst hn
  subst hc
  exact SlR.of_cells E h (by unfold maxLen; omega)
set_option maxRecDepth 100000 in
set_option maxHeartbeats 8000000 in
theorem awake (w : World) : Calls Try.prog 9 #[] w fun e w' => e = .returned (.bool true) ∧ Below w.heap.size w w' := by
  have z1 : (w.alloc (.cells #[.string ⟨#[97]⟩, .int .i64 1] 36)).heap.size = w.heap.size + 1 := by simp
  have z2 : ((w.alloc (.cells #[.string ⟨#[97]⟩, .int .i64 1] 36)).alloc (.cells #[.string ⟨#[97]⟩, .int .i64 3] 36)).heap.size = w.heap.size + 1 + 1 := by simp
  have B0 := heap_alloc_new w (.cells #[.string ⟨#[97]⟩, .int .i64 1] 36)
  have B1 := heap_alloc_new (w.alloc (.cells #[.string ⟨#[97]⟩, .int .i64 1] 36)) (.cells #[.string ⟨#[97]⟩, .int .i64 3] 36)
  have B2 := heap_alloc_new ((w.alloc (.cells #[.string ⟨#[97]⟩, .int .i64 1] 36)).alloc (.cells #[.string ⟨#[97]⟩, .int .i64 3] 36)) (.cells #[.string ⟨#[98]⟩, .int .i64 5] 36)
  rw [z1] at B1
  rw [z2] at B2
  have S0 : SlR E _ (some ⟨w.heap.size, 0, none⟩) 1 a1 := sl_lit rfl B0 rfl (by simp [a1])
  have S1 : SlR E _ (some ⟨w.heap.size + 1, 0, none⟩) 1 a3 := sl_lit rfl B1 rfl (by simp [a3])
  have S2 : SlR E _ (some ⟨w.heap.size + 1 + 1, 0, none⟩) 1 b5 := sl_lit rfl B2 rfl (by simp [b5])
  have bl := fun (W : World) (o : Obj) => (Below.refl W.heap.size W).alloc (Nat.le_refl _) o
  have S0' := (S0.below (bl _ (.cells #[.string ⟨#[97]⟩, .int .i64 3] 36))).below (bl _ (.cells #[.string ⟨#[98]⟩, .int .i64 5] 36))
  have S1' := S1.below (bl _ (.cells #[.string ⟨#[98]⟩, .int .i64 5] 36))
  have hm := CtrD.merge_ret _ _ a1 _ _ a3 _ _ b5 _ S0' S1' S2 f1 f3 f5 (by simp [a1]) (by simp [a3]) (by simp [b5])
  rw [merge_ex] at hm
  have kb : Below w.heap.size w (((w.alloc (.cells #[.string ⟨#[97]⟩, .int .i64 1] 36)).alloc (.cells #[.string ⟨#[97]⟩, .int .i64 3] 36)).alloc (.cells #[.string ⟨#[98]⟩, .int .i64 5] 36)) := by go_grown
  clear B0 B1 B2 S0 S1 S2 S0' S1' z1 z2 bl
  go_enter Try.func9, Try.ntmps9
  go_wp2_with fail
  refine hm.mono ?_
  clear hm
  rintro e w1 ⟨A1, C1, rfl, T1, k1⟩
  have k2 := kb.trans (k1.mono kb.size)
  clear k1 kb
  go_wp2_with fail
  have U1 := T1.below ((Below.refl w1.heap.size w1).alloc (Nat.le_refl _) (.cells #[.string ⟨#[97]⟩, .int .i64 2, .string ⟨#[98]⟩, .int .i64 5] 36))
  have V1 : SlR E _ (some ⟨w1.heap.size, 0, none⟩) 2 ab := sl_lit rfl (heap_alloc_new w1 (.cells #[.string ⟨#[97]⟩, .int .i64 2, .string ⟨#[98]⟩, .int .i64 5] 36)) rfl (by simp [ab])
  have hs := same_ret A1 C1 ab _ 2 ab _ U1 V1
  rw [sameB_self] at hs
  refine hs.mono ?_
  clear hs
  rintro e w2 ⟨rfl, h2⟩
  have k3 : Below w.heap.size w w2 := (k2.alloc k2.size _).trans (h2.mono (by have := k2.size; simp; omega))
  have T2 := U1.below h2
  clear h2 T1 U1 V1 k2
  go_wp2_with fail
  have hy := CtrD.may_ret A1 C1 ab w2 T2 fab (by simp [ab])
  rw [may_ab] at hy
  refine hy.mono ?_
  clear hy
  rintro e w3 ⟨rfl, h3⟩
  have k4 := k3.trans (h3.mono k3.size)
  have T3 := T2.below h3
  clear h3 T2 k3
  go_wp2_with fail
  have hy := CtrD.get_ret A1 C1 ab ⟨#[98]⟩ w3 T3 (by simp [ab])
  rw [get_ab] at hy
  refine hy.mono ?_
  clear hy
  rintro e w4 ⟨rfl, h4⟩
  have k5 := k4.trans (h4.mono k4.size)
  have T4 := T3.below h4
  clear h4 T3 k4
  go_wp2_with fail
  have hy := CtrD.inc_ret A1 C1 ab ⟨#[98]⟩ (-5) w4 T4 fab (by simp [ab]) (of_decide_eq_true (by kernel_rfl)) in5
  rw [inc_ab] at hy
  refine hy.mono ?_
  clear hy
  rintro e w5 ⟨A5, C5, rfl, T5, h5⟩
  have k6 := k5.trans (h5.mono k5.size)
  go_wp2_with fail
  go_ret
  exact ⟨rfl, k6⟩
end Go.Proofs.Ytommbfkndcaghaa.CtrA
