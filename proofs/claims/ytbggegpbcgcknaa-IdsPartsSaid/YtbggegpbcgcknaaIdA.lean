/- What awake returns. -/
import Derived.Test.YtbggegpbcgcknaaIdG
namespace Go.Proofs.Ytbggegpbcgcknaa.IdA
open Go Go.RowKit IdM Byt IdW IdB IdC IdH IdI IdJ IdU IdV IdG

def one : Idn := ⟨List.replicate 31 0 ++ [1], by simp, by intro x hx; simp at hx; omega⟩
theorem f1 : less nought one = true := by decide +kernel
theorem f2 : (IdM.sort [one, nought, one]).length = 2 := by decide +kernel
theorem f3 : (both [nought] [one]).length = 2 := by decide +kernel
theorem f4 : (common [nought] [nought]).length = 1 := by decide +kernel
theorem f5 : (without [nought] [one]).length = 1 := by decide +kernel
theorem build31 (w : World) : (Instr.build 24 #[(31, .int .u8 1)]).run Try.prog w = .ok (.agg (cs one)) w := Go.run_build w 24 _ _ (by kernel_rfl)
theorem wpList_build31 {ops : Array Oper} {rest : List Oper} {o : Oper} {a : Act} {w : World} {Q : Exit → Act → World → Prop} (hgd : o.guard = none) (ho : o.op = .build 24 #[(31, .const (.int .u8 1))])
    (h : wpList Try.prog ops Q rest (a.put o.dst (.agg (cs one))) w) : wpList Try.prog ops Q (o :: rest) a w := by
  refine wpList_plain hgd fun K hK => ?_
  have e : a.eval (.const (.int .u8 1)) = .int .u8 1 := rfl
  unfold Oper.wp execOp
  simp only [ho, List.map_toArray, List.map_cons, List.map_nil, e, Sem.run_bind, build31, Result.andThen_ok, Sem.run_pure]
  exact hK _ _ h

set_option maxHeartbeats 0 in
theorem awake_ret (w : World) : Calls Try.prog 9 #[] w fun e w' => e = .returned (.bool true) ∧ Below w.heap.size w w' := by
  have G0 : Box ((w.alloc (.cells (cs nought) 24)).alloc (.cells (cs one) 24)) w.heap.size nought := (Box.new w nought _).alloc _
  have G1 : Box ((w.alloc (.cells (cs nought) 24)).alloc (.cells (cs one) 24)) (w.heap.size + 1) one := by
    have := Box.new (w.alloc (.cells (cs nought) 24)) one 24
    simpa using this
  have kb0 : Below w.heap.size w ((w.alloc (.cells (cs nought) 24)).alloc (.cells (cs one) 24)) := ((Below.refl _ _).alloc (Nat.le_refl _) _).alloc (by simp) _
  have hlt := f1
  have F2 := f2
  have F3 := f3
  have F4 := f4
  have F5 := f5
  obtain ⟨s, hs⟩ : ∃ s, strOf (hexL one) = s := ⟨_, rfl⟩
  have hz : s.size = 64 := by rw [← hs, strOf_size, hexL_length]
  have hbs : bytesL s = hexL one := by rw [← hs, bytesL_strOf (hexL_B _)]
  go_enter Try.func9, Try.ntmps9
  go_wp2_with (first | (refine wpList_alloc_id rfl rfl ?_) | (refine wpList_build0 rfl rfl ?_) | (refine wpList_build31 rfl rfl ?_) | (refine wpList_load_box rfl _ rfl _ rfl one G1 ?_) | (refine wpList_load_box rfl _ rfl _ rfl one (Box.new _ one _) ?_) | (refine wpList_store_new rfl _ _ rfl _ _ nought _ rfl _ rfl (by simp) rfl (cs_size nought) ?_) | (refine wpList_store_new rfl _ _ rfl _ _ one _ rfl _ rfl (by simp) rfl (cs_size nought) ?_))
  generalize nought = x0 at *
  generalize one = x1 at *
  refine (hex_ret x1 _).mono ?_
  rintro e w1 ⟨rfl, k1⟩
  rw [hs]
  have B0 := G0.below k1 G0.lt
  have B1 := G1.below k1 G1.lt
  have kb1 := kb0.trans (k1.mono kb0.size)
  clear G0 G1 kb0 k1
  go_wp2_with fail
  refine (read_ret s _).mono ?_
  rintro e w2 ⟨rfl, k2⟩
  rw [hbs, read_hex, ok_hex]
  have C0 := B0.below k2 B0.lt
  have C1 := B1.below k2 B1.lt
  have kb2 := kb1.trans (k2.mono kb1.size)
  clear B0 B1 kb1 k2
  go_wp2_with (first | (refine wpList_alloc_id rfl rfl ?_) | (refine wpList_store_new rfl _ _ rfl _ _ x1 _ rfl _ rfl (by simp) rfl (cs_size _) ?_) | (refine wpList_load_box rfl _ rfl _ rfl x0 (C0.alloc _) ?_) | (refine wpList_load_box rfl _ rfl _ rfl x1 (C1.alloc _) ?_))
  refine (less_ret x0 x1 _).mono ?_
  rintro e w3 ⟨rfl, g3⟩
  rw [hlt]
  have C0' := C0.alloc (.cells (cs x1) 24)
  have C1' := C1.alloc (.cells (cs x1) 24)
  have C2' := Box.new w2 x1 24
  have kb2' := kb2.alloc kb2.size (.cells (cs x1) 24)
  have D0 := IdG.Box.on C0' g3.below
  have D1 := IdG.Box.on C1' g3.below
  have D2 := IdG.Box.on C2' g3.below
  have kb3 := kb2'.trans (g3.below.mono kb2'.size)
  have heq := fun W => equal W 9998 x1 x1
  simp only [decide_true] at heq
  clear C0 C1 kb2 C0' C1' C2' kb2' g3
  go_wp2_with (first | (refine gload _ rfl _ rfl x1 D2 (by kernel_rfl) ?_) | (refine gload _ rfl _ rfl x1 D1 (by kernel_rfl) ?_) | (refine gload _ rfl _ rfl x0 D0 (by kernel_rfl) ?_) | (refine gbuild3 _ _ _ rfl x1 x0 x1 rfl rfl rfl (by kernel_rfl) ?_))
  refine (sort_ret _ 3 [x1, x0, x1] _ (SlI.newL w3 [x1, x0, x1] _ (by simp)) (by simp)).mono ?_
  rintro e w4 ⟨v4, rfl, o4, k4⟩
  obtain ⟨A4, c4, rfl, _⟩ := SlI.own o4
  rw [F2]
  have kk := kb3.alloc kb3.size (.cells (bv (flat [x1, x0, x1])).toArray 24)
  have E0 := IdG.Box.on (D0.alloc _) k4
  have E1 := IdG.Box.on (D1.alloc _) k4
  have kb4 := kk.trans (k4.mono kk.size)
  clear D0 D1 D2 kb3 kk k4 o4 heq
  go_wp2_with (first | (refine gload _ rfl _ rfl x0 E0 (by kernel_rfl) ?_) | (refine gbuild1 _ rfl x0 rfl (by kernel_rfl) ?_) | (refine gload _ rfl _ rfl x1 (E1.alloc _) (by kernel_rfl) ?_) | (refine gbuild1 _ rfl x1 rfl (by kernel_rfl) ?_))
  have T1 : SlI ((w4.alloc (.cells (cs x0) 24)).alloc (.cells (cs x1) 24)) (some ⟨w4.heap.size, 0, none⟩) 1 [x0] := (SlI.new1 w4 x0 24).below ((Below.refl _ _).alloc (Nat.le_refl _) _)
  have T2 : SlI ((w4.alloc (.cells (cs x0) 24)).alloc (.cells (cs x1) 24)) (some ⟨w4.heap.size + 1, 0, none⟩) 1 [x1] := by
    have := SlI.new1 (w4.alloc (.cells (cs x0) 24)) x1 24
    simpa using this
  refine (both_ret _ _ 1 1 [x0] [x1] _ T1 T2 (by simp) (by simp)).mono ?_
  clear T1 T2
  rintro e w5 ⟨v5, rfl, o5, k5⟩
  obtain ⟨A5, c5, rfl, _⟩ := SlI.own o5
  rw [F3]
  have F0 := (E0.alloc (.cells (cs x0) 24)).alloc (.cells (cs x1) 24)
  have F1 := (E1.alloc (.cells (cs x0) 24)).alloc (.cells (cs x1) 24)
  have kk := (kb4.alloc kb4.size (.cells (cs x0) 24)).alloc (by have := kb4.size; simp; omega) (.cells (cs x1) 24)
  have kb5 := kk.trans (k5.mono kk.size)
  have H0 := IdG.Box.on F0 k5
  have H1 := IdG.Box.on F1 k5
  clear E0 E1 F0 F1 kb4 kk k5 o5
  have E0 := H0
  have E1 := H1
  clear H0 H1
  go_wp2_with (first | (refine gload _ rfl _ rfl x0 E0 (by kernel_rfl) ?_) | (refine gbuild1 _ rfl x0 rfl (by kernel_rfl) ?_) | (refine gload _ rfl _ rfl x0 (E0.alloc _) (by kernel_rfl) ?_))
  have T1 : SlI ((w5.alloc (.cells (cs x0) 24)).alloc (.cells (cs x0) 24)) (some ⟨w5.heap.size, 0, none⟩) 1 [x0] := (SlI.new1 w5 x0 24).below ((Below.refl _ _).alloc (Nat.le_refl _) _)
  have T2 : SlI ((w5.alloc (.cells (cs x0) 24)).alloc (.cells (cs x0) 24)) (some ⟨w5.heap.size + 1, 0, none⟩) 1 [x0] := by
    have := SlI.new1 (w5.alloc (.cells (cs x0) 24)) x0 24
    simpa using this
  refine (common_ret _ _ 1 1 [x0] [x0] _ T1 T2 (by simp) (by simp)).mono ?_
  clear T1 T2
  rintro e w6 ⟨v6, rfl, o6, k6⟩
  obtain ⟨A6, c6, rfl, _⟩ := SlI.own o6
  rw [F4]
  have F0 := (E0.alloc (.cells (cs x0) 24)).alloc (.cells (cs x0) 24)
  have F1 := (E1.alloc (.cells (cs x0) 24)).alloc (.cells (cs x0) 24)
  have kk := (kb5.alloc kb5.size (.cells (cs x0) 24)).alloc (by have := kb5.size; simp; omega) (.cells (cs x0) 24)
  have kb6 := kk.trans (k6.mono kk.size)
  have H0 := IdG.Box.on F0 k6
  have H1 := IdG.Box.on F1 k6
  clear E0 E1 F0 F1 kb5 kk k6 o6
  have E0 := H0
  have E1 := H1
  clear H0 H1
  go_wp2_with (first | (refine gload _ rfl _ rfl x0 E0 (by kernel_rfl) ?_) | (refine gbuild1 _ rfl x0 rfl (by kernel_rfl) ?_) | (refine gload _ rfl _ rfl x1 (E1.alloc _) (by kernel_rfl) ?_) | (refine gbuild1 _ rfl x1 rfl (by kernel_rfl) ?_))
  have T1 : SlI ((w6.alloc (.cells (cs x0) 24)).alloc (.cells (cs x1) 24)) (some ⟨w6.heap.size, 0, none⟩) 1 [x0] := (SlI.new1 w6 x0 24).below ((Below.refl _ _).alloc (Nat.le_refl _) _)
  have T2 : SlI ((w6.alloc (.cells (cs x0) 24)).alloc (.cells (cs x1) 24)) (some ⟨w6.heap.size + 1, 0, none⟩) 1 [x1] := by
    have := SlI.new1 (w6.alloc (.cells (cs x0) 24)) x1 24
    simpa using this
  refine (without_ret _ _ 1 1 [x0] [x1] _ T1 T2 (by simp) (by simp)).mono ?_
  clear T1 T2
  rintro e w7 ⟨v7, rfl, o7, k7⟩
  obtain ⟨A7, c7, rfl, _⟩ := SlI.own o7
  rw [F5]
  have F0 := (E0.alloc (.cells (cs x0) 24)).alloc (.cells (cs x1) 24)
  have F1 := (E1.alloc (.cells (cs x0) 24)).alloc (.cells (cs x1) 24)
  have kk := (kb6.alloc kb6.size (.cells (cs x0) 24)).alloc (by have := kb6.size; simp; omega) (.cells (cs x1) 24)
  have kb7 := kk.trans (k7.mono kk.size)
  have H0 := IdG.Box.on F0 k7
  have H1 := IdG.Box.on F1 k7
  clear E0 E1 F0 F1 kb6 kk k7 o7
  have E0 := H0
  have E1 := H1
  clear H0 H1
  go_wp2_with (first | (refine gload _ rfl _ rfl x0 E0 (by kernel_rfl) ?_) | (refine gbuild1 _ rfl x0 rfl (by kernel_rfl) ?_) | (refine gload _ rfl _ rfl x0 (E0.alloc _) (by kernel_rfl) ?_))
  refine (has_ret _ 1 [x0] x0 _ (SlI.new1 w7 x0 24)).mono ?_
  rintro e w8 ⟨rfl, k8⟩
  have fh : decide (x0 ∈ [x0]) = true := by simp
  rw [fh]
  have kk := kb7.alloc kb7.size (.cells (cs x0) 24)
  have kb8 := kk.trans (k8.mono kk.size)
  go_wp2_with fail
  go_ret
  exact ⟨rfl, kb8⟩
end Go.Proofs.Ytbggegpbcgcknaa.IdA
