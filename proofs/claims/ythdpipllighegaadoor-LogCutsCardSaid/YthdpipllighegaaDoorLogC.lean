/- What the project's marks, and copies of bytes, return: contracts. No condition but sizes. -/
import Derived.Test.YthdpipllighegaaDoorLogM
import Derived.Test.YthdpipllighegaaDoorStG
import Derived.Laws.CopyOwn
namespace Go.Proofs.YthdpipllighegaaDoor.LogC
set_option maxRecDepth 100000
open Go Go.RowKit Byt RotG Small LogM

theorem rowL_of {w : World} {A : Option Addr} {cap : Nat} {l : List Int} (h : Sl w A cap l) : RowIn.RowL .u8 w A l.length cap l := by
  obtain ⟨h1, h2, h3, h4⟩ := h
  refine ⟨h1, h2, ⟨Nat.le_refl _, h1⟩, fun x hx => ?_, ?_⟩
  · have := h3 x hx
    simpa [Byt.B, Lit.wf, IntKind.min, IntKind.max, IntKind.bits, IntKind.signed] using this
  · rcases h4 with ⟨r1, r2, r3⟩ | ⟨x, r1, r2⟩
    · exact .inl ⟨r1, by rw [r2]; rfl, r3⟩
    · exact .inr ⟨x, r1, r2⟩
theorem psum {w : World} {A : Option Addr} {cap len : Nat} {l : List Int} (h : Sl w A cap l) (hl : l.length = len) (hm : len ≤ 1099511627776) (hK : ShaE.KIn w) :
    Calls Tryd.prog 25 #[.slice A len cap] w fun e w' => e = .returned (.agg (Byt.bv (ShaH.sumL l)).toArray) ∧ Below w.heap.size w w' := by
  subst hl
  have := ShaH.sumW (rowL_of h) hm hK
  rw [List.take_of_length_le (Nat.le_refl _)] at this
  exact this
theorem four_B (a : Int) (h : 0 ≤ a ∧ a ≤ 4294967295) : ∀ x ∈ PadM.four8 a, 0 ≤ x ∧ x ≤ 255 := by
  intro x hx
  simp only [PadM.four8, List.mem_cons, List.not_mem_nil, or_false] at hx
  rcases hx with rfl | rfl | rfl | rfl <;> omega
theorem sum_B (l : List Int) : ∀ x ∈ ShaH.sumL l, 0 ≤ x ∧ x ≤ 255 := by
  intro x hx
  unfold ShaH.sumL ShaG.idL at hx
  rw [List.mem_flatMap] at hx
  obtain ⟨i, _, hi⟩ := hx
  exact four_B _ (RotM.u_range _) x hi
theorem mark_B (l : List Int) : ∀ x ∈ markL l, 0 ≤ x ∧ x ≤ 255 := fun x hx => sum_B l x (List.mem_of_mem_take hx)
theorem frame_B {l : List Int} (h : ∀ x ∈ l, 0 ≤ x ∧ x ≤ 255) : ∀ x ∈ frameL l, 0 ≤ x ∧ x ≤ 255 := by
  intro x hx
  unfold frameL at hx
  rcases List.mem_append.1 hx with hx | hx
  · exact EncM.numL_range _ x hx
  · rcases List.mem_append.1 hx with hx | hx
    · exact h x hx
    · exact mark_B l x hx
theorem info_m : (Tryd.prog.info? 38).map (·.size) = some 4 := by kernel_rfl
theorem info_id : (Tryd.prog.info? 44).map (·.size) = some 32 := by kernel_rfl

section
variable {ops : Array Oper} {rest : List Oper} {o : Oper} {a : Act} {w : World} {Q : Exit → Act → World → Prop}
/-- The first four bytes of a slice copied into a block of four. -/
theorem copy_four (hgd : o.guard = none) (d s : Operand) (ho : o.op = .call { callee := .builtin .copy, args := #[d, s], argTypes := #[22, 22] })
    (g : Nat) (hd : a.eval d = .slice (some ⟨g, 0, none⟩) 4 4) (old : Array Value) (h4 : old.size = 4) (hA : At w g old) (A : Option Addr) (n c : Nat) (l : List Int) (hs : a.eval s = .slice A n c) (hl : l.length = n) (S : Sl w A c l) (hn : 4 ≤ n)
    (h : ∀ w', At w' g (Byt.bv (l.take 4)).toArray → (∀ B, B ≤ g → Below B w w') → wpList Tryd.prog ops Q rest (a.put o.dst (.int .i64 4)) w') : wpList Tryd.prog ops Q (o :: rest) a w := by
  subst hl
  obtain ⟨b, off, rfl, _, hc⟩ := S.plain (by omega)
  obtain ⟨t, ht⟩ := hA
  have e4 : (Byt.bv (l.take 4)).length = 4 := by rw [bv_length, List.length_take]; omega
  refine wpList_copy_own hgd d s 22 22 ho 5 Tryd.underlying22 info_u8 g 0 4 4 ⟨b, off, none⟩ l.length c hd hs old t ht (Byt.bv (l.take 4)) (by rw [e4]; show 4 = min l.length 4; omega) (fun j v hj => ?_) (by rw [e4]; omega) (bv_one _) ?_
  · have hj2 : j < (l.take 4).length := by
      have := (List.getElem?_eq_some_iff.1 hj).1
      rwa [bv_length] at this
    rw [bv_at _ hj2] at hj
    rw [List.length_take] at hj2
    rw [Addr.add_lit, hc j (by omega), ← hj, List.getD_eq_getElem?_getD, List.getD_eq_getElem?_getD, List.getElem?_take, if_pos (by omega)]
  · have ecs : (old.toList.take 0 ++ (Byt.bv (l.take 4) ++ old.toList.drop (0 + (Byt.bv (l.take 4)).length))).toArray = (Byt.bv (l.take 4)).toArray := by
      rw [e4, List.take_zero, List.nil_append, List.drop_of_length_le (by rw [Array.length_toList]; omega), List.append_nil]
    rw [ecs, e4]
    exact h _ ⟨t, setRow_heap w g old _ t (0, 0) ht⟩ (fun B hB => below_row (Below.refl B w) hB _)
end
set_option maxRecDepth 100000 in
set_option maxHeartbeats 4000000 in
theorem markAt_ret {w : World} {A : Option Addr} {cap len : Nat} {l : List Int} (S : Sl w A cap l) (hl : l.length = len) (h4 : 4 ≤ len) :
    Calls Tryd.prog 26 #[.slice A len cap] w fun e w' => e = .returned (.agg (Byt.bv (l.take 4)).toArray) ∧ Below w.heap.size w w' := by
  have z1 : (w.alloc (.cells #[.int .u8 0, .int .u8 0, .int .u8 0, .int .u8 0] 38)).heap.size = w.heap.size + 1 := by simp
  have A0 : At ((w.alloc (.cells #[.int .u8 0, .int .u8 0, .int .u8 0, .int .u8 0] 38)).alloc (.cells #[.int .u8 0, .int .u8 0, .int .u8 0, .int .u8 0] 38)) w.heap.size #[.int .u8 0, .int .u8 0, .int .u8 0, .int .u8 0] := At.old2 w _ _ _
  have A1 : At ((w.alloc (.cells #[.int .u8 0, .int .u8 0, .int .u8 0, .int .u8 0] 38)).alloc (.cells #[.int .u8 0, .int .u8 0, .int .u8 0, .int .u8 0] 38)) (w.heap.size + 1) #[.int .u8 0, .int .u8 0, .int .u8 0, .int .u8 0] := At.new2 w _ _ _
  have kb : Below w.heap.size w ((w.alloc (.cells #[.int .u8 0, .int .u8 0, .int .u8 0, .int .u8 0] 38)).alloc (.cells #[.int .u8 0, .int .u8 0, .int .u8 0, .int .u8 0] 38)) := ((Below.refl _ _).alloc (Nat.le_refl _) _).alloc (by simp) _
  have S1 := S.below kb
  have e4 : (Byt.bv (l.take 4)).toArray.size = 4 := by rw [List.size_toArray, bv_length, List.length_take]; omega
  have one : (Byt.bv (l.take 4)).toArray.all (·.oneCell') = true := by
    rw [Array.all_eq_true_iff_forall_mem]
    intro v hv
    exact bv_one _ v (by simpa using hv)
  obtain ⟨m, hm⟩ : ∃ m, (Byt.bv (l.take 4)).toArray = m := ⟨_, rfl⟩
  rw [hm] at e4 one
  have HM := aside hm
  clear hm
  go_enter Tryd.func26, Tryd.ntmps26
  go_wp2_with (first | go_skip | (refine copy_four rfl _ _ rfl (w.heap.size + 1) rfl _ rfl A1 A _ cap l rfl hl S1 h4 ?_; intro w2 B1 f2; have B0 := A0.below (f2 _ (Nat.le_refl _)) (by omega); have k2 := kb.trans (f2 w.heap.size (by omega)); rw [HM.out] at B1) | (refine wpList_load_at rfl 38 _ rfl _ rfl _ _ B1 Tryd.underlying38 rfl ?c1 ?_; (case c1 => rw [e4]; exact info_m)) | (refine wpList_store_at rfl 38 _ _ rfl _ _ rfl rfl _ B0 ?c2 ?c3 ?c4 ?_; (case c2 => rw [e4]; exact info_m); (case c3 => rw [e4]; rfl); (case c4 => exact one)))
  rw [HM.out]
  exact bodyPost_ret (v := .agg m) (results_at Tryd.results26 _ _ w.heap.size _ _ rfl (B0.row _) Tryd.underlying38 rfl (by rw [e4]; exact info_m)) rfl ⟨rfl, below_row k2 (Nat.le_refl _) _⟩
end Go.Proofs.YthdpipllighegaaDoor.LogC
