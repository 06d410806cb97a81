/- What the project's marks of records, copies of bytes, two slices of bytes joined, and Frame return: contracts. No condition but sizes. -/
import Derived.Test.YthdpipllighegaaDoorLogC
import Derived.Test.YthdpipllighegaaDoorEncC
import Derived.Test.YthdpipllighegaaDoorGrow
namespace Go.Proofs.YthdpipllighegaaDoor.LogD
set_option maxRecDepth 100000
open Go Go.Sort Go.RowKit Byt RotG Small EncM EncC LogM LogC

theorem bsize (l : List Int) : (Byt.bv l).toArray.size = l.length := by rw [List.size_toArray, bv_length]
theorem bone (l : List Int) : (Byt.bv l).toArray.all (·.oneCell') = true := by
  rw [Array.all_eq_true_iff_forall_mem]
  intro v hv
  exact bv_one _ v (by simpa using hv)
/-- A block known whole, as a slice. -/
theorem sl_at {w : World} {g : Nat} {l : List Int} (h : At w g (Byt.bv l).toArray) (hl : l.length ≤ maxLen) (hb : ∀ x ∈ l, Byt.B x) : Sl w (some ⟨g, 0, none⟩) l.length l := by
  obtain ⟨t, ht⟩ := h
  refine ⟨Nat.le_refl _, hl, hb, .inr ⟨_, rfl, fun i hi => ?_⟩⟩
  rw [Addr.add_lit, Nat.zero_add, cell_of_row w g i _ t (0, 0) ht, List.getElem?_toArray, bv_at _ hi]
set_option maxRecDepth 100000 in
set_option maxHeartbeats 4000000 in
theorem markOf_ret {w : World} {A : Option Addr} {cap len : Nat} {l : List Int} (S : Sl w A cap l) (hl : l.length = len) (hm : len ≤ 1099511627776) (hK : ShaE.KIn w) :
    Calls Tryd.prog 17 #[.slice A len cap] w fun e w' => e = .returned (.agg (Byt.bv (markL l)).toArray) ∧ Below w.heap.size w w' := by
  obtain ⟨z4, hz4⟩ : ∃ z : Array Value, #[.int .u8 0, .int .u8 0, .int .u8 0, .int .u8 0] = z := ⟨_, rfl⟩
  have s4 : z4.size = 4 := by rw [← hz4]; rfl
  have A0 : At (w.alloc (.cells z4 38)) w.heap.size z4 := At.new w _ _
  have kb : Below w.heap.size w (w.alloc (.cells z4 38)) := (Below.refl _ _).alloc (Nat.le_refl _) _
  have S1 := S.below kb
  have hs := psum S1 hl hm (hK.below kb)
  have e32 := bsize (ShaH.sumL l)
  rw [ShaH.sumL_length] at e32
  have one := bone (ShaH.sumL l)
  have o4 := bone (markL l)
  have e4 := bsize (markL l)
  rw [markL_len] at e4
  rw [← hz4] at A0 kb hs
  obtain ⟨S2, hS2⟩ : ∃ S, ShaH.sumL l = S := ⟨_, rfl⟩
  obtain ⟨m, hM⟩ : ∃ m, (Byt.bv (markL l)).toArray = m := ⟨_, rfl⟩
  have hsl : ∀ W g, At W g (Byt.bv S2).toArray → Sl W (some ⟨g, 0, none⟩) 32 S2 := fun W g h => by
    have := sl_at h (by rw [← hS2, ShaH.sumL_length]; unfold maxLen; omega) (by rw [← hS2]; exact sum_B l)
    rwa [← hS2, ShaH.sumL_length, hS2] at this
  have hml : (Byt.bv (S2.take 4)).toArray = m := by rw [← hS2, ← hM]; rfl
  have hlen : S2.length = 32 := by rw [← hS2]; exact ShaH.sumL_length l
  have hkbs := kb.size
  rw [hS2] at hs e32 one
  rw [hM] at e4 o4 ⊢
  clear hS2 hM S S1 hz4 s4 hK hl hm
  go_enter Tryd.func17, Tryd.ntmps17
  go_wp2_with (first | go_skip)
  refine hs.mono ?_
  rintro e w1 ⟨rfl, k1⟩
  have A1 := A0.below k1 A0.lt
  have b1 := kb.trans (k1.mono hkbs)
  have bs1 := b1.size
  have l1 := A1.lt
  clear A0 kb k1 hs hkbs
  go_wp2_with (first | go_skip | (refine wpList_store_last rfl 44 _ _ rfl _ _ _ 44 rfl _ rfl ?c1 rfl ?c2 ?c3 ?c4 ?_; (case c1 => simp); (case c2 => rw [e32]; exact info_id); (case c3 => rw [e32]; rfl); (case c4 => exact one)))
  have B1 : At (w1.alloc (.cells (Byt.bv S2).toArray 44)) w1.heap.size (Byt.bv S2).toArray := At.new w1 _ _
  have B0 := A1.alloc (.cells (Byt.bv S2).toArray 44)
  have k2 := b1.alloc bs1 (.cells (Byt.bv S2).toArray 44)
  have q := markAt_ret (hsl _ _ B1) hlen (by omega)
  rw [hml] at q
  refine q.mono ?_
  rintro e w2 ⟨rfl, k3⟩
  have C0 := B0.below k3 B0.lt
  have k4 := k2.trans (k3.mono k2.size)
  clear B0 B1 q k2 k3 hsl
  go_wp2_with (first | go_skip | (refine wpList_store_at rfl 38 _ _ rfl _ _ rfl rfl _ C0 ?c2 ?c3 ?c4 ?_; (case c2 => rw [e4]; exact info_m); (case c3 => rw [e4]; rfl); (case c4 => exact o4)))
  exact bodyPost_ret (v := .agg m) (results_at Tryd.results17 _ _ w.heap.size _ _ rfl (C0.row _) Tryd.underlying38 rfl (by rw [e4]; exact info_m)) rfl ⟨rfl, below_row k4 (Nat.le_refl _) _⟩

theorem nil_eq (w : World) : (binOp BinOp.eql 22 (.slice none 0 0) (.slice none 0 0)).run Tryd.prog w = .ok (.bool true) w := by kernel_rfl
theorem some_eq (p : Addr) (n cap : Nat) (w : World) : (binOp BinOp.eql 22 (.slice (some p) n cap) (.slice none 0 0)).run Tryd.prog w = .ok (.bool false) w := by kernel_rfl
/-- An empty slice that is not nil. -/
theorem build_none {w : World} {ops : Array Oper} {rest : List Oper} {o : Oper} {a : Act} {Q : Exit → Act → World → Prop} (hgd : o.guard = none) (ho : o.op = .buildSlice 22 0 #[])
    (h : ∀ w1 cap, w1.ownsRow w.heap.size 5 1 (.slice (some ⟨w.heap.size, 0, none⟩) 0 cap) 0 (Byt.bv []) → Below w.heap.size w w1 → w.heap.size ≤ w1.heap.size → wpList Tryd.prog ops Q rest (a.put o.dst (.slice (some ⟨w.heap.size, 0, none⟩) 0 cap)) w1) : wpList Tryd.prog ops Q (o :: rest) a w := by
  refine wpList_plain hgd fun K hK => ?_
  have hrun : (Instr.buildSlice 22 0 #[]).run Tryd.prog w = .ok (.slice (some ⟨w.heap.size, 0, none⟩) 0 0) (w.alloc (.cells #[] 5)) := by kernel_rfl
  unfold Oper.wp execOp
  simp only [ho, List.map_toArray, List.map_nil, Sem.run_bind, hrun, Result.andThen_ok, Sem.run_pure]
  refine hK _ _ (h _ 0 ⟨rfl, .inr ⟨w.heap.size, 0, #[], rfl, Nat.le_refl _, heap_alloc_new w _, Nat.le_refl _, Nat.zero_le _, rfl, rfl⟩⟩ ((Below.refl _ _).alloc (Nat.le_refl _) _) (by simp))
/-- A call gives a new slice of these bytes. -/
def Gives (l : List Int) (w : World) (e : Ending) (w' : World) : Prop := ∃ A cap, e = .returned (.slice A l.length cap) ∧ Sl w' A cap l ∧ Below w.heap.size w w' ∧ ∀ b off sp, A = some ⟨b, off, sp⟩ → w.heap.size ≤ b ∧ b < w'.heap.size
theorem New.gives {l : List Int} {w : World} {e : Ending} {w' : World} (h : Byt.New l w e w') (hb : ∀ x ∈ l, Byt.B x) : Gives l w e w' := by
  obtain ⟨v, rfl, own, k⟩ := h
  have hlt := own.lt
  obtain ⟨A, cap, rfl, S⟩ := Sl.own own hb
  refine ⟨A, cap, rfl, S, k, fun b off sp h => ?_⟩
  subst h
  exact hlt b rfl
set_option maxHeartbeats 4000000 in
theorem clone_ret {w : World} {A : Option Addr} {cap len : Nat} {l : List Int} (S : Sl w A cap l) (hl : l.length = len) (hm : len ≤ 1099511627776) :
    Calls Tryd.prog 23 #[.slice A len cap] w (Gives l w) := by
  have hB := S.bytes
  rcases S.2.2.2 with ⟨rfl, rfl, rfl⟩ | ⟨p, rfl, _⟩
  · obtain rfl : len = 0 := hl.symm
    have he := nil_eq
    go_enter Tryd.func23, Tryd.ntmps23
    go_wp2_with (first | go_skip)
    go_ret
    exact ⟨none, 0, rfl, Sl.nil w, Below.refl _ _, fun b off sp h => by cases h⟩
  · have he := some_eq p len cap
    subst hl
    go_enter Tryd.func23, Tryd.ntmps23
    go_wp2_with (first | go_skip | (refine build_none rfl rfl ?_; intro w1 c1 o1 k1 s1; have S1 := S.below k1) | (refine wpList_append_sl rfl (.tmp 5) (.tmp 6) 22 rfl w.heap.size 5 Tryd.underlying22 zero_u8 _ 0 [] rfl o1 (some p) _ cap l rfl rfl S1 (by omega) s1 ?_; intro v2 w2 o2 g2))
    go_ret
    have o3 : w2.ownsRow w.heap.size 5 1 v2 l.length (Byt.bv l) := by simpa using o2
    exact New.gives ⟨_, rfl, o3, below_grown k1 s1 g2 (fun q hq => (o1.lt q hq).1)⟩ hB
set_option maxRecDepth 100000 in
set_option maxHeartbeats 8000000 in
theorem concat2_ret (g : Nat) (A0 : Option Addr) (k0 : Nat) (l0 : List Int) (A1 : Option Addr) (k1 : Nat) (l1 : List Int) (w : World)
    (c0 : w.cell? ⟨g, 0, none⟩ = some (.slice A0 l0.length k0)) (c1 : w.cell? ⟨g, 1, none⟩ = some (.slice A1 l1.length k1))
    (S0 : Sl w A0 k0 l0) (S1 : Sl w A1 k1 l1) (hn : l0.length + l1.length ≤ 1000000000) (cap : Nat) :
    Calls Tryd.prog 18 #[.slice (some ⟨g, 0, none⟩) 2 cap] w (Gives (l0 ++ l1) w) := by
  have hB : ∀ x ∈ l0 ++ l1, Byt.B x := fun x hx => (List.mem_append.1 hx).elim (S0.bytes x) (S1.bytes x)
  have cg : ∀ W, Calls Tryd.prog 27 #[.slice none 0 0, .int .i64 ((l0.length : Int) + l1.length)] W fun e w' => ∃ v, e = .returned v ∧ w'.ownsRow W.heap.size 5 1 v 0 (Byt.bv []) ∧ Below W.heap.size W w' := fun W => by
    have := StG.grow_ret (l0.length + l1.length) (by omega) W
    simpa using this
  go_enter Tryd.func18, Tryd.ntmps18
  go_wp2_with (first | go_skip)
  refine wp_loop_rounds 3 ?_
  rw [rounds_succ]
  go_wp2_with (first | go_skip)
  rw [rounds_succ]
  go_wp2_with (first | go_skip)
  rw [rounds_succ]
  go_wp2_with (first | go_skip)
  refine (cg _).mono ?_
  rintro _ w1 ⟨v1, rfl, own1, b1⟩
  have z0 := b1.cell (block_lt_of_cell c0) |>.trans c0
  have z1 := b1.cell (block_lt_of_cell c1) |>.trans c1
  have T0 := S0.below b1
  have T1 := S1.below b1
  clear cg
  go_wp2_with (first | go_skip)
  refine wp_loop_rounds 3 ?_
  rw [rounds_succ]
  go_wp2_with (first | go_skip | (refine wpList_append_sl rfl (.tmp 31) (.tmp 32) 22 rfl w.heap.size 5 Tryd.underlying22 zero_u8 _ _ [] rfl own1 A0 _ k0 l0 rfl rfl T0 (by omega) b1.size ?_; intro v2 w2 own2 g2))
  have b2 := below_grown b1 b1.size g2 (fun q hq => (own1.lt q hq).1)
  clear z0
  have z1' := b2.cell (block_lt_of_cell c1) |>.trans c1
  have U1 := S1.below b2
  clear z1 T0 T1 g2 own1
  rw [rounds_succ]
  go_wp2_with (first | go_skip | (refine wpList_append_sl rfl (.tmp 31) (.tmp 32) 22 rfl w.heap.size 5 Tryd.underlying22 zero_u8 _ _ ([] ++ l0) rfl own2 A1 _ k1 l1 rfl rfl U1 (by omega) b2.size ?_; intro v3 w3 own3 g3))
  have b3 := below_grown b2 b2.size g3 (fun q hq => (own2.lt q hq).1)
  clear z1' U1 g3 own2
  rw [rounds_succ]
  go_wp2_with (first | go_skip)
  go_ret
  refine New.gives ⟨_, rfl, ?_, b3⟩ hB
  have e : ([] ++ l0) ++ l1 = l0 ++ l1 := by simp
  rw [e] at own3
  have hl : 0 + l0.length + l1.length = (l0 ++ l1).length := by simp
  rw [← hl]
  exact own3
end Go.Proofs.YthdpipllighegaaDoor.LogD
