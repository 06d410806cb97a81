/- What the document's Put of package commit returns: a contract. -/
import Derived.Test.YteojkfbnenfmkaaGreatDoorCmR
import Derived.Test.YteojkfbnenfmkaaGreatDoorRefEJ2
namespace Go.Proofs.YteojkfbnenfmkaaGreatDoor.CmP
set_option maxRecDepth 100000
open Go Go.RowKit Byt EncM EncC EncT IdM IdW OpsM OpsW CmM StW CmW CmR

/-- A row of one's own stays so, whatever is made besides. -/
theorem owns_on {w w' : World} {b n : Nat} {v : Value} {l : List Value} (h : w.ownsRow b 5 1 v n l) (k : Below w.heap.size w w') : w'.ownsRow b 5 1 v n l := owns_below h k
theorem num_B (n : Nat) : ∀ x ∈ numL n, B x := numL_range n
theorem one_next {l : List Int} {k : Nat} (h : k < l.length) : l.take (k + 1) = l.take k ++ [l.getD k 0] := by
  rw [List.take_succ_eq_append_getElem h, List.getD_eq_getElem?_getD, List.getElem?_eq_getElem h]
  rfl
theorem ids_next {l : List Idn} {j : Nat} (h : j < l.length) : flatL (l.take (j + 1)) = flatL (l.take j) ++ (l.getD j nought).val := by
  rw [List.take_succ_eq_append_getElem h, flatL_append, List.getD_eq_getElem?_getD, List.getElem?_eq_getElem h]
  simp [flatL]
/-- A commit in bytes, in a row of one's own; none. -/
def Yes (c : Com) (w : World) (e : Ending) (w' : World) : Prop :=
  ∃ v, e = .returned (.tuple #[v, .int .i64 0]) ∧ w'.ownsRow w.heap.size 5 1 v (putK c).length (bv (putK c)) ∧ Below w.heap.size w w'
def No (w : World) (e : Ending) (w' : World) : Prop := e = .returned (.tuple #[.slice none 0 0, .int .i64 1]) ∧ Below w.heap.size w w'
theorem owns_lower {w : World} {b c n : Nat} {e : TypeId} {v : Value} {l : List Value} (h : w.ownsRow b e 1 v n l) (hc : c ≤ b) : w.ownsRow c e 1 v n l := by
  refine ⟨h.1, ?_⟩
  rcases h.2 with h | ⟨q, cap, cur, hv, hb, h⟩
  · exact Or.inl h
  · exact Or.inr ⟨q, cap, cur, hv, Nat.le_trans hc hb, h⟩
set_option maxRecDepth 100000 in
set_option maxHeartbeats 16000000 in
theorem put_no (v : Cv) (w : World) (S : In w v) (ho : Okay v.c) (hm : mayK v.c = false) : Calls Tryz.prog 54 #[.agg (cc v)] w (No w) := by
  have k0 := StW.below_alloc w (.cells (cc v) 29)
  have R0 : Cel.Box CE (w.alloc (.cells (cc v) 29)) w.heap.size v := Cel.Box.new w v _
  have S0 := S.below k0
  have cm := fun W T => CmR.may_ret v W T ho
  simp only [hm] at cm
  clear S hm
  go_enter Tryz.func54, Tryz.ntmps54
  go_wp2_with (first | go_skip | (refine Cel.wpList_load_box CE rfl _ rfl _ rfl v R0 ?_))
  refine (cm _ S0).mono ?_
  rintro e w1 ⟨rfl, k1⟩
  obtain ⟨W0, hW0⟩ : ∃ W, w.alloc (.cells (cc v) 29) = W := ⟨_, rfl⟩
  rw [hW0] at R0 S0 k0 k1
  clear hW0
  have R := R0.below k1
  have S1 := S0.below k1
  have b1 : Below W0.heap.size W0 w1 := k1
  clear cm
  go_wp2_with (first | go_skip)
  go_ret2
  exact ⟨rfl, k0.trans (k1.mono k0.size)⟩
set_option maxRecDepth 100000 in
set_option maxHeartbeats 16000000 in
theorem put_yes (v : Cv) (w : World) (S : In w v) (ho : Okay v.c) (hm : mayK v.c = true) : Calls Tryz.prog 54 #[.agg (cc v)] w (Yes v.c w) := by
  have k0 := StW.below_alloc w (.cells (cc v) 29)
  have R0 : Cel.Box CE (w.alloc (.cells (cc v) 29)) w.heap.size v := Cel.Box.new w v _
  have S0 := S.below k0
  have cm := fun W T => CmR.may_ret v W T ho
  simp only [hm] at cm
  have hn := node_may hm
  have hs := seq_may hm
  have hg := lineB_iff.1 (mayK_iff.1 hm).1
  have hI : I64 v.c.node := by unfold I64; omega
  have hf := foldI_bd hI
  have HH : Hid (headL v.c = ((numL (foldI v.c.node).toNat ++ numL v.c.seq.toNat) ++ numL v.c.gen.toNat) ++ numL v.c.ps.length) := aside (by unfold headL; simp only [List.append_assoc])
  have HO : Hid (opL v.c = if v.c.node = -1 then [] else putL v.c.op) := aside rfl
  have hop := aside (fun hq => op_may hm hq)
  have hok := aside ho
  have q0 := fun W => RefE.fold v.c.node hI W
  have q1 := fun W => OpsS.num_of hf.1 hf.2 W
  have q2 := fun W => OpsS.num_of (k := v.c.seq) hs.1 (by omega) W
  have q3 := fun W => OpsS.num_of (k := v.c.gen) (by omega) (by omega) W
  have q4 := fun W => OpsS.num_of (k := (v.c.ps.length : Int)) (by omega) (by omega) W
  rw [Int.toNat_natCast] at q4
  have u1 : IntKind.u64.wrap v.c.seq = v.c.seq := by rw [IntKind.wrap_u64]; omega
  have u2 : IntKind.u64.wrap v.c.gen = v.c.gen := by rw [IntKind.wrap_u64]; omega
  have u3 : IntKind.u64.wrap (v.c.ps.length : Int) = v.c.ps.length := by rw [IntKind.wrap_u64]; omega
  have t0 : 0 < (numL (foldI v.c.node).toNat).length ∧ (numL (foldI v.c.node).toNat).length ≤ 10 := ⟨numL_pos _, numL_ten (by omega)⟩
  have t1 : (numL v.c.seq.toNat).length ≤ 10 := numL_ten (by omega)
  have t2 : (numL v.c.gen.toNat).length ≤ 10 := numL_ten (by omega)
  have t3 : (numL v.c.ps.length).length ≤ 10 := numL_ten (by omega)
  have hps : v.c.ps.length ≤ 8 := hg.2.2.1
  have hnn := aside hn
  clear S hm hn hs hg hI hf ho
  go_enter Tryz.func54, Tryz.ntmps54
  go_wp2_with (first | go_skip | (refine Cel.wpList_load_box CE rfl _ rfl _ rfl v R0 ?_))
  refine (cm _ S0).mono ?_
  rintro e w1 ⟨rfl, k1⟩
  obtain ⟨W0, hW0⟩ : ∃ W, w.alloc (.cells (cc v) 29) = W := ⟨_, rfl⟩
  rw [hW0] at R0 S0 k0 k1
  clear hW0
  have R := R0.below k1
  have S1 := S0.below k1
  have b1 : Below W0.heap.size W0 w1 := k1
  clear cm
  clear R S1 k1
  have d0 := cell_node (R0.below b1)
  have d1 := cell_seq (R0.below b1)
  have d2 := cell_gen (R0.below b1)
  have d3 := cell_ps (R0.below b1)
  go_wp2_with (first | go_skip)
  refine (q0 _).mono ?_
  rintro _ w' ⟨rfl, rfl⟩
  go_wp2_with (first | go_skip)
  refine (q1 _).mono ?_
  rintro _ w2 ⟨v2, rfl, own2, k2⟩
  have b2 := b1.trans (k2.mono b1.size)
  have O2 := aside (owns_lower own2 b1.size)
  clear own2 k2 b1 d0 d1 d2 d3
  have d0 := cell_node (R0.below b2)
  have d1 := cell_seq (R0.below b2)
  have d2 := cell_gen (R0.below b2)
  have d3 := cell_ps (R0.below b2)
  have a2 := t0
  clear q0 q1
  go_wp2_with (first | go_skip)
  refine (q2 _).mono ?_
  rintro _ w3 ⟨v3, rfl, own3, k3⟩
  have b3 := b2.trans (k3.mono b2.size)
  have O3 := aside (owns_on O2.out k3)
  obtain ⟨A3, c3, rfl, S3⟩ := Sl.own own3 (num_B _)
  clear own3 k3 b2 O2 d0 d1 d2 d3
  have d0 := cell_node (R0.below b3)
  have d1 := cell_seq (R0.below b3)
  have d2 := cell_gen (R0.below b3)
  have d3 := cell_ps (R0.below b3)
  go_wp2_with (first | go_skip | (refine wpList_append_sl rfl (.tmp 19) (.tmp 24) 58 rfl W0.heap.size 5 Tryz.underlying58 zero_u8 _ _ (numL (foldI v.c.node).toNat) rfl O3.out _ _ _ (numL v.c.seq.toNat) rfl rfl S3 (by have := a2; have := t1; omega) b3.size ?_; intro v4 w4 own4 g4; have b4 : Below W0.heap.size W0 w4 := below_grown b3 b3.size g4 (fun q hq => (O3.out.lt q hq).1); have O4 : Hid (w4.ownsRow W0.heap.size 5 1 v4 ((numL (foldI v.c.node).toNat) ++ numL v.c.seq.toNat).length (bv ((numL (foldI v.c.node).toNat) ++ numL v.c.seq.toNat))) := aside (by rw [List.length_append]; exact own4); have a4 : 0 < ((numL (foldI v.c.node).toNat) ++ numL v.c.seq.toNat).length ∧ ((numL (foldI v.c.node).toNat) ++ numL v.c.seq.toNat).length ≤ 20 := (by have := a2; have := t1; rw [List.length_append]; omega); clear own4 g4 b3 O3 S3 d0 d1 d2 d3; have d0 := cell_node (R0.below b4); have d1 := cell_seq (R0.below b4); have d2 := cell_gen (R0.below b4); have d3 := cell_ps (R0.below b4)))
  refine (q3 _).mono ?_
  rintro _ w5 ⟨v5, rfl, own5, k5⟩
  have b5 := b4.trans (k5.mono b4.size)
  have O5 := aside (owns_on O4.out k5)
  obtain ⟨A5, c5, rfl, S5⟩ := Sl.own own5 (num_B _)
  clear own5 k5 b4 O4 d0 d1 d2 d3
  have d0 := cell_node (R0.below b5)
  have d1 := cell_seq (R0.below b5)
  have d2 := cell_gen (R0.below b5)
  have d3 := cell_ps (R0.below b5)
  go_wp2_with (first | go_skip | (refine wpList_append_sl rfl (.tmp 26) (.tmp 30) 58 rfl W0.heap.size 5 Tryz.underlying58 zero_u8 _ _ ((numL (foldI v.c.node).toNat) ++ numL v.c.seq.toNat) rfl O5.out _ _ _ (numL v.c.gen.toNat) rfl rfl S5 (by have := a4; have := t2; omega) b5.size ?_; intro v6 w6 own6 g6; have b6 : Below W0.heap.size W0 w6 := below_grown b5 b5.size g6 (fun q hq => (O5.out.lt q hq).1); have O6 : Hid (w6.ownsRow W0.heap.size 5 1 v6 (((numL (foldI v.c.node).toNat) ++ numL v.c.seq.toNat) ++ numL v.c.gen.toNat).length (bv (((numL (foldI v.c.node).toNat) ++ numL v.c.seq.toNat) ++ numL v.c.gen.toNat))) := aside (by rw [List.length_append]; exact own6); have a6 : 0 < (((numL (foldI v.c.node).toNat) ++ numL v.c.seq.toNat) ++ numL v.c.gen.toNat).length ∧ (((numL (foldI v.c.node).toNat) ++ numL v.c.seq.toNat) ++ numL v.c.gen.toNat).length ≤ 30 := (by have := a4; have := t2; rw [List.length_append]; omega); clear own6 g6 b5 O5 S5 d0 d1 d2 d3; have d0 := cell_node (R0.below b6); have d1 := cell_seq (R0.below b6); have d2 := cell_gen (R0.below b6); have d3 := cell_ps (R0.below b6)))
  refine (q4 _).mono ?_
  rintro _ w7 ⟨v7, rfl, own7, k7⟩
  have b7 := b6.trans (k7.mono b6.size)
  have O7 := aside (owns_on O6.out k7)
  obtain ⟨A7, c7, rfl, S7⟩ := Sl.own own7 (num_B _)
  clear own7 k7 b6 O6 d0 d1 d2 d3
  have d0 := cell_node (R0.below b7)
  have d1 := cell_seq (R0.below b7)
  have d2 := cell_gen (R0.below b7)
  have d3 := cell_ps (R0.below b7)
  go_wp2_with (first | go_skip | (refine wpList_append_sl rfl (.tmp 32) (.tmp 37) 58 rfl W0.heap.size 5 Tryz.underlying58 zero_u8 _ _ (((numL (foldI v.c.node).toNat) ++ numL v.c.seq.toNat) ++ numL v.c.gen.toNat) rfl O7.out _ _ _ (numL v.c.ps.length) rfl rfl S7 (by have := a6; have := t3; omega) b7.size ?_; intro v8 w8 own8 g8; have b8 : Below W0.heap.size W0 w8 := below_grown b7 b7.size g8 (fun q hq => (O7.out.lt q hq).1); have O8 : Hid (w8.ownsRow W0.heap.size 5 1 v8 ((((numL (foldI v.c.node).toNat) ++ numL v.c.seq.toNat) ++ numL v.c.gen.toNat) ++ numL v.c.ps.length).length (bv ((((numL (foldI v.c.node).toNat) ++ numL v.c.seq.toNat) ++ numL v.c.gen.toNat) ++ numL v.c.ps.length))) := aside (by rw [List.length_append]; exact own8); have a8 : 0 < ((((numL (foldI v.c.node).toNat) ++ numL v.c.seq.toNat) ++ numL v.c.gen.toNat) ++ numL v.c.ps.length).length ∧ ((((numL (foldI v.c.node).toNat) ++ numL v.c.seq.toNat) ++ numL v.c.gen.toNat) ++ numL v.c.ps.length).length ≤ 40 := (by have := a6; have := t3; rw [List.length_append]; omega); clear own8 g8 b7 O7 S7 d0 d1 d2 d3; have d0 := cell_node (R0.below b8); have d1 := cell_seq (R0.below b8); have d2 := cell_gen (R0.below b8); have d3 := cell_ps (R0.below b8)))
  clear q2 q3 q4 u1 u2 u3 t0 t1 t2 t3 d0 d1 d2 d3
  obtain ⟨pre, hpre⟩ : ∃ l, ((((numL (foldI v.c.node).toNat) ++ numL v.c.seq.toNat) ++ numL v.c.gen.toNat) ++ numL v.c.ps.length) = l := ⟨_, rfl⟩
  rw [hpre] at O8 a8 HH
  clear hpre
  go_loopw [5, 6] (fun o i wr => ∃ (j : Nat) (acc : List Int), j ≤ v.c.ps.length ∧ i = .int .i64 j ∧ Hid (acc = pre ++ flatL (v.c.ps.take j)) ∧ (0 < acc.length ∧ acc.length ≤ 40 + j * 32) ∧ Hid (wr.ownsRow W0.heap.size 5 1 o acc.length (bv acc)) ∧ Below W0.heap.size W0 wr) (fun _ i _ => v.c.ps.length - (intOf i).toNat)
  case atStart => exact ⟨0, pre, Nat.zero_le _, rfl, aside (by simp [flatL]), by have := a8; omega, O8, b8⟩
  case round =>
    clear O8 b8 a8
    obtain ⟨j, acc, hj, rfl, HA, ha, HB, kb⟩ := hrel
    have d3 := cell_ps (R0.below kb)
    by_cases hlt : j < v.c.ps.length
    · obtain ⟨g, off, hA, hbw, hr⟩ := SlI.plain S0 (by omega)
      have re := hr j hlt
      have HF := aside (ids_next hlt)
      obtain ⟨x, hx⟩ : ∃ x, v.c.ps.getD j nought = x := ⟨_, rfl⟩
      rw [hx] at re HF
      have lx := Idn_len x
      have bx := aside (idB x)
      clear hr hx
      have p0 : (j : Int) < v.c.ps.length := by omega
      have m0 : ((j : Int)).toNat = j := by omega
      go_wp2_with (first | go_skip)
      go_loopw [5, 7] (fun o i wr => ∃ (k : Nat) (ac : List Int), k ≤ 32 ∧ i = .int .i64 k ∧ Hid (ac = acc ++ x.val.take k) ∧ (0 < ac.length ∧ ac.length ≤ 40 + j * 32 + k) ∧ Hid (wr.ownsRow W0.heap.size 5 1 o ac.length (bv ac)) ∧ Below W0.heap.size W0 wr) (fun _ i _ => 32 - (intOf i).toNat)
      case atStart => exact ⟨0, acc, Nat.zero_le _, rfl, aside (by simp), by have := ha; omega, HB, kb⟩
      case round =>
        clear HB kb d3
        obtain ⟨k, ac, hk, rfl, HC, hc, HB, kb⟩ := hrel
        by_cases hkt : k < 32
        · have d3 := (cell_ps (R0.below kb)).trans (by rw [hA])
          have cx := (range_below re kb) k _ (bv_at x.val (i := k) (by omega))
          have HG := aside (one_next (l := x.val) (k := k) (by omega))
          have by0 := bx.out (x.val.getD k 0) (by rw [List.getD_eq_getElem?_getD, List.getElem?_eq_getElem (by omega : k < x.val.length)]; exact List.getElem_mem _)
          obtain ⟨y, hy⟩ : ∃ y, x.val.getD k 0 = y := ⟨_, rfl⟩
          rw [hy] at cx HG by0
          clear hy
          have q0 : (k : Int) < 32 := by omega
          have n0 : ((k : Int)).toNat = k := by omega
          have cx2 : World.cell? _ ⟨g, off + j * 32 + k, none⟩ = _ := cx
          go_wp2_with (first | go_skip | (refine wpList_append_sl rfl (.tmp 50) (.tmp 58) 58 rfl W0.heap.size 5 Tryz.underlying58 zero_u8 _ ac.length ac rfl (HB.out.alloc _) _ 1 1 [y] rfl rfl (Sl.new1 _ _ _ ?c1) (by have := hc; have := hps; omega) (by have := kb.size; simp; omega) ?_; (case c1 => exact by0); intro v1 w1 own1 g1; have hb1 : Below W0.heap.size W0 w1 := below_grown (kb.alloc kb.size _) (by have := kb.size; simp; omega) g1 (fun k hk => (HB.out.lt k hk).1); have HO1 := aside own1; clear own1 g1))
          try rw [hA]
          go_roundw
          case rel => exact ⟨k + 1, ac ++ [y], by omega, by go_num, aside (by rw [HG.out, HC.out, List.append_assoc]), by have := hc; simp; omega, by simpa using HO1, hb1⟩
          case measure => simp [intOf]; omega
        · have e : k = 32 := by omega
          have HD : Hid (ac = pre ++ flatL (v.c.ps.take (j + 1))) := aside (by rw [HC.out, HA.out, HF.out, e, List.take_of_length_le (show x.val.length ≤ 32 by omega), List.append_assoc])
          have hc2 : 0 < ac.length ∧ ac.length ≤ 40 + (j + 1) * 32 := by omega
          clear e hc HC
          go_wp2_with (first | go_skip)
          try rw [hA]
          go_roundw
          case rel => exact ⟨j + 1, ac, by omega, by go_num, HD, hc2, HB, kb⟩
          case measure => simp [intOf]; omega
    · have e : j = v.c.ps.length := by omega
      have HE : Hid (acc = headL v.c ++ flatL v.c.ps) := aside (by rw [HA.out, e, List.take_length, HH.out])
      have hl2 : 0 < acc.length ∧ acc.length ≤ 400 := by omega
      clear HA HH ha e
      have d0 := cell_node (R0.below kb)
      by_cases hq : v.c.node = -1
      · have HP : Hid (putK v.c = acc) := aside (by unfold putK; rw [HO.out, if_pos hq, HE.out, List.append_nil])
        rw [hq] at d0
        clear HO HE hq
        go_wp2_with (first | go_skip)
        go_ret2
        rw [← HP.out] at HB
        exact ⟨_, rfl, owns_lower HB.out k0.size, k0.trans (kb.mono k0.size)⟩
      · have HP : Hid (putK v.c = acc ++ putL v.c.op) := aside (by unfold putK; rw [HO.out, if_neg hq, HE.out, List.append_assoc])
        have hge : 0 ≤ v.c.node := by have := hnn.out; omega
        have cp := fun W => OpsS.put_yes v.c.op W hok.out.fit.op hok.out.key hok.out.elem (hop.out hq)
        have hlo := putL_len (hop.out hq)
        have RK := R0.below kb
        clear HO HE hq
        go_wp2_with (first | go_skip | (refine wpList_load_kop rfl _ rfl _ rfl v RK ?_))
        refine (cp _).mono ?_
        rintro _ w9 ⟨v9, rfl, own9, k9⟩
        have O9 := aside (owns_on HB.out k9)
        have b9 := kb.trans (k9.mono kb.size)
        obtain ⟨A9, c9, rfl, S9⟩ := Sl.own own9 (putL_B _)
        clear own9 k9 kb HB RK d0 d3
        go_wp2_with (first | go_skip | (refine wpList_append_sl rfl (.tmp 70) (.tmp 71) 58 rfl W0.heap.size 5 Tryz.underlying58 zero_u8 _ _ acc rfl O9.out _ _ _ (putL v.c.op) rfl rfl S9 (by have := hl2; have := hlo; omega) b9.size ?_; intro v1 w1 own1 g1; have hb1 : Below W0.heap.size W0 w1 := below_grown b9 b9.size g1 (fun q hq => (O9.out.lt q hq).1); have HO1 : Hid (w1.ownsRow W0.heap.size 5 1 v1 (acc ++ putL v.c.op).length (bv (acc ++ putL v.c.op))) := aside (by rw [List.length_append]; exact own1); clear own1 g1))
        go_ret2
        rw [← HP.out] at HO1
        exact ⟨_, rfl, owns_lower HO1.out k0.size, k0.trans (hb1.mono k0.size)⟩
end Go.Proofs.YteojkfbnenfmkaaGreatDoor.CmP
