/- What the document's num of package state returns: a contract. -/
import Derived.Test.YtnjdkjkihbgkaaaGreatStRJ2
import Derived.Test.YtnjdkjkihbgkaaaGreatOpenSJ3
namespace Go.Proofs.YtnjdkjkihbgkaaaGreat.StQ
set_option maxRecDepth 100000
open Go Go.RowKit Byt EncM EncC Rise RowS StM StN StW

set_option maxHeartbeats 1000000 in
set_option maxRecDepth 100000 in
theorem num_ret (n : Int) (w : World) : Calls Tryz.prog 47 #[.int .i64 n] w (Byt.New (numI n) w) := by
  have c0 := RefE.num (u64 n) (u64_lt n)
  have e : ((u64 n : Nat) : Int) = IntKind.u64.wrap n := by rw [IntKind.wrap_u64]; unfold u64; omega
  rw [e] at c0
  have HN := aside (show numI n = numL (u64 n) from rfl)
  obtain ⟨m, hm⟩ : ∃ m, numL (u64 n) = m := ⟨_, rfl⟩
  rw [hm] at HN c0
  obtain ⟨z, hz⟩ : ∃ z, IntKind.u64.wrap n = z := ⟨_, rfl⟩
  rw [hz] at c0
  clear e hm
  go_enter Tryz.func47, Tryz.ntmps47
  go_wp2_with fail
  refine (c0 _).mono ?_
  rintro _ w1 ⟨v, rfl, own, k⟩
  go_wp2_with fail
  go_ret
  rw [HN.out]
  exact ⟨v, rfl, own, k⟩
/-- A struct's box lies in another block than a row of bytes, by what the cells hold. -/
theorem box_row {α : Type} {E : Enc α} {w w' : World} {base g n : Nat} {v : Value} {acc : List Int} {x : α} {s : ByteArray} (h : RowB.Box E w g x) (own : w.ownsRow base 5 1 v n (bv acc)) (hn : 0 < acc.length) (hg : w.grownBy w' v.ownBlock) (hs : (E.enc x)[0]? = some (.string s) := by rfl) : RowB.Box E w' g x := by
  rcases own.2 with ⟨rfl, h0⟩ | ⟨q, cap, cur, rfl, hb, hq, h1, h2, h3, h4⟩
  · have := own.1
    rw [bv_length, h0] at this
    omega
  · refine h.kept hg (fun e => ?_)
    subst e
    obtain ⟨t, ht⟩ := h
    rw [ht] at hq
    injection hq with hq
    injection hq with hq _
    have : (bv acc)[0]? = some (.string s) := by
      rw [← h4, ← hq, List.getElem?_take, if_pos (by have := own.1; rw [bv_length] at this; omega)]
      exact hs
    cases acc with
    | nil => simp at hn
    | cons a r => simp [bv] at this
/-- A row of one's own from a place on is one's own from an earlier place on. -/
theorem owns_lower {w : World} {b c n : Nat} {e : TypeId} {v : Value} {l : List Value} (h : w.ownsRow b e 1 v n l) (hc : c ≤ b) : w.ownsRow c e 1 v n l := by
  refine ⟨h.1, ?_⟩
  rcases h.2 with h | ⟨q, cap, cur, hv, hb, h⟩
  · exact Or.inl h
  · exact Or.inr ⟨q, cap, cur, hv, Nat.le_trans hc hb, h⟩
/-- What may be put in bytes here. -/
structure Short (s : St) : Prop where
  fit : Fits s
  len : Len 1000 s
  c : ∀ x ∈ s.c, x.key.size ≤ 1000
  r : ∀ x ∈ s.r, x.key.size ≤ 1000 ∧ x.elem.size ≤ 1000
  p : ∀ x ∈ s.p, x.key.size ≤ 1000 ∧ x.elem.size ≤ 1000
theorem numI_B (n : Int) : ∀ x ∈ numI n, B x := numL_range _
theorem reg_cells {w : World} {g : Nat} {c : RegM.Rg} (h : RowB.Box RegW.E w g c) : w.cell? ⟨g, 0, none⟩ = some (.string c.key) ∧ w.cell? ⟨g, 1, none⟩ = some (.string c.elem) ∧ w.cell? ⟨g, 2, none⟩ = some (.int .i64 c.gen) ∧ w.cell? ⟨g, 3, none⟩ = some (.int .i64 c.node) ∧ w.cell? ⟨g, 4, none⟩ = some (.int .i64 c.seq) :=
  ⟨h.cell (j := 0) rfl, h.cell (j := 1) rfl, h.cell (j := 2) rfl, h.cell (j := 3) rfl, h.cell (j := 4) rfl⟩
theorem len_ten {n : Nat} (h : n ≤ 1000) : (numL n).length ≤ 10 := numL_ten (by omega)
theorem text_B (s : ByteArray) : ∀ x ∈ textL (bytesL s), B x := EncT.textL_B (bytesL_B s)
theorem num_B (n : Nat) : ∀ x ∈ numL n, B x := numL_range n
theorem fold_num (n : Int) (h : StN.I64 n) (w : World) : Calls Tryz.prog 49 #[.int .u64 (foldI n)] w (Byt.New (numL (foldN n)) w) := by
  have := RefE.num (foldN n) (foldN_lt h) w
  rwa [foldN_is] at this
theorem len_num (n : Nat) (hn : n ≤ 1000) (w : World) : Calls Tryz.prog 47 #[.int .i64 n] w (Byt.New (numL n) w) := by
  have := num_ret (n : Int) w
  unfold numI at this
  rwa [u64_nat (by omega) (by omega), Int.toNat_natCast] at this
set_option maxRecDepth 100000 in
set_option maxHeartbeats 32000000 in
theorem put_ret (v : Sv) (w : World) (S : In w v) (hs : Short v.s) : Calls Tryz.prog 14 #[.agg (sc v)] w (Byt.New (putS v.s) w) := by
  have k0 := below_alloc w (.cells (sc v) 26)
  have R0 : Cel.Box SE (w.alloc (.cells (sc v) 26)) w.heap.size v := Cel.Box.new w v _
  have S0 := S.below k0
  obtain ⟨W0, hW0⟩ : ∃ W, w.alloc (.cells (sc v) 26) = W := ⟨_, rfl⟩
  rw [hW0] at R0 S0 k0
  have c0 := (box_cells R0).1
  have hl0 := hs.len.c
  have cc := fun W => len_num v.s.c.length hl0 W
  go_enter Tryz.func14, Tryz.ntmps14
  go_wp2_with (first | go_skip)
  refine (cc _).mono ?_
  rintro _ w0 ⟨v0, rfl, own0, h0⟩
  have O0 := aside own0
  have a0 : 0 < (numL v.s.c.length).length ∧ (numL v.s.c.length).length ≤ 10 := ⟨numL_pos _, numL_ten (by omega)⟩
  clear own0 c0 cc hW0
  go_wp2_with (first | go_skip)
  obtain ⟨pre1, hpre1⟩ : ∃ l, numL v.s.c.length = l := ⟨_, rfl⟩
  rw [hpre1] at O0 a0
  have HP1 := aside hpre1
  clear hpre1
  have hl1 := hs.len.c
  go_loopw [3, 4] (fun o i wr => ∃ (j : Nat) (acc : List Int), j ≤ v.s.c.length ∧ i = .int .i64 j ∧ Hid (acc = pre1 ++ (v.s.c.take j).flatMap encC) ∧ (0 < acc.length ∧ acc.length ≤ 10 + j * 3000) ∧ Hid (wr.ownsRow W0.heap.size 5 1 o acc.length (bv acc)) ∧ Below W0.heap.size W0 wr) (fun _ i _ => v.s.c.length - (intOf i).toNat)
  case atStart => exact ⟨0, pre1, Nat.zero_le _, rfl, aside (by simp), by have := a0; omega, O0, h0⟩
  case round =>
    clear O0 h0 a0
    obtain ⟨j, acc, hj, rfl, HA, ha, HO, kb⟩ := hrel
    have d1 := (box_cells (R0.below kb)).1
    by_cases hlt : j < v.s.c.length
    · obtain ⟨g, off, hA, hbw, hr⟩ := CtrW.plain S0.c (by omega)
      obtain ⟨x, hx⟩ : ∃ x, v.s.c[j]? = some x := ⟨_, List.getElem?_eq_getElem hlt⟩
      have hxm := List.mem_of_getElem? hx
      have re := hr j x hx
      have HF := aside (flat_next encC hx)
      have hsx := hs.c x hxm
      have hfx := hs.fit.c x hxm
      have p0 : (j : Int) < v.s.c.length := by omega
      have m0 : ((j : Int)).toNat = j := by omega
      rw [hA] at d1
      clear hr hx hxm
      have c0 := (box_cells (R0.below kb)).1
      have e0 := (CtrW.cells (range_below re kb)).1
      have e1 := (CtrW.cells (range_below re kb)).2
      rw [hA] at c0
      have ct := fun W => RefE.text x.key (by omega) W
      have cf := fun W => RefE.fold x.n hfx.2 W
      have cn := fun W => fold_num x.n hfx.2 W
      go_wp2_with (first | go_skip)
      refine (ct _).mono ?_
      rintro _ w1 ⟨v1, rfl, own1, k1⟩
      have O1 := aside (owns_below HO.out k1)
      have b1 := kb.trans (k1.mono kb.size)
      obtain ⟨A1, c1, rfl, S1⟩ := Sl.own own1 (text_B x.key)
      clear own1 k1 kb HO c0 e0 e1
      have c0 := ((box_cells (R0.below b1)).1.trans (by rw [hA]))
      have e0 := (CtrW.cells (range_below re b1)).1
      have e1 := (CtrW.cells (range_below re b1)).2
      go_wp2_with (first | go_skip | (refine wpList_append_sl rfl (.tmp 20) (.tmp 27) 37 rfl W0.heap.size 5 Tryz.underlying37 zero_u8 _ _ acc rfl O1.out _ _ _ (textL (bytesL x.key)) rfl rfl S1 (by have := ha; have := textL_short hsx; omega) b1.size ?_; intro v2 w2 own2 g2; have b2 : Below W0.heap.size W0 w2 := below_grown b1 b1.size g2 (fun q hq => (O1.out.lt q hq).1); have O2 : Hid (w2.ownsRow W0.heap.size 5 1 v2 (acc ++ textL (bytesL x.key)).length (bv (acc ++ textL (bytesL x.key)))) := aside (by rw [List.length_append]; exact own2); have a2 : 0 < (acc ++ textL (bytesL x.key)).length ∧ (acc ++ textL (bytesL x.key)).length ≤ 10 + j * 3000 + 1010 := (by have := ha; have := textL_short hsx; rw [List.length_append]; omega); clear own2 g2 b1 O1 S1 c0 e0 e1; have c0 := ((box_cells (R0.below b2)).1.trans (by rw [hA])); have e0 := (CtrW.cells (range_below re b2)).1; have e1 := (CtrW.cells (range_below re b2)).2))
      refine (cf _).mono ?_
      rintro _ w' ⟨rfl, rfl⟩
      go_wp2_with (first | go_skip)
      refine (cn _).mono ?_
      rintro _ w3 ⟨v3, rfl, own3, k3⟩
      have O3 := aside (owns_below O2.out k3)
      have b3 := b2.trans (k3.mono b2.size)
      obtain ⟨A3, c3, rfl, S3⟩ := Sl.own own3 (num_B _)
      clear own3 k3 b2 O2 c0 e0 e1
      have c0 := ((box_cells (R0.below b3)).1.trans (by rw [hA]))
      have e0 := (CtrW.cells (range_below re b3)).1
      have e1 := (CtrW.cells (range_below re b3)).2
      go_wp2_with (first | go_skip | (refine wpList_append_sl rfl (.tmp 29) (.tmp 37) 37 rfl W0.heap.size 5 Tryz.underlying37 zero_u8 _ _ (acc ++ textL (bytesL x.key)) rfl O3.out _ _ _ (numL (foldN x.n)) rfl rfl S3 (by have := a2; have := numL_ten (foldN_lt hfx.2); omega) b3.size ?_; intro v4 w4 own4 g4; have b4 : Below W0.heap.size W0 w4 := below_grown b3 b3.size g4 (fun q hq => (O3.out.lt q hq).1); have O4 : Hid (w4.ownsRow W0.heap.size 5 1 v4 ((acc ++ textL (bytesL x.key)) ++ numL (foldN x.n)).length (bv ((acc ++ textL (bytesL x.key)) ++ numL (foldN x.n)))) := aside (by rw [List.length_append]; exact own4); have a4 : 0 < ((acc ++ textL (bytesL x.key)) ++ numL (foldN x.n)).length ∧ ((acc ++ textL (bytesL x.key)) ++ numL (foldN x.n)).length ≤ 10 + j * 3000 + 1020 := (by have := a2; have := numL_ten (foldN_lt hfx.2); rw [List.length_append]; omega); clear own4 g4 b3 O3 S3))
      try rw [hA]
      go_roundw
      case rel => exact ⟨j + 1, ((acc ++ textL (bytesL x.key)) ++ numL (foldN x.n)), by omega, by go_num, aside (by rw [HF.out, HA.out]; simp [encC, List.append_assoc]), by have := a4; omega, O4, b4⟩
      case measure => simp [intOf]; omega
    · have e : j = v.s.c.length := by omega
      have HE1 : Hid (acc = pre1 ++ v.s.c.flatMap encC) := aside (by rw [HA.out, e, List.take_length])
      have he1 : 0 < acc.length ∧ acc.length ≤ 3000010 := by omega
      clear HA ha e
      obtain ⟨acc1, hacc⟩ : ∃ l, acc = l := ⟨_, rfl⟩
      rw [hacc] at HE1 he1 HO
      clear hacc
      have c0 := (box_cells (R0.below kb)).2.1
      have hl0 := hs.len.r
      have cc := fun W => len_num v.s.r.length hl0 W
      go_wp2_with (first | go_skip)
      refine (cc _).mono ?_
      rintro _ w201 ⟨v201, rfl, own201, k201⟩
      have O201 := aside (owns_below HO.out k201)
      have b201 := kb.trans (k201.mono kb.size)
      obtain ⟨A201, c201, rfl, S201⟩ := Sl.own own201 (num_B _)
      clear own201 k201 kb HO
      go_wp2_with (first | go_skip | (refine wpList_append_sl rfl (.tmp 39) (.tmp 43) 37 rfl W0.heap.size 5 Tryz.underlying37 zero_u8 _ _ acc1 rfl O201.out _ _ _ (numL v.s.r.length) rfl rfl S201 (by have := he1; have := len_ten hs.len.r; omega) b201.size ?_; intro v202 w202 own202 g202; have b202 : Below W0.heap.size W0 w202 := below_grown b201 b201.size g202 (fun q hq => (O201.out.lt q hq).1); have O202 : Hid (w202.ownsRow W0.heap.size 5 1 v202 (acc1 ++ numL v.s.r.length).length (bv (acc1 ++ numL v.s.r.length))) := aside (by rw [List.length_append]; exact own202); have a202 : 0 < (acc1 ++ numL v.s.r.length).length ∧ (acc1 ++ numL v.s.r.length).length ≤ 3000020 := (by have := he1; have := len_ten hs.len.r; rw [List.length_append]; omega); clear own202 g202 b201 O201 S201))
      clear c0 cc
      obtain ⟨pre2, hpre2⟩ : ∃ l, (acc1 ++ numL v.s.r.length) = l := ⟨_, rfl⟩
      rw [hpre2] at O202 a202
      have HP2 := aside hpre2
      clear hpre2
      have hl2 := hs.len.r
      go_loopw [3, 5] (fun o i wr => ∃ (j : Nat) (acc : List Int), j ≤ v.s.r.length ∧ i = .int .i64 j ∧ Hid (acc = pre2 ++ (v.s.r.take j).flatMap encR) ∧ (0 < acc.length ∧ acc.length ≤ 3000020 + j * 3000) ∧ Hid (wr.ownsRow W0.heap.size 5 1 o acc.length (bv acc)) ∧ Below W0.heap.size W0 wr) (fun _ i _ => v.s.r.length - (intOf i).toNat)
      case atStart => exact ⟨0, pre2, Nat.zero_le _, rfl, aside (by simp), by have := a202; omega, O202, b202⟩
      case round =>
        clear O202 b202 a202
        obtain ⟨j, acc, hj, rfl, HA, ha, HO, kb⟩ := hrel
        have d2 := (box_cells (R0.below kb)).2.1
        by_cases hlt : j < v.s.r.length
        · obtain ⟨g, off, hA, hbw, hr⟩ := RegW.plain S0.r (by omega)
          obtain ⟨x, hx⟩ : ∃ x, v.s.r[j]? = some x := ⟨_, List.getElem?_eq_getElem hlt⟩
          have hxm := List.mem_of_getElem? hx
          have re := hr j x hx
          have HF := aside (flat_next encR hx)
          have hsx := hs.r x hxm
          have hfx := hs.fit.r x hxm
          have p0 : (j : Int) < v.s.r.length := by omega
          have m0 : ((j : Int)).toNat = j := by omega
          rw [hA] at d2
          clear hr hx hxm
          have re0 := range_below re kb
          have q0 := fun W => RefE.text x.key (by omega) W
          have q1 := fun W => RefE.text x.elem (by omega) W
          have q2 := fun W => num_ret x.gen W
          have q3 := fun W => num_ret x.node W
          have q4 := fun W => num_ret x.seq W
          go_wp2_with (first | go_skip | (refine wpList_load_at RegW.E rfl _ rfl _ _ rfl x re0 ?_) | (refine RowB.wpList_store_new RegW.E rfl _ _ rfl _ _ _ rfl x _ rfl rfl rfl rfl ?_; intro w1 bx kx gx sx; have O1 := aside (owns_below HO.out kx); have b1 := kb.trans (kx.mono kb.size); obtain ⟨e0, e1, e2, e3, e4⟩ := reg_cells bx; clear kx gx sx HO))
          refine (q0 _).mono ?_
          rintro _ w2 ⟨v2, rfl, own2, k2⟩
          have O2 := aside (owns_below O1.out k2)
          have b2 := b1.trans (k2.mono b1.size)
          have bx_2 := bx.below k2
          obtain ⟨A2, c2, rfl, S2⟩ := Sl.own own2 (text_B _)
          clear own2 k2 b1 O1 e0 e1 e2 e3 e4 bx
          obtain ⟨e0, e1, e2, e3, e4⟩ := reg_cells bx_2
          go_wp2_with (first | go_skip | (refine wpList_append_sl rfl (.tmp 57) (.tmp 60) 37 rfl W0.heap.size 5 Tryz.underlying37 zero_u8 _ _ acc rfl O2.out _ _ _ (textL (bytesL x.key)) rfl rfl S2 (by have := ha; have := textL_short hsx.1; omega) b2.size ?_; intro v3 w3 own3 g3; have b3 : Below W0.heap.size W0 w3 := below_grown b2 b2.size g3 (fun q hq => (O2.out.lt q hq).1); have O3 : Hid (w3.ownsRow W0.heap.size 5 1 v3 (acc ++ textL (bytesL x.key)).length (bv (acc ++ textL (bytesL x.key)))) := aside (by rw [List.length_append]; exact own3); have a3 : 0 < (acc ++ textL (bytesL x.key)).length ∧ (acc ++ textL (bytesL x.key)).length ≤ 3000020 + j * 3000 + 1010 := (by have := ha; have := textL_short hsx.1; rw [List.length_append]; omega); have bx_3 := box_row bx_2 O2.out (by have := ha; omega) g3; clear own3 g3 b2 O2 S2 e0 e1 e2 e3 e4 bx_2; obtain ⟨e0, e1, e2, e3, e4⟩ := reg_cells bx_3))
          refine (q1 _).mono ?_
          rintro _ w4 ⟨v4, rfl, own4, k4⟩
          have O4 := aside (owns_below O3.out k4)
          have b4 := b3.trans (k4.mono b3.size)
          have bx_4 := bx_3.below k4
          obtain ⟨A4, c4, rfl, S4⟩ := Sl.own own4 (text_B _)
          clear own4 k4 b3 O3 e0 e1 e2 e3 e4 bx_3
          obtain ⟨e0, e1, e2, e3, e4⟩ := reg_cells bx_4
          go_wp2_with (first | go_skip | (refine wpList_append_sl rfl (.tmp 62) (.tmp 65) 37 rfl W0.heap.size 5 Tryz.underlying37 zero_u8 _ _ (acc ++ textL (bytesL x.key)) rfl O4.out _ _ _ (textL (bytesL x.elem)) rfl rfl S4 (by have := a3; have := textL_short hsx.2; omega) b4.size ?_; intro v5 w5 own5 g5; have b5 : Below W0.heap.size W0 w5 := below_grown b4 b4.size g5 (fun q hq => (O4.out.lt q hq).1); have O5 : Hid (w5.ownsRow W0.heap.size 5 1 v5 ((acc ++ textL (bytesL x.key)) ++ textL (bytesL x.elem)).length (bv ((acc ++ textL (bytesL x.key)) ++ textL (bytesL x.elem)))) := aside (by rw [List.length_append]; exact own5); have a5 : 0 < ((acc ++ textL (bytesL x.key)) ++ textL (bytesL x.elem)).length ∧ ((acc ++ textL (bytesL x.key)) ++ textL (bytesL x.elem)).length ≤ 3000020 + j * 3000 + 2020 := (by have := a3; have := textL_short hsx.2; rw [List.length_append]; omega); have bx_5 := box_row bx_4 O4.out (by have := a3; omega) g5; clear own5 g5 b4 O4 S4 e0 e1 e2 e3 e4 bx_4; obtain ⟨e0, e1, e2, e3, e4⟩ := reg_cells bx_5))
          refine (q2 _).mono ?_
          rintro _ w6 ⟨v6, rfl, own6, k6⟩
          have O6 := aside (owns_below O5.out k6)
          have b6 := b5.trans (k6.mono b5.size)
          have bx_6 := bx_5.below k6
          obtain ⟨A6, c6, rfl, S6⟩ := Sl.own own6 (numI_B _)
          clear own6 k6 b5 O5 e0 e1 e2 e3 e4 bx_5
          obtain ⟨e0, e1, e2, e3, e4⟩ := reg_cells bx_6
          go_wp2_with (first | go_skip | (refine wpList_append_sl rfl (.tmp 67) (.tmp 70) 37 rfl W0.heap.size 5 Tryz.underlying37 zero_u8 _ _ ((acc ++ textL (bytesL x.key)) ++ textL (bytesL x.elem)) rfl O6.out _ _ _ (numI x.gen) rfl rfl S6 (by have := a5; have := numI_short x.gen; omega) b6.size ?_; intro v7 w7 own7 g7; have b7 : Below W0.heap.size W0 w7 := below_grown b6 b6.size g7 (fun q hq => (O6.out.lt q hq).1); have O7 : Hid (w7.ownsRow W0.heap.size 5 1 v7 (((acc ++ textL (bytesL x.key)) ++ textL (bytesL x.elem)) ++ numI x.gen).length (bv (((acc ++ textL (bytesL x.key)) ++ textL (bytesL x.elem)) ++ numI x.gen))) := aside (by rw [List.length_append]; exact own7); have a7 : 0 < (((acc ++ textL (bytesL x.key)) ++ textL (bytesL x.elem)) ++ numI x.gen).length ∧ (((acc ++ textL (bytesL x.key)) ++ textL (bytesL x.elem)) ++ numI x.gen).length ≤ 3000020 + j * 3000 + 2030 := (by have := a5; have := numI_short x.gen; rw [List.length_append]; omega); have bx_7 := box_row bx_6 O6.out (by have := a5; omega) g7; clear own7 g7 b6 O6 S6 e0 e1 e2 e3 e4 bx_6; obtain ⟨e0, e1, e2, e3, e4⟩ := reg_cells bx_7))
          refine (q3 _).mono ?_
          rintro _ w8 ⟨v8, rfl, own8, k8⟩
          have O8 := aside (owns_below O7.out k8)
          have b8 := b7.trans (k8.mono b7.size)
          have bx_8 := bx_7.below k8
          obtain ⟨A8, c8, rfl, S8⟩ := Sl.own own8 (numI_B _)
          clear own8 k8 b7 O7 e0 e1 e2 e3 e4 bx_7
          obtain ⟨e0, e1, e2, e3, e4⟩ := reg_cells bx_8
          go_wp2_with (first | go_skip | (refine wpList_append_sl rfl (.tmp 72) (.tmp 76) 37 rfl W0.heap.size 5 Tryz.underlying37 zero_u8 _ _ (((acc ++ textL (bytesL x.key)) ++ textL (bytesL x.elem)) ++ numI x.gen) rfl O8.out _ _ _ (numI x.node) rfl rfl S8 (by have := a7; have := numI_short x.node; omega) b8.size ?_; intro v9 w9 own9 g9; have b9 : Below W0.heap.size W0 w9 := below_grown b8 b8.size g9 (fun q hq => (O8.out.lt q hq).1); have O9 : Hid (w9.ownsRow W0.heap.size 5 1 v9 ((((acc ++ textL (bytesL x.key)) ++ textL (bytesL x.elem)) ++ numI x.gen) ++ numI x.node).length (bv ((((acc ++ textL (bytesL x.key)) ++ textL (bytesL x.elem)) ++ numI x.gen) ++ numI x.node))) := aside (by rw [List.length_append]; exact own9); have a9 : 0 < ((((acc ++ textL (bytesL x.key)) ++ textL (bytesL x.elem)) ++ numI x.gen) ++ numI x.node).length ∧ ((((acc ++ textL (bytesL x.key)) ++ textL (bytesL x.elem)) ++ numI x.gen) ++ numI x.node).length ≤ 3000020 + j * 3000 + 2040 := (by have := a7; have := numI_short x.node; rw [List.length_append]; omega); have bx_9 := box_row bx_8 O8.out (by have := a7; omega) g9; clear own9 g9 b8 O8 S8 e0 e1 e2 e3 e4 bx_8; obtain ⟨e0, e1, e2, e3, e4⟩ := reg_cells bx_9))
          refine (q4 _).mono ?_
          rintro _ w10 ⟨v10, rfl, own10, k10⟩
          have O10 := aside (owns_below O9.out k10)
          have b10 := b9.trans (k10.mono b9.size)
          have bx_10 := bx_9.below k10
          obtain ⟨A10, c10, rfl, S10⟩ := Sl.own own10 (numI_B _)
          clear own10 k10 b9 O9 e0 e1 e2 e3 e4 bx_9
          obtain ⟨e0, e1, e2, e3, e4⟩ := reg_cells bx_10
          go_wp2_with (first | go_skip | (refine wpList_append_sl rfl (.tmp 78) (.tmp 82) 37 rfl W0.heap.size 5 Tryz.underlying37 zero_u8 _ _ ((((acc ++ textL (bytesL x.key)) ++ textL (bytesL x.elem)) ++ numI x.gen) ++ numI x.node) rfl O10.out _ _ _ (numI x.seq) rfl rfl S10 (by have := a9; have := numI_short x.seq; omega) b10.size ?_; intro v11 w11 own11 g11; have b11 : Below W0.heap.size W0 w11 := below_grown b10 b10.size g11 (fun q hq => (O10.out.lt q hq).1); have O11 : Hid (w11.ownsRow W0.heap.size 5 1 v11 (((((acc ++ textL (bytesL x.key)) ++ textL (bytesL x.elem)) ++ numI x.gen) ++ numI x.node) ++ numI x.seq).length (bv (((((acc ++ textL (bytesL x.key)) ++ textL (bytesL x.elem)) ++ numI x.gen) ++ numI x.node) ++ numI x.seq))) := aside (by rw [List.length_append]; exact own11); have a11 : 0 < (((((acc ++ textL (bytesL x.key)) ++ textL (bytesL x.elem)) ++ numI x.gen) ++ numI x.node) ++ numI x.seq).length ∧ (((((acc ++ textL (bytesL x.key)) ++ textL (bytesL x.elem)) ++ numI x.gen) ++ numI x.node) ++ numI x.seq).length ≤ 3000020 + j * 3000 + 2050 := (by have := a9; have := numI_short x.seq; rw [List.length_append]; omega); clear own11 g11 b10 O10 S10))
          try rw [hA]
          go_roundw
          case rel => exact ⟨j + 1, (((((acc ++ textL (bytesL x.key)) ++ textL (bytesL x.elem)) ++ numI x.gen) ++ numI x.node) ++ numI x.seq), by omega, by go_num, aside (by rw [HF.out, HA.out]; simp [encR, List.append_assoc]), by have := a11; omega, O11, b11⟩
          case measure => simp [intOf]; omega
        · have e : j = v.s.r.length := by omega
          have HE2 : Hid (acc = pre2 ++ v.s.r.flatMap encR) := aside (by rw [HA.out, e, List.take_length])
          have he2 : 0 < acc.length ∧ acc.length ≤ 6000020 := by omega
          clear HA ha e
          obtain ⟨acc2, hacc⟩ : ∃ l, acc = l := ⟨_, rfl⟩
          rw [hacc] at HE2 he2 HO
          clear hacc
          have c0 := (box_cells (R0.below kb)).2.2
          have hl0 := hs.len.p
          have cc := fun W => len_num v.s.p.length hl0 W
          go_wp2_with (first | go_skip)
          refine (cc _).mono ?_
          rintro _ w301 ⟨v301, rfl, own301, k301⟩
          have O301 := aside (owns_below HO.out k301)
          have b301 := kb.trans (k301.mono kb.size)
          obtain ⟨A301, c301, rfl, S301⟩ := Sl.own own301 (num_B _)
          clear own301 k301 kb HO
          go_wp2_with (first | go_skip | (refine wpList_append_sl rfl (.tmp 84) (.tmp 88) 37 rfl W0.heap.size 5 Tryz.underlying37 zero_u8 _ _ acc2 rfl O301.out _ _ _ (numL v.s.p.length) rfl rfl S301 (by have := he2; have := len_ten hs.len.p; omega) b301.size ?_; intro v302 w302 own302 g302; have b302 : Below W0.heap.size W0 w302 := below_grown b301 b301.size g302 (fun q hq => (O301.out.lt q hq).1); have O302 : Hid (w302.ownsRow W0.heap.size 5 1 v302 (acc2 ++ numL v.s.p.length).length (bv (acc2 ++ numL v.s.p.length))) := aside (by rw [List.length_append]; exact own302); have a302 : 0 < (acc2 ++ numL v.s.p.length).length ∧ (acc2 ++ numL v.s.p.length).length ≤ 6000030 := (by have := he2; have := len_ten hs.len.p; rw [List.length_append]; omega); clear own302 g302 b301 O301 S301))
          clear c0 cc
          obtain ⟨pre3, hpre3⟩ : ∃ l, (acc2 ++ numL v.s.p.length) = l := ⟨_, rfl⟩
          rw [hpre3] at O302 a302
          have HP3 := aside hpre3
          clear hpre3
          have hl3 := hs.len.p
          go_loopw [3, 7] (fun o i wr => ∃ (j : Nat) (acc : List Int), j ≤ v.s.p.length ∧ i = .int .i64 j ∧ Hid (acc = pre3 ++ (v.s.p.take j).flatMap encP) ∧ (0 < acc.length ∧ acc.length ≤ 6000030 + j * 3000) ∧ Hid (wr.ownsRow W0.heap.size 5 1 o acc.length (bv acc)) ∧ Below W0.heap.size W0 wr) (fun _ i _ => v.s.p.length - (intOf i).toNat)
          case atStart => exact ⟨0, pre3, Nat.zero_le _, rfl, aside (by simp), by have := a302; omega, O302, b302⟩
          case round =>
            clear O302 b302 a302
            obtain ⟨j, acc, hj, rfl, HA, ha, HO, kb⟩ := hrel
            have d3 := (box_cells (R0.below kb)).2.2
            by_cases hlt : j < v.s.p.length
            · obtain ⟨g, off, hA, hbw, hr⟩ := PairW.plain S0.p (by omega)
              obtain ⟨x, hx⟩ : ∃ x, v.s.p[j]? = some x := ⟨_, List.getElem?_eq_getElem hlt⟩
              have hxm := List.mem_of_getElem? hx
              have re := hr j x hx
              have HF := aside (flat_next encP hx)
              have hsx := hs.p x hxm
              have hfx := hs.fit.p x hxm
              have p0 : (j : Int) < v.s.p.length := by omega
              have m0 : ((j : Int)).toNat = j := by omega
              rw [hA] at d3
              clear hr hx hxm
              have re0 := range_below re kb
              have q0 := fun W => RefE.text x.key (by omega) W
              have q1 := fun W => RefE.text x.elem (by omega) W
              have q2 := fun W => num_ret x.node W
              have q3 := fun W => num_ret x.seq W
              go_wp2_with (first | go_skip | (refine wpList_load_at PairW.E rfl _ rfl _ _ rfl x re0 ?_) | (refine RowB.wpList_store_new PairW.E rfl _ _ rfl _ _ _ rfl x _ rfl rfl rfl rfl ?_; intro w1 bx kx gx sx; have O1 := aside (owns_below HO.out kx); have b1 := kb.trans (kx.mono kb.size); obtain ⟨e0, e1, e2, e3⟩ := PairW.box_cells bx; clear kx gx sx HO))
              refine (q0 _).mono ?_
              rintro _ w2 ⟨v2, rfl, own2, k2⟩
              have O2 := aside (owns_below O1.out k2)
              have b2 := b1.trans (k2.mono b1.size)
              have bx_2 := bx.below k2
              obtain ⟨A2, c2, rfl, S2⟩ := Sl.own own2 (text_B _)
              clear own2 k2 b1 O1 e0 e1 e2 e3 bx
              obtain ⟨e0, e1, e2, e3⟩ := PairW.box_cells bx_2
              go_wp2_with (first | go_skip | (refine wpList_append_sl rfl (.tmp 102) (.tmp 105) 37 rfl W0.heap.size 5 Tryz.underlying37 zero_u8 _ _ acc rfl O2.out _ _ _ (textL (bytesL x.key)) rfl rfl S2 (by have := ha; have := textL_short hsx.1; omega) b2.size ?_; intro v3 w3 own3 g3; have b3 : Below W0.heap.size W0 w3 := below_grown b2 b2.size g3 (fun q hq => (O2.out.lt q hq).1); have O3 : Hid (w3.ownsRow W0.heap.size 5 1 v3 (acc ++ textL (bytesL x.key)).length (bv (acc ++ textL (bytesL x.key)))) := aside (by rw [List.length_append]; exact own3); have a3 : 0 < (acc ++ textL (bytesL x.key)).length ∧ (acc ++ textL (bytesL x.key)).length ≤ 6000030 + j * 3000 + 1010 := (by have := ha; have := textL_short hsx.1; rw [List.length_append]; omega); have bx_3 := box_row bx_2 O2.out (by have := ha; omega) g3; clear own3 g3 b2 O2 S2 e0 e1 e2 e3 bx_2; obtain ⟨e0, e1, e2, e3⟩ := PairW.box_cells bx_3))
              refine (q1 _).mono ?_
              rintro _ w4 ⟨v4, rfl, own4, k4⟩
              have O4 := aside (owns_below O3.out k4)
              have b4 := b3.trans (k4.mono b3.size)
              have bx_4 := bx_3.below k4
              obtain ⟨A4, c4, rfl, S4⟩ := Sl.own own4 (text_B _)
              clear own4 k4 b3 O3 e0 e1 e2 e3 bx_3
              obtain ⟨e0, e1, e2, e3⟩ := PairW.box_cells bx_4
              go_wp2_with (first | go_skip | (refine wpList_append_sl rfl (.tmp 107) (.tmp 110) 37 rfl W0.heap.size 5 Tryz.underlying37 zero_u8 _ _ (acc ++ textL (bytesL x.key)) rfl O4.out _ _ _ (textL (bytesL x.elem)) rfl rfl S4 (by have := a3; have := textL_short hsx.2; omega) b4.size ?_; intro v5 w5 own5 g5; have b5 : Below W0.heap.size W0 w5 := below_grown b4 b4.size g5 (fun q hq => (O4.out.lt q hq).1); have O5 : Hid (w5.ownsRow W0.heap.size 5 1 v5 ((acc ++ textL (bytesL x.key)) ++ textL (bytesL x.elem)).length (bv ((acc ++ textL (bytesL x.key)) ++ textL (bytesL x.elem)))) := aside (by rw [List.length_append]; exact own5); have a5 : 0 < ((acc ++ textL (bytesL x.key)) ++ textL (bytesL x.elem)).length ∧ ((acc ++ textL (bytesL x.key)) ++ textL (bytesL x.elem)).length ≤ 6000030 + j * 3000 + 2020 := (by have := a3; have := textL_short hsx.2; rw [List.length_append]; omega); have bx_5 := box_row bx_4 O4.out (by have := a3; omega) g5; clear own5 g5 b4 O4 S4 e0 e1 e2 e3 bx_4; obtain ⟨e0, e1, e2, e3⟩ := PairW.box_cells bx_5))
              refine (q2 _).mono ?_
              rintro _ w6 ⟨v6, rfl, own6, k6⟩
              have O6 := aside (owns_below O5.out k6)
              have b6 := b5.trans (k6.mono b5.size)
              have bx_6 := bx_5.below k6
              obtain ⟨A6, c6, rfl, S6⟩ := Sl.own own6 (numI_B _)
              clear own6 k6 b5 O5 e0 e1 e2 e3 bx_5
              obtain ⟨e0, e1, e2, e3⟩ := PairW.box_cells bx_6
              go_wp2_with (first | go_skip | (refine wpList_append_sl rfl (.tmp 112) (.tmp 116) 37 rfl W0.heap.size 5 Tryz.underlying37 zero_u8 _ _ ((acc ++ textL (bytesL x.key)) ++ textL (bytesL x.elem)) rfl O6.out _ _ _ (numI x.node) rfl rfl S6 (by have := a5; have := numI_short x.node; omega) b6.size ?_; intro v7 w7 own7 g7; have b7 : Below W0.heap.size W0 w7 := below_grown b6 b6.size g7 (fun q hq => (O6.out.lt q hq).1); have O7 : Hid (w7.ownsRow W0.heap.size 5 1 v7 (((acc ++ textL (bytesL x.key)) ++ textL (bytesL x.elem)) ++ numI x.node).length (bv (((acc ++ textL (bytesL x.key)) ++ textL (bytesL x.elem)) ++ numI x.node))) := aside (by rw [List.length_append]; exact own7); have a7 : 0 < (((acc ++ textL (bytesL x.key)) ++ textL (bytesL x.elem)) ++ numI x.node).length ∧ (((acc ++ textL (bytesL x.key)) ++ textL (bytesL x.elem)) ++ numI x.node).length ≤ 6000030 + j * 3000 + 2030 := (by have := a5; have := numI_short x.node; rw [List.length_append]; omega); have bx_7 := box_row bx_6 O6.out (by have := a5; omega) g7; clear own7 g7 b6 O6 S6 e0 e1 e2 e3 bx_6; obtain ⟨e0, e1, e2, e3⟩ := PairW.box_cells bx_7))
              refine (q3 _).mono ?_
              rintro _ w8 ⟨v8, rfl, own8, k8⟩
              have O8 := aside (owns_below O7.out k8)
              have b8 := b7.trans (k8.mono b7.size)
              have bx_8 := bx_7.below k8
              obtain ⟨A8, c8, rfl, S8⟩ := Sl.own own8 (numI_B _)
              clear own8 k8 b7 O7 e0 e1 e2 e3 bx_7
              obtain ⟨e0, e1, e2, e3⟩ := PairW.box_cells bx_8
              go_wp2_with (first | go_skip | (refine wpList_append_sl rfl (.tmp 118) (.tmp 122) 37 rfl W0.heap.size 5 Tryz.underlying37 zero_u8 _ _ (((acc ++ textL (bytesL x.key)) ++ textL (bytesL x.elem)) ++ numI x.node) rfl O8.out _ _ _ (numI x.seq) rfl rfl S8 (by have := a7; have := numI_short x.seq; omega) b8.size ?_; intro v9 w9 own9 g9; have b9 : Below W0.heap.size W0 w9 := below_grown b8 b8.size g9 (fun q hq => (O8.out.lt q hq).1); have O9 : Hid (w9.ownsRow W0.heap.size 5 1 v9 ((((acc ++ textL (bytesL x.key)) ++ textL (bytesL x.elem)) ++ numI x.node) ++ numI x.seq).length (bv ((((acc ++ textL (bytesL x.key)) ++ textL (bytesL x.elem)) ++ numI x.node) ++ numI x.seq))) := aside (by rw [List.length_append]; exact own9); have a9 : 0 < ((((acc ++ textL (bytesL x.key)) ++ textL (bytesL x.elem)) ++ numI x.node) ++ numI x.seq).length ∧ ((((acc ++ textL (bytesL x.key)) ++ textL (bytesL x.elem)) ++ numI x.node) ++ numI x.seq).length ≤ 6000030 + j * 3000 + 2040 := (by have := a7; have := numI_short x.seq; rw [List.length_append]; omega); clear own9 g9 b8 O8 S8))
              try rw [hA]
              go_roundw
              case rel => exact ⟨j + 1, ((((acc ++ textL (bytesL x.key)) ++ textL (bytesL x.elem)) ++ numI x.node) ++ numI x.seq), by omega, by go_num, aside (by rw [HF.out, HA.out]; simp [encP, List.append_assoc]), by have := a9; omega, O9, b9⟩
              case measure => simp [intOf]; omega
            · have e : j = v.s.p.length := by omega
              have HE3 : Hid (acc = pre3 ++ v.s.p.flatMap encP) := aside (by rw [HA.out, e, List.take_length])
              have he3 : 0 < acc.length ∧ acc.length ≤ 9000030 := by omega
              clear HA ha e
              obtain ⟨acc3, hacc⟩ : ∃ l, acc = l := ⟨_, rfl⟩
              rw [hacc] at HE3 he3 HO
              clear hacc
              have HP : Hid (putS v.s = acc3) := aside (by rw [HE3.out, ← HP3.out, HE2.out, ← HP2.out, HE1.out, ← HP1.out]; simp [putS, allC, allR, allP, List.append_assoc])
              have own := HO.out
              go_wp2_with (first | go_skip)
              go_ret
              rw [HP.out]
              exact ⟨_, rfl, owns_lower own (by have := k0.size; omega), k0.trans (kb.mono k0.size)⟩
end Go.Proofs.YtnjdkjkihbgkaaaGreat.StQ
