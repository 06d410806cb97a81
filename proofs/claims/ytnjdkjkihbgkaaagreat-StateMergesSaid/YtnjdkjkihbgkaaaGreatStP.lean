/- What package state's Put, and what it calls, return: contracts. No condition but sizes. -/
import Derived.Test.YtnjdkjkihbgkaaaGreatStQ
import Derived.Test.YtnjdkjkihbgkaaaGreatStGJ2
import Derived.Test.YtnjdkjkihbgkaaaGreatEncMJ6
namespace Go.Proofs.YtnjdkjkihbgkaaaGreat.StP
set_option maxRecDepth 100000
open Go Go.RowKit Byt EncM EncC Rise RowS StM StN StW StQ

set_option maxHeartbeats 1000000 in
set_option maxRecDepth 100000 in
theorem num_is (n : Int) (w : World) : Calls Tryz.prog 84 #[.int .i64 n] w (Byt.New (numI n) w) := by
  have c0 := EncC.num (u64 n) (u64_lt n)
  have e : ((u64 n : Nat) : Int) = IntKind.u64.wrap n := by rw [IntKind.wrap_u64]; unfold u64; omega
  rw [e] at c0
  have HN := aside (show numI n = numL (u64 n) from rfl)
  obtain ⟨m, hm⟩ : ∃ m, numL (u64 n) = m := ⟨_, rfl⟩
  rw [hm] at HN c0
  obtain ⟨z, hz⟩ : ∃ z, IntKind.u64.wrap n = z := ⟨_, rfl⟩
  rw [hz] at c0
  clear e hm
  go_enter Tryz.func84, Tryz.ntmps84
  go_wp2_with fail
  refine (c0 _).mono ?_
  rintro _ w1 ⟨v, rfl, own, k⟩
  go_wp2_with fail
  go_ret
  rw [HN.out]
  exact ⟨v, rfl, own, k⟩
theorem fold_is (n : Int) (h : StN.I64 n) (w : World) : Calls Tryz.prog 86 #[.int .u64 (foldI n)] w (Byt.New (numL (foldN n)) w) := by
  have := EncC.num (foldN n) (foldN_lt h) w
  rwa [foldN_is] at this
theorem len_is (n : Nat) (hn : n ≤ 1000) (w : World) : Calls Tryz.prog 84 #[.int .i64 n] w (Byt.New (numL n) w) := by
  have := num_is (n : Int) w
  unfold numI at this
  rwa [u64_nat (by omega) (by omega), Int.toNat_natCast] at this
set_option maxRecDepth 100000 in
set_option maxHeartbeats 4000000 in
theorem texts_ret (k e : ByteArray) (hk : k.size ≤ 1000) (he : e.size ≤ 1000) (w : World) : Calls Tryz.prog 88 #[.string k, .string e] w (Byt.New (textL (bytesL k) ++ textL (bytesL e)) w) := by
  have c0 := fun W => EncC.text k (by omega) W
  have c1 := fun W => EncC.text e (by omega) W
  have l0 := textL_short hk
  have l1 := textL_short he
  go_enter Tryz.func88, Tryz.ntmps88
  go_wp2_with (first | go_skip)
  refine (c0 _).mono ?_
  rintro _ w1 ⟨v1, rfl, own1, b1⟩
  go_wp2_with (first | go_skip)
  refine (c1 _).mono ?_
  rintro _ w2 ⟨v2, rfl, own2, k2⟩
  have O1 := owns_below own1 k2
  have b2 := b1.trans (k2.mono b1.size)
  obtain ⟨A2, C2, rfl, S2⟩ := Sl.own own2 (text_B e)
  clear own1 own2 b1 k2
  go_wp2_with (first | go_skip | (refine wpList_append_sl rfl (.tmp 6) (.tmp 8) 37 rfl w.heap.size 5 Tryz.underlying37 zero_u8 _ _ (textL (bytesL k)) rfl O1 _ _ _ (textL (bytesL e)) rfl rfl S2 (by omega) b2.size ?_; intro v3 w3 own3 g3))
  have b3 := below_grown b2 b2.size g3 (fun q hq => (O1.lt q hq).1)
  go_ret
  exact ⟨_, rfl, by rw [List.length_append]; exact own3, b3⟩
set_option maxRecDepth 100000 in
set_option maxHeartbeats 4000000 in
theorem whose_ret (e : Ev) (w : World) : Calls Tryz.prog 89 #[.agg (ec e)] w (Byt.New (numI e.node ++ numI e.seq) w) := by
  have kb := below_alloc w (.cells (ec e) 30)
  have R0 : Cel.Box EE (w.alloc (.cells (ec e) 30)) w.heap.size e := Cel.Box.new w e _
  have hz : (w.alloc (.cells (ec e) 30)).heap.size = w.heap.size + 1 := by simp
  have c0 := fun W => num_is e.node W
  have c1 := fun W => num_is e.seq W
  have l0 := numI_short e.node
  have l1 := numI_short e.seq
  go_enter Tryz.func89, Tryz.ntmps89
  go_wp2_with fail
  refine GrowB.region (w.heap.size + 1) [(0, true), (1, true), (3, true), (4, true), (2, false), (5, false), (6, false), (7, true)] (by kernel_rfl) (by kernel_rfl) rfl (by kernel_rfl) (by intro c a d v w h; cases d <;> exact h) ?_
  change GrowB.Seq _ _ _ _ _ _ (w.alloc (.cells (ec e) 30)).drew
  have dr := below_drew1 (Below.refl (w.alloc (.cells (ec e) 30)).heap.size (w.alloc (.cells (ec e) 30)))
  have R1 := R0.below dr
  have b1 := kb.trans (dr.mono kb.size)
  have z1 : w.heap.size + 1 ≤ (w.alloc (.cells (ec e) 30)).drew.heap.size := by rw [← hz]; exact dr.size
  generalize (w.alloc (.cells (ec e) 30)).drew = w1 at R1 b1 z1 ⊢
  clear R0 kb hz dr
  have d0 : ∀ p : GrowB.UpTo (w.heap.size + 1) w1, p.u.cell? ⟨w.heap.size, 0, none⟩ = some (.int .i64 e.node) := fun p => (ev_cells (R1.block p.h (by omega))).1
  have d1 : ∀ p : GrowB.UpTo (w.heap.size + 1) w1, p.u.cell? ⟨w.heap.size, 1, none⟩ = some (.int .i64 e.seq) := fun p => (ev_cells (R1.block p.h (by omega))).2
  repeat (refine GrowB.reads_below rfl rfl ?_; go_big_quiet_step (fail); refine wpQuiet_nil ?_)
  clear d0 d1
  refine GrowB.acts rfl ?_
  go_wp2_with fail
  refine (c0 _).mono ?_
  rintro _ w2 ⟨v2, rfl, own2, k2⟩
  have b2 := b1.trans (k2.mono b1.size)
  have z2 := Nat.le_trans z1 k2.size
  have y2 := k2.size
  go_wp2_with fail
  refine ⟨k2.mono z1, ?_⟩
  clear R1 b1
  refine GrowB.acts rfl ?_
  go_wp2_with fail
  refine (c1 _).mono ?_
  rintro _ w3 ⟨v3, rfl, own3, k3⟩
  have O2 := owns_below own2 k3
  have b3 := b2.trans (k3.mono b2.size)
  have z3 := Nat.le_trans z2 k3.size
  have y3 := Nat.le_trans y2 k3.size
  go_wp2_with fail
  refine ⟨k3.mono z2, ?_⟩
  obtain ⟨A3, C3, rfl, S3⟩ := Sl.own own3 (numI_B _)
  clear own2 own3 k3 b2 k2
  refine GrowB.acts rfl ?_
  go_wp2_with (refine wpList_append_sl rfl (.tmp 5) (.tmp 8) 37 rfl w1.heap.size 5 Tryz.underlying37 zero_u8 _ _ (numI e.node) rfl O2 _ _ _ (numI e.seq) rfl rfl S3 (by omega) y3 ?_; intro v4 w4 own4 g4)
  have b4 := below_grown b3 b3.size g4 (fun q hq => by have := (O2.lt q hq).1; omega)
  refine ⟨below_grown (Below.refl _ _) z3 g4 (fun q hq => by have := (O2.lt q hq).1; omega), ?_⟩
  simp only [Act.put, List.setIfInBounds_toArray, List.set_cons_succ, List.set_cons_zero]
  repeat (refine GrowB.reads rfl rfl ?_; go_big_quiet_step (fail); refine wpQuiet_nil ?_)
  refine GrowB.ends ?_
  go_wp2_with fail
  go_ret
  exact ⟨_, rfl, by rw [List.length_append]; exact owns_lower own4 (by omega), b4⟩
theorem ctr_cells {w : World} {g : Nat} {c : CtrM.Cn} (h : RowB.Box CtrW.E w g c) : w.cell? ⟨g, 0, none⟩ = some (.string c.key) ∧ w.cell? ⟨g, 1, none⟩ = some (.int .i64 c.n) := ⟨h.cell (j := 0) rfl, h.cell (j := 1) rfl⟩
/-- An event's cells, where they lie in another struct. -/
theorem reg_ev {w : World} {g : Nat} {c : RegM.Rg} (h : RowB.Box RegW.E w g c) : w.rangeAt g 3 (EE.enc ⟨c.node, c.seq⟩) := fun j v hv => by
  match j, hv with
  | 0, hv => exact h.cell (j := 3) hv
  | 1, hv => exact h.cell (j := 4) hv
  | j + 2, hv => simp [EE] at hv
theorem pair_ev {w : World} {g : Nat} {c : PairM.Pr} (h : RowB.Box PairW.E w g c) : w.rangeAt g 2 (EE.enc ⟨c.node, c.seq⟩) := fun j v hv => by
  match j, hv with
  | 0, hv => exact h.cell (j := 2) hv
  | 1, hv => exact h.cell (j := 3) hv
  | j + 2, hv => simp [EE] at hv
theorem wpList_load_part {ops : Array Oper} {rest : List Oper} {o : Oper} {a : Act} {w : World} {Q : Exit → Act → World → Prop} (hgd : o.guard = none) (x : Operand) (ho : o.op = .load 30 x)
    (b off : Nat) (hx : a.eval x = .pointer (some ⟨b, off, none⟩)) (y : Ev) (hc : w.rangeAt b off (EE.enc y)) (h : wpList Tryz.prog ops Q rest (a.put o.dst (.agg (ec y))) w) : wpList Tryz.prog ops Q (o :: rest) a w :=
  wpList_load_mid hgd EE.T x ho b off hx (EE.enc y) _ hc EE.under EE.row (EE.size y) h
theorem texts_short {a b : ByteArray} (h : a.size ≤ 1000 ∧ b.size ≤ 1000) : (textL (bytesL a) ++ textL (bytesL b)).length ≤ 2020 := by
  have h1 := textL_short h.1
  have h2 := textL_short h.2
  rw [List.length_append]
  omega
theorem whose_short (m n : Int) : (numI m ++ numI n).length ≤ 20 := by
  have h1 := numI_short m
  have h2 := numI_short n
  rw [List.length_append]
  omega
set_option maxRecDepth 100000 in
set_option maxHeartbeats 16000000 in
theorem counts_ret (A : Option Addr) (cap : Nat) (l : List CtrM.Cn) (W0 : World) (S0 : SlR CtrW.E W0 A cap l) (hf : CtrW.Fits l) (hs : ∀ x ∈ l, x.key.size ≤ 1000) (hl : l.length ≤ 1000) :
    Calls Tryz.prog 44 #[.slice A l.length cap] W0 (Byt.New (numL l.length ++ allC l) W0) := by
  have cc := fun W => len_is l.length hl W
  go_enter Tryz.func44, Tryz.ntmps44
  go_wp2_with (first | go_skip)
  refine (cc _).mono ?_
  rintro _ w0 ⟨v0, rfl, own0, h0⟩
  have O0 := aside own0
  have a0 : 0 < (numL l.length).length ∧ (numL l.length).length ≤ 10 := ⟨numL_pos _, numL_ten (by omega)⟩
  clear own0 cc
  go_wp2_with (first | go_skip)
  obtain ⟨pre1, hpre1⟩ : ∃ l', numL l.length = l' := ⟨_, rfl⟩
  rw [hpre1] at O0 a0
  have HP1 := aside hpre1
  clear hpre1
  have hcap := S0.1
  have hmax : l.length ≤ 9223372036854775807 := by omega
  go_loopw [3, 11] (fun o i wr => ∃ (j : Nat) (acc : List Int), j ≤ l.length ∧ i = .int .i64 j ∧ Hid (acc = pre1 ++ (l.take j).flatMap encC) ∧ (0 < acc.length ∧ acc.length ≤ 10 + j * 3000) ∧ Hid (wr.ownsRow W0.heap.size 5 1 o acc.length (bv acc)) ∧ Below W0.heap.size W0 wr) (fun _ i _ => l.length - (intOf i).toNat)
  case atStart => exact ⟨0, pre1, Nat.zero_le _, rfl, aside (by simp), by have := a0; omega, O0, h0⟩
  case round =>
    clear O0 h0 a0
    obtain ⟨j, acc, hj, rfl, HA, ha, HO, kb⟩ := hrel
    by_cases hlt : j < l.length
    · obtain ⟨g, off, rfl, hbw, hr⟩ := CtrW.plain S0 (by omega)
      obtain ⟨x, hx⟩ : ∃ x, l[j]? = some x := ⟨_, List.getElem?_eq_getElem hlt⟩
      have hxm := List.mem_of_getElem? hx
      have re := hr j x hx
      have HF := aside (flat_next encC hx)
      have hsx := hs x hxm
      have hfx := hf x hxm
      have p0 : (j : Int) < l.length := by omega
      have m0 : ((j : Int)).toNat = j := by omega
      have re0 := range_below re kb
      clear hr hx hxm
      have q0 := fun W => EncC.text x.key (by omega) W
      have q1 := fun W => EncC.fold x.n hfx.2 W
      have q2 := fun W => fold_is x.n hfx.2 W
      go_wp2_with (first | go_skip | (refine wpList_load_at CtrW.E rfl _ rfl _ _ rfl x re0 ?_) | (refine RowB.wpList_store_new CtrW.E rfl _ _ rfl _ _ _ rfl x _ rfl rfl rfl rfl ?_; intro w1 bx kx gx sx; have O1 := aside (owns_below HO.out kx); have b1 := kb.trans (kx.mono kb.size); obtain ⟨e0, e1⟩ := ctr_cells bx; clear kx gx sx HO))
      refine (q0 _).mono ?_
      rintro _ w2 ⟨v2, rfl, own2, k2⟩
      have O2 := aside (owns_below O1.out k2)
      have b2 := b1.trans (k2.mono b1.size)
      have bx_2 := bx.below k2
      obtain ⟨A2, c2, rfl, S2⟩ := Sl.own own2 (text_B x.key)
      clear own2 k2 b1 O1 e0 e1 bx
      obtain ⟨e0, e1⟩ := ctr_cells bx_2
      go_wp2_with (first | go_skip | (refine wpList_append_sl rfl (.tmp 15) (.tmp 18) 37 rfl W0.heap.size 5 Tryz.underlying37 zero_u8 _ _ acc rfl O2.out _ _ _ (textL (bytesL x.key)) rfl rfl S2 (by have := ha; have := textL_short hsx; omega) b2.size ?_; intro v3 w3 own3 g3; have b3 : Below W0.heap.size W0 w3 := below_grown b2 b2.size g3 (fun q hq => (O2.out.lt q hq).1); have O3 : Hid (w3.ownsRow W0.heap.size 5 1 v3 (acc ++ textL (bytesL x.key)).length (bv (acc ++ textL (bytesL x.key)))) := aside (by rw [List.length_append]; exact own3); have a3 : 0 < (acc ++ textL (bytesL x.key)).length ∧ (acc ++ textL (bytesL x.key)).length ≤ 10 + j * 3000 + 1010 := (by have := ha; have := textL_short hsx; rw [List.length_append]; omega); have bx_3 := box_row bx_2 O2.out (by have := ha; omega) g3; clear own3 g3 b2 O2 S2 e0 e1 bx_2; obtain ⟨e0, e1⟩ := ctr_cells bx_3))
      refine (q1 _).mono ?_
      rintro _ w' ⟨rfl, rfl⟩
      go_wp2_with (first | go_skip)
      refine (q2 _).mono ?_
      rintro _ w4 ⟨v4, rfl, own4, k4⟩
      have O4 := aside (owns_below O3.out k4)
      have b4 := b3.trans (k4.mono b3.size)
      have bx_4 := bx_3.below k4
      obtain ⟨A4, c4, rfl, S4⟩ := Sl.own own4 (num_B _)
      clear own4 k4 b3 O3 e0 e1 bx_3
      obtain ⟨e0, e1⟩ := ctr_cells bx_4
      go_wp2_with (first | go_skip | (refine wpList_append_sl rfl (.tmp 20) (.tmp 24) 37 rfl W0.heap.size 5 Tryz.underlying37 zero_u8 _ _ (acc ++ textL (bytesL x.key)) rfl O4.out _ _ _ (numL (foldN x.n)) rfl rfl S4 (by have := a3; have := numL_ten (foldN_lt hfx.2); omega) b4.size ?_; intro v5 w5 own5 g5; have b5 : Below W0.heap.size W0 w5 := below_grown b4 b4.size g5 (fun q hq => (O4.out.lt q hq).1); have O5 : Hid (w5.ownsRow W0.heap.size 5 1 v5 ((acc ++ textL (bytesL x.key)) ++ numL (foldN x.n)).length (bv ((acc ++ textL (bytesL x.key)) ++ numL (foldN x.n)))) := aside (by rw [List.length_append]; exact own5); have a5 : 0 < ((acc ++ textL (bytesL x.key)) ++ numL (foldN x.n)).length ∧ ((acc ++ textL (bytesL x.key)) ++ numL (foldN x.n)).length ≤ 10 + j * 3000 + 1020 := (by have := a3; have := numL_ten (foldN_lt hfx.2); rw [List.length_append]; omega); clear own5 g5 b4 O4 S4))
      go_roundw
      case rel => exact ⟨j + 1, ((acc ++ textL (bytesL x.key)) ++ numL (foldN x.n)), by omega, by go_num, aside (by rw [HF.out, HA.out]; simp [encC, List.append_assoc]), by have := a5; omega, O5, b5⟩
      case measure => simp [intOf]; omega
    · have e : j = l.length := by omega
      have HE : Hid (numL l.length ++ l.flatMap encC = acc) := aside (by rw [HA.out, e, List.take_length, HP1.out])
      have own := HO.out
      clear HA ha e HO
      go_wp2_with (first | go_skip)
      go_ret
      show Byt.New (numL l.length ++ l.flatMap encC) W0 _ _
      rw [HE.out]
      exact ⟨_, rfl, own, kb⟩
set_option maxRecDepth 100000 in
set_option maxHeartbeats 16000000 in
theorem regs_ret (A : Option Addr) (cap : Nat) (l : List RegM.Rg) (W0 : World) (S0 : SlR RegW.E W0 A cap l) (hf : RegW.Fits l) (hs : ∀ x ∈ l, x.key.size ≤ 1000 ∧ x.elem.size ≤ 1000) (hl : l.length ≤ 1000) :
    Calls Tryz.prog 45 #[.slice A l.length cap] W0 (Byt.New (numL l.length ++ allR l) W0) := by
  have cc := fun W => len_is l.length hl W
  go_enter Tryz.func45, Tryz.ntmps45
  go_wp2_with (first | go_skip)
  refine (cc _).mono ?_
  rintro _ w0 ⟨v0, rfl, own0, h0⟩
  have O0 := aside own0
  have a0 : 0 < (numL l.length).length ∧ (numL l.length).length ≤ 10 := ⟨numL_pos _, numL_ten (by omega)⟩
  clear own0 cc
  go_wp2_with (first | go_skip)
  obtain ⟨pre1, hpre1⟩ : ∃ l', numL l.length = l' := ⟨_, rfl⟩
  rw [hpre1] at O0 a0
  have HP1 := aside hpre1
  clear hpre1
  have hcap := S0.1
  have hmax : l.length ≤ 9223372036854775807 := by omega
  go_loopw [3, 11] (fun o i wr => ∃ (j : Nat) (acc : List Int), j ≤ l.length ∧ i = .int .i64 j ∧ Hid (acc = pre1 ++ (l.take j).flatMap encR) ∧ (0 < acc.length ∧ acc.length ≤ 10 + j * 3000) ∧ Hid (wr.ownsRow W0.heap.size 5 1 o acc.length (bv acc)) ∧ Below W0.heap.size W0 wr) (fun _ i _ => l.length - (intOf i).toNat)
  case atStart => exact ⟨0, pre1, Nat.zero_le _, rfl, aside (by simp), by have := a0; omega, O0, h0⟩
  case round =>
    clear O0 h0 a0
    obtain ⟨j, acc, hj, rfl, HA, ha, HO, kb⟩ := hrel
    by_cases hlt : j < l.length
    · obtain ⟨g, off, rfl, hbw, hr⟩ := RegW.plain S0 (by omega)
      obtain ⟨x, hx⟩ : ∃ x, l[j]? = some x := ⟨_, List.getElem?_eq_getElem hlt⟩
      have hxm := List.mem_of_getElem? hx
      have re := hr j x hx
      have HF := aside (flat_next encR hx)
      have hsx := hs x hxm
      have hfx := hf x hxm
      have p0 : (j : Int) < l.length := by omega
      have m0 : ((j : Int)).toNat = j := by omega
      have re0 := range_below re kb
      clear hr hx hxm
      have q0 := fun W => texts_ret x.key x.elem hsx.1 hsx.2 W
      have TXb : ∀ y ∈ (textL (bytesL x.key) ++ textL (bytesL x.elem)), B y := (fun y hy => (List.mem_append.1 hy).elim (text_B _ y) (text_B _ y))
      have TXl := texts_short hsx
      obtain ⟨TX, hTX⟩ : ∃ T, (textL (bytesL x.key) ++ textL (bytesL x.elem)) = T := ⟨_, rfl⟩
      rw [hTX] at q0 TXb TXl
      have HTX := aside hTX
      clear hTX
      have q1 := fun W => num_is x.gen W
      have q2 := fun W => whose_ret ⟨x.node, x.seq⟩ W
      have WHb : ∀ y ∈ (numI x.node ++ numI x.seq), B y := (fun y hy => (List.mem_append.1 hy).elim (numI_B _ y) (numI_B _ y))
      have WHl := whose_short x.node x.seq
      obtain ⟨WH, hWH⟩ : ∃ T, (numI x.node ++ numI x.seq) = T := ⟨_, rfl⟩
      rw [hWH] at q2 WHb WHl
      have HWH := aside hWH
      clear hWH
      go_wp2_with (first | go_skip | (refine wpList_load_at RegW.E rfl _ rfl _ _ rfl x re0 ?_) | (refine RowB.wpList_store_new RegW.E rfl _ _ rfl _ _ _ rfl x _ rfl rfl rfl rfl ?_; intro w1 bx kx gx sx; have O1 := aside (owns_below HO.out kx); have b1 := kb.trans (kx.mono kb.size); obtain ⟨e0, e1, e2, e3, e4⟩ := reg_cells bx; clear kx gx sx HO))
      refine (q0 _).mono ?_
      rintro _ w2 ⟨v2, rfl, own2, k2⟩
      have O2 := aside (owns_below O1.out k2)
      have b2 := b1.trans (k2.mono b1.size)
      have bx_2 := bx.below k2
      obtain ⟨A2, c2, rfl, S2⟩ := Sl.own own2 TXb
      clear own2 k2 b1 O1 e0 e1 e2 e3 e4 bx
      obtain ⟨e0, e1, e2, e3, e4⟩ := reg_cells bx_2
      go_wp2_with (first | go_skip | (refine wpList_append_sl rfl (.tmp 15) (.tmp 20) 37 rfl W0.heap.size 5 Tryz.underlying37 zero_u8 _ _ acc rfl O2.out _ _ _ (TX) rfl rfl S2 (by have := ha; have := TXl; omega) b2.size ?_; intro v3 w3 own3 g3; have b3 : Below W0.heap.size W0 w3 := below_grown b2 b2.size g3 (fun q hq => (O2.out.lt q hq).1); have O3 : Hid (w3.ownsRow W0.heap.size 5 1 v3 (acc ++ TX).length (bv (acc ++ TX))) := aside (by rw [List.length_append]; exact own3); have a3 : 0 < (acc ++ TX).length ∧ (acc ++ TX).length ≤ 10 + j * 3000 + 2020 := (by have := ha; have := TXl; rw [List.length_append]; omega); have bx_3 := box_row bx_2 O2.out (by have := ha; omega) g3; clear own3 g3 b2 O2 S2 e0 e1 e2 e3 e4 bx_2; obtain ⟨e0, e1, e2, e3, e4⟩ := reg_cells bx_3))
      refine (q1 _).mono ?_
      rintro _ w4 ⟨v4, rfl, own4, k4⟩
      have O4 := aside (owns_below O3.out k4)
      have b4 := b3.trans (k4.mono b3.size)
      have bx_4 := bx_3.below k4
      obtain ⟨A4, c4, rfl, S4⟩ := Sl.own own4 (numI_B _)
      clear own4 k4 b3 O3 e0 e1 e2 e3 e4 bx_3
      obtain ⟨e0, e1, e2, e3, e4⟩ := reg_cells bx_4
      go_wp2_with (first | go_skip | (refine wpList_append_sl rfl (.tmp 22) (.tmp 25) 37 rfl W0.heap.size 5 Tryz.underlying37 zero_u8 _ _ (acc ++ TX) rfl O4.out _ _ _ (numI x.gen) rfl rfl S4 (by have := a3; have := numI_short x.gen; omega) b4.size ?_; intro v5 w5 own5 g5; have b5 : Below W0.heap.size W0 w5 := below_grown b4 b4.size g5 (fun q hq => (O4.out.lt q hq).1); have O5 : Hid (w5.ownsRow W0.heap.size 5 1 v5 ((acc ++ TX) ++ numI x.gen).length (bv ((acc ++ TX) ++ numI x.gen))) := aside (by rw [List.length_append]; exact own5); have a5 : 0 < ((acc ++ TX) ++ numI x.gen).length ∧ ((acc ++ TX) ++ numI x.gen).length ≤ 10 + j * 3000 + 2030 := (by have := a3; have := numI_short x.gen; rw [List.length_append]; omega); have bx_5 := box_row bx_4 O4.out (by have := a3; omega) g5; clear own5 g5 b4 O4 S4 e0 e1 e2 e3 e4 bx_4; obtain ⟨e0, e1, e2, e3, e4⟩ := reg_cells bx_5) | (refine wpList_load_part rfl _ rfl _ _ rfl ⟨x.node, x.seq⟩ (reg_ev bx_5) ?_))
      refine (q2 _).mono ?_
      rintro _ w6 ⟨v6, rfl, own6, k6⟩
      have O6 := aside (owns_below O5.out k6)
      have b6 := b5.trans (k6.mono b5.size)
      have bx_6 := bx_5.below k6
      obtain ⟨A6, c6, rfl, S6⟩ := Sl.own own6 WHb
      clear own6 k6 b5 O5 e0 e1 e2 e3 e4 bx_5
      obtain ⟨e0, e1, e2, e3, e4⟩ := reg_cells bx_6
      go_wp2_with (first | go_skip | (refine wpList_append_sl rfl (.tmp 27) (.tmp 30) 37 rfl W0.heap.size 5 Tryz.underlying37 zero_u8 _ _ ((acc ++ TX) ++ numI x.gen) rfl O6.out _ _ _ (WH) rfl rfl S6 (by have := a5; have := WHl; omega) b6.size ?_; intro v7 w7 own7 g7; have b7 : Below W0.heap.size W0 w7 := below_grown b6 b6.size g7 (fun q hq => (O6.out.lt q hq).1); have O7 : Hid (w7.ownsRow W0.heap.size 5 1 v7 (((acc ++ TX) ++ numI x.gen) ++ WH).length (bv (((acc ++ TX) ++ numI x.gen) ++ WH))) := aside (by rw [List.length_append]; exact own7); have a7 : 0 < (((acc ++ TX) ++ numI x.gen) ++ WH).length ∧ (((acc ++ TX) ++ numI x.gen) ++ WH).length ≤ 10 + j * 3000 + 2050 := (by have := a5; have := WHl; rw [List.length_append]; omega); clear own7 g7 b6 O6 S6))
      go_roundw
      case rel => exact ⟨j + 1, (((acc ++ TX) ++ numI x.gen) ++ WH), by omega, by go_num, aside (by rw [HF.out, HA.out, ← HTX.out, ← HWH.out]; simp [encR, List.append_assoc]), by have := a7; omega, O7, b7⟩
      case measure => simp [intOf]; omega
    · have e : j = l.length := by omega
      have HE : Hid (numL l.length ++ l.flatMap encR = acc) := aside (by rw [HA.out, e, List.take_length, HP1.out])
      have own := HO.out
      clear HA ha e HO
      go_wp2_with (first | go_skip)
      go_ret
      show Byt.New (numL l.length ++ l.flatMap encR) W0 _ _
      rw [HE.out]
      exact ⟨_, rfl, own, kb⟩
set_option maxRecDepth 100000 in
set_option maxHeartbeats 16000000 in
theorem pairs_ret (A : Option Addr) (cap : Nat) (l : List PairM.Pr) (W0 : World) (S0 : SlR PairW.E W0 A cap l) (hf : PairW.Fits l) (hs : ∀ x ∈ l, x.key.size ≤ 1000 ∧ x.elem.size ≤ 1000) (hl : l.length ≤ 1000) :
    Calls Tryz.prog 46 #[.slice A l.length cap] W0 (Byt.New (numL l.length ++ allP l) W0) := by
  have cc := fun W => len_is l.length hl W
  go_enter Tryz.func46, Tryz.ntmps46
  go_wp2_with (first | go_skip)
  refine (cc _).mono ?_
  rintro _ w0 ⟨v0, rfl, own0, h0⟩
  have O0 := aside own0
  have a0 : 0 < (numL l.length).length ∧ (numL l.length).length ≤ 10 := ⟨numL_pos _, numL_ten (by omega)⟩
  clear own0 cc
  go_wp2_with (first | go_skip)
  obtain ⟨pre1, hpre1⟩ : ∃ l', numL l.length = l' := ⟨_, rfl⟩
  rw [hpre1] at O0 a0
  have HP1 := aside hpre1
  clear hpre1
  have hcap := S0.1
  have hmax : l.length ≤ 9223372036854775807 := by omega
  go_loopw [3, 11] (fun o i wr => ∃ (j : Nat) (acc : List Int), j ≤ l.length ∧ i = .int .i64 j ∧ Hid (acc = pre1 ++ (l.take j).flatMap encP) ∧ (0 < acc.length ∧ acc.length ≤ 10 + j * 3000) ∧ Hid (wr.ownsRow W0.heap.size 5 1 o acc.length (bv acc)) ∧ Below W0.heap.size W0 wr) (fun _ i _ => l.length - (intOf i).toNat)
  case atStart => exact ⟨0, pre1, Nat.zero_le _, rfl, aside (by simp), by have := a0; omega, O0, h0⟩
  case round =>
    clear O0 h0 a0
    obtain ⟨j, acc, hj, rfl, HA, ha, HO, kb⟩ := hrel
    by_cases hlt : j < l.length
    · obtain ⟨g, off, rfl, hbw, hr⟩ := PairW.plain S0 (by omega)
      obtain ⟨x, hx⟩ : ∃ x, l[j]? = some x := ⟨_, List.getElem?_eq_getElem hlt⟩
      have hxm := List.mem_of_getElem? hx
      have re := hr j x hx
      have HF := aside (flat_next encP hx)
      have hsx := hs x hxm
      have hfx := hf x hxm
      have p0 : (j : Int) < l.length := by omega
      have m0 : ((j : Int)).toNat = j := by omega
      have re0 := range_below re kb
      clear hr hx hxm
      have q0 := fun W => texts_ret x.key x.elem hsx.1 hsx.2 W
      have TXb : ∀ y ∈ (textL (bytesL x.key) ++ textL (bytesL x.elem)), B y := (fun y hy => (List.mem_append.1 hy).elim (text_B _ y) (text_B _ y))
      have TXl := texts_short hsx
      obtain ⟨TX, hTX⟩ : ∃ T, (textL (bytesL x.key) ++ textL (bytesL x.elem)) = T := ⟨_, rfl⟩
      rw [hTX] at q0 TXb TXl
      have HTX := aside hTX
      clear hTX
      have q1 := fun W => whose_ret ⟨x.node, x.seq⟩ W
      have WHb : ∀ y ∈ (numI x.node ++ numI x.seq), B y := (fun y hy => (List.mem_append.1 hy).elim (numI_B _ y) (numI_B _ y))
      have WHl := whose_short x.node x.seq
      obtain ⟨WH, hWH⟩ : ∃ T, (numI x.node ++ numI x.seq) = T := ⟨_, rfl⟩
      rw [hWH] at q1 WHb WHl
      have HWH := aside hWH
      clear hWH
      go_wp2_with (first | go_skip | (refine wpList_load_at PairW.E rfl _ rfl _ _ rfl x re0 ?_) | (refine RowB.wpList_store_new PairW.E rfl _ _ rfl _ _ _ rfl x _ rfl rfl rfl rfl ?_; intro w1 bx kx gx sx; have O1 := aside (owns_below HO.out kx); have b1 := kb.trans (kx.mono kb.size); obtain ⟨e0, e1, e2, e3⟩ := PairW.box_cells bx; clear kx gx sx HO))
      refine (q0 _).mono ?_
      rintro _ w2 ⟨v2, rfl, own2, k2⟩
      have O2 := aside (owns_below O1.out k2)
      have b2 := b1.trans (k2.mono b1.size)
      have bx_2 := bx.below k2
      obtain ⟨A2, c2, rfl, S2⟩ := Sl.own own2 TXb
      clear own2 k2 b1 O1 e0 e1 e2 e3 bx
      obtain ⟨e0, e1, e2, e3⟩ := PairW.box_cells bx_2
      go_wp2_with (first | go_skip | (refine wpList_append_sl rfl (.tmp 15) (.tmp 20) 37 rfl W0.heap.size 5 Tryz.underlying37 zero_u8 _ _ acc rfl O2.out _ _ _ (TX) rfl rfl S2 (by have := ha; have := TXl; omega) b2.size ?_; intro v3 w3 own3 g3; have b3 : Below W0.heap.size W0 w3 := below_grown b2 b2.size g3 (fun q hq => (O2.out.lt q hq).1); have O3 : Hid (w3.ownsRow W0.heap.size 5 1 v3 (acc ++ TX).length (bv (acc ++ TX))) := aside (by rw [List.length_append]; exact own3); have a3 : 0 < (acc ++ TX).length ∧ (acc ++ TX).length ≤ 10 + j * 3000 + 2020 := (by have := ha; have := TXl; rw [List.length_append]; omega); have bx_3 := box_row bx_2 O2.out (by have := ha; omega) g3; clear own3 g3 b2 O2 S2 e0 e1 e2 e3 bx_2; obtain ⟨e0, e1, e2, e3⟩ := PairW.box_cells bx_3) | (refine wpList_load_part rfl _ rfl _ _ rfl ⟨x.node, x.seq⟩ (pair_ev bx_3) ?_))
      refine (q1 _).mono ?_
      rintro _ w4 ⟨v4, rfl, own4, k4⟩
      have O4 := aside (owns_below O3.out k4)
      have b4 := b3.trans (k4.mono b3.size)
      have bx_4 := bx_3.below k4
      obtain ⟨A4, c4, rfl, S4⟩ := Sl.own own4 WHb
      clear own4 k4 b3 O3 e0 e1 e2 e3 bx_3
      obtain ⟨e0, e1, e2, e3⟩ := PairW.box_cells bx_4
      go_wp2_with (first | go_skip | (refine wpList_append_sl rfl (.tmp 22) (.tmp 25) 37 rfl W0.heap.size 5 Tryz.underlying37 zero_u8 _ _ (acc ++ TX) rfl O4.out _ _ _ (WH) rfl rfl S4 (by have := a3; have := WHl; omega) b4.size ?_; intro v5 w5 own5 g5; have b5 : Below W0.heap.size W0 w5 := below_grown b4 b4.size g5 (fun q hq => (O4.out.lt q hq).1); have O5 : Hid (w5.ownsRow W0.heap.size 5 1 v5 ((acc ++ TX) ++ WH).length (bv ((acc ++ TX) ++ WH))) := aside (by rw [List.length_append]; exact own5); have a5 : 0 < ((acc ++ TX) ++ WH).length ∧ ((acc ++ TX) ++ WH).length ≤ 10 + j * 3000 + 2040 := (by have := a3; have := WHl; rw [List.length_append]; omega); clear own5 g5 b4 O4 S4))
      go_roundw
      case rel => exact ⟨j + 1, ((acc ++ TX) ++ WH), by omega, by go_num, aside (by rw [HF.out, HA.out, ← HTX.out, ← HWH.out]; simp [encP, List.append_assoc]), by have := a5; omega, O5, b5⟩
      case measure => simp [intOf]; omega
    · have e : j = l.length := by omega
      have HE : Hid (numL l.length ++ l.flatMap encP = acc) := aside (by rw [HA.out, e, List.take_length, HP1.out])
      have own := HO.out
      clear HA ha e HO
      go_wp2_with (first | go_skip)
      go_ret
      show Byt.New (numL l.length ++ l.flatMap encP) W0 _ _
      rw [HE.out]
      exact ⟨_, rfl, own, kb⟩
end Go.Proofs.YtnjdkjkihbgkaaaGreat.StP
