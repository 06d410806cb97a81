/- What the project's Put and Hash of package commit return: contracts. -/
import Derived.Test.YteojkfbnenfmkaaDoorCmV
import Derived.Test.YteojkfbnenfmkaaDoorCmRJ6
import Derived.Test.YteojkfbnenfmkaaDoorRefEJ10
import Derived.Test.YteojkfbnenfmkaaDoorOpsP
import Derived.Test.YteojkfbnenfmkaaDoorCmSJ2
namespace Go.Proofs.YteojkfbnenfmkaaDoor.CmT
set_option maxRecDepth 100000
open Go Go.RowKit Byt EncM EncC EncT IdM IdW OpsM OpsW CmM StW CmW CmY

theorem num_B (n : Nat) : ∀ x ∈ numL n, B x := numL_range n
theorem owns_lower {w : World} {b c n : Nat} {e : TypeId} {v : Value} {l : List Value} (h : w.ownsRow b e 1 v n l) (hc : c ≤ b) : w.ownsRow c e 1 v n l := by
  refine ⟨h.1, ?_⟩
  rcases h.2 with h | ⟨q, cap, cur, hv, hb, h⟩
  · exact Or.inl h
  · exact Or.inr ⟨q, cap, cur, hv, Nat.le_trans hc hb, h⟩
theorem ids_next {l : List Idn} {j : Nat} (h : j < l.length) : flatL (l.take (j + 1)) = flatL (l.take j) ++ (l.getD j nought).val := by
  rw [List.take_succ_eq_append_getElem h, flatL_append, List.getD_eq_getElem?_getD, List.getElem?_eq_getElem h]
  simp [flatL]
/-- The numbers behind the first one. -/
def mid (c : Com) : List Int := [c.seq, c.gen, (c.ps.length : Int)]
def midL (l : List Int) : List Int := l.flatMap fun x => numL x.toNat
theorem mid_next {l : List Int} {j : Nat} (h : j < l.length) : midL (l.take (j + 1)) = midL (l.take j) ++ numL (l.getD j 0).toNat := by
  rw [List.take_succ_eq_append_getElem h, List.getD_eq_getElem?_getD, List.getElem?_eq_getElem h]
  unfold midL
  rw [List.flatMap_append]
  simp
theorem head_mid (c : Com) : headL c = numL (foldI c.node).toNat ++ midL (mid c) := by
  simp [headL, mid, midL]
/-- A row of bytes that is not empty lies in another block than a cell that is no byte. -/
theorem owns_far {w : World} {base n g j : Nat} {v x : Value} {l : List Int} (O : w.ownsRow base 5 1 v n (bv l)) (hp : 0 < l.length) (h : w.cell? ⟨g, j, none⟩ = some x) (hx : CmD.isU8 x = false) (hj : j < l.length) : v.ownBlock ≠ some g := by
  rcases O.2 with ⟨rfl, h0⟩ | ⟨q, cap, cur, rfl, hb, hq, h1, h2, h3, h4⟩
  · have := O.1
    rw [bv_length, h0] at this
    omega
  · intro e
    simp only [Value.ownBlock, Option.some.injEq] at e
    subst e
    have hn : j < n * 1 := by have := O.1; rw [bv_length] at this; omega
    have hcell : w.cell? ⟨q, j, Option.none⟩ = some (.int .u8 (l.getD j 0)) := by
      rw [O.cellAt j hn, bv_at _ hj]
    rw [hcell] at h
    obtain rfl := Option.some.inj h
    cases hx
theorem box_sl {w : World} {g : Nat} {x : Idn} (h : IdW.Box w g x) : Sl w (some ⟨g, 0, none⟩) 32 x.val := by
  refine ⟨by rw [Idn_len]; exact Nat.le_refl _, by unfold maxLen; omega, idB x, .inr ⟨_, rfl, fun i hi => ?_⟩⟩
  rw [Addr.add_lit, Nat.zero_add]
  exact h.cell i (by rw [Idn_len] at hi; exact hi)
set_option maxRecDepth 100000 in
set_option maxHeartbeats 16000000 in
theorem put_no (v : Cv) (w : World) (S : In w v) (hf : Fit v.c) (hm : mayK v.c = false) : Calls Tryd.prog 41 #[.agg (cc v)] w (PutOut v.c w) := by
  have k0 := StW.below_alloc w (.cells (cc v) 29)
  have R0 : Cel.Box CE (w.alloc (.cells (cc v) 29)) w.heap.size v := Cel.Box.new w v _
  have S0 := S.below k0
  have cm := fun W T => CmV.may_ret v W T hf
  unfold CmV.Tells at cm
  simp only [hm] at cm
  obtain ⟨y1, y2, _⟩ := putB_no hm
  unfold PutOut
  rw [y1, y2]
  clear S hm y1 y2
  go_enter Tryd.func41, Tryd.ntmps41
  go_wp2_with (first | go_skip | (refine Cel.wpList_load_box CE rfl _ rfl _ rfl v R0 ?_))
  refine (cm _ S0).mono ?_
  rintro e w1 ⟨rfl, k1⟩
  have b1 := k0.trans (k1.mono k0.size)
  clear cm R0 S0 k0 k1
  go_wp2_with (first | go_skip)
  go_ret2
  exact ⟨none, 0, rfl, Sl.nil _, b1⟩
set_option maxRecDepth 100000 in
set_option maxHeartbeats 16000000 in
theorem put_yes (v : Cv) (w : World) (S : In w v) (hf : Fit v.c) (hm : mayK v.c = true) : Calls Tryd.prog 41 #[.agg (cc v)] w (PutOut v.c w) := by
  have k0 := StW.below_alloc w (.cells (cc v) 29)
  have R0 : Cel.Box CE (w.alloc (.cells (cc v) 29)) w.heap.size v := Cel.Box.new w v _
  have S0 := S.below k0
  have cm := fun W T => CmV.may_ret v W T hf
  unfold CmV.Tells at cm
  simp only [hm] at cm
  have hn := node_may hm
  have hs := seq_may hm
  have hg := lineB_iff.1 (mayK_iff.1 hm).1
  have hI : I64 v.c.node := by unfold I64; omega
  have hfo := foldI_bd hI
  have q0 := fun W => EncC.fold v.c.node hI W
  have q1 := fun W => OpsP.num_of hfo.1 hfo.2 W
  have t0 : 0 < (numL (foldI v.c.node).toNat).length ∧ (numL (foldI v.c.node).toNat).length ≤ 10 := ⟨numL_pos _, numL_ten (by omega)⟩
  have hps : v.c.ps.length ≤ 8 := hg.2.2.1
  obtain ⟨y1, y2, _⟩ := putB_yes hm
  unfold PutOut
  rw [y1, y2]
  have hML : Hid (∀ j, j < 3 → 0 ≤ (mid v.c).getD j 0 ∧ (mid v.c).getD j 0 ≤ 1048576) := aside (fun j hj => by
    match j, hj with
    | 0, _ => exact hs
    | 1, _ => exact ⟨Int.le_trans (by decide) hg.1, hg.2.1⟩
    | 2, _ => exact ⟨Int.natCast_nonneg _, by show (v.c.ps.length : Int) ≤ _; omega⟩
    | j + 3, h => omega)
  have HM := aside hm
  have HF := aside hf
  obtain ⟨fo, hfo2⟩ : ∃ x, foldI v.c.node = x := ⟨_, rfl⟩
  rw [hfo2] at q0 q1 t0
  have HFO := aside hfo2
  clear S hm hn hs hg hI hf hfo y1 y2 hfo2
  go_enter Tryd.func41, Tryd.ntmps41
  go_wp2_with (first | go_skip | (refine Cel.wpList_load_box CE rfl _ rfl _ rfl v R0 ?_))
  refine (cm _ S0).mono ?_
  rintro e w1 ⟨rfl, k1⟩
  obtain ⟨W0, hW0⟩ : ∃ W, w.alloc (.cells (cc v) 29) = W := ⟨_, rfl⟩
  rw [hW0] at R0 S0 k0 k1
  clear hW0
  have b1 : Below W0.heap.size W0 w1 := k1
  clear cm k1
  have d0 := cell_node (R0.below b1)
  go_wp2_with (first | go_skip)
  refine (q0 _).mono ?_
  rintro _ w' ⟨rfl, rfl⟩
  go_wp2_with (first | go_skip)
  refine (q1 _).mono ?_
  rintro _ w2 ⟨v2, rfl, own2, k2⟩
  have b2 := b1.trans (k2.mono b1.size)
  have O2 := aside (owns_lower own2 b1.size)
  clear own2 k2 b1 d0 q0 q1
  have d1 := cell_seq (R0.below b2)
  have d2 := cell_gen (R0.below b2)
  have d3 := cell_ps (R0.below b2)
  go_wp2_with (first | go_skip)
  have gb : W0.heap.size ≤ w2.heap.size := b2.size
  have b3 : Below W0.heap.size W0 (w2.alloc (.cells #[.int .i64 v.c.seq, .int .i64 v.c.gen, .int .i64 v.c.ps.length] 3)) := b2.alloc b2.size _
  have O3 := aside (O2.out.alloc (.cells #[.int .i64 v.c.seq, .int .i64 v.c.gen, .int .i64 v.c.ps.length] 3))
  have HC3 : Hid (∀ j, j < 3 → (w2.alloc (.cells #[.int .i64 v.c.seq, .int .i64 v.c.gen, .int .i64 v.c.ps.length] 3)).cell? ⟨w2.heap.size, j, none⟩ = some (.int .i64 ((mid v.c).getD j 0))) := aside (fun j hj => by
    rw [cell_of_row _ _ j #[.int .i64 v.c.seq, .int .i64 v.c.gen, .int .i64 v.c.ps.length] 3 (0, 0) (heap_alloc_new w2 _)]
    match j, hj with
    | 0, _ => rfl
    | 1, _ => rfl
    | 2, _ => rfl
    | j + 3, h => omega)
  obtain ⟨pre, hpre⟩ : ∃ l, numL fo.toNat = l := ⟨_, rfl⟩
  rw [hpre] at O3 t0
  have HPR := aside hpre
  clear hpre O2 d1 d2 d3 b2
  go_loopw [4, 29] (fun o i wr => ∃ (j : Nat) (acc : List Int), j ≤ 3 ∧ i = .int .i64 j ∧ Hid (acc = pre ++ midL ((mid v.c).take j)) ∧ (0 < acc.length ∧ acc.length ≤ 10 + j * 10) ∧ Hid (wr.ownsRow W0.heap.size 5 1 o acc.length (bv acc)) ∧ Hid (∀ j, j < 3 → wr.cell? ⟨w2.heap.size, j, none⟩ = some (.int .i64 ((mid v.c).getD j 0))) ∧ Below W0.heap.size W0 wr) (fun _ i _ => 3 - (intOf i).toNat)
  case atStart => exact ⟨0, pre, by omega, rfl, aside (by simp [midL]), by omega, O3, HC3, b3⟩
  case round =>
    clear O3 HC3 b3
    obtain ⟨j, acc, hj, rfl, HA, ha, HB, HC, kb⟩ := hrel
    by_cases hlt : j < 3
    · have cx := HC.out j hlt
      have hbd := hML.out j hlt
      have HN := aside (mid_next (l := mid v.c) (j := j) hlt)
      obtain ⟨x, hx⟩ : ∃ x, (mid v.c).getD j 0 = x := ⟨_, rfl⟩
      rw [hx] at cx hbd HN
      have p0 : (j : Int) < 3 := by omega
      have m0 : ((j : Int)).toNat = j := by omega
      have wx : IntKind.u64.wrap x = x := by rw [IntKind.wrap_u64]; omega
      have qn := fun W => OpsP.num_of (k := x) hbd.1 (by omega) W
      have tx : 0 < (numL x.toNat).length ∧ (numL x.toNat).length ≤ 10 := ⟨numL_pos _, numL_ten (by omega)⟩
      have HX := aside hx
      clear hx hbd
      go_wp2_with (first | go_skip)
      refine (qn _).mono ?_
      rintro _ w3 ⟨v3, rfl, own3, k3⟩
      have b3 := kb.trans (k3.mono kb.size)
      have O3 := aside (owns_below HB.out k3)
      obtain ⟨A3, c3, rfl, S3⟩ := Sl.own own3 (num_B _)
      have C3 : Hid (∀ j, j < 3 → w3.cell? ⟨w2.heap.size, j, none⟩ = some (.int .i64 ((mid v.c).getD j 0))) := aside (fun i hi => by
        have := HC.out i hi
        exact (k3.cell (block_lt_of_cell this)).trans this)
      clear own3 k3 HB HC kb cx qn
      go_wp2_with (first | go_skip | (refine wpList_append_sl rfl (.tmp 33) (.tmp 36) 66 rfl W0.heap.size 5 Tryd.underlying66 zero_u8 _ _ acc rfl O3.out _ _ _ (numL x.toNat) rfl rfl S3 (by have := ha; have := tx; omega) b3.size ?_; intro v4 w4 own4 g4))
      have b4 : Below W0.heap.size W0 w4 := below_grown b3 b3.size g4 (fun q hq => (O3.out.lt q hq).1)
      have O4 : Hid (w4.ownsRow W0.heap.size 5 1 v4 (acc ++ numL x.toNat).length (bv (acc ++ numL x.toNat))) := aside (by rw [List.length_append]; exact own4)
      have C4 : Hid (∀ j, j < 3 → w4.cell? ⟨w2.heap.size, j, none⟩ = some (.int .i64 ((mid v.c).getD j 0))) := aside (fun i hi => by
        have h1 := C3.out i hi
        have h0 := C3.out 0 (by omega)
        have hne := owns_far O3.out ha.1 h0 rfl ha.1
        have hlt := block_lt_of_cell h1
        have hk := g4.block _ hlt (fun e => hne e.symm)
        rw [← h1]
        unfold World.cell?
        rw [hk])
      clear own4 g4 O3 C3 b3 S3
      go_roundw
      case rel => exact ⟨j + 1, acc ++ numL x.toNat, by omega, by go_num, aside (by rw [HN.out, HA.out, List.append_assoc]), by have := ha; have := tx; rw [List.length_append]; omega, O4, C4, b4⟩
      case measure => simp [intOf]; omega
    · have e : j = 3 := by omega
      have HA2 : Hid (acc = headL v.c) := aside (by rw [HA.out, head_mid, HFO.out, HPR.out, e]; rfl)
      have ha2 : 0 < acc.length ∧ acc.length ≤ 40 := by omega
      have pn : ¬ (j : Int) < 3 := by omega
      have d3 := cell_ps (R0.below kb)
      clear HC HA e ha hlt
      go_wp2_with (first | go_skip)
      go_loopw [4, 42] (fun o i wr => ∃ (j : Nat) (ac : List Int), j ≤ v.c.ps.length ∧ i = .int .i64 j ∧ Hid (ac = acc ++ flatL (v.c.ps.take j)) ∧ (0 < ac.length ∧ ac.length ≤ 40 + j * 32) ∧ Hid (wr.ownsRow W0.heap.size 5 1 o ac.length (bv ac)) ∧ Below W0.heap.size W0 wr) (fun _ i _ => v.c.ps.length - (intOf i).toNat)
      case atStart => exact ⟨0, acc, Nat.zero_le _, rfl, aside (by simp [flatL]), by have := ha2; omega, HB, kb⟩
      case round =>
        clear HB kb d3 ha2
        obtain ⟨j, ac, hj, rfl, HC, hc, HB, kb⟩ := hrel
        have d3 := cell_ps (R0.below kb)
        by_cases hlt : j < v.c.ps.length
        · obtain ⟨g, off, hA, hbw, hr⟩ := SlI.plain S0 (by omega)
          have re := IdW.range_below (hr j hlt) kb
          have HF2 := aside (ids_next hlt)
          obtain ⟨x, hx⟩ : ∃ x, v.c.ps.getD j nought = x := ⟨_, rfl⟩
          rw [hx] at re HF2
          have lx := Idn_len x
          clear hr hx
          have p0 : (j : Int) < v.c.ps.length := by omega
          have m0 : ((j : Int)).toNat = j := by omega
          go_wp2_with (first | go_skip | (refine wpList_load_id rfl _ rfl _ _ rfl x re ?_) | (refine IdJ.wpList_alloc_id rfl rfl ?_) | (refine CmG.wpList_store_id rfl _ _ rfl _ nought _ rfl x _ rfl rfl rfl ?_; intro w5 G5 k5 s5; have b5 := kb.trans (k5.mono kb.size); have O5 := aside (owns_below HB.out k5); have S5 := box_sl G5) | (refine wpList_append_sl rfl (.tmp 46) (.tmp 47) 66 rfl W0.heap.size 5 Tryd.underlying66 zero_u8 _ _ ac rfl O5.out _ _ _ x.val rfl lx S5 (by have := hc; omega) b5.size ?_; intro v6 w6 own6 g6))
          have b6 : Below W0.heap.size W0 w6 := below_grown b5 b5.size g6 (fun q hq => (O5.out.lt q hq).1)
          have O6 : Hid (w6.ownsRow W0.heap.size 5 1 v6 (ac ++ x.val).length (bv (ac ++ x.val))) := aside (by rw [List.length_append, lx]; exact own6)
          clear own6 g6 O5 b5 S5 G5 k5 s5
          try rw [hA]
          go_roundw
          case rel => exact ⟨j + 1, ac ++ x.val, by omega, by go_num, aside (by rw [HF2.out, HC.out, List.append_assoc]), by have := hc; rw [List.length_append, lx]; omega, O6, b6⟩
          case measure => simp [intOf]; omega
        · have e : j = v.c.ps.length := by omega
          have HE : Hid (ac = headL v.c ++ flatL v.c.ps) := aside (by rw [HC.out, e, List.take_length, HA2.out])
          have hl2 : 0 < ac.length ∧ ac.length ≤ 400 := by omega
          have pn : ¬ (j : Int) < v.c.ps.length := by omega
          clear HC hc e hlt HA2
          have RK := R0.below kb
          have qm := fun W => CmV.merge_in v W
          unfold CmV.Tells at qm
          by_cases hq : v.c.node = -1
          · have hmb := merge_may HM.out hq
            have HP : Hid (putK v.c = ac) := aside (by unfold putK opL; rw [if_pos hq, HE.out, List.append_nil])
            simp only [hmb] at qm
            clear HE hq hmb
            go_wp2_with (first | go_skip | (refine Cel.wpList_load_box CE rfl _ rfl _ rfl v RK ?_))
            refine (qm _).mono ?_
            rintro e w7 ⟨rfl, k7⟩
            have b7 := kb.trans (k7.mono kb.size)
            have O7 := aside (owns_below HB.out k7)
            clear kb HB k7 RK d3 qm
            go_wp2_with (first | go_skip)
            go_ret2
            rw [HP.out]
            obtain ⟨A7, c7, e7, S7⟩ := Sl.own O7.out (by rw [← HP.out]; exact putK_B _)
            exact ⟨A7, c7, by rw [e7]; rfl, S7, k0.trans (b7.mono k0.size)⟩
          · have hmb : mergeB v.c = false := by
              cases hb : mergeB v.c with
              | false => rfl
              | true => exact absurd (mergeB_iff.1 hb).1 hq
            have HP : Hid (putK v.c = ac ++ putL v.c.op) := aside (by unfold putK opL; rw [if_neg hq, HE.out, List.append_assoc])
            simp only [hmb] at qm
            have cp := fun W => OpsP.put_yes v.c.op W HF.out.op (op_may HM.out hq)
            unfold OpsP.PutYes at cp
            have hlo := putL_len (op_may HM.out hq)
            clear HE hq hmb
            go_wp2_with (first | go_skip | (refine Cel.wpList_load_box CE rfl _ rfl _ rfl v RK ?_))
            refine (qm _).mono ?_
            rintro e w7 ⟨rfl, k7⟩
            have b7 := kb.trans (k7.mono kb.size)
            have O7 := aside (owns_below HB.out k7)
            have R7 := RK.below k7
            clear kb HB k7 RK d3 qm
            go_wp2_with (first | go_skip | (refine wpList_load_kop rfl _ rfl _ rfl v R7 ?_))
            refine (cp _).mono ?_
            rintro _ w9 ⟨v9, rfl, own9, k9⟩
            have O9 := aside (owns_below O7.out k9)
            have b9 := b7.trans (k9.mono b7.size)
            obtain ⟨A9, c9, rfl, S9⟩ := Sl.own own9 (putL_B _)
            clear own9 k9 b7 O7 R7
            go_wp2_with (first | go_skip | (refine wpList_append_sl rfl (.tmp 59) (.tmp 60) 66 rfl W0.heap.size 5 Tryd.underlying66 zero_u8 _ _ ac rfl O9.out _ _ _ (putL v.c.op) rfl rfl S9 (by have := hl2; have := hlo; omega) b9.size ?_; intro v1 w1 own1 g1))
            have hb1 : Below W0.heap.size W0 w1 := below_grown b9 b9.size g1 (fun q hq => (O9.out.lt q hq).1)
            go_ret2
            have own2 : w1.ownsRow W0.heap.size 5 1 v1 (ac ++ putL v.c.op).length (bv (ac ++ putL v.c.op)) := by rw [List.length_append]; exact own1
            rw [HP.out]
            obtain ⟨A7, c7, e7, S7⟩ := Sl.own own2 (by rw [← HP.out]; exact putK_B _)
            exact ⟨A7, c7, by rw [e7]; rfl, S7, k0.trans (hb1.mono k0.size)⟩
theorem put_ret (v : Cv) (w : World) (S : In w v) (hf : Fit v.c) : Calls Tryd.prog 41 #[.agg (cc v)] w (PutOut v.c w) := by
  cases hm : mayK v.c with
  | false => exact put_no v w S hf hm
  | true => exact put_yes v w S hf hm
set_option maxRecDepth 100000 in
set_option maxHeartbeats 8000000 in
theorem hash_ret (v : Cv) (w : World) (S : In w v) (hf : Fit v.c) (hK : ShaE.KIn w) : Calls Tryd.prog 19 #[.agg (cc v)] w (HashOut v.c w) := by
  have R0 : Cel.Box CE ((w.alloc (.cells (cc v) 29)).alloc (.cells (IdW.cs nought) 42)) w.heap.size v := (Cel.Box.new (E := CE) w v 29).alloc _
  have G0 : IdW.Box ((w.alloc (.cells (cc v) 29)).alloc (.cells (IdW.cs nought) 42)) (w.heap.size + 1) nought := by
    have z : (w.alloc (.cells (cc v) 29)).heap.size = w.heap.size + 1 := by simp
    rw [← z]
    exact IdW.Box.new _ nought _
  have k0 : Below w.heap.size w ((w.alloc (.cells (cc v) 29)).alloc (.cells (IdW.cs nought) 42)) := ((Below.refl _ _).alloc (Nat.le_refl _) _).alloc (by simp) _
  have S0 := S.below k0
  have K0 := hK.below k0
  have cp := fun W T => put_ret v W T hf
  have hl := putB_len v.c
  unfold PutOut at cp
  unfold HashOut
  obtain ⟨P, hP⟩ : ∃ P, putB v.c = P := ⟨_, rfl⟩
  rw [hP] at cp hl
  have HP := aside hP
  obtain ⟨N, hN⟩ : ∃ N, putN v.c = N := ⟨_, rfl⟩
  rw [hN] at cp ⊢
  have hw : N = 1 ∧ hashI v.c = nought ∨ N = 0 ∧ hashI v.c = CmS.sumI P := by
    cases hm : mayK v.c with
    | false => exact .inl ⟨by rw [← hN]; exact (putB_no hm).2.1, (putB_no hm).2.2⟩
    | true => exact .inr ⟨by rw [← hN]; exact (putB_yes hm).2.1, by rw [(putB_yes hm).2.2, ← hP, (putB_yes hm).1]; rfl⟩
  clear S hf hK hP hN
  go_enter Tryd.func19, Tryd.ntmps19
  go_wp2_with (first | go_skip | (refine IdJ.wpList_alloc_id rfl rfl ?_) | (refine Cel.wpList_load_box CE rfl _ rfl _ rfl v R0 ?_))
  refine (cp _ S0).mono ?_
  rintro _ w1 ⟨A1, c1, rfl, S1, k1⟩
  have G1 := G0.below k1 G0.lt
  have b1 := k0.trans (k1.mono k0.size)
  have K1 := K0.below k1
  clear cp R0 G0 k0 S0 k1 K0
  rcases hw with ⟨rfl, hh⟩ | ⟨rfl, hh⟩
  · have HH := aside hh
    clear hh
    go_wp2_with (first | go_skip | (refine IdJ.wpList_build0 rfl rfl ?_) | (refine IdJ.wpList_store_box rfl _ _ rfl (w.heap.size + 1) rfl nought nought G1 rfl ?_))
    exact bodyPost_ret (v := .tuple #[.agg (IdW.cs nought), .int .i64 1]) (IdJ.results_box Tryd.results19 _ _ (w.heap.size + 1) nought _ rfl rfl (IdJ.Box.row G1 nought)) rfl ⟨by rw [HH.out], IdJ.below_row b1 (by omega) _⟩
  · have HH := aside hh
    clear hh
    obtain ⟨n, hn⟩ : ∃ n, P.length = n := ⟨_, rfl⟩
    have cs := CmS.psum S1 rfl (by omega) K1
    rw [hn] at cs
    rw [hn]
    clear hl hn
    go_wp2_with (first | go_skip | (refine IdJ.wpList_build0 rfl rfl ?_))
    refine cs.mono ?_
    rintro _ w2 ⟨rfl, k2⟩
    have G2 := G1.below k2 G1.lt
    have b2 := b1.trans (k2.mono b1.size)
    clear cs k2 b1 G1 K1
    go_wp2_with (first | go_skip | (refine IdJ.wpList_store_box rfl _ _ rfl (w.heap.size + 1) rfl nought (CmS.sumI P) G2 rfl ?_))
    exact bodyPost_ret (v := .tuple #[.agg (IdW.cs (CmS.sumI P)), .int .i64 0]) (IdJ.results_box Tryd.results19 _ _ (w.heap.size + 1) (CmS.sumI P) _ rfl rfl (IdJ.Box.row G2 (CmS.sumI P))) rfl ⟨by rw [HH.out], IdJ.below_row b2 (by omega) _⟩
end Go.Proofs.YteojkfbnenfmkaaDoor.CmT
