/- Three results, the first of them a commit in a block. No condition. | What the document's answers Both, some, Common and Without return: contracts. | What the document's Find of package dag returns: a contract. | What the document's Ready of package wait returns: a contract. No condition but sizes. -/
import Derived.Test.YteojkfbnenfmkaaGreatDoorCmXJ8
import Derived.Test.YteojkfbnenfmkaaGreatDoorIdX
import Derived.Test.YteojkfbnenfmkaaGreatDoorForksJ6
import Derived.Test.YteojkfbnenfmkaaGreatDoorWtR
import Derived.Test.YteojkfbnenfmkaaGreatDoorGrowB
namespace Go.Proofs.YteojkfbnenfmkaaGreatDoor.WtL
set_option maxRecDepth 100000
open Go Go.Sort Go.RowKit Byt IdM IdW OpsM OpsW CmM StW CmW CmX

theorem results_r {fn : Func} {p q r : Tmp} (h : fn.results = #[.cell p 29, .tmp q, .tmp r]) (tmps : Array Value) (w : World) (g : Nat) (v : Cv) (x y : Value)
    (hp : tmps.getD p undef = .pointer (some ⟨g, 0, none⟩)) (hq : tmps.getD q undef = x) (hr : tmps.getD r undef = y) (hg : Cel.Box CE w g v) :
    (results fn tmps).run Tryz.prog w = .ok (.tuple #[.agg (cc v), x, y]) w := by
  have d0 := cell_node hg
  have d1 := cell_seq hg
  have d2 := cell_gen hg
  have d3 := cell_ps hg
  have d4 := cell_kind hg
  have d5 := cell_key hg
  have d6 := cell_elem hg
  have d7 := cell_n hg
  have hp' : tmps[p]?.getD undef = .pointer (some ⟨g, 0, none⟩) := by simpa using hp
  have hq' : tmps[q]?.getD undef = x := by simpa using hq
  have hr' : tmps[r]?.getD undef = y := by simpa using hr
  simp [results, h, hp', hq', hr', asAddr, go_sem, d0, d1, d2, d3, d4, d5, d6, d7]
  rfl
end Go.Proofs.YteojkfbnenfmkaaGreatDoor.WtL
namespace Go.Proofs.YteojkfbnenfmkaaGreatDoor.IdY
set_option maxRecDepth 100000
open Go Go.Sort Go.RowKit IdM Byt IdW IdC IdV IdB IdX

theorem NewI.mono {l : List Idn} {w w1 : World} {e : Ending} {w' : World} (h : NewI l w1 e w') (hb : Below w.heap.size w w1) : NewI l w e w' := by
  obtain ⟨v, rfl, h1, h2⟩ := h
  exact ⟨v, rfl, owns_less h1 hb.size, hb.trans (h2.mono hb.size)⟩


theorem filter_take_succ (p : Idn → Bool) {l : List Idn} {k : Nat} (h : k < l.length) : (l.take (k + 1)).filter p = (l.take k).filter p ++ [l.getD k nought].filter p := by
  rw [List.take_add_one, List.filter_append, List.getD_eq_getElem?_getD, List.getElem?_eq_getElem h]
  rfl
theorem filter_take_le (p : Idn → Bool) (l : List Idn) (k : Nat) : ((l.take k).filter p).length ≤ k := Nat.le_trans (List.length_filter_le _ _) (by simp; omega)

set_option maxHeartbeats 1000000 in
theorem some_ret (A A' : Option Addr) (cap cap' : Nat) (l l' : List Idn) (want : Bool) (w : World) (S : SlI w A cap l) (S' : SlI w A' cap' l') (hl : l.length ≤ 500) :
    Calls Tryz.prog 50 #[.slice A l.length cap, .slice A' l'.length cap', .bool want] w fun e w' => NewI (IdM.sort (l.filter fun x => decide (x ∈ l') == want)) w e w' := by
  obtain ⟨p, hp⟩ : ∃ p : Idn → Bool, (fun x => decide (x ∈ l') == want) = p := ⟨_, rfl⟩
  rw [hp]
  have HP := aside hp
  clear hp
  go_enter Tryz.func50, Tryz.ntmps50
  go_wp2_with fail
  go_loopw [7, 8] (fun v i wr => ∃ k : Nat, k ≤ l.length ∧ i = .int .i64 k ∧ wr.ownsRow w.heap.size 43 32 v ((l.take k).filter p).length (bv (flat ((l.take k).filter p))) ∧ Below w.heap.size w wr) (fun _ i _ => l.length - (intOf i).toNat)
  case atStart => exact ⟨0, Nat.zero_le _, rfl, nil_own _ _, Below.refl _ _⟩
  case round =>
    obtain ⟨k, hk, rfl, hrow, kb⟩ := hrel
    have hle := filter_take_le p l k
    by_cases hlt : k < l.length
    · have hstep := filter_take_succ p hlt
      obtain ⟨b, off, rfl, hbw, hrg⟩ := S.plain (by omega)
      have hrg1 := range_below (hrg k hlt) kb
      obtain ⟨x, hx⟩ : ∃ x, l.getD k nought = x := ⟨_, rfl⟩
      rw [hx] at hrg1 hstep
      have HSt := aside hstep
      generalize (l.take k).filter p = acc at hrow hle HSt
      have p0 : (k : Int) < l.length := by omega
      have m0 : ((k : Int)).toNat = k := by omega
      clear hrg S hx hstep
      have hpx : p x = (decide (x ∈ l') == want) := by rw [← HP.out]
      go_wp2_with (refine wpList_load_id rfl _ rfl _ _ rfl x hrg1 ?_)
      refine (rhas_ret A' cap' l' x wr (S'.below kb)).mono ?_
      rintro e w1 ⟨rfl, k1⟩
      have hrg2 := range_below hrg1 k1
      have hrow1 := owns_below hrow k1
      have kb1 := kb.trans (k1.mono kb.size)
      cases hq : p x with
      | true =>
        rw [hq] at hpx
        generalize decide (x ∈ l') = c at hpx
        have hpx' := hpx.symm
        clear hpx
        go_wp2_with (first | (refine wpList_load_id rfl _ rfl _ _ rfl x hrg2 ?_) | (refine wpList_build1 rfl _ rfl x rfl ?_) | (refine wpList_append_ids rfl _ _ rfl w.heap.size _ _ acc rfl (hrow1.alloc _) _ 1 1 [x] rfl rfl (SlI.new1 _ x _) (by omega) (by have := kb1.size; simp; omega) ?_; intro v6 w6 o6 g6))
        go_roundw
        case rel =>
          refine ⟨k + 1, by omega, by go_num, ?_, below_grown (kb1.alloc kb1.size _) (by have := kb1.size; simp; omega) g6 (fun k hk => (hrow.lt k hk).1)⟩
          have e : [x].filter p = [x] := by simp [hq]
          rw [HSt.out, e]
          simpa using o6
        case measure => simp [intOf]; omega
      | false =>
        rw [hq] at hpx
        generalize decide (x ∈ l') = c at hpx
        have hpx' := hpx.symm
        clear hpx
        go_wp2_with fail
        go_roundw
        case rel =>
          refine ⟨k + 1, by omega, by go_num, ?_, kb1⟩
          have e : [x].filter p = [] := by simp [hq]
          rw [HSt.out, e, List.append_nil]
          exact hrow1
        case measure => simp [intOf]; omega
    · have e : k = l.length := by omega
      subst e
      rw [List.take_length] at hrow hle
      obtain ⟨A6, c6, rfl, S6⟩ := SlI.own hrow
      go_wp2_with fail
      refine (rsort_ret A6 c6 (l.filter p) wr S6 (by omega)).mono ?_
      rintro e w7 h7
      obtain ⟨v, rfl, o7, k7⟩ := NewI.mono h7 kb
      go_wp2_with fail
      go_ret
      exact ⟨_, rfl, o7, k7⟩

theorem rwithout_ret (A A' : Option Addr) (cap cap' : Nat) (l l' : List Idn) (w : World) (S : SlI w A cap l) (S' : SlI w A' cap' l') (hl : l.length ≤ 500) :
    Calls Tryz.prog 31 #[.slice A l.length cap, .slice A' l'.length cap'] w fun e w' => NewI (without l l') w e w' := by
  have q := some_ret A A' cap cap' l l' false w S S' hl
  have e : (fun x => decide (x ∈ l') == false) = fun x => decide (x ∉ l') := by funext x; by_cases h : x ∈ l' <;> simp [h]
  rw [e] at q
  go_enter Tryz.func31, Tryz.ntmps31
  go_wp2_with fail
  refine q.mono ?_
  rintro e w1 ⟨v, rfl, o1, k1⟩
  go_wp2_with fail
  go_ret
  exact ⟨_, rfl, o1, k1⟩
end Go.Proofs.YteojkfbnenfmkaaGreatDoor.IdY
namespace Go.Proofs.YteojkfbnenfmkaaGreatDoor.DgG
set_option maxRecDepth 100000
open Go Go.Sort Go.RowKit Byt IdM IdW OpsM OpsW CmM StW CmW CmX CmY DgM DgN DgW DgR

theorem fit_noK : CmW.Fit noK := ⟨by unfold I64; decide, by unfold I64; decide, by unfold I64; decide, by constructor <;> first | (unfold I64; decide) | decide⟩
end Go.Proofs.YteojkfbnenfmkaaGreatDoor.DgG
namespace Go.Proofs.YteojkfbnenfmkaaGreatDoor.WtS
set_option maxRecDepth 100000
open Go Go.Sort Go.RowKit Byt IdM IdW OpsM OpsW CmM StW CmW CmX CmY DgM DgW DgR DgF WtM WtF WtR WtL
open Classical

/-- A commit read whole, in worlds in which what lies below B is as it was. -/
theorem quiet_up {B : Nat} {w0 : World} {a : Act} {o : Oper} {K : Act → Prop} (x : Operand) (ho : o.op = .load 29 x) (b off : Nat) (hx : a.eval x = .pointer (some ⟨b, off, none⟩)) (hb : b < B) (y : Cv) (hc : w0.rangeAt b off (cc y).toList) (hk : K (a.put o.dst (.agg (cc y)))) : o.quiet Tryz.prog a (fun w' => ∃ p : GrowB.UpTo B w0, w' = p.u) K := by
  refine ⟨.agg (cc y), fun u hu => ?_, hk⟩
  obtain ⟨p, rfl⟩ := hu
  have hr : p.u.rangeAt b off (KE.enc y) := fun j v hv => (p.h.cell (p := ⟨b, off + j, none⟩) hb).trans (hc j v hv)
  have q : (Instr.loadAt 29 (.pointer (some ⟨b, off, none⟩))).run Tryz.prog p.u = .ok (.agg (cc y)) p.u := RowG.range_load KE hr
  unfold Oper.quietAt execOp
  simp only [ho, hx, Sem.run_bind, q, Result.andThen_ok, Sem.run_pure]
  exact ⟨rfl, rfl⟩
theorem take_ready {l : List Com} {h : List Idn} {k : Nat} {x : Com} (hn : ∀ c ∈ l.take k, freeB h c = false) (hx : l[k]? = some x) (hf : freeB h x = true) : readyI l h = some k := by
  refine readyI_of hx hf fun j d hj hd => hn d ?_
  refine List.mem_of_getElem? (i := j) ?_
  rw [List.getElem?_take, if_pos hj]
  exact hd
theorem take_next {l : List Com} {h : List Idn} {k : Nat} {x : Com} (hn : ∀ c ∈ l.take k, freeB h c = false) (hx : l[k]? = some x) (hf : freeB h x = false) : ∀ c ∈ l.take (k + 1), freeB h c = false := fun d hd => by
  obtain ⟨hk, rfl⟩ := List.getElem?_eq_some_iff.1 hx
  rw [List.take_succ_eq_append_getElem hk, List.mem_append, List.mem_singleton] at hd
  rcases hd with hd | rfl
  · exact hn d hd
  · exact hf
set_option maxRecDepth 100000 in
set_option maxHeartbeats 16000000 in
theorem ready_ret (A A' : Option Addr) (cap cap' : Nat) (l : List Cv) (h : List Idn) (w : World) (S : SlK w A cap l) (hl : l.length ≤ 1000) (hp : ∀ v ∈ l, v.c.ps.length ≤ 500) (T : SlI w A' cap' h) :
    Calls Tryz.prog 11 #[.slice A l.length cap, .slice A' h.length cap'] w (ReadyOut (coms l) h w) := by
  have hmax := S.len
  have hlc := coms_len l
  have k0 := StW.below_alloc w (.cells (cc noV) 29)
  have B0 : Cel.Box CE (w.alloc (.cells (cc noV) 29)) w.heap.size noV := Cel.Box.new w noV _
  unfold ReadyOut
  go_enter Tryz.func11, Tryz.ntmps11
  go_wp2_with (first | go_skip)
  go_loopw [7] (fun i wr => ∃ k : Nat, k ≤ l.length ∧ i = .int .i64 k ∧ Hid (∀ c ∈ (coms l).take k, freeB h c = false) ∧ Cel.Box CE wr w.heap.size noV ∧ Below w.heap.size w wr) (fun i _ => l.length - (intOf i).toNat)
  case atStart => exact ⟨0, Nat.zero_le _, rfl, aside (by simp), B0, k0⟩
  case round =>
    clear B0 k0
    obtain ⟨k, hk, rfl, HN, B1, kb⟩ := hrel
    by_cases hlt : k < l.length
    · obtain ⟨b, off, rfl, hbw, hrg⟩ := S.plain (by omega)
      obtain ⟨x, hx⟩ : ∃ x, l[k]? = some x := ⟨_, List.getElem?_eq_getElem hlt⟩
      have hxm := List.mem_of_getElem? hx
      have rx := range_on (hrg k x hx) kb
      have vx := rx 3 _ rfl
      have IX := (S.each x hxm).1.below kb
      have q := IdY.rwithout_ret x.a A' x.k cap' x.c.ps h wr IX (T.below kb) (hp x hxm)
      have p0 : (k : Int) < l.length := by omega
      have m0 : ((k : Int)).toNat = k := by omega
      have HX := aside (coms_at hx)
      have HXL := aside hx
      have HXM := aside hxm
      clear hrg hx hxm
      unfold NewI at q
      go_wp2_with (first | go_skip)
      refine q.mono ?_
      rintro e w2 ⟨v2, rfl, o2, k2⟩
      obtain ⟨A2, c2, rfl, S2⟩ := SlI.own o2
      have B2 := B1.below k2
      have kb2 := kb.trans (k2.mono kb.size)
      have rx2 := range_on rx k2
      have IX2 := IX.below k2
      obtain ⟨n, hn⟩ : ∃ n, (without x.c.ps h).length = n := ⟨_, rfl⟩
      simp only [hn]
      have HF : Hid (freeB h x.c = true ↔ n = 0) := aside (by rw [freeB_iff, ← hn, List.length_eq_zero_iff])
      clear q o2 S2 hn B1 vx rx kb k2
      by_cases h0 : n = 0
      · have hf := HF.out.2 h0
        have HI := aside (take_ready HN.out HX.out hf)
        subst h0
        clear hf HF HN
        go_wp2_with (first | go_skip)
        refine GrowB.region w.heap.size [(0, true), (1, true), (2, true), (3, true), (4, true), (5, true), (6, true), (8, true), (9, true), (10, true), (11, true), (7, false), (12, false), (13, false), (14, true), (15, true)] (by kernel_rfl) (by kernel_rfl) rfl (by kernel_rfl) (by intro c a d v w h; cases d <;> exact h) ?_
        have kd := below_drew1 (Below.refl w2.heap.size w2)
        have B3 := B2.below kd
        have kb3 := kb2.trans (kd.mono kb2.size)
        have rx3 := range_on rx2 kd
        have IX3 := IX2.below kd
        have BLT := aside (show w.heap.size < w2.drew.heap.size from B3.lt)
        generalize w2.drew = wz at B3 kb3 rx3 IX3 BLT ⊢
        clear B2 kb2 rx2 IX2 kd
        have U := S.below kb3
        obtain ⟨A5, c5, hqs, S5⟩ := RowP.ahead U.row k (by omega)
        obtain ⟨A6, c6, hqt, S6⟩ := RowP.behind U.row (k + 1) (by omega)
        have hq1 : ∀ V, (Instr.sliceAt 22 (.slice (some ⟨b, off, none⟩) l.length cap) none (some (.int .i64 (k : Int))) none).run Tryz.prog V = .ok (.slice A5 k c5) V := fun V => hqs V .i64
        have hq2 : ∀ V, (Instr.sliceAt 22 (.slice (some ⟨b, off, none⟩) l.length cap) (some (.int .i64 ((k : Int) + 1))) none none).run Tryz.prog V = .ok (.slice A6 (l.length - (k + 1)) c6) V := fun V => hqt V .i64
        have m1 : IntKind.i64.wrap ((k : Int) + 1) = (k : Int) + 1 := IntWalk.i64_in _ (by omega)
        have htl : (l.take k).length = k := by rw [List.length_take]; omega
        have hdl : (l.drop (k + 1)).length = l.length - (k + 1) := by rw [List.length_drop]
        clear hqs hqt
        (try simp only [Act.put, List.setIfInBounds_toArray, List.set_cons_succ, List.set_cons_zero])
        repeat (first | (refine GrowB.reads_below rfl rfl ?_; go_big_quiet_want; refine quiet_up _ rfl _ _ rfl hbw x rx3 ?_; go_big_quiet_on; refine wpQuiet_nil ?_; (try simp only [Act.put, List.setIfInBounds_toArray, List.set_cons_succ, List.set_cons_zero])) | (refine GrowB.reads_below rfl rfl ?_; go_big_quiet_step (fail); refine wpQuiet_nil ?_))
        refine GrowB.acts rfl ?_
        go_wp2_with (first | go_skip | (refine RowS.wpList_append KE rfl _ _ rfl wz.heap.size _ 0 [] rfl ⟨rfl, .inl ⟨rfl, rfl⟩⟩ A5 k c5 (l.take k) rfl htl S5 (by omega) (Nat.le_refl _) ?_; intro vx wx ox gx))
        have kx : Below wz.heap.size wz wx := below_grown (Below.refl _ _) (Nat.le_refl _) gx (fun q hq => by cases hq)
        have kx2 : Below w.heap.size wz wx := kx.mono kb3.size
        have Bx := B3.below kx
        have Sx := S6.below kx
        clear gx B3 S5 S6 rx3
        refine ⟨kx2, ?_⟩
        (try simp only [Act.put, List.setIfInBounds_toArray, List.set_cons_succ, List.set_cons_zero])
        refine GrowB.acts rfl ?_
        go_wp2_with (first | go_skip | (refine RowS.wpList_append KE rfl _ _ rfl wz.heap.size _ _ _ rfl ox A6 _ c6 (l.drop (k + 1)) rfl hdl Sx (by omega) kx.size ?_; intro vy wy oy gy))
        have hxo : ∀ q, vx.ownBlock = some q → wz.heap.size ≤ q := fun q hq => (ox.lt q hq).1
        have hzw := kb3.size
        have hBz := Bx.lt
        have ky2 : Below w.heap.size wx wy := below_grown (Below.refl _ _) (Nat.le_trans hzw kx.size) gy (fun q hq => Nat.le_trans hzw (hxo q hq))
        have By_ := Bx.kept gy (fun e => by have := hxo _ e.symm; have := BLT.out; omega)
        clear Bx Sx ox
        refine ⟨ky2, ?_⟩
        (try simp only [Act.put, List.setIfInBounds_toArray, List.set_cons_succ, List.set_cons_zero])
        refine GrowB.acts rfl ?_
        go_wp2_with (first | go_skip | (refine Cel.wpList_store_box CE rfl _ _ rfl w.heap.size rfl _ By_ x rfl ?_; intro w9 B9 f9 g9 s9))
        have k9 := f9 w.heap.size (Nat.le_refl _)
        refine ⟨k9, ?_⟩
        (try simp only [Act.put])
        repeat (first | (refine GrowB.reads_below rfl rfl ?_; go_big_quiet_step (fail); refine wpQuiet_nil ?_))
        refine GrowB.ends ?_
        have kb9 := kb3.trans (kx2.trans (ky2.trans k9))
        have S9 := S.below kb9
        have o9 := oy.kept g9 (by
          cases hq : vy.ownBlock with
          | none => exact .inl rfl
          | some q => exact .inr (fun e => by have := (oy.lt q hq).1; have := Option.some.inj e; have := BLT.out; omega))
        rw [List.nil_append, Nat.zero_add] at o9
        obtain ⟨A9, c9, hv9, SC⟩ := own_in (l := l.take k ++ l.drop (k + 1)) o9 (fun y hy => (List.mem_append.1 hy).elim (fun hy => S9.each y (List.mem_of_mem_take hy)) fun hy => S9.each y (List.mem_of_mem_drop hy))
        subst hv9
        obtain ⟨_, hc, _, _, h4, h5⟩ := readyI_some HI.out
        rw [HX.out] at hc
        obtain rfl := Option.some.inj hc
        have H4 := aside h4
        have H5 := aside h5
        clear h4 h5
        have hl9 : (l.take k ++ l.drop (k + 1)).length = k + (l.length - (k + 1)) := by rw [List.length_append, htl, hdl]
        go_wp2_with (first | go_skip)
        refine bodyPost_ret (v := .tuple #[.agg (cc x), .slice A9 (l.take k ++ l.drop (k + 1)).length c9, .bool true]) (results_r Tryz.results11 _ _ w.heap.size x _ _ rfl (by rw [hl9]; rfl) rfl B9) rfl ?_
        exact ⟨x, A9, c9, _, by rw [HI.out]; rfl, H4.out.symm, (S9.each x HXM.out).1, (S9.each x HXM.out).2, by rw [H5.out]; unfold coms; rw [List.map_append, List.map_take, List.map_drop], SC, kb9⟩
      · have hf : freeB h x.c = false := by
          cases hq : freeB h x.c with
          | false => rfl
          | true => exact absurd (HF.out.1 hq) h0
        have HN2 := aside (take_next HN.out HX.out hf)
        have n0 : ¬ (n : Int) = 0 := by omega
        clear hf HF HN
        go_wp2_with (first | go_skip)
        go_roundw
        case rel => exact ⟨k + 1, by omega, by go_num, HN2, B2, kb2⟩
        case measure => simp [intOf]; omega
    · obtain rfl : k = l.length := by omega
      have hno := readyI_no (l := coms l) (h := h) (fun c hc => HN.out c (by rw [List.take_of_length_le (by omega)]; exact hc))
      have HI := aside hno
      clear hno HN
      go_wp2_with (first | go_skip | (refine Cel.wpList_store_box CE rfl _ _ rfl w.heap.size rfl _ B1 noV rfl ?_; intro w3 B3 f3 g3 s3))
      have kb3 := kb.trans (f3 w.heap.size (Nat.le_refl _))
      refine bodyPost_ret (v := .tuple #[.agg (cc noV), .slice A l.length cap, .bool false]) (results_r Tryz.results11 _ _ w.heap.size noV _ _ rfl rfl rfl B3) rfl ?_
      obtain ⟨_, h2, h3⟩ := readyI_none HI.out
      exact ⟨noV, A, cap, l, by rw [HI.out]; rfl, h2.symm, In.none _, DgG.fit_noK, h3.symm, S.below kb3, kb3⟩
end Go.Proofs.YteojkfbnenfmkaaGreatDoor.WtS
