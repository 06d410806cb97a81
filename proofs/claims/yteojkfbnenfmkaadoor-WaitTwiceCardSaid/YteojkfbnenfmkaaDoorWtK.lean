/- What the project's Ready of package wait returns: a contract. No condition but sizes. -/
import Derived.Test.YteojkfbnenfmkaaDoorWtIJ2
namespace Go.Proofs.YteojkfbnenfmkaaDoor.WtK
set_option maxRecDepth 100000
open Go Go.Sort Go.RowKit Byt IdM IdW IdK IdS OpsM OpsW CmM StW CmW CmX CmY CmA DgM DgW DgR DgF RowS DhB WtM WtF WtG WtH WtI WtL
open Classical

theorem box_one (w : World) (v : Value) (t : TypeId) : (w.alloc (.cells #[v] t)).cell? ⟨w.heap.size, 0, none⟩ = some v := by
  rw [cell_of_row _ _ _ _ t (0, 0) (heap_alloc_new w _)]
  rfl
theorem info_fn : (Tryd.prog.info? 58).map (·.size) = some 1 := by kernel_rfl
theorem own_at {w : World} {base cap : Nat} {A : Option Addr} {l : List Cv} (h : w.ownsRow base 29 8 (.slice A l.length cap) l.length (RowS.flat KE l)) (he : ∀ x ∈ l, In w x ∧ Fit x.c) : SlK w A cap l := by
  obtain ⟨A', c', e, S⟩ := own_in h he
  injection e with e1 _ e3
  subst e1
  subst e3
  exact S
theorem idx_is (l : List Com) (h : List Idn) : idxW l (freeB h) = match readyI l h with
  | some i => (i : Int)
  | none => -1 := rfl
set_option maxRecDepth 100000 in
set_option maxHeartbeats 32000000 in
theorem ready_ret (A A' : Option Addr) (cap cap' : Nat) (l : List Cv) (h : List Idn) (w : World) (S : SlK w A cap l) (hl : l.length ≤ 1000000) (hp : ∀ v ∈ l, v.c.ps.length ≤ 1000000) (T : SlI w A' cap' h) (hh : h.length ≤ 1000000) :
    Calls Tryd.prog 16 #[.slice A l.length cap, .slice A' h.length cap'] w (ReadyOut (coms l) h w) := by
  have hmm := make_set
  obtain ⟨W0, hW0⟩ : ∃ W0, ((w.alloc (.cells #[.int .i64 0, .int .i64 0, .int .i64 0, .slice none 0 0, .int .i64 0, .string ⟨#[]⟩, .string ⟨#[]⟩, .int .i64 0] 29)).alloc (.map #[] 0)).alloc (.cells #[.map (some (w.heap.size + 1))] 57) = W0 := ⟨_, rfl⟩
  have z1 : (w.alloc (.cells #[.int .i64 0, .int .i64 0, .int .i64 0, .slice none 0 0, .int .i64 0, .string ⟨#[]⟩, .string ⟨#[]⟩, .int .i64 0] 29)).heap.size = w.heap.size + 1 := by simp
  have z2 : ((w.alloc (.cells #[.int .i64 0, .int .i64 0, .int .i64 0, .slice none 0 0, .int .i64 0, .string ⟨#[]⟩, .string ⟨#[]⟩, .int .i64 0] 29)).alloc (.map #[] 0)).heap.size = w.heap.size + 2 := by simp
  have kb0 : Below w.heap.size w W0 := by rw [← hW0]; exact (((Below.refl _ _).alloc (Nat.le_refl _) _).alloc (by omega) _).alloc (by omega) _
  have B0 : Cel.Box CE W0 w.heap.size noV := by rw [← hW0]; exact ((Cel.Box.new (E := CE) w noV _).alloc _).alloc _
  have M0 : SetIn W0 (w.heap.size + 1) 0 [] := by
    rw [← hW0, ← z1]
    exact (SetIn.made _).alloc _
  have c0 : W0.cell? ⟨w.heap.size + 2, 0, none⟩ = some (.map (some (w.heap.size + 1))) := by
    rw [← hW0, ← z2]
    exact box_one _ _ _
  have HW0 := aside hW0
  have HP := aside hp
  clear hW0 z1 z2 hp
  unfold ReadyOut
  go_enter Tryd.func16, Tryd.ntmps16
  go_wp2_with (first | go_skip)
  rw [HW0.out]
  clear HW0 hmm
  go_loopw [20] (fun i wr => ∃ k : Nat, k ≤ h.length ∧ i = .int .i64 k ∧ Hid (SetIn wr (w.heap.size + 1) k (h.take k)) ∧ wr.cell? ⟨w.heap.size + 2, 0, none⟩ = some (.map (some (w.heap.size + 1))) ∧ Cel.Box CE wr w.heap.size noV ∧ Below w.heap.size w wr) (fun i _ => h.length - (intOf i).toNat)
  case atStart => exact ⟨0, Nat.zero_le _, rfl, aside (by rw [List.take_zero]; exact M0), c0, B0, kb0⟩
  case round =>
    clear M0 c0 B0 kb0
    obtain ⟨k, hk, rfl, HM, c0, B0, kb⟩ := hrel
    by_cases hlt : k < h.length
    · obtain ⟨b, off, rfl, hbw, hr⟩ := T.plain (by omega)
      have rx := IdW.range_below (hr k hlt) kb
      obtain ⟨x, hx⟩ : ∃ x, h.getD k nought = x := ⟨_, rfl⟩
      rw [hx] at rx
      have HX := aside hx
      have p0 : (k : Int) < h.length := by omega
      have m0 : ((k : Int)).toNat = k := by omega
      have hlt2 : w.heap.size + 2 < wr.heap.size := World.block_lt_of_cell? wr _ c0
      clear hr hx
      go_wp2_with (first | go_skip | (refine wpList_load_id rfl _ rfl _ _ rfl x rx ?_) | (refine IdJ.wpList_alloc_id rfl rfl ?_) | (refine CmG.wpList_store_id rfl _ _ rfl wr nought _ rfl x _ rfl rfl rfl ?_; intro w3 I3 k3 s3; have b3 := kb.trans (k3.mono kb.size); have M3 := aside (HM.out.below k3); have c3 := (k3.cell (p := ⟨w.heap.size + 2, 0, none⟩) hlt2).trans c0; have BB3 := B0.below k3; clear HM c0 kb B0 s3 rx) | (refine wpList_load_id rfl _ rfl _ _ rfl x I3.range ?_) | (refine IdK.wpList_put _ rfl _ _ _ rfl (w.heap.size + 1) k (h.take k) rfl M3.out (by omega) x rfl rfl ?_; intro w4 M4 g4))
      have b4 : Below w.heap.size w w4 := below_grown b3 b3.size g4 (fun q hq => by cases hq; omega)
      have c4 := g4.cell c3 (by simp)
      have BB4 := BB3.kept g4 (fun e => absurd (Option.some.inj e) (Nat.ne_of_lt (Nat.lt_succ_self _)))
      clear c3 BB3 M3 k3 I3 b3 hlt2
      go_roundw
      case rel =>
        refine ⟨k + 1, by omega, by go_num, aside (M4.congr fun z => ?_), c4, BB4, b4⟩
        rw [← HX.out]
        exact mem_take_succ hlt z
      case measure => simp [intOf]; omega
    · obtain rfl : k = h.length := by omega
      rw [List.take_length] at HM
      have hlt2 : w.heap.size + 2 < wr.heap.size := World.block_lt_of_cell? wr _ c0
      have HM0 := aside HM.out
      have HC0 := aside c0
      have HB0 := aside B0
      clear HM c0 B0
      go_wp2_with (first | go_skip | (refine RowH.wpList_store_cell rfl rfl 58 _ _ rfl info_fn wr.heap.size rfl .nilFunc 58 (heap_alloc_new wr _) (.func (.func 32) #[] #[.pointer (some ⟨w.heap.size + 2, 0, none⟩)]) rfl rfl rfl ?_; intro W1 h1 g1))
      have k1 : Below wr.heap.size wr W1 := below_grown ((Below.refl _ _).alloc (Nat.le_refl _) _) (by simp) g1 (fun q hq => by cases hq; exact Nat.le_refl _)
      have f1 := aside (RowH.cell_of_one h1)
      have b1 := kb.trans (k1.mono kb.size)
      have M1 := aside (HM0.out.below k1)
      have c1 := aside ((k1.cell (p := ⟨w.heap.size + 2, 0, none⟩) hlt2).trans HC0.out)
      have B1 := HB0.out.below k1
      have z1 : wr.heap.size < W1.heap.size := World.block_lt_of_cell? W1 _ f1.out
      have qc := copied_ret A cap l W1 (S.below b1) hl HP.out
      unfold NewH at qc
      clear HM0 HC0 HB0 h1 g1 k1 kb HP
      refine qc.mono ?_
      rintro e W2 ⟨v, r, rfl, hr, o2, H2, k2⟩
      have b2 := b1.trans (k2.mono b1.size)
      have B2 := B1.below k2
      have hrl : r.length = l.length := by rw [← coms_len r, hr, coms_len]
      obtain ⟨A2, c2, rfl, S2⟩ := own_in o2 H2.each
      have z2 : wr.heap.size < W2.heap.size := Nat.lt_of_lt_of_le z1 k2.size
      have z3 : w.heap.size + 2 < W2.heap.size := Nat.lt_trans hlt2 z2
      have z4 : w.heap.size < W1.heap.size := by omega
      have qx := index_ret 33 wr.heap.size (freeB h) A2 c2 r W2 S2.row (fun args W => by kernel_rfl) (fun W x b hx => isready_ret wr.heap.size (w.heap.size + 2) (w.heap.size + 1) h.length h x W ((S2.each x hx).1.below b)
        ((b.cell (p := ⟨wr.heap.size, 0, none⟩) z2).trans ((k2.cell (p := ⟨wr.heap.size, 0, none⟩) z1).trans f1.out)) (Nat.lt_of_lt_of_le z2 b.size)
        ((b.cell (p := ⟨w.heap.size + 2, 0, none⟩) z3).trans ((k2.cell (p := ⟨w.heap.size + 2, 0, none⟩) (Nat.lt_trans hlt2 z1)).trans c1.out)) (Nat.lt_of_lt_of_le z3 b.size) ((M1.out.below k2).below b))
      rw [hr, idx_is] at qx
      have HR := aside hr
      have HO := aside o2
      have HH := aside H2
      have HS := aside S2
      have HZ := aside z4
      have HHL := aside hl
      have HRL := aside hrl
      clear hrl hr o2 H2 S2 f1 c1 M1 z1 z2 z3 z4 qc k2 hlt2 hl B1
      cases hR : readyI (coms l) h with
      | none =>
        rw [hR] at qx
        have qx : Calls Tryd.prog 35 _ W2 (fun e w' => e = .returned (.int .i64 (-1)) ∧ Below W2.heap.size W2 w') := qx
        have HI := aside hR
        clear hR
        go_wp2_with (first | go_skip)
        refine qx.mono ?_
        rintro e W3 ⟨rfl, k3⟩
        have B3 := B2.below k3
        have b3 := b2.trans (k3.mono b2.size)
        clear qx
        go_wp2_with (first | go_skip | (refine DhC.wpList_build_cc rfl rfl ?_) | (refine Cel.wpList_store_box CE rfl _ _ rfl w.heap.size rfl _ B3 noV rfl ?_; intro W4 B4 f4 g4 s4))
        have b4 := b3.trans (f4 w.heap.size (Nat.le_refl _))
        have S4 : SlK W4 A2 c2 r := own_at ((owns_below HO.out k3).kept g4 (by
          cases hq : Value.ownBlock (.slice A2 r.length c2) with
          | none => exact .inl rfl
          | some q => exact .inr (fun e => by have h1 := (HO.out.lt q hq).1; have h2 := Option.some.inj e; have h3 := HZ.out; omega))) (fun x hx => ⟨CmD.sli_far ((HS.out.each x hx).1.below k3) (CmD.no_cm B3) g4, (HS.out.each x hx).2⟩)
        refine bodyPost_ret (v := .tuple #[.agg (cc noV), .slice A2 r.length c2, .bool false]) (results_r Tryd.results16 _ _ w.heap.size noV _ _ rfl rfl rfl B4) rfl ?_
        obtain ⟨_, h2, h3⟩ := readyI_none HI.out
        exact ⟨noV, A2, c2, r, by rw [HI.out]; rfl, h2.symm, In.none _, DgG.fit_noK, HR.out.trans h3.symm, S4, b4⟩
      | some k =>
        rw [hR] at qx
        have qx : Calls Tryd.prog 35 _ W2 (fun e w' => e = .returned (.int .i64 (k : Int)) ∧ Below W2.heap.size W2 w') := qx
        obtain ⟨y, hy, _, _, h4, h5⟩ := readyI_some hR
        have hkr : k < r.length := by
          have := (List.getElem?_eq_some_iff.1 hy).1
          rwa [coms_len, ← HRL.out] at this
        obtain ⟨x, hx⟩ : ∃ x, r[k]? = some x := ⟨_, List.getElem?_eq_getElem hkr⟩
        have hxy : x.c = y := by
          have := coms_at hx
          rw [HR.out, hy] at this
          exact (Option.some.inj this).symm
        obtain ⟨m, hm⟩ : ∃ m, r.length = m + 1 := ⟨r.length - 1, by omega⟩
        obtain ⟨g, rfl⟩ : ∃ g, A2 = some ⟨g, 0, none⟩ := by
          rcases HO.out.2 with ⟨_, h0⟩ | ⟨g', _, _, h', _⟩
          · omega
          · injection h' with e _ _
            exact ⟨g', e⟩
        have hgl := HO.out.lt g rfl
        have rx := RowH.own_range (E := KE) HO.out hx
        have IX := HS.out.each x (List.mem_of_getElem? hx)
        have HI := aside hR
        have HXC : Hid (x.c = readyC (coms l) h) := aside (hxy.trans h4.symm)
        have HRR : Hid (coms (r.take k ++ r.drop (k + 1)) = readyR (coms l) h) := aside (by
          rw [h5, ← HR.out]
          unfold coms
          rw [List.map_append, List.map_take, List.map_drop])
        have hml : (r.take k ++ r.drop (k + 1)).length = m := by rw [List.length_append, List.length_take, List.length_drop]; omega
        have HML := aside hml
        have HX := aside hx
        have HM := aside hm
        have HGL := aside hgl
        have p0 : ¬ (k : Int) < 0 := by omega
        have p1 : (k : Int) < r.length := by omega
        have m0 : ((k : Int)).toNat = k := by omega
        have m1 : IntKind.i64.wrap ((k : Int) + 1) = (k : Int) + 1 := IntWalk.i64_in _ (by have := HHL.out; have := HRL.out; omega)
        have HKR := aside hkr
        clear hR hy h4 h5 hx hxy hm hgl hml hkr
        go_wp2_with (first | go_skip)
        refine qx.mono ?_
        rintro e W3 ⟨rfl, k3⟩
        have B3 := B2.below k3
        have b3 := b2.trans (k3.mono b2.size)
        have rx3 := RowS.range_below rx k3
        clear qx rx
        go_wp2_with (first | go_skip | (refine load_at rfl _ rfl _ _ rfl x rx3 ?_) | (refine Cel.wpList_store_new CE rfl _ _ rfl W3 _ _ rfl x _ rfl rfl rfl rfl ?_; intro W4 D4 k4 g4 s4))
        have kd := below_drew1 (Below.refl W4.heap.size W4)
        have D5 := D4.below kd
        have B5 := (B3.below k4).below kd
        have H5 := ((HH.out.below k3).below k4).below kd
        have O5 := owns_below (owns_below (owns_below HO.out k3) k4) kd
        have b5 := (b3.trans (k4.mono b3.size)).trans (kd.mono (Nat.le_trans b3.size k4.size))
        have hgg : g < W3.heap.size := Nat.lt_of_lt_of_le HGL.out.2 k3.size
        obtain ⟨W5, hW5⟩ : ∃ W5, W4.drew = W5 := ⟨_, rfl⟩
        rw [hW5] at D5 B5 H5 O5 b5
        have HW5 := aside hW5
        have hq := delete_ret W1.heap.size g c2 r.length m r k rfl HM.out HKR.out W5 O5 (by have := HHL.out; have := HRL.out; omega)
        have hgw : w.heap.size < g := by have := HGL.out.1; have := HZ.out; omega
        have FIN := aside (show ∀ W6 W7, W6.ownsRow W1.heap.size 29 8 (.slice (some ⟨g, 0, none⟩) m c2) m (RowS.flat KE (r.take k ++ r.drop (k + 1))) → W5.grownBy W6 (some g) → Cel.Box CE W6 w.heap.size noV → W6.grownBy W7 (some w.heap.size) → SlK W7 (some ⟨g, 0, none⟩) c2 (r.take k ++ r.drop (k + 1)) ∧ In W7 x ∧ Below w.heap.size w W7 from fun W6 W7 o6 g6 B6 g7 => by
          have H6 := H5.grown (v' := .slice (some ⟨g, 0, none⟩) r.length c2) g6 (.inl rfl)
          have e7 : ∀ z ∈ r, In W7 z := fun z hz => CmD.sli_far (H6.each z hz).1 (CmD.no_cm B6) g7
          refine ⟨?_, ?_, ?_⟩
          · have o7 := o6.kept g7 (.inr (fun e => by have := Option.some.inj e; simp only at this; omega))
            have hl2 := HML.out
            refine own_at (base := W1.heap.size) (by rw [hl2]; exact o7) (fun z hz => ?_)
            have hz : z ∈ r := (List.mem_append.1 hz).elim List.mem_of_mem_take List.mem_of_mem_drop
            exact ⟨e7 z hz, (H6.each z hz).2⟩
          · exact e7 x (List.mem_of_getElem? HX.out)
          · exact below_grown (below_grown b5 b5.size g6 (fun q hq => by cases hq; omega)) (Nat.le_trans b5.size g6.size) g7 (fun q hq => by cases hq; exact Nat.le_refl _))
        have HMU := aside m1
        have hB6 : ∀ W6, W5.grownBy W6 (some g) → Cel.Box CE W6 w.heap.size noV := fun W6 g6 => B5.kept g6 (fun e => by have := Option.some.inj e; omega)
        have hD6 : ∀ W6, W5.grownBy W6 (some g) → Cel.Box CE W6 W3.heap.size x := fun W6 g6 => D5.kept g6 (fun e => by have := Option.some.inj e; omega)
        have HB6 := aside hB6
        have HD6 := aside hD6
        clear kd D4 B3 b3 k4 g4 s4 hW5 O5 H5 B5 b5 rx3 k3 hgg hgw hB6 hD6
        refine Forks.region (.free 1 (.free 2 (.free 3 (.free 4 (.two 0 (.act 5 (.act 6 (.free 7 (.free 8 .ends)))) 5 (.act 0 (.act 6 (.free 7 (.free 8 .ends))))))))) (by kernel_rfl) (by kernel_rfl) rfl (by kernel_rfl) (by intro c a d v w h; cases d <;> exact h) ?_
        rw [HW5.out]
        clear HW5
        (try simp only [Act.put])
        repeat (refine Forks.reads rfl rfl ?_; go_big_quiet_step (fail); refine wpQuiet_nil ?_)
        refine Forks.forks rfl rfl ?_ ?_
        · go_wp2_with (first | go_skip | (refine Cel.wpList_load_box CE rfl _ rfl _ rfl x D5 ?_))
          refine Forks.on ?_
          (try simp only [Act.put, List.setIfInBounds_toArray, List.set_cons_succ, List.set_cons_zero])
          refine Forks.acts rfl ?_
          go_wp2_with (first | go_skip)
          refine hq.mono ?_
          rintro e W6 ⟨rfl, o6, g6⟩
          have B6 := HB6.out W6 g6
          clear hq
          go_wp2_with (first | go_skip)
          refine Forks.on ?_
          (try simp only [Act.put, List.setIfInBounds_toArray, List.set_cons_succ, List.set_cons_zero])
          refine Forks.acts rfl ?_
          go_wp2_with (first | go_skip | (refine Cel.wpList_store_box CE rfl _ _ rfl w.heap.size rfl _ B6 x rfl ?_; intro W7 B7 f7 g7 s7))
          refine Forks.on ?_
          (try simp only [Act.put])
          repeat (refine Forks.reads rfl rfl ?_; go_big_quiet_step (fail); refine wpQuiet_nil ?_)
          refine Forks.ends ?_
          go_wp2_with (first | go_skip)
          obtain ⟨S7, I7, b7⟩ := FIN.out W6 W7 o6 g6 B6 g7
          have hml := HML.out
          refine bodyPost_ret (v := .tuple #[.agg (cc x), .slice (some ⟨g, 0, none⟩) (r.take k ++ r.drop (k + 1)).length c2, .bool true]) (results_r Tryd.results16 _ _ w.heap.size x _ _ rfl (by rw [hml]; rfl) rfl B7) rfl ?_
          exact ⟨x, _, c2, _, by rw [HI.out]; rfl, HXC.out, I7, IX.2, HRR.out, S7, b7⟩
        · go_wp2_with (first | go_skip)
          refine hq.mono ?_
          rintro e W6 ⟨rfl, o6, g6⟩
          have B6 := HB6.out W6 g6
          have D6 := HD6.out W6 g6
          clear hq
          go_wp2_with (first | go_skip)
          refine Forks.on ?_
          (try simp only [Act.put, List.setIfInBounds_toArray, List.set_cons_succ, List.set_cons_zero])
          refine Forks.acts rfl ?_
          go_wp2_with (first | go_skip | (refine Cel.wpList_load_box CE rfl _ rfl _ rfl x D6 ?_))
          refine Forks.on ?_
          (try simp only [Act.put, List.setIfInBounds_toArray, List.set_cons_succ, List.set_cons_zero])
          refine Forks.acts rfl ?_
          go_wp2_with (first | go_skip | (refine Cel.wpList_store_box CE rfl _ _ rfl w.heap.size rfl _ B6 x rfl ?_; intro W7 B7 f7 g7 s7))
          refine Forks.on ?_
          (try simp only [Act.put])
          repeat (refine Forks.reads rfl rfl ?_; go_big_quiet_step (fail); refine wpQuiet_nil ?_)
          refine Forks.ends ?_
          go_wp2_with (first | go_skip)
          obtain ⟨S7, I7, b7⟩ := FIN.out W6 W7 o6 g6 B6 g7
          have hml := HML.out
          refine bodyPost_ret (v := .tuple #[.agg (cc x), .slice (some ⟨g, 0, none⟩) (r.take k ++ r.drop (k + 1)).length c2, .bool true]) (results_r Tryd.results16 _ _ w.heap.size x _ _ rfl (by rw [hml]; rfl) rfl B7) rfl ?_
          exact ⟨x, _, c2, _, by rw [HI.out]; rfl, HXC.out, I7, IX.2, HRR.out, S7, b7⟩
end Go.Proofs.YteojkfbnenfmkaaDoor.WtK
