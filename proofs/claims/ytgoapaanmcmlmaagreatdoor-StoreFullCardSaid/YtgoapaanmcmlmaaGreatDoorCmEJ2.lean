/- The project's reader of package commit: in memory, and what its num, id and op return, or panic with: contracts. | What the project's place, merge, event, May, Merge and Same of package commit return: contracts. -/
import Derived.Test.YtgoapaanmcmlmaaGreatDoorCmQJ3
import Derived.Test.YtgoapaanmcmlmaaGreatDoorEncGJ6
import Derived.WalkLawsBesides
import Derived.Laws.CopyRow
import Derived.Test.YtgoapaanmcmlmaaGreatDoorCmRJ8
import Derived.Test.YtgoapaanmcmlmaaGreatDoorOpsWJ2
namespace Go.Proofs.YtgoapaanmcmlmaaGreatDoor.CmE
set_option maxRecDepth 100000
open Go Go.Sort Go.RowKit Byt EncM EncC IdM IdW IdB OpsM OpsW CmM StW CmW CmD CmG
structure Pd where
 a : Option Addr
 k : Nat
 l : List Int
def PE : Cel.Cel Pd where
 T := 128
 k := 1
 bytes := 24
 d := _
 enc r := [.slice r.a r.l.length r.k]
 zero := ⟨none, 0, []⟩
 len _ := rfl
 one c v hv := by
   simp only [List.mem_cons, List.not_mem_nil, or_false] at hv
   rw [hv]; rfl
 pos := by omega
 info := by kernel_rfl
 under := Tryz.underlying128
 row := rfl
theorem pd_cell {w : World} {g : Nat} {r : Pd} (h : Cel.Box PE w g r) : w.cell? ⟨g, 0, none⟩ = some (.slice r.a r.l.length r.k) := h.cell (j := 0) rfl
theorem no_pd {w : World} {g : Nat} {r : Pd} (h : Cel.Box PE w g r) : NoU8 w g := by
 intro j v hv
 obtain ⟨t, ht⟩ := h
 rw [cell_of_row w g j _ t (0, 0) ht, List.getElem?_toArray] at hv
 match j, hv with
 | 0, hv => simp [PE] at hv; rw [← hv]; rfl
 | j + 1, hv => simp [PE] at hv
def dies : List PanicEntry := [{ v := .iface 32 (.int .i64 2), recovered := false }]
structure Took (g : Nat) (l : List Int) (w w' : World) (r : Pd) : Prop where
 left : r.l = l
 box : Cel.Box PE w' g r
 sl : Sl w' r.a r.k r.l
 turned : Turned g w w'
def Of (r r' : Pd) : Prop := ∀ V, Sl V r.a r.k r.l → Sl V r'.a r'.k r'.l
set_option maxRecDepth 100000 in
set_option maxHeartbeats 8000000 in
theorem num_no {r : Pd} {g : Nat} {w : World} {M : Int} {n k : Nat} (D : Cel.Box PE w g r) (S : Sl w r.a r.k r.l) (h : getL r.l = (n, k)) (hb : k = 0 ∨ M < n) :
   Calls Tryz.prog 117 #[.pointer (some ⟨g, 0, none⟩), .int .u64 M] w fun e w' => e = .panicked dies ∧ Below w.heap.size w w' := by
 have q := EncG.get S rfl
 rw [h] at q
 have c0 := pd_cell D
 clear h D S
 go_enter Tryz.func117, Tryz.ntmps117
 go_wp2_with fail
 refine q.mono ?_
 rintro e w1 ⟨rfl, k1⟩
 clear q c0
 have hw : k = 0 ∨ (((k : Int) == 0) = false ∧ M < n) := by
   rcases hb with hb | hb
   · exact .inl hb
   · by_cases h0 : k = 0
     · exact .inl h0
     · exact .inr ⟨by simp; omega, hb⟩
 clear hb
 rcases hw with rfl | ⟨h0, hb⟩
 all_goals
   go_wp2_with (first | go_skip)
   exact ⟨rfl, rfl, k1⟩
set_option maxRecDepth 100000 in
set_option maxHeartbeats 8000000 in
theorem num_yes {r : Pd} {g : Nat} {w : World} {M : Int} {n k : Nat} {l2 : List Int} (D : Cel.Box PE w g r) (S : Sl w r.a r.k r.l) (h : getL r.l = (n, k)) (e : r.l.drop k = l2) (hk : k ≠ 0) (hM : (n : Int) ≤ M) :
   Calls Tryz.prog 117 #[.pointer (some ⟨g, 0, none⟩), .int .u64 M] w fun e w' => e = .returned (.int .u64 (n : Nat)) ∧ ∃ r', Took g l2 w w' r' ∧ Of r r' := by
 have c0 := pd_cell D
 have q := EncG.get S rfl
 have hk2 := (getL_le S.bytes).2.2
 have hglt := D.lt
 rw [h] at q hk2
 simp only at hk2
 obtain ⟨A2, c2, hs, S2, hl2⟩ := S.part k r.l.length hk2 (Nat.le_refl _)
 have e2 : (r.l.drop k).take (r.l.length - k) = r.l.drop k := List.take_of_length_le (by rw [List.length_drop]; omega)
 rw [e2] at S2 hl2
 rw [← hl2] at hs
 have hP := part_any hs rfl hk2
 rw [e] at S2 hl2 hs hP
 obtain ⟨N, hN⟩ : ∃ N, r.l.length = N := ⟨_, rfl⟩
 rw [hN] at q c0 hs hk2
 have hr : ∀ W, (Instr.sliceAt 22 (.slice r.a N r.k) (some (.int .i64 (k : Nat))) none none).run Tryz.prog W = .ok (.slice A2 l2.length c2) W := fun W => by
   rw [run_part_l W r.a N r.k .i64 k hk2, hs]
 have HN := aside hN
 have hkb : ((k : Int) == 0) = false := by simp; omega
 clear hs hl2 e2 S hN h e
 go_enter Tryz.func117, Tryz.ntmps117
 go_wp2_with fail
 refine q.mono ?_
 rintro e w1 ⟨rfl, k1⟩
 have D1 := D.below k1
 have S1 := S2.below k1
 have T1 := Turned.of_below k1 (Nat.le_of_lt hglt)
 clear q c0 D S2 k1
 have c0 := pd_cell D1
 rw [HN.out] at c0
 go_wp2_with (first | go_skip | (refine Cel.wpList_store_field PE rfl rfl 22 _ _ rfl info_s g 0 rfl (of_decide_eq_true rfl) r D1 ⟨A2, c2, l2⟩ _ rfl rfl rfl rfl ?_; intro w3 D3 f3 g3 s3))
 go_ret
 exact ⟨rfl, ⟨A2, c2, l2⟩, ⟨rfl, D3, sl_far S1 (no_pd D1) g3, T1.trans ⟨g3, f3⟩⟩, hP⟩
theorem wpList_copy_id {ops : Array Oper} {rest : List Oper} {o : Oper} {a : Act} {w : World} {Q : Exit → Act → World → Prop} (hgd : o.guard = none) (d s : Operand)
   (ho : o.op = .call { callee := .builtin .copy, args := #[d, s], argTypes := #[22, 22] })
   (g : Nat) (hd : a.eval d = .slice (some ⟨g, 0, none⟩) 32 32) (old : Idn) (hb : IdW.Box w g old) (A : Option Addr) (n c : Nat) (l : List Int) (hs : a.eval s = .slice A n c) (hl : l.length = n) (S : Sl w A c l) (h32 : 32 ≤ n) (y : Idn) (hy : headI l = y)
   (h : ∀ w', IdW.Box w' g y → (∀ B, B ≤ g → Below B w w') → w.grownBy w' (some g) → wpList Tryz.prog ops Q rest (a.put o.dst (.int .i64 32)) w') : wpList Tryz.prog ops Q (o :: rest) a w := by
 subst hl hy
 have hB := S.bytes
 have hv := headI_val h32 hB
 have hw := IdJ.Box.row hb (headI l)
 obtain ⟨t, ht⟩ := hb
 obtain ⟨h1, h2, _, h5⟩ := S
 rcases h5 with ⟨_, rfl, _⟩ | ⟨x, rfl, hc⟩
 · simp at h32
 have e32 : (bv (headI l).1).length = 32 := by rw [bv_length, Idn_len]
 have hrun := run_copy_row (P := Tryz.prog) w 22 22 o.type 5 g 0 32 32 x l.length c (cs old) t (bv (headI l).1) Tryz.underlying22 info_u8 ht
   (by rw [e32]; show 32 = min l.length 32; omega) (fun j v hj => by
     have hj2 : j < 32 := by
       have := (List.getElem?_eq_some_iff.1 hj).1
       rwa [e32] at this
     rw [bv_at _ (by rw [Idn_len]; exact hj2)] at hj
     rw [hc j (by omega), ← hj, hv, List.getD_eq_getElem?_getD, List.getD_eq_getElem?_getD, List.getElem?_take, if_pos hj2])
   (by rw [e32, cs_size]; omega) (bv_one _)
 have ecs : ((cs old).toList.take 0 ++ bv (headI l).1 ++ (cs old).toList.drop (0 + (bv (headI l).1).length)).toArray = cs (headI l) := by
   rw [e32, List.take_zero, List.nil_append, List.drop_of_length_le (by simp [cs_size]), List.append_nil]
   rfl
 rw [ecs, e32] at hrun
 refine wpList_plain hgd fun K hK => ?_
 unfold Oper.wp execOp
 simp only [ho, resolve, invoke, builtin, Sem.run_bind, Sem.run_pure, Result.andThen_ok, List.map_toArray, List.map_cons, List.map_nil, hd, hs, hrun]
 exact hK _ _ (h _ hw (fun B hB => IdJ.below_row (Below.refl B w) hB _) ⟨rfl, rfl, rfl, by simp [World.setRow], fun j _ hj => setRow_other w g j _ (fun e => hj (by rw [e]))⟩)
set_option maxRecDepth 100000 in
set_option maxHeartbeats 8000000 in
theorem id_no {r : Pd} {g : Nat} {w : World} (D : Cel.Box PE w g r) (h32 : r.l.length < 32) :
   Calls Tryz.prog 118 #[.pointer (some ⟨g, 0, none⟩)] w fun e w' => e = .panicked dies ∧ Below w.heap.size w w' := by
 have kb : Below w.heap.size w ((w.alloc (.cells (cs nought) 75)).alloc (.cells (cs nought) 75)) := ((Below.refl _ _).alloc (Nat.le_refl _) _).alloc (by simp) _
 have c0 := pd_cell (D.below kb)
 have hlt : ((r.l.length : Int)) < 32 := by omega
 clear h32 D
 go_enter Tryz.func118, Tryz.ntmps118
 go_wp2_with (first | go_skip | (refine IdJ.wpList_alloc_id rfl rfl ?_) | (refine IdJ.wpList_build0 rfl rfl ?_))
 exact ⟨rfl, rfl, kb⟩
def copies : Forks.Tree := .free 0 (.free 1 (.free 2 (.free 3 (.act 4 (.act 5 .ends)))))
set_option maxRecDepth 100000 in
set_option maxHeartbeats 8000000 in
theorem id_yes {r : Pd} {g : Nat} {w : World} (D : Cel.Box PE w g r) (S : Sl w r.a r.k r.l) (h32 : 32 ≤ r.l.length) :
   Calls Tryz.prog 118 #[.pointer (some ⟨g, 0, none⟩)] w fun e w' => e = .returned (.agg (cs (headI r.l))) ∧ ∃ r', Took g (r.l.drop 32) w w' r' ∧ Of r r' := by
 have hglt := D.lt
 obtain ⟨W0, hW0⟩ : ∃ W, (w.alloc (.cells (cs nought) 75)).alloc (.cells (cs nought) 75) = W := ⟨_, rfl⟩
 have G0 : IdW.Box W0 w.heap.size nought := by rw [← hW0]; exact (IdW.Box.new w nought _).alloc _
 have G1 : IdW.Box W0 (w.heap.size + 1) nought := by
   rw [← hW0]
   have := IdW.Box.new (w.alloc (.cells (cs nought) 75)) nought 75
   simpa using this
 have kb : Below w.heap.size w W0 := by rw [← hW0]; exact ((Below.refl _ _).alloc (Nat.le_refl _) _).alloc (by simp) _
 have D0 := D.below kb
 have S0 := S.below kb
 have c0 := pd_cell D0
 obtain ⟨A2, c2, hs, S2, hl2⟩ := S.part 32 r.l.length h32 (Nat.le_refl _)
 have e2 : (r.l.drop 32).take (r.l.length - 32) = r.l.drop 32 := List.take_of_length_le (by rw [List.length_drop]; omega)
 rw [e2] at S2 hl2
 rw [← hl2] at hs
 have hP := part_any hs rfl h32
 obtain ⟨l2, hll⟩ : ∃ l, r.l.drop 32 = l := ⟨_, rfl⟩
 rw [hll] at S2 hl2 hs hP
 obtain ⟨N, hN⟩ : ∃ N, r.l.length = N := ⟨_, rfl⟩
 rw [hN] at c0 hs h32
 obtain ⟨x, hx⟩ : ∃ x, headI r.l = x := ⟨_, rfl⟩
 have HN := aside hN
 have HX := aside hx
 have HL := aside hll
 have HH := aside h32
 have hr : ∀ W, (Instr.sliceAt 22 (.slice r.a N r.k) (some (.int .i64 32)) none none).run Tryz.prog W = .ok (.slice A2 l2.length c2) W := fun W => by
   have := run_part_l W r.a N r.k .i64 32 h32
   rw [hs] at this
   exact this
 have hge : ¬ ((N : Int)) < 32 := by omega
 rw [hx, hll]
 clear hs hl2 e2 hll hN hx S h32
 go_enter Tryz.func118, Tryz.ntmps118
 go_wp2_with (first | go_skip | (refine IdJ.wpList_alloc_id rfl rfl ?_) | (refine IdJ.wpList_build0 rfl rfl ?_))
 refine Forks.region copies (by kernel_rfl) (by kernel_rfl) rfl (by kernel_rfl) (by intro c a d v w h; cases d <;> exact h) ?_
 unfold copies
 have kd := below_drew1 (Below.refl W0.heap.size W0)
 have D1 := D0.below kd
 have S1 := S0.below kd
 have H0 := G0.below kd G0.lt
 have H1 := G1.below kd G1.lt
 have b1 := kb.trans (kd.mono kb.size)
 clear hW0 c0 D0 S0 G0 G1 kb kd
 generalize W0.drew = W1 at D1 S1 H0 H1 b1 ⊢
 have c1 := pd_cell D1
 rw [HN.out] at c1
 repeat (first | (refine Forks.checks rfl rfl _ rfl _ rfl ?_; simp only [Act.put, List.setIfInBounds_toArray, List.set_cons_succ, List.set_cons_zero]) | (refine Forks.reads rfl rfl ?_; go_big_quiet_step (fail); refine wpQuiet_nil ?_; (try simp only [Act.put, List.setIfInBounds_toArray, List.set_cons_succ, List.set_cons_zero])))
 refine Forks.acts rfl ?_
 go_wp2_with fail
 refine Forks.on ?_
 (try simp only [Act.put, List.setIfInBounds_toArray, List.set_cons_succ, List.set_cons_zero])
 refine Forks.acts rfl ?_
 go_wp2_with (first | (refine wpList_copy_id rfl _ _ rfl (w.heap.size + 1) rfl nought H1 _ _ _ r.l rfl HN.out S1 HH.out x HX.out ?_; intro W2 J1 b2 g2))
 refine Forks.on ?_
 (try simp only [Act.put, List.setIfInBounds_toArray, List.set_cons_succ, List.set_cons_zero])
 have D2 := D1.kept g2 (far_ne (by omega))
 have k2 := b1.trans (b2 w.heap.size (by omega))
 have J0 := H0.below (b2 (w.heap.size + 1) (Nat.le_refl _)) (by omega)
 have S4 := S2.below k2
 clear D1 S1 H0 H1 b1 c1 b2 g2
 have c1 := pd_cell D2
 rw [HN.out] at c1
 refine Forks.ends ?_
 go_wp2_with (first | go_skip | (refine Cel.wpList_store_field PE rfl rfl 22 _ _ rfl info_s g 0 rfl (of_decide_eq_true rfl) r D2 ⟨A2, c2, l2⟩ _ rfl rfl rfl rfl ?_; intro w3 D3 f3 g3 s3; have T3 := (Turned.of_below k2 (Nat.le_of_lt hglt)).trans ⟨g3, f3⟩; have I0 := box_far J0 g3 (by omega); have I1 := box_far J1 g3 (by omega)) | (refine wpList_load_id rfl _ rfl _ _ rfl x I1.range ?_) | (refine IdJ.wpList_store_box rfl _ _ rfl w.heap.size rfl nought x I0 rfl ?_))
 have kr := IdJ.below_row (Below.refl w.heap.size w3) (Nat.le_refl w.heap.size) (cs x)
 have T4 := T3.far kr (Nat.le_of_lt hglt)
 have S5 := sl_far S4 (no_pd D2) g3
 exact bodyPost_ret (v := .agg (cs x)) (results_id Tryz.results118 _ _ w.heap.size x rfl (IdJ.Box.row I0 x)) rfl ⟨rfl, ⟨A2, c2, l2⟩, ⟨rfl, D3.block kr hglt, sl_far S2 (no_pd D) T4.grown, T4⟩, hP⟩
theorem results_op {fn : Func} {p : Tmp} (h : fn.results = #[.cell p 27]) (tmps : Array Value) (w : World) (g : Nat) (x : Opn)
   (hp : tmps.getD p undef = .pointer (some ⟨g, 0, none⟩)) (hg : OpAt w g x) : (results fn tmps).run Tryz.prog w = .ok (.agg (opc x)) w := by
 obtain ⟨t, ht⟩ := hg
 have hp' : tmps[p]?.getD undef = .pointer (some ⟨g, 0, none⟩) := by simpa using hp
 simp [results, h, hp', asAddr, run_loadVar_row w g t 27 (opc x) (0, 0) _ ht Tryz.underlying27 rfl (info_opc x)]
set_option maxRecDepth 100000 in
set_option maxHeartbeats 8000000 in
theorem op_no {r : Pd} {g : Nat} {w : World} (D : Cel.Box PE w g r) (S : Sl w r.a r.k r.l) (hl : r.l.length ≤ 1099511627776) (hq : getO r.l = none) :
   Calls Tryz.prog 119 #[.pointer (some ⟨g, 0, none⟩)] w fun e w' => e = .panicked dies ∧ Below w.heap.size w w' := by
 obtain ⟨W0, hW0⟩ : ∃ W, w.alloc (.cells #[.int .i64 0, .string ⟨#[]⟩, .string ⟨#[]⟩, .int .i64 0] 27) = W := ⟨_, rfl⟩
 have kb : Below w.heap.size w W0 := by rw [← hW0]; exact (Below.refl _ _).alloc (Nat.le_refl _) _
 have D0 := D.below kb
 have c0 := pd_cell D0
 have q := OpsH.get r.a r.l.length r.k r.l W0 (S.below kb) rfl hl
 rw [hq] at q
 unfold OpsH.GetOut at q
 simp only at q
 clear hl hq D S
 go_enter Tryz.func119, Tryz.ntmps119
 go_wp2_with (first | go_skip)
 refine q.mono ?_
 rintro e w1 ⟨k1, rfl⟩
 have b1 := kb.trans (k1.mono kb.size)
 clear q hW0 c0 D0 kb k1
 go_wp2_with (first | go_skip | (refine CmG.wpList_store_opn rfl _ _ rfl w1 _ _ rfl noOp _ rfl rfl rfl rfl ?_; intro w2 O2 k2 s2))
 exact ⟨rfl, rfl, b1.trans (k2.mono b1.size)⟩
set_option maxRecDepth 100000 in
set_option maxHeartbeats 8000000 in
theorem op_yes {r : Pd} {g : Nat} {w : World} {o : Opn} {l2 : List Int} (D : Cel.Box PE w g r) (S : Sl w r.a r.k r.l) (hl : r.l.length ≤ 1099511627776) (hq : getO r.l = some (o, l2)) :
   Calls Tryz.prog 119 #[.pointer (some ⟨g, 0, none⟩)] w fun e w' => e = .returned (.agg (opc o)) ∧ ∃ r', Took g l2 w w' r' := by
 have hglt := D.lt
 obtain ⟨W0, hW0⟩ : ∃ W, w.alloc (.cells #[.int .i64 0, .string ⟨#[]⟩, .string ⟨#[]⟩, .int .i64 0] 27) = W := ⟨_, rfl⟩
 have R0 : OpAt W0 w.heap.size noOp := by rw [← hW0]; exact OpAt.new w noOp _
 have kb : Below w.heap.size w W0 := by rw [← hW0]; exact (Below.refl _ _).alloc (Nat.le_refl _) _
 have D0 := D.below kb
 have c0 := pd_cell D0
 have q := OpsH.get r.a r.l.length r.k r.l W0 (S.below kb) rfl hl
 rw [hq] at q
 unfold OpsH.GetOut at q
 simp only at q
 clear hl hq D S
 go_enter Tryz.func119, Tryz.ntmps119
 go_wp2_with (first | go_skip)
 refine q.mono ?_
 rintro e w1 ⟨k1, A2, c2, rfl, S1⟩
 have b1 := kb.trans (k1.mono kb.size)
 have D1 := D0.below k1
 have R1 := R0.below k1
 clear q hW0 c0 D0 kb k1 R0
 go_wp2_with (first | go_skip | (refine CmG.wpList_store_opn rfl _ _ rfl w1 _ _ rfl o _ rfl rfl rfl rfl ?_; intro w2 O2 k2 s2; have b2 := b1.trans (k2.mono b1.size); have D2 := D1.below k2; have R2 := R1.below k2; have S2 := S1.below k2; have c1 := pd_cell D2) | (refine Cel.wpList_store_field PE rfl rfl 22 _ _ rfl info_s g 0 rfl (of_decide_eq_true rfl) r D2 ⟨A2, c2, l2⟩ _ rfl rfl rfl rfl ?_; intro w3 D3 f3 g3 s3; have O3 := O2.kept g3 (by have := b1.size; omega); have R3 := R2.kept g3 (by omega); have S3 := sl_far S2 (no_pd D2) g3; have T3 := (Turned.of_below b2 (Nat.le_of_lt hglt)).trans ⟨g3, f3⟩) | (refine wpList_load_op rfl _ rfl _ rfl o O3 ?_) | (refine wpList_store_op rfl rfl _ _ rfl _ rfl noOp R3 o rfl ?_; intro w4 R4 b4 g4))
 have k4 := b4 w.heap.size (Nat.le_refl _)
 have T4 := T3.far k4 (Nat.le_of_lt hglt)
 exact bodyPost_ret (v := .agg (opc o)) (results_op Tryz.results119 _ _ w.heap.size o rfl R4) rfl ⟨rfl, ⟨A2, c2, l2⟩, rfl, D3.block k4 hglt, Sl.kept S3 R3 g4, T4⟩
end Go.Proofs.YtgoapaanmcmlmaaGreatDoor.CmE
namespace Go.Proofs.YtgoapaanmcmlmaaGreatDoor.CmV
set_option maxRecDepth 100000
open Go Go.RowKit Byt IdM IdW OpsM OpsW CmM StW CmW
def Tells (b : Bool) (w : World) (e : Ending) (w' : World) : Prop := e = .returned (.bool b) ∧ Below w.heap.size w w'
set_option maxHeartbeats 4000000 in
theorem event_ret (n s : Int) (w : World) : Calls Tryz.prog 81 #[.agg #[.int .i64 n, .int .i64 s]] w (Tells (StM.eventB n s) w) := by
 have R : Cel.Box EE (w.alloc (.cells (ec ⟨n, s⟩) 24)) w.heap.size (⟨n, s⟩ : Ev) := Cel.Box.new w (⟨n, s⟩ : Ev) _
 have kb := StW.below_alloc w (.cells (ec ⟨n, s⟩) 24)
 obtain ⟨c0, c1⟩ := ev_cells R
 clear R
 obtain ⟨r, hr⟩ : ∃ r, StM.eventB n s = r := ⟨_, rfl⟩
 have hn : r = StM.eventB n s := hr.symm
 rw [hr]
 unfold StM.eventB at hn
 clear hr
 have HN := aside hn
 clear hn
 have hw : ¬ 0 ≤ n ∨ (0 ≤ n ∧ (¬ n < 8 ∨ (n < 8 ∧ (¬ 1 ≤ s ∨ (1 ≤ s ∧ (¬ s ≤ 1048576 ∨ s ≤ 1048576)))))) := by omega
 rcases hw with p2 | ⟨p2, p3 | ⟨p3, p4 | ⟨p4, p5 | p5⟩⟩⟩
 all_goals
   go_enter Tryz.func81, Tryz.ntmps81
   go_wp2
   go_ret
   exact ⟨StW.ret_bool (by rw [HN.out]; simp; omega), kb⟩
set_option maxRecDepth 100000 in
set_option maxHeartbeats 8000000 in
theorem merge_in (v : Cv) (w : World) : Calls Tryz.prog 44 #[.agg (cc v)] w (Tells (mergeB v.c) w) := by
 have R : Cel.Box CE (w.alloc (.cells (cc v) 29)) w.heap.size v := Cel.Box.new w v _
 have kb := StW.below_alloc w (.cells (cc v) 29)
 have qe := fun W => equal_ev 9998 W v.c.node v.c.seq (-1) 0
 have qo := fun W => equal_nought W v.c.op
 have d3 := cell_ps R
 obtain ⟨x, hx⟩ : ∃ x, sameE v.c.node v.c.seq (-1) 0 = x := ⟨_, rfl⟩
 obtain ⟨z, hz⟩ : ∃ z, noughtO v.c.op = z := ⟨_, rfl⟩
 obtain ⟨n, hn⟩ : ∃ n, v.c.ps.length = n := ⟨_, rfl⟩
 have HR : Hid (mergeB v.c = (x && (z && decide (2 ≤ (n : Int))))) := aside (by
   unfold mergeB
   rw [hz, hn, ← hx]
   unfold sameE
   rw [show decide (2 ≤ (n : Int)) = decide (2 ≤ n) by rw [Bool.eq_iff_iff]; simp; omega]
   simp only [Bool.and_assoc])
 rw [hx] at qe
 rw [hz] at qo
 rw [hn] at d3
 clear hx hz hn
 have hxz : x = false ∨ x = true ∧ z = false ∨ x = true ∧ z = true := by cases x <;> cases z <;> simp
 unfold Tells
 rcases hxz with rfl | ⟨rfl, rfl⟩ | ⟨rfl, rfl⟩
 all_goals
   go_enter Tryz.func44, Tryz.ntmps44
   go_wp2_with (first | go_skip | (refine gkev _ rfl _ rfl v R rfl ?_) | (refine gkop _ rfl _ rfl v R rfl ?_))
   go_ret
   exact ⟨StW.ret_bool (by rw [HR.out]; rfl), kb⟩
theorem line_is {c : Com} {n : Nat} {r x y : Bool} (hn : c.ps.length = n) (hr : risesB c.ps = r) (hx : (c.gen == 1) = x) (hy : ((n : Int) == 0) = y) :
   lineB c = (decide (1 ≤ c.gen) && (decide (c.gen ≤ 1048576) && (decide ((n : Int) ≤ 8) && (r && (x == y))))) := by
 subst hn hr hx hy
 unfold lineB
 rw [show decide ((c.ps.length : Int) ≤ 8) = decide (c.ps.length ≤ 8) by rw [Bool.eq_iff_iff]; simp; omega, show ((c.ps.length : Int) == 0) = decide (c.ps.length = 0) by rw [Bool.eq_iff_iff]; simp]
 rfl
set_option maxRecDepth 100000 in
set_option maxHeartbeats 8000000 in
theorem place_ret (v : Cv) (w : World) (S : In w v) : Calls Tryz.prog 80 #[.agg (cc v)] w (Tells (lineB v.c) w) := by
 have R : Cel.Box CE (w.alloc (.cells (cc v) 29)) w.heap.size v := Cel.Box.new w v _
 have kb := StW.below_alloc w (.cells (cc v) 29)
 have S0 := S.below kb
 have q0 := fun W T => IdV.rises_ret v.a v.k v.c.ps W T
 obtain ⟨r, hr⟩ : ∃ r, risesB v.c.ps = r := ⟨_, rfl⟩
 obtain ⟨n, hn⟩ : ∃ n, v.c.ps.length = n := ⟨_, rfl⟩
 obtain ⟨x, hx⟩ : ∃ x, (v.c.gen == 1) = x := ⟨_, rfl⟩
 obtain ⟨y, hy⟩ : ∃ y, ((n : Int) == 0) = y := ⟨_, rfl⟩
 have HR := aside (line_is hn hr hx hy)
 have HN := aside hn
 have d1 := cell_gen R
 have d3 := cell_ps R
 rw [hn] at d3 q0
 rw [hr] at q0
 obtain ⟨g, hg⟩ : ∃ g, v.c.gen = g := ⟨_, rfl⟩
 have HG := aside hg
 rw [hg] at d1 hx HR
 clear hr S hn hg
 unfold Tells
 have hw : g < 1 ∨ (1 ≤ g ∧ (1048576 < g ∨ (g ≤ 1048576 ∧ (8 < (n : Int) ∨ (n : Int) ≤ 8)))) := by omega
 rcases hw with p | ⟨p1, p | ⟨p2, p | p⟩⟩
 case inr.inr.inr =>
   go_enter Tryz.func80, Tryz.ntmps80
   go_wp2_with (first | go_skip)
   refine (q0 _ S0).mono ?_
   rintro e w1 ⟨rfl, k1⟩
   have R1 := R.below k1
   have b1 := kb.trans (k1.mono kb.size)
   clear q0 d1 d3 R S0 k1 kb
   have d1 := cell_gen R1
   have d3 := cell_ps R1
   rw [HN.out] at d3
   rw [HG.out] at d1
   have hw : r = false ∨ r = true ∧ x = false ∧ y = false ∨ r = true ∧ x = false ∧ y = true ∨ r = true ∧ x = true ∧ y = false ∨ r = true ∧ x = true ∧ y = true := by cases r <;> cases x <;> cases y <;> simp
   rcases hw with rfl | ⟨rfl, rfl, rfl⟩ | ⟨rfl, rfl, rfl⟩ | ⟨rfl, rfl, rfl⟩ | ⟨rfl, rfl, rfl⟩
   all_goals
     go_wp2_with (first | go_skip)
     go_ret
     exact ⟨StW.ret_bool (by rw [HR.out]; simp; try omega), b1⟩
 all_goals
   go_enter Tryz.func80, Tryz.ntmps80
   go_wp2_with (first | go_skip)
   go_ret
   exact ⟨StW.ret_bool (by rw [HR.out]; simp; omega), kb⟩
set_option maxRecDepth 100000 in
set_option maxHeartbeats 8000000 in
theorem may_ret (v : Cv) (w : World) (S : In w v) (hf : Fit v.c) : Calls Tryz.prog 41 #[.agg (cc v)] w (Tells (mayK v.c) w) := by
 have R : Cel.Box CE (w.alloc (.cells (cc v) 29)) w.heap.size v := Cel.Box.new w v _
 have kb := StW.below_alloc w (.cells (cc v) 29)
 have S0 := S.below kb
 have q1 := fun W T => place_ret v W T
 have q2 := fun W => merge_in v W
 have q3 := fun W => event_ret v.c.node v.c.seq W
 have q4 := fun W => OpsC.may v.c.op W hf.op
 obtain ⟨z1, h1⟩ : ∃ z, lineB v.c = z := ⟨_, rfl⟩
 obtain ⟨z2, h2⟩ : ∃ z, mergeB v.c = z := ⟨_, rfl⟩
 obtain ⟨z3, h3⟩ : ∃ z, StM.eventB v.c.node v.c.seq = z := ⟨_, rfl⟩
 obtain ⟨z4, h4⟩ : ∃ z, mayO v.c.op = z := ⟨_, rfl⟩
 have HR : Hid (mayK v.c = (z1 && (z2 || (z3 && z4)))) := aside (by unfold mayK; rw [h1, h2, h3, h4])
 rw [h1] at q1
 rw [h2] at q2
 rw [h3] at q3
 rw [h4] at q4
 clear h1 h2 h3 h4 S hf
 unfold Tells at q1 q2 q3 ⊢
 go_enter Tryz.func41, Tryz.ntmps41
 go_wp2_with (first | go_skip | (refine gload _ rfl _ rfl v R rfl ?_))
 refine (q1 _ S0).mono ?_
 rintro e w1 ⟨rfl, k1⟩
 have R1 := R.below k1
 have b1 := kb.trans (k1.mono kb.size)
 clear q1 R S0 k1 kb
 cases z1 with
 | false =>
   go_wp2_with (first | go_skip)
   go_ret
   exact ⟨StW.ret_bool (by rw [HR.out]; rfl), b1⟩
 | true =>
   go_wp2_with (first | go_skip | (refine gload _ rfl _ rfl v R1 rfl ?_))
   refine (q2 _).mono ?_
   rintro e w2 ⟨rfl, k2⟩
   have R2 := R1.below k2
   have b2 := b1.trans (k2.mono b1.size)
   clear q2 R1 k2 b1
   cases z2 with
   | true =>
     go_wp2_with (first | go_skip)
     go_ret
     exact ⟨StW.ret_bool (by rw [HR.out]; rfl), b2⟩
   | false =>
     go_wp2_with (first | go_skip | (refine gkev _ rfl _ rfl v R2 rfl ?_))
     refine (q3 _).mono ?_
     rintro e w3 ⟨rfl, k3⟩
     have R3 := R2.below k3
     have b3 := b2.trans (k3.mono b2.size)
     clear q3 R2 k3 b2
     cases z3 with
     | false =>
       go_wp2_with (first | go_skip)
       go_ret
       exact ⟨StW.ret_bool (by rw [HR.out]; rfl), b3⟩
     | true =>
       go_wp2_with (first | go_skip | (refine gkop _ rfl _ rfl v R3 rfl ?_))
       refine (q4 _).mono ?_
       rintro e w4 ⟨rfl, k4⟩
       have b4 := b3.trans (k4.mono b3.size)
       go_wp2_with (first | go_skip)
       go_ret
       exact ⟨StW.ret_bool (by rw [HR.out]; rfl), b4⟩
set_option maxRecDepth 100000 in
set_option maxHeartbeats 8000000 in
theorem merge_ret (v : Cv) (w : World) (S : In w v) : Calls Tryz.prog 71 #[.agg (cc v)] w (Tells (isM v.c) w) := by
 have R : Cel.Box CE (w.alloc (.cells (cc v) 29)) w.heap.size v := Cel.Box.new w v _
 have kb := StW.below_alloc w (.cells (cc v) 29)
 have S0 := S.below kb
 have q1 := fun W T => place_ret v W T
 have q2 := fun W => merge_in v W
 have hm : isM v.c = (lineB v.c && mergeB v.c) := by rw [Bool.eq_iff_iff, isM_iff, Bool.and_eq_true]
 obtain ⟨z1, h1⟩ : ∃ z, lineB v.c = z := ⟨_, rfl⟩
 obtain ⟨z2, h2⟩ : ∃ z, mergeB v.c = z := ⟨_, rfl⟩
 rw [h1, h2] at hm
 have HR := aside hm
 rw [h1] at q1
 rw [h2] at q2
 clear h1 h2 S hm
 unfold Tells at q1 q2 ⊢
 go_enter Tryz.func71, Tryz.ntmps71
 go_wp2_with (first | go_skip | (refine gload _ rfl _ rfl v R rfl ?_))
 refine (q1 _ S0).mono ?_
 rintro e w1 ⟨rfl, k1⟩
 have R1 := R.below k1
 have b1 := kb.trans (k1.mono kb.size)
 clear q1 R S0 k1 kb
 cases z1 with
 | false =>
   go_wp2_with (first | go_skip)
   go_ret
   exact ⟨StW.ret_bool (by rw [HR.out]; rfl), b1⟩
 | true =>
   go_wp2_with (first | go_skip | (refine gload _ rfl _ rfl v R1 rfl ?_))
   refine (q2 _).mono ?_
   rintro e w2 ⟨rfl, k2⟩
   have b2 := b1.trans (k2.mono b1.size)
   go_wp2_with (first | go_skip)
   go_ret
   exact ⟨StW.ret_bool (by rw [HR.out]; rfl), b2⟩
end Go.Proofs.YtgoapaanmcmlmaaGreatDoor.CmV
