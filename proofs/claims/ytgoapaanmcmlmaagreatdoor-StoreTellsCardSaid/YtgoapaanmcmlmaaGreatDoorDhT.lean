/- What the project's together of package dag returns: a contract. -/
import Derived.Test.YtgoapaanmcmlmaaGreatDoorIdKJ3
import Derived.Test.YtgoapaanmcmlmaaGreatDoorIdXJ10
import Derived.Test.YtgoapaanmcmlmaaGreatDoorForksJ3
import Derived.BigRegion
namespace Go.Proofs.YtgoapaanmcmlmaaGreatDoor.DhT
set_option maxRecDepth 100000
open Go Go.Sort Go.RowKit Byt IdM IdW OpsM OpsW CmM StW CmW CmX CmY DgM DgW DgX DgY
open Classical
abbrev Vw := Com × (Int → Int)
def vals (f : Idn → Option Vw) (a : Idn) : Option Value := (f a).map fun v => .agg (vc v)
def VwIn (w : World) (b n : Nat) (f : Idn → Option Vw) : Prop := MapV.ValIn w b n (vals f)
theorem VwIn.below {w w' : World} {b n : Nat} {f : Idn → Option Vw} (h : VwIn w b n f) (hb : Below w.heap.size w w') : VwIn w' b n f := MapV.ValIn.below h hb
def zeroW : Vw := (noK, fun _ => 0)
theorem zero_view (w : World) : (zeroValue 102).run Tryz.prog w = .ok (.agg (vc zeroW)) w := by kernel_rfl
theorem mapT : Tryz.prog.underlying 65 = some (.map 75 102) := Tryz.underlying65
theorem vals_some {f : Idn → Option Vw} {a : Idn} {v : Vw} (h : f a = some v) : (vals f a).getD (.agg (vc zeroW)) = .agg (vc v) ∧ (vals f a).isSome = true := by unfold vals; rw [h]; exact ⟨rfl, rfl⟩
theorem vals_none {f : Idn → Option Vw} {a : Idn} (h : f a = none) : (vals f a).getD (.agg (vc zeroW)) = .agg (vc zeroW) ∧ (vals f a).isSome = false := by unfold vals; rw [h]; exact ⟨rfl, rfl⟩
def Good (f : Idn → Option Vw) : Prop := ∀ a v, f a = some v → 0 ≤ v.1.node ∧ v.1.node < 8 ∧ v.1.gen ≤ 1048576
theorem most_take {ps : List Idn} {g : Idn → Int} {k : Nat} {a : Idn} (h : ps[k]? = some a) : most ((ps.take (k + 1)).map g) = max (most ((ps.take k).map g)) (g a) := by
 obtain ⟨hk, e⟩ := List.getElem?_eq_some_iff.1 h
 rw [List.take_succ_eq_append_getElem hk, List.map_append, List.map_cons, List.map_nil, most_snoc, e]
theorem build_ck (w : World) : (Instr.build 100 #[]).run Tryz.prog w = .ok (.agg (ck fun _ => 0)) w := Go.run_build w 100 _ _ (by kernel_rfl)
section
variable {ops : Array Oper} {rest : List Oper} {o : Oper} {a : Act} {w : World} {Q : Exit → Act → World → Prop}
theorem wpList_build_ck (hgd : o.guard = none) (ho : o.op = .build 100 #[]) (h : wpList Tryz.prog ops Q rest (a.put o.dst (.agg (ck fun _ => 0))) w) : wpList Tryz.prog ops Q (o :: rest) a w := by
 refine wpList_plain hgd fun K hK => ?_
 unfold Oper.wp execOp
 simp only [ho, List.map_toArray, List.map_nil, Sem.run_bind, build_ck, Result.andThen_ok, Sem.run_pure]
 exact hK _ _ h
theorem load_seen (hgd : o.guard = none) (x : Operand) (ho : o.op = .load 100 x) (g : Nat) (hx : a.eval x = .pointer (some ⟨g, 3, none⟩)) (v : Vw) (hb : Cel.Box VE w g v) (h : wpList Tryz.prog ops Q rest (a.put o.dst (.agg (ck v.2))) w) : wpList Tryz.prog ops Q (o :: rest) a w :=
 wpList_load_mid hgd CK.T x ho g 3 hx (ckL v.2) _ (fun j u hu => by
   have := hb.range (3 + j) u (by show ([Value.int .i64 v.1.node, .int .i64 v.1.seq, .int .i64 v.1.gen] ++ ckL v.2)[3 + j]? = some u; rw [List.getElem?_append_right (by simp)]; simpa using hu)
   rwa [Nat.zero_add] at this) CK.under CK.row (CK.size v.2) h
theorem load_vev (hgd : o.guard = none) (x : Operand) (ho : o.op = .load 24 x) (g : Nat) (hx : a.eval x = .pointer (some ⟨g, 0, none⟩)) (v : Vw) (hb : Cel.Box VE w g v) (h : wpList Tryz.prog ops Q rest (a.put o.dst (.agg (ec ⟨v.1.node, v.1.seq⟩))) w) : wpList Tryz.prog ops Q (o :: rest) a w :=
 wpList_load_mid hgd EE.T x ho g 0 hx (EE.enc ⟨v.1.node, v.1.seq⟩) _ (fun j u hu => hb.range j u (by
   show ([Value.int .i64 v.1.node, .int .i64 v.1.seq, .int .i64 v.1.gen] ++ ckL v.2)[j]? = some u
   have hj : j < 2 := (List.getElem?_eq_some_iff.1 hu).1
   rcases (by omega : j = 0 ∨ j = 1) with rfl | rfl <;> exact hu)) EE.under EE.row (EE.size _) h
theorem gseen (x : Operand) (ho : o.op = .load 100 x) (g : Nat) (hx : a.eval x = .pointer (some ⟨g, 3, none⟩)) (v : Vw) (hb : Cel.Box VE w g v) (hw : Region.wanted o (yielded ops a.tmps) = true) (h : wpList Tryz.prog ops Q rest (a.put o.dst (.agg (ck v.2))) w) : wpList Tryz.prog ops Q (o :: rest) a w :=
 RowC.unguard hw (load_seen rfl x ho g hx v hb h)
theorem gvev (x : Operand) (ho : o.op = .load 24 x) (g : Nat) (hx : a.eval x = .pointer (some ⟨g, 0, none⟩)) (v : Vw) (hb : Cel.Box VE w g v) (hw : Region.wanted o (yielded ops a.tmps) = true) (h : wpList Tryz.prog ops Q rest (a.put o.dst (.agg (ec ⟨v.1.node, v.1.seq⟩))) w) : wpList Tryz.prog ops Q (o :: rest) a w :=
 RowC.unguard hw (load_vev rfl x ho g hx v hb h)
end
def ends : Forks.Tree := .free 1 (.free 3 (.free 4 (.two 0 (.two 2 (.free 5 (.act 6 (.free 7 .ends))) 6 (.act 2 (.free 5 (.free 7 .ends)))) 2 (.free 5 (.act 0 (.act 6 (.free 7 .ends)))))))
set_option maxRecDepth 100000 in
set_option maxHeartbeats 16000000 in
theorem together_ret (mb n : Nat) (f : Idn → Option Vw) (v : Cv) (w : World) (M : VwIn w mb n f) (hg : Good f) (S : In w v) :
   Calls Tryz.prog 72 #[.map (some mb), .agg (cc v)] w fun e w' => ∃ s b, e = .returned (.tuple #[.agg (ck s), .bool b]) ∧ b = decide (Tog f v.c.ps v.c.gen) ∧ (b = true → ∀ m, 0 ≤ m → m < 8 → s m = togS f v.c.ps m) ∧ Below w.heap.size w w' := by
 have z1 : (w.alloc (.cells (cc v) 29)).heap.size = w.heap.size + 1 := by simp
 have z2 : ((w.alloc (.cells (cc v) 29)).alloc (.cells #[.int .i64 0, .int .i64 0, .int .i64 0, .int .i64 0, .int .i64 0, .int .i64 0, .int .i64 0, .int .i64 0] 100)).heap.size = w.heap.size + 1 + 1 := by simp
 have B0 : Cel.Box CE (((w.alloc (.cells (cc v) 29)).alloc (.cells #[.int .i64 0, .int .i64 0, .int .i64 0, .int .i64 0, .int .i64 0, .int .i64 0, .int .i64 0, .int .i64 0] 100)).alloc (.cells #[.int .i64 0, .int .i64 0, .int .i64 0, .int .i64 0, .int .i64 0, .int .i64 0, .int .i64 0, .int .i64 0] 100)) w.heap.size v := ((Cel.Box.new (E := CE) w v _).alloc _).alloc _
 have B1 : Cel.Box CK (((w.alloc (.cells (cc v) 29)).alloc (.cells #[.int .i64 0, .int .i64 0, .int .i64 0, .int .i64 0, .int .i64 0, .int .i64 0, .int .i64 0, .int .i64 0] 100)).alloc (.cells #[.int .i64 0, .int .i64 0, .int .i64 0, .int .i64 0, .int .i64 0, .int .i64 0, .int .i64 0, .int .i64 0] 100)) (w.heap.size + 1) (fun _ => 0) := by
   rw [← z1]
   exact (Cel.Box.new (E := CK) _ (fun _ => 0) _).alloc _
 have B2 : Cel.Box CK (((w.alloc (.cells (cc v) 29)).alloc (.cells #[.int .i64 0, .int .i64 0, .int .i64 0, .int .i64 0, .int .i64 0, .int .i64 0, .int .i64 0, .int .i64 0] 100)).alloc (.cells #[.int .i64 0, .int .i64 0, .int .i64 0, .int .i64 0, .int .i64 0, .int .i64 0, .int .i64 0, .int .i64 0] 100)) (w.heap.size + 1 + 1) (fun _ => 0) := by
   rw [← z2]
   exact Cel.Box.new (E := CK) _ (fun _ => 0) _
 have kb : Below w.heap.size w (((w.alloc (.cells (cc v) 29)).alloc (.cells #[.int .i64 0, .int .i64 0, .int .i64 0, .int .i64 0, .int .i64 0, .int .i64 0, .int .i64 0, .int .i64 0] 100)).alloc (.cells #[.int .i64 0, .int .i64 0, .int .i64 0, .int .i64 0, .int .i64 0, .int .i64 0, .int .i64 0, .int .i64 0] 100)) := (((Below.refl _ _).alloc (Nat.le_refl _) _).alloc (by simp) _).alloc (by simp; omega) _
 clear z1 z2
 obtain ⟨ps, hps⟩ : ∃ ps, v.c.ps = ps := ⟨_, rfl⟩
 obtain ⟨A, hA⟩ : ∃ A, v.a = A := ⟨_, rfl⟩
 obtain ⟨cap, hcap⟩ : ∃ cap, v.k = cap := ⟨_, rfl⟩
 have S0 : SlI w A cap ps := by rw [← hps, ← hA, ← hcap]; exact S
 have hmax : ps.length ≤ 9223372036854775807 := by have := S0.1; have := S0.2.1; unfold maxLen at this; omega
 have c3 := cell_ps B0
 rw [hps, hA, hcap] at c3
 have HC := aside (show ∀ (W : World), Cel.Box CE W w.heap.size v → W.cell? ⟨w.heap.size, 3, none⟩ = some (.slice A ps.length cap) from fun W B => by rw [← hps, ← hA, ← hcap]; exact cell_ps B)
 have HPS := aside hps
 have HG := aside hg
 clear hps S hg hA hcap
 go_enter Tryz.func72, Tryz.ntmps72
 go_wp2_with (first | go_skip)
 go_loopw [7, 18] (fun g i wr => ∃ (k : Nat) (q : Int), k ≤ ps.length ∧ i = .int .i64 k ∧ g = .int .i64 q ∧ Hid (q = most ((ps.take k).map (vGen f))) ∧ Hid ((∀ a ∈ ps.take k, f a ≠ none) ∧ ∀ (i j : Nat) (a b : Idn), i < k → j < i → ps[i]? = some a → ps[j]? = some b → ∀ v u, f a = some v → f b = some u → ¬ vHas u v ∧ ¬ vHas v u) ∧ Cel.Box CE wr w.heap.size v ∧ Cel.Box CK wr (w.heap.size + 1) (fun _ => 0) ∧ Cel.Box CK wr (w.heap.size + 1 + 1) (togS f (ps.take k)) ∧ Below w.heap.size w wr) (fun _ i _ => ps.length - (intOf i).toNat)
 case atStart => exact ⟨0, 0, Nat.zero_le _, rfl, rfl, aside rfl, aside ⟨by simp, fun i j a b h => absurd h (Nat.not_lt_zero i)⟩, B0, B1, box_congr B2 fun _ _ _ => rfl, kb⟩
 case round =>
   clear B0 B1 B2 kb c3
   obtain ⟨k, q, hk, rfl, rfl, HQ, HA, B0, B1, B2, kb⟩ := hrel
   by_cases hlt : k < ps.length
   · obtain ⟨b, off, rfl, hbw, hrg⟩ := S0.plain (by omega)
     obtain ⟨x, hx⟩ : ∃ x, ps[k]? = some x := ⟨_, List.getElem?_eq_getElem hlt⟩
     have rx := IdW.range_below (hrg k hlt) kb
     rw [show ps.getD k nought = x by rw [List.getD_eq_getElem?_getD, hx]; rfl] at rx
     have p0 : (k : Int) < ps.length := by omega
     have m0 : ((k : Int)).toNat = k := by omega
     have HX := aside hx
     clear hrg hx
     cases hfx : f x with
     | none =>
       obtain ⟨hu, hi⟩ := vals_none hfx
       have HF := aside hfx
       clear hfx
       go_wp2_with (first | go_skip | (refine wpList_load_id rfl _ rfl _ _ rfl x rx ?_) | (refine IdJ.wpList_alloc_id rfl rfl ?_) | (refine CmG.wpList_store_id rfl _ _ rfl wr nought _ rfl x _ rfl rfl rfl ?_; intro w1 I1 k1 s1; have b1 := kb.trans (k1.mono kb.size); have M1 := M.below b1; have D1 := B1.below k1; clear s1) | (refine wpList_load_id rfl _ rfl _ _ rfl x I1.range ?_) | (refine MapV.wpList_find_ok mapT _ zero_view rfl _ _ rfl mb n _ rfl M1 x rfl _ hu _ hi ?_) | (refine Cel.wpList_store_new VE rfl _ _ rfl w1 _ _ rfl zeroW _ rfl rfl rfl rfl ?_; intro w2 V2 k2 g2 s2; have b2 := b1.trans (k2.mono b1.size); have D2 := D1.below k2; clear g2 s2) | (refine wpList_build_ck rfl rfl ?_) | (refine Cel.wpList_store_box CK rfl _ _ rfl (w.heap.size + 1) rfl _ D2 (fun _ => 0) rfl ?_; intro w3 D3 f3 g3 s3))
       exact bodyPost_ret (v := .tuple #[.agg (ck fun _ => 0), .bool false]) (results_ckb Tryz.results72 _ _ (w.heap.size + 1) _ _ rfl rfl D3) rfl ⟨_, false, rfl, (decide_eq_false fun T => T.there x (by rw [HPS.out]; exact List.mem_of_getElem? HX.out) HF.out).symm, (fun h => absurd h (by decide)), b2.trans (f3 _ (by omega))⟩
     | some u =>
       obtain ⟨hu, hi⟩ := vals_some hfx
       obtain ⟨A2, cap2, er, T2, _⟩ := IdX.SlI.part S0 0 k (Nat.zero_le _) hk
       rw [List.drop_zero, Nat.sub_zero] at T2
       have hsl : ∀ V, (Instr.sliceAt 25 (.slice (some ⟨b, off, none⟩) ps.length cap) none (some (.int .i64 (k : Int))) none).run Tryz.prog V = .ok (.slice A2 k cap2) V := fun V => (IdX.run_part_h V (some ⟨b, off, none⟩) ps.length cap .i64 k (by have := S0.1; omega)).trans (by rw [er, Nat.sub_zero])
       have hLl : (ps.take k).length = k := by rw [List.length_take]; omega
       have HF := aside hfx
       have HT2 := aside T2
       have HLl := aside hLl
       clear hfx er T2 hLl
       go_wp2_with (first | go_skip | (refine wpList_load_id rfl _ rfl _ _ rfl x rx ?_) | (refine IdJ.wpList_alloc_id rfl rfl ?_) | (refine CmG.wpList_store_id rfl _ _ rfl wr nought _ rfl x _ rfl rfl rfl ?_; intro w1 I1 k1 s1; have b1 := kb.trans (k1.mono kb.size); have M1 := M.below b1; have C1 := B0.below k1; have D1 := B1.below k1; have E1 := B2.below k1; clear s1 B0 B1 B2 kb) | (refine wpList_load_id rfl _ rfl _ _ rfl x I1.range ?_) | (refine MapV.wpList_find_ok mapT _ zero_view rfl _ _ rfl mb n _ rfl M1 x rfl _ hu _ hi ?_) | (refine Cel.wpList_store_new VE rfl _ _ rfl w1 _ _ rfl u _ rfl rfl rfl rfl ?_; intro w2 V2 k2 g2 s2; have b2 := b1.trans (k2.mono b1.size); have C2 := C1.below k2; have D2 := D1.below k2; have E2 := E1.below k2; have c3 := HC.out _ C2; have hV : w.heap.size ≤ w1.heap.size := b1.size; clear g2 s2 C1 D1 E1 b1 M1))
       go_loopw [37] (fun i wq => ∃ j : Nat, j ≤ k ∧ i = .int .i64 j ∧ Hid (∀ (j' : Nat) (b : Idn), j' < j → ps[j']? = some b → ∀ u', f b = some u' → ¬ vHas u' u ∧ ¬ vHas u u') ∧ Cel.Box CE wq w.heap.size v ∧ Cel.Box CK wq (w.heap.size + 1) (fun _ => 0) ∧ Cel.Box CK wq (w.heap.size + 1 + 1) (togS f (ps.take k)) ∧ Cel.Box VE wq w1.heap.size u ∧ Below w.heap.size w wq) (fun i _ => k - (intOf i).toNat)
       case atStart => exact ⟨0, Nat.zero_le _, rfl, aside (fun j' b h => absurd h (Nat.not_lt_zero j')), C2, D2, E2, V2, b2⟩
       case round =>
         clear C2 D2 E2 V2 b2 c3 k1 k2 I1
         obtain ⟨j, hj, rfl, HJ, C2, D2, E2, V2, b2⟩ := hrel
         by_cases hjk : j < k
         · obtain ⟨bq, oq, rfl, hbq, hrq⟩ := SlI.plain HT2.out (by rw [HLl.out]; omega)
           obtain ⟨y, hy⟩ : ∃ y, ps[j]? = some y := ⟨_, List.getElem?_eq_getElem (by omega)⟩
           have hyk : (ps.take k)[j]? = some y := by rw [List.getElem?_take_of_lt hjk]; exact hy
           have ry := IdW.range_below (hrq j (by rw [HLl.out]; exact hjk)) b2
           rw [show (ps.take k).getD j nought = y by rw [List.getD_eq_getElem?_getD, hyk]; rfl] at ry
           obtain ⟨u', hfy⟩ : ∃ u', f y = some u' := by
             cases h : f y with
             | none => exact absurd h (HA.out.1 y (List.mem_of_getElem? hyk))
             | some u' => exact ⟨u', rfl⟩
           obtain ⟨hu2, _⟩ := vals_some hfy
           obtain ⟨g1, g2, _⟩ := HG.out _ _ HF.out
           obtain ⟨g3, g4, _⟩ := HG.out _ _ hfy
           have q1 := has_ret u'.2 ⟨u.1.node, u.1.seq⟩ ⟨g1, g2⟩
           have q2 := has_ret u.2 ⟨u'.1.node, u'.1.seq⟩ ⟨g3, g4⟩
           obtain ⟨t1, ht1⟩ : ∃ t1, decide (u.1.seq ≤ u'.2 u.1.node) = t1 := ⟨_, rfl⟩
           obtain ⟨t2, ht2⟩ : ∃ t2, decide (u'.1.seq ≤ u.2 u'.1.node) = t2 := ⟨_, rfl⟩
           rw [ht1] at q1
           rw [ht2] at q2
           have p1 : (j : Int) < k := by omega
           have m1 : ((j : Int)).toNat = j := by omega
           have HY := aside hy
           have HFY := aside hfy
           have HT1 := aside ht1
           have HT22 := aside ht2
           have M2 := M.below b2
           clear hrq hy hyk hfy g1 g2 g3 g4 ht1 ht2
           cases t1 with
           | true =>
             go_wp2_with (first | go_skip | (refine wpList_load_id rfl _ rfl _ _ rfl y ry ?_) | (refine IdJ.wpList_alloc_id rfl rfl ?_) | (refine CmG.wpList_store_id rfl _ _ rfl wr nought _ rfl y _ rfl rfl rfl ?_; intro w3 I3 k3 s3; have b3 := b2.trans (k3.mono b2.size); have M3 := M.below b3; have C3 := C2.below k3; have D3 := D2.below k3; have E3 := E2.below k3; have V3 := V2.below k3; clear s3 C2 D2 E2 V2 b2 M2) | (refine wpList_load_id rfl _ rfl _ _ rfl y I3.range ?_) | (refine MapV.wpList_find mapT _ zero_view rfl _ _ rfl mb n _ rfl M3 y rfl _ hu2 ?_) | (refine Cel.wpList_store_new VE rfl _ _ rfl w3 _ _ rfl u' _ rfl rfl rfl rfl ?_; intro w4 U4 k4 g4 s4; have b4 := b3.trans (k4.mono b3.size); have C4 := C3.below k4; have D4 := D3.below k4; have E4 := E3.below k4; have V4 := V3.below k4; clear g4 s4 C3 D3 E3 V3 b3 M3 I3 k3 k4) | (refine load_seen rfl _ rfl _ rfl u' U4 ?_) | (refine load_vev rfl _ rfl _ rfl u V4 ?_))
             refine (q1 _).mono ?_
             rintro e w5 ⟨rfl, k5⟩
             have b5 := b4.trans (k5.mono b4.size)
             have C5 := C4.below k5
             have D5 := D4.below k5
             have E5 := E4.below k5
             have V5 := V4.below k5
             have U5 := U4.below k5
             clear C4 D4 E4 V4 U4 b4 k5
             go_wp2_with (first | go_skip | (refine wpList_build_ck rfl rfl ?_) | (refine Cel.wpList_store_box CK rfl _ _ rfl (w.heap.size + 1) rfl _ D5 (fun _ => 0) rfl ?_; intro w7 D7 f7 g7 s7))
             exact bodyPost_ret (v := .tuple #[.agg (ck fun _ => 0), .bool false]) (results_ckb Tryz.results72 _ _ (w.heap.size + 1) _ _ rfl rfl D7) rfl ⟨_, false, rfl, (decide_eq_false fun T => (T.apart k j x y hjk (by rw [HPS.out]; exact HX.out) (by rw [HPS.out]; exact HY.out) u u' HF.out HFY.out).1 (show u.1.seq ≤ u'.2 u.1.node from of_decide_eq_true HT1.out)).symm, (fun h => absurd h (by decide)), b5.trans (f7 _ (by omega))⟩
           | false =>
             cases t2 with
             | true =>
               go_wp2_with (first | go_skip | (refine wpList_load_id rfl _ rfl _ _ rfl y ry ?_) | (refine IdJ.wpList_alloc_id rfl rfl ?_) | (refine CmG.wpList_store_id rfl _ _ rfl wr nought _ rfl y _ rfl rfl rfl ?_; intro w3 I3 k3 s3; have b3 := b2.trans (k3.mono b2.size); have M3 := M.below b3; have C3 := C2.below k3; have D3 := D2.below k3; have E3 := E2.below k3; have V3 := V2.below k3; clear s3 C2 D2 E2 V2 b2 M2) | (refine wpList_load_id rfl _ rfl _ _ rfl y I3.range ?_) | (refine MapV.wpList_find mapT _ zero_view rfl _ _ rfl mb n _ rfl M3 y rfl _ hu2 ?_) | (refine Cel.wpList_store_new VE rfl _ _ rfl w3 _ _ rfl u' _ rfl rfl rfl rfl ?_; intro w4 U4 k4 g4 s4; have b4 := b3.trans (k4.mono b3.size); have C4 := C3.below k4; have D4 := D3.below k4; have E4 := E3.below k4; have V4 := V3.below k4; clear g4 s4 C3 D3 E3 V3 b3 M3 I3 k3 k4) | (refine load_seen rfl _ rfl _ rfl u' U4 ?_) | (refine load_vev rfl _ rfl _ rfl u V4 ?_))
               refine (q1 _).mono ?_
               rintro e w5 ⟨rfl, k5⟩
               have b5 := b4.trans (k5.mono b4.size)
               have C5 := C4.below k5
               have D5 := D4.below k5
               have E5 := E4.below k5
               have V5 := V4.below k5
               have U5 := U4.below k5
               clear C4 D4 E4 V4 U4 b4 k5
               go_wp2_with (first | go_skip | (refine gseen _ rfl _ rfl u V5 rfl ?_) | (refine gvev _ rfl _ rfl u' U5 rfl ?_))
               refine (q2 _).mono ?_
               rintro e w6 ⟨rfl, k6⟩
               have b6 := b5.trans (k6.mono b5.size)
               have C6 := C5.below k6
               have D6 := D5.below k6
               have E6 := E5.below k6
               have V6 := V5.below k6
               clear C5 D5 E5 V5 U5 b5 k6
               go_wp2_with (first | go_skip | (refine wpList_build_ck rfl rfl ?_) | (refine Cel.wpList_store_box CK rfl _ _ rfl (w.heap.size + 1) rfl _ D6 (fun _ => 0) rfl ?_; intro w7 D7 f7 g7 s7))
               exact bodyPost_ret (v := .tuple #[.agg (ck fun _ => 0), .bool false]) (results_ckb Tryz.results72 _ _ (w.heap.size + 1) _ _ rfl rfl D7) rfl ⟨_, false, rfl, (decide_eq_false fun T => (T.apart k j x y hjk (by rw [HPS.out]; exact HX.out) (by rw [HPS.out]; exact HY.out) u u' HF.out HFY.out).2 (show u'.1.seq ≤ u.2 u'.1.node from of_decide_eq_true HT22.out)).symm, (fun h => absurd h (by decide)), b6.trans (f7 _ (by omega))⟩
             | false =>
               go_wp2_with (first | go_skip | (refine wpList_load_id rfl _ rfl _ _ rfl y ry ?_) | (refine IdJ.wpList_alloc_id rfl rfl ?_) | (refine CmG.wpList_store_id rfl _ _ rfl wr nought _ rfl y _ rfl rfl rfl ?_; intro w3 I3 k3 s3; have b3 := b2.trans (k3.mono b2.size); have M3 := M.below b3; have C3 := C2.below k3; have D3 := D2.below k3; have E3 := E2.below k3; have V3 := V2.below k3; clear s3 C2 D2 E2 V2 b2 M2) | (refine wpList_load_id rfl _ rfl _ _ rfl y I3.range ?_) | (refine MapV.wpList_find mapT _ zero_view rfl _ _ rfl mb n _ rfl M3 y rfl _ hu2 ?_) | (refine Cel.wpList_store_new VE rfl _ _ rfl w3 _ _ rfl u' _ rfl rfl rfl rfl ?_; intro w4 U4 k4 g4 s4; have b4 := b3.trans (k4.mono b3.size); have C4 := C3.below k4; have D4 := D3.below k4; have E4 := E3.below k4; have V4 := V3.below k4; clear g4 s4 C3 D3 E3 V3 b3 M3 I3 k3 k4) | (refine load_seen rfl _ rfl _ rfl u' U4 ?_) | (refine load_vev rfl _ rfl _ rfl u V4 ?_))
               refine (q1 _).mono ?_
               rintro e w5 ⟨rfl, k5⟩
               have b5 := b4.trans (k5.mono b4.size)
               have C5 := C4.below k5
               have D5 := D4.below k5
               have E5 := E4.below k5
               have V5 := V4.below k5
               have U5 := U4.below k5
               clear C4 D4 E4 V4 U4 b4 k5
               go_wp2_with (first | go_skip | (refine gseen _ rfl _ rfl u V5 rfl ?_) | (refine gvev _ rfl _ rfl u' U5 rfl ?_))
               refine (q2 _).mono ?_
               rintro e w6 ⟨rfl, k6⟩
               have b6 := b5.trans (k6.mono b5.size)
               have C6 := C5.below k6
               have D6 := D5.below k6
               have E6 := E5.below k6
               have V6 := V5.below k6
               clear C5 D5 E5 V5 U5 b5 k6
               go_wp2_with (first | go_skip)
               go_roundw
               case rel =>
                 refine ⟨j + 1, by omega, by go_num, aside (fun j' b' h1 h2 u2 h3 => ?_), C6, D6, E6, V6, b6⟩
                 by_cases e : j' = j
                 · subst e
                   rw [HY.out] at h2
                   injection h2 with h2
                   subst h2
                   rw [HFY.out] at h3
                   injection h3 with h3
                   subst h3
                   exact ⟨show ¬ u.1.seq ≤ u'.2 u.1.node from of_decide_eq_false HT1.out, show ¬ u'.1.seq ≤ u.2 u'.1.node from of_decide_eq_false HT22.out⟩
                 · exact HJ.out j' b' (by omega) h2 u2 h3
               case measure => simp [intOf]; omega
         · have ejk : j = k := by omega
           subst ejk
           have c2 : wr.cell? ⟨w1.heap.size, 2, none⟩ = some (.int .i64 u.1.gen) := V2.cell (j := 2) rfl
           have hm := max_int q u.1.gen
           obtain ⟨z, hz⟩ : ∃ z, max q u.1.gen = z := ⟨_, rfl⟩
           rw [hz] at hm
           have HZ := aside hz
           have pj : ¬ (j : Int) < j := Int.lt_irrefl _
           clear hz
           go_wp2_with (first | go_skip | (refine load_ck rfl _ rfl _ rfl _ E2 ?_) | (refine load_seen rfl _ rfl _ rfl u V2 ?_))
           refine (and_ret _ _ _).mono ?_
           rintro e w3 ⟨rfl, k3⟩
           have b3 := b2.trans (k3.mono b2.size)
           have C3 := C2.below k3
           have D3 := D2.below k3
           have E3 := E2.below k3
           clear C2 D2 E2 V2 b2 k3 c2
           go_wp2_with (first | go_skip | (refine Cel.wpList_store_box CK rfl _ _ rfl (w.heap.size + 1 + 1) rfl _ E3 (fun n => max (togS f (ps.take j) n) (u.2 n)) rfl ?_; intro w4 E4 f4 g4 s4))
           go_roundw
           case rel =>
             have hse : ∀ n, togS f (ps.take (j + 1)) n = max (togS f (ps.take j) n) (u.2 n) := fun n => by
               unfold togS
               rw [most_take HX.out]
               congr 1
               unfold vSeen
               rw [HF.out]
               rfl
             refine ⟨j + 1, z, by omega, by go_num, rfl, aside ?_, aside ⟨fun a ha => ?_, fun i i' a b h1 h2 h3 h4 v1 u1 h5 h6 => ?_⟩, C3.kept g4 (by simp; omega), D3.kept g4 (by simp), box_congr E4 fun n _ _ => (hse n).symm, b3.trans (f4 _ (by omega))⟩
             · rw [most_take HX.out, ← HQ.out, ← HZ.out]
               congr 1
               unfold vGen
               rw [HF.out]
               rfl
             · rw [List.take_add_one, HX.out] at ha
               rcases List.mem_append.1 ha with ha | ha
               · exact HA.out.1 a ha
               · simp at ha
                 rw [ha, HF.out]
                 simp
             · by_cases e : i = j
               · subst e
                 rw [HX.out] at h3
                 injection h3 with h3
                 subst h3
                 rw [HF.out] at h5
                 injection h5 with h5
                 subst h5
                 exact HJ.out i' b h2 h4 u1 h6
               · exact HA.out.2 i i' a b (by omega) h2 h3 h4 v1 u1 h5 h6
           case measure => simp [intOf]; omega
   · obtain rfl : k = ps.length := by omega
     have c2 := cell_gen B0
     have HQ2 := HQ.out
     rw [List.take_length] at HQ2
     have hq : q ≤ 1048576 := by
       rw [HQ2]
       refine most_le (by omega) fun y hy => ?_
       obtain ⟨a, _, rfl⟩ := List.mem_map.1 hy
       unfold vGen
       cases h : f a with
       | none => exact (by decide : (0 : Int) ≤ 1048576)
       | some u => exact (HG.out a u h).2.2
     have hq0 : 0 ≤ q := by rw [HQ2]; exact most_nonneg _
     have hwr : IntKind.i64.wrap (q + 1) = q + 1 := by rw [IntKind.wrap_i64]; omega
     rw [List.take_length] at B2
     have HQQ := aside HQ2
     clear HQ2 HQ
     have HB : Hid ((v.c.gen == q + 1) = decide (Tog f v.c.ps v.c.gen)) := aside (by
       rw [HPS.out]
       by_cases e : v.c.gen = q + 1
       · rw [decide_eq_true ⟨fun a ha => HA.out.1 a (by rw [List.take_length]; exact ha), fun i j a b h1 h2 h3 => HA.out.2 i j a b (List.getElem?_eq_some_iff.1 h2).1 h1 h2 h3, by rw [e, HQQ.out]⟩]
         simpa using e
       · rw [decide_eq_false fun T => e (by rw [T.gen, HQQ.out])]
         simpa using e)
     clear HQQ HA
     go_wp2_with (first | go_skip)
     refine Forks.region ends (by kernel_rfl) (by kernel_rfl) rfl (by kernel_rfl) (by intro c a d v w h; cases d <;> exact h) ?_
     unfold ends
     rename World => V
     have kd := below_drew1 (Below.refl V.heap.size V)
     have B0' := B0.below kd
     have B1' := B1.below kd
     have B2' := B2.below kd
     have kb' := kb.trans (kd.mono kb.size)
     have c2' := cell_gen B0'
     clear B0 B1 B2 kb kd c2
     generalize V.drew = wz at B0' B1' B2' kb' c2' ⊢
     have B0 := B0'
     have B1 := B1'
     have B2 := B2'
     have kb := kb'
     have c2 := c2'
     clear B0' B1' B2' kb' c2'
     repeat (refine Forks.reads rfl rfl ?_; go_big_quiet_step (fail); refine wpQuiet_nil ?_)
     refine Forks.forks rfl rfl ?_ ?_
     · go_wp2_with (first | (refine load_ck rfl _ rfl _ rfl _ B2 ?_))
       refine Forks.on ?_
       (try simp only [Act.put, List.setIfInBounds_toArray, List.set_cons_succ, List.set_cons_zero])
       refine Forks.forks rfl rfl ?_ ?_
       · go_wp2
         refine Forks.on ?_
         (try simp only [Act.put, List.setIfInBounds_toArray, List.set_cons_succ, List.set_cons_zero])
         repeat (refine Forks.reads rfl rfl ?_; go_big_quiet_step (fail); refine wpQuiet_nil ?_)
         refine Forks.acts rfl ?_
         go_wp2_with (first | (refine Cel.wpList_store_box CK rfl _ _ rfl (w.heap.size + 1) rfl _ B1 (togS f ps) rfl ?_; intro w3 D3 f3 g3 s3))
         refine Forks.on ?_
         (try simp only [Act.put])
         repeat (refine Forks.reads rfl rfl ?_; go_big_quiet_step (fail); refine wpQuiet_nil ?_)
         refine Forks.ends ?_
         go_wp2_with (first | go_skip)
         exact bodyPost_ret (v := .tuple #[.agg (ck (togS f ps)), .bool (v.c.gen == q + 1)]) (results_ckb Tryz.results72 _ _ (w.heap.size + 1) _ _ rfl rfl D3) rfl ⟨_, (v.c.gen == q + 1), rfl, HB.out, fun _ m _ _ => by rw [HPS.out], kb.trans (f3 _ (by omega))⟩
       · go_wp2_with (first | (refine Cel.wpList_store_box CK rfl _ _ rfl (w.heap.size + 1) rfl _ B1 (togS f ps) rfl ?_; intro w3 D3 f3 g3 s3))
         refine Forks.on ?_
         (try simp only [Act.put])
         have c2' := c2
         clear c2
         have c2 : w3.cell? ⟨w.heap.size, 2, none⟩ = some (.int .i64 v.c.gen) := cell_gen (B0.kept g3 (by simp))
         clear c2'
         refine Forks.acts rfl ?_
         go_wp2
         refine Forks.on ?_
         (try simp only [Act.put, List.setIfInBounds_toArray, List.set_cons_succ, List.set_cons_zero])
         repeat (refine Forks.reads rfl rfl ?_; go_big_quiet_step (fail); refine wpQuiet_nil ?_)
         refine Forks.ends ?_
         go_wp2_with (first | go_skip)
         exact bodyPost_ret (v := .tuple #[.agg (ck (togS f ps)), .bool (v.c.gen == q + 1)]) (results_ckb Tryz.results72 _ _ (w.heap.size + 1) _ _ rfl rfl D3) rfl ⟨_, (v.c.gen == q + 1), rfl, HB.out, fun _ m _ _ => by rw [HPS.out], kb.trans (f3 _ (by omega))⟩
     · go_wp2
       refine Forks.on ?_
       (try simp only [Act.put, List.setIfInBounds_toArray, List.set_cons_succ, List.set_cons_zero])
       repeat (refine Forks.reads rfl rfl ?_; go_big_quiet_step (fail); refine wpQuiet_nil ?_)
       refine Forks.acts rfl ?_
       go_wp2_with (first | (refine load_ck rfl _ rfl _ rfl _ B2 ?_))
       refine Forks.on ?_
       (try simp only [Act.put, List.setIfInBounds_toArray, List.set_cons_succ, List.set_cons_zero])
       refine Forks.acts rfl ?_
       go_wp2_with (first | (refine Cel.wpList_store_box CK rfl _ _ rfl (w.heap.size + 1) rfl _ B1 (togS f ps) rfl ?_; intro w3 D3 f3 g3 s3))
       refine Forks.on ?_
       (try simp only [Act.put])
       repeat (refine Forks.reads rfl rfl ?_; go_big_quiet_step (fail); refine wpQuiet_nil ?_)
       refine Forks.ends ?_
       go_wp2_with (first | go_skip)
       exact bodyPost_ret (v := .tuple #[.agg (ck (togS f ps)), .bool (v.c.gen == q + 1)]) (results_ckb Tryz.results72 _ _ (w.heap.size + 1) _ _ rfl rfl D3) rfl ⟨_, (v.c.gen == q + 1), rfl, HB.out, fun _ m _ _ => by rw [HPS.out], kb.trans (f3 _ (by omega))⟩
end Go.Proofs.YtgoapaanmcmlmaaGreatDoor.DhT
