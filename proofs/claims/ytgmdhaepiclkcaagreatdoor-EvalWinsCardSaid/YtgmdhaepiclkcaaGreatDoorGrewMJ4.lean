/- Worlds that come of draws and new blocks alone. No condition. | What the project's Less and order of package pair return: contracts. | What alone, May, bare and stays of the project's package pair return: contracts. | What the project's May of package pair returns: a contract. -/
import Derived.Test.YtgmdhaepiclkcaaGreatDoorSmallJ8
import Derived.Shelf.GgSortFunc.InsertionK
import Derived.Test.YtgmdhaepiclkcaaGreatDoorEaRJ28
import Derived.Test.YtgmdhaepiclkcaaGreatDoorRowFJ10
import Derived.Test.YtgmdhaepiclkcaaGreatDoorRowGJ15
namespace Go.Proofs.YtgmdhaepiclkcaaGreatDoor.GrewM
set_option maxRecDepth 100000
open Go Go.Sort Go.RowKit Go.Lib
def Grew (w w' : World) : Prop := ∃ q os, w' = grow (w.drewN q) os
theorem Grew.refl (w : World) : Grew w w := ⟨0, #[], by rw [grow_empty]; rfl⟩
theorem Grew.alloc {w w' : World} (h : Grew w w') (o : Obj) : Grew w (w'.alloc o) := by
 obtain ⟨q, os, rfl⟩ := h
 exact ⟨q, os ++ #[o], by rw [alloc_eq_grow, grow_grow]⟩
theorem drewN_grow (w : World) (os : Array Obj) (n : Nat) : (grow w os).drewN n = grow (w.drewN n) os := rfl
theorem drewN_drewN (w : World) (m n : Nat) : (w.drewN m).drewN n = w.drewN (m + n) := by unfold World.drewN; simp [Nat.add_assoc]
theorem Grew.drewN {w w' : World} (h : Grew w w') (n : Nat) : Grew w (w'.drewN n) := by
 obtain ⟨q, os, rfl⟩ := h
 exact ⟨q + n, os, by rw [drewN_grow, drewN_drewN]⟩
theorem Grew.trans {w w' w'' : World} (h : Grew w w') (h' : Grew w' w'') : Grew w w'' := by
 obtain ⟨q, os, rfl⟩ := h'
 obtain ⟨p, os', e⟩ := h.drewN q
 exact ⟨p, os' ++ os, by rw [e, grow_grow]⟩
theorem Grew.below {w w' : World} (h : Grew w w') : Below w.heap.size w w' := by
 obtain ⟨q, os, rfl⟩ := h
 refine ⟨rfl, rfl, rfl, ?_, fun k hk => Sort.heap_grow_old _ _ hk⟩
 rw [Sort.size_grow]
 exact Nat.le_add_right _ _
end Go.Proofs.YtgmdhaepiclkcaaGreatDoor.GrewM
namespace Go.Proofs.YtgmdhaepiclkcaaGreatDoor.PairO
set_option maxRecDepth 100000
open Go Go.RowKit Byt OpsM OpsK Rise PairM PairN RowS RowB PairW PairS PairX GrewM
theorem grew_two (w : World) (a b : Pr) : Grew w ((w.alloc (.cells (pc a) 58)).alloc (.cells (pc b) 58)) := ((Grew.refl w).alloc _).alloc _
set_option maxHeartbeats 4000000 in
theorem less_ret (a b : Pr) (w : World) :
   Calls Tryz.prog 103 #[.agg (pc a), .agg (pc b)] w fun e w' => e = .returned (.bool (lessP a b)) ∧ Grew w w' := by
 have R1 : Box E ((w.alloc (.cells (pc a) 58)).alloc (.cells (pc b) 58)) w.heap.size a := (Box.new (E := E) w a 58).alloc _
 have R2 : Box E ((w.alloc (.cells (pc a) 58)).alloc (.cells (pc b) 58)) (w.heap.size + 1) b := by
   have z : (w.alloc (.cells (pc a) 58)).heap.size = w.heap.size + 1 := by simp
   rw [← z]
   exact Box.new _ b _
 have kb := grew_two w a b
 obtain ⟨c1, c2, c3, c4⟩ := box_cells R1
 obtain ⟨d1, d2, d3, d4⟩ := box_cells R2
 clear R1 R2
 obtain ⟨r, hr⟩ : ∃ r, lessP a b = r := ⟨_, rfl⟩
 have hn : r = lessP a b := hr.symm
 rw [hr]
 unfold lessP at hn
 clear hr
 by_cases h1 : a.key = b.key
 · have t1 := bne_yes h1
   have u1 : a.key.toList = b.key.toList := by rw [h1]
   rw [if_pos h1] at hn
   by_cases h2 : a.elem = b.elem
   · have t2 := bne_yes h2
     have u2 : a.elem.toList = b.elem.toList := by rw [h2]
     rw [if_pos h2] at hn
     by_cases h3 : a.node = b.node
     · have t3 : (a.node != b.node) = false := by simpa using h3
       rw [if_pos h3] at hn
       have HR : Hid (r = decide (a.seq < b.seq)) := aside hn
       clear hn h1 h2 h3
       go_enter Tryz.func103, Tryz.ntmps103
       go_wp2
       go_ret
       exact ⟨ret_bool HR.out.symm, kb⟩
     · have t3 : (a.node != b.node) = true := by simpa using h3
       rw [if_neg h3] at hn
       have HR : Hid (r = decide (a.node < b.node)) := aside hn
       clear hn h1 h2 h3
       go_enter Tryz.func103, Tryz.ntmps103
       go_wp2
       go_ret
       exact ⟨ret_bool HR.out.symm, kb⟩
   · have t2 := bne_no h2
     have u2 := str_no h2
     rw [if_neg h2] at hn
     have HR : Hid (r = Op.bytesLess a.elem.toList b.elem.toList) := aside hn
     clear hn h1 h2
     go_enter Tryz.func103, Tryz.ntmps103
     go_wp2
     go_ret
     exact ⟨ret_bool HR.out.symm, kb⟩
 · have t1 := bne_no h1
   have u1 := str_no h1
   rw [if_neg h1] at hn
   have HR : Hid (r = Op.bytesLess a.key.toList b.key.toList) := aside hn
   clear hn h1
   go_enter Tryz.func103, Tryz.ntmps103
   go_wp2
   go_ret
   exact ⟨ret_bool HR.out.symm, kb⟩
def cf (x y : Pr) : Int := if x = y then 0 else if lessP x y = true then -1 else 1
theorem cf_less (x y : Pr) : decide (cf x y < 0) = lessP x y := by
 unfold cf
 by_cases h : x = y
 · subst h
   simp [strictP.irrefl]
 · rw [if_neg h]
   cases lessP x y <;> simp
set_option maxHeartbeats 4000000 in
theorem order_ret (x y : Pr) (w : World) : Calls Tryz.prog 144 #[.agg (pc x), .agg (pc y)] w fun e w' => e = .returned (.int .i64 (cf x y)) ∧ Grew w w' := by
 have B1 : Box E ((w.alloc (.cells (pc x) 58)).alloc (.cells (pc y) 58)) w.heap.size x := (Box.new (E := E) w x 58).alloc _
 have B2 : Box E ((w.alloc (.cells (pc x) 58)).alloc (.cells (pc y) 58)) (w.heap.size + 1) y := by
   have z : (w.alloc (.cells (pc x) 58)).heap.size = w.heap.size + 1 := by simp
   rw [← z]
   exact Box.new _ y _
 have G := grew_two w x y
 by_cases hxy : x = y
 · subst hxy
   have hc : cf x x = 0 := by simp [cf]
   have heq := equal_yes (x := x) rfl
   rw [hc]
   go_enter Tryz.func144, Tryz.ntmps144
   go_wp2_with (first | (refine wpList_load_box E rfl _ rfl _ rfl x B1 ?_) | (refine wpList_load_box E rfl _ rfl _ rfl x B2 ?_))
   go_ret
   exact ⟨rfl, G⟩
 · have heq := equal_no hxy
   have cl := fun W => less_ret x y W
   cases hl : lessP x y with
   | true =>
     have hc : cf x y = -1 := by simp [cf, hxy, hl]
     rw [hc]
     rw [hl] at cl
     go_enter Tryz.func144, Tryz.ntmps144
     go_wp2_with (first | (refine wpList_load_box E rfl _ rfl _ rfl x B1 ?_) | (refine wpList_load_box E rfl _ rfl _ rfl y B2 ?_))
     refine (cl _).mono ?_
     rintro e w1 ⟨rfl, h1⟩
     go_wp2
     go_ret
     exact ⟨rfl, G.trans h1⟩
   | false =>
     have hc : cf x y = 1 := by simp [cf, hxy, hl]
     rw [hc]
     rw [hl] at cl
     go_enter Tryz.func144, Tryz.ntmps144
     go_wp2_with (first | (refine wpList_load_box E rfl _ rfl _ rfl x B1 ?_) | (refine wpList_load_box E rfl _ rfl _ rfl y B2 ?_))
     refine (cl _).mono ?_
     rintro e w1 ⟨rfl, h1⟩
     go_wp2
     go_ret
     exact ⟨rfl, G.trans h1⟩
end Go.Proofs.YtgmdhaepiclkcaaGreatDoor.PairO
namespace Go.Proofs.YtgmdhaepiclkcaaGreatDoor.PairB
set_option maxRecDepth 100000
open Go Go.RowKit Byt OpsM OpsK Rise PairM PairN RowS RowB PairW PairS PairX
set_option maxRecDepth 100000 in
set_option maxHeartbeats 16000000 in
theorem alone_ret (c : Pr) (w : World) (hf : Fit c) :
   Calls Tryz.prog 102 #[.agg (pc c)] w fun e w' => e = .returned (.bool (oneP c)) ∧ Below w.heap.size w w' := by
 have R1 : Box E (w.alloc (.cells (pc c) 58)) w.heap.size c := Box.new w c _
 have kb : Below w.heap.size w (w.alloc (.cells (pc c) 58)) := below_alloc _ _
 obtain ⟨c0, c1, c2, c3⟩ := box_cells R1
 have ck := OpsK.key c.key (by have := hf.key; unfold maxLen; omega)
 have ce := OpsK.key c.elem (by have := hf.elem; unfold maxLen; omega)
 clear R1 hf
 obtain ⟨r, hr⟩ : ∃ r, oneP c = r := ⟨_, rfl⟩
 have hn : r = oneP c := hr.symm
 rw [hr]
 unfold oneP at hn
 clear hr
 obtain ⟨bk, hbk⟩ : ∃ b, keyL (bytesL c.key) = b := ⟨_, rfl⟩
 obtain ⟨be, hbe⟩ : ∃ b, keyL (bytesL c.elem) = b := ⟨_, rfl⟩
 rw [hbk] at ck hn
 rw [hbe] at ce hn
 clear hbk hbe
 obtain ⟨n, hnn⟩ : ∃ n, c.node = n := ⟨_, rfl⟩
 obtain ⟨s, hs⟩ : ∃ s, c.seq = s := ⟨_, rfl⟩
 rw [hnn] at c2 hn
 rw [hs] at c3 hn
 clear hnn hs
 have HN := aside hn
 clear hn
 have hbe : bk = false ∨ (bk = true ∧ (be = false ∨ be = true)) := by
   cases bk <;> cases be <;> simp
 have hnode : ¬ 0 ≤ n ∨ (0 ≤ n ∧ (¬ n < 8 ∨ n < 8)) := by omega
 rcases hnode with p2 | ⟨p2, p3 | p3⟩ <;> rcases hbe with rfl | ⟨rfl, rfl | rfl⟩
 · have HR : Hid (r = false) := aside (by rw [HN.out]; first | rfl | (simp; done) | (simp; omega))
   clear HN
   go_enter Tryz.func102, Tryz.ntmps102
   go_wp2_with (first | (refine (ck _).mono ?_; rintro e w' ⟨rfl, rfl⟩; clear ck) | (refine (ce _).mono ?_; rintro e w' ⟨rfl, rfl⟩; clear ce))
   go_ret
   exact ⟨ret_bool HR.out.symm, kb⟩
 · have HR : Hid (r = false) := aside (by rw [HN.out]; first | rfl | (simp; done) | (simp; omega))
   clear HN
   go_enter Tryz.func102, Tryz.ntmps102
   go_wp2_with (first | (refine (ck _).mono ?_; rintro e w' ⟨rfl, rfl⟩; clear ck) | (refine (ce _).mono ?_; rintro e w' ⟨rfl, rfl⟩; clear ce))
   go_ret
   exact ⟨ret_bool HR.out.symm, kb⟩
 · have HR : Hid (r = false) := aside (by rw [HN.out]; first | rfl | (simp; done) | (simp; omega))
   clear HN
   go_enter Tryz.func102, Tryz.ntmps102
   go_wp2_with (first | (refine (ck _).mono ?_; rintro e w' ⟨rfl, rfl⟩; clear ck) | (refine (ce _).mono ?_; rintro e w' ⟨rfl, rfl⟩; clear ce))
   go_ret
   exact ⟨ret_bool HR.out.symm, kb⟩
 · have HR : Hid (r = false) := aside (by rw [HN.out]; first | rfl | (simp; done) | (simp; omega))
   clear HN
   go_enter Tryz.func102, Tryz.ntmps102
   go_wp2_with (first | (refine (ck _).mono ?_; rintro e w' ⟨rfl, rfl⟩; clear ck) | (refine (ce _).mono ?_; rintro e w' ⟨rfl, rfl⟩; clear ce))
   go_ret
   exact ⟨ret_bool HR.out.symm, kb⟩
 · have HR : Hid (r = false) := aside (by rw [HN.out]; first | rfl | (simp; done) | (simp; omega))
   clear HN
   go_enter Tryz.func102, Tryz.ntmps102
   go_wp2_with (first | (refine (ck _).mono ?_; rintro e w' ⟨rfl, rfl⟩; clear ck) | (refine (ce _).mono ?_; rintro e w' ⟨rfl, rfl⟩; clear ce))
   go_ret
   exact ⟨ret_bool HR.out.symm, kb⟩
 · have HR : Hid (r = false) := aside (by rw [HN.out]; first | rfl | (simp; done) | (simp; omega))
   clear HN
   go_enter Tryz.func102, Tryz.ntmps102
   go_wp2_with (first | (refine (ck _).mono ?_; rintro e w' ⟨rfl, rfl⟩; clear ck) | (refine (ce _).mono ?_; rintro e w' ⟨rfl, rfl⟩; clear ce))
   go_ret
   exact ⟨ret_bool HR.out.symm, kb⟩
 · have HR : Hid (r = false) := aside (by rw [HN.out]; first | rfl | (simp; done) | (simp; omega))
   clear HN
   go_enter Tryz.func102, Tryz.ntmps102
   go_wp2_with (first | (refine (ck _).mono ?_; rintro e w' ⟨rfl, rfl⟩; clear ck) | (refine (ce _).mono ?_; rintro e w' ⟨rfl, rfl⟩; clear ce))
   go_ret
   exact ⟨ret_bool HR.out.symm, kb⟩
 · have HR : Hid (r = false) := aside (by rw [HN.out]; first | rfl | (simp; done) | (simp; omega))
   clear HN
   go_enter Tryz.func102, Tryz.ntmps102
   go_wp2_with (first | (refine (ck _).mono ?_; rintro e w' ⟨rfl, rfl⟩; clear ck) | (refine (ce _).mono ?_; rintro e w' ⟨rfl, rfl⟩; clear ce))
   go_ret
   exact ⟨ret_bool HR.out.symm, kb⟩
 · have HR : Hid (r = decide (0 < s)) := aside (by rw [HN.out]; simp only [decide_eq_true p2, decide_eq_true p3, Bool.true_and]; exact decide_eq_decide.2 (by omega))
   clear HN
   go_enter Tryz.func102, Tryz.ntmps102
   go_wp2_with (first | (refine (ck _).mono ?_; rintro e w' ⟨rfl, rfl⟩; clear ck) | (refine (ce _).mono ?_; rintro e w' ⟨rfl, rfl⟩; clear ce))
   go_ret
   exact ⟨ret_bool HR.out.symm, kb⟩
def bareP (x : Pr) : Pr := ⟨x.key, x.elem, 0, 0⟩
theorem info_ev : (Tryz.prog.info? 43).map (·.size) = some (#[.int .i64 0, .int .i64 0] : Array Value).size := by kernel_rfl
theorem ones_ev : (#[.int .i64 0, .int .i64 0] : Array Value).all (·.oneCell') = true := by kernel_rfl
set_option maxRecDepth 100000 in
set_option maxHeartbeats 4000000 in
theorem bare_ret (x : Pr) (w : World) : Calls Tryz.prog 149 #[.agg (pc x)] w fun e w' => e = .returned (.agg (pc (bareP x))) ∧ Below w.heap.size w w' := by
 have R1 : Box E ((w.alloc (.cells (pc x) 58)).alloc (.cells (pc E.zero) 58)) w.heap.size x := (Box.new (E := E) w x 58).alloc _
 have R2 : Box E ((w.alloc (.cells (pc x) 58)).alloc (.cells (pc E.zero) 58)) (w.heap.size + 1) E.zero := by
   have z : (w.alloc (.cells (pc x) 58)).heap.size = w.heap.size + 1 := by simp
   rw [← z]
   exact Box.new _ E.zero _
 have kb : Below w.heap.size w ((w.alloc (.cells (pc x) 58)).alloc (.cells (pc E.zero) 58)) := ((Below.refl _ _).alloc (Nat.le_refl _) _).alloc (by simp) _
 go_enter Tryz.func149, Tryz.ntmps149
 go_wp2_with (first
   | (refine RowJ.wpList_store_part E rfl rfl 43 _ _ rfl w.heap.size 2 rfl x R1 (bareP x) #[.int .i64 0, .int .i64 0] info_ev rfl ones_ev (of_decide_eq_true rfl) rfl ?_; intro w1 B1 b1 g1 s1; have C1 := R2.kept g1 (by omega); have k1 := kb.trans (b1 _ (Nat.le_refl _)))
   | (refine wpList_load_box E rfl _ rfl _ rfl (bareP x) B1 ?_)
   | (refine wpList_store_box E rfl _ _ rfl (w.heap.size + 1) rfl E.zero C1 (bareP x) rfl ?_; intro w2 B2 b2 g2 s2; have k2 := k1.trans (b2 _ (Nat.le_succ _))))
 obtain ⟨r0, r1, r2, r3⟩ := box_cells B2
 exact bodyPost_ret (v := .agg (pc (bareP x))) (by simp [results, Tryz.results149, go_sem, r0, r1, r2, r3, pc, bareP]) rfl ⟨rfl, k2⟩
end Go.Proofs.YtgmdhaepiclkcaaGreatDoor.PairB
namespace Go.Proofs.YtgmdhaepiclkcaaGreatDoor.PairV
set_option maxRecDepth 100000
open Go Go.RowKit Byt OpsM OpsK Rise PairM PairN RowS RowB PairW PairS PairX PairB
theorem less_below (a b : Pr) (w : World) : Calls Tryz.prog 103 #[.agg (pc a), .agg (pc b)] w fun e w' => e = .returned (.bool (lessP a b)) ∧ Below w.heap.size w w' :=
 (PairO.less_ret a b w).mono fun _ _ h => ⟨h.1, h.2.below⟩
set_option maxRecDepth 100000 in
set_option maxHeartbeats 16000000 in
theorem may_ret (A : Option Addr) (cap : Nat) (l : List Pr) (w : World) (S : SlR E w A cap l) (hf : Fits l) (hl : l.length ≤ 100000000) :
   Calls Tryz.prog 58 #[.slice A l.length cap] w fun e w' => e = .returned (.bool (mayP l)) ∧ Below w.heap.size w w' := by
 have hcap := S.1
 obtain ⟨r, hr0⟩ : ∃ r, mayP l = r := ⟨_, rfl⟩
 rw [hr0]
 have HR0 := aside hr0
 clear hr0
 go_enter Tryz.func58, Tryz.ntmps58
 go_wp2
 go_loopw [7] (fun i wr => ∃ j : Nat, j ≤ l.length ∧ i = .int .i64 j ∧ Hid (0 < j → mayP (l.take j) = true) ∧ Below w.heap.size w wr) (fun i _ => l.length - (intOf i).toNat)
 case atStart => exact ⟨0, Nat.zero_le _, rfl, aside (fun h => absurd h (by omega)), Below.refl _ _⟩
 case round =>
   obtain ⟨j, hj, rfl, HM, kb⟩ := hrel
   by_cases hlt : j < l.length
   · obtain ⟨b, off, rfl, hbw, hr⟩ := PairW.plain S (by omega)
     have hx : l[j]? = some l[j] := List.getElem?_eq_getElem hlt
     have hxm : l[j] ∈ l := List.getElem_mem hlt
     have hk0 := fun W => alone_ret l[j] W (hf _ hxm)
     have HJ := aside (range_below (hr j _ hx) kb)
     have p0 : (j : Int) < l.length := by omega
     have m0 : ((j : Int)).toNat = j := by omega
     have hno := fun q => HR0.out.symm.trans (may_bad hlt q)
     have hfall := fun (m : Nat) (e : m + 1 = j) (q : lessP (l[m]'(by omega)) (l[m + 1]'(by omega)) = false) => HR0.out.symm.trans (may_fall (l := l) (k := m) (by omega) q)
     have hnext := fun (m : Nat) (e : m + 1 = j) (q : mayP (l.take (m + 1)) = true) => may_next (l := l) (k := m) (by omega) q
     have hfirst := fun (q : 0 < l.length) => may_first (l := l) q
     obtain ⟨kx, hkx⟩ : ∃ b, oneP l[j] = b := ⟨_, rfl⟩
     rw [hkx] at hk0
     have HNo := aside hno
     have HOk := aside hkx
     have HFa := aside hfall
     have HNx := aside hnext
     have HFi := aside hfirst
     have HCr := aside hr
     obtain ⟨x, hxx⟩ : ∃ x, l[j] = x := ⟨_, rfl⟩
     rw [hxx] at HJ hk0
     have HXX := aside hxx
     clear hno hfall hnext hfirst hkx hr hxm hf hx S hxx
     cases kx with
     | false =>
       have HR : Hid (r = false) := aside (HNo.out HOk.out)
       go_wp2_with (first
         | (refine (hk0 _).mono ?_; rintro e w' ⟨rfl, k1⟩; have k3 := k2.trans (k1.mono k2.size); clear k1)
         | (refine wpList_load_at E rfl _ rfl b _ rfl x HJ.out ?_)
         | (refine wpList_load_box E rfl _ rfl _ rfl x bx ?_)
         | (refine wpList_store_new E rfl _ _ rfl _ _ _ rfl x _ rfl rfl rfl rfl ?_; intro w2 bx kx gx sx; have k2 := kb.trans (kx.mono kb.size); clear kx gx))
       go_ret
       exact ⟨ret_bool HR.out.symm, k3⟩
     | true =>
       by_cases hj0 : j = 0
       · subst hj0
         have HM2 : Hid (0 < 1 → mayP (l.take 1) = true) := aside (fun _ => by rw [HFi.out hlt]; exact HOk.out)
         have HJ0 : Hid (wr.rangeAt b off (E.enc x)) := aside (by have := HJ.out; simpa using this)
         clear HJ
         go_wp2_with (first
           | (refine (hk0 _).mono ?_; rintro e w' ⟨rfl, k1⟩; have k3 := k2.trans (k1.mono k2.size); have b3 := bx.below k1; clear k1)
           | (refine wpList_load_at E rfl _ rfl b _ rfl x HJ0.out ?_)
           | (refine wpList_load_box E rfl _ rfl _ rfl x bx ?_)
           | (refine wpList_store_new E rfl _ _ rfl _ _ _ rfl x _ rfl rfl rfl rfl ?_; intro w2 bx kx gx sx; have k2 := kb.trans (kx.mono kb.size); clear kx gx))
         refine Grow.region [(0, true), (1, true), (2, true), (3, true), (4, true), (5, true), (6, true), (7, true), (8, true), (9, false), (10, true), (11, true)] (by kernel_rfl) (by kernel_rfl) rfl (by kernel_rfl) (by intro c a d v w h; cases d <;> exact h) ?_
         rename World => V
         have kd := below_drew1 k3
         generalize V.drew = wd at kd ⊢
         repeat (refine Grow.reads rfl rfl ?_; go_big_quiet_step (fail); refine wpQuiet_nil ?_)
         refine Grow.acts rfl ?_
         go_wp2_with (first | go_skip)
         refine ⟨Below.refl _ _, ?_⟩
         repeat (refine Grow.reads rfl rfl ?_; go_big_quiet_step (fail); refine wpQuiet_nil ?_)
         refine Grow.ends ?_
         go_wp2_with fail
         go_roundw
         case rel => exact ⟨1, by omega, by go_num, HM2, kd⟩
         case measure => simp [intOf]; omega
       · obtain ⟨m, hm⟩ : ∃ m, m + 1 = j := ⟨j - 1, by omega⟩
         have hml : m < l.length := by omega
         have hy : l[m]? = some (l[m]'hml) := List.getElem?_eq_getElem hml
         obtain ⟨y, hyy⟩ : ∃ y, l[m]'hml = y := ⟨_, rfl⟩
         have HY := aside (HCr.out m _ hy)
         rw [hyy] at HY
         have HYY := aside hyy
         have q0 : decide (0 < (j : Int)) = true := by simp; omega
         have q00 : 0 < j := by omega
         have HMm : Hid (mayP (l.take (m + 1)) = true) := aside (by have := HM.out (by omega); rwa [← hm] at this)
         have q1 : (m : Int) < l.length := by omega
         have q3 : ((m : Int)).toNat = m := by omega
         have hwr : IntKind.i64.wrap ((j : Int) - 1) = (m : Int) := by rw [IntKind.wrap_i64]; omega
         have HMJ := aside hm
         have cn := fun W => less_below y x W
         obtain ⟨z, hz⟩ : ∃ z, lessP y x = z := ⟨_, rfl⟩
         rw [hz] at cn
         have HZ : Hid (lessP (l[m]'hml) l[j] = z) := aside (by rw [HYY.out, HXX.out]; exact hz)
         clear HM hj0 hy hm hyy hz
         cases z with
         | true =>
           have HM2 : Hid (0 < j + 1 → mayP (l.take (j + 1)) = true) := aside (fun _ => by
             have hm := HMJ.out
             subst hm
             rw [HNx.out m rfl HMm.out, HOk.out, HZ.out]; rfl)
           go_wp2_with (first
             | (refine (hk0 _).mono ?_; rintro e w' ⟨rfl, k1⟩; have k3 := k2.trans (k1.mono k2.size); have b3 := bx.below k1; have d0 := range_below HY.out k3; clear k1)
             | (refine wpList_load_at E rfl _ rfl b _ rfl x HJ.out ?_)
             | (refine wpList_load_box E rfl _ rfl _ rfl x bx ?_)
             | (refine wpList_store_new E rfl _ _ rfl _ _ _ rfl x _ rfl rfl rfl rfl ?_; intro w2 bx kx gx sx; have k2 := kb.trans (kx.mono kb.size); clear kx gx))
           refine Grow.region [(0, true), (1, true), (2, true), (3, true), (4, true), (5, true), (6, true), (7, true), (8, true), (9, false), (10, true), (11, true)] (by kernel_rfl) (by kernel_rfl) rfl (by kernel_rfl) (by intro c a d v w h; cases d <;> exact h) ?_
           rename World => V
           have kd := below_drew1 k3
           have rx := (b3.below (below_drew1 (Below.refl V.heap.size V))).range
           have ry := range_below d0 (below_drew1 (Below.refl V.heap.size V))
           generalize V.drew = wd at kd rx ry ⊢
           repeat (first | (refine Grow.reads rfl rfl ?_; go_big_quiet_want; refine RowK.quiet_row E _ rfl _ _ rfl y ry ?_; go_big_quiet_on; refine wpQuiet_nil ?_; simp only [Act.put, List.setIfInBounds_toArray, List.set_cons_succ, List.set_cons_zero]) | (refine Grow.reads rfl rfl ?_; go_big_quiet_want; refine RowK.quiet_row E _ rfl _ _ rfl x rx ?_; go_big_quiet_on; refine wpQuiet_nil ?_; simp only [Act.put, List.setIfInBounds_toArray, List.set_cons_succ, List.set_cons_zero]) | (refine Grow.reads rfl rfl ?_; go_big_quiet_step (fail); refine wpQuiet_nil ?_))
           refine Grow.acts rfl ?_
           go_wp2_with fail
           refine (cn _).mono ?_
           rintro e we ⟨rfl, he⟩
           have ke := kd.trans (he.mono kd.size)
           clear rx ry kd
           go_wp2_with fail
           refine ⟨he, ?_⟩
           clear he
           repeat (refine Grow.reads rfl rfl ?_; go_big_quiet_step (fail); refine wpQuiet_nil ?_)
           refine Grow.ends ?_
           go_wp2_with fail
           go_roundw
           case rel => exact ⟨j + 1, by omega, by go_num, HM2, ke⟩
           case measure => simp [intOf]; omega
         | false =>
           have HR : Hid (r = false) := aside (by have hm := HMJ.out; subst hm; exact HFa.out m rfl HZ.out)
           go_wp2_with (first
             | (refine (hk0 _).mono ?_; rintro e w' ⟨rfl, k1⟩; have k3 := k2.trans (k1.mono k2.size); have b3 := bx.below k1; have d0 := range_below HY.out k3; clear k1)
             | (refine wpList_load_at E rfl _ rfl b _ rfl x HJ.out ?_)
             | (refine wpList_load_box E rfl _ rfl _ rfl x bx ?_)
             | (refine wpList_store_new E rfl _ _ rfl _ _ _ rfl x _ rfl rfl rfl rfl ?_; intro w2 bx kx gx sx; have k2 := kb.trans (kx.mono kb.size); clear kx gx))
           refine Grow.region [(0, true), (1, true), (2, true), (3, true), (4, true), (5, true), (6, true), (7, true), (8, true), (9, false), (10, true), (11, true)] (by kernel_rfl) (by kernel_rfl) rfl (by kernel_rfl) (by intro c a d v w h; cases d <;> exact h) ?_
           rename World => V
           have kd := below_drew1 k3
           have rx := (b3.below (below_drew1 (Below.refl V.heap.size V))).range
           have ry := range_below d0 (below_drew1 (Below.refl V.heap.size V))
           generalize V.drew = wd at kd rx ry ⊢
           repeat (first | (refine Grow.reads rfl rfl ?_; go_big_quiet_want; refine RowK.quiet_row E _ rfl _ _ rfl y ry ?_; go_big_quiet_on; refine wpQuiet_nil ?_; simp only [Act.put, List.setIfInBounds_toArray, List.set_cons_succ, List.set_cons_zero]) | (refine Grow.reads rfl rfl ?_; go_big_quiet_want; refine RowK.quiet_row E _ rfl _ _ rfl x rx ?_; go_big_quiet_on; refine wpQuiet_nil ?_; simp only [Act.put, List.setIfInBounds_toArray, List.set_cons_succ, List.set_cons_zero]) | (refine Grow.reads rfl rfl ?_; go_big_quiet_step (fail); refine wpQuiet_nil ?_))
           refine Grow.acts rfl ?_
           go_wp2_with fail
           refine (cn _).mono ?_
           rintro e we ⟨rfl, he⟩
           have ke := kd.trans (he.mono kd.size)
           clear rx ry kd
           go_wp2_with fail
           refine ⟨he, ?_⟩
           clear he
           repeat (refine Grow.reads rfl rfl ?_; go_big_quiet_step (fail); refine wpQuiet_nil ?_)
           refine Grow.ends ?_
           go_wp2_with fail
           go_ret
           exact ⟨ret_bool HR.out.symm, ke⟩
   · have e : j = l.length := by omega
     have HR : Hid (r = true) := aside (by
       rw [← HR0.out]
       by_cases h0 : 0 < j
       · have := HM.out h0
         rwa [e, List.take_length] at this
       · have : l = [] := List.eq_nil_of_length_eq_zero (by omega)
         rw [this]; rfl)
     clear S HM
     go_wp2
     go_ret
     exact ⟨ret_bool HR.out.symm, kb⟩
end Go.Proofs.YtgmdhaepiclkcaaGreatDoor.PairV
