/- What the project's known of package dag returns: a contract. -/
import Derived.Test.YtgoapaanmcmlmaaGreatDoorDhT
import Derived.Test.YtgoapaanmcmlmaaGreatDoorDhOJ3
import Derived.Test.YtgoapaanmcmlmaaGreatDoorCmTJ2
import Derived.Test.YtgoapaanmcmlmaaGreatDoorIdXJ10
namespace Go.Proofs.YtgoapaanmcmlmaaGreatDoor.DhK
set_option maxRecDepth 100000
open Go Go.Sort Go.RowKit Byt IdM IdW OpsM OpsW CmM StW CmW CmX CmY CmA DgM DgW DgX DgY DgI DhO DhP DhT
open Classical
section
variable {H : Com → Idn}
theorem top_perm {l m : List Com} (h : l.Perm m) (p : Com → Prop) (n : Int) : top l p n = top m p n := by
 unfold top
 exact most_congr fun x => (((h.filter _).map (·.seq)).mem_iff)
theorem look_perm {l m : List Com} (hn : (l.map H).Nodup) (h : l.Perm m) (a : Idn) : DgM.look H m a = DgM.look H l a := by
 have hm : (m.map H).Nodup := (h.map H).nodup_iff.1 hn
 cases hl : DgM.look H l a with
 | none =>
   rw [look_none] at hl ⊢
   exact fun k => hl ((h.map H).mem_iff.2 k)
 | some c =>
   obtain ⟨h1, rfl⟩ := look_mem hl
   exact look_some hm (h.mem_iff.1 h1)
theorem kn_iff {l m : List Com} (h : l.Perm m) (a b : Idn) : Kn H l a b ↔ Kn H m a b := ⟨kn_perm fun _ => h.mem_iff, kn_perm fun _ => h.mem_iff.symm⟩
theorem seen_perm {l m : List Com} (h : l.Perm m) (c : Com) (n : Int) : DgX.seen H l c n = DgX.seen H m c n := by
 unfold DgX.seen
 rw [top_perm h]
 refine top_congr (fun d _ => ?_) n
 unfold Beh
 rw [kn_iff h]
theorem views_perm {l m : List Com} (hn : (l.map H).Nodup) (h : l.Perm m) : views H m = views H l := by
 funext a
 unfold views
 rw [look_perm hn h a]
 congr 1
 funext c
 congr 1
 funext n
 exact (seen_perm h c n).symm
theorem views_nil : views H [] = fun _ => none := by
 funext a
 rfl
end
def atC (l : List Cv) (P : List Nat) : List Com := P.map fun i => ((l[i]?).map (·.c)).getD noK
theorem atC_next {l : List Cv} {P : List Nat} {k p : Nat} {x : Cv} (hp : P[k]? = some p) (hx : l[p]? = some x) : atC l (P.take (k + 1)) = atC l (P.take k) ++ [x.c] := by
 obtain ⟨hk, e⟩ := List.getElem?_eq_some_iff.1 hp
 unfold atC
 rw [List.take_succ_eq_append_getElem hk, List.map_append, List.map_cons, List.map_nil, e, hx]
 rfl
theorem atC_take (l : List Cv) (P : List Nat) (k : Nat) : atC l (P.take k) = (atC l P).take k := by
 unfold atC
 rw [List.map_take]
theorem atC_range (l : List Cv) : atC l (List.range l.length) = coms l := by
 unfold atC coms
 apply List.ext_getElem
 · simp
 · intro i h1 h2
   simp only [List.length_map, List.length_range] at h1
   simp [h1]
theorem atC_perm {l : List Cv} {P : List Nat} (h : P.Perm (List.range l.length)) : (atC l P).Perm (coms l) := by
 rw [← atC_range l]
 exact h.map _
theorem inOrder {l : List Cv} {own : List Idn} {P : List Nat} (hown : own = (coms l).map hashK) (hP : Placed l own P) (C : Closed hashK (coms l)) : InOrder hashK (atC l P) := by
 obtain ⟨hp, hs⟩ := hP
 have hlt : ∀ i ∈ P, i < l.length := fun i hi => by simpa using hp.mem_iff.1 hi
 have hnd : P.Nodup := hp.nodup_iff.2 List.nodup_range
 unfold InOrder atC
 rw [List.pairwise_map]
 refine (List.Pairwise.and_mem.1 (List.Pairwise.and hs hnd)).imp ?_
 rintro i j ⟨hi, hj, h1, hne⟩
 have li := hlt i hi
 have lj := hlt j hj
 have ei : ((l[i]?).map (·.c)).getD noK = (l[i]).c := by rw [List.getElem?_eq_getElem li]; rfl
 have ej : ((l[j]?).map (·.c)).getD noK = (l[j]).c := by rw [List.getElem?_eq_getElem lj]; rfl
 have gi : gN l i = (l[i]).c.gen := by unfold gN; rw [List.getElem?_eq_getElem li]; rfl
 have gj : gN l j = (l[j]).c.gen := by unfold gN; rw [List.getElem?_eq_getElem lj]; rfl
 have oi : own.getD i nought = hashK (l[i]).c := by rw [hown, List.getD_eq_getElem?_getD, List.getElem?_map]; unfold coms; rw [List.getElem?_map, List.getElem?_eq_getElem li]; rfl
 have oj : own.getD j nought = hashK (l[j]).c := by rw [hown, List.getD_eq_getElem?_getD, List.getElem?_map]; unfold coms; rw [List.getElem?_map, List.getElem?_eq_getElem lj]; rfl
 rw [ei, ej]
 have hn : ¬ (gN l j < gN l i ∨ gN l j = gN l i ∧ less (own.getD j nought) (own.getD i nought) = true) := fun h => h1 (of_decide_eq_true ((cf_neg l own j i).2 h))
 rw [gi, gj, oi, oj] at hn
 by_cases e : (l[i]).c.gen = (l[j]).c.gen
 · refine .inr ⟨e, less_of_ne (by rw [← Bool.not_eq_true]; exact fun k => hn (.inr ⟨e.symm, k⟩)) fun k => hne ?_⟩
   have hd := C.nodup
   have q := List.pairwise_iff_getElem.1 (List.nodup_iff_pairwise_ne.1 hd)
   have hlen : ((coms l).map hashK).length = l.length := by rw [List.length_map, coms_len]
   have a1 : ∀ (i : Nat) (h : i < l.length), ((coms l).map hashK)[i]'(by rw [hlen]; exact h) = hashK (l[i]).c := fun i h => by simp [coms]
   rcases Nat.lt_trichotomy i j with h | h | h
   · exact absurd (by rw [a1 i li, a1 j lj]; exact k.symm) (q i j (by rw [hlen]; exact li) (by rw [hlen]; exact lj) h)
   · exact h
   · exact absurd (by rw [a1 i li, a1 j lj]; exact k) (q j i (by rw [hlen]; exact lj) (by rw [hlen]; exact li) h)
 · exact .inl (by
     have := fun k => hn (.inl k)
     omega)
theorem good_views {P : List Com} (C : Closed hashK P) : DhT.Good (views hashK P) := fun a v h => by
 obtain ⟨h1, _, _⟩ := views_some h
 have h2 := seq_pos (C.may _ h1) (C.merge _ h1)
 have h3 := (lineB_iff.1 (mayK_iff.1 (C.may _ h1)).1).2.1
 exact ⟨h2.2.1, h2.2.2, h3⟩
theorem make_views (w : World) (n : Int) : (Instr.makeMap 65 (some (.int .i64 n))).run Tryz.prog w = .ok (.map (some w.heap.size)) (w.alloc (.map #[] 0)) := by
 simp [Instr.makeMap, run_underlying Tryz.underlying65, asInt, go_sem]
theorem build_view (m q g : Int) (s : Int → Int) (w : World) : (Instr.build 102 #[(0, .agg (EE.enc ⟨m, q⟩).toArray), (1, .int .i64 g), (2, .agg (CK.enc s).toArray)]).run Tryz.prog w = .ok (.agg #[.int .i64 m, .int .i64 q, .int .i64 g, .int .i64 (s 0), .int .i64 (s 1), .int .i64 (s 2), .int .i64 (s 3), .int .i64 (s 4), .int .i64 (s 5), .int .i64 (s 6), .int .i64 (s 7)]) w := by kernel_rfl
theorem quiet_build {a : Act} {o : Oper} {K : Act → Prop} {w : World} (x y z : Operand) (ho : o.op = .build 102 #[(0, x), (1, y), (2, z)]) (X Y Z v : Value) (hx : a.eval x = X) (hy : a.eval y = Y) (hz : a.eval z = Z)
   (hb : ∀ W, (Instr.build 102 #[(0, X), (1, Y), (2, Z)]).run Tryz.prog W = .ok v W) (hk : K (a.put o.dst v)) : o.quiet Tryz.prog a (fun w' => ∃ p : Regrown, w' = grow (redrawn w p.d) p.os) K := by
 refine ⟨v, fun u hu => ?_, hk⟩
 unfold Oper.quietAt execOp
 simp only [ho, List.map_toArray, List.map_cons, List.map_nil, hx, hy, hz, Sem.run_bind, hb u, Result.andThen_ok, Sem.run_pure]
 exact ⟨rfl, rfl⟩
theorem vc_congr {c : Com} {s t : Int → Int} (h : ∀ n, 0 ≤ n → n < 8 → s n = t n) : vc (c, s) = vc (c, t) := by
 unfold vc VE
 simp only
 rw [ck_congr h]
theorem vals_snoc {P : List Com} {c : Com} (C : Closed hashK P) (D : Closed hashK (P ++ [c])) {s : Int → Int} (hs : ∀ m, 0 ≤ m → m < 8 → s m = togS (views hashK P) c.ps m) :
   MapV.upd (vals (views hashK P)) (hashK c) (.agg (vc (c, fun m => if m = c.node then c.seq else s m))) = vals (views hashK (P ++ [c])) := by
 funext a
 unfold MapV.upd vals
 rw [views_snoc C D]
 by_cases e : a = hashK c
 · rw [if_pos e, if_pos e]
   simp only [Option.map_some]
   rw [vc_congr (c := c) (s := fun m => if m = c.node then c.seq else s m) (t := fun n => if n = c.node then c.seq else togS (views hashK P) c.ps n) fun n h0 h8 => by
     by_cases e : n = c.node
     · rw [if_pos e, if_pos e]
     · rw [if_neg e, if_neg e, hs n h0 h8]]
 · rw [if_neg e, if_neg e]
theorem ev_range {w : World} {g : Nat} {v : Cv} (h : Cel.Box CE w g v) : w.rangeAt g 0 (EE.enc ⟨v.c.node, v.c.seq⟩) := fun j u hu => h.range j u (by
 have hj : j < 2 := (List.getElem?_eq_some_iff.1 hu).1
 rcases (by omega : j = 0 ∨ j = 1) with rfl | rfl <;> exact hu)
theorem cell_ck {w : World} {g : Nat} {s : Int → Int} (h : Cel.Box CK w g s) {n : Int} (hn : 0 ≤ n ∧ n < 8) : w.cell? ⟨g, n.toNat, none⟩ = some (.int .i64 (s n)) := h.cell (ck_at s hn)
set_option maxRecDepth 100000 in
set_option maxHeartbeats 32000000 in
theorem known_ret (A A' : Option Addr) (cap cap' : Nat) (l : List Cv) (own : List Idn) (w : World) (S : SlK w A cap l) (T : SlI w A' cap' own) (hown : own = idsD (coms l)) (hl : l.length ≤ 1500000000000) :
   Calls Tryz.prog 37 #[.slice A l.length cap, .slice A' own.length cap'] w fun e w' => ∃ mo b, e = .returned (.tuple #[.map mo, .bool b]) ∧ b = decide (Closed hashK (coms l)) ∧ (b = true → ∃ mb, mo = some mb ∧ w.heap.size ≤ mb ∧ VwIn w' mb l.length (views hashK (coms l))) ∧ Below w.heap.size w w' := by
 have hmax := S.len
 by_cases hlen : own.length = l.length
 · have hall : (coms l).all mayK = true := by
     by_cases h : (coms l).all mayK = true
     · exact h
     · rw [hown, idsD, if_neg h] at hlen
       have : l = [] := List.eq_nil_of_length_eq_zero hlen.symm
       subst this
       rfl
   have hown2 : own = (coms l).map hashK := by rw [hown, idsD, if_pos hall]
   have HO := aside hlen
   have HOW := aside hown2
   have HALL := aside hall
   have q := fun W (S : SlK W A cap l) (T : SlI W A' cap' own) => order_ret A A' cap cap' l own W S T HO.out hl
   have hmm := make_views
   have hne : ((own.length : Int) != l.length) = false := by simp [hlen]
   have E0 : VwIn ((w.alloc (.map #[] 0)).alloc (.cells #[.int .i64 0, .int .i64 0, .int .i64 0, .int .i64 0, .int .i64 0, .int .i64 0, .int .i64 0, .int .i64 0] 100)) w.heap.size 0 (views hashK []) := by
     rw [views_nil]
     exact (MapV.ValIn.made w).alloc _
   have z1 : (w.alloc (.map #[] 0)).heap.size = w.heap.size + 1 := by simp
   have L0 : Cel.Box CK ((w.alloc (.map #[] 0)).alloc (.cells #[.int .i64 0, .int .i64 0, .int .i64 0, .int .i64 0, .int .i64 0, .int .i64 0, .int .i64 0, .int .i64 0] 100)) (w.heap.size + 1) (last []) := by
     rw [← z1]
     exact Cel.Box.new (E := CK) _ (fun _ => 0) _
   have kb : Below w.heap.size w ((w.alloc (.map #[] 0)).alloc (.cells #[.int .i64 0, .int .i64 0, .int .i64 0, .int .i64 0, .int .i64 0, .int .i64 0, .int .i64 0, .int .i64 0] 100)) := ((Below.refl _ _).alloc (Nat.le_refl _) _).alloc (by simp) _
   clear hown hown2 hlen hall z1
   go_enter Tryz.func37, Tryz.ntmps37
   go_wp2_with (first | go_skip)
   refine (q _ (S.below kb) (T.below kb)).mono ?_
   rintro e w1 ⟨bp, P, rfl, hbp, SP, hP, k1⟩
   have hPl : P.length = l.length := by rw [hP.1.length_eq, List.length_range]
   have E1 := E0.below k1
   have L1 := L0.below k1
   have b1 := kb.trans (k1.mono kb.size)
   have hbp : w.heap.size + 2 ≤ bp := Nat.le_trans (by simp) hbp
   have HP := aside hP
   have HPL := aside hPl
   clear E0 L0 kb k1 q hmm hne hP hPl
   go_wp2_with (first | go_skip)
   go_loopw [27] (fun i wr => ∃ k : Nat, k ≤ l.length ∧ i = .int .i64 k ∧ Hid (Closed hashK (atC l (P.take k))) ∧ Hid (VwIn wr w.heap.size k (views hashK (atC l (P.take k)))) ∧ Cel.Box CK wr (w.heap.size + 1) (last (atC l (P.take k))) ∧ wr.heap[bp]? = some (.cells (nv P).toArray 3 (0, 0)) ∧ Below w.heap.size w wr) (fun i _ => l.length - (intOf i).toNat)
   case atStart => exact ⟨0, Nat.zero_le _, rfl, aside closed_nil, aside E1, L1, SP, b1⟩
   case round =>
     clear E1 L1 SP b1
     obtain ⟨k, hk, rfl, HC, HV, L1, SP, kb⟩ := hrel
     by_cases hlt : k < l.length
     · obtain ⟨p, hp⟩ : ∃ p, P[k]? = some p := ⟨_, List.getElem?_eq_getElem (by rw [HPL.out]; exact hlt)⟩
       have cp : wr.cell? ⟨bp, k, none⟩ = some (.int .i64 p) := by rw [cell_of_row wr bp k _ _ (0, 0) SP, List.getElem?_toArray, nv_at hp]
       have hpl : p < l.length := by simpa using HP.out.1.mem_iff.1 (List.mem_of_getElem? hp)
       obtain ⟨b, off, rfl, hbw, hrg⟩ := S.plain (by omega)
       obtain ⟨b9, off9, rfl, _, hr9⟩ := SlI.plain T (by rw [HO.out]; omega)
       obtain ⟨x, hx⟩ : ∃ x, l[p]? = some x := ⟨_, List.getElem?_eq_getElem hpl⟩
       have rx := range_on (hrg p x hx) kb
       have hxm := List.mem_of_getElem? hx
       have IX := (S.each x hxm).1
       have hf := (S.each x hxm).2
       have p0 : (k : Int) < l.length := by omega
       have m0 : ((k : Int)).toNat = k := by omega
       have p1 : (p : Int) < l.length := by omega
       have m1 : ((p : Int)).toNat = p := by omega
       have hmay : mayK x.c = true := List.all_eq_true.1 HALL.out x.c (List.mem_map_of_mem (f := (·.c)) hxm)
       have hnext := atC_next hp hx
       have hst := DgX.step (H := hashK) (c := x.c) HC.out hmay
       have hall : Closed hashK (coms l) → Closed hashK (atC l (P.take k) ++ [x.c]) := fun C => by
         rw [← hnext, atC_take]
         exact take_closed (atC_perm HP.out.1) C (inOrder HOW.out HP.out C) _
       have hwr := L1.lt
       have q0 : (p : Int) < own.length := by rw [HO.out]; exact p1
       have hih : own.getD p nought = hashK x.c := by rw [HOW.out, List.getD_eq_getElem?_getD, List.getElem?_map, coms_at hx]; rfl
       have r9 := hr9 p (by rw [HO.out]; exact hpl)
       rw [hih] at r9
       obtain ⟨ih, hihe⟩ : ∃ ih, hashK x.c = ih := ⟨_, rfl⟩
       have HIH := aside hihe
       rw [hihe] at r9
       clear hr9 hih hihe
       have HX := aside hx
       have HN := aside hnext
       have HST := aside hst
       have HALC := aside hall
       have HM := aside hmay
       have mg := fun W (I : In W x) => merge_ret x W I hf
       obtain ⟨mm, hmm⟩ : ∃ mm, isM x.c = mm := ⟨_, rfl⟩
       rw [hmm] at mg
       have HMM := aside hmm
       clear hrg hx hp hxm hnext hst hall hmay hf hmm
       cases mm with
       | true =>
         go_wp2_with (first | go_skip | (refine load_at rfl _ rfl _ _ rfl x rx ?_) | (refine Cel.wpList_store_new CE rfl _ _ rfl wr _ _ rfl x _ rfl rfl rfl rfl ?_; intro w3 D3 k3 g3 s3; have b3 := kb.trans (k3.mono kb.size); have L3 := L1.below k3; have V3 := aside (HV.out.below k3); have P3 := blk_below SP k3; clear g3 s3) | (refine Cel.wpList_load_box CE rfl _ rfl _ rfl x D3 ?_))
         refine (mg _ (IX.below b3)).mono ?_
         rintro e w4 ⟨rfl, k4⟩
         go_wp2_with (first | go_skip)
         go_ret2
         exact ⟨none, false, rfl, (decide_eq_false fun C => by
           have := (HST.out.1 (HALC.out C)).1
           rw [HMM.out] at this
           cases this).symm, (fun h => absurd h (by decide)), b3.trans (k4.mono b3.size)⟩
       | false =>
         go_wp2_with (first | go_skip | (refine load_at rfl _ rfl _ _ rfl x rx ?_) | (refine Cel.wpList_store_new CE rfl _ _ rfl wr _ _ rfl x _ rfl rfl rfl rfl ?_; intro w3 D3 k3 g3 s3; have b3 := kb.trans (k3.mono kb.size); have L3 := L1.below k3; have V3 := aside (HV.out.below k3); have P3 := blk_below SP k3; clear g3 s3) | (refine Cel.wpList_load_box CE rfl _ rfl _ rfl x D3 ?_))
         refine (mg _ (IX.below b3)).mono ?_
         rintro e w4 ⟨rfl, k4⟩
         have b4 := b3.trans (k4.mono b3.size)
         have D4 := D3.below k4
         have L4 := L3.below k4
         have V4 := aside (V3.out.below k4)
         have P4 := blk_below P3 k4
         clear b3 D3 L3 V3 P3 k4
         have r4 := IdW.range_below r9 b4
         by_cases hin : ih ∈ (atC l (P.take k)).map hashK
         · have hsome : ∃ u, views hashK (atC l (P.take k)) ih = some u := by
             cases h : views hashK (atC l (P.take k)) ih with
             | none => exact absurd hin (views_none.1 h)
             | some u => exact ⟨u, rfl⟩
           obtain ⟨u, hu⟩ := hsome
           obtain ⟨hu1, hi1⟩ := vals_some hu
           go_wp2_with (first | go_skip | (refine wpList_load_id rfl _ rfl _ _ rfl ih r4 ?_) | (refine MapV.wpList_find_ok mapT _ zero_view rfl _ _ rfl w.heap.size k _ rfl V4.out ih rfl _ hu1 _ hi1 ?_) | (refine Cel.wpList_store_new VE rfl _ _ rfl w4 _ _ rfl u _ rfl rfl rfl rfl ?_; intro w8 B8 k8 g8 s8))
           go_ret2
           exact ⟨none, false, rfl, (decide_eq_false fun C => (HST.out.1 (HALC.out C)).2.1 (by rw [HIH.out]; exact hin)).symm, (fun h => absurd h (by decide)), b4.trans (k8.mono b4.size)⟩
         have HFR : Hid (hashK x.c ∉ (atC l (P.take k)).map hashK) := aside (by rw [HIH.out]; exact hin)
         obtain ⟨hu1, hi1⟩ := vals_none (views_none.2 hin)
         clear hin
         go_wp2_with (first | go_skip | (refine wpList_load_id rfl _ rfl _ _ rfl ih r4 ?_) | (refine MapV.wpList_find_ok mapT _ zero_view rfl _ _ rfl w.heap.size k _ rfl V4.out ih rfl _ hu1 _ hi1 ?_) | (refine Cel.wpList_store_new VE rfl _ _ rfl w4 _ _ rfl zeroW _ rfl rfl rfl rfl ?_; intro w8 B8 k8 g8 s8; have b8 := b4.trans (k8.mono b4.size); have D8 := D4.below k8; have L8 := L4.below k8; have V8 := aside (V4.out.below k8); have P8 := blk_below P4 k8; clear g8 s8 B8 b4 D4 L4 V4 P4 k8) | (refine Cel.wpList_load_box CE rfl _ rfl _ rfl x D8 ?_))
         have b4 := b8
         have D4 := D8
         have L4 := L8
         have V4 := V8
         have P4 := P8
         clear hu1 hi1 r4 b8 D8 L8 V8 P8
         refine (together_ret w.heap.size k _ x _ V4.out (good_views HC.out) (IX.below b4)).mono ?_
         rintro e w5 ⟨s, fits, rfl, hb, hs, k5⟩
         have b5 := b4.trans (k5.mono b4.size)
         have D5 := D4.below k5
         have L5 := L4.below k5
         have V5 := aside (V4.out.below k5)
         have P5 := blk_below P4 k5
         have HB := aside hb
         have HS := aside hs
         clear b4 D4 L4 V4 P4 k5 hb hs
         go_wp2_with (first | go_skip | (refine Cel.wpList_store_new CK rfl _ _ rfl w5 _ _ rfl s _ rfl rfl rfl rfl ?_; intro w6 N6 k6 g6 s6; have b6 := b5.trans (k6.mono b5.size); have D6 := D5.below k6; have L6 := L5.below k6; have V6 := aside (V5.out.below k6); have P6 := blk_below P5 k6; have hsz : bp < w5.heap.size := (Array.getElem?_eq_some_iff.1 P5).1; have hsc := D5.lt; clear b5 D5 L5 V5 P5 g6 s6))
         have hpos := seq_pos HM.out HMM.out
         refine Grow.region [(0, true), (1, true), (2, true), (3, true), (4, true), (5, true), (6, false), (7, true), (8, true), (9, true), (10, true), (11, true), (12, true), (13, true), (14, true), (15, true), (16, true), (17, true), (18, true), (19, true), (20, true)] (by kernel_rfl) (by kernel_rfl) rfl (by kernel_rfl) (by intro c a d v w h; cases d <;> exact h) ?_
         have kd := below_drew1 (Below.refl w6.heap.size w6)
         have D7 := D6.below kd
         have L7 := L6.below kd
         have N7 := N6.below kd
         have V7 := aside (V6.out.below kd)
         have P7 := blk_below P6 kd
         have b7 := b6.trans (kd.mono b6.size)
         generalize w6.drew = wz at D7 L7 N7 V7 P7 b7 ⊢
         clear D6 L6 N6 V6 P6 b6 kd
         obtain ⟨nd, hnd1⟩ : ∃ nd, x.c.node = nd := ⟨_, rfl⟩
         obtain ⟨sq, hsq⟩ : ∃ sq, x.c.seq = sq := ⟨_, rfl⟩
         have e7 := ev_range D7
         rw [hnd1, hsq] at e7
         rw [hnd1] at hpos
         have hn0 : 0 ≤ nd := hpos.2.1
         have hn8 : nd < 8 := hpos.2.2
         have h7 := fun W => has_ret (last (atC l (P.take k))) ⟨nd, sq⟩ hpos.2 W
         obtain ⟨sv, hsv⟩ : ∃ sv, s nd = sv := ⟨_, rfl⟩
         obtain ⟨lv, hlv⟩ : ∃ lv, last (atC l (P.take k)) nd = lv := ⟨_, rfl⟩
         obtain ⟨t, ht⟩ : ∃ t, decide (sq ≤ lv) = t := ⟨_, rfl⟩
         simp only [hlv, ht] at h7
         have HND := aside hnd1
         have HSQ := aside hsq
         have HSV := aside hsv
         have HLV := aside hlv
         have HTT := aside ht
         clear hnd1 hsq hsv hlv ht
         cases fits with
         | false =>
           repeat (first | (refine Grow.reads rfl rfl ?_; go_big_quiet_want; refine Cel.quiet_row CK _ rfl _ _ rfl _ L7.range ?_; go_big_quiet_on; refine wpQuiet_nil ?_; (try simp only [Act.put, List.setIfInBounds_toArray, List.set_cons_succ, List.set_cons_zero])) | (refine Grow.reads rfl rfl ?_; go_big_quiet_want; refine Cel.quiet_row EE _ rfl _ _ rfl ⟨nd, sq⟩ e7 ?_; go_big_quiet_on; refine wpQuiet_nil ?_; (try simp only [Act.put, List.setIfInBounds_toArray, List.set_cons_succ, List.set_cons_zero])) | (refine Grow.reads rfl rfl ?_; go_big_quiet_step (fail); refine wpQuiet_nil ?_))
           refine Grow.acts rfl ?_
           go_wp2_with (first | go_skip)
           refine ⟨Below.refl _ _, ?_⟩
           (try simp only [Act.put, List.setIfInBounds_toArray, List.set_cons_succ, List.set_cons_zero])
           repeat (first | (refine Grow.reads rfl rfl ?_; go_big_quiet_want; refine Cel.quiet_row CK _ rfl _ _ rfl _ L7.range ?_; go_big_quiet_on; refine wpQuiet_nil ?_; (try simp only [Act.put, List.setIfInBounds_toArray, List.set_cons_succ, List.set_cons_zero])) | (refine Grow.reads rfl rfl ?_; go_big_quiet_want; refine Cel.quiet_row EE _ rfl _ _ rfl ⟨nd, sq⟩ e7 ?_; go_big_quiet_on; refine wpQuiet_nil ?_; (try simp only [Act.put, List.setIfInBounds_toArray, List.set_cons_succ, List.set_cons_zero])) | (refine Grow.reads rfl rfl ?_; go_big_quiet_step (fail); refine wpQuiet_nil ?_))
           refine Grow.ends ?_
           go_wp2_with (first | go_skip)
           go_ret2
           exact ⟨none, false, rfl, (decide_eq_false fun C => by
             exact of_decide_eq_false HB.out.symm (HST.out.1 (HALC.out C)).2.2.1).symm, (fun h => absurd h (by decide)), b7⟩
         | true =>
           cases t with
           | true =>
             repeat (first | (refine Grow.reads rfl rfl ?_; go_big_quiet_want; refine Cel.quiet_row CK _ rfl _ _ rfl _ L7.range ?_; go_big_quiet_on; refine wpQuiet_nil ?_; (try simp only [Act.put, List.setIfInBounds_toArray, List.set_cons_succ, List.set_cons_zero])) | (refine Grow.reads rfl rfl ?_; go_big_quiet_want; refine Cel.quiet_row EE _ rfl _ _ rfl ⟨nd, sq⟩ e7 ?_; go_big_quiet_on; refine wpQuiet_nil ?_; (try simp only [Act.put, List.setIfInBounds_toArray, List.set_cons_succ, List.set_cons_zero])) | (refine Grow.reads rfl rfl ?_; go_big_quiet_step (fail); refine wpQuiet_nil ?_))
             have h7' : Calls Tryz.prog 73 #[.agg (CK.enc (last (atC l (P.take k)))).toArray, .agg (EE.enc ⟨nd, sq⟩).toArray] wz _ := h7 wz
             refine Grow.acts rfl ?_
             go_wp2_with (first | go_skip)
             refine h7'.mono ?_
             clear h7' h7
             rintro e w8 ⟨rfl, k8⟩
             go_wp2_with (first | go_skip)
             refine ⟨k8, ?_⟩
             (try simp only [Act.put, List.setIfInBounds_toArray, List.set_cons_succ, List.set_cons_zero])
             repeat (first | (refine Grow.reads rfl rfl ?_; go_big_quiet_want; refine Cel.quiet_row CK _ rfl _ _ rfl _ (L7.below k8).range ?_; go_big_quiet_on; refine wpQuiet_nil ?_; (try simp only [Act.put, List.setIfInBounds_toArray, List.set_cons_succ, List.set_cons_zero])) | (refine Grow.reads rfl rfl ?_; go_big_quiet_want; refine Cel.quiet_row EE _ rfl _ _ rfl ⟨nd, sq⟩ e7 ?_; go_big_quiet_on; refine wpQuiet_nil ?_; (try simp only [Act.put, List.setIfInBounds_toArray, List.set_cons_succ, List.set_cons_zero])) | (refine Grow.reads rfl rfl ?_; go_big_quiet_step (fail); refine wpQuiet_nil ?_))
             refine Grow.ends ?_
             go_wp2_with (first | go_skip)
             go_ret2
             exact ⟨none, false, rfl, (decide_eq_false fun C => by
             have h1 := (HST.out.1 (HALC.out C)).2.2.2.1
             rw [HND.out, HSQ.out, HLV.out] at h1
             have h2 := of_decide_eq_true HTT.out
             omega).symm, (fun h => absurd h (by decide)), b7.trans (k8.mono b7.size)⟩
           | false =>
             repeat (first | (refine Grow.reads rfl rfl ?_; go_big_quiet_want; refine Cel.quiet_row CK _ rfl _ _ rfl _ L7.range ?_; go_big_quiet_on; refine wpQuiet_nil ?_; (try simp only [Act.put, List.setIfInBounds_toArray, List.set_cons_succ, List.set_cons_zero])) | (refine Grow.reads rfl rfl ?_; go_big_quiet_want; refine Cel.quiet_row EE _ rfl _ _ rfl ⟨nd, sq⟩ e7 ?_; go_big_quiet_on; refine wpQuiet_nil ?_; (try simp only [Act.put, List.setIfInBounds_toArray, List.set_cons_succ, List.set_cons_zero])) | (refine Grow.reads rfl rfl ?_; go_big_quiet_step (fail); refine wpQuiet_nil ?_))
             have h7' : Calls Tryz.prog 73 #[.agg (CK.enc (last (atC l (P.take k)))).toArray, .agg (EE.enc ⟨nd, sq⟩).toArray] wz _ := h7 wz
             refine Grow.acts rfl ?_
             go_wp2_with (first | go_skip)
             refine h7'.mono ?_
             clear h7' h7
             rintro e w8 ⟨rfl, k8⟩
             go_wp2_with (first | go_skip)
             refine ⟨k8, ?_⟩
             (try simp only [Act.put, List.setIfInBounds_toArray, List.set_cons_succ, List.set_cons_zero])
             have D8 := D7.below k8
             have N8 := N7.below k8
             have L8 := L7.below k8
             have V8 := aside (V7.out.below k8)
             have P8 := blk_below P7 k8
             have b8 := b7.trans (k8.mono b7.size)
             clear D7 N7 L7 V7 P7 b7 k8 e7
             have n0 := Grow.grown (w := w8) (fun u hu => cell_node (D8.below hu))
             have n1 := Grow.grown (w := w8) (fun u hu => cell_ck (N8.below hu) hpos.2)
             have n2 := Grow.grown (w := w8) (fun u hu => cell_ck (L8.below hu) hpos.2)
             rw [HND.out] at n0
             rw [HSV.out] at n1
             rw [HLV.out] at n2
             repeat (refine Grow.reads rfl rfl ?_; go_big_quiet_step (fail); refine wpQuiet_nil ?_)
             refine Grow.ends ?_
             clear n0 n1 n2
             by_cases hz : sv = lv
             · have hzz : (sv != lv) = false := by simpa using hz
               have hlt2 : last (atC l (P.take k)) x.c.node < x.c.seq := by
                 have h2 := of_decide_eq_false HTT.out
                 rw [HND.out, HSQ.out, HLV.out]
                 omega
               have HC2 := aside (HST.out.2 ⟨HMM.out, HFR.out, of_decide_eq_true HB.out.symm, hlt2, by rw [HND.out, HLV.out, ← hz, ← HSV.out, HS.out trivial nd hn0 hn8]⟩)
               have c0 := cell_node D8
               have c1 := cell_seq D8
               rw [HND.out] at c0
               rw [HSQ.out] at c1
               clear hz hlt2
               go_wp2_with (first | go_skip | (refine store_ck rfl rfl _ _ rfl w5.heap.size nd hpos.2 rfl s N8 sq rfl ?_; intro w9 N9 f9 g9 s9; have D9 := D8.kept g9 (by simp; omega); have L9 := L8.kept g9 (by simp; omega); have d0 := cell_node D9; have d1 := cell_seq D9; have V9 := aside (MapV.ValIn.kept V8.out g9 (by simp; omega)); have P9 : w9.heap[bp]? = _ := (g9.block bp (Array.getElem?_eq_some_iff.1 P8).1 (by simp; omega)).trans P8; have b9 := b8.trans (f9 _ (by omega)); rw [HND.out] at d0; rw [HSQ.out] at d1; clear N8 D8 L8 V8 P8 b8 c0 c1 f9 g9 s9) | (refine store_ck rfl rfl _ _ rfl (w.heap.size + 1) nd hpos.2 rfl _ L9 sq rfl ?_; intro w10 L10 f10 g10 s10; have D10 := D9.kept g10 (by simp; omega); have N10 := N9.kept g10 (by simp; omega); have V10 := aside (MapV.ValIn.kept V9.out g10 (by simp)); have P10 : w10.heap[bp]? = _ := (g10.block bp (Array.getElem?_eq_some_iff.1 P9).1 (by simp; omega)).trans P9; have b10 := b9.trans (f10 _ (by omega)); clear N9 D9 L9 V9 P9 b9 d0 d1 f10 g10 s10))
               obtain ⟨gn, hgn⟩ : ∃ gn, x.c.gen = gn := ⟨_, rfl⟩
               have HGN := aside hgn
               obtain ⟨s', hs'⟩ : ∃ s', (fun m => if m = nd then sq else s m) = s' := ⟨_, rfl⟩
               have HSS := aside hs'
               rw [hs'] at N10
               refine GrowL.region 11 [(0, true), (1, true), (2, true), (3, true), (4, true), (5, true), (6, true), (7, true), (8, true), (9, true), (10, true), (11, false)] (by kernel_rfl) (by kernel_rfl) rfl (by kernel_rfl) (by intro c a d v w h; cases d <;> exact h) ?_
               have kd := below_drew1 (Below.refl w10.heap.size w10)
               have D11 := D10.below kd
               have L11 := L10.below kd
               have N11 := N10.below kd
               have V11 := aside (MapV.ValIn.below V10.out kd)
               have P11 := blk_below P10 kd
               have b11 := b10.trans (kd.mono b10.size)
               generalize w10.drew = wy at D11 L11 N11 V11 P11 b11 ⊢
               clear D10 L10 N10 V10 P10 b10 kd hgn hs'
               have e11 := ev_range D11
               rw [HND.out, HSQ.out] at e11
               have g11 := Grow.grown (w := wy) (fun u hu => cell_gen (D11.below hu))
               rw [HGN.out] at g11
               have r11 := IdW.range_below r9 b11
               have hbv := build_view nd sq gn s'
               repeat (first | (refine GrowL.reads rfl rfl ?_; go_big_quiet_want; refine CmA.quiet_id _ rfl _ _ rfl ih r11 ?_; go_big_quiet_on; refine wpQuiet_nil ?_; (try simp only [Act.put, List.setIfInBounds_toArray, List.set_cons_succ, List.set_cons_zero])) | (refine GrowL.reads rfl rfl ?_; go_big_quiet_want; refine Cel.quiet_row CK _ rfl _ _ rfl _ N11.range ?_; go_big_quiet_on; refine wpQuiet_nil ?_; (try simp only [Act.put, List.setIfInBounds_toArray, List.set_cons_succ, List.set_cons_zero])) | (refine GrowL.reads rfl rfl ?_; go_big_quiet_want; refine Cel.quiet_row EE _ rfl _ _ rfl ⟨nd, sq⟩ e11 ?_; go_big_quiet_on; refine wpQuiet_nil ?_; (try simp only [Act.put, List.setIfInBounds_toArray, List.set_cons_succ, List.set_cons_zero])) | (refine GrowL.reads rfl rfl ?_; go_big_quiet_step (fail); refine wpQuiet_nil ?_))
               refine GrowL.reads rfl rfl ?_
               go_big_quiet_want
               refine quiet_build _ _ _ rfl (.agg (EE.enc ⟨nd, sq⟩).toArray) (.int .i64 gn) (.agg (CK.enc s').toArray) _ rfl rfl rfl hbv ?_
               go_big_quiet_on
               refine wpQuiet_nil ?_
               (try simp only [Act.put, List.setIfInBounds_toArray, List.set_cons_succ, List.set_cons_zero])
               refine GrowL.last rfl ?_
               go_wp2_with (first | (refine MapV.wpList_put mapT _ rfl _ _ _ rfl w.heap.size k _ rfl V11.out (by omega) ih rfl _ rfl ?_; intro w12 V12 g12))
               refine GrowL.done ?_
               go_wp2_with (first | go_skip)
               have hsn : ∀ m, 0 ≤ m → m < 8 → s m = togS (views hashK (atC l (P.take k))) x.c.ps m := HS.out trivial
               have hV : MapV.upd (vals (views hashK (atC l (P.take k)))) ih (.agg #[.int .i64 nd, .int .i64 sq, .int .i64 gn, .int .i64 (s' 0), .int .i64 (s' 1), .int .i64 (s' 2), .int .i64 (s' 3), .int .i64 (s' 4), .int .i64 (s' 5), .int .i64 (s' 6), .int .i64 (s' 7)]) = vals (views hashK (atC l (P.take (k + 1)))) := by
                 rw [HN.out, ← vals_snoc HC.out HC2.out hsn, HIH.out, ← HSS.out, ← HND.out, ← HSQ.out, ← HGN.out]
                 rfl
               have L12 := L11.kept g12 (by simp)
               have P12 : w12.heap[bp]? = _ := (g12.block bp (Array.getElem?_eq_some_iff.1 P11).1 (by simp; omega)).trans P11
               have b12 : Below w.heap.size w w12 := below_grown b11 b11.size g12 (fun q hq => by cases hq; exact Nat.le_refl _)
               go_roundw
               case rel =>
                 refine ⟨k + 1, by omega, by go_num, aside (by rw [HN.out]; exact HC2.out), aside (by show MapV.ValIn _ _ _ _; rw [← hV]; exact V12), box_congr L12 fun n _ _ => ?_, P12, b12⟩
                 rw [HN.out, last_new HC.out HC2.out, HND.out, HSQ.out]
               case measure => simp [intOf]; omega
             · have hzz : (sv != lv) = true := by simpa using hz
               go_wp2_with (first | go_skip)
               go_ret2
               exact ⟨none, false, rfl, (decide_eq_false fun C => hz (by
                 have h1 := (HST.out.1 (HALC.out C)).2.2.2.2
                 rw [HND.out, HLV.out] at h1
                 rw [← HSV.out, HS.out trivial nd hn0 hn8, h1])).symm, (fun h => absurd h (by decide)), b8⟩
     · obtain rfl : k = l.length := by omega
       have hPt : P.take l.length = P := by rw [← HPL.out, List.take_length]
       have HC3 := HC.out
       have HV3 := HV.out
       rw [hPt] at HC3 HV3
       have hper := atC_perm HP.out.1
       have C4 := aside (closed_perm HC3 hper)
       have HV4 := aside (show VwIn wr w.heap.size l.length (views hashK (coms l)) by rw [views_perm (H := hashK) HC3.nodup hper]; exact HV3)
       clear HC3 HV3 HC HV L1 SP hPt hper
       go_wp2_with (first | go_skip)
       go_ret2
       exact ⟨_, true, rfl, (decide_eq_true C4.out).symm, fun _ => ⟨_, rfl, Nat.le_refl _, HV4.out⟩, kb⟩
 · have hC : ¬ Closed hashK (coms l) := fun C => hlen (by
     rw [hown, idsD, if_pos (List.all_eq_true.2 fun c hc => C.may c hc), List.length_map, coms_len])
   have HC := aside hC
   have hne : ((own.length : Int) != l.length) = true := by simpa using fun h => hlen (by omega)
   clear hC hown hlen
   go_enter Tryz.func37, Tryz.ntmps37
   go_wp2_with (first | go_skip)
   go_ret2
   exact ⟨none, false, rfl, (decide_eq_false HC.out).symm, (fun h => absurd h (by decide)), Below.refl _ _⟩
end Go.Proofs.YtgoapaanmcmlmaaGreatDoor.DhK
