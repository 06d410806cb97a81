/- What the project's Closed, Anc, Part and Sorted of package dag return, where known answers as the document does. No condition. | Contracts of package ids as premises; slices of ids cut on both sides. No condition. -/
import Derived.Test.YtgmdhaepiclkcaaGreatDoorDhK
import Derived.Test.YtgmdhaepiclkcaaGreatDoorMapVJ3
import Derived.Test.YtgmdhaepiclkcaaGreatDoorLaySortJ6
import Derived.Test.YtgmdhaepiclkcaaGreatDoorDgKJ13
namespace Go.Proofs.YtgmdhaepiclkcaaGreatDoor.DhA
set_option maxRecDepth 100000
open Go Go.Sort Go.RowKit Byt IdM IdW OpsM OpsW CmM StW CmW CmX CmY CmA DgM DgW DgR DgX DgY DgI DgF DhO DhP DhT DhK DhC
open Classical
def KnownRet : Prop := ∀ (A A' : Option Addr) (cap cap' : Nat) (l : List Cv) (own : List Idn) (w : World), SlK w A cap l → SlI w A' cap' own → own = idsD (coms l) → l.length ≤ 1500000000000 →
   Calls Tryz.prog 48 #[.slice A l.length cap, .slice A' own.length cap'] w fun e w' => ∃ mo b, e = .returned (.tuple #[.map mo, .bool b]) ∧ b = decide (Closed hashK (coms l)) ∧ (b = true → ∃ mb, mo = some mb ∧ w.heap.size ≤ mb ∧ VwIn w' mb l.length (views hashK (coms l))) ∧ Below w.heap.size w w'
set_option maxRecDepth 100000 in
set_option maxHeartbeats 16000000 in
theorem closed_ret (X : KnownRet) (A : Option Addr) (cap : Nat) (l : List Cv) (w : World) (S : SlK w A cap l) (hl : l.length ≤ 1500000000000) (hK : ShaE.KIn w) :
   Calls Tryz.prog 17 #[.slice A l.length cap] w fun e w' => e = .returned (.bool (decide (Closed hashK (coms l)))) ∧ Below w.heap.size w w' := by
 go_enter Tryz.func17, Tryz.ntmps17
 go_wp2_with (first | go_skip)
 refine (ids_ret A cap l w S hl hK).mono ?_
 rintro e w1 ⟨A1, c1, rfl, T1, k1⟩
 go_wp2_with (first | go_skip)
 refine (X A A1 cap c1 l _ w1 (S.below k1) T1 rfl hl).mono ?_
 rintro e w2 ⟨mo, b, rfl, hb, _, k2⟩
 go_wp2_with (first | go_skip)
 go_ret
 exact ⟨by rw [← hb]; rfl, k1.trans (k2.mono k1.size)⟩
theorem field_seen (v : Vw) (w : World) : (Instr.field 112 (.agg (vc v)) 2).run Tryz.prog w = .ok (.agg (ck v.2)) w := by kernel_rfl
def gv (f : Idn → Option Vw) (x : Idn) : Vw := (f x).getD zeroW
theorem vals_get (f : Idn → Option Vw) (x : Idn) : (vals f x).getD (.agg (vc zeroW)) = .agg (vc (gv f x)) := by
 unfold vals gv
 cases f x <;> rfl
theorem gv_seen (f : Idn → Option Vw) (x : Idn) (n : Int) : vSeen f n x = (gv f x).2 n := by
 unfold vSeen gv
 cases f x <;> rfl
theorem load_cev {ops : Array Oper} {rest : List Oper} {o : Oper} {a : Act} {w : World} {Q : Exit → Act → World → Prop} (hgd : o.guard = none) (x : Operand) (ho : o.op = .load 43 x) (g : Nat) (hx : a.eval x = .pointer (some ⟨g, 0, none⟩)) (v : Cv) (hb : Cel.Box CE w g v) (h : wpList Tryz.prog ops Q rest (a.put o.dst (.agg (ec ⟨v.c.node, v.c.seq⟩))) w) : wpList Tryz.prog ops Q (o :: rest) a w :=
 wpList_load_mid hgd EE.T x ho g 0 hx (EE.enc ⟨v.c.node, v.c.seq⟩) _ (ev_range hb) EE.under EE.row (EE.size _) h
theorem pick_next {l : List Cv} {s : Int → Int} {k : Nat} {x : Cv} (h : l[k]? = some x) : (((coms l).take (k + 1)).filter fun c => decide (c.seq ≤ s c.node)).map hashK = (((coms l).take k).filter fun c => decide (c.seq ≤ s c.node)).map hashK ++ (if decide (x.c.seq ≤ s x.c.node) = true then [hashK x.c] else []) := by
 rw [filter_next _ (coms_at h), List.map_append]
 by_cases e : decide (x.c.seq ≤ s x.c.node) = true
 · rw [if_pos e, if_pos e]; rfl
 · rw [if_neg e, if_neg e]; rfl
theorem pick_all {l : List Com} (C : Closed hashK l) (a : List Idn) : IdM.sort ((l.filter fun c => decide (c.seq ≤ togS (views hashK l) a c.node)).map hashK) = anc hashK l a := by
 unfold anc
 congr 1
 rw [List.filter_map]
 congr 1
 refine List.filter_congr fun c hc => ?_
 show decide _ = decide _
 exact decide_eq_decide.2 (below_iff C a hc)
set_option maxRecDepth 100000 in
set_option maxHeartbeats 32000000 in
theorem anc_ret (X : KnownRet) (A A' : Option Addr) (cap cap' : Nat) (l : List Cv) (a : List Idn) (w : World) (S : SlK w A cap l) (T : SlI w A' cap' a) (hl : l.length ≤ 1000) (hK : ShaE.KIn w) :
   Calls Tryz.prog 26 #[.slice A l.length cap, .slice A' a.length cap'] w (NewD (ancC (coms l) a) w) := by
 have hmax := S.len
 have hmaxa : a.length ≤ 9223372036854775807 := by have := T.1; have := T.2.1; unfold maxLen at this; omega
 unfold NewD
 go_enter Tryz.func26, Tryz.ntmps26
 go_wp2_with (first | go_skip)
 refine (ids_ret A cap l w S (by omega) hK).mono ?_
 rintro e w1 ⟨A1, c1, rfl, T1, k1⟩
 go_wp2_with (first | go_skip)
 refine (X A A1 cap c1 l _ w1 (S.below k1) T1 rfl (by omega)).mono ?_
 rintro e w2 ⟨mo, b, rfl, hb, hv, k2⟩
 have b2 := k1.trans (k2.mono k1.size)
 by_cases C : Closed hashK (coms l)
 · rw [decide_eq_true C] at hb
   subst hb
   obtain ⟨mb, rfl, _, V⟩ := hv rfl
   have hall : (coms l).all mayK = true := List.all_eq_true.2 fun c hc => C.may c hc
   have hid : idsD (coms l) = (coms l).map hashK := by rw [idsD, if_pos hall]
   have hil : ((coms l).map hashK).length = l.length := by rw [List.length_map, coms_len]
   have T2 := T1.below k2
   rw [hid] at T2
   obtain ⟨own, hown⟩ : ∃ own, (coms l).map hashK = own := ⟨_, rfl⟩
   rw [hown] at T2 hil
   obtain ⟨f, hf⟩ : ∃ f, views hashK (coms l) = f := ⟨_, rfl⟩
   rw [hf] at V
   have hmb := MapV.ValIn.lt V
   have HR : Hid (ancC (coms l) a = IdM.sort (((coms l).filter fun c => decide (c.seq ≤ togS f a c.node)).map hashK)) := aside (by rw [ancC, if_pos C, ← pick_all C a, hf])
   have HID := aside (hid.trans hown)
   have HIL := aside hil
   have HOWN := aside hown
   have HCL := aside C
   have HT2 := aside T2
   have HSB := aside (S.below b2)
   have HTB := aside (T.below b2)
   have B0 : Cel.Box CK (w2.alloc (.cells #[.int .i64 0, .int .i64 0, .int .i64 0, .int .i64 0, .int .i64 0, .int .i64 0, .int .i64 0, .int .i64 0] 109)) w2.heap.size (fun _ => 0) := Cel.Box.new (E := CK) w2 (fun _ => 0) _
   have V0 := aside (VwIn.below V (StW.below_alloc w2 (.cells #[.int .i64 0, .int .i64 0, .int .i64 0, .int .i64 0, .int .i64 0, .int .i64 0, .int .i64 0, .int .i64 0] 109)))
   have kb := StW.below_alloc w2 (.cells #[.int .i64 0, .int .i64 0, .int .i64 0, .int .i64 0, .int .i64 0, .int .i64 0, .int .i64 0, .int .i64 0] 109)
   clear C hall hid hil hown hf V hv T1 T2
   go_wp2_with (first | go_skip)
   go_loopw [26] (fun i wr => ∃ k : Nat, k ≤ a.length ∧ i = .int .i64 k ∧ Hid (VwIn wr mb l.length f) ∧ Cel.Box CK wr w2.heap.size (togS f (a.take k)) ∧ Below w2.heap.size w2 wr) (fun i _ => a.length - (intOf i).toNat)
   case atStart => exact ⟨0, Nat.zero_le _, rfl, V0, box_congr B0 fun _ _ _ => rfl, kb⟩
   case round =>
     clear B0 V0 kb
     obtain ⟨k, hk, rfl, V3, B3, kb⟩ := hrel
     by_cases hlt : k < a.length
     · obtain ⟨ba, oa, rfl, _, hra⟩ := SlI.plain HTB.out (by omega)
       obtain ⟨x, hx⟩ : ∃ x, a[k]? = some x := ⟨_, List.getElem?_eq_getElem hlt⟩
       have rx := IdW.range_below (hra k hlt) kb
       rw [show a.getD k nought = x by rw [List.getD_eq_getElem?_getD, hx]; rfl] at rx
       have p0 : (k : Int) < a.length := by omega
       have m0 : ((k : Int)).toNat = k := by omega
       have HX := aside hx
       clear hra hx
       go_wp2_with (first | go_skip | (refine wpList_load_id rfl _ rfl _ _ rfl x rx ?_) | (refine IdJ.wpList_alloc_id rfl rfl ?_) | (refine CmG.wpList_store_id rfl _ _ rfl wr nought _ rfl x _ rfl rfl rfl ?_; intro w3 I3 k3 s3; have b3 := kb.trans (k3.mono kb.size); have C3 := B3.below k3; have V4 := aside (VwIn.below V3.out k3); clear s3 B3 V3 kb))
       refine GrowL.region 6 [(0, true), (1, true), (2, true), (3, true), (4, true), (5, false), (6, false)] (by kernel_rfl) (by kernel_rfl) rfl (by kernel_rfl) (by intro c a d v w h; cases d <;> exact h) ?_
       have kd := below_drew1 (Below.refl w3.heap.size w3)
       have B4 := C3.below kd
       have I4 := I3.below kd I3.lt
       have V5 := aside (VwIn.below V4.out kd)
       have b4 := b3.trans (kd.mono b3.size)
       generalize w3.drew = wz at B4 I4 V5 b4 ⊢
       clear C3 I3 V4 b3 kd
       have hlk := Grow.grown (w := wz) (fun u hu => MapV.run_look mapT (VwIn.below V5.out hu) x zero_view)
       have hfd := field_seen (gv f x)
       simp only [vals_get] at hlk
       (try simp only [Act.put, List.setIfInBounds_toArray, List.set_cons_succ, List.set_cons_zero])
       repeat (first | (refine GrowL.reads rfl rfl ?_; go_big_quiet_want; refine CmA.quiet_id _ rfl _ _ rfl x I4.range ?_; go_big_quiet_on; refine wpQuiet_nil ?_; (try simp only [Act.put, List.setIfInBounds_toArray, List.set_cons_succ, List.set_cons_zero])) | (refine GrowL.reads rfl rfl ?_; go_big_quiet_want; refine Cel.quiet_row CK _ rfl _ _ rfl _ B4.range ?_; go_big_quiet_on; refine wpQuiet_nil ?_; (try simp only [Act.put, List.setIfInBounds_toArray, List.set_cons_succ, List.set_cons_zero])) | (refine GrowL.reads rfl rfl ?_; go_big_quiet_step (fail); refine wpQuiet_nil ?_))
       have qa := and_ret (togS f (a.take k)) (gv f x).2 wz
       have qa : Calls Tryz.prog 68 #[.agg (CK.enc (togS f (a.take k))).toArray, .agg (ck (gv f x).2)] wz _ := qa
       refine GrowL.acts rfl ?_
       go_wp2_with (first | go_skip)
       refine qa.mono ?_
       clear qa
       rintro e w5 ⟨rfl, k5⟩
       go_wp2_with (first | go_skip)
       refine ⟨k5, ?_⟩
       have B5 := B4.below k5
       have V6 := aside (VwIn.below V5.out k5)
       have b5 := b4.trans (k5.mono b4.size)
       clear B4 V5 b4 k5 hlk hfd
       (try simp only [Act.put, List.setIfInBounds_toArray, List.set_cons_succ, List.set_cons_zero])
       refine GrowL.last rfl ?_
       go_wp2_with (first | (refine Cel.wpList_store_box CK rfl _ _ rfl w2.heap.size rfl _ B5 (fun n => max (togS f (a.take k) n) ((gv f x).2 n)) rfl ?_; intro w6 B6 f6 g6 s6))
       refine GrowL.done ?_
       go_wp2_with (first | go_skip)
       go_roundw
       case rel =>
         refine ⟨k + 1, by omega, by go_num, aside (MapV.ValIn.kept V6.out g6 (by simp; omega)), box_congr B6 fun n _ _ => ?_, b5.trans (f6 _ (Nat.le_refl _))⟩
         unfold togS
         rw [most_take HX.out, gv_seen]
       case measure => simp [intOf]; omega
     · obtain rfl : k = a.length := by omega
       rw [List.take_length] at B3
       obtain ⟨s, hs⟩ : ∃ s, togS f a = s := ⟨_, rfl⟩
       rw [hs] at B3 HR
       have HB3 := aside (B3)
       clear V3 B3 hs hmb HTB
       have ht := fun (v : Cv) (hv : v ∈ l) => seq_pos (HCL.out.may v.c (List.mem_map_of_mem hv)) (HCL.out.merge v.c (List.mem_map_of_mem hv))
       have HPOS := aside ht
       clear ht
       go_wp2_with (first | go_skip)
       go_loopw [11, 39] (fun o i wq => ∃ k n : Nat, k ≤ l.length ∧ n ≤ k ∧ i = .int .i64 k ∧ Hid (wq.ownsRow wr.heap.size 56 32 o n (bv (flat ((((coms l).take k).filter fun c => decide (c.seq ≤ s c.node)).map hashK)))) ∧ Below wr.heap.size wr wq) (fun _ i _ => l.length - (intOf i).toNat)
       case atStart => exact ⟨0, 0, Nat.zero_le _, Nat.zero_le _, rfl, aside ⟨rfl, .inl ⟨rfl, rfl⟩⟩, Below.refl _ _⟩
       case round =>
         rename World => wq
         obtain ⟨k, n, hk, hnk, rfl, HO, kc⟩ := hrel
         by_cases hlt : k < l.length
         · obtain ⟨b, off, rfl, hbw, hrg⟩ := HSB.out.plain (by omega)
           obtain ⟨x, hx⟩ : ∃ x, l[k]? = some x := ⟨_, List.getElem?_eq_getElem hlt⟩
           have rx := range_on (range_on (hrg k x hx) kb) kc
           obtain ⟨ba, oa, rfl, _, hra⟩ := SlI.plain HT2.out (by rw [HIL.out]; omega)
           have ra := IdW.range_below (IdW.range_below (hra k (by rw [HIL.out]; exact hlt)) kb) kc
           obtain ⟨h, hh⟩ : ∃ h, hashK x.c = h := ⟨_, rfl⟩
           have hget : own.getD k nought = h := by rw [← HOWN.out, List.getD_eq_getElem?_getD, List.getElem?_map, coms_at hx, ← hh]; rfl
           rw [hget] at ra
           have p0 : (k : Int) < l.length := by omega
           have m0 : ((k : Int)).toNat = k := by omega
           have hpos := HPOS.out x (List.mem_of_getElem? hx)
           have HP := aside (pick_next (s := s) hx)
           have L3 := HB3.out.below kc
           have hc := has_ret s ⟨x.c.node, x.c.seq⟩ hpos.2
           obtain ⟨t, ht⟩ : ∃ t, decide (x.c.seq ≤ s x.c.node) = t := ⟨_, rfl⟩
           rw [ht] at hc HP
           rw [hh] at HP
           have q0 : (k : Int) < (idsD (coms l)).length := by rw [HID.out, HIL.out]; exact p0
           obtain ⟨xs, hxs⟩ : ∃ xs, (((coms l).take k).filter fun c => decide (c.seq ≤ s c.node)).map hashK = xs := ⟨_, rfl⟩
           rw [hxs] at HO HP
           clear hrg hra hx hh hget ht hpos hxs
           cases t with
           | true =>
             go_wp2_with (first | go_skip | (refine load_at rfl _ rfl _ _ rfl x rx ?_) | (refine Cel.wpList_store_new CE rfl _ _ rfl wq _ _ rfl x _ rfl rfl rfl rfl ?_; intro w4 D4 k4 g4 s4; have b4 := kc.trans (k4.mono kc.size); have L4 := L3.below k4; have O4 := aside (owns_below HO.out k4); have r4 := IdW.range_below ra k4; clear g4 s4) | (refine load_ck rfl _ rfl _ rfl _ L4 ?_) | (refine load_cev rfl _ rfl _ rfl x D4 ?_))
             refine (hc _).mono ?_
             rintro e w5 ⟨rfl, k5⟩
             have b5 := b4.trans (k5.mono b4.size)
             have O5 := aside (owns_below O4.out k5)
             have r5 := IdW.range_below r4 k5
             go_wp2_with (first | go_skip | (refine wpList_load_id rfl _ rfl _ _ rfl h r5 ?_) | (refine build_one rfl _ rfl h rfl ?_; intro w6 S6 k6; have b6 := b5.trans (k6.mono b5.size); have O6 := aside (owns_below O5.out k6)) | (refine wpList_append_ids rfl (.tmp 48) (.tmp 53) rfl wr.heap.size _ n xs rfl O6.out _ 1 1 [h] rfl rfl S6 (by omega) b6.size ?_; intro v7 w7 o7 g7))
             have b7 : Below wr.heap.size wr w7 := below_grown b6 b6.size g7 (fun q hq => (O6.out.lt q hq).1)
             go_roundw
             case rel => exact ⟨k + 1, n + 1, by omega, by omega, by go_num, aside (by rw [HP.out]; exact o7), b7⟩
             case measure => simp [intOf]; omega
           | false =>
             go_wp2_with (first | go_skip | (refine load_at rfl _ rfl _ _ rfl x rx ?_) | (refine Cel.wpList_store_new CE rfl _ _ rfl wq _ _ rfl x _ rfl rfl rfl rfl ?_; intro w4 D4 k4 g4 s4; have b4 := kc.trans (k4.mono kc.size); have L4 := L3.below k4; have O4 := aside (owns_below HO.out k4); have r4 := IdW.range_below ra k4; clear g4 s4) | (refine load_ck rfl _ rfl _ rfl _ L4 ?_) | (refine load_cev rfl _ rfl _ rfl x D4 ?_))
             refine (hc _).mono ?_
             rintro e w5 ⟨rfl, k5⟩
             have b5 := b4.trans (k5.mono b4.size)
             have O5 := aside (owns_below O4.out k5)
             go_wp2_with (first | go_skip)
             go_roundw
             case rel => exact ⟨k + 1, n, by omega, by omega, by go_num, aside (by rw [HP.out, if_neg (by decide), List.append_nil]; exact O5.out), b5⟩
             case measure => simp [intOf]; omega
         · obtain rfl : k = l.length := by omega
           have HO2 := HO.out
           rw [List.take_of_length_le (by rw [coms_len]; omega)] at HO2
           obtain ⟨r, hr⟩ : ∃ r, ((coms l).filter fun c => decide (c.seq ≤ s c.node)).map hashK = r := ⟨_, rfl⟩
           have hrl : r.length ≤ 1000 := by
             rw [← hr, List.length_map]
             have := List.length_filter_le (fun c => decide (c.seq ≤ s c.node)) (coms l)
             rw [coms_len] at this
             omega
           rw [hr] at HO2 HR
           obtain ⟨A6, c6, rfl, R6⟩ := SlI.own HO2
           have hrn : r.length = n := by have := HO2.1; rw [bv_length, flat_length] at this; omega
           subst hrn
           have qs := IdU.sort_ret A6 c6 r wq R6 hrl
           clear HO HO2 hr
           go_wp2_with (first | go_skip)
           refine qs.mono ?_
           rintro e w8 ⟨v8, rfl, o8, k8⟩
           go_wp2_with (first | go_skip)
           go_ret
           obtain ⟨A9, c9, rfl, S9⟩ := SlI.own o8
           rw [HR.out]
           exact ⟨A9, c9, rfl, S9, b2.trans ((kb.trans (kc.mono kb.size) |>.trans (k8.mono (Nat.le_trans kb.size kc.size))).mono b2.size)⟩
 · rw [decide_eq_false C] at hb
   subst hb
   have HC := aside C
   clear C hv
   go_wp2_with (first | go_skip)
   go_ret
   rw [ancC, if_neg HC.out]
   exact ⟨none, 0, rfl, SlI.nil _, b2⟩
end Go.Proofs.YtgmdhaepiclkcaaGreatDoor.DhA
namespace Go.Proofs.YtgmdhaepiclkcaaGreatDoor.DhU
set_option maxRecDepth 100000
open Go Go.Sort Go.RowKit Byt IdM IdW IdX
theorem run_part_lh (w : World) (A : Option Addr) (len cap : Nat) (k k' : IntKind) (i j : Nat) (hij : i ≤ j) (hj : j ≤ cap) :
   (Instr.sliceAt 23 (.slice A len cap) (some (.int k i)) (some (.int k' j)) none).run Tryz.prog w = .ok (sliced A i j cap 32) w := by
 rw [run_sliceAt_slice w _ _ _ _ _ under_id, run_slice_lh w _ A len cap under_id k k' i j (by omega) (by omega) (by omega), size_id]
 simp [Result.andThen]
end Go.Proofs.YtgmdhaepiclkcaaGreatDoor.DhU
