/- What the project's Part of package dag returns, where known answers as the document does. No condition. | What the project's Front, Join, Head, Base of package front return, where known does as it must: contracts. No condition. | What slices.Grow of no slice, and slices.Concat of two, return at commits: contracts. No condition but sizes. | What the project's Next of package front returns, and the five of it together: contracts. No condition. -/
import Derived.Test.YtgmdhaepiclkcaaGreatDoorDhCJ3
import Derived.Test.YtgmdhaepiclkcaaGreatDoorFrVJ4
import Derived.Test.YtgmdhaepiclkcaaGreatDoorRowGJ7
import Derived.Lib.AppendZeros
import Derived.Lib.Walk
import Derived.Test.YtgmdhaepiclkcaaGreatDoorStLJ9
namespace Go.Proofs.YtgmdhaepiclkcaaGreatDoor.DhB
set_option maxRecDepth 100000
open Go Go.Sort Go.RowKit Byt IdM IdW IdK IdS OpsM OpsW CmM StW CmW CmX CmY CmA DgM DgW DgR DgX DgY DgI DgF DhO DhP DhT DhK DhC DhA
open Classical
structure Held (w : World) (v : Value) (us : List Cv) : Prop where
 each : ∀ u ∈ us, In w u ∧ CmW.Fit u.c
 far : ∀ u ∈ us, u.c.ps ≠ [] → ∀ b off sp, u.a = some ⟨b, off, sp⟩ → v.ownBlock ≠ some b
theorem Held.nil (w : World) (v : Value) : Held w v [] := ⟨fun u h => by simp at h, fun u h => by simp at h⟩
theorem Held.below {w w' : World} {v : Value} {us : List Cv} (h : Held w v us) (hb : Below w.heap.size w w') : Held w' v us := ⟨fun u hu => ⟨(h.each u hu).1.below hb, (h.each u hu).2⟩, h.far⟩
theorem Held.snoc {w : World} {v : Value} {us : List Cv} {u : Cv} (h : Held w v us) (hi : In w u) (hf : CmW.Fit u.c) (hr : ∀ b off sp, u.a = some ⟨b, off, sp⟩ → v.ownBlock ≠ some b) : Held w v (us ++ [u]) := by
 refine ⟨fun x hx => ?_, fun x hx hp => ?_⟩
 · rcases List.mem_append.1 hx with hx | hx
   · exact h.each x hx
   · rw [List.mem_singleton.1 hx]; exact ⟨hi, hf⟩
 · rcases List.mem_append.1 hx with hx | hx
   · exact h.far x hx hp
   · rw [List.mem_singleton.1 hx]; exact hr
theorem ids_other {w w' : World} {A : Option Addr} {cap : Nat} {l : List Idn} {g : Option Nat} (S : SlI w A cap l) (hg : w.grownBy w' g) (hf : l ≠ [] → ∀ b off sp, A = some ⟨b, off, sp⟩ → g ≠ some b) : SlI w' A cap l ∧ (l ≠ [] → ∀ b off sp, A = some ⟨b, off, sp⟩ → b < w.heap.size) := by
 obtain ⟨h1, h2, h5⟩ := S
 rcases h5 with ⟨rfl, rfl, rfl⟩ | ⟨x, rfl, hc⟩
 · exact ⟨⟨h1, h2, .inl ⟨rfl, rfl, rfl⟩⟩, fun h => absurd rfl h⟩
 · refine ⟨⟨h1, h2, .inr ⟨x, rfl, fun i hi => ?_⟩⟩, fun hl b off sp e => ?_⟩
   · have hcell := hc i hi
     have hlt := block_lt_of_cell hcell
     have hne : some (x.add i).block ≠ g := fun e => hf (fun e => by rw [e] at hi; simp [flat] at hi) x.block x.off x.spot (by cases x; rfl) (by rw [← e, RowIn.block_add])
     unfold World.cell? at hcell ⊢
     rw [hg.block _ hlt hne]
     exact hcell
   · have hlen : 0 < (flat l).length := by
       rw [flat_length]
       have := List.length_pos_iff.2 hl
       omega
     have := block_lt_of_cell (hc 0 hlen)
     rw [RowIn.block_add] at this
     injection e with e
     rw [e] at this
     exact this
theorem Held.grown {w w' : World} {v v' : Value} {us : List Cv} (h : Held w v us) (hg : w.grownBy w' v.ownBlock) (hv : v'.ownBlock = v.ownBlock ∨ v'.ownBlock = some w.heap.size) : Held w' v' us := by
 refine ⟨fun u hu => ⟨(ids_other (h.each u hu).1 hg (h.far u hu)).1, (h.each u hu).2⟩, fun u hu hp b off sp e => ?_⟩
 rcases hv with hv | hv
 · rw [hv]; exact h.far u hu hp b off sp e
 · rw [hv]
   have := (ids_other (h.each u hu).1 hg (h.far u hu)).2 hp b off sp e
   intro e2
   injection e2 with e2
   omega
theorem build_com {w : World} {ops : Array Oper} {rest : List Oper} {o : Oper} {a : Act} {Q : Exit → Act → World → Prop} (hgd : o.guard = none) (x : Operand) (ho : o.op = .buildSlice 22 1 #[(0, x)])
   (y : Cv) (hx : a.eval x = .agg (cc y)) (h : ∀ w1, RowB.Box KE w1 w.heap.size y → Below w.heap.size w w1 → wpList Tryz.prog ops Q rest (a.put o.dst (.slice (some ⟨w.heap.size, 0, none⟩) 1 1)) w1) : wpList Tryz.prog ops Q (o :: rest) a w :=
 RowC.wpList_build1 KE (of_decide_eq_true rfl) hgd x ho y hx (h _ (RowB.Box.new w y _) ((Below.refl _ _).alloc (Nat.le_refl _) _))
theorem coms_snoc (l : List Cv) (x : Cv) : coms (l ++ [x]) = coms l ++ [x.c] := by unfold coms; rw [List.map_append]; rfl
set_option maxRecDepth 100000 in
set_option maxHeartbeats 32000000 in
theorem part_ret (X : KnownRet) (A A' : Option Addr) (cap cap' : Nat) (l : List Cv) (a : List Idn) (w : World) (S : SlK w A cap l) (T : SlI w A' cap' a) (hl : l.length ≤ 1500000000000) (ha : a.length ≤ 1000) (hK : ShaE.KIn w) :
   Calls Tryz.prog 42 #[.slice A l.length cap, .slice A' a.length cap'] w (NewC (partC (coms l) a) w) := by
 have hmax := S.len
 unfold NewC
 go_enter Tryz.func42, Tryz.ntmps42
 go_wp2_with (first | go_skip)
 refine (ids_ret A cap l w S hl hK).mono ?_
 rintro e w1 ⟨A1, c1, rfl, T1, k1⟩
 go_wp2_with (first | go_skip)
 refine (X A A1 cap c1 l _ w1 (S.below k1) T1 rfl hl).mono ?_
 rintro e w2 ⟨mo, b, rfl, hb, hv, k2⟩
 have b2 := k1.trans (k2.mono k1.size)
 by_cases C : Closed hashK (coms l)
 · rw [decide_eq_true C] at hb
   subst hb
   obtain ⟨mb, rfl, _, _⟩ := hv rfl
   have hfew : l.length ≤ 8388608 := by
     have := DgL.closed_few C
     rwa [coms_len] at this
   have hps : ∀ v ∈ l, v.c.ps.length ≤ 1500000000000 := fun v hv => by
     have := (lineB_iff.1 (mayK_iff.1 (C.may v.c (List.mem_map_of_mem hv))).1).2.2.1
     omega
   have hall : (coms l).all mayK = true := List.all_eq_true.2 fun c hc => C.may c hc
   have hid : idsD (coms l) = (coms l).map hashK := by rw [idsD, if_pos hall]
   have hil : ((coms l).map hashK).length = l.length := by rw [List.length_map, coms_len]
   have T2 := T1.below k2
   rw [hid] at T2
   obtain ⟨own, hown⟩ : ∃ own, (coms l).map hashK = own := ⟨_, rfl⟩
   rw [hown] at T2 hil
   have HR : Hid (partC (coms l) a = (coms l).filter fun c => decide (hashK c ∈ a)) := aside (by rw [partC, if_pos C]; exact List.filter_congr fun c _ => decide_eq_decide.2 Iff.rfl)
   have HID := aside (hid.trans hown)
   have HIL := aside hil
   have HOWN := aside hown
   have HT2 := aside T2
   have HSB := aside (S.below b2)
   have HTB := aside (T.below b2)
   have hmm := make_set
   have S0 := aside (SetIn.made w2)
   have kb := StW.below_alloc w2 (.map #[] 0)
   have HPS := aside hps
   clear C hall hid hil hown hv T1 T2 hps
   go_wp2_with (first | go_skip)
   go_loopw [29] (fun i wr => ∃ k : Nat, k ≤ a.length ∧ i = .int .i64 k ∧ Hid (SetIn wr w2.heap.size k (a.take k)) ∧ Below w2.heap.size w2 wr) (fun i _ => a.length - (intOf i).toNat)
   case atStart => exact ⟨0, Nat.zero_le _, rfl, S0, kb⟩
   case round =>
     clear S0 kb
     obtain ⟨k, hk, rfl, S3, kb⟩ := hrel
     by_cases hlt : k < a.length
     · obtain ⟨ba, oa, rfl, _, hra⟩ := SlI.plain HTB.out (by omega)
       obtain ⟨x, hx⟩ : ∃ x, a[k]? = some x := ⟨_, List.getElem?_eq_getElem hlt⟩
       have rx := IdW.range_below (hra k hlt) kb
       have hgx : a.getD k nought = x := by rw [List.getD_eq_getElem?_getD, hx]; rfl
       rw [hgx] at rx
       have p0 : (k : Int) < a.length := by omega
       have m0 : ((k : Int)).toNat = k := by omega
       have HG := aside hgx
       clear hra hx hgx
       go_wp2_with (first | go_skip | (refine wpList_load_id rfl _ rfl _ _ rfl x rx ?_) | (refine IdJ.wpList_alloc_id rfl rfl ?_) | (refine CmG.wpList_store_id rfl _ _ rfl wr nought _ rfl x _ rfl rfl rfl ?_; intro w3 I3 k3 s3; have b3 := kb.trans (k3.mono kb.size); have S4 := aside (SetIn.below S3.out k3); clear s3 S3 kb) | (refine wpList_load_id rfl _ rfl _ _ rfl x I3.range ?_) | (refine IdK.wpList_put _ rfl _ _ _ rfl w2.heap.size k _ rfl S4.out (by omega) x rfl rfl ?_; intro w4 S5 g4))
       go_roundw
       case rel =>
         refine ⟨k + 1, by omega, by go_num, aside (S5.congr fun z => ?_), below_grown b3 b3.size g4 (fun q hq => by cases hq; exact Nat.le_refl _)⟩
         rw [← HG.out]
         exact mem_take_succ hlt z
       case measure => simp [intOf]; omega
     · obtain rfl : k = a.length := by omega
       rw [List.take_length] at S3
       clear HTB
       go_wp2_with (first | go_skip)
       go_loopw [11, 38] (fun o i wq => ∃ (k : Nat) (us : List Cv), k ≤ l.length ∧ us.length ≤ k ∧ i = .int .i64 k ∧ Hid (coms us = ((coms l).take k).filter fun c => decide (hashK c ∈ a)) ∧ Hid (wq.ownsRow wr.heap.size 47 8 o us.length (RowS.flat KE us)) ∧ Hid (Held wq o us) ∧ Below wr.heap.size wr wq) (fun _ i _ => l.length - (intOf i).toNat)
       case atStart => exact ⟨0, [], Nat.zero_le _, Nat.zero_le _, rfl, aside rfl, aside ⟨rfl, .inl ⟨rfl, rfl⟩⟩, aside (Held.nil _ _), Below.refl _ _⟩
       case round =>
         rename World => wq
         obtain ⟨k, us, hk, hnk, rfl, HU, HO, HH, kc⟩ := hrel
         by_cases hlt : k < l.length
         · obtain ⟨b, off, rfl, hbw, hrg⟩ := HSB.out.plain (by omega)
           obtain ⟨x, hx⟩ : ∃ x, l[k]? = some x := ⟨_, List.getElem?_eq_getElem hlt⟩
           have rx := range_on (range_on (hrg k x hx) kb) kc
           have hxm := List.mem_of_getElem? hx
           have IX := ((HSB.out.each x hxm).1.below kb).below kc
           have FX := aside (HSB.out.each x hxm).2
           have hcp := fun W (I : In W x) => copied_ret x W I (HPS.out x hxm)
           obtain ⟨ba, oa, rfl, _, hra⟩ := SlI.plain HT2.out (by rw [HIL.out]; omega)
           have ra := IdW.range_below (IdW.range_below (hra k (by rw [HIL.out]; exact hlt)) kb) kc
           obtain ⟨h, hh⟩ : ∃ h, hashK x.c = h := ⟨_, rfl⟩
           have hget : own.getD k nought = h := by rw [← HOWN.out, List.getD_eq_getElem?_getD, List.getElem?_map, coms_at hx, ← hh]; rfl
           rw [hget] at ra
           have p0 : (k : Int) < l.length := by omega
           have m0 : ((k : Int)).toNat = k := by omega
           have HP := aside (filter_next (fun c => decide (hashK c ∈ a)) (coms_at hx))
           have S4 := aside (SetIn.below S3.out kc)
           rw [hh] at HP
           have q0 : (k : Int) < (idsD (coms l)).length := by rw [HID.out, HIL.out]; exact p0
           clear hrg hra hx hh hget hxm
           by_cases hin : h ∈ a
           · have hif : (if h ∈ a then (1 : Int) else 0) = 1 := if_pos hin
             have HP2 : Hid (((coms l).take (k + 1)).filter (fun c => decide (hashK c ∈ a)) = coms us ++ [x.c]) := aside (by rw [HP.out, if_pos (decide_eq_true hin), HU.out])
             clear HP hin
             go_wp2_with (first | go_skip | (refine load_at rfl _ rfl _ _ rfl x rx ?_) | (refine Cel.wpList_store_new CE rfl _ _ rfl wq _ _ rfl x _ rfl rfl rfl rfl ?_; intro w5 D5 k5 g5 s5; have b5 := kc.trans (k5.mono kc.size); have O5 := aside (owns_below HO.out k5); have H5 := aside (HH.out.below k5); have r5 := IdW.range_below ra k5; have S5 := aside (SetIn.below S4.out k5); have IX5 := CmW.In.below IX k5; clear g5 s5) | (refine wpList_load_id rfl _ rfl _ _ rfl h r5 ?_) | (refine IdK.wpList_find _ rfl _ _ rfl w2.heap.size _ a rfl S5.out h rfl ?_; rw [hif]) | (refine Cel.wpList_load_box CE rfl _ rfl _ rfl x D5 ?_))
             refine (hcp _ IX5).mono ?_
             rintro e w6 ⟨u, rfl, hu, IU, k6, hfar⟩
             have b6 := b5.trans (k6.mono b5.size)
             have O6 := aside (owns_below O5.out k6)
             have H6 := H5.out.below k6
             have hlt6 : ∀ q, Value.ownBlock _ = some q → q < w5.heap.size := fun q hq => (O5.out.lt q hq).2
             have HH6 := aside (H6.snoc IU (fit_of hu FX.out) (fun b off sp e e2 => by
               have h1 := hfar b off sp e
               have h2 := hlt6 b e2
               omega))
             have HU6 := aside (show coms (us ++ [u]) = _ from (coms_snoc us u).trans ((congrArg (fun c => coms us ++ [c]) hu).trans HP2.out.symm))
             clear H6 hlt6 hfar HP2 O5 H5 hcp
             go_wp2_with (first | go_skip | (refine build_com rfl _ rfl u rfl ?_; intro w7 B7 k7; have b7 := b6.trans (k7.mono b6.size); have O7 := aside (owns_below O6.out k7); have H7 := aside (HH6.out.below k7)) | (refine RowB.wpList_append_at KE rfl (.tmp 50) (.tmp 53) rfl wr.heap.size _ us.length us rfl O7.out _ u rfl B7 (by omega) b7.size ?_; intro v8 w8 o8 g8 e8))
             have b8 : Below wr.heap.size wr w8 := below_grown b7 b7.size g8 (fun q hq => (O7.out.lt q hq).1)
             have H8 := aside (H7.out.grown g8 e8)
             go_roundw
             case rel => exact ⟨k + 1, us ++ [u], by omega, by simp; omega, by go_num, HU6, aside (by rw [List.length_append]; exact o8), H8, b8⟩
             case measure => simp [intOf]; omega
           · have hif : (if h ∈ a then (1 : Int) else 0) = 0 := if_neg hin
             have HP2 := aside (show coms us = ((coms l).take (k + 1)).filter (fun c => decide (hashK c ∈ a)) by rw [HP.out, if_neg (by simpa using hin), HU.out, List.append_nil])
             clear HP hin
             go_wp2_with (first | go_skip | (refine load_at rfl _ rfl _ _ rfl x rx ?_) | (refine Cel.wpList_store_new CE rfl _ _ rfl wq _ _ rfl x _ rfl rfl rfl rfl ?_; intro w5 D5 k5 g5 s5; have b5 := kc.trans (k5.mono kc.size); have O5 := aside (owns_below HO.out k5); have H5 := aside (HH.out.below k5); have r5 := IdW.range_below ra k5; have S5 := aside (SetIn.below S4.out k5); have IX5 := CmW.In.below IX k5; clear g5 s5) | (refine wpList_load_id rfl _ rfl _ _ rfl h r5 ?_) | (refine IdK.wpList_find _ rfl _ _ rfl w2.heap.size _ a rfl S5.out h rfl ?_; rw [hif]) | (refine Cel.wpList_load_box CE rfl _ rfl _ rfl x D5 ?_))
             go_roundw
             case rel => exact ⟨k + 1, us, by omega, by omega, by go_num, HP2, O5, H5, b5⟩
             case measure => simp [intOf]; omega
         · obtain rfl : k = l.length := by omega
           have HO2 := HO.out
           have HU2 := HU.out
           rw [List.take_of_length_le (by rw [coms_len]; omega), ← HR.out] at HU2
           obtain ⟨A6, c6, rfl, R6⟩ := own_in HO2 HH.out.each
           have HU3 := aside HU2
           clear HO HO2 HU HU2 HH
           go_wp2_with (first | go_skip)
           go_ret
           exact ⟨A6, c6, us, rfl, R6, HU3.out, b2.trans ((kb.trans (kc.mono kb.size)).mono b2.size)⟩
 · rw [decide_eq_false C] at hb
   subst hb
   have HC := aside C
   clear C hv
   go_wp2_with (first | go_skip)
   go_ret
   rw [partC, if_neg HC.out]
   exact ⟨none, 0, [], rfl, SlK.nil _, rfl, b2⟩
end Go.Proofs.YtgmdhaepiclkcaaGreatDoor.DhB
namespace Go.Proofs.YtgmdhaepiclkcaaGreatDoor.FrC
set_option maxRecDepth 100000
open Go Go.Sort Go.RowKit Byt IdM IdW OpsM OpsW CmM StW CmW CmX CmY CmA DgM DgX DgW DgR DgC DgF DgG FrM FrN FrH FrU FrI FrK FrV DhA
open Classical
theorem pars_few {l : List Com} {n : Nat} (hl : l.length ≤ n) (h : ∀ c ∈ l, c.ps.length ≤ 8) : (pars l).length ≤ 8 * n := by
 induction l generalizing n with
 | nil => simp [pars]
 | cons c l ih =>
   have h1 := h c (by simp)
   have h2 := ih (n := l.length) (Nat.le_refl _) fun d hd => h d (by simp [hd])
   have e : pars (c :: l) = c.ps ++ pars l := rfl
   rw [e, List.length_append]
   simp at hl
   omega
theorem few_ps {l : List Com} (C : Closed hashK l) : ∀ c ∈ l, c.ps.length ≤ 8 := fun c hc => (lineB_iff.1 (mayK_iff.1 (C.may c hc)).1).2.2.1
set_option maxRecDepth 100000 in
set_option maxHeartbeats 16000000 in
theorem front_ret (X : KnownRet) (A : Option Addr) (cap : Nat) (l : List Cv) (w : World) (S : SlK w A cap l) (hl : l.length ≤ 200) (K : ShaE.KIn w) :
   Calls Tryz.prog 60 #[.slice A l.length cap] w (NewD (frontC (coms l)) w) := by
 have q0 := DhA.closed_ret X A cap l w S (by omega) K
 obtain ⟨r, hr⟩ : ∃ r, frontC (coms l) = r := ⟨_, rfl⟩
 rw [hr]
 unfold NewD
 by_cases hC : Closed hashK (coms l)
 · rw [decide_eq_true hC] at q0
   have hids := fun W S K => DhC.ids_ret A cap l W S (by omega) K
   unfold NewD at hids
   have hid : idsD (coms l) = (coms l).map hashK := all_ids hC
   have hlen : ((coms l).map hashK).length = l.length := by rw [List.length_map, coms_len]
   have hp := pars_few (n := 200) (by rw [coms_len]; exact hl) (few_ps hC)
   have he : without ((coms l).map hashK) (pars (coms l)) = r := by rw [← hr, frontC, if_pos hC]; exact front_of fun _ => Iff.rfl
   rw [hid] at hids
   obtain ⟨own, hown⟩ : ∃ own, (coms l).map hashK = own := ⟨_, rfl⟩
   rw [hown] at hids hlen he
   have ql := fun A' c' W T S => last_ret A' A c' cap own l W T S (by omega) (by omega) (by omega)
   rw [he] at ql
   clear hr hC hid hp he hown hlen
   go_enter Tryz.func60, Tryz.ntmps60
   go_wp2_with (first | go_skip)
   refine q0.mono ?_
   rintro e w1 ⟨rfl, k1⟩
   clear q0
   go_wp2_with (first | go_skip)
   refine (hids _ (S.below k1) (K.below k1)).mono ?_
   rintro e w2 ⟨A2, c2, rfl, T2, k2⟩
   have b2 := k1.trans (k2.mono k1.size)
   clear hids
   go_wp2_with (first | go_skip)
   refine (ql A2 c2 _ T2 (S.below b2)).mono ?_
   rintro e w3 ⟨v3, rfl, o3, k3⟩
   obtain ⟨A3, c3, rfl, T3⟩ := SlI.own o3
   clear ql o3
   go_wp2_with (first | go_skip)
   go_ret
   exact ⟨A3, c3, rfl, T3, b2.trans (k3.mono b2.size)⟩
 · rw [decide_eq_false hC] at q0
   have hn : r = [] := by rw [← hr, frontC, if_neg hC]
   subst hn
   clear hr hC
   go_enter Tryz.func60, Tryz.ntmps60
   go_wp2_with (first | go_skip)
   refine q0.mono ?_
   rintro e w1 ⟨rfl, k1⟩
   clear q0
   go_wp2_with (first | go_skip)
   go_ret
   exact ⟨none, 0, rfl, SlI.nil _, k1⟩
end Go.Proofs.YtgmdhaepiclkcaaGreatDoor.FrC
namespace Go.Proofs.YtgmdhaepiclkcaaGreatDoor.FrX
set_option maxRecDepth 100000
open Go Go.Sort Go.RowKit Byt IdM IdW OpsM OpsW RowS CmM StW CmW CmX CmY DgW
set_option maxRecDepth 100000 in
set_option maxHeartbeats 4000000 in
theorem grow_ret (n : Nat) (hn : n ≤ 1000) (w : World) : Calls Tryz.prog 105 #[.slice none 0 0, .int .i64 n] w fun e w' => ∃ v, e = .returned v ∧ w'.ownsRow w.heap.size 47 8 v 0 (RowS.flat KE []) ∧ Below w.heap.size w w' := by
 by_cases h0 : n = 0
 · subst h0
   go_enter Tryz.func105, Tryz.ntmps105
   go_wp2_with (first | go_skip)
   go_ret
   exact ⟨_, rfl, ⟨rfl, .inl ⟨rfl, rfl⟩⟩, Below.refl _ _⟩
 · obtain ⟨i, hi, z0, z1, z2⟩ := info_parts KE.info
   have h1 : ¬ ((n : Int) < 0) := by omega
   have h4 : (0 : Int) < n := by omega
   have hw : IntKind.i64.wrap (n : Int) = n := by rw [IntKind.wrap_i64]; omega
   have hrz : ∀ ty, (Builtin.append_ #[22, 3] ty #[.slice none 0 0, .int .i64 n]).run Tryz.prog w =
       .ok (.slice (some ⟨w.heap.size, 0, none⟩) n (grownCap w n 0 47)) (w.drew.alloc (.cells (Builtin.zeroCells (Value.agg (KE.enc KE.zero).toArray).cells n ++ Builtin.zeroCells (Value.agg (KE.enc KE.zero).toArray).cells (grownCap w n 0 47 - n)) 47)) := fun ty =>
     Lib.run_append_nil_zeros w 22 3 ty 47 i (.agg (KE.enc KE.zero).toArray) .i64 .i64 Tryz.underlying22 Tryz.underlying3 hi z0 n (by omega) (by rw [z1]; show 0 < 8; omega) (by omega) (by rw [z2]; show n * 96 ≤ _; omega)
   have hge := grownCap_ge w n 0 47
   have hle := grownCap_le_maxLen w n 0 47 (by unfold maxLen; omega)
   obtain ⟨G, hG⟩ : ∃ G, grownCap w n 0 47 = G := ⟨_, rfl⟩
   rw [hG] at hrz hge hle
   obtain ⟨Z, hZ⟩ : ∃ Z, Builtin.zeroCells (Value.agg (KE.enc KE.zero).toArray).cells n ++ Builtin.zeroCells (Value.agg (KE.enc KE.zero).toArray).cells (G - n) = Z := ⟨_, rfl⟩
   have hz : Z.size = G * 8 := by
     rw [← hZ]
     simp [Builtin.zeroCells, Value.cells, KE]
     omega
   rw [hZ] at hrz
   have own : (w.drew.alloc (.cells Z 47)).ownsRow w.heap.size 47 8 (.slice (some ⟨w.drew.heap.size, 0, none⟩) 0 G) 0 [] :=
     World.ownsRow_made w.drew _ G (Nat.le_refl _) hle hz
   have kb : Below w.heap.size w (w.drew.alloc (.cells Z 47)) := (below_drew1 (Below.refl _ _)).alloc (Nat.le_refl _) _
   have own' : (w.drew.alloc (.cells Z 47)).ownsRow w.heap.size 47 8 (.slice (some ⟨w.heap.size, 0, none⟩) 0 G) 0 (RowS.flat KE []) := own
   obtain ⟨W, hW⟩ : ∃ W, w.drew.alloc (.cells Z 47) = W := ⟨_, rfl⟩
   rw [hW] at hrz own' kb
   have hmax : (G : Int) ≤ 9223372036854775807 := by unfold maxLen at hle; omega
   clear hG own hz hW hZ
   go_enter Tryz.func105, Tryz.ntmps105
   go_wp2_with (first | go_skip | (at_builtin; refine Lib.wpList_append_run _ rfl _ _ _ _ rfl _ _ rfl rfl _ _ (hrz _) ?_))
   go_ret
   exact ⟨_, rfl, own', kb⟩
set_option maxRecDepth 100000 in
set_option maxHeartbeats 8000000 in
theorem concat_ret (g : Nat) (A0 : Option Addr) (k0 : Nat) (l0 : List Cv) (A1 : Option Addr) (k1 : Nat) (l1 : List Cv) (w : World)
   (c0 : w.cell? ⟨g, 0, none⟩ = some (.slice A0 l0.length k0)) (c1 : w.cell? ⟨g, 1, none⟩ = some (.slice A1 l1.length k1))
   (S0 : SlR KE w A0 k0 l0) (S1 : SlR KE w A1 k1 l1) (hn : l0.length + l1.length ≤ 1000) (cap : Nat) :
   Calls Tryz.prog 61 #[.slice (some ⟨g, 0, none⟩) 2 cap] w (NewR KE (l0 ++ l1) w) := by
 have cg : ∀ W, Calls Tryz.prog 105 #[.slice none 0 0, .int .i64 ((l0.length : Int) + l1.length)] W fun e w' => ∃ v, e = .returned v ∧ w'.ownsRow W.heap.size 47 8 v 0 (RowS.flat KE []) ∧ Below W.heap.size W w' := fun W => by
   have := grow_ret (l0.length + l1.length) (by omega) W
   simpa using this
 go_enter Tryz.func61, Tryz.ntmps61
 go_wp2_with (first | go_skip)
 refine wp_loop_rounds 3 ?_
 rw [rounds_succ]
 go_wp2_with (first | go_skip)
 rw [rounds_succ]
 go_wp2_with (first | go_skip)
 rw [rounds_succ]
 go_wp2_with (first | go_skip)
 refine (cg _).mono ?_
 rintro _ w1 ⟨v1, rfl, own1, b1⟩
 have z0 := b1.cell (block_lt_of_cell c0) |>.trans c0
 have z1 := b1.cell (block_lt_of_cell c1) |>.trans c1
 have T0 := S0.below b1
 have T1 := S1.below b1
 clear cg
 go_wp2_with (first | go_skip)
 refine wp_loop_rounds 3 ?_
 rw [rounds_succ]
 go_wp2_with (first | go_skip | (refine RowS.wpList_append KE rfl (.tmp 31) (.tmp 32) rfl w.heap.size _ 0 [] rfl own1 A0 _ k0 l0 rfl rfl T0 (by omega) b1.size ?_; intro v2 w2 own2 g2))
 have b2 := below_grown b1 b1.size g2 (fun q hq => (own1.lt q hq).1)
 clear z0
 have z1' := b2.cell (block_lt_of_cell c1) |>.trans c1
 have U1 := S1.below b2
 clear z1 T0 T1 g2 own1
 rw [rounds_succ]
 go_wp2_with (first | go_skip | (refine RowS.wpList_append KE rfl (.tmp 31) (.tmp 32) rfl w.heap.size _ _ ([] ++ l0) rfl own2 A1 _ k1 l1 rfl rfl U1 (by omega) b2.size ?_; intro v3 w3 own3 g3))
 have b3 := below_grown b2 b2.size g3 (fun q hq => (own2.lt q hq).1)
 clear z1' U1 g3 own2
 rw [rounds_succ]
 go_wp2_with (first | go_skip)
 go_ret
 refine ⟨_, rfl, ?_, b3⟩
 have e : ([] ++ l0) ++ l1 = l0 ++ l1 := by simp
 rw [e] at own3
 have hl : 0 + l0.length + l1.length = (l0 ++ l1).length := by simp
 rw [← hl]
 exact own3
end Go.Proofs.YtgmdhaepiclkcaaGreatDoor.FrX
namespace Go.Proofs.YtgmdhaepiclkcaaGreatDoor.FrD
set_option maxRecDepth 100000
open Go Go.Sort Go.RowKit Byt IdM IdW OpsM OpsW RowS CmM StW CmW CmX CmY CmA DgM DgX DgW DgR DgC DgF DgG FrM FrN FrH FrU FrK FrV FrY FrZ DhA
open Classical
def tree : Forks.Tree := .free 0 (.free 1 (.free 3 (.free 5 (.two 2 (.two 4 (.free 6 (.act 7 (.act 8 .ends))) 7 (.act 4 (.free 6 (.act 8 .ends)))) 7 (.act 2 (.act 4 (.free 6 (.act 8 .ends))))))))
set_option maxRecDepth 100000 in
set_option maxHeartbeats 32000000 in
theorem next_ret (X : KnownRet) (A : Option Addr) (cap : Nat) (l : List Cv) (ev : Ev) (o : Opn) (w : World) (S : SlK w A cap l) (hl : l.length ≤ 100) (ho : CmR.Okay ⟨ev.node, ev.seq, 0, [], o⟩) (K : ShaE.KIn w) :
   Calls Tryz.prog 22 #[.slice A l.length cap, .agg (ec ev), .agg (opc o)] w (FoundC (nextC (coms l) ev o) w) := by
 obtain ⟨E0, O0, R0⟩ := W3_boxes w ev o
 have b0 := W3_below w ev o
 have qa := fun W S => above_ret A cap l W S
 have qf := fun W S K => FrC.front_ret X A cap l W S (by omega) K
 have qc := fun B n m W S K => DhA.closed_ret X B n (l ++ [m]) W S (by simp; omega) K
 unfold NewD at qf
 have hnx := next_wrap (l := coms l) (ev := ev) (o := o) (fun c hc => by
   obtain ⟨x, hx, rfl⟩ := List.mem_map.1 hc
   exact (S.each x hx).2.gen) (by rw [coms_len]; omega)
 unfold FoundC
 obtain ⟨r, hr⟩ : ∃ r, nextC (coms l) ev o = r := ⟨_, rfl⟩
 obtain ⟨F, hF⟩ : ∃ F, frontC (coms l) = F := ⟨_, rfl⟩
 have hg := wrap_one (most ((coms l).map (·.gen)) + 1)
 obtain ⟨g, hgg⟩ : ∃ g, IntKind.i64.wrap (most ((coms l).map (·.gen)) + 1) = g := ⟨_, rfl⟩
 rw [hr, hF, hgg] at hnx
 rw [hr]
 rw [hF] at qf
 rw [hgg] at qa hg
 have hfit : Fit ⟨ev.node, ev.seq, g, F, o⟩ := ⟨ho.fit.node, ho.fit.seq, hg, ho.fit.op⟩
 have HFIT := aside hfit
 have HNX := aside hnx
 clear hr hF hgg hg hnx hfit ho
 go_enter Tryz.func22, Tryz.ntmps22
 go_wp2_with (first | go_skip)
 refine GrowT.region 8 tree (by kernel_rfl) (by kernel_rfl) rfl (by kernel_rfl) (by intro c a d v w h; cases d <;> exact h) ?_
 have dr := below_drew1 (Below.refl (W3 w ev o).heap.size (W3 w ev o))
 have E1 := E0.below dr
 have O1 := O0.below dr
 have R1 := R0.below dr
 have b1 := b0.trans (dr.mono b0.size)
 rw [show ((w.alloc (.cells (ec ev) 43)).alloc (.cells (opc o) 45)).alloc (.cells #[.int .i64 0, .int .i64 0, .int .i64 0, .slice none 0 0, .int .i64 0, .string ⟨#[]⟩, .string ⟨#[]⟩, .int .i64 0] 47) = W3 w ev o from rfl]
 generalize (W3 w ev o).drew = w1 at E1 O1 R1 b1 ⊢
 clear E0 O0 R0 b0 dr
 (try simp only [Act.put, List.setIfInBounds_toArray, List.set_cons_succ, List.set_cons_zero])
 repeat (first | (refine GrowT.reads rfl rfl ?_; go_big_quiet_want; refine Cel.quiet_row EE _ rfl _ _ rfl ev E1.range ?_; go_big_quiet_on; refine wpQuiet_nil ?_; (try simp only [Act.put, List.setIfInBounds_toArray, List.set_cons_succ, List.set_cons_zero])) | (refine GrowT.reads rfl rfl ?_; go_big_quiet_want; refine Cel.quiet_row OE _ rfl _ _ rfl o O1.range ?_; go_big_quiet_on; refine wpQuiet_nil ?_; (try simp only [Act.put, List.setIfInBounds_toArray, List.set_cons_succ, List.set_cons_zero])) | (refine GrowT.reads rfl rfl ?_; go_big_quiet_step (fail); refine wpQuiet_nil ?_))
 clear E1 O1
 refine GrowT.forks rfl rfl ?_ ?_
 focus
   go_wp2_with (first | go_skip)
   refine (qa _ (S.below b1)).mono ?_
   rintro e w2 ⟨rfl, k⟩
   go_wp2_with (first | go_skip)
   refine ⟨k, ?_⟩
   (try simp only [Act.put, List.setIfInBounds_toArray, List.set_cons_succ, List.set_cons_zero])
   have R2 := R1.below k
   have b2 := b1.trans (k.mono b1.size)
   clear R1 b1 k
   refine GrowT.forks rfl rfl ?_ ?_
   focus
     go_wp2_with (first | go_skip)
     refine (qf _ (S.below b2) (K.below b2)).mono ?_
     rintro e w3 ⟨AF, cF, rfl, T3, k⟩
     go_wp2_with (first | go_skip)
     refine ⟨k, ?_⟩
     (try simp only [Act.put, List.setIfInBounds_toArray, List.set_cons_succ, List.set_cons_zero])
     have R3 := R2.below k
     have b3 := b2.trans (k.mono b2.size)
     clear R2 b2 k
     refine GrowT.reads rfl rfl ?_
     go_big_quiet_want
     refine quiet_build4 _ _ _ _ rfl (.agg (EE.enc ev).toArray) (.int .i64 g) (.slice AF F.length cF) (.agg (OE.enc o).toArray) _ rfl rfl rfl rfl (build_com4 ev g AF F.length cF o) ?_
     go_big_quiet_on
     refine wpQuiet_nil ?_
     (try simp only [Act.put, List.setIfInBounds_toArray, List.set_cons_succ, List.set_cons_zero])
     refine GrowT.acts rfl ?_
     go_wp2_with (first | go_skip)
     have k := StW.below_alloc w3 (.cells #[.int .i64 0, .int .i64 0, .int .i64 0, .slice none 0 0, .int .i64 0, .string ⟨#[]⟩, .string ⟨#[]⟩, .int .i64 0] 47)
     refine ⟨k, ?_⟩
     (try simp only [Act.put, List.setIfInBounds_toArray, List.set_cons_succ, List.set_cons_zero])
     have N4 : Cel.Box CE (w3.alloc (.cells #[.int .i64 0, .int .i64 0, .int .i64 0, .slice none 0 0, .int .i64 0, .string ⟨#[]⟩, .string ⟨#[]⟩, .int .i64 0] 47)) w3.heap.size noV := Cel.Box.new (E := CE) w3 noV _
     have hz : w.heap.size + 1 + 1 < w3.heap.size := R3.lt
     have R4 := R3.below k
     have T4 := T3.below k
     have b4 := b3.trans (k.mono b3.size)
     clear R3 T3 b3 k
     obtain ⟨gn, hgn⟩ : ∃ gn, w3.heap.size = gn := ⟨_, rfl⟩
     generalize w3.alloc (.cells #[.int .i64 0, .int .i64 0, .int .i64 0, .slice none 0 0, .int .i64 0, .string ⟨#[]⟩, .string ⟨#[]⟩, .int .i64 0] 47) = w4 at R4 T4 b4 N4 ⊢
     rw [hgn] at N4 hz
     try rw [hgn]
     clear hgn
   rotate_left
   focus
     go_wp2_with (first | go_skip)
     have k := StW.below_alloc w2 (.cells #[.int .i64 0, .int .i64 0, .int .i64 0, .slice none 0 0, .int .i64 0, .string ⟨#[]⟩, .string ⟨#[]⟩, .int .i64 0] 47)
     refine ⟨k, ?_⟩
     (try simp only [Act.put, List.setIfInBounds_toArray, List.set_cons_succ, List.set_cons_zero])
     have N3 : Cel.Box CE (w2.alloc (.cells #[.int .i64 0, .int .i64 0, .int .i64 0, .slice none 0 0, .int .i64 0, .string ⟨#[]⟩, .string ⟨#[]⟩, .int .i64 0] 47)) w2.heap.size noV := Cel.Box.new (E := CE) w2 noV _
     have hz : w.heap.size + 1 + 1 < w2.heap.size := R2.lt
     have R3 := R2.below k
     have b3 := b2.trans (k.mono b2.size)
     clear R2 b2 k
     obtain ⟨gn, hgn⟩ : ∃ gn, w2.heap.size = gn := ⟨_, rfl⟩
     generalize w2.alloc (.cells #[.int .i64 0, .int .i64 0, .int .i64 0, .slice none 0 0, .int .i64 0, .string ⟨#[]⟩, .string ⟨#[]⟩, .int .i64 0] 47) = w3 at R3 b3 N3 ⊢
     rw [hgn] at N3 hz
     try rw [hgn]
     clear hgn
     refine GrowT.acts rfl ?_
     go_wp2_with (first | go_skip)
     refine (qf _ (S.below b3) (K.below b3)).mono ?_
     rintro e w4 ⟨AF, cF, rfl, T4, k⟩
     go_wp2_with (first | go_skip)
     refine ⟨k, ?_⟩
     (try simp only [Act.put, List.setIfInBounds_toArray, List.set_cons_succ, List.set_cons_zero])
     have R4 := R3.below k
     have N4 := N3.below k
     have b4 := b3.trans (k.mono b3.size)
     clear R3 N3 b3 k
     refine GrowT.reads rfl rfl ?_
     go_big_quiet_want
     refine quiet_build4 _ _ _ _ rfl (.agg (EE.enc ev).toArray) (.int .i64 g) (.slice AF F.length cF) (.agg (OE.enc o).toArray) _ rfl rfl rfl rfl (build_com4 ev g AF F.length cF o) ?_
     go_big_quiet_on
     refine wpQuiet_nil ?_
     (try simp only [Act.put, List.setIfInBounds_toArray, List.set_cons_succ, List.set_cons_zero])
 rotate_left 2
 focus
   go_wp2_with (first | go_skip)
   have k := StW.below_alloc w1 (.cells #[.int .i64 0, .int .i64 0, .int .i64 0, .slice none 0 0, .int .i64 0, .string ⟨#[]⟩, .string ⟨#[]⟩, .int .i64 0] 47)
   refine ⟨k, ?_⟩
   (try simp only [Act.put, List.setIfInBounds_toArray, List.set_cons_succ, List.set_cons_zero])
   have N2 : Cel.Box CE (w1.alloc (.cells #[.int .i64 0, .int .i64 0, .int .i64 0, .slice none 0 0, .int .i64 0, .string ⟨#[]⟩, .string ⟨#[]⟩, .int .i64 0] 47)) w1.heap.size noV := Cel.Box.new (E := CE) w1 noV _
   have hz : w.heap.size + 1 + 1 < w1.heap.size := R1.lt
   have R2 := R1.below k
   have b2 := b1.trans (k.mono b1.size)
   clear R1 b1 k
   obtain ⟨gn, hgn⟩ : ∃ gn, w1.heap.size = gn := ⟨_, rfl⟩
   generalize w1.alloc (.cells #[.int .i64 0, .int .i64 0, .int .i64 0, .slice none 0 0, .int .i64 0, .string ⟨#[]⟩, .string ⟨#[]⟩, .int .i64 0] 47) = w2 at R2 b2 N2 ⊢
   rw [hgn] at N2 hz
   try rw [hgn]
   clear hgn
   refine GrowT.acts rfl ?_
   go_wp2_with (first | go_skip)
   refine (qa _ (S.below b2)).mono ?_
   rintro e w3 ⟨rfl, k⟩
   go_wp2_with (first | go_skip)
   refine ⟨k, ?_⟩
   (try simp only [Act.put, List.setIfInBounds_toArray, List.set_cons_succ, List.set_cons_zero])
   have R3 := R2.below k
   have N3 := N2.below k
   have b3 := b2.trans (k.mono b2.size)
   clear R2 N2 b2 k
   refine GrowT.acts rfl ?_
   go_wp2_with (first | go_skip)
   refine (qf _ (S.below b3) (K.below b3)).mono ?_
   rintro e w4 ⟨AF, cF, rfl, T4, k⟩
   go_wp2_with (first | go_skip)
   refine ⟨k, ?_⟩
   (try simp only [Act.put, List.setIfInBounds_toArray, List.set_cons_succ, List.set_cons_zero])
   have R4 := R3.below k
   have N4 := N3.below k
   have b4 := b3.trans (k.mono b3.size)
   clear R3 N3 b3 k
   refine GrowT.reads rfl rfl ?_
   go_big_quiet_want
   refine quiet_build4 _ _ _ _ rfl (.agg (EE.enc ev).toArray) (.int .i64 g) (.slice AF F.length cF) (.agg (OE.enc o).toArray) _ rfl rfl rfl rfl (build_com4 ev g AF F.length cF o) ?_
   go_big_quiet_on
   refine wpQuiet_nil ?_
   (try simp only [Act.put, List.setIfInBounds_toArray, List.set_cons_succ, List.set_cons_zero])
 all_goals
   refine GrowT.last rfl ?_
   go_wp2_with (first | go_skip | (refine Cel.wpList_store_box CE rfl _ _ rfl gn rfl noV N4 (⟨AF, cF, ⟨ev.node, ev.seq, g, F, o⟩⟩ : Cv) rfl ?_; intro w5 N5 f8 g8 s8))
   have R5 := R4.kept g8 (fun e => absurd (Option.some.inj e) (Nat.ne_of_lt hz))
   have T5 := CmD.sli_far T4 (CmD.no_cm N4) g8
   have b5 := b4.trans (f8 w.heap.size (by omega))
   clear R4 T4 N4 b4 f8 g8 s8
   refine GrowL.done ?_
   go_wp2_with (first | go_skip | (refine Cel.wpList_load_box CE rfl _ rfl _ rfl (⟨AF, cF, ⟨ev.node, ev.seq, g, F, o⟩⟩ : Cv) N5 ?_) | (refine RowC.wpList_lit1 KE (of_decide_eq_true rfl) rfl _ rfl (⟨AF, cF, ⟨ev.node, ev.seq, g, F, o⟩⟩ : Cv) rfl ?_; intro w6 S6 k))
   have R6 := R5.below k
   have N6 := N5.below k
   have T6 := T5.below k
   have b6 := b5.trans (k.mono b5.size)
   clear R5 N5 T5 b5 k
   obtain ⟨z0, z1⟩ := two_cells w6 (.slice A l.length cap) (.slice (some ⟨w5.heap.size, 0, none⟩) 1 1) 22
   have k := StW.below_alloc w6 (.cells #[.slice A l.length cap, .slice (some ⟨w5.heap.size, 0, none⟩) 1 1] 22)
   refine (FrX.concat_ret w6.heap.size A cap l (some ⟨w5.heap.size, 0, none⟩) 1 [(⟨AF, cF, ⟨ev.node, ev.seq, g, F, o⟩⟩ : Cv)] _ z0 z1 (S.below (b6.trans (k.mono b6.size))).row (S6.below k) (by simp; omega) 2).mono ?_
   clear z0 z1
   have R7 := R6.below k
   have N7 := N6.below k
   have T7 := T6.below k
   have b7 := b6.trans (k.mono b6.size)
   clear R6 N6 T6 b6 k
   rintro e wc ⟨vc, rfl, oc, k⟩
   have R8 := R7.below k
   have N8 := N7.below k
   have T8 := T7.below k
   have b8 := b7.trans (k.mono b7.size)
   clear R7 N7 T7 b7 k
   obtain ⟨AC, cC, rfl, SC⟩ := sl_both oc (S.below b8).each (fun x hx => by rw [List.mem_singleton.1 hx]; exact ⟨T8, HFIT.out⟩)
   clear oc
   have qd := qc AC cC (⟨AF, cF, ⟨ev.node, ev.seq, g, F, o⟩⟩ : Cv) _ SC (K.below b8)
   rw [coms_one] at qd
   rw [List.length_append, List.length_singleton] at qd
   go_wp2_with (first | go_skip)
   refine qd.mono ?_
   clear qd SC
   rintro e we ⟨rfl, k⟩
   have R9 := R8.below k
   have N9 := N8.below k
   have T9 := T8.below k
   have b9 := b8.trans (k.mono b8.size)
   clear R8 N8 T8 b8 k
   have hnx := HNX.out
   by_cases D : Closed hashK (coms l ++ [⟨ev.node, ev.seq, g, F, o⟩])
   case pos =>
     rw [if_pos D] at hnx
     have hd : decide (Closed hashK (coms l ++ [(⟨AF, cF, ⟨ev.node, ev.seq, g, F, o⟩⟩ : Cv).c])) = true := decide_eq_true D
     rw [hd]
     clear hd D
     subst hnx
     go_wp2_with (first | go_skip | (refine Cel.wpList_load_box CE rfl _ rfl _ rfl (⟨AF, cF, ⟨ev.node, ev.seq, g, F, o⟩⟩ : Cv) N9 ?_) | (refine Cel.wpList_store_box CE rfl _ _ rfl (w.heap.size + 1 + 1) rfl noV R9 (⟨AF, cF, ⟨ev.node, ev.seq, g, F, o⟩⟩ : Cv) rfl ?_; intro wZ RZ fZ gZ sZ))
     exact bodyPost_ret (v := .tuple #[.agg (cc (⟨AF, cF, ⟨ev.node, ev.seq, g, F, o⟩⟩ : Cv)), .bool true]) (results_cb Tryz.results22 _ _ (w.heap.size + 1 + 1) (⟨AF, cF, ⟨ev.node, ev.seq, g, F, o⟩⟩ : Cv) _ rfl rfl RZ) rfl ⟨(⟨AF, cF, ⟨ev.node, ev.seq, g, F, o⟩⟩ : Cv), rfl, rfl, CmD.sli_far T9 (CmD.no_cm R9) gZ, HFIT.out, b9.trans (fZ _ (by omega))⟩
   case neg =>
     rw [if_neg D] at hnx
     have hd : decide (Closed hashK (coms l ++ [(⟨AF, cF, ⟨ev.node, ev.seq, g, F, o⟩⟩ : Cv).c])) = false := decide_eq_false D
     rw [hd]
     clear hd D
     subst hnx
     go_wp2_with (first | go_skip | (refine Cel.wpList_load_box CE rfl _ rfl _ rfl (⟨AF, cF, ⟨ev.node, ev.seq, g, F, o⟩⟩ : Cv) N9 ?_) | (refine Cel.wpList_store_box CE rfl _ _ rfl (w.heap.size + 1 + 1) rfl noV R9 noV rfl ?_; intro wZ RZ fZ gZ sZ))
     exact bodyPost_ret (v := .tuple #[.agg (cc noV), .bool false]) (results_cb Tryz.results22 _ _ (w.heap.size + 1 + 1) noV _ rfl rfl RZ) rfl ⟨noV, rfl, rfl, CmW.In.none _, fit_noK, b9.trans (fZ _ (by omega))⟩
end Go.Proofs.YtgmdhaepiclkcaaGreatDoor.FrD
