/- What the project's copied, Ids and Find of package dag return: contracts. | Plain facts: closed commits are at most as many as there are events. No condition. | What the project's Closed, Anc, Part and Sorted of package dag return, where known answers as the document does. No condition. -/
import Derived.Test.YtgmdhaepiclkcaaGreatDoorFrVJ4
import Derived.Test.YtgmdhaepiclkcaaGreatDoorCmTJ4
import Derived.Test.YtgmdhaepiclkcaaGreatDoorStLJ9
import Derived.Test.YtgmdhaepiclkcaaGreatDoorFrMJ4
import Derived.Test.YtgmdhaepiclkcaaGreatDoorDhK
import Derived.Test.YtgmdhaepiclkcaaGreatDoorLaySortJ5
import Derived.Test.YtgmdhaepiclkcaaGreatDoorDgNJ21
namespace Go.Proofs.YtgmdhaepiclkcaaGreatDoor.DhC
set_option maxRecDepth 100000
open Go Go.Sort Go.RowKit Byt IdM IdW OpsM OpsW CmM StW CmW CmX CmY CmA DgM DgW DgR DgG
theorem nil_eq (w : World) : (binOp BinOp.eql 23 (.slice none 0 0) (.slice none 0 0)).run Tryz.prog w = .ok (.bool true) w := by kernel_rfl
theorem some_eq (p : Addr) (n cap : Nat) (w : World) : (binOp BinOp.eql 23 (.slice (some p) n cap) (.slice none 0 0)).run Tryz.prog w = .ok (.bool false) w := by kernel_rfl
theorem build_none {w : World} {ops : Array Oper} {rest : List Oper} {o : Oper} {a : Act} {Q : Exit → Act → World → Prop} (hgd : o.guard = none) (ho : o.op = .buildSlice 23 0 #[])
   (h : ∀ w1 cap, w1.ownsRow w.heap.size 56 32 (.slice (some ⟨w.heap.size, 0, none⟩) 0 cap) 0 (bv (flat [])) → Below w.heap.size w w1 → w.heap.size ≤ w1.heap.size → wpList Tryz.prog ops Q rest (a.put o.dst (.slice (some ⟨w.heap.size, 0, none⟩) 0 cap)) w1) : wpList Tryz.prog ops Q (o :: rest) a w := by
 refine wpList_plain hgd fun K hK => ?_
 have hrun : (Instr.buildSlice 23 0 #[]).run Tryz.prog w = .ok (.slice (some ⟨w.heap.size, 0, none⟩) 0 0) (w.alloc (.cells #[] 56)) := by kernel_rfl
 unfold Oper.wp execOp
 simp only [ho, List.map_toArray, List.map_nil, Sem.run_bind, hrun, Result.andThen_ok, Sem.run_pure]
 refine hK _ _ (h _ 0 ⟨rfl, .inr ⟨w.heap.size, 0, #[], rfl, Nat.le_refl _, heap_alloc_new w _, Nat.le_refl _, Nat.zero_le _, rfl, rfl⟩⟩ ((Below.refl _ _).alloc (Nat.le_refl _) _) (by simp))
theorem clone_ret (A : Option Addr) (cap : Nat) (l : List Idn) (w : World) (S : SlI w A cap l) (hl : l.length ≤ 1500000000000) :
   Calls Tryz.prog 119 #[.slice A l.length cap] w fun e w' => ∃ A2 cap2, e = .returned (.slice A2 l.length cap2) ∧ SlI w' A2 cap2 l ∧ Below w.heap.size w w' ∧ ∀ b off sp, A2 = some ⟨b, off, sp⟩ → w.heap.size ≤ b := by
 rcases S.2.2 with ⟨rfl, rfl, rfl⟩ | ⟨p, rfl, _⟩
 · have he := nil_eq
   go_enter Tryz.func119, Tryz.ntmps119
   go_wp2_with (first | go_skip)
   go_ret
   exact ⟨none, 0, rfl, SlI.nil w, Below.refl _ _, fun b off sp h => by cases h⟩
 · have he := some_eq p l.length cap
   go_enter Tryz.func119, Tryz.ntmps119
   go_wp2_with (first | go_skip | (refine build_none rfl rfl ?_; intro w1 c1 o1 k1 s1; have S1 := S.below k1) | (refine wpList_append_ids rfl (.tmp 5) (.tmp 6) rfl w.heap.size _ 0 [] rfl o1 (some p) _ cap l rfl rfl S1 (by omega) s1 ?_; intro v2 w2 o2 g2))
   go_ret
   have hb := o2.lt
   obtain ⟨A2, cap2, rfl, S2⟩ := SlI.own o2
   refine ⟨A2, cap2, rfl, S2, below_grown k1 s1 g2 (fun q hq => (o1.lt q hq).1), fun b off sp h => ?_⟩
   subst h
   exact (hb b rfl).1
theorem info_ids : (Tryz.prog.info? 23).map (·.size) = some 1 := by kernel_rfl
theorem copied_ret (v : Cv) (w : World) (S : In w v) (hl : v.c.ps.length ≤ 1500000000000) :
   Calls Tryz.prog 67 #[.agg (cc v)] w fun e w' => ∃ u : Cv, e = .returned (.agg (cc u)) ∧ u.c = v.c ∧ In w' u ∧ Below w.heap.size w w' ∧ ∀ b off sp, u.a = some ⟨b, off, sp⟩ → w.heap.size ≤ b := by
 have z1 : (w.alloc (.cells (cc v) 47)).heap.size = w.heap.size + 1 := by simp
 have B0 : Cel.Box CE ((w.alloc (.cells (cc v) 47)).alloc (.cells #[.int .i64 0, .int .i64 0, .int .i64 0, .slice none 0 0, .int .i64 0, .string ⟨#[]⟩, .string ⟨#[]⟩, .int .i64 0] 47)) w.heap.size v := (Cel.Box.new (E := CE) w v _).alloc _
 have B1 : Cel.Box CE ((w.alloc (.cells (cc v) 47)).alloc (.cells #[.int .i64 0, .int .i64 0, .int .i64 0, .slice none 0 0, .int .i64 0, .string ⟨#[]⟩, .string ⟨#[]⟩, .int .i64 0] 47)) (w.heap.size + 1) noV := by
   rw [← z1]
   exact Cel.Box.new (E := CE) _ noV _
 have kb : Below w.heap.size w ((w.alloc (.cells (cc v) 47)).alloc (.cells #[.int .i64 0, .int .i64 0, .int .i64 0, .slice none 0 0, .int .i64 0, .string ⟨#[]⟩, .string ⟨#[]⟩, .int .i64 0] 47)) := ((Below.refl _ _).alloc (Nat.le_refl _) _).alloc (by simp) _
 clear z1
 have c3 := cell_ps B0
 have q := fun W (T : SlI W v.a v.k v.c.ps) => clone_ret v.a v.k v.c.ps W T hl
 go_enter Tryz.func67, Tryz.ntmps67
 go_wp2_with (first | go_skip)
 refine (q _ (S.below kb)).mono ?_
 rintro e w1 ⟨A2, cap2, rfl, S2, k1, hfar⟩
 have D0 := B0.below k1
 have D1 := B1.below k1
 have b1 := kb.trans (k1.mono kb.size)
 have kbs := kb.size
 clear B0 B1 kb k1 q c3
 go_wp2_with (first | go_skip | (refine Cel.wpList_store_field CE rfl rfl 23 _ _ rfl info_ids w.heap.size 3 rfl (by show 3 < 8; omega) v D0 ⟨A2, cap2, v.c⟩ (.slice A2 v.c.ps.length cap2) rfl rfl rfl rfl ?_; intro w2 E0 f2 g2 s2; have E1 := D1.kept g2 (by simp); have b2 := b1.trans (f2 _ (Nat.le_refl _)); have S3 := CmD.sli_far S2 (CmD.no_cm D0) g2; clear D0 D1 b1) | (refine Cel.wpList_load_box CE rfl _ rfl _ rfl _ E0 ?_) | (refine Cel.wpList_store_box CE rfl _ _ rfl (w.heap.size + 1) rfl _ E1 ⟨A2, cap2, v.c⟩ rfl ?_; intro w3 G1 f3 g3 s3))
 exact bodyPost_ret (v := .agg (cc ⟨A2, cap2, v.c⟩)) (CmF.results_c Tryz.results67 _ _ (w.heap.size + 1) ⟨A2, cap2, v.c⟩ rfl G1) rfl ⟨⟨A2, cap2, v.c⟩, rfl, rfl, CmD.sli_far S3 (CmD.no_cm E1) g3, b2.trans (f3 _ (by omega)), fun b off sp h => Nat.le_trans kbs (hfar b off sp h)⟩
set_option maxRecDepth 100000 in
set_option maxHeartbeats 16000000 in
theorem ids_ret (A : Option Addr) (cap : Nat) (l : List Cv) (w : World) (S : SlK w A cap l) (hl : l.length ≤ 1500000000000) (hK : ShaE.KIn w) :
   Calls Tryz.prog 25 #[.slice A l.length cap] w (NewD (idsD (coms l)) w) := by
 obtain ⟨r, hr⟩ : ∃ r, idsD (coms l) = r := ⟨_, rfl⟩
 have HR : Hid (r = if (coms (l.drop 0)).all mayK = true then (coms l).map hashK else []) := aside (by rw [← hr]; rfl)
 rw [hr]
 clear hr
 unfold NewD
 obtain ⟨i, hi, z0, z1, z2⟩ := info_parts zero_id
 obtain ⟨w1, hmk, own1, g1⟩ := run_make_own (P := Tryz.prog) w w.heap.size 23 56 i (.agg (cs nought)) 32 Tryz.underlying23 hi z0 z1 .i64 .i64 l.length (by rw [z2]; omega) (by unfold maxLen; omega) (Nat.le_refl _)
 have kb1 : Below w.heap.size w w1 := below_grown (Below.refl _ _) (Nat.le_refl _) g1 (fun k hk => by cases hk)
 clear hi z0 z1 z2 g1
 go_enter Tryz.func25, Tryz.ntmps25
 go_wp2_with (first | go_skip)
 go_loopw [3, 13] (fun o i wr => ∃ k : Nat, k ≤ l.length ∧ i = .int .i64 k ∧ Hid (r = if (coms (l.drop k)).all mayK = true then (coms l).map hashK else []) ∧ Hid (wr.ownsRow w.heap.size 56 32 o k (bv (flat (((coms l).take k).map hashK)))) ∧ Below w.heap.size w wr) (fun _ i _ => l.length - (intOf i).toNat)
 case atStart => exact ⟨0, Nat.zero_le _, rfl, HR, aside own1, kb1⟩
 case round =>
   clear HR own1 kb1 hmk
   obtain ⟨k, hk, rfl, HR, HO, kb⟩ := hrel
   by_cases hlt : k < l.length
   · obtain ⟨b, off, rfl, hbw, hrg⟩ := S.plain (by omega)
     obtain ⟨x, hx⟩ : ∃ x, l[k]? = some x := ⟨_, List.getElem?_eq_getElem hlt⟩
     have hr1 := range_on (hrg k x hx) kb
     have p0 : (k : Int) < l.length := by omega
     have m0 : ((k : Int)).toNat = k := by omega
     have hxm := List.mem_of_getElem? hx
     have IX := (S.each x hxm).1.below kb
     have hc := fun W (I : In W x) K => CmA.hash_ret x W I (S.each x hxm).2 K
     unfold HashOut at hc
     have HT := aside (take_map (coms_at hx))
     have HD : Hid ((coms (l.drop k)).all mayK = (mayK x.c && (coms (l.drop (k + 1))).all mayK)) := aside (by rw [drop_at hx]; rfl)
     clear hrg hx hxm
     cases hm : mayK x.c with
     | false =>
       obtain ⟨y1, y2, y3⟩ := putB_no hm
       rw [y2] at hc
       have HE : Hid (r = []) := aside (by rw [HR.out, HD.out, hm]; rfl)
       clear HR HD y1 y2 y3 hm HO
       go_wp2_with (first | go_skip | (refine load_at rfl _ rfl _ _ rfl x hr1 ?_) | (refine Cel.wpList_store_new CE rfl _ _ rfl wr _ _ rfl x _ rfl rfl rfl rfl ?_; intro w3 B3 k3 g3 s3; have b3 := kb.trans (k3.mono kb.size); have IX3 := CmW.In.below IX k3; clear g3 s3) | (refine Cel.wpList_load_box CE rfl _ rfl _ rfl x B3 ?_))
       refine (hc _ IX3 (hK.below b3)).mono ?_
       rintro e w1 ⟨rfl, k1⟩
       have b1 := b3.trans (k1.mono b3.size)
       clear hc kb k1 hr1
       go_wp2_with (first | go_skip | (refine IdJ.wpList_alloc_id rfl rfl ?_) | (refine CmG.wpList_store_id rfl _ _ rfl _ nought _ rfl (hashI x.c) _ rfl rfl rfl ?_; intro w2 G2 k2 s2; have b2 := b1.trans (k2.mono b1.size)))
       go_ret
       rw [HE.out]
       exact ⟨none, 0, rfl, SlI.nil _, b2⟩
     | true =>
       obtain ⟨y1, y2, y3⟩ := putB_yes hm
       rw [y2, y3] at hc
       have HE : Hid (r = if (coms (l.drop (k + 1))).all mayK = true then (coms l).map hashK else []) := aside (by rw [HR.out, HD.out, hm, Bool.true_and])
       clear HR HD y1 y2 y3 hm
       obtain ⟨h, hh⟩ : ∃ h, hashK x.c = h := ⟨_, rfl⟩
       rw [hh] at hc HT
       clear hh
       obtain ⟨xs, hxs⟩ : ∃ xs, ((coms l).take k).map hashK = xs := ⟨_, rfl⟩
       rw [hxs] at HO HT
       clear hxs
       go_wp2_with (first | go_skip | (refine load_at rfl _ rfl _ _ rfl x hr1 ?_) | (refine Cel.wpList_store_new CE rfl _ _ rfl wr _ _ rfl x _ rfl rfl rfl rfl ?_; intro w3 B3 k3 g3 s3; have b3 := kb.trans (k3.mono kb.size); have IX3 := CmW.In.below IX k3; have O3 := aside (owns_below HO.out k3); clear g3 s3) | (refine Cel.wpList_load_box CE rfl _ rfl _ rfl x B3 ?_))
       refine (hc _ IX3 (hK.below b3)).mono ?_
       rintro e w1 ⟨rfl, k1⟩
       have b1 := b3.trans (k1.mono b3.size)
       have O1 := aside (owns_below O3.out k1)
       clear hc kb k1 hr1 HO O3 b3
       go_wp2_with (first | go_skip | (refine IdJ.wpList_alloc_id rfl rfl ?_) | (refine CmG.wpList_store_id rfl _ _ rfl _ nought _ rfl h _ rfl rfl rfl ?_; intro w2 G2 k2 s2; have b2 := b1.trans (k2.mono b1.size); have O2 := aside (owns_below O1.out k2)) | (refine wpList_load_id rfl _ rfl _ _ rfl h G2.range ?_) | (refine build_one rfl _ rfl h rfl ?_; intro w3 S3 k3; have b3 := b2.trans (k3.mono b2.size); have O3 := aside (owns_below O2.out k3)) | (refine wpList_append_ids rfl (.tmp 24) (.tmp 26) rfl w.heap.size _ k xs rfl O3.out _ 1 1 [h] rfl rfl S3 (by omega) b3.size ?_; intro v6 w6 o6 g6))
       have b6 : Below w.heap.size w w6 := below_grown b3 b3.size g6 (fun q hq => (O3.out.lt q hq).1)
       go_roundw
       case rel => exact ⟨k + 1, by omega, by go_num, HE, aside (by rw [HT.out]; exact o6), b6⟩
       case measure => simp [intOf]; omega
   · have e : k = l.length := by omega
     have HE : Hid (r = (coms l).map hashK) := aside (by rw [HR.out, List.drop_of_length_le (by omega)]; rfl)
     have HO2 := HO.out
     rw [List.take_of_length_le (by rw [coms_len]; omega)] at HO2
     have he := HE.out
     obtain ⟨R6, hR6⟩ : ∃ R, (coms l).map hashK = R := ⟨_, rfl⟩
     rw [hR6] at he HO2
     have HE2 := aside he
     clear hR6 he HE
     obtain ⟨A6, c6, rfl, S6⟩ := SlI.own HO2
     have pn : ¬ (k : Int) < l.length := by omega
     clear HR HO HO2
     go_wp2_with (first | go_skip)
     go_ret
     rw [HE2.out]
     exact ⟨A6, c6, rfl, S6, kb⟩
theorem fit_of {u v : Com} (h : u = v) (hf : CmW.Fit v) : CmW.Fit u := by rw [h]; exact hf
end Go.Proofs.YtgmdhaepiclkcaaGreatDoor.DhC
namespace Go.Proofs.YtgmdhaepiclkcaaGreatDoor.DgL
set_option maxRecDepth 100000
open IdM CmM DgM DgX FrM
open Classical
section
variable {H : Com → Idn} {l : List Com}
theorem ev_of (C : Closed H l) {c : Com} (hc : c ∈ l) : (0 ≤ c.node ∧ c.node < 8) ∧ 1 ≤ c.seq ∧ c.seq ≤ 1048576 := by
 obtain ⟨h1, h2⟩ := mayK_iff.1 (C.may c hc)
 rcases h2 with h2 | h2
 · have hi := C.merge c hc
   rw [isM_iff.2 ⟨h1, h2⟩] at hi
   cases hi
 · exact StM.eventB_iff.1 h2.1
def evN (c : Com) : Int := c.node * 1048576 + (c.seq - 1)
theorem closed_few (C : Closed H l) : l.length ≤ 8388608 := by
 have key : ∀ m : List Com, (∀ c ∈ m, c ∈ l) → m.Nodup → (m.map evN).Nodup := by
   intro m
   induction m with
   | nil => intro _ _; simp
   | cons c m ih =>
     intro hm hn
     rw [List.nodup_cons] at hn
     rw [List.map_cons, List.nodup_cons]
     refine ⟨fun h => ?_, ih (fun d hd => hm d (by simp [hd])) hn.2⟩
     obtain ⟨d, hd, e⟩ := List.mem_map.1 h
     have hc := seq_pos (C.may c (hm c (by simp))) (C.merge c (hm c (by simp)))
     have hdp := seq_pos (C.may d (hm d (by simp [hd]))) (C.merge d (hm d (by simp [hd])))
     have c1 := (ev_of C (hm c (by simp))).2.2
     have d1 := (ev_of C (hm d (by simp [hd]))).2.2
     unfold evN at e
     have hne : c ≠ d := fun q => hn.1 (by rw [q]; exact hd)
     have h1 : c.node = d.node := by omega
     have h2 : c.seq = d.seq := by omega
     exact (C.node c (hm c (by simp)) d (hm d (by simp [hd])) hne h1).1 h2
 have hnd : l.Nodup := by
   have h1 := C.nodup
   rw [List.nodup_iff_pairwise_ne, List.pairwise_map] at h1
   exact List.nodup_iff_pairwise_ne.2 (h1.imp fun q e => q (by rw [e]))
 have := pigeon 8388608 (l.map evN) (key l (fun _ h => h) hnd) fun x hx => by
   obtain ⟨c, hc, rfl⟩ := List.mem_map.1 hx
   have fc := ev_of C hc
   unfold evN
   omega
 rwa [List.length_map] at this
end
end Go.Proofs.YtgmdhaepiclkcaaGreatDoor.DgL
namespace Go.Proofs.YtgmdhaepiclkcaaGreatDoor.DhA
set_option maxRecDepth 100000
open Go Go.Sort Go.RowKit Byt IdM IdW OpsM OpsW CmM StW CmW CmX CmY CmA DgM DgW DgR DgX DgY DgI DgF DhO DhP DhT DhK DhC
open Classical
def KnownRet : Prop := ∀ (A A' : Option Addr) (cap cap' : Nat) (l : List Cv) (own : List Idn) (w : World), SlK w A cap l → SlI w A' cap' own → own = idsD (coms l) → l.length ≤ 1500000000000 →
   Calls Tryz.prog 48 #[.slice A l.length cap, .slice A' own.length cap'] w fun e w' => ∃ mo b, e = .returned (.tuple #[.map mo, .bool b]) ∧ b = decide (Closed hashK (coms l)) ∧ (b = true → ∃ mb, mo = some mb ∧ w.heap.size ≤ mb ∧ VwIn w' mb l.length (views hashK (coms l))) ∧ Below w.heap.size w w'
set_option maxRecDepth 100000 in
set_option maxHeartbeats 16000000 in
theorem closed_ret (X : KnownRet) (A : Option Addr) (cap : Nat) (l : List Cv) (w : World) (S : SlK w A cap l) (hl : l.length ≤ 1500000000000) (hK : ShaE.KIn w) :
   Calls Tryz.prog 17 #[.slice A l.length cap] w fun e w' => e = .returned (.bool (decide (Closed hashK (coms l)))) ∧ Below w.heap.size w w' := by
 go_enter Tryz.func17, Tryz.ntmps17
 go_wp2_with (first | go_skip)
 refine (ids_ret A cap l w S hl hK).mono ?_
 rintro e w1 ⟨A1, c1, rfl, T1, k1⟩
 go_wp2_with (first | go_skip)
 refine (X A A1 cap c1 l _ w1 (S.below k1) T1 rfl hl).mono ?_
 rintro e w2 ⟨mo, b, rfl, hb, _, k2⟩
 go_wp2_with (first | go_skip)
 go_ret
 exact ⟨by rw [← hb]; rfl, k1.trans (k2.mono k1.size)⟩
theorem field_seen (v : Vw) (w : World) : (Instr.field 112 (.agg (vc v)) 2).run Tryz.prog w = .ok (.agg (ck v.2)) w := by kernel_rfl
def gv (f : Idn → Option Vw) (x : Idn) : Vw := (f x).getD zeroW
theorem vals_get (f : Idn → Option Vw) (x : Idn) : (vals f x).getD (.agg (vc zeroW)) = .agg (vc (gv f x)) := by
 unfold vals gv
 cases f x <;> rfl
theorem gv_seen (f : Idn → Option Vw) (x : Idn) (n : Int) : vSeen f n x = (gv f x).2 n := by
 unfold vSeen gv
 cases f x <;> rfl
theorem load_cev {ops : Array Oper} {rest : List Oper} {o : Oper} {a : Act} {w : World} {Q : Exit → Act → World → Prop} (hgd : o.guard = none) (x : Operand) (ho : o.op = .load 43 x) (g : Nat) (hx : a.eval x = .pointer (some ⟨g, 0, none⟩)) (v : Cv) (hb : Cel.Box CE w g v) (h : wpList Tryz.prog ops Q rest (a.put o.dst (.agg (ec ⟨v.c.node, v.c.seq⟩))) w) : wpList Tryz.prog ops Q (o :: rest) a w :=
 wpList_load_mid hgd EE.T x ho g 0 hx (EE.enc ⟨v.c.node, v.c.seq⟩) _ (ev_range hb) EE.under EE.row (EE.size _) h
theorem pick_next {l : List Cv} {s : Int → Int} {k : Nat} {x : Cv} (h : l[k]? = some x) : (((coms l).take (k + 1)).filter fun c => decide (c.seq ≤ s c.node)).map hashK = (((coms l).take k).filter fun c => decide (c.seq ≤ s c.node)).map hashK ++ (if decide (x.c.seq ≤ s x.c.node) = true then [hashK x.c] else []) := by
 rw [filter_next _ (coms_at h), List.map_append]
 by_cases e : decide (x.c.seq ≤ s x.c.node) = true
 · rw [if_pos e, if_pos e]; rfl
 · rw [if_neg e, if_neg e]; rfl
theorem pick_all {l : List Com} (C : Closed hashK l) (a : List Idn) : IdM.sort ((l.filter fun c => decide (c.seq ≤ togS (views hashK l) a c.node)).map hashK) = anc hashK l a := by
 unfold anc
 congr 1
 rw [List.filter_map]
 congr 1
 refine List.filter_congr fun c hc => ?_
 show decide _ = decide _
 exact decide_eq_decide.2 (below_iff C a hc)
set_option maxRecDepth 100000 in
set_option maxHeartbeats 32000000 in
theorem anc_ret (X : KnownRet) (A A' : Option Addr) (cap cap' : Nat) (l : List Cv) (a : List Idn) (w : World) (S : SlK w A cap l) (T : SlI w A' cap' a) (hl : l.length ≤ 1000) (hK : ShaE.KIn w) :
   Calls Tryz.prog 26 #[.slice A l.length cap, .slice A' a.length cap'] w (NewD (ancC (coms l) a) w) := by
 have hmax := S.len
 have hmaxa : a.length ≤ 9223372036854775807 := by have := T.1; have := T.2.1; unfold maxLen at this; omega
 unfold NewD
 go_enter Tryz.func26, Tryz.ntmps26
 go_wp2_with (first | go_skip)
 refine (ids_ret A cap l w S (by omega) hK).mono ?_
 rintro e w1 ⟨A1, c1, rfl, T1, k1⟩
 go_wp2_with (first | go_skip)
 refine (X A A1 cap c1 l _ w1 (S.below k1) T1 rfl (by omega)).mono ?_
 rintro e w2 ⟨mo, b, rfl, hb, hv, k2⟩
 have b2 := k1.trans (k2.mono k1.size)
 by_cases C : Closed hashK (coms l)
 · rw [decide_eq_true C] at hb
   subst hb
   obtain ⟨mb, rfl, _, V⟩ := hv rfl
   have hall : (coms l).all mayK = true := List.all_eq_true.2 fun c hc => C.may c hc
   have hid : idsD (coms l) = (coms l).map hashK := by rw [idsD, if_pos hall]
   have hil : ((coms l).map hashK).length = l.length := by rw [List.length_map, coms_len]
   have T2 := T1.below k2
   rw [hid] at T2
   obtain ⟨own, hown⟩ : ∃ own, (coms l).map hashK = own := ⟨_, rfl⟩
   rw [hown] at T2 hil
   obtain ⟨f, hf⟩ : ∃ f, views hashK (coms l) = f := ⟨_, rfl⟩
   rw [hf] at V
   have hmb := MapV.ValIn.lt V
   have HR : Hid (ancC (coms l) a = IdM.sort (((coms l).filter fun c => decide (c.seq ≤ togS f a c.node)).map hashK)) := aside (by rw [ancC, if_pos C, ← pick_all C a, hf])
   have HID := aside (hid.trans hown)
   have HIL := aside hil
   have HOWN := aside hown
   have HCL := aside C
   have HT2 := aside T2
   have HSB := aside (S.below b2)
   have HTB := aside (T.below b2)
   have B0 : Cel.Box CK (w2.alloc (.cells #[.int .i64 0, .int .i64 0, .int .i64 0, .int .i64 0, .int .i64 0, .int .i64 0, .int .i64 0, .int .i64 0] 109)) w2.heap.size (fun _ => 0) := Cel.Box.new (E := CK) w2 (fun _ => 0) _
   have V0 := aside (VwIn.below V (StW.below_alloc w2 (.cells #[.int .i64 0, .int .i64 0, .int .i64 0, .int .i64 0, .int .i64 0, .int .i64 0, .int .i64 0, .int .i64 0] 109)))
   have kb := StW.below_alloc w2 (.cells #[.int .i64 0, .int .i64 0, .int .i64 0, .int .i64 0, .int .i64 0, .int .i64 0, .int .i64 0, .int .i64 0] 109)
   clear C hall hid hil hown hf V hv T1 T2
   go_wp2_with (first | go_skip)
   go_loopw [26] (fun i wr => ∃ k : Nat, k ≤ a.length ∧ i = .int .i64 k ∧ Hid (VwIn wr mb l.length f) ∧ Cel.Box CK wr w2.heap.size (togS f (a.take k)) ∧ Below w2.heap.size w2 wr) (fun i _ => a.length - (intOf i).toNat)
   case atStart => exact ⟨0, Nat.zero_le _, rfl, V0, box_congr B0 fun _ _ _ => rfl, kb⟩
   case round =>
     clear B0 V0 kb
     obtain ⟨k, hk, rfl, V3, B3, kb⟩ := hrel
     by_cases hlt : k < a.length
     · obtain ⟨ba, oa, rfl, _, hra⟩ := SlI.plain HTB.out (by omega)
       obtain ⟨x, hx⟩ : ∃ x, a[k]? = some x := ⟨_, List.getElem?_eq_getElem hlt⟩
       have rx := IdW.range_below (hra k hlt) kb
       rw [show a.getD k nought = x by rw [List.getD_eq_getElem?_getD, hx]; rfl] at rx
       have p0 : (k : Int) < a.length := by omega
       have m0 : ((k : Int)).toNat = k := by omega
       have HX := aside hx
       clear hra hx
       go_wp2_with (first | go_skip | (refine wpList_load_id rfl _ rfl _ _ rfl x rx ?_) | (refine IdJ.wpList_alloc_id rfl rfl ?_) | (refine CmG.wpList_store_id rfl _ _ rfl wr nought _ rfl x _ rfl rfl rfl ?_; intro w3 I3 k3 s3; have b3 := kb.trans (k3.mono kb.size); have C3 := B3.below k3; have V4 := aside (VwIn.below V3.out k3); clear s3 B3 V3 kb))
       refine GrowL.region 6 [(0, true), (1, true), (2, true), (3, true), (4, true), (5, false), (6, false)] (by kernel_rfl) (by kernel_rfl) rfl (by kernel_rfl) (by intro c a d v w h; cases d <;> exact h) ?_
       have kd := below_drew1 (Below.refl w3.heap.size w3)
       have B4 := C3.below kd
       have I4 := I3.below kd I3.lt
       have V5 := aside (VwIn.below V4.out kd)
       have b4 := b3.trans (kd.mono b3.size)
       generalize w3.drew = wz at B4 I4 V5 b4 ⊢
       clear C3 I3 V4 b3 kd
       have hlk := Grow.grown (w := wz) (fun u hu => MapV.run_look mapT (VwIn.below V5.out hu) x zero_view)
       have hfd := field_seen (gv f x)
       simp only [vals_get] at hlk
       (try simp only [Act.put, List.setIfInBounds_toArray, List.set_cons_succ, List.set_cons_zero])
       repeat (first | (refine GrowL.reads rfl rfl ?_; go_big_quiet_want; refine CmA.quiet_id _ rfl _ _ rfl x I4.range ?_; go_big_quiet_on; refine wpQuiet_nil ?_; (try simp only [Act.put, List.setIfInBounds_toArray, List.set_cons_succ, List.set_cons_zero])) | (refine GrowL.reads rfl rfl ?_; go_big_quiet_want; refine Cel.quiet_row CK _ rfl _ _ rfl _ B4.range ?_; go_big_quiet_on; refine wpQuiet_nil ?_; (try simp only [Act.put, List.setIfInBounds_toArray, List.set_cons_succ, List.set_cons_zero])) | (refine GrowL.reads rfl rfl ?_; go_big_quiet_step (fail); refine wpQuiet_nil ?_))
       have qa := and_ret (togS f (a.take k)) (gv f x).2 wz
       have qa : Calls Tryz.prog 68 #[.agg (CK.enc (togS f (a.take k))).toArray, .agg (ck (gv f x).2)] wz _ := qa
       refine GrowL.acts rfl ?_
       go_wp2_with (first | go_skip)
       refine qa.mono ?_
       clear qa
       rintro e w5 ⟨rfl, k5⟩
       go_wp2_with (first | go_skip)
       refine ⟨k5, ?_⟩
       have B5 := B4.below k5
       have V6 := aside (VwIn.below V5.out k5)
       have b5 := b4.trans (k5.mono b4.size)
       clear B4 V5 b4 k5 hlk hfd
       (try simp only [Act.put, List.setIfInBounds_toArray, List.set_cons_succ, List.set_cons_zero])
       refine GrowL.last rfl ?_
       go_wp2_with (first | (refine Cel.wpList_store_box CK rfl _ _ rfl w2.heap.size rfl _ B5 (fun n => max (togS f (a.take k) n) ((gv f x).2 n)) rfl ?_; intro w6 B6 f6 g6 s6))
       refine GrowL.done ?_
       go_wp2_with (first | go_skip)
       go_roundw
       case rel =>
         refine ⟨k + 1, by omega, by go_num, aside (MapV.ValIn.kept V6.out g6 (by simp; omega)), box_congr B6 fun n _ _ => ?_, b5.trans (f6 _ (Nat.le_refl _))⟩
         unfold togS
         rw [most_take HX.out, gv_seen]
       case measure => simp [intOf]; omega
     · obtain rfl : k = a.length := by omega
       rw [List.take_length] at B3
       obtain ⟨s, hs⟩ : ∃ s, togS f a = s := ⟨_, rfl⟩
       rw [hs] at B3 HR
       have HB3 := aside (B3)
       clear V3 B3 hs hmb HTB
       have ht := fun (v : Cv) (hv : v ∈ l) => seq_pos (HCL.out.may v.c (List.mem_map_of_mem hv)) (HCL.out.merge v.c (List.mem_map_of_mem hv))
       have HPOS := aside ht
       clear ht
       go_wp2_with (first | go_skip)
       go_loopw [11, 39] (fun o i wq => ∃ k n : Nat, k ≤ l.length ∧ n ≤ k ∧ i = .int .i64 k ∧ Hid (wq.ownsRow wr.heap.size 56 32 o n (bv (flat ((((coms l).take k).filter fun c => decide (c.seq ≤ s c.node)).map hashK)))) ∧ Below wr.heap.size wr wq) (fun _ i _ => l.length - (intOf i).toNat)
       case atStart => exact ⟨0, 0, Nat.zero_le _, Nat.zero_le _, rfl, aside ⟨rfl, .inl ⟨rfl, rfl⟩⟩, Below.refl _ _⟩
       case round =>
         rename World => wq
         obtain ⟨k, n, hk, hnk, rfl, HO, kc⟩ := hrel
         by_cases hlt : k < l.length
         · obtain ⟨b, off, rfl, hbw, hrg⟩ := HSB.out.plain (by omega)
           obtain ⟨x, hx⟩ : ∃ x, l[k]? = some x := ⟨_, List.getElem?_eq_getElem hlt⟩
           have rx := range_on (range_on (hrg k x hx) kb) kc
           obtain ⟨ba, oa, rfl, _, hra⟩ := SlI.plain HT2.out (by rw [HIL.out]; omega)
           have ra := IdW.range_below (IdW.range_below (hra k (by rw [HIL.out]; exact hlt)) kb) kc
           obtain ⟨h, hh⟩ : ∃ h, hashK x.c = h := ⟨_, rfl⟩
           have hget : own.getD k nought = h := by rw [← HOWN.out, List.getD_eq_getElem?_getD, List.getElem?_map, coms_at hx, ← hh]; rfl
           rw [hget] at ra
           have p0 : (k : Int) < l.length := by omega
           have m0 : ((k : Int)).toNat = k := by omega
           have hpos := HPOS.out x (List.mem_of_getElem? hx)
           have HP := aside (pick_next (s := s) hx)
           have L3 := HB3.out.below kc
           have hc := has_ret s ⟨x.c.node, x.c.seq⟩ hpos.2
           obtain ⟨t, ht⟩ : ∃ t, decide (x.c.seq ≤ s x.c.node) = t := ⟨_, rfl⟩
           rw [ht] at hc HP
           rw [hh] at HP
           have q0 : (k : Int) < (idsD (coms l)).length := by rw [HID.out, HIL.out]; exact p0
           obtain ⟨xs, hxs⟩ : ∃ xs, (((coms l).take k).filter fun c => decide (c.seq ≤ s c.node)).map hashK = xs := ⟨_, rfl⟩
           rw [hxs] at HO HP
           clear hrg hra hx hh hget ht hpos hxs
           cases t with
           | true =>
             go_wp2_with (first | go_skip | (refine load_at rfl _ rfl _ _ rfl x rx ?_) | (refine Cel.wpList_store_new CE rfl _ _ rfl wq _ _ rfl x _ rfl rfl rfl rfl ?_; intro w4 D4 k4 g4 s4; have b4 := kc.trans (k4.mono kc.size); have L4 := L3.below k4; have O4 := aside (owns_below HO.out k4); have r4 := IdW.range_below ra k4; clear g4 s4) | (refine load_ck rfl _ rfl _ rfl _ L4 ?_) | (refine load_cev rfl _ rfl _ rfl x D4 ?_))
             refine (hc _).mono ?_
             rintro e w5 ⟨rfl, k5⟩
             have b5 := b4.trans (k5.mono b4.size)
             have O5 := aside (owns_below O4.out k5)
             have r5 := IdW.range_below r4 k5
             go_wp2_with (first | go_skip | (refine wpList_load_id rfl _ rfl _ _ rfl h r5 ?_) | (refine build_one rfl _ rfl h rfl ?_; intro w6 S6 k6; have b6 := b5.trans (k6.mono b5.size); have O6 := aside (owns_below O5.out k6)) | (refine wpList_append_ids rfl (.tmp 48) (.tmp 53) rfl wr.heap.size _ n xs rfl O6.out _ 1 1 [h] rfl rfl S6 (by omega) b6.size ?_; intro v7 w7 o7 g7))
             have b7 : Below wr.heap.size wr w7 := below_grown b6 b6.size g7 (fun q hq => (O6.out.lt q hq).1)
             go_roundw
             case rel => exact ⟨k + 1, n + 1, by omega, by omega, by go_num, aside (by rw [HP.out]; exact o7), b7⟩
             case measure => simp [intOf]; omega
           | false =>
             go_wp2_with (first | go_skip | (refine load_at rfl _ rfl _ _ rfl x rx ?_) | (refine Cel.wpList_store_new CE rfl _ _ rfl wq _ _ rfl x _ rfl rfl rfl rfl ?_; intro w4 D4 k4 g4 s4; have b4 := kc.trans (k4.mono kc.size); have L4 := L3.below k4; have O4 := aside (owns_below HO.out k4); have r4 := IdW.range_below ra k4; clear g4 s4) | (refine load_ck rfl _ rfl _ rfl _ L4 ?_) | (refine load_cev rfl _ rfl _ rfl x D4 ?_))
             refine (hc _).mono ?_
             rintro e w5 ⟨rfl, k5⟩
             have b5 := b4.trans (k5.mono b4.size)
             have O5 := aside (owns_below O4.out k5)
             go_wp2_with (first | go_skip)
             go_roundw
             case rel => exact ⟨k + 1, n, by omega, by omega, by go_num, aside (by rw [HP.out, if_neg (by decide), List.append_nil]; exact O5.out), b5⟩
             case measure => simp [intOf]; omega
         · obtain rfl : k = l.length := by omega
           have HO2 := HO.out
           rw [List.take_of_length_le (by rw [coms_len]; omega)] at HO2
           obtain ⟨r, hr⟩ : ∃ r, ((coms l).filter fun c => decide (c.seq ≤ s c.node)).map hashK = r := ⟨_, rfl⟩
           have hrl : r.length ≤ 1000 := by
             rw [← hr, List.length_map]
             have := List.length_filter_le (fun c => decide (c.seq ≤ s c.node)) (coms l)
             rw [coms_len] at this
             omega
           rw [hr] at HO2 HR
           obtain ⟨A6, c6, rfl, R6⟩ := SlI.own HO2
           have hrn : r.length = n := by have := HO2.1; rw [bv_length, flat_length] at this; omega
           subst hrn
           have qs := IdU.sort_ret A6 c6 r wq R6 hrl
           clear HO HO2 hr
           go_wp2_with (first | go_skip)
           refine qs.mono ?_
           rintro e w8 ⟨v8, rfl, o8, k8⟩
           go_wp2_with (first | go_skip)
           go_ret
           obtain ⟨A9, c9, rfl, S9⟩ := SlI.own o8
           rw [HR.out]
           exact ⟨A9, c9, rfl, S9, b2.trans ((kb.trans (kc.mono kb.size) |>.trans (k8.mono (Nat.le_trans kb.size kc.size))).mono b2.size)⟩
 · rw [decide_eq_false C] at hb
   subst hb
   have HC := aside C
   clear C hv
   go_wp2_with (first | go_skip)
   go_ret
   rw [ancC, if_neg HC.out]
   exact ⟨none, 0, rfl, SlI.nil _, b2⟩
end Go.Proofs.YtgmdhaepiclkcaaGreatDoor.DhA
