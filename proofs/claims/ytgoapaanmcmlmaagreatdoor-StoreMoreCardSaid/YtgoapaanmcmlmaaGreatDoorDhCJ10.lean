/- What the project's copied, Ids and Find of package dag return: contracts. | A contract of the library's, laid at this program. | slices.SortFunc at ids: the library's contract, laid at this program. | What set returns: a contract. | What rising returns: a contract. | What Sort, Both, Common and Without return: contracts. | Plain facts on the last ones of closed commits: heads, what is joined, what comes next. No condition. | Plain facts: closed commits are at most as many as there are events. No condition. | What the project's Closed, Anc, Part and Sorted of package dag return, where known answers as the document does. No condition. | What the project's Part of package dag returns, where known answers as the document does. No condition. -/
import Derived.Test.YtgoapaanmcmlmaaGreatDoorIdKJ3
import Derived.Test.YtgoapaanmcmlmaaGreatDoorCmTJ2
import Derived.Test.YtgoapaanmcmlmaaGreatDoorDgEJ5
import Derived.Shelf.SlLaysF0
import Derived.Test.YtgoapaanmcmlmaaGreatDoorProg
import Derived.Test.YtgoapaanmcmlmaaGreatDoorEvRJ5
import Derived.Shelf.SlSortCmp.NoneTotal
import Derived.Test.YtgoapaanmcmlmaaGreatDoorOpenKJ3
import Derived.Maps.AppendAt
import Derived.Test.YtgoapaanmcmlmaaGreatDoorDgX
import Derived.Test.YtgoapaanmcmlmaaGreatDoorDhK
import Derived.Test.YtgoapaanmcmlmaaGreatDoorIdXJ10
namespace Go.Proofs.YtgoapaanmcmlmaaGreatDoor.DhC
set_option maxRecDepth 100000
open Go Go.Sort Go.RowKit Byt IdM IdW OpsM OpsW CmM StW CmW CmX CmY CmA DgM DgW DgR DgG
theorem nil_eq (w : World) : (binOp BinOp.eql 25 (.slice none 0 0) (.slice none 0 0)).run Tryz.prog w = .ok (.bool true) w := by kernel_rfl
theorem some_eq (p : Addr) (n cap : Nat) (w : World) : (binOp BinOp.eql 25 (.slice (some p) n cap) (.slice none 0 0)).run Tryz.prog w = .ok (.bool false) w := by kernel_rfl
theorem build_none {w : World} {ops : Array Oper} {rest : List Oper} {o : Oper} {a : Act} {Q : Exit → Act → World → Prop} (hgd : o.guard = none) (ho : o.op = .buildSlice 25 0 #[])
   (h : ∀ w1 cap, w1.ownsRow w.heap.size 75 32 (.slice (some ⟨w.heap.size, 0, none⟩) 0 cap) 0 (bv (flat [])) → Below w.heap.size w w1 → w.heap.size ≤ w1.heap.size → wpList Tryz.prog ops Q rest (a.put o.dst (.slice (some ⟨w.heap.size, 0, none⟩) 0 cap)) w1) : wpList Tryz.prog ops Q (o :: rest) a w := by
 refine wpList_plain hgd fun K hK => ?_
 have hrun : (Instr.buildSlice 25 0 #[]).run Tryz.prog w = .ok (.slice (some ⟨w.heap.size, 0, none⟩) 0 0) (w.alloc (.cells #[] 75)) := by kernel_rfl
 unfold Oper.wp execOp
 simp only [ho, List.map_toArray, List.map_nil, Sem.run_bind, hrun, Result.andThen_ok, Sem.run_pure]
 refine hK _ _ (h _ 0 ⟨rfl, .inr ⟨w.heap.size, 0, #[], rfl, Nat.le_refl _, heap_alloc_new w _, Nat.le_refl _, Nat.zero_le _, rfl, rfl⟩⟩ ((Below.refl _ _).alloc (Nat.le_refl _) _) (by simp))
theorem clone_ret (A : Option Addr) (cap : Nat) (l : List Idn) (w : World) (S : SlI w A cap l) (hl : l.length ≤ 1500000000000) :
   Calls Tryz.prog 79 #[.slice A l.length cap] w fun e w' => ∃ A2 cap2, e = .returned (.slice A2 l.length cap2) ∧ SlI w' A2 cap2 l ∧ Below w.heap.size w w' ∧ ∀ b off sp, A2 = some ⟨b, off, sp⟩ → w.heap.size ≤ b := by
 rcases S.2.2 with ⟨rfl, rfl, rfl⟩ | ⟨p, rfl, _⟩
 · have he := nil_eq
   go_enter Tryz.func79, Tryz.ntmps79
   go_wp2_with (first | go_skip)
   go_ret
   exact ⟨none, 0, rfl, SlI.nil w, Below.refl _ _, fun b off sp h => by cases h⟩
 · have he := some_eq p l.length cap
   go_enter Tryz.func79, Tryz.ntmps79
   go_wp2_with (first | go_skip | (refine build_none rfl rfl ?_; intro w1 c1 o1 k1 s1; have S1 := S.below k1) | (refine wpList_append_ids rfl (.tmp 5) (.tmp 6) rfl w.heap.size _ 0 [] rfl o1 (some p) _ cap l rfl rfl S1 (by omega) s1 ?_; intro v2 w2 o2 g2))
   go_ret
   have hb := o2.lt
   obtain ⟨A2, cap2, rfl, S2⟩ := SlI.own o2
   refine ⟨A2, cap2, rfl, S2, below_grown k1 s1 g2 (fun q hq => (o1.lt q hq).1), fun b off sp h => ?_⟩
   subst h
   exact (hb b rfl).1
theorem info_ids : (Tryz.prog.info? 25).map (·.size) = some 1 := by kernel_rfl
theorem copied_ret (v : Cv) (w : World) (S : In w v) (hl : v.c.ps.length ≤ 1500000000000) :
   Calls Tryz.prog 40 #[.agg (cc v)] w fun e w' => ∃ u : Cv, e = .returned (.agg (cc u)) ∧ u.c = v.c ∧ In w' u ∧ Below w.heap.size w w' ∧ ∀ b off sp, u.a = some ⟨b, off, sp⟩ → w.heap.size ≤ b := by
 have z1 : (w.alloc (.cells (cc v) 29)).heap.size = w.heap.size + 1 := by simp
 have B0 : Cel.Box CE ((w.alloc (.cells (cc v) 29)).alloc (.cells #[.int .i64 0, .int .i64 0, .int .i64 0, .slice none 0 0, .int .i64 0, .string ⟨#[]⟩, .string ⟨#[]⟩, .int .i64 0] 29)) w.heap.size v := (Cel.Box.new (E := CE) w v _).alloc _
 have B1 : Cel.Box CE ((w.alloc (.cells (cc v) 29)).alloc (.cells #[.int .i64 0, .int .i64 0, .int .i64 0, .slice none 0 0, .int .i64 0, .string ⟨#[]⟩, .string ⟨#[]⟩, .int .i64 0] 29)) (w.heap.size + 1) noV := by
   rw [← z1]
   exact Cel.Box.new (E := CE) _ noV _
 have kb : Below w.heap.size w ((w.alloc (.cells (cc v) 29)).alloc (.cells #[.int .i64 0, .int .i64 0, .int .i64 0, .slice none 0 0, .int .i64 0, .string ⟨#[]⟩, .string ⟨#[]⟩, .int .i64 0] 29)) := ((Below.refl _ _).alloc (Nat.le_refl _) _).alloc (by simp) _
 clear z1
 have c3 := cell_ps B0
 have q := fun W (T : SlI W v.a v.k v.c.ps) => clone_ret v.a v.k v.c.ps W T hl
 go_enter Tryz.func40, Tryz.ntmps40
 go_wp2_with (first | go_skip)
 refine (q _ (S.below kb)).mono ?_
 rintro e w1 ⟨A2, cap2, rfl, S2, k1, hfar⟩
 have D0 := B0.below k1
 have D1 := B1.below k1
 have b1 := kb.trans (k1.mono kb.size)
 have kbs := kb.size
 clear B0 B1 kb k1 q c3
 go_wp2_with (first | go_skip | (refine Cel.wpList_store_field CE rfl rfl 25 _ _ rfl info_ids w.heap.size 3 rfl (by show 3 < 8; omega) v D0 ⟨A2, cap2, v.c⟩ (.slice A2 v.c.ps.length cap2) rfl rfl rfl rfl ?_; intro w2 E0 f2 g2 s2; have E1 := D1.kept g2 (by simp); have b2 := b1.trans (f2 _ (Nat.le_refl _)); have S3 := CmD.sli_far S2 (CmD.no_cm D0) g2; clear D0 D1 b1) | (refine Cel.wpList_load_box CE rfl _ rfl _ rfl _ E0 ?_) | (refine Cel.wpList_store_box CE rfl _ _ rfl (w.heap.size + 1) rfl _ E1 ⟨A2, cap2, v.c⟩ rfl ?_; intro w3 G1 f3 g3 s3))
 exact bodyPost_ret (v := .agg (cc ⟨A2, cap2, v.c⟩)) (CmF.results_c Tryz.results40 _ _ (w.heap.size + 1) ⟨A2, cap2, v.c⟩ rfl G1) rfl ⟨⟨A2, cap2, v.c⟩, rfl, rfl, CmD.sli_far S3 (CmD.no_cm E1) g3, b2.trans (f3 _ (by omega)), fun b off sp h => Nat.le_trans kbs (hfar b off sp h)⟩
set_option maxRecDepth 100000 in
set_option maxHeartbeats 16000000 in
theorem ids_ret (A : Option Addr) (cap : Nat) (l : List Cv) (w : World) (S : SlK w A cap l) (hl : l.length ≤ 1500000000000) (hK : ShaE.KIn w) :
   Calls Tryz.prog 38 #[.slice A l.length cap] w (NewD (idsD (coms l)) w) := by
 obtain ⟨r, hr⟩ : ∃ r, idsD (coms l) = r := ⟨_, rfl⟩
 have HR : Hid (r = if (coms (l.drop 0)).all mayK = true then (coms l).map hashK else []) := aside (by rw [← hr]; rfl)
 rw [hr]
 clear hr
 unfold NewD
 obtain ⟨i, hi, z0, z1, z2⟩ := info_parts zero_id
 obtain ⟨w1, hmk, own1, g1⟩ := run_make_own (P := Tryz.prog) w w.heap.size 25 75 i (.agg (cs nought)) 32 Tryz.underlying25 hi z0 z1 .i64 .i64 l.length (by rw [z2]; omega) (by unfold maxLen; omega) (Nat.le_refl _)
 have kb1 : Below w.heap.size w w1 := below_grown (Below.refl _ _) (Nat.le_refl _) g1 (fun k hk => by cases hk)
 clear hi z0 z1 z2 g1
 go_enter Tryz.func38, Tryz.ntmps38
 go_wp2_with (first | go_skip)
 go_loopw [3, 13] (fun o i wr => ∃ k : Nat, k ≤ l.length ∧ i = .int .i64 k ∧ Hid (r = if (coms (l.drop k)).all mayK = true then (coms l).map hashK else []) ∧ Hid (wr.ownsRow w.heap.size 75 32 o k (bv (flat (((coms l).take k).map hashK)))) ∧ Below w.heap.size w wr) (fun _ i _ => l.length - (intOf i).toNat)
 case atStart => exact ⟨0, Nat.zero_le _, rfl, HR, aside own1, kb1⟩
 case round =>
   clear HR own1 kb1 hmk
   obtain ⟨k, hk, rfl, HR, HO, kb⟩ := hrel
   by_cases hlt : k < l.length
   · obtain ⟨b, off, rfl, hbw, hrg⟩ := S.plain (by omega)
     obtain ⟨x, hx⟩ : ∃ x, l[k]? = some x := ⟨_, List.getElem?_eq_getElem hlt⟩
     have hr1 := range_on (hrg k x hx) kb
     have p0 : (k : Int) < l.length := by omega
     have m0 : ((k : Int)).toNat = k := by omega
     have hxm := List.mem_of_getElem? hx
     have IX := (S.each x hxm).1.below kb
     have hc := fun W (I : In W x) K => CmA.hash_ret x W I (S.each x hxm).2 K
     unfold HashOut at hc
     have HT := aside (take_map (coms_at hx))
     have HD : Hid ((coms (l.drop k)).all mayK = (mayK x.c && (coms (l.drop (k + 1))).all mayK)) := aside (by rw [drop_at hx]; rfl)
     clear hrg hx hxm
     cases hm : mayK x.c with
     | false =>
       obtain ⟨y1, y2, y3⟩ := putB_no hm
       rw [y2] at hc
       have HE : Hid (r = []) := aside (by rw [HR.out, HD.out, hm]; rfl)
       clear HR HD y1 y2 y3 hm HO
       go_wp2_with (first | go_skip | (refine load_at rfl _ rfl _ _ rfl x hr1 ?_) | (refine Cel.wpList_store_new CE rfl _ _ rfl wr _ _ rfl x _ rfl rfl rfl rfl ?_; intro w3 B3 k3 g3 s3; have b3 := kb.trans (k3.mono kb.size); have IX3 := CmW.In.below IX k3; clear g3 s3) | (refine Cel.wpList_load_box CE rfl _ rfl _ rfl x B3 ?_))
       refine (hc _ IX3 (hK.below b3)).mono ?_
       rintro e w1 ⟨rfl, k1⟩
       have b1 := b3.trans (k1.mono b3.size)
       clear hc kb k1 hr1
       go_wp2_with (first | go_skip | (refine IdJ.wpList_alloc_id rfl rfl ?_) | (refine CmG.wpList_store_id rfl _ _ rfl _ nought _ rfl (hashI x.c) _ rfl rfl rfl ?_; intro w2 G2 k2 s2; have b2 := b1.trans (k2.mono b1.size)))
       go_ret
       rw [HE.out]
       exact ⟨none, 0, rfl, SlI.nil _, b2⟩
     | true =>
       obtain ⟨y1, y2, y3⟩ := putB_yes hm
       rw [y2, y3] at hc
       have HE : Hid (r = if (coms (l.drop (k + 1))).all mayK = true then (coms l).map hashK else []) := aside (by rw [HR.out, HD.out, hm, Bool.true_and])
       clear HR HD y1 y2 y3 hm
       obtain ⟨h, hh⟩ : ∃ h, hashK x.c = h := ⟨_, rfl⟩
       rw [hh] at hc HT
       clear hh
       obtain ⟨xs, hxs⟩ : ∃ xs, ((coms l).take k).map hashK = xs := ⟨_, rfl⟩
       rw [hxs] at HO HT
       clear hxs
       go_wp2_with (first | go_skip | (refine load_at rfl _ rfl _ _ rfl x hr1 ?_) | (refine Cel.wpList_store_new CE rfl _ _ rfl wr _ _ rfl x _ rfl rfl rfl rfl ?_; intro w3 B3 k3 g3 s3; have b3 := kb.trans (k3.mono kb.size); have IX3 := CmW.In.below IX k3; have O3 := aside (owns_below HO.out k3); clear g3 s3) | (refine Cel.wpList_load_box CE rfl _ rfl _ rfl x B3 ?_))
       refine (hc _ IX3 (hK.below b3)).mono ?_
       rintro e w1 ⟨rfl, k1⟩
       have b1 := b3.trans (k1.mono b3.size)
       have O1 := aside (owns_below O3.out k1)
       clear hc kb k1 hr1 HO O3 b3
       go_wp2_with (first | go_skip | (refine IdJ.wpList_alloc_id rfl rfl ?_) | (refine CmG.wpList_store_id rfl _ _ rfl _ nought _ rfl h _ rfl rfl rfl ?_; intro w2 G2 k2 s2; have b2 := b1.trans (k2.mono b1.size); have O2 := aside (owns_below O1.out k2)) | (refine wpList_load_id rfl _ rfl _ _ rfl h G2.range ?_) | (refine build_one rfl _ rfl h rfl ?_; intro w3 S3 k3; have b3 := b2.trans (k3.mono b2.size); have O3 := aside (owns_below O2.out k3)) | (refine wpList_append_ids rfl (.tmp 24) (.tmp 26) rfl w.heap.size _ k xs rfl O3.out _ 1 1 [h] rfl rfl S3 (by omega) b3.size ?_; intro v6 w6 o6 g6))
       have b6 : Below w.heap.size w w6 := below_grown b3 b3.size g6 (fun q hq => (O3.out.lt q hq).1)
       go_roundw
       case rel => exact ⟨k + 1, by omega, by go_num, HE, aside (by rw [HT.out]; exact o6), b6⟩
       case measure => simp [intOf]; omega
   · have e : k = l.length := by omega
     have HE : Hid (r = (coms l).map hashK) := aside (by rw [HR.out, List.drop_of_length_le (by omega)]; rfl)
     have HO2 := HO.out
     rw [List.take_of_length_le (by rw [coms_len]; omega)] at HO2
     have he := HE.out
     obtain ⟨R6, hR6⟩ : ∃ R, (coms l).map hashK = R := ⟨_, rfl⟩
     rw [hR6] at he HO2
     have HE2 := aside he
     clear hR6 he HE
     obtain ⟨A6, c6, rfl, S6⟩ := SlI.own HO2
     have pn : ¬ (k : Int) < l.length := by omega
     clear HR HO HO2
     go_wp2_with (first | go_skip)
     go_ret
     rw [HE2.out]
     exact ⟨A6, c6, rfl, S6, kb⟩
theorem fit_of {u v : Com} (h : u = v) (hf : CmW.Fit v) : CmW.Fit u := by rw [h]; exact hf
end Go.Proofs.YtgoapaanmcmlmaaGreatDoor.DhC
namespace Go.Proofs
set_option maxRecDepth 100000
open Go.Shelf
end Go.Proofs
namespace Go.Proofs.YtgoapaanmcmlmaaGreatDoor.IdR
set_option maxRecDepth 100000
open Go Go.Shelf Go.Sort Go.RowKit Go.Lib IdM Byt IdW IdC
end Go.Proofs.YtgoapaanmcmlmaaGreatDoor.IdR
namespace Go.Proofs.YtgoapaanmcmlmaaGreatDoor.IdS
set_option maxRecDepth 100000
open Go Go.RowKit IdM Byt IdW IdK
theorem make_set (w : World) (n : Int) : (Instr.makeMap 129 (some (.int .i64 n))).run Tryz.prog w = .ok (.map (some w.heap.size)) (w.alloc (.map #[] 0)) := by
 simp [Instr.makeMap, run_underlying Tryz.underlying129, asInt, go_sem]
theorem mem_take_succ {l : List Idn} {k : Nat} (h : k < l.length) (z : Idn) : z ∈ l.getD k nought :: l.take k ↔ z ∈ l.take (k + 1) := by
 rw [List.take_add_one, List.mem_append, List.mem_cons, List.getD_eq_getElem?_getD, List.getElem?_eq_getElem h]
 simp [or_comm]
end Go.Proofs.YtgoapaanmcmlmaaGreatDoor.IdS
namespace Go.Proofs.YtgoapaanmcmlmaaGreatDoor.IdT
set_option maxRecDepth 100000
open Go Go.RowKit IdM Byt IdW IdK IdB
end Go.Proofs.YtgoapaanmcmlmaaGreatDoor.IdT
namespace Go.Proofs.YtgoapaanmcmlmaaGreatDoor.IdU
set_option maxRecDepth 100000
open Go Go.RowKit IdM Byt IdW IdK IdS IdT
theorem NewI.mono {l : List Idn} {w w1 : World} {e : Ending} {w' : World} (h : NewI l w1 e w') (hb : Below w.heap.size w w1) : NewI l w e w' := by
 obtain ⟨v, rfl, h1, h2⟩ := h
 exact ⟨v, rfl, owns_less h1 hb.size, hb.trans (h2.mono hb.size)⟩
end Go.Proofs.YtgoapaanmcmlmaaGreatDoor.IdU
namespace Go.Proofs.YtgoapaanmcmlmaaGreatDoor.FrM
set_option maxRecDepth 100000
open IdM CmM DgM DgX
open Classical
section
variable {H : Com → Idn}
theorem pigeon : ∀ (n : Nat) (l : List Int), l.Nodup → (∀ x ∈ l, 0 ≤ x ∧ x < n) → l.length ≤ n
 | 0, l, _, h => by
   cases l with
   | nil => exact Nat.le_refl _
   | cons x l => have := h x (by simp); omega
 | n + 1, l, hn, h => by
   have h1 := pigeon n (l.erase n) (hn.erase _) fun x hx => by
     have h2 := h x (List.mem_of_mem_erase hx)
     have h3 : x ≠ n := fun e => by
       rw [e] at hx
       exact (List.Nodup.not_mem_erase hn) hx
     omega
   have h4 := List.length_erase_le (a := (n : Int)) (l := l)
   by_cases hm : (n : Int) ∈ l
   · rw [List.length_erase_of_mem hm] at h1
     omega
   · rw [List.erase_of_not_mem hm] at h1
     omega
end
end Go.Proofs.YtgoapaanmcmlmaaGreatDoor.FrM
namespace Go.Proofs.YtgoapaanmcmlmaaGreatDoor.DgL
set_option maxRecDepth 100000
open IdM CmM DgM DgX FrM
open Classical
section
variable {H : Com → Idn} {l : List Com}
theorem ev_of (C : Closed H l) {c : Com} (hc : c ∈ l) : (0 ≤ c.node ∧ c.node < 8) ∧ 1 ≤ c.seq ∧ c.seq ≤ 1048576 := by
 obtain ⟨h1, h2⟩ := mayK_iff.1 (C.may c hc)
 rcases h2 with h2 | h2
 · have hi := C.merge c hc
   rw [isM_iff.2 ⟨h1, h2⟩] at hi
   cases hi
 · exact StM.eventB_iff.1 h2.1
def evN (c : Com) : Int := c.node * 1048576 + (c.seq - 1)
theorem closed_few (C : Closed H l) : l.length ≤ 8388608 := by
 have key : ∀ m : List Com, (∀ c ∈ m, c ∈ l) → m.Nodup → (m.map evN).Nodup := by
   intro m
   induction m with
   | nil => intro _ _; simp
   | cons c m ih =>
     intro hm hn
     rw [List.nodup_cons] at hn
     rw [List.map_cons, List.nodup_cons]
     refine ⟨fun h => ?_, ih (fun d hd => hm d (by simp [hd])) hn.2⟩
     obtain ⟨d, hd, e⟩ := List.mem_map.1 h
     have hc := seq_pos (C.may c (hm c (by simp))) (C.merge c (hm c (by simp)))
     have hdp := seq_pos (C.may d (hm d (by simp [hd]))) (C.merge d (hm d (by simp [hd])))
     have c1 := (ev_of C (hm c (by simp))).2.2
     have d1 := (ev_of C (hm d (by simp [hd]))).2.2
     unfold evN at e
     have hne : c ≠ d := fun q => hn.1 (by rw [q]; exact hd)
     have h1 : c.node = d.node := by omega
     have h2 : c.seq = d.seq := by omega
     exact (C.node c (hm c (by simp)) d (hm d (by simp [hd])) hne h1).1 h2
 have hnd : l.Nodup := by
   have h1 := C.nodup
   rw [List.nodup_iff_pairwise_ne, List.pairwise_map] at h1
   exact List.nodup_iff_pairwise_ne.2 (h1.imp fun q e => q (by rw [e]))
 have := pigeon 8388608 (l.map evN) (key l (fun _ h => h) hnd) fun x hx => by
   obtain ⟨c, hc, rfl⟩ := List.mem_map.1 hx
   have fc := ev_of C hc
   unfold evN
   omega
 rwa [List.length_map] at this
end
end Go.Proofs.YtgoapaanmcmlmaaGreatDoor.DgL
namespace Go.Proofs.YtgoapaanmcmlmaaGreatDoor.DhA
set_option maxRecDepth 100000
open Go Go.Sort Go.RowKit Byt IdM IdW OpsM OpsW CmM StW CmW CmX CmY CmA DgM DgW DgR DgX DgY DgI DgF DhO DhP DhT DhK DhC
open Classical
def KnownRet : Prop := ∀ (A A' : Option Addr) (cap cap' : Nat) (l : List Cv) (own : List Idn) (w : World), SlK w A cap l → SlI w A' cap' own → own = idsD (coms l) → l.length ≤ 1500000000000 →
   Calls Tryz.prog 37 #[.slice A l.length cap, .slice A' own.length cap'] w fun e w' => ∃ mo b, e = .returned (.tuple #[.map mo, .bool b]) ∧ b = decide (Closed hashK (coms l)) ∧ (b = true → ∃ mb, mo = some mb ∧ w.heap.size ≤ mb ∧ VwIn w' mb l.length (views hashK (coms l))) ∧ Below w.heap.size w w'
set_option maxRecDepth 100000 in
set_option maxHeartbeats 16000000 in
theorem closed_ret (X : KnownRet) (A : Option Addr) (cap : Nat) (l : List Cv) (w : World) (S : SlK w A cap l) (hl : l.length ≤ 1500000000000) (hK : ShaE.KIn w) :
   Calls Tryz.prog 20 #[.slice A l.length cap] w fun e w' => e = .returned (.bool (decide (Closed hashK (coms l)))) ∧ Below w.heap.size w w' := by
 go_enter Tryz.func20, Tryz.ntmps20
 go_wp2_with (first | go_skip)
 refine (ids_ret A cap l w S hl hK).mono ?_
 rintro e w1 ⟨A1, c1, rfl, T1, k1⟩
 go_wp2_with (first | go_skip)
 refine (X A A1 cap c1 l _ w1 (S.below k1) T1 rfl hl).mono ?_
 rintro e w2 ⟨mo, b, rfl, hb, _, k2⟩
 go_wp2_with (first | go_skip)
 go_ret
 exact ⟨by rw [← hb]; rfl, k1.trans (k2.mono k1.size)⟩
end Go.Proofs.YtgoapaanmcmlmaaGreatDoor.DhA
namespace Go.Proofs.YtgoapaanmcmlmaaGreatDoor.DhB
set_option maxRecDepth 100000
open Go Go.Sort Go.RowKit Byt IdM IdW IdK IdS OpsM OpsW CmM StW CmW CmX CmY CmA DgM DgW DgR DgX DgY DgI DgF DhO DhP DhT DhK DhC DhA
open Classical
structure Held (w : World) (v : Value) (us : List Cv) : Prop where
 each : ∀ u ∈ us, In w u ∧ CmW.Fit u.c
 far : ∀ u ∈ us, u.c.ps ≠ [] → ∀ b off sp, u.a = some ⟨b, off, sp⟩ → v.ownBlock ≠ some b
theorem Held.nil (w : World) (v : Value) : Held w v [] := ⟨fun u h => by simp at h, fun u h => by simp at h⟩
theorem Held.below {w w' : World} {v : Value} {us : List Cv} (h : Held w v us) (hb : Below w.heap.size w w') : Held w' v us := ⟨fun u hu => ⟨(h.each u hu).1.below hb, (h.each u hu).2⟩, h.far⟩
theorem Held.snoc {w : World} {v : Value} {us : List Cv} {u : Cv} (h : Held w v us) (hi : In w u) (hf : CmW.Fit u.c) (hr : ∀ b off sp, u.a = some ⟨b, off, sp⟩ → v.ownBlock ≠ some b) : Held w v (us ++ [u]) := by
 refine ⟨fun x hx => ?_, fun x hx hp => ?_⟩
 · rcases List.mem_append.1 hx with hx | hx
   · exact h.each x hx
   · rw [List.mem_singleton.1 hx]; exact ⟨hi, hf⟩
 · rcases List.mem_append.1 hx with hx | hx
   · exact h.far x hx hp
   · rw [List.mem_singleton.1 hx]; exact hr
theorem ids_other {w w' : World} {A : Option Addr} {cap : Nat} {l : List Idn} {g : Option Nat} (S : SlI w A cap l) (hg : w.grownBy w' g) (hf : l ≠ [] → ∀ b off sp, A = some ⟨b, off, sp⟩ → g ≠ some b) : SlI w' A cap l ∧ (l ≠ [] → ∀ b off sp, A = some ⟨b, off, sp⟩ → b < w.heap.size) := by
 obtain ⟨h1, h2, h5⟩ := S
 rcases h5 with ⟨rfl, rfl, rfl⟩ | ⟨x, rfl, hc⟩
 · exact ⟨⟨h1, h2, .inl ⟨rfl, rfl, rfl⟩⟩, fun h => absurd rfl h⟩
 · refine ⟨⟨h1, h2, .inr ⟨x, rfl, fun i hi => ?_⟩⟩, fun hl b off sp e => ?_⟩
   · have hcell := hc i hi
     have hlt := block_lt_of_cell hcell
     have hne : some (x.add i).block ≠ g := fun e => hf (fun e => by rw [e] at hi; simp [flat] at hi) x.block x.off x.spot (by cases x; rfl) (by rw [← e, RowIn.block_add])
     unfold World.cell? at hcell ⊢
     rw [hg.block _ hlt hne]
     exact hcell
   · have hlen : 0 < (flat l).length := by
       rw [flat_length]
       have := List.length_pos_iff.2 hl
       omega
     have := block_lt_of_cell (hc 0 hlen)
     rw [RowIn.block_add] at this
     injection e with e
     rw [e] at this
     exact this
theorem Held.grown {w w' : World} {v v' : Value} {us : List Cv} (h : Held w v us) (hg : w.grownBy w' v.ownBlock) (hv : v'.ownBlock = v.ownBlock ∨ v'.ownBlock = some w.heap.size) : Held w' v' us := by
 refine ⟨fun u hu => ⟨(ids_other (h.each u hu).1 hg (h.far u hu)).1, (h.each u hu).2⟩, fun u hu hp b off sp e => ?_⟩
 rcases hv with hv | hv
 · rw [hv]; exact h.far u hu hp b off sp e
 · rw [hv]
   have := (ids_other (h.each u hu).1 hg (h.far u hu)).2 hp b off sp e
   intro e2
   injection e2 with e2
   omega
theorem build_com {w : World} {ops : Array Oper} {rest : List Oper} {o : Oper} {a : Act} {Q : Exit → Act → World → Prop} (hgd : o.guard = none) (x : Operand) (ho : o.op = .buildSlice 35 1 #[(0, x)])
   (y : Cv) (hx : a.eval x = .agg (cc y)) (h : ∀ w1, RowB.Box KE w1 w.heap.size y → Below w.heap.size w w1 → wpList Tryz.prog ops Q rest (a.put o.dst (.slice (some ⟨w.heap.size, 0, none⟩) 1 1)) w1) : wpList Tryz.prog ops Q (o :: rest) a w :=
 RowC.wpList_build1 KE (of_decide_eq_true rfl) hgd x ho y hx (h _ (RowB.Box.new w y _) ((Below.refl _ _).alloc (Nat.le_refl _) _))
theorem coms_snoc (l : List Cv) (x : Cv) : coms (l ++ [x]) = coms l ++ [x.c] := by unfold coms; rw [List.map_append]; rfl
end Go.Proofs.YtgoapaanmcmlmaaGreatDoor.DhB
