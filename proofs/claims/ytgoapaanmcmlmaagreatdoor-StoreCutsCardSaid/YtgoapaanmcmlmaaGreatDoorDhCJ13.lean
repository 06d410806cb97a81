/- What the project's copied, Ids and Find of package dag return: contracts. | A contract of the library's, laid at this program. | slices.SortFunc at ids: the library's contract, laid at this program. | What set returns: a contract. | What rising returns: a contract. | What Sort, Both, Common and Without return: contracts. | Plain facts on the last ones of closed commits: heads, what is joined, what comes next. No condition. | Plain facts: closed commits are at most as many as there are events. No condition. | What the project's Closed, Anc, Part and Sorted of package dag return, where known answers as the document does. No condition. | What the project's Part of package dag returns, where known answers as the document does. No condition. | What the project's Sorted of package dag returns, where known answers as the document does. No condition. | What package store's laws need of package dag, and of the document's Get: as they are. No condition. | Rows that grow and have no byte in any cell: what holds bytes lies elsewhere. No condition. -/
import Derived.Test.YtgoapaanmcmlmaaGreatDoorIdKJ3
import Derived.Test.YtgoapaanmcmlmaaGreatDoorCmTJ2
import Derived.Test.YtgoapaanmcmlmaaGreatDoorDgEJ5
import Derived.Shelf.SlLaysF0
import Derived.Test.YtgoapaanmcmlmaaGreatDoorProg
import Derived.Test.YtgoapaanmcmlmaaGreatDoorEvRJ5
import Derived.Shelf.SlSortCmp.NoneTotal
import Derived.Test.YtgoapaanmcmlmaaGreatDoorOpenKJ3
import Derived.Maps.AppendAt
import Derived.Test.YtgoapaanmcmlmaaGreatDoorDgX
import Derived.Test.YtgoapaanmcmlmaaGreatDoorDhK
import Derived.Test.YtgoapaanmcmlmaaGreatDoorIdXJ9
import Derived.Test.YtgoapaanmcmlmaaGreatDoorStoLJ3
import Derived.Test.YtgoapaanmcmlmaaGreatDoorCmI
import Derived.Lib.AppendZeros
namespace Go.Proofs.YtgoapaanmcmlmaaGreatDoor.DhC
set_option maxRecDepth 100000
open Go Go.Sort Go.RowKit Byt IdM IdW OpsM OpsW CmM StW CmW CmX CmY CmA DgM DgW DgR DgG
theorem nil_eq (w : World) : (binOp BinOp.eql 25 (.slice none 0 0) (.slice none 0 0)).run Tryz.prog w = .ok (.bool true) w := by kernel_rfl
theorem some_eq (p : Addr) (n cap : Nat) (w : World) : (binOp BinOp.eql 25 (.slice (some p) n cap) (.slice none 0 0)).run Tryz.prog w = .ok (.bool false) w := by kernel_rfl
theorem build_none {w : World} {ops : Array Oper} {rest : List Oper} {o : Oper} {a : Act} {Q : Exit → Act → World → Prop} (hgd : o.guard = none) (ho : o.op = .buildSlice 25 0 #[])
   (h : ∀ w1 cap, w1.ownsRow w.heap.size 75 32 (.slice (some ⟨w.heap.size, 0, none⟩) 0 cap) 0 (bv (flat [])) → Below w.heap.size w w1 → w.heap.size ≤ w1.heap.size → wpList Tryz.prog ops Q rest (a.put o.dst (.slice (some ⟨w.heap.size, 0, none⟩) 0 cap)) w1) : wpList Tryz.prog ops Q (o :: rest) a w := by
 refine wpList_plain hgd fun K hK => ?_
 have hrun : (Instr.buildSlice 25 0 #[]).run Tryz.prog w = .ok (.slice (some ⟨w.heap.size, 0, none⟩) 0 0) (w.alloc (.cells #[] 75)) := by kernel_rfl
 unfold Oper.wp execOp
 simp only [ho, List.map_toArray, List.map_nil, Sem.run_bind, hrun, Result.andThen_ok, Sem.run_pure]
 refine hK _ _ (h _ 0 ⟨rfl, .inr ⟨w.heap.size, 0, #[], rfl, Nat.le_refl _, heap_alloc_new w _, Nat.le_refl _, Nat.zero_le _, rfl, rfl⟩⟩ ((Below.refl _ _).alloc (Nat.le_refl _) _) (by simp))
theorem clone_ret (A : Option Addr) (cap : Nat) (l : List Idn) (w : World) (S : SlI w A cap l) (hl : l.length ≤ 1500000000000) :
   Calls Tryz.prog 79 #[.slice A l.length cap] w fun e w' => ∃ A2 cap2, e = .returned (.slice A2 l.length cap2) ∧ SlI w' A2 cap2 l ∧ Below w.heap.size w w' ∧ ∀ b off sp, A2 = some ⟨b, off, sp⟩ → w.heap.size ≤ b := by
 rcases S.2.2 with ⟨rfl, rfl, rfl⟩ | ⟨p, rfl, _⟩
 · have he := nil_eq
   go_enter Tryz.func79, Tryz.ntmps79
   go_wp2_with (first | go_skip)
   go_ret
   exact ⟨none, 0, rfl, SlI.nil w, Below.refl _ _, fun b off sp h => by cases h⟩
 · have he := some_eq p l.length cap
   go_enter Tryz.func79, Tryz.ntmps79
   go_wp2_with (first | go_skip | (refine build_none rfl rfl ?_; intro w1 c1 o1 k1 s1; have S1 := S.below k1) | (refine wpList_append_ids rfl (.tmp 5) (.tmp 6) rfl w.heap.size _ 0 [] rfl o1 (some p) _ cap l rfl rfl S1 (by omega) s1 ?_; intro v2 w2 o2 g2))
   go_ret
   have hb := o2.lt
   obtain ⟨A2, cap2, rfl, S2⟩ := SlI.own o2
   refine ⟨A2, cap2, rfl, S2, below_grown k1 s1 g2 (fun q hq => (o1.lt q hq).1), fun b off sp h => ?_⟩
   subst h
   exact (hb b rfl).1
theorem info_ids : (Tryz.prog.info? 25).map (·.size) = some 1 := by kernel_rfl
theorem copied_ret (v : Cv) (w : World) (S : In w v) (hl : v.c.ps.length ≤ 1500000000000) :
   Calls Tryz.prog 40 #[.agg (cc v)] w fun e w' => ∃ u : Cv, e = .returned (.agg (cc u)) ∧ u.c = v.c ∧ In w' u ∧ Below w.heap.size w w' ∧ ∀ b off sp, u.a = some ⟨b, off, sp⟩ → w.heap.size ≤ b := by
 have z1 : (w.alloc (.cells (cc v) 29)).heap.size = w.heap.size + 1 := by simp
 have B0 : Cel.Box CE ((w.alloc (.cells (cc v) 29)).alloc (.cells #[.int .i64 0, .int .i64 0, .int .i64 0, .slice none 0 0, .int .i64 0, .string ⟨#[]⟩, .string ⟨#[]⟩, .int .i64 0] 29)) w.heap.size v := (Cel.Box.new (E := CE) w v _).alloc _
 have B1 : Cel.Box CE ((w.alloc (.cells (cc v) 29)).alloc (.cells #[.int .i64 0, .int .i64 0, .int .i64 0, .slice none 0 0, .int .i64 0, .string ⟨#[]⟩, .string ⟨#[]⟩, .int .i64 0] 29)) (w.heap.size + 1) noV := by
   rw [← z1]
   exact Cel.Box.new (E := CE) _ noV _
 have kb : Below w.heap.size w ((w.alloc (.cells (cc v) 29)).alloc (.cells #[.int .i64 0, .int .i64 0, .int .i64 0, .slice none 0 0, .int .i64 0, .string ⟨#[]⟩, .string ⟨#[]⟩, .int .i64 0] 29)) := ((Below.refl _ _).alloc (Nat.le_refl _) _).alloc (by simp) _
 clear z1
 have c3 := cell_ps B0
 have q := fun W (T : SlI W v.a v.k v.c.ps) => clone_ret v.a v.k v.c.ps W T hl
 go_enter Tryz.func40, Tryz.ntmps40
 go_wp2_with (first | go_skip)
 refine (q _ (S.below kb)).mono ?_
 rintro e w1 ⟨A2, cap2, rfl, S2, k1, hfar⟩
 have D0 := B0.below k1
 have D1 := B1.below k1
 have b1 := kb.trans (k1.mono kb.size)
 have kbs := kb.size
 clear B0 B1 kb k1 q c3
 go_wp2_with (first | go_skip | (refine Cel.wpList_store_field CE rfl rfl 25 _ _ rfl info_ids w.heap.size 3 rfl (by show 3 < 8; omega) v D0 ⟨A2, cap2, v.c⟩ (.slice A2 v.c.ps.length cap2) rfl rfl rfl rfl ?_; intro w2 E0 f2 g2 s2; have E1 := D1.kept g2 (by simp); have b2 := b1.trans (f2 _ (Nat.le_refl _)); have S3 := CmD.sli_far S2 (CmD.no_cm D0) g2; clear D0 D1 b1) | (refine Cel.wpList_load_box CE rfl _ rfl _ rfl _ E0 ?_) | (refine Cel.wpList_store_box CE rfl _ _ rfl (w.heap.size + 1) rfl _ E1 ⟨A2, cap2, v.c⟩ rfl ?_; intro w3 G1 f3 g3 s3))
 exact bodyPost_ret (v := .agg (cc ⟨A2, cap2, v.c⟩)) (CmF.results_c Tryz.results40 _ _ (w.heap.size + 1) ⟨A2, cap2, v.c⟩ rfl G1) rfl ⟨⟨A2, cap2, v.c⟩, rfl, rfl, CmD.sli_far S3 (CmD.no_cm E1) g3, b2.trans (f3 _ (by omega)), fun b off sp h => Nat.le_trans kbs (hfar b off sp h)⟩
set_option maxRecDepth 100000 in
set_option maxHeartbeats 16000000 in
theorem ids_ret (A : Option Addr) (cap : Nat) (l : List Cv) (w : World) (S : SlK w A cap l) (hl : l.length ≤ 1500000000000) (hK : ShaE.KIn w) :
   Calls Tryz.prog 38 #[.slice A l.length cap] w (NewD (idsD (coms l)) w) := by
 obtain ⟨r, hr⟩ : ∃ r, idsD (coms l) = r := ⟨_, rfl⟩
 have HR : Hid (r = if (coms (l.drop 0)).all mayK = true then (coms l).map hashK else []) := aside (by rw [← hr]; rfl)
 rw [hr]
 clear hr
 unfold NewD
 obtain ⟨i, hi, z0, z1, z2⟩ := info_parts zero_id
 obtain ⟨w1, hmk, own1, g1⟩ := run_make_own (P := Tryz.prog) w w.heap.size 25 75 i (.agg (cs nought)) 32 Tryz.underlying25 hi z0 z1 .i64 .i64 l.length (by rw [z2]; omega) (by unfold maxLen; omega) (Nat.le_refl _)
 have kb1 : Below w.heap.size w w1 := below_grown (Below.refl _ _) (Nat.le_refl _) g1 (fun k hk => by cases hk)
 clear hi z0 z1 z2 g1
 go_enter Tryz.func38, Tryz.ntmps38
 go_wp2_with (first | go_skip)
 go_loopw [3, 13] (fun o i wr => ∃ k : Nat, k ≤ l.length ∧ i = .int .i64 k ∧ Hid (r = if (coms (l.drop k)).all mayK = true then (coms l).map hashK else []) ∧ Hid (wr.ownsRow w.heap.size 75 32 o k (bv (flat (((coms l).take k).map hashK)))) ∧ Below w.heap.size w wr) (fun _ i _ => l.length - (intOf i).toNat)
 case atStart => exact ⟨0, Nat.zero_le _, rfl, HR, aside own1, kb1⟩
 case round =>
   clear HR own1 kb1 hmk
   obtain ⟨k, hk, rfl, HR, HO, kb⟩ := hrel
   by_cases hlt : k < l.length
   · obtain ⟨b, off, rfl, hbw, hrg⟩ := S.plain (by omega)
     obtain ⟨x, hx⟩ : ∃ x, l[k]? = some x := ⟨_, List.getElem?_eq_getElem hlt⟩
     have hr1 := range_on (hrg k x hx) kb
     have p0 : (k : Int) < l.length := by omega
     have m0 : ((k : Int)).toNat = k := by omega
     have hxm := List.mem_of_getElem? hx
     have IX := (S.each x hxm).1.below kb
     have hc := fun W (I : In W x) K => CmA.hash_ret x W I (S.each x hxm).2 K
     unfold HashOut at hc
     have HT := aside (take_map (coms_at hx))
     have HD : Hid ((coms (l.drop k)).all mayK = (mayK x.c && (coms (l.drop (k + 1))).all mayK)) := aside (by rw [drop_at hx]; rfl)
     clear hrg hx hxm
     cases hm : mayK x.c with
     | false =>
       obtain ⟨y1, y2, y3⟩ := putB_no hm
       rw [y2] at hc
       have HE : Hid (r = []) := aside (by rw [HR.out, HD.out, hm]; rfl)
       clear HR HD y1 y2 y3 hm HO
       go_wp2_with (first | go_skip | (refine load_at rfl _ rfl _ _ rfl x hr1 ?_) | (refine Cel.wpList_store_new CE rfl _ _ rfl wr _ _ rfl x _ rfl rfl rfl rfl ?_; intro w3 B3 k3 g3 s3; have b3 := kb.trans (k3.mono kb.size); have IX3 := CmW.In.below IX k3; clear g3 s3) | (refine Cel.wpList_load_box CE rfl _ rfl _ rfl x B3 ?_))
       refine (hc _ IX3 (hK.below b3)).mono ?_
       rintro e w1 ⟨rfl, k1⟩
       have b1 := b3.trans (k1.mono b3.size)
       clear hc kb k1 hr1
       go_wp2_with (first | go_skip | (refine IdJ.wpList_alloc_id rfl rfl ?_) | (refine CmG.wpList_store_id rfl _ _ rfl _ nought _ rfl (hashI x.c) _ rfl rfl rfl ?_; intro w2 G2 k2 s2; have b2 := b1.trans (k2.mono b1.size)))
       go_ret
       rw [HE.out]
       exact ⟨none, 0, rfl, SlI.nil _, b2⟩
     | true =>
       obtain ⟨y1, y2, y3⟩ := putB_yes hm
       rw [y2, y3] at hc
       have HE : Hid (r = if (coms (l.drop (k + 1))).all mayK = true then (coms l).map hashK else []) := aside (by rw [HR.out, HD.out, hm, Bool.true_and])
       clear HR HD y1 y2 y3 hm
       obtain ⟨h, hh⟩ : ∃ h, hashK x.c = h := ⟨_, rfl⟩
       rw [hh] at hc HT
       clear hh
       obtain ⟨xs, hxs⟩ : ∃ xs, ((coms l).take k).map hashK = xs := ⟨_, rfl⟩
       rw [hxs] at HO HT
       clear hxs
       go_wp2_with (first | go_skip | (refine load_at rfl _ rfl _ _ rfl x hr1 ?_) | (refine Cel.wpList_store_new CE rfl _ _ rfl wr _ _ rfl x _ rfl rfl rfl rfl ?_; intro w3 B3 k3 g3 s3; have b3 := kb.trans (k3.mono kb.size); have IX3 := CmW.In.below IX k3; have O3 := aside (owns_below HO.out k3); clear g3 s3) | (refine Cel.wpList_load_box CE rfl _ rfl _ rfl x B3 ?_))
       refine (hc _ IX3 (hK.below b3)).mono ?_
       rintro e w1 ⟨rfl, k1⟩
       have b1 := b3.trans (k1.mono b3.size)
       have O1 := aside (owns_below O3.out k1)
       clear hc kb k1 hr1 HO O3 b3
       go_wp2_with (first | go_skip | (refine IdJ.wpList_alloc_id rfl rfl ?_) | (refine CmG.wpList_store_id rfl _ _ rfl _ nought _ rfl h _ rfl rfl rfl ?_; intro w2 G2 k2 s2; have b2 := b1.trans (k2.mono b1.size); have O2 := aside (owns_below O1.out k2)) | (refine wpList_load_id rfl _ rfl _ _ rfl h G2.range ?_) | (refine build_one rfl _ rfl h rfl ?_; intro w3 S3 k3; have b3 := b2.trans (k3.mono b2.size); have O3 := aside (owns_below O2.out k3)) | (refine wpList_append_ids rfl (.tmp 24) (.tmp 26) rfl w.heap.size _ k xs rfl O3.out _ 1 1 [h] rfl rfl S3 (by omega) b3.size ?_; intro v6 w6 o6 g6))
       have b6 : Below w.heap.size w w6 := below_grown b3 b3.size g6 (fun q hq => (O3.out.lt q hq).1)
       go_roundw
       case rel => exact ⟨k + 1, by omega, by go_num, HE, aside (by rw [HT.out]; exact o6), b6⟩
       case measure => simp [intOf]; omega
   · have e : k = l.length := by omega
     have HE : Hid (r = (coms l).map hashK) := aside (by rw [HR.out, List.drop_of_length_le (by omega)]; rfl)
     have HO2 := HO.out
     rw [List.take_of_length_le (by rw [coms_len]; omega)] at HO2
     have he := HE.out
     obtain ⟨R6, hR6⟩ : ∃ R, (coms l).map hashK = R := ⟨_, rfl⟩
     rw [hR6] at he HO2
     have HE2 := aside he
     clear hR6 he HE
     obtain ⟨A6, c6, rfl, S6⟩ := SlI.own HO2
     have pn : ¬ (k : Int) < l.length := by omega
     clear HR HO HO2
     go_wp2_with (first | go_skip)
     go_ret
     rw [HE2.out]
     exact ⟨A6, c6, rfl, S6, kb⟩
theorem fit_of {u v : Com} (h : u = v) (hf : CmW.Fit v) : CmW.Fit u := by rw [h]; exact hf
end Go.Proofs.YtgoapaanmcmlmaaGreatDoor.DhC
namespace Go.Proofs
set_option maxRecDepth 100000
open Go.Shelf
end Go.Proofs
namespace Go.Proofs.YtgoapaanmcmlmaaGreatDoor.IdR
set_option maxRecDepth 100000
open Go Go.Shelf Go.Sort Go.RowKit Go.Lib IdM Byt IdW IdC
end Go.Proofs.YtgoapaanmcmlmaaGreatDoor.IdR
namespace Go.Proofs.YtgoapaanmcmlmaaGreatDoor.IdS
set_option maxRecDepth 100000
open Go Go.RowKit IdM Byt IdW IdK
theorem make_set (w : World) (n : Int) : (Instr.makeMap 129 (some (.int .i64 n))).run Tryz.prog w = .ok (.map (some w.heap.size)) (w.alloc (.map #[] 0)) := by
 simp [Instr.makeMap, run_underlying Tryz.underlying129, asInt, go_sem]
theorem mem_take_succ {l : List Idn} {k : Nat} (h : k < l.length) (z : Idn) : z ∈ l.getD k nought :: l.take k ↔ z ∈ l.take (k + 1) := by
 rw [List.take_add_one, List.mem_append, List.mem_cons, List.getD_eq_getElem?_getD, List.getElem?_eq_getElem h]
 simp [or_comm]
end Go.Proofs.YtgoapaanmcmlmaaGreatDoor.IdS
namespace Go.Proofs.YtgoapaanmcmlmaaGreatDoor.IdT
set_option maxRecDepth 100000
open Go Go.RowKit IdM Byt IdW IdK IdB
end Go.Proofs.YtgoapaanmcmlmaaGreatDoor.IdT
namespace Go.Proofs.YtgoapaanmcmlmaaGreatDoor.IdU
set_option maxRecDepth 100000
open Go Go.RowKit IdM Byt IdW IdK IdS IdT
theorem NewI.mono {l : List Idn} {w w1 : World} {e : Ending} {w' : World} (h : NewI l w1 e w') (hb : Below w.heap.size w w1) : NewI l w e w' := by
 obtain ⟨v, rfl, h1, h2⟩ := h
 exact ⟨v, rfl, owns_less h1 hb.size, hb.trans (h2.mono hb.size)⟩
end Go.Proofs.YtgoapaanmcmlmaaGreatDoor.IdU
namespace Go.Proofs.YtgoapaanmcmlmaaGreatDoor.FrM
set_option maxRecDepth 100000
open IdM CmM DgM DgX
open Classical
section
variable {H : Com → Idn}
theorem pigeon : ∀ (n : Nat) (l : List Int), l.Nodup → (∀ x ∈ l, 0 ≤ x ∧ x < n) → l.length ≤ n
 | 0, l, _, h => by
   cases l with
   | nil => exact Nat.le_refl _
   | cons x l => have := h x (by simp); omega
 | n + 1, l, hn, h => by
   have h1 := pigeon n (l.erase n) (hn.erase _) fun x hx => by
     have h2 := h x (List.mem_of_mem_erase hx)
     have h3 : x ≠ n := fun e => by
       rw [e] at hx
       exact (List.Nodup.not_mem_erase hn) hx
     omega
   have h4 := List.length_erase_le (a := (n : Int)) (l := l)
   by_cases hm : (n : Int) ∈ l
   · rw [List.length_erase_of_mem hm] at h1
     omega
   · rw [List.erase_of_not_mem hm] at h1
     omega
end
end Go.Proofs.YtgoapaanmcmlmaaGreatDoor.FrM
namespace Go.Proofs.YtgoapaanmcmlmaaGreatDoor.DgL
set_option maxRecDepth 100000
open IdM CmM DgM DgX FrM
open Classical
section
variable {H : Com → Idn} {l : List Com}
theorem ev_of (C : Closed H l) {c : Com} (hc : c ∈ l) : (0 ≤ c.node ∧ c.node < 8) ∧ 1 ≤ c.seq ∧ c.seq ≤ 1048576 := by
 obtain ⟨h1, h2⟩ := mayK_iff.1 (C.may c hc)
 rcases h2 with h2 | h2
 · have hi := C.merge c hc
   rw [isM_iff.2 ⟨h1, h2⟩] at hi
   cases hi
 · exact StM.eventB_iff.1 h2.1
def evN (c : Com) : Int := c.node * 1048576 + (c.seq - 1)
theorem closed_few (C : Closed H l) : l.length ≤ 8388608 := by
 have key : ∀ m : List Com, (∀ c ∈ m, c ∈ l) → m.Nodup → (m.map evN).Nodup := by
   intro m
   induction m with
   | nil => intro _ _; simp
   | cons c m ih =>
     intro hm hn
     rw [List.nodup_cons] at hn
     rw [List.map_cons, List.nodup_cons]
     refine ⟨fun h => ?_, ih (fun d hd => hm d (by simp [hd])) hn.2⟩
     obtain ⟨d, hd, e⟩ := List.mem_map.1 h
     have hc := seq_pos (C.may c (hm c (by simp))) (C.merge c (hm c (by simp)))
     have hdp := seq_pos (C.may d (hm d (by simp [hd]))) (C.merge d (hm d (by simp [hd])))
     have c1 := (ev_of C (hm c (by simp))).2.2
     have d1 := (ev_of C (hm d (by simp [hd]))).2.2
     unfold evN at e
     have hne : c ≠ d := fun q => hn.1 (by rw [q]; exact hd)
     have h1 : c.node = d.node := by omega
     have h2 : c.seq = d.seq := by omega
     exact (C.node c (hm c (by simp)) d (hm d (by simp [hd])) hne h1).1 h2
 have hnd : l.Nodup := by
   have h1 := C.nodup
   rw [List.nodup_iff_pairwise_ne, List.pairwise_map] at h1
   exact List.nodup_iff_pairwise_ne.2 (h1.imp fun q e => q (by rw [e]))
 have := pigeon 8388608 (l.map evN) (key l (fun _ h => h) hnd) fun x hx => by
   obtain ⟨c, hc, rfl⟩ := List.mem_map.1 hx
   have fc := ev_of C hc
   unfold evN
   omega
 rwa [List.length_map] at this
end
end Go.Proofs.YtgoapaanmcmlmaaGreatDoor.DgL
namespace Go.Proofs.YtgoapaanmcmlmaaGreatDoor.DhA
set_option maxRecDepth 100000
open Go Go.Sort Go.RowKit Byt IdM IdW OpsM OpsW CmM StW CmW CmX CmY CmA DgM DgW DgR DgX DgY DgI DgF DhO DhP DhT DhK DhC
open Classical
def KnownRet : Prop := ∀ (A A' : Option Addr) (cap cap' : Nat) (l : List Cv) (own : List Idn) (w : World), SlK w A cap l → SlI w A' cap' own → own = idsD (coms l) → l.length ≤ 1500000000000 →
   Calls Tryz.prog 37 #[.slice A l.length cap, .slice A' own.length cap'] w fun e w' => ∃ mo b, e = .returned (.tuple #[.map mo, .bool b]) ∧ b = decide (Closed hashK (coms l)) ∧ (b = true → ∃ mb, mo = some mb ∧ w.heap.size ≤ mb ∧ VwIn w' mb l.length (views hashK (coms l))) ∧ Below w.heap.size w w'
set_option maxRecDepth 100000 in
set_option maxHeartbeats 16000000 in
theorem closed_ret (X : KnownRet) (A : Option Addr) (cap : Nat) (l : List Cv) (w : World) (S : SlK w A cap l) (hl : l.length ≤ 1500000000000) (hK : ShaE.KIn w) :
   Calls Tryz.prog 20 #[.slice A l.length cap] w fun e w' => e = .returned (.bool (decide (Closed hashK (coms l)))) ∧ Below w.heap.size w w' := by
 go_enter Tryz.func20, Tryz.ntmps20
 go_wp2_with (first | go_skip)
 refine (ids_ret A cap l w S hl hK).mono ?_
 rintro e w1 ⟨A1, c1, rfl, T1, k1⟩
 go_wp2_with (first | go_skip)
 refine (X A A1 cap c1 l _ w1 (S.below k1) T1 rfl hl).mono ?_
 rintro e w2 ⟨mo, b, rfl, hb, _, k2⟩
 go_wp2_with (first | go_skip)
 go_ret
 exact ⟨by rw [← hb]; rfl, k1.trans (k2.mono k1.size)⟩
end Go.Proofs.YtgoapaanmcmlmaaGreatDoor.DhA
namespace Go.Proofs.YtgoapaanmcmlmaaGreatDoor.DhB
set_option maxRecDepth 100000
open Go Go.Sort Go.RowKit Byt IdM IdW IdK IdS OpsM OpsW CmM StW CmW CmX CmY CmA DgM DgW DgR DgX DgY DgI DgF DhO DhP DhT DhK DhC DhA
open Classical
structure Held (w : World) (v : Value) (us : List Cv) : Prop where
 each : ∀ u ∈ us, In w u ∧ CmW.Fit u.c
 far : ∀ u ∈ us, u.c.ps ≠ [] → ∀ b off sp, u.a = some ⟨b, off, sp⟩ → v.ownBlock ≠ some b
theorem Held.nil (w : World) (v : Value) : Held w v [] := ⟨fun u h => by simp at h, fun u h => by simp at h⟩
theorem Held.below {w w' : World} {v : Value} {us : List Cv} (h : Held w v us) (hb : Below w.heap.size w w') : Held w' v us := ⟨fun u hu => ⟨(h.each u hu).1.below hb, (h.each u hu).2⟩, h.far⟩
theorem Held.snoc {w : World} {v : Value} {us : List Cv} {u : Cv} (h : Held w v us) (hi : In w u) (hf : CmW.Fit u.c) (hr : ∀ b off sp, u.a = some ⟨b, off, sp⟩ → v.ownBlock ≠ some b) : Held w v (us ++ [u]) := by
 refine ⟨fun x hx => ?_, fun x hx hp => ?_⟩
 · rcases List.mem_append.1 hx with hx | hx
   · exact h.each x hx
   · rw [List.mem_singleton.1 hx]; exact ⟨hi, hf⟩
 · rcases List.mem_append.1 hx with hx | hx
   · exact h.far x hx hp
   · rw [List.mem_singleton.1 hx]; exact hr
theorem ids_other {w w' : World} {A : Option Addr} {cap : Nat} {l : List Idn} {g : Option Nat} (S : SlI w A cap l) (hg : w.grownBy w' g) (hf : l ≠ [] → ∀ b off sp, A = some ⟨b, off, sp⟩ → g ≠ some b) : SlI w' A cap l ∧ (l ≠ [] → ∀ b off sp, A = some ⟨b, off, sp⟩ → b < w.heap.size) := by
 obtain ⟨h1, h2, h5⟩ := S
 rcases h5 with ⟨rfl, rfl, rfl⟩ | ⟨x, rfl, hc⟩
 · exact ⟨⟨h1, h2, .inl ⟨rfl, rfl, rfl⟩⟩, fun h => absurd rfl h⟩
 · refine ⟨⟨h1, h2, .inr ⟨x, rfl, fun i hi => ?_⟩⟩, fun hl b off sp e => ?_⟩
   · have hcell := hc i hi
     have hlt := block_lt_of_cell hcell
     have hne : some (x.add i).block ≠ g := fun e => hf (fun e => by rw [e] at hi; simp [flat] at hi) x.block x.off x.spot (by cases x; rfl) (by rw [← e, RowIn.block_add])
     unfold World.cell? at hcell ⊢
     rw [hg.block _ hlt hne]
     exact hcell
   · have hlen : 0 < (flat l).length := by
       rw [flat_length]
       have := List.length_pos_iff.2 hl
       omega
     have := block_lt_of_cell (hc 0 hlen)
     rw [RowIn.block_add] at this
     injection e with e
     rw [e] at this
     exact this
theorem Held.grown {w w' : World} {v v' : Value} {us : List Cv} (h : Held w v us) (hg : w.grownBy w' v.ownBlock) (hv : v'.ownBlock = v.ownBlock ∨ v'.ownBlock = some w.heap.size) : Held w' v' us := by
 refine ⟨fun u hu => ⟨(ids_other (h.each u hu).1 hg (h.far u hu)).1, (h.each u hu).2⟩, fun u hu hp b off sp e => ?_⟩
 rcases hv with hv | hv
 · rw [hv]; exact h.far u hu hp b off sp e
 · rw [hv]
   have := (ids_other (h.each u hu).1 hg (h.far u hu)).2 hp b off sp e
   intro e2
   injection e2 with e2
   omega
theorem build_com {w : World} {ops : Array Oper} {rest : List Oper} {o : Oper} {a : Act} {Q : Exit → Act → World → Prop} (hgd : o.guard = none) (x : Operand) (ho : o.op = .buildSlice 35 1 #[(0, x)])
   (y : Cv) (hx : a.eval x = .agg (cc y)) (h : ∀ w1, RowB.Box KE w1 w.heap.size y → Below w.heap.size w w1 → wpList Tryz.prog ops Q rest (a.put o.dst (.slice (some ⟨w.heap.size, 0, none⟩) 1 1)) w1) : wpList Tryz.prog ops Q (o :: rest) a w :=
 RowC.wpList_build1 KE (of_decide_eq_true rfl) hgd x ho y hx (h _ (RowB.Box.new w y _) ((Below.refl _ _).alloc (Nat.le_refl _) _))
theorem coms_snoc (l : List Cv) (x : Cv) : coms (l ++ [x]) = coms l ++ [x.c] := by unfold coms; rw [List.map_append]; rfl
end Go.Proofs.YtgoapaanmcmlmaaGreatDoor.DhB
namespace Go.Proofs.YtgoapaanmcmlmaaGreatDoor.DhD
set_option maxRecDepth 100000
open Go Go.Sort Go.RowKit Byt IdM IdW IdK IdS OpsM OpsW CmM StW CmW CmX CmY CmA DgM DgW DgR DgX DgY DgI DgF DgS DhO DhP DhT DhK DhC DhA DhB
open Classical
theorem sorted_perm {l m : List Com} (C : Closed hashK l) (hp : m.Perm l) (ho : InOrder hashK m) : IsSorted l m := by
 unfold IsSorted
 rw [if_pos C]
 exact ⟨ho, fun z => hp.mem_iff⟩
set_option maxRecDepth 100000 in
set_option maxHeartbeats 32000000 in
theorem sorted_ret (X : KnownRet) (A : Option Addr) (cap : Nat) (l : List Cv) (w : World) (S : SlK w A cap l) (hl : l.length ≤ 1500000000000) (hK : ShaE.KIn w) :
   Calls Tryz.prog 21 #[.slice A l.length cap] w fun e w' => ∃ m, IsSorted (coms l) m ∧ NewC m w e w' := by
 have hmax := S.len
 unfold NewC
 go_enter Tryz.func21, Tryz.ntmps21
 go_wp2_with (first | go_skip)
 refine (ids_ret A cap l w S hl hK).mono ?_
 rintro e w1 ⟨A1, c1, rfl, T1, k1⟩
 go_wp2_with (first | go_skip)
 refine (X A A1 cap c1 l _ w1 (S.below k1) T1 rfl hl).mono ?_
 rintro e w2 ⟨mo, b, rfl, hb, hv, k2⟩
 have b2 := k1.trans (k2.mono k1.size)
 by_cases C : Closed hashK (coms l)
 · rw [decide_eq_true C] at hb
   subst hb
   obtain ⟨mb, rfl, _, _⟩ := hv rfl
   have hfew : l.length ≤ 8388608 := by
     have := DgL.closed_few C
     rwa [coms_len] at this
   have hps : ∀ v ∈ l, v.c.ps.length ≤ 1500000000000 := fun v hv => by
     have := (lineB_iff.1 (mayK_iff.1 (C.may v.c (List.mem_map_of_mem hv))).1).2.2.1
     omega
   have hall : (coms l).all mayK = true := List.all_eq_true.2 fun c hc => C.may c hc
   have hid : idsD (coms l) = (coms l).map hashK := by rw [idsD, if_pos hall]
   have hil : (idsD (coms l)).length = l.length := by rw [hid, List.length_map, coms_len]
   obtain ⟨i, hi, z0, z1, z2⟩ := info_parts KE.info
   obtain ⟨w3, hmk, own3, g3⟩ := run_make_own (P := Tryz.prog) w2 w2.heap.size 35 29 i (.agg (KE.enc KE.zero).toArray) 8 Tryz.underlying35 hi z0 z1 .i64 .i64 l.length (by rw [z2]; show 96 * _ ≤ _; omega) (by unfold maxLen; omega) (Nat.le_refl _)
   have kb3 : Below w2.heap.size w2 w3 := below_grown (Below.refl _ _) (Nat.le_refl _) g3 (fun k hk => by cases hk)
   have q := order_ret A A1 cap c1 l (idsD (coms l)) w3 ((S.below b2).below kb3) ((T1.below k2).below kb3) hil hl
   have HSB := aside (S.below b2)
   have HCL := aside C
   have HID := aside hid
   have HPS := aside hps
   clear hi z0 z1 z2 g3 C hall hid hil hv T1 hps
   go_wp2_with (first | go_skip)
   refine q.mono ?_
   rintro e w4 ⟨bp, P, rfl, hbp, SP, hP, k4⟩
   have b4 := kb3.trans (k4.mono kb3.size)
   have O4 := aside (owns_below own3 k4)
   have hne : Hid (Value.ownBlock (.slice (some ⟨w2.heap.size, 0, none⟩) 0 l.length) ≠ some bp) := aside (fun e => by
     have := (own3.lt bp e).2
     omega)
   have HP := aside hP
   have HPL := aside (show P.length = l.length by rw [hP.1.length_eq, List.length_range])
   clear own3 hmk q kb3 k4 hP hbp
   go_wp2_with (first | go_skip)
   go_loopw [6, 26] (fun o i wq => ∃ (k : Nat) (us : List Cv), k ≤ l.length ∧ us.length = k ∧ i = .int .i64 k ∧ Hid (coms us = atC l (P.take k)) ∧ Hid (wq.ownsRow w2.heap.size 29 8 o us.length (RowS.flat KE us)) ∧ Hid (Held wq o us) ∧ Hid (o.ownBlock ≠ some bp) ∧ wq.heap[bp]? = some (.cells (nv P).toArray 3 (0, 0)) ∧ Below w2.heap.size w2 wq) (fun _ i _ => l.length - (intOf i).toNat)
   case atStart => exact ⟨0, [], Nat.zero_le _, rfl, rfl, aside rfl, O4, aside (Held.nil _ _), hne, SP, b4⟩
   case round =>
     clear O4 hne SP b4
     rename World => wq
     obtain ⟨k, us, hk, hnk, rfl, HU, HO, HH, HNE, SP, kb⟩ := hrel
     by_cases hlt : k < l.length
     · obtain ⟨p, hp⟩ : ∃ p, P[k]? = some p := ⟨_, List.getElem?_eq_getElem (by rw [HPL.out]; exact hlt)⟩
       have cp : wq.cell? ⟨bp, k, none⟩ = some (.int .i64 p) := by rw [cell_of_row wq bp k _ _ (0, 0) SP, List.getElem?_toArray, nv_at hp]
       have hpl : p < l.length := by simpa using HP.out.1.mem_iff.1 (List.mem_of_getElem? hp)
       obtain ⟨b, off, rfl, hbw, hrg⟩ := HSB.out.plain (by omega)
       obtain ⟨x, hx⟩ : ∃ x, l[p]? = some x := ⟨_, List.getElem?_eq_getElem hpl⟩
       have rx := range_on (hrg p x hx) kb
       have hxm := List.mem_of_getElem? hx
       have IX := (HSB.out.each x hxm).1.below kb
       have FX := aside (HSB.out.each x hxm).2
       have hcp := fun W (I : In W x) => copied_ret x W I (HPS.out x hxm)
       have p0 : (k : Int) < l.length := by omega
       have m0 : ((k : Int)).toNat = k := by omega
       have p1 : (p : Int) < l.length := by omega
       have m1 : ((p : Int)).toNat = p := by omega
       have HN := aside (atC_next hp hx)
       have hbq := (Array.getElem?_eq_some_iff.1 SP).1
       clear hrg hx hxm hp
       go_wp2_with (first | go_skip | (refine load_at rfl _ rfl _ _ rfl x rx ?_))
       refine (hcp _ IX).mono ?_
       rintro e w6 ⟨u, rfl, hu, IU, k6, hfar⟩
       have b6 := kb.trans (k6.mono kb.size)
       have O6 := aside (owns_below HO.out k6)
       have H6 := HH.out.below k6
       have P6 := blk_below SP k6
       have hlt6 : ∀ q, Value.ownBlock _ = some q → q < wq.heap.size := fun q hq => (HO.out.lt q hq).2
       have HH6 := aside (H6.snoc IU (fit_of hu FX.out) (fun b off sp e e2 => by
         have h1 := hfar b off sp e
         have h2 := hlt6 b e2
         omega))
       have HU6 := aside (show coms (us ++ [u]) = atC l (P.take (k + 1)) by rw [coms_snoc, HU.out, hu, HN.out])
       clear H6 hlt6 hfar HO HH HU hcp cp SP HN
       go_wp2_with (first | go_skip | (refine build_com rfl _ rfl u rfl ?_; intro w7 B7 k7; have b7 := b6.trans (k7.mono b6.size); have O7 := aside (owns_below O6.out k7); have H7 := aside (HH6.out.below k7); have P7 := blk_below P6 k7) | (refine RowB.wpList_append_at KE rfl (.tmp 30) (.tmp 36) rfl w2.heap.size _ us.length us rfl O7.out _ u rfl B7 (by omega) b7.size ?_; intro v8 w8 o8 g8 e8))
       have b8 : Below w2.heap.size w2 w8 := below_grown b7 b7.size g8 (fun q hq => (O7.out.lt q hq).1)
       have H8 := aside (H7.out.grown g8 e8)
       have hb7 := (Array.getElem?_eq_some_iff.1 P7).1
       have P8 : w8.heap[bp]? = _ := (g8.block bp hb7 (fun e => HNE.out e.symm)).trans P7
       have N8 : Hid (v8.ownBlock ≠ some bp) := aside (fun e => by
         rcases e8 with e8 | e8
         · rw [e8] at e; exact HNE.out e
         · rw [e8] at e
           injection e with e
           omega)
       go_roundw
       case rel => exact ⟨k + 1, us ++ [u], by omega, by simp; omega, by go_num, HU6, aside (by rw [List.length_append]; exact o8), H8, N8, P8, b8⟩
       case measure => simp [intOf]; omega
     · obtain rfl : k = l.length := by omega
       have HO2 := HO.out
       have HU2 := HU.out
       rw [show P.take l.length = P by rw [← HPL.out, List.take_length]] at HU2
       obtain ⟨A6, c6, rfl, R6⟩ := own_in HO2 HH.out.each
       have HU3 := aside HU2
       have HSO := aside (sorted_perm HCL.out (atC_perm HP.out.1) (inOrder HID.out HP.out HCL.out))
       clear HO HO2 HU HU2 HH
       go_wp2_with (first | go_skip)
       go_ret
       exact ⟨_, HSO.out, A6, c6, us, rfl, R6, HU3.out, b2.trans (kb.mono b2.size)⟩
 · rw [decide_eq_false C] at hb
   subst hb
   have HC := aside C
   clear C hv
   go_wp2_with (first | go_skip)
   go_ret
   refine ⟨[], ?_, none, 0, [], rfl, SlK.nil _, rfl, b2⟩
   unfold IsSorted
   rw [if_neg HC.out]
end Go.Proofs.YtgoapaanmcmlmaaGreatDoor.DhD
namespace Go.Proofs.YtgoapaanmcmlmaaGreatDoor.StoH
set_option maxRecDepth 100000
open Go Go.Sort Go.RowKit StoG
theorem dag1 : Dag1 := ⟨fun A cap l w S hl K => DhA.closed_ret DhK.known_ret A cap l w S (by omega) K⟩
theorem dag2 : Dag2 := ⟨fun A cap l w S hl K => DhA.closed_ret DhK.known_ret A cap l w S (by omega) K, fun A cap l w S hl K => DhD.sorted_ret DhK.known_ret A cap l w S (by omega) K⟩
end Go.Proofs.YtgoapaanmcmlmaaGreatDoor.StoH
namespace Go.Proofs.YtgoapaanmcmlmaaGreatDoor.StoJ
set_option maxRecDepth 100000
open Go Go.Sort Go.RowKit Byt IdM IdW OpsM OpsW CmM StW CmW CmX CmY DgM DgW RowS
def Dry (w : World) (v : Value) : Prop := ∀ g, v.ownBlock = some g → CmD.NoU8 w g
theorem dry_nil (w : World) : Dry w (.slice none 0 0) := fun g h => by cases h
theorem no_cells {w : World} {g : Nat} {cs : Array Value} {e : TypeId} {fz : Nat × Nat} (h : w.heap[g]? = some (.cells cs e fz)) (hc : ∀ u ∈ cs.toList, CmD.isU8 u = false) : CmD.NoU8 w g := fun j v hv => by
 rw [cell_of_row _ _ _ _ _ _ h] at hv
 exact hc v (List.mem_of_getElem? (by simpa using hv))
theorem cells_no {w : World} {g : Nat} {cs : Array Value} {e : TypeId} {fz : Nat × Nat} (h : w.heap[g]? = some (.cells cs e fz)) (hn : CmD.NoU8 w g) : ∀ u ∈ cs.toList, CmD.isU8 u = false := fun u hu => by
 obtain ⟨j, hj⟩ := List.mem_iff_getElem?.1 hu
 exact hn j u (by rw [cell_of_row _ _ _ _ _ _ h]; simpa using hj)
theorem no_kept {w w' : World} {g : Nat} {row : Option Nat} (h : CmD.NoU8 w g) (hl : g < w.heap.size) (hg : w.grownBy w' row) (hne : some g ≠ row) : CmD.NoU8 w' g := fun j v hv => h j v (by
 unfold World.cell? at hv ⊢
 rw [hg.block g hl hne] at hv
 exact hv)
theorem Dry.kept {w w' : World} {v : Value} {row : Option Nat} (h : Dry w v) (hl : ∀ g, v.ownBlock = some g → g < w.heap.size) (hg : w.grownBy w' row) (hne : ∀ g, v.ownBlock = some g → some g ≠ row) : Dry w' v := fun g hq => no_kept (h g hq) (hl g hq) hg (hne g hq)
theorem zero_mem {z : Array Value} {n : Nat} {u : Value} (hz : 0 < z.size) (h : u ∈ (Builtin.zeroCells z n).toList) : u ∈ z.toList := by
 unfold Builtin.zeroCells at h
 simp only [Array.toList_map, Array.toList_range, List.mem_map, List.mem_range] at h
 obtain ⟨i, _, rfl⟩ := h
 have hlt : i % z.size < z.size := Nat.mod_lt _ hz
 rw [getElem!_pos z (i % z.size) hlt]
 exact Array.getElem_mem_toList hlt
section
variable {P : Program} (w : World)
theorem run_append_dry (base : Nat) (t ty e : TypeId) (i : TypeInfo) (z : Value) (size bytes : Nat) (ht : P.underlying t = some (.slice e)) (hi : P.info? e = some i) (hz : i.zero = some z)
   (hsize : i.size = size) (hby : i.bytes = bytes) (hzs : z.cells.size = size) (hsz : 0 < size)
   (v : Value) (n : Nat) (xs : List Value) (hown : w.ownsRow base e size v n xs)
   (a : Addr) (c : Nat) (news : List Value) (hl : news.length = size) (hnews : ∀ j u, news[j]? = some u → w.cell? (a.add j) = some u) (h1 : ∀ u ∈ news, u.oneCell' = true)
   (h63 : n + 1 ≤ maxLen) (hbytes : (n + 1) * bytes ≤ 140737488355328) (hbase : base ≤ w.heap.size) (hd : Dry w v) (hz0 : ∀ u ∈ z.cells.toList, CmD.isU8 u = false) (hn0 : ∀ u ∈ news, CmD.isU8 u = false) :
   ∃ v' w', (Builtin.append_ #[t, t] ty #[v, .slice (some a) 1 c]).run P w = .ok v' w' ∧ w'.ownsRow base e size v' (n + 1) (xs ++ news) ∧ w.grownBy w' v.ownBlock ∧
     (v'.ownBlock = v.ownBlock ∨ v'.ownBlock = some w.heap.size) ∧ Dry w' v' := by
 obtain ⟨v', w', hr, o1, o2, _, o4⟩ := run_append_own_at (P := P) w base t ty e i z size bytes ht hi hz hsize hby hzs hsz v n xs hown a 1 c news (by rw [hl, Nat.one_mul]) hnews h1 h63 hbytes hbase
 refine ⟨v', w', hr, o1, o2, o4, ?_⟩
 subst hsize
 subst hby
 have hsmall : n + 1 ≤ 9223372036854775807 := by simp only [maxLen] at h63; omega
 have hpos : 0 < z.cells.size := by omega
 have hzz : ∀ k, ∀ u ∈ (Builtin.zeroCells z.cells k).toList, CmD.isU8 u = false := fun k u hu => hz0 u (zero_mem hpos hu)
 have hl1 : news.length = 1 * i.size := by rw [hl, Nat.one_mul]
 rcases hown.2 with ⟨rfl, rfl⟩ | ⟨g, cap, cur, rfl, hbg, hg, hnc, hcm, hcs, htake⟩
 · have hr2 := run_append_nil (P := P) w t ty e i z ht hi hz a 1 c news hl1 hnews (by omega) (by omega) (by omega)
   rw [hr] at hr2
   injection hr2 with e1 e2
   subst e1
   subst e2
   intro q hq
   injection hq with hq
   subst hq
   refine no_cells (heap_alloc_new w.drew _) fun u hu => ?_
   rw [Array.toList_append, List.mem_append] at hu
   rcases hu with hu | hu
   · exact hn0 u hu
   · exact hzz _ u hu
 · have hcur := cells_no hg (hd g rfl)
   by_cases hroom : n + 1 ≤ cap
   · have hfit : n * i.size + news.length ≤ cur.size := by rw [hl1, hcs, ← Nat.add_mul]; exact Nat.mul_le_mul_right _ hroom
     have hr2 := run_append_room (P := P) w t ty e i ht hi g n cap cur hg a 1 c news hl1 hnews h1 hroom hfit
     rw [hr] at hr2
     injection hr2 with e1 e2
     subst e1
     subst e2
     intro q hq
     injection hq with hq
     subst hq
     refine no_cells (setRow_heap w _ cur _ e _ hg) fun u hu => ?_
     simp only [List.mem_append] at hu
     rcases hu with (hu | hu) | hu
     · exact hcur u (List.mem_of_mem_take hu)
     · exact hn0 u hu
     · exact hcur u (List.mem_of_mem_drop hu)
   · have holds : ∀ j u, xs[j]? = some u → w.cell? ((⟨g, 0, none⟩ : Addr).add j) = some u := hown.cells (g := g) rfl
     have hr2 := run_append_grow (P := P) w t ty e i z ht hi hz ⟨g, 0, none⟩ n cap xs hown.1 holds a 1 c news hl1 hnews (by omega) (by omega) (growslice_fits (by omega) hbytes)
     rw [hr] at hr2
     injection hr2 with e1 e2
     subst e1
     subst e2
     intro q hq
     injection hq with hq
     subst hq
     refine no_cells (heap_alloc_new w.drew _) fun u hu => ?_
     simp only [Array.toList_append, List.mem_append] at hu
     rcases hu with (hu | hu) | hu
     · exact hcur u (by rw [← htake] at hu; exact List.mem_of_mem_take hu)
     · exact hn0 u hu
     · exact hzz _ u hu
end
theorem append_dry {α : Type} {w : World} {ops : Array Oper} {rest : List Oper} {o : Oper} {a : Act} {Q : Exit → Act → World → Prop} (E : Enc α) (hE : ∀ x, ∀ u ∈ E.enc x, CmD.isU8 u = false) (hgd : o.guard = none) (s x : Operand)
   (ho : o.op = .call { callee := .builtin .append, args := #[s, x], argTypes := #[E.S, E.S] })
   (base : Nat) (v : Value) (n : Nat) (xs : List α) (hs : a.eval s = v) (hown : w.ownsRow base E.T E.k v n (flat E xs)) (hd : Dry w v)
   (g : Nat) (y : α) (hx : a.eval x = .slice (some ⟨g, 0, none⟩) 1 1) (hr : RowB.Box E w g y)
   (h63 : n ≤ 100000000) (hbase : base ≤ w.heap.size)
   (h : ∀ v' w', w'.ownsRow base E.T E.k v' (n + 1) (flat E (xs ++ [y])) → w.grownBy w' v.ownBlock → (v'.ownBlock = v.ownBlock ∨ v'.ownBlock = some w.heap.size) → Dry w' v' → wpList Tryz.prog ops Q rest (a.put o.dst v') w') : wpList Tryz.prog ops Q (o :: rest) a w := by
 obtain ⟨i, hi, z0, z1, z2⟩ := info_parts E.info
 have hb : (n + 1) * E.bytes ≤ 140737488355328 := by
   have h3 : (n + 1) * E.bytes ≤ 100000001 * 100 := Nat.mul_le_mul (by omega) E.small
   omega
 obtain ⟨v', w', hrun, o1, o2, o4, o5⟩ := run_append_dry (P := Tryz.prog) w base E.S o.type E.T i (.agg (E.enc E.zero).toArray) E.k E.bytes E.slice hi z0 z1 z2 (by simp [Value.cells, E.len]) E.pos v n (flat E xs) hown ⟨g, 0, none⟩ 1 (E.enc y) (E.len y)
   (fun j u hu => by rw [Addr.add_lit, Nat.zero_add]; exact hr.cell hu) (fun u hu => E.one y u hu) (by unfold maxLen; omega) hb hbase hd (fun u hu => hE _ u (by simpa [Value.cells] using hu)) (fun u hu => hE _ u hu)
 exact Lib.wpList_append_run w hgd s x E.S E.S ho v (.slice (some ⟨g, 0, none⟩) 1 1) hs hx v' w' hrun (h v' w' (by rw [RowS.flat_append, RowS.flat_one]; exact o1) o2 o4 o5)
theorem dry_com (x : Cv) : ∀ u ∈ KE.enc x, CmD.isU8 u = false := fun u hu => by
 simp only [KE, List.mem_cons, List.not_mem_nil, or_false] at hu
 rcases hu with rfl | rfl | rfl | rfl | rfl | rfl | rfl | rfl <;> rfl
def nums (l : List Int) : List Value := l.map (Value.int .i64)
theorem nums_snoc (l : List Int) (n : Int) : nums (l ++ [n]) = nums l ++ [.int .i64 n] := by simp [nums]
theorem zero_num : (Tryz.prog.info? 3).map (fun i => (i.zero, i.size, i.bytes)) = some (some (.int .i64 0), 1, 8) := by kernel_rfl
theorem append_num {w : World} {ops : Array Oper} {rest : List Oper} {o : Oper} {a : Act} {Q : Exit → Act → World → Prop} (hgd : o.guard = none) (s x : Operand)
   (ho : o.op = .call { callee := .builtin .append, args := #[s, x], argTypes := #[45, 45] })
   (base : Nat) (v : Value) (n : Nat) (xs : List Int) (hs : a.eval s = v) (hown : w.ownsRow base 3 1 v n (nums xs)) (hd : Dry w v)
   (g : Nat) (y : Int) (hx : a.eval x = .slice (some ⟨g, 0, none⟩) 1 1) (hr : One w g (.int .i64 y))
   (h63 : n ≤ 100000000) (hbase : base ≤ w.heap.size)
   (h : ∀ v' w', w'.ownsRow base 3 1 v' (n + 1) (nums (xs ++ [y])) → w.grownBy w' v.ownBlock → (v'.ownBlock = v.ownBlock ∨ v'.ownBlock = some w.heap.size) → Dry w' v' → wpList Tryz.prog ops Q rest (a.put o.dst v') w') : wpList Tryz.prog ops Q (o :: rest) a w := by
 obtain ⟨i, hi, z0, z1, z2⟩ := info_parts zero_num
 obtain ⟨v', w', hrun, o1, o2, o4, o5⟩ := run_append_dry (P := Tryz.prog) w base 45 o.type 3 i (.int .i64 0) 1 8 Tryz.underlying45 hi z0 z1 z2 rfl (by omega) v n (nums xs) hown ⟨g, 0, none⟩ 1 [.int .i64 y] rfl
   (fun j u hu => by
     rw [Addr.add_lit, Nat.zero_add]
     match j, hu with
     | 0, hu => simp at hu; subst hu; exact hr.cell
     | j + 1, hu => simp at hu) (fun u hu => by simp at hu; subst hu; rfl) (by unfold maxLen; omega) (by omega) hbase hd (fun u hu => by simp [Value.cells] at hu; subst hu; rfl) (fun u hu => by simp at hu; subst hu; rfl)
 exact Lib.wpList_append_run w hgd s x 45 45 ho v (.slice (some ⟨g, 0, none⟩) 1 1) hs hx v' w' hrun (h v' w' (by rw [nums_snoc]; exact o1) o2 o4 o5)
end Go.Proofs.YtgoapaanmcmlmaaGreatDoor.StoJ
