/- What the project's Load of package store returns: a contract. No condition but sizes. | What the project's four functions of package store return, as the laws' walks need it. No condition but sizes. | What the listed variable gives a walk: the table of constants, cell by cell; and a world that meets the condition. -/
import Derived.Test.YtgoapaanmcmlmaaGreatDoorLogFJ3
import Derived.Test.YtgoapaanmcmlmaaGreatDoorStoBJ4
import Derived.Test.YtgoapaanmcmlmaaGreatDoorStoC
import Derived.Test.YtgoapaanmcmlmaaGreatDoorStoKJ3
import Derived.Shelf.Abstract
import Derived.OwnWalkIn
import Derived.TacticsInMore
import Derived.LoopNIn
import Derived.LoopIn
import Derived.Test.YtgoapaanmcmlmaaGreatDoorIdXJ10
import Derived.Test.YtgoapaanmcmlmaaGreatDoorShaDJ4
import Derived.Test.YtgoapaanmcmlmaaGreatDoorRows
import Derived.ProofKit
import Derived.LaidMore
import Derived.OpenShut
import Derived.Stop.Joined
namespace Go.Proofs.YtgoapaanmcmlmaaGreatDoor.StoI
set_option maxRecDepth 100000
open Go Go.Sort Go.RowKit Go.Shelf Byt IdM IdW OpsM OpsW CmM StW CmW CmX CmY CmA DgM DgW StoM StoW StoQ LogM LogB LogD LogE LogR StoJ StoE StoN StoK StoC
attribute [local go_sem] Oper.semAt_some
set_option maxHeartbeats 1000000 in
theorem commits_ret (A : Option Addr) (len cap : Nat) (w : World) :
   Calls Tryz.prog 28 #[.slice A len cap] w fun e w' => e = .returned (.func (.func 52) #[] #[.pointer (some ⟨w.heap.size, 0, none⟩)]) ∧ w' = w.alloc (.cells #[.slice A len cap] 22) := by
 go_enter Tryz.func28, Tryz.ntmps28
 go_wp2_with (first | go_skip)
 go_ret
 exact ⟨rfl, rfl⟩
theorem own_slice {w : World} {base n size : Nat} {e : TypeId} {v : Value} {xs : List Value} (h : w.ownsRow base e size v n xs) : ∃ A c, v = .slice A n c := by
 rcases h.2 with ⟨rfl, rfl⟩ | ⟨g, c, _, rfl, _⟩
 · exact ⟨none, 0, rfl⟩
 · exact ⟨_, c, rfl⟩
theorem own_some {w : World} {base n size : Nat} {e : TypeId} {v : Value} {xs : List Value} (h : w.ownsRow base e size v n xs) (hn : 0 < n) : ∃ g c, v = .slice (some ⟨g, 0, none⟩) n c := by
 rcases h.2 with ⟨_, rfl⟩ | ⟨g, c, _, rfl, _⟩
 · omega
 · exact ⟨g, c, rfl⟩
theorem cel_kept {α : Type} {E : Cel.Cel α} {W W' : World} {row : Option Nat} {g : Nat} {x : α} (h : Cel.Box E W g x) (hg : W.grownBy W' row) (hne : some g ≠ row) : Cel.Box E W' g x := by
 obtain ⟨t, ht⟩ := h
 exact ⟨t, heap_kept ht hg hne⟩
theorem info_is : (Tryz.prog.info? 45).map (·.size) = some 1 := by kernel_rfl
theorem num_at {w : World} {base n g c : Nat} {xs : List Int} (h : w.ownsRow base 3 1 (.slice (some ⟨g, 0, none⟩) n c) n (StoJ.nums xs)) {i : Nat} {e : Int} (hi : xs[i]? = some e) : w.cell? ⟨g, i, none⟩ = some (.int .i64 e) := by
 have := h.cells (g := g) rfl i (.int .i64 e) (by unfold StoJ.nums; rw [List.getElem?_map, hi]; rfl)
 rwa [Addr.add_lit, Nat.zero_add] at this
def Round (N D : Nat) (r : Loop) (A : Option Addr) (cap : Nat) (ps : List Pb) : Prop :=
 ∀ (us : List Cv) (es : List Int) (v ve : Value) (u : Cv) (s e : Int) (W : World), St N D r A cap ps us es v ve W → In W u → us.length ≤ 1000000 → es.length = us.length + 1 → es[us.length]? = some e → I64 (e + s) →
   YieldAt Fence.wide 3 Tryz.prog (D + 1) #[.agg (cc u), .int .i64 s] W fun en W' => en = .returned (.bool true) ∧ ∃ v' ve', St N D r A cap ps (us ++ [u]) (es ++ [e + s]) v' ve' W' ∧ Below N W W'
def endsR (rs : List (List Int)) (k : Nat) : List Int := (List.range (k + 1)).map fun j => ((catL (rs.take j)).length : Int)
theorem endsR_len (rs : List (List Int)) (k : Nat) : (endsR rs k).length = k + 1 := by simp [endsR]
theorem endsR_at (rs : List (List Int)) {j k : Nat} (h : j ≤ k) : (endsR rs k)[j]? = some ((catL (rs.take j)).length : Int) := by
 unfold endsR
 rw [List.getElem?_map, List.getElem?_range (by omega)]
 rfl
theorem catL_next {rs : List (List Int)} {k : Nat} {x : List Int} (h : rs[k]? = some x) : (catL (rs.take (k + 1))).length = (catL (rs.take k)).length + (frameL x).length := by
 obtain ⟨h1, rfl⟩ := List.getElem?_eq_some_iff.1 h
 rw [List.take_succ_eq_append_getElem h1, catL_append, catL_cons, catL_nil, List.append_nil, List.length_append]
theorem endsR_next {rs : List (List Int)} {k : Nat} {x : List Int} (h : rs[k]? = some x) : endsR rs (k + 1) = endsR rs k ++ [((catL (rs.take k)).length : Int) + ((frameL x).length : Nat)] := by
 unfold endsR
 rw [List.range_succ, List.map_append, List.map_cons, List.map_nil, catL_next h]
 simp
structure Came (rs : List (List Int)) (us : List Cv) (k : Nat) : Prop where
 len : us.length = k
 coms : comsR rs = DgW.coms us ++ comsR (rs.drop k)
 may : ∀ u ∈ us, mayK u.c = true
theorem Came.next {rs : List (List Int)} {us : List Cv} {k : Nat} {x : List Int} {u : Cv} (h : Came rs us k) (hx : rs[k]? = some x) (hg : getK x = some (u.c, [])) (hm : mayK u.c = true) : Came rs (us ++ [u]) (k + 1) := by
 refine ⟨by simp [h.len], ?_, fun y hy => ?_⟩
 · rw [h.coms, drop_at hx, comsR_some hg]
   unfold DgW.coms
   simp
 · rcases List.mem_append.1 hy with hy | hy
   · exact h.may y hy
   · rw [List.mem_singleton.1 hy]; exact hm
theorem Came.none {rs : List (List Int)} {us : List Cv} {k : Nat} {x : List Int} (h : Came rs us k) (hx : rs[k]? = some x) (hg : ∀ c, getK x ≠ some (c, [])) : comsR rs = DgW.coms us := by
 rw [h.coms, drop_at hx, comsR_none hg, List.append_nil]
theorem Came.all {rs : List (List Int)} {us : List Cv} (h : Came rs us rs.length) : comsR rs = DgW.coms us := by
 rw [h.coms, List.drop_length]
 exact List.append_nil _
def Left (w : World) (N D : Nat) (r : Loop) (rs : List (List Int)) (e : Ending) (W : World) : Prop :=
 (∃ v, e = .returned v) ∧ ∃ A cap ps us v ve, comsR rs = DgW.coms us ∧ (∀ u ∈ us, mayK u.c = true) ∧ us.length ≤ rs.length ∧ St N D r A cap ps us (endsR rs us.length) v ve W ∧ Below N w W
set_option maxRecDepth 100000 in
set_option maxHeartbeats 8000000 in
theorem iter_ret (N : Nat) (r : Loop) (hR : ∀ (A' : Option Addr) (cap' : Nat) (ps : List Pb), Round N (N + 4) r A' cap' ps) (A : Option Addr) (cap : Nat) (b : List Int) (w W1 : World) (S : Sl w A cap b) (hm : b.length ≤ 1000000) (hK : ShaE.KIn w) (hw : w.heap.size = N) (kb : Below N w W1)
   (O0 : One W1 N (.slice none 0 0)) (O1 : W1.heap[N + 1]? = some (.cells #[.int .i64 0] 3 (0, 0))) (O2 : One W1 (N + 2) (.slice (some ⟨N + 1, 0, none⟩) 1 1)) (O3 : One W1 (N + 3) (.slice A b.length cap)) (O4 : W1.heap[N + 4]? = some (.deferred (some []))) (O5 : W1.heap[N + 4 + 1]? = some (.loop r)) :
   Calls Tryz.prog 52 #[.func (.yield (N + 4 + 1)) #[] #[], .pointer (some ⟨N + 3, 0, none⟩)] W1 (Left w N (N + 4) r (readL b).1) := by
 have hb0 : Below w.heap.size w W1 := by rw [hw]; exact kb
 have q := LogR.read_new (S.below hb0) rfl (by omega) (hK.below hb0)
 have hB : ∀ y ∈ b, 0 ≤ y ∧ y ≤ 255 := S.bytes
 have hfive := readL_five hB
 obtain ⟨rest, hl0, hl2, hl3, hl4⟩ := readL_lies b.length (Nat.le_refl _) hB
 have hl1 := congrArg List.length hl0
 clear hl0 hl2 hl4
 rw [List.length_append] at hl1
 have hrec := fun x hx => (readL_B hB x hx).2
 obtain ⟨rs, hrs⟩ : ∃ rs, (readL b).1 = rs := ⟨_, rfl⟩
 obtain ⟨used, hused⟩ : ∃ n, (readL b).2 = n := ⟨_, rfl⟩
 rw [hrs, hused] at q
 rw [hrs] at hfive hl1 hl3 hrec ⊢
 have HL1 := aside hl1
 have HL3 := aside hl3
 have HREC := aside hrec
 have HFIVE := aside hfive
 have c3 := O3.cell
 have HM := aside hm
 have HR := aside hR
 have HW := aside hw
 have HP0 := aside (And.intro O0 (And.intro O1 (And.intro O2 (And.intro O4 O5))))
 clear hm hR hw O0 O1 O2 O3 O4 O5 hrs hused hl1 hl3 hrec hB S hb0 hfive
 go_enter Tryz.func52, Tryz.ntmps52
 go_wp2_with (first | go_skip)
 refine q.mono ?_
 rintro e w1 ⟨A2, c2, ps, rfl, htx, SB, k1, far⟩
 clear q c3
 obtain ⟨O0, O1, O2, O4, O5⟩ := HP0.out
 have z1 : N + 4 + 1 < W1.heap.size := (Array.getElem?_eq_some_iff.1 O5).1
 have z2 := k1.size
 have T1 : St N (N + 4) r A2 c2 ps [] (endsR rs 0) (.slice none 0 0) (.slice (some ⟨N + 1, 0, none⟩) 1 1) w1 := by
   have o1 : w1.heap[N + 1]? = some (.cells #[.int .i64 0] 3 (0, 0)) := (k1.block _ (by omega)).trans O1
   refine ⟨One.below O0 k1, One.below O2 k1, World.ownsRow_nil _ _ _ _, ⟨rfl, .inr ⟨N + 1, 1, _, rfl, by omega, o1, Nat.le_refl 1, by unfold maxLen; omega, rfl, rfl⟩⟩, dry_nil _, ?_, (k1.block _ (by omega)).trans O5, (k1.block _ (by omega)).trans O4, SB, by simp, ?_, ?_, ?_, by omega⟩
   · intro g hg
     injection hg with hg
     subst hg
     exact no_cells o1 fun u hu => by simp at hu; subst hu; rfl
   · rintro g (hg | hg)
     · cases hg
     · injection hg with hg
       subst hg
       exact ⟨by simp, by simp, by simp, by simp, fun b off sp e => by have := (far b off sp e).1; simp only; omega⟩
   · intro g hg
     cases hg
   · intro b off sp e
     obtain ⟨h1, h2⟩ := far b off sp e
     exact ⟨by omega, by omega, by omega, h2⟩
 have kb1 : Below N w w1 := kb.trans (k1.mono (by omega))
 have hpl : ps.length = rs.length := by rw [← htx]; simp [tx]
 have HTX := aside htx
 have hmax : ps.length ≤ 9223372036854775807 := by have := HFIVE.out; have := HM.out; omega
 clear O0 O1 O2 O4 O5 HP0 SB far kb k1 htx
 go_wp2_with (first | go_skip)
 go_loopw [17] (fun i wr => ∃ k us v ve, k ≤ ps.length ∧ i = .int .i64 (k : Nat) ∧ Hid (Came rs us k) ∧ Hid (St N (N + 4) r A2 c2 ps us (endsR rs k) v ve wr) ∧ Below N w wr) (fun i _ => ps.length - (intOf i).toNat)
 case atStart => exact ⟨0, [], _, _, Nat.zero_le _, rfl, aside ⟨rfl, by simp [DgW.coms], by simp⟩, aside T1, kb1⟩
 case round =>
   clear T1 kb1
   obtain ⟨k, us, v, ve, hk, rfl, HC, HS, kb⟩ := hrel
   by_cases hlt : k < ps.length
   · have T := HS.out
     obtain ⟨b2, off, rfl, hbw, hrow⟩ := T.sl.plain (by omega)
     obtain ⟨p, hp⟩ : ∃ p, ps[k]? = some p := ⟨_, List.getElem?_eq_getElem hlt⟩
     have rp : wr.cell? ⟨b2, off + k, none⟩ = some (.slice p.a p.bs.length p.k) := hrow k p hp
     have SP := T.sl.each p (List.mem_of_getElem? hp)
     have hx : rs[k]? = some p.bs := by rw [← HTX.out]; unfold tx; rw [List.getElem?_map, hp]; rfl
     have K := hK.below (show Below w.heap.size w wr by rw [HW.out]; exact kb)
     have hx4 := HL3.out _ (List.mem_of_getElem? hx)
     have hxB := HREC.out _ (List.mem_of_getElem? hx)
     have q := CmA.get_ret p.a p.k p.bs wr SP (by omega)
     unfold GetAll at q
     have p0 : (k : Int) < ps.length := by omega
     have m0 : ((k : Int)).toNat = k := by omega
     have hzw := kb.size
     have hLw : N + 4 + 1 < wr.heap.size := (Array.getElem?_eq_some_iff.1 T.ll).1
     have HX := aside hx
     have HXB := aside hxB
     obtain ⟨g, hg⟩ : ∃ g, getK p.bs = g := ⟨_, rfl⟩
     rw [hg] at q
     have HG := aside hg
     clear hrow hp hx hg hxB T
     go_wp2_with (first | go_skip)
     refine q.mono ?_
     rintro e w2 ⟨v2, A3, c3, rfl, hv2, I2, S3, k2⟩
     clear q rp
     have T2 := HS.out.below k2
     have SP2 := SP.below k2
     have kb2 := kb.trans (k2.mono (by omega))
     have hz2 := k2.size
     go_wp2_with (first | go_skip | (refine Cel.wpList_store_new CE rfl _ _ rfl w2 _ _ rfl v2 _ rfl rfl rfl rfl ?_; intro w3 B3 k3 g3 s3))
     refine (wpIn_wide (n := 4)).1 ?_
     refine GrowI.region 12 [(0, true), (1, true), (2, true), (3, true), (4, true), (5, true), (6, true), (7, true), (8, true), (9, true), (10, true), (11, false), (12, false), (13, false), (14, false)] (by kernel_rfl) (by kernel_rfl) rfl (by kernel_rfl) (by intro c a d v w h; cases d <;> exact h) ?_
     have kd := below_drew1 (Below.refl w3.heap.size w3)
     have T4 := (T2.below k3).below kd
     have SP4 := (SP2.below k3).below kd
     have I4 := (I2.below k3).below kd
     have B4 := B3.below kd
     have kb4 := kb2.trans ((k3.trans (kd.mono k3.size)).mono (by omega))
     have K4 := K.below ((k2.trans ((k3.trans (kd.mono k3.size)).mono hz2)).mono (Nat.le_refl _))
     have hz4 : wr.heap.size ≤ w3.drew.heap.size := Nat.le_trans hz2 (Nat.le_trans k3.size kd.size)
     generalize w3.drew = w4 at T4 SP4 I4 B4 kb4 K4 hz4 ⊢
     clear T2 SP2 I2 kb2 k2 hz2 k3 g3 s3 B3 kd S3 HS K SP
     (try simp only [Act.put, List.setIfInBounds_toArray, List.set_cons_succ, List.set_cons_zero])
     rcases g with _ | ⟨c, rest⟩
     · simp only [show gotN (none : Option (Com × List Int)) = 2 from rfl]
       repeat (first | (refine GrowI.reads rfl rfl ?_; go_big_quiet_step (fail); refine wpQuiet_nil ?_) | (refine GrowI.skips rfl (by rfl) ?_; (try simp only [Act.put, List.setIfInBounds_toArray, List.set_cons_succ, List.set_cons_zero])))
       refine GrowI.writes (by omega) rfl ?_
       gi_wp2
       refine GrowI.ends ?_
       go_wp2_with (first | go_skip)
       refine bodyPost_ret (results_none rfl _ _ _) rfl ?_
       exact ⟨⟨_, rfl⟩, _, _, _, us, _, _, HC.out.none HX.out (fun c h => by rw [HG.out] at h; cases h), HC.out.may, by rw [HC.out.len, ← hpl]; exact hk, by rw [HC.out.len]; exact T4, kb4⟩
     · cases rest with
       | nil =>
         have hc : v2.c = c := hv2
         simp only [show gotN (some (c, ([] : List Int))) = 0 from rfl, show gotR (some (c, ([] : List Int))) = [] from rfl]
         repeat (first | (refine GrowI.reads rfl rfl ?_; go_big_quiet_want; refine Cel.quiet_row CE _ rfl _ _ rfl v2 B4.range ?_; go_big_quiet_on; refine wpQuiet_nil ?_; (try simp only [Act.put, List.setIfInBounds_toArray, List.set_cons_succ, List.set_cons_zero])) | (refine GrowI.reads rfl rfl ?_; go_big_quiet_step (fail); refine wpQuiet_nil ?_))
         have qs := StoK.size_ret SP4 rfl hx4 K4
         refine GrowI.acts rfl ?_
         gi_wp2_with (refine ⟨trivial, ?_⟩; gi_at_call 55; refine (callsIn_wide.2 qs).mono ?_; rintro e w5 ⟨rfl, k5⟩)
         refine ⟨k5, ?_⟩
         have T5 := T4.below k5
         have I5 := I4.below k5
         have kb5 := kb4.trans (k5.mono (by omega))
         have hmay : mayK v2.c = true := by rw [hc]; exact (put_getK HXB.out HG.out).1
         have HMAY := aside hmay
         have hsum := catL_next HX.out
         have hle : (catL (rs.take (k + 1))).length ≤ 1000000 := by
           have e := congrArg List.length (congrArg catL (List.take_append_drop (k + 1) rs))
           rw [catL_append, List.length_append] at e
           have := HL1.out
           have := HM.out
           omega
         obtain ⟨fn, tmps, assign, body, hy, hRn⟩ := HR.out _ _ ps us (endsR rs k) v ve v2 ((frameL p.bs).length : Nat) ((catL (rs.take k)).length : Nat) w5 T5 I5 (by have := HC.out.len; have := HFIVE.out; have := HM.out; omega) (by rw [endsR_len, HC.out.len]) (by rw [HC.out.len]; exact endsR_at rs (Nat.le_refl _)) (by unfold I64; omega)
         have hy2 : (Instr.yield (N + 4 + 1) #[.agg (CE.enc v2).toArray, .int .i64 ((frameL p.bs).length : Nat)]).run Tryz.prog w5 = .ok (.round (N + 4 + 1) fn tmps assign body) w5 := hy
         clear qs T4 I4 B4 kb4 K4 SP4 T5 I5 hsum hle hmay hy
         refine GrowI.writes (by omega) rfl ?_
         gi_wp2
         refine hRn.mono ?_
         rintro e w6 ⟨rfl, v', ve', T6, kb6⟩
         clear hRn hy2
         gi_wp2
         refine GrowI.writes (by omega) rfl ?_
         gi_wp2
         refine GrowI.writes (by omega) rfl ?_
         gi_wp2
         refine GrowI.ends ?_
         go_wp2_with (first | go_skip)
         go_roundw
         case rel => exact ⟨k + 1, us ++ [v2], _, _, by omega, by go_num, aside (HC.out.next HX.out (by rw [hc]; exact HG.out) HMAY.out), aside (by rw [endsR_next HX.out]; exact T6), kb5.trans kb6⟩
         case measure => simp [intOf]; omega
       | cons y rest =>
         simp only [show gotN (some (c, y :: rest)) = 0 from rfl, show gotR (some (c, y :: rest)) = y :: rest from rfl]
         repeat (first | (refine GrowI.reads rfl rfl ?_; go_big_quiet_step (fail); refine wpQuiet_nil ?_) | (refine GrowI.skips rfl (by rfl) ?_; (try simp only [Act.put, List.setIfInBounds_toArray, List.set_cons_succ, List.set_cons_zero])))
         refine GrowI.writes (by omega) rfl ?_
         gi_wp2
         refine GrowI.ends ?_
         go_wp2_with (first | go_skip)
         refine bodyPost_ret (results_none rfl _ _ _) rfl ?_
         exact ⟨⟨_, rfl⟩, _, _, _, us, _, _, HC.out.none HX.out (fun c h => by rw [HG.out] at h; cases h), HC.out.may, by rw [HC.out.len, ← hpl]; exact hk, by rw [HC.out.len]; exact T4, kb4⟩
   · obtain rfl : k = ps.length := by omega
     go_wp2_with (first | go_skip)
     go_end0
     exact ⟨⟨_, rfl⟩, _, _, _, us, _, _, Came.all (hpl ▸ HC.out), HC.out.may, by rw [HC.out.len, hpl]; exact Nat.le_refl _, by rw [HC.out.len]; exact HS.out, kb⟩
theorem ends_in {K : Act → World → Prop} {a : Act} {w : World} (h : K a w) : StoB.Ends K .normal a w := h
theorem six (w : World) (a b c d e f : Obj) : ∀ W, W = (((((w.alloc a).alloc b).alloc c).alloc d).alloc e).alloc f → ∀ N, w.heap.size = N → W.heap[N]? = some a ∧ W.heap[N + 1]? = some b ∧ W.heap[N + 2]? = some c ∧ W.heap[N + 3]? = some d ∧ W.heap[N + 4]? = some e ∧ W.heap[N + 4 + 1]? = some f := by
 rintro W rfl N rfl
 have s : ∀ (u : World) (o : Obj) (k : Nat) (x : Obj), u.heap[k]? = some x → (u.alloc o).heap[k]? = some x := fun u o k x h => (Below.heap_alloc u o k (Array.getElem?_eq_some_iff.1 h).1).trans h
 have n : ∀ (u : World) (o : Obj) (k : Nat), u.heap.size = k → (u.alloc o).heap[k]? = some o := fun u o k h => by rw [← h]; exact heap_alloc_new u o
 refine ⟨?_, ?_, ?_, ?_, ?_, ?_⟩
 · exact s _ _ _ _ (s _ _ _ _ (s _ _ _ _ (s _ _ _ _ (s _ _ _ _ (n w a _ rfl)))))
 · exact s _ _ _ _ (s _ _ _ _ (s _ _ _ _ (s _ _ _ _ (n (w.alloc a) b _ (by simp)))))
 · exact s _ _ _ _ (s _ _ _ _ (s _ _ _ _ (n ((w.alloc a).alloc b) c _ (by simp))))
 · exact s _ _ _ _ (s _ _ _ _ (n (((w.alloc a).alloc b).alloc c) d _ (by simp)))
 · exact s _ _ _ _ (n ((((w.alloc a).alloc b).alloc c).alloc d) e _ (by simp))
 · exact n (((((w.alloc a).alloc b).alloc c).alloc d).alloc e) f _ (by simp)
theorem slr_far {α : Type} {E : RowS.Enc α} {w w' : World} {g : Nat} {A : Option Addr} {cap : Nat} {l : List α} (h : RowS.SlR E w A cap l) (hg : w.grownBy w' (some g)) (hn : ∀ j v, w.cell? ⟨g, j, none⟩ ≠ some v) : RowS.SlR E w' A cap l := by
 obtain ⟨h1, h2, h5⟩ := h
 refine ⟨h1, h2, ?_⟩
 rcases h5 with h5 | ⟨x, rfl, hc⟩
 · exact .inl h5
 · refine .inr ⟨x, rfl, fun i v hv => ?_⟩
   have hcell := hc i v hv
   refine hg.cell hcell fun e => ?_
   have hs := World.cell?_spot hcell
   obtain ⟨b, o, s⟩ := x
   have e := Option.some.inj e
   rw [RowIn.block_add] at e
   simp only at e
   subst e
   by_cases hi : i = 0
   · have hs2 : s = none := by simpa [Addr.add, hi] using hs
     subst hs2
     rw [Addr.add_lit] at hcell
     exact hn _ _ hcell
   · simp only [Addr.add, hi, if_false] at hcell
     exact hn _ _ hcell
set_option maxRecDepth 100000 in
set_option maxHeartbeats 4000000 in
theorem load_in (A : Option Addr) (cap len : Nat) (b : List Int) (w : World) (S : Sl w A cap b) (hl : b.length = len) (hm : len ≤ 1000000) (hK : ShaE.KIn w) :
   CallsIn Fence.wide 5 Tryz.prog 12 #[.slice A len cap] w (LoadOut (loadD hashK b) w) := by
 refine callsIn_of_wp_marks Tryz.func12 rfl trivial ?_ rfl
 simp only [Tryz.ntmps12, List.size_toArray, List.length_cons, List.length_nil, Nat.reduceAdd, Nat.reduceSub, Array.replicate_succ, Array.replicate_zero, List.push_toArray, List.append_toArray, List.nil_append, List.cons_append]
 gi_wp2_with (refine ⟨trivial, ?_⟩; gi_at_call 28; refine (callsIn_wide.2 (commits_ret _ _ _ _)).mono ?_; rintro e w' ⟨rfl, rfl⟩)
 refine StoN.range_in (by omega) rfl (enters_of Tryz.func52 (by kernel_rfl) rfl) ?_
 intro fn W1 r hr hW1
 obtain ⟨N, hN⟩ : ∃ N, w.heap.size = N := ⟨_, rfl⟩
 have z4 : ((((w.alloc (.cells #[.slice none 0 0] 35)).alloc (.cells #[.int .i64 0] 3)).alloc (.cells #[.slice (some ⟨w.heap.size + 1, 0, none⟩) 1 1] 45)).alloc (.cells #[.slice A len cap] 22)).heap.size = N + 4 := by rw [← hN]; simp
 rw [z4] at hr ⊢
 have ra := congrArg Loop.assign hr
 have rb := congrArg Loop.body hr
 have rt := congrArg Loop.tmps hr
 have rp := congrArg Loop.params hr
 have rs := congrArg Loop.state hr
 have rq := congrArg Loop.pending hr
 dsimp only [recOf] at ra rb rt rp rs rq
 clear hr
 have hround : ∀ (A' : Option Addr) (cap' : Nat) (ps : List Pb), Round N (N + 4) r A' cap' ps := by
   intro A' cap' ps us es v ve u s e W T I hus hes hee hfit
   refine StoN.yield_in T.ll rs rq (by rw [rp]; rfl) ?_
   rw [ra, rb, rt, rp]
   clear ra rb rt rp rs rq z4 hW1
   refine wpIn_seq_k fun K hK => ?_
   refine StoB.region_in (fun ⟨_, _, h⟩ => h) rfl ?_
   go_wp2_with (first | go_skip | (refine Cel.wpList_store_new CE rfl _ _ rfl W _ _ rfl u _ rfl rfl rfl rfl ?_; intro w3 B3 k3 g3 s3))
   refine StoB.region_in (fun ⟨_, _, h⟩ => h) rfl ?_
   go_wp2_with (first | go_skip)
   have T3 := T.below k3
   have I3 := I.below k3
   refine ⟨T3.ll, ?_⟩
   obtain ⟨T4, j4⟩ := T3.mark (StoN.busy r)
   have I4 := j4 u I3
   have hL : N + 4 + 1 < W.heap.size := (Array.getElem?_eq_some_iff.1 T.ll).1
   have B4 := cel_kept B3 (grownBy_putObj' w3 (N + 4 + 1) (.loop (StoN.busy r))) (fun e => by have := Option.some.inj e; omega)
   have kb4 : Below N W (w3.putObj (N + 4 + 1) (.loop (StoN.busy r))) := below_grown (k3.mono (by omega)) (by omega) (grownBy_putObj' w3 (N + 4 + 1) (.loop (StoN.busy r))) (fun q e => by cases e; omega)
   have hz4 : W.heap.size ≤ (w3.putObj (N + 4 + 1) (.loop (StoN.busy r))).heap.size := kb4.size
   have hvl := fun g h => (T.rl.lt g h).2
   have hel := fun g h => (T.re.lt g h).2
   generalize w3.putObj (N + 4 + 1) (.loop (StoN.busy r)) = W4 at T4 I4 B4 kb4 hz4 ⊢
   clear T3 I3 j4 B3 k3 g3 s3 I T
   refine wpIn_block ?_
   refine wpIn_seq_k fun K hK => ?_
   refine GrowS.region_in 9 (fun ⟨_, _, h⟩ => h) rfl [(0, true), (1, true), (2, true), (3, true), (4, true), (5, true), (6, true), (7, true), (8, false), (9, false), (10, false)] (by kernel_rfl) (by kernel_rfl) rfl (by kernel_rfl) (by intro c a d v w h; exact h) ?_
   have kd := below_drew1 (Below.refl W4.heap.size W4)
   have T5 := T4.below kd
   have I5 := I4.below kd
   have B5 := B4.below kd
   have kb5 := kb4.trans (kd.mono (by omega))
   have hz5 : W.heap.size ≤ W4.drew.heap.size := kb5.size
   generalize W4.drew = W5 at T5 I5 B5 kb5 hz5 ⊢
   clear kd T4 I4 B4 kb4 hz4
   obtain ⟨Av, cv, rfl⟩ := own_slice T5.rl
   obtain ⟨ge, ce, rfl⟩ := own_some T5.re (by omega)
   have cb := Grow.grown (w := W5) (fun q hq => (hq.cell (p := ⟨N + 2, 0, none⟩) T5.be.lt).trans T5.be.cell)
   have cl := Grow.grown (w := W5) (fun q hq => (hq.cell (p := ⟨N, 0, none⟩) T5.bl.lt).trans T5.bl.cell)
   have cn := Grow.grown (w := W5) (fun q hq => (hq.cell (p := ⟨ge, us.length, none⟩) (T5.re.lt ge rfl).2).trans (num_at T5.re hee))
   have p0 : (us.length : Int) < es.length := by omega
   have m0 : ((us.length : Int)).toNat = us.length := by omega
   have m1 : IntKind.i64.wrap (e + s) = e + s := IntWalk.i64_in _ (by unfold I64 at hfit; omega)
   (try simp only [Act.put, List.setIfInBounds_toArray, List.set_cons_succ, List.set_cons_zero])
   repeat (first | (refine GrowS.reads rfl rfl ?_; go_big_quiet_step (fail); refine wpQuiet_nil ?_))
   refine GrowS.acts rfl ?_
   go_wp2_with (first | go_skip)
   have ka := StW.below_alloc W5 (.cells #[.int .i64 (e + s)] 3)
   refine ⟨ka, ?_⟩
   have T6 := T5.below ka
   have I6 := I5.below ka
   have B6 := B5.below ka
   have O6 : One (W5.alloc (.cells #[.int .i64 (e + s)] 3)) W5.heap.size (.int .i64 (e + s)) := one_new W5 _ _
   have kb6 := kb5.trans (ka.mono (by omega))
   have hz6 : W.heap.size ≤ (W5.alloc (.cells #[.int .i64 (e + s)] 3)).heap.size := kb6.size
   generalize W5.alloc (.cells #[.int .i64 (e + s)] 3) = W6 at T6 I6 B6 O6 kb6 hz6 ⊢
   have r6 : W6.ownsRow N 3 1 (.slice (some ⟨ge, 0, none⟩) (us.length + 1) ce) (us.length + 1) (StoJ.nums es) := by
     have := T6.re
     rwa [hes] at this
   rw [hes] at T6 hel
   clear T5 I5 B5 kb5 hz5 ka cb cl cn hee m1
   refine GrowS.writes (Nat.le_refl _) rfl ?_
   go_wp2_with (first | go_skip | (refine append_num rfl (.tmp 14) (.tmp 22) rfl N (.slice (some ⟨ge, 0, none⟩) (us.length + 1) ce) (us.length + 1) es rfl r6 T6.de W5.heap.size (e + s) rfl O6 (by omega) (by omega) ?_; intro v7 W7 o7 g7 e7 d7; obtain ⟨q7, c7, rfl⟩ := ownsRow_succ o7))
   have O7 : One W7 (N + 2) (.slice (some ⟨ge, 0, none⟩) (us.length + 1) ce) := one_kept T6.be g7 (fun e => (T6.ap (N + 2) (.inr e.symm)).2.1 rfl)
   refine GrowS.writes (by omega) rfl ?_
   go_wp2_with (first | go_skip | (refine CmI.wpList_store_one rfl rfl 45 _ _ rfl info_is (N + 2) rfl _ O7 (.slice (some ⟨q7, 0, none⟩) (us.length + 1 + 1) c7) rfl rfl rfl ?_; intro W8 O8 f8 g8))
   refine GrowS.ends ?_
   obtain ⟨T8, j8⟩ := T6.num (by rw [hes]; exact o7) g7 e7 d7 O8 g8
   have I8 := j8 u I6
   have hq7 : ∀ q, (Value.slice (some ⟨ge, 0, none⟩) (us.length + 1) ce).ownBlock = some q → N ≤ q := fun q hq => (r6.lt q hq).1
   have B8 := cel_kept (cel_kept B6 g7 (fun e => by have := hel _ e.symm; omega)) g8 (fun e => by have := Option.some.inj e; omega)
   have kb7 := below_grown kb6 (by omega) g7 hq7
   have kb8 := below_grown kb7 (by have := kb7.size; omega) g8 (fun q e => by cases e; omega)
   have hz8 : W.heap.size ≤ W8.heap.size := kb8.size
   clear T6 I6 B6 O6 kb6 hz6 r6 g7 o7 e7 d7 O7 O8 f8 g8 j8 kb7 hq7 hel
   go_wp2_with (first | go_skip)
   refine StoB.region_in (fun ⟨_, _, h⟩ => h) rfl ?_
   have cl := T8.bl.cell
   have hul : us.length ≤ 100000000 := by omega
   go_wp2_with (first | go_skip | (refine Cel.wpList_load_box CE rfl _ rfl _ rfl u B8 ?_) | (refine DhB.build_com rfl _ rfl u rfl ?_; intro W9 X9 k9; have T9 := T8.below k9; have I9 := I8.below k9; have kb9 := kb8.trans (k9.mono (by omega)); have hz9 : N ≤ W9.heap.size := (by have := kb9.size; omega); clear T8 I8 B8 kb8 hz8 k9 cl) | (refine append_dry KE dry_com rfl (.tmp 24) (.tmp 26) rfl N (.slice Av us.length cv) us.length us rfl T9.rl T9.dl W8.heap.size u rfl X9 hul hz9 ?_; intro v10 W10 o10 g10 e10 d10; obtain ⟨q10, c10, rfl⟩ := ownsRow_succ o10; have O10 : One W10 N (.slice Av us.length cv) := one_kept T9.bl g10 (fun e => (T9.ap N (.inl e.symm)).1 rfl)) | (refine CmI.wpList_store_one rfl rfl 35 _ _ rfl info_cs N rfl _ O10 (.slice (some ⟨q10, 0, none⟩) (us.length + 1) c10) rfl rfl rfl ?_; intro W11 O11 f11 g11))
   have T11 := T9.com I9 o10 g10 e10 d10 O11 g11
   have kb10 := below_grown kb9 hz9 g10 (fun q hq => (T9.rl.lt q hq).1)
   have kb11 := below_grown kb10 (by have := kb10.size; omega) g11 (fun q e => by cases e; omega)
   exact ⟨T11.ll, _, _, (T11.mark r).1, below_grown kb11 (by have := kb11.size; omega) (grownBy_putObj' W11 (N + 4 + 1) (.loop r)) (fun q e => by cases e; omega)⟩
 clear ra rb rt rp rs rq
 subst hl
 have hh : W1.heap[N]? = some (.cells #[.slice none 0 0] 35 (0, 0)) ∧ W1.heap[N + 1]? = some (.cells #[.int .i64 0] 3 (0, 0)) ∧ W1.heap[N + 2]? = some (.cells #[.slice (some ⟨N + 1, 0, none⟩) 1 1] 45 (0, 0)) ∧ W1.heap[N + 3]? = some (.cells #[.slice A b.length cap] 22 (0, 0)) ∧ W1.heap[N + 4]? = some (.deferred (some [])) ∧ W1.heap[N + 4 + 1]? = some (.loop r) := by
   have := six w _ _ _ _ _ _ W1 hW1 N hN
   rwa [hN] at this
 have kb : Below N w W1 := by
   rw [hW1, ← hN]
   exact (((((((Below.refl _ _).alloc (Nat.le_refl _) _).alloc (by simp) _).alloc (by simp; omega) _).alloc (by simp; omega) _).alloc (by simp; omega) _).alloc (by simp; omega) _)
 obtain ⟨o0, o1, o2, o3, o4, o5⟩ := hh
 have q := iter_ret N r hround A cap b w W1 S hm hK hN kb ⟨_, o0⟩ o1 ⟨_, o2⟩ ⟨_, o3⟩ o4 o5
 clear o0 o1 o2 o3 o4 o5 hW1 hround z4
 subst hN
 refine CallsIn.mono (show CallsIn Fence.wide 4 Tryz.prog 52 #[.func (.yield (w.heap.size + 4 + 1)) #[] #[], .pointer (some ⟨w.heap.size + 3, 0, none⟩)] W1 _ from callsIn_wide.2 q) ?_
 rintro e W2 ⟨hv, A2, cap2, ps, us, v, ve, hco, hmay, hlen, T, kb2⟩
 refine ⟨hv, T.ll, ?_⟩
 have T3 := (T.mark (StoN.over r)).1
 have hL : w.heap.size + 4 + 1 < W2.heap.size := (Array.getElem?_eq_some_iff.1 T.ll).1
 have kb3 := below_grown kb2 (by omega) (grownBy_putObj' W2 (w.heap.size + 4 + 1) (.loop (StoN.over r))) (fun q e => by cases e; omega)
 generalize W2.putObj (w.heap.size + 4 + 1) (.loop (StoN.over r)) = W3 at T3 kb3 ⊢
 clear hv T kb2 hL q kb
 have hB : ∀ y ∈ b, 0 ≤ y ∧ y ≤ 255 := S.bytes
 have hfive := readL_five hB
 obtain ⟨rs, hrs⟩ : ∃ rs, (readL b).1 = rs := ⟨_, rfl⟩
 rw [hrs] at hco hlen T3 hfive
 obtain ⟨Al, cl, rfl, SK⟩ := DgF.own_in T3.rl (fun u hu => ⟨T3.un u hu, fit_may (hmay u hu)⟩)
 have qc := StoC.closed_ret Al cl us W3 SK hmay (by omega) (hK.below kb3)
 have c4 := T3.bl.cell
 have HRS := aside hrs
 have HCO := aside hco
 have HM := aside hm
 have HMAY := aside hmay
 clear hB hrs hco hm hK hmay
 gi_wp2_with (refine ⟨trivial, ?_⟩; gi_at_call 29; refine (callsIn_wide.2 qc).mono ?_; rintro e W4 ⟨n, rfl, hbest, k4⟩)
 have hn : n ≤ us.length := by have := hbest.1; rwa [coms_len] at this
 have HBEST := aside hbest
 obtain ⟨ge, ce, rfl⟩ := own_some T3.re (by rw [endsR_len]; omega)
 rw [endsR_len] at T3
 refine StoB.of_ends (hk := fun _ _ h => h) (wpIn_wide.2 ?_)
 refine Grow.region [(0, true), (1, true), (2, true), (4, true), (5, true), (6, true), (7, true), (3, false), (8, true), (9, true)] (by kernel_rfl) (by kernel_rfl) rfl (by kernel_rfl) (StoB.ends_panic _) ?_
 have kd := below_drew1 (Below.refl W4.heap.size W4)
 have T5 := (T3.below k4).below kd
 have SK5 := (SK.below k4).below kd
 have kb5 := kb3.trans ((k4.trans (kd.mono k4.size)).mono kb3.size)
 generalize W4.drew = W5 at T5 SK5 kb5 ⊢
 clear T3 SK kb3 qc c4 k4 kd hbest
 obtain ⟨A6, c6, hqs, S6⟩ := RowP.ahead SK5.row n hn
 have hq1 : ∀ V, (Instr.sliceAt 35 (.slice Al us.length cl) none (some (.int .i64 (n : Int))) none).run Tryz.prog V = .ok (.slice A6 n c6) V := fun V => hqs V .i64
 have TK : SlK W5 A6 c6 (us.take n) := ⟨S6, fun v hv => SK5.each v (List.mem_of_mem_take hv)⟩
 have htl : (us.take n).length = n := by rw [List.length_take]; omega
 have qc := StoC.clip_ret A6 c6 (us.take n) W5 TK
 rw [htl] at qc
 have HTL := aside htl
 have r5 : W5.ownsRow w.heap.size 3 1 (.slice (some ⟨ge, 0, none⟩) (us.length + 1) ce) (us.length + 1) (StoJ.nums (endsR rs us.length)) := by
   have := T5.re
   rwa [endsR_len] at this
 have cb := Grow.grown (w := W5) (fun q hq => (hq.cell (p := ⟨w.heap.size + 2, 0, none⟩) T5.be.lt).trans T5.be.cell)
 have cl5 := Grow.grown (w := W5) (fun q hq => (hq.cell (p := ⟨w.heap.size, 0, none⟩) T5.bl.lt).trans T5.bl.cell)
 have cn := Grow.grown (w := W5) (fun q hq => (hq.cell (p := ⟨ge, n, none⟩) (r5.lt ge rfl).2).trans (num_at r5 (endsR_at rs hn)))
 have p0 : (n : Int) < ((us.length + 1 : Nat) : Int) := by omega
 have m0 : ((n : Int)).toNat = n := by omega
 clear hqs S6 TK htl SK5 r5
 (try simp only [Act.put, List.setIfInBounds_toArray, List.set_cons_succ, List.set_cons_zero])
 repeat (first | (refine Grow.reads rfl rfl ?_; go_big_quiet_step (fail); refine wpQuiet_nil ?_))
 refine Grow.acts rfl ?_
 go_wp2_with (first | go_skip)
 refine qc.mono ?_
 rintro e W6 ⟨⟨A7, c7, rfl, S7⟩, k6⟩
 have T6 := T5.below k6
 have kb6 := kb5.trans (k6.mono kb5.size)
 clear qc cb cl5 cn
 go_wp2_with (first | go_skip)
 refine ⟨k6, ?_⟩
 (try simp only [Act.put, List.setIfInBounds_toArray, List.set_cons_succ, List.set_cons_zero])
 repeat (first | (refine Grow.reads rfl rfl ?_; go_big_quiet_step (fail); refine wpQuiet_nil ?_))
 refine Grow.ends ?_
 refine ends_in ?_
 gi_wp2
 have HD : loadD hashK b = ((coms us).take n, (catL (rs.take n)).length) := by
   unfold loadD
   rw [HRS.out, loadR_best (H := hashK) (rs := rs) (n := n) (by rw [HCO.out]; exact HBEST.out), HCO.out]
 have hno : ∀ j v, W6.cell? ⟨w.heap.size + 4, j, none⟩ ≠ some v := fun j v hv => by
   have := T6.ld
   unfold World.cell? at hv
   simp [this] at hv
 have hgd := grownBy_putObj' W6 (w.heap.size + 4) (.deferred none)
 refine ⟨by simp, .inl ⟨_, _, rfl, run_takeDeferred T6.ld, ?_⟩⟩
 refine ⟨.tuple #[.slice A7 n c7, .int .i64 ((catL (rs.take n)).length : Nat)], by simp [results, Tryz.f12, go_sem], ?_⟩
 refine ⟨A7, c7, us.take n, by rw [HD, HTL.out], by rw [HD]; exact List.map_take .., ⟨slr_far S7.row hgd hno, fun v hv => ⟨in_kept (S7.each v hv).1 hgd fun g e => by cases e; exact fun j x hx => absurd hx (hno j x), (S7.each v hv).2⟩⟩, ?_⟩
 exact below_grown kb6 kb6.size hgd (fun q e => by cases e; omega)
theorem load_ret (A : Option Addr) (cap len : Nat) (b : List Int) (w : World) (S : Sl w A cap b) (hl : b.length = len) (hm : len ≤ 1000000) (hK : ShaE.KIn w) :
   Calls Tryz.prog 12 #[.slice A len cap] w (LoadOut (loadD hashK b) w) := (callsIn_wide (n := 5)).1 (load_in A cap len b w S hl hm hK)
end Go.Proofs.YtgoapaanmcmlmaaGreatDoor.StoI
namespace Go.Proofs.YtgoapaanmcmlmaaGreatDoor.StoP
set_option maxRecDepth 100000
open Go Go.Sort Go.RowKit Byt IdM IdW OpsM OpsW CmM StW CmW CmX CmY CmA DgM DgW StoM StoW LogM LogD
set_option maxRecDepth 100000 in
set_option maxHeartbeats 4000000 in
theorem open_ret (A : Option Addr) (cap len : Nat) (b : List Int) (w : World) (S : Sl w A cap b) (hl : b.length = len) (hm : len ≤ 1000000) (hK : ShaE.KIn w) :
   Calls Tryz.prog 15 #[.slice A len cap] w (Gives (openD hashK b) w) := by
 have q := StoI.load_ret A cap len b w S hl hm hK
 unfold LoadOut at q
 obtain ⟨_, _, _, _, _, hle, _⟩ := openD_is (H := hashK) S.bytes
 have hml : openD hashK b = b.take (loadD hashK b).2 := rfl
 obtain ⟨n, hn⟩ : ∃ n, (loadD hashK b).2 = n := ⟨_, rfl⟩
 obtain ⟨cs, hcs⟩ : ∃ cs, (loadD hashK b).1 = cs := ⟨_, rfl⟩
 rw [hn, hcs] at q
 rw [hn] at hml hle
 rw [hml]
 obtain ⟨A1, c1, hs1, S1, hl1⟩ := S.part 0 n (by omega) hle
 rw [List.drop_zero, Nat.sub_zero] at S1 hl1
 have hr1 := fun W => run_part_h W A len cap .i64 n (by have := S.1; omega)
 rw [hs1, Nat.sub_zero] at hr1
 have p2 : 0 ≤ (n : Int) := by omega
 have p3 : (n : Int) ≤ (cap : Int) := by have := S.1; omega
 have hn40 : n ≤ 1099511627776 := by omega
 clear hs1 hle hml hn hcs S hl hm hK
 go_enter Tryz.func15, Tryz.ntmps15
 go_wp2_with (first | go_skip)
 refine q.mono ?_
 rintro e w1 ⟨A2, c2, ps, rfl, _, _, k1⟩
 have qc := clone_ret (S1.below k1) hl1 hn40
 clear q
 go_wp2_with (first | go_skip)
 refine qc.mono ?_
 rintro e w2 ⟨A3, c3, rfl, S3, k2, far⟩
 go_wp2_with (first | go_skip)
 go_ret
 exact ⟨A3, c3, by rw [hl1]; rfl, S3, k1.trans (k2.mono k1.size), fun b off sp h => ⟨Nat.le_trans k1.size (far b off sp h).1, (far b off sp h).2⟩⟩
theorem four : StoF.Four :=
 ⟨fun A cap len b room v w S hl hm I hf K => StoK.put_ret A cap len b room v w S hl (by omega) I hf K, StoI.load_ret, open_ret, StoK.last_ret⟩
end Go.Proofs.YtgoapaanmcmlmaaGreatDoor.StoP
namespace Go.Proofs.YtgoapaanmcmlmaaGreatDoor.ShaL
set_option maxRecDepth 100000
open Go.ChangeShapes Go.WideShapes Go.ChangeAt Go.RowKit RotM ShaM ShaE
abbrev laid1 : List (String × DataW Unit) := [("anabranch/sha.constants", Rows.laid_anabranch_sha_constants)]
theorem gK : Tryz.prog.globalNamed "anabranch/sha.constants" = some 0 := by kernel_rfl
theorem tK : (Tryz.prog.globals[0]?).map (·.type) = some 153 := by kernel_rfl
theorem cells_u32 : Tryz.prog.cellsOf 134 = 1 := by kernel_rfl
theorem datum : (Rows.laid_anabranch_sha_constants : DataW Unit) = .agg ((List.range 64).map fun i => .lit (.int .u32 (u (kc i)))) := by kernel_rfl
theorem door_met (os : Os) (args : Array Value) : laidMetH Tryz.prog laid1 ((World.doorLaid Tryz.prog 14 os).forCall (fun _ _ => 0) ⟨#[], args, []⟩).memory :=
 laidMetH_of_parts3 (fuel := 8) (laidMet_of_run' 8 (by kernel_rfl) (by kernel_rfl)) (by kernel_rfl) (by kernel_rfl)
theorem of_laid {W : World} (h : laidMetH Tryz.prog laid1 W) : KIn W := by
 rw [MakeChecks.laidMetH_plain _ _ _ (by kernel_rfl)] at h
 obtain ⟨ps, ⟨g0, t0, cs0, f0, p0, q0, hg0, ht0, hv0, hd0, _⟩, _, _⟩ := h
 obtain rfl := Option.some.inj (gK.symm.trans hg0)
 obtain rfl := Option.some.inj (tK.symm.trans ht0)
 obtain ⟨xs, m, _, hx, hlen, hn, hel⟩ := DataW.trod_array Tryz.underlying153 hd0
 intro i hi
 have hc := World.var?_cell hg0 hv0 i
 have he := hel i hi
 rw [datum] at hx
 simp only [Prod.mk.injEq, DataW.agg.injEq] at hx
 obtain ⟨hx, _⟩ := hx
 have hxi := congrArg (fun l => l[i]?) hx
 have hlt : i < xs.length := by omega
 simp only [List.getElem?_map, List.getElem?_range hi, Option.map_some, List.getElem?_eq_getElem hlt, Option.some.injEq] at hxi
 rw [List.getElem?_eq_getElem hlt] at he
 obtain ⟨n, e1, e2, _⟩ := DataW.trod_int Tryz.underlying134 he
 rw [e2] at hxi
 simp only [DataW.lit.injEq, Lit.int.injEq, true_and] at hxi
 subst hxi
 rw [hc]
 rw [cells_u32, Nat.mul_one] at e1
 have e3 := congrArg (fun l => l[0]?) e1
 simpa using e3
end Go.Proofs.YtgoapaanmcmlmaaGreatDoor.ShaL
