/- EvalWins' walk, over contracts: an element that is added is there just where no commit that knows of it takes it away. No condition. -/
import Derived.Test.YtgmdhaepiclkcaaGreatDoorEaA
import Derived.Test.YtgmdhaepiclkcaaGreatDoorStLJ7
import Derived.Test.YtgmdhaepiclkcaaGreatDoorDgKJ13
import Derived.Test.YtgmdhaepiclkcaaGreatDoorMapVJ3
import Derived.Test.YtgmdhaepiclkcaaGreatDoorDhAJ2
import Derived.Test.YtgmdhaepiclkcaaGreatDoorIdOJ7
import Derived.Test.YtgmdhaepiclkcaaGreatDoorGrowJ5
namespace Go.Proofs.YtgmdhaepiclkcaaGreatDoor.EbW
set_option maxRecDepth 100000
open Go Go.Sort Go.RowKit Byt IdM IdW OpsM OpsW CmM StW CmW CmX CmY CmA DgM DgW DgR DgF DgG FrM FrN FrJ FrH FrU EaM EaN EaH EaW DhU
open Classical
def qd (c d : Com) : Bool := (d.op.kind == 3) && ((d.op.key.toList == c.op.key.toList) && (d.op.elem.toList == c.op.elem.toList))
noncomputable def hit (h : Idn) (m : List Idn) : Bool := m.any fun y => decide (y = h)
noncomputable def tk (l : List Com) (c : Com) (m : List Com) : Bool := m.any fun d => qd c d && hit (hashK c) (anc hashK l [hashK d])
def isP (c : Com) (m : List PairM.Pr) : Bool := m.any fun x => decide (x.node = c.node) && decide (x.seq = c.seq)
theorem any_take {α : Type} {l : List α} {j : Nat} {x : α} (p : α → Bool) (h : l[j]? = some x) : (l.take (j + 1)).any p = ((l.take j).any p || p x) := by
 obtain ⟨hk, e⟩ := List.getElem?_eq_some_iff.1 h
 rw [List.take_succ_eq_append_getElem hk, e, List.any_append]
 simp
theorem hit_next (f : Bool) {q : Bool} {h y : Idn} {D : List Idn} {j : Nat} (hy : D[j]? = some y) : (f || (q && hit h (D.take (j + 1)))) = ((f || (q && hit h (D.take j))) || (decide (y = h) && q)) := by
 unfold hit
 rw [any_take _ hy]
 cases f <;> cases q <;> cases decide (y = h) <;> simp
theorem hit_mem {h : Idn} {D : List Idn} : hit h D = true ↔ h ∈ D := by
 unfold hit
 rw [List.any_eq_true]
 constructor
 · rintro ⟨x, hx, e⟩
   exact of_decide_eq_true e ▸ hx
 · exact fun hx => ⟨h, hx, decide_eq_true rfl⟩
theorem qd_iff {c d : Com} : qd c d = true ↔ d.op.kind = 3 ∧ d.op.key = c.op.key ∧ d.op.elem = c.op.elem := by
 unfold qd
 rw [Bool.and_eq_true, Bool.and_eq_true, beq_iff_eq, beq_iff_eq, beq_iff_eq]
 exact ⟨fun h => ⟨h.1, Rise.toList_inj h.2.1, Rise.toList_inj h.2.2⟩, fun h => ⟨h.1, by rw [h.2.1], by rw [h.2.2]⟩⟩
theorem tk_gone {l : List Com} (C : Closed hashK l) {c : Com} (hc : c ∈ l) (h2 : c.op.kind = 2) : tk l c l = true ↔ Gone hashK l c := by
 rw [gone_anc C hc h2]
 unfold tk
 rw [List.any_eq_true]
 constructor
 · rintro ⟨d, hd, e⟩
   rw [Bool.and_eq_true] at e
   obtain ⟨h3, h4, h5⟩ := qd_iff.1 e.1
   exact ⟨d, hd, h3, h4, h5, hit_mem.1 e.2⟩
 · rintro ⟨d, hd, h3, h4, h5, h6⟩
   exact ⟨d, hd, by rw [Bool.and_eq_true]; exact ⟨qd_iff.2 ⟨h3, h4, h5⟩, hit_mem.2 h6⟩⟩
theorem is_gone {l : List Com} (C : Closed hashK l) {c : Com} (hc : c ∈ l) (h2 : c.op.kind = 2) : (isP c (evalK hashK l).p == tk l c l) = false := by
 have h1 : isP c (evalK hashK l).p = true ↔ ¬ Gone hashK l c := by
   rw [← pair_there C hc h2]
   unfold isP
   rw [List.any_eq_true]
   constructor
   · rintro ⟨x, hx, e⟩
     rw [Bool.and_eq_true] at e
     exact ⟨x, hx, of_decide_eq_true e.1, of_decide_eq_true e.2⟩
   · rintro ⟨x, hx, e1, e2⟩
     exact ⟨x, hx, by rw [Bool.and_eq_true]; exact ⟨decide_eq_true e1, decide_eq_true e2⟩⟩
 have h3 := tk_gone C hc h2
 by_cases g : Gone hashK l c
 · rw [h3.2 g, Bool.eq_false_iff.2 fun e => h1.1 e g]
   rfl
 · rw [h1.2 g, Bool.eq_false_iff.2 fun e => g (h3.1 e)]
   rfl
theorem ids_of {l : List Com} (C : Closed hashK l) : idsD l = l.map hashK := by
 unfold idsD
 rw [if_pos (closed_may C)]
set_option maxRecDepth 100000 in
set_option maxHeartbeats 32000000 in
theorem walk (E : Two) (X : DhA.KnownRet) (HA : EaA.AwakeRet) (a0 : Option Addr) (cap0 : Nat) (l0 : List Cv) (w : World) (S : SlK w a0 cap0 l0) (hlen : l0.length ≤ 1500000000000) (K : ShaE.KIn w) :
   Calls Tryz.prog 7 #[.slice a0 l0.length cap0] w fun e w' => e = .returned (.bool true) ∧ Below w.heap.size w w' := by
 have hmax := S.len
 have b := Below.refl w.heap.size w
 go_enter Tryz.func7, Tryz.ntmps7
 have qs := HA _ K
 go_wp2_with (first | go_skip)
 refine qs.mono ?_
 clear qs
 rintro e wx ⟨rfl, kx⟩
 replace S := S.below kx; replace K := K.below kx; replace b := b.trans (kx.mono b.size); clear kx
 go_wp2_with (first | go_skip)
 obtain ⟨f, hf⟩ : ∃ f, fewD (coms l0) 10 = f := ⟨_, rfl⟩
 have qs := DgR.few_ret a0 cap0 l0 10 _ S
 rw [hf] at qs
 refine qs.mono ?_
 clear qs
 rintro e w2 ⟨rfl, kx⟩
 replace S := S.below kx; replace K := K.below kx; replace b := b.trans (kx.mono b.size); clear kx
 obtain ⟨r, hr⟩ : ∃ r, evalC (coms l0) = r := ⟨_, rfl⟩
 obtain ⟨z, hz⟩ : ∃ z : Int, (if r.isSome = true then 0 else 1) = z := ⟨_, rfl⟩
 have qs := E.eval a0 cap0 l0 _ S hlen K
 unfold StW.New at qs
 simp only [hr, hz] at qs
 go_wp2_with (first | go_skip)
 refine qs.mono ?_
 clear qs
 rintro e wx ⟨v, rfl, hv, IV, kx⟩
 replace S := S.below kx; replace K := K.below kx; replace b := b.trans (kx.mono b.size); clear kx
 cases f with
 | false =>
   go_wp2_with (first | go_skip | (refine Cel.wpList_store_new SE rfl _ _ rfl wx _ _ rfl v _ rfl rfl rfl rfl ?_; intro wy BZ ky g4 s4))
   go_ret
   exact ⟨rfl, b.trans (ky.mono b.size)⟩
 | true =>
   obtain ⟨ho, hl⟩ := okay_few (fun v hv => (S.each v hv).2) hf
   have hl1 : l0.length ≤ 100 := by omega
   clear ho hf
   by_cases hC : Closed hashK (coms l0)
   case neg =>
     rw [evalC, if_neg hC] at hr
     subst hr
     have hz1 : z = 1 := hz.symm
     subst hz1
     go_wp2_with (first | go_skip | (refine Cel.wpList_store_new SE rfl _ _ rfl wx _ _ rfl v _ rfl rfl rfl rfl ?_; intro wy BZ ky g4 s4))
     go_ret
     exact ⟨rfl, b.trans (ky.mono b.size)⟩
   case pos =>
     rw [eval_of hC] at hr
     subst hr
     have hz1 : z = 0 := hz.symm
     subst hz1
     have hv2 : v.s = evalK hashK (coms l0) := hv
     have HV := aside hv2
     have HC := aside hC
     have HFN := aside (fine_all hC)
     clear hv hv2 hC hz
     go_wp2_with (first | go_skip | (refine Cel.wpList_store_new SE rfl _ _ rfl wx _ _ rfl v _ rfl rfl rfl rfl ?_; intro wy B ky g4 s4; clear g4 s4))
     replace S := S.below ky; replace K := K.below ky; replace IV := IV.below ky; replace b := b.trans (ky.mono b.size); clear ky
     have qs0 := DhC.ids_ret a0 cap0 l0 _ S hlen K
     rw [ids_of HC.out] at qs0
     have hil : ((coms l0).map hashK).length = l0.length := by rw [List.length_map, coms_len]
     obtain ⟨ids, hids⟩ : ∃ m, (coms l0).map hashK = m := ⟨_, rfl⟩
     rw [hids] at qs0 hil
     unfold NewD at qs0
     have HI := aside hids
     clear hids
     refine qs0.mono ?_
     clear qs0
     rintro e wx2 ⟨A7, c7, rfl, T, kx⟩
     replace S := S.below kx; replace K := K.below kx; replace IV := IV.below kx; replace B := B.below kx; replace b := b.trans (kx.mono b.size); clear kx
     rw [hil]
     have HIL := aside hil
     clear hil
     go_wp2_with (first | go_skip)
     have b0 := Below.refl wx2.heap.size wx2
     obtain ⟨g0, hg0⟩ : ∃ g, wx.heap.size = g := ⟨_, rfl⟩
     rw [hg0] at B ⊢
     clear hg0
     have IP := IV.p
     have HC2 := aside (fun (W : World) (k : Below wx2.heap.size wx2 W) => (box_cells (B.below k)).2.2)
     have HPS := aside (show v.s.p = (evalK hashK (coms l0)).p by rw [HV.out])
     obtain ⟨A2, hA2⟩ : ∃ A, v.a2 = A := ⟨_, rfl⟩
     obtain ⟨K2, hK2⟩ : ∃ A, v.k2 = A := ⟨_, rfl⟩
     obtain ⟨ps, hps⟩ : ∃ A, v.s.p = A := ⟨_, rfl⟩
     rw [hA2, hK2, hps] at HC2
     rw [hA2, hK2, hps] at IP
     rw [hps] at HPS
     clear hA2 hK2 hps
     have hmaxp : ps.length ≤ 9223372036854775807 := by have := IP.1; have := IP.2.1; unfold maxLen at this; omega
     go_loopw [8] (fun i wr => ∃ k : Nat, k ≤ l0.length ∧ i = .int .i64 k ∧ Below wx2.heap.size wx2 wr) (fun i _ => l0.length - (intOf i).toNat)
     case atStart => exact ⟨0, Nat.zero_le _, rfl, b0⟩
     case round =>
       clear b0
       obtain ⟨i, hi, rfl, kb⟩ := hrel
       rename World => wr
       by_cases hlt : i < l0.length
       · obtain ⟨bb, off, rfl, hbw, hrg⟩ := S.plain (by omega)
         obtain ⟨x, hx⟩ : ∃ x, l0[i]? = some x := ⟨_, List.getElem?_eq_getElem hlt⟩
         have rx := hrg i x hx
         have p0 : (i : Int) < l0.length := by omega
         have m0 : ((i : Int)).toNat = i := by omega
         have HX := aside (coms_at hx)
         have c4 : wr.cell? ⟨bb, off + i * 8 + 4, none⟩ = some (.int .i64 x.c.op.kind) := RowS.range_below rx kb 4 _ rfl
         clear hx
         by_cases h2 : x.c.op.kind = 2
         case neg =>
           have z1 : (x.c.op.kind != 2) = true := by simpa using h2
           go_wp2_with (first | go_skip)
           go_roundw
           case rel => exact ⟨i + 1, by omega, by go_num, kb⟩
           case measure => simp [intOf]; omega
         case pos =>
           rw [h2] at c4
           have HK2 := aside h2
           clear h2
           go_wp2_with (first | go_skip)
           clear c4
           go_loopw [9, 10] (fun f k wq => ∃ j : Nat, j ≤ l0.length ∧ k = .int .i64 j ∧ f = .bool (tk (coms l0) x.c ((coms l0).take j)) ∧ Below wx2.heap.size wx2 wq) (fun _ k _ => l0.length - (intOf k).toNat)
           case atStart => exact ⟨0, Nat.zero_le _, rfl, rfl, kb⟩
           case round =>
             clear kb
             obtain ⟨k, hk, rfl, rfl, kq⟩ := hrel
             rename World => wq
             by_cases hkl : k < l0.length
             case neg =>
               obtain rfl : k = l0.length := by omega
               have hgn := is_gone HC.out (List.mem_of_getElem? HX.out) HK2.out
               rw [← HPS.out] at hgn
               have HGN := aside hgn
               clear hgn
               have htt : (coms l0).take l0.length = coms l0 := by rw [← coms_len l0, List.take_length]
               rw [htt]
               clear htt
               obtain ⟨f, hf⟩ : ∃ f, tk (coms l0) x.c (coms l0) = f := ⟨_, rfl⟩
               rw [hf] at HGN ⊢
               clear hf
               go_wp2_with (first | go_skip)
               go_loopw [13, 14] (fun s k wp => ∃ j : Nat, j ≤ ps.length ∧ k = .int .i64 j ∧ s = .bool (isP x.c (ps.take j)) ∧ Below wx2.heap.size wx2 wp) (fun _ k _ => ps.length - (intOf k).toNat)
               case atStart => exact ⟨0, Nat.zero_le _, rfl, rfl, kq⟩
               case round =>
                 clear kq
                 obtain ⟨j, hj, rfl, rfl, kp⟩ := hrel
                 rename World => wp
                 have c2 := HC2.out wp kp
                 by_cases hjl : j < ps.length
                 case pos =>
                   obtain ⟨pb, po, rfl, hpw, hr⟩ := IP.plain (by omega)
                   obtain ⟨y, hy⟩ : ∃ y, ps[j]? = some y := ⟨_, List.getElem?_eq_getElem hjl⟩
                   have ry := RowS.range_below (hr j y hy) kp
                   have q0 : (j : Int) < ps.length := by omega
                   have n0 : ((j : Int)).toNat = j := by omega
                   have rx := RowS.range_below rx kp
                   have d2 : wp.cell? ⟨pb, po + j * 4 + 2, none⟩ = some (.int .i64 y.node) := ry 2 _ rfl
                   have d3 : wp.cell? ⟨pb, po + j * 4 + 3, none⟩ = some (.int .i64 y.seq) := ry 3 _ rfl
                   have e0 : wp.cell? ⟨bb, off + i * 8, none⟩ = some (.int .i64 x.c.node) := rx 0 _ rfl
                   have e1 : wp.cell? ⟨bb, off + i * 8 + 1, none⟩ = some (.int .i64 x.c.seq) := rx 1 _ rfl
                   have htk : isP x.c (ps.take (j + 1)) = (isP x.c (ps.take j) || (decide (y.node = x.c.node) && decide (y.seq = x.c.seq))) := any_take _ hy
                   have heq := fun W => PairS.equal_ev 9998 W y.node y.seq x.c.node x.c.seq
                   obtain ⟨t1, ht1⟩ : ∃ z, (decide (y.node = x.c.node) && decide (y.seq = x.c.seq)) = z := ⟨_, rfl⟩
                   rw [ht1] at htk
                   simp only [ht1] at heq
                   have HTK := aside htk
                   clear htk ht1 hr hy ry rx
                   obtain ⟨s, hs⟩ : ∃ s, isP x.c (ps.take j) = s := ⟨_, rfl⟩
                   rw [hs] at HTK ⊢
                   clear hs
                   cases s <;> cases t1
                   all_goals
                     go_wp2_with (first | go_skip)
                     go_quiet (fail)
                     go_wp2_with (first | go_skip)
                     go_roundw
                     case rel => exact ⟨j + 1, by omega, by go_num, by rw [HTK.out]; rfl, below_drew kp _⟩
                     case measure => simp [intOf]; omega
                 case neg =>
                   obtain rfl : j = ps.length := by omega
                   rw [List.take_length]
                   have hgn := HGN.out
                   obtain ⟨s, hs⟩ : ∃ s, isP x.c ps = s := ⟨_, rfl⟩
                   rw [hs] at hgn ⊢
                   clear hs
                   go_wp2_with (first | go_skip)
                   go_roundw
                   case rel => exact ⟨i + 1, by omega, by go_num, kp⟩
                   case measure => simp [intOf]; omega
             case pos =>
               obtain ⟨d, hd⟩ : ∃ d, l0[k]? = some d := ⟨_, List.getElem?_eq_getElem hkl⟩
               have rd := hrg k d hd
               have HTK := aside (any_take (fun z => qd x.c z && hit (hashK x.c) (anc hashK (coms l0) [hashK z])) (coms_at hd))
               have hki : ids[k]? = some (hashK d.c) := by rw [← HI.out, List.getElem?_map, coms_at hd]; rfl
               have hii : ids[i]? = some (hashK x.c) := by rw [← HI.out, List.getElem?_map, HX.out]; rfl
               have hw1 : IntKind.i64.wrap ((k : Int) + 1) = ((k + 1 : Nat) : Int) := by rw [IntKind.wrap_i64]; omega
               have q0 : (k : Int) < l0.length := by omega
               have n0 : ((k : Int)).toNat = k := by omega
               have T1 := T.below kq
               obtain ⟨sA, sc, es, P3, hpl⟩ := IdX.SlI.part T1 k (k + 1) (by omega) (by rw [HIL.out]; omega)
               have hdt : (ids.drop k).take (k + 1 - k) = [hashK d.c] := by
                 obtain ⟨hk2, e2⟩ := List.getElem?_eq_some_iff.1 hki
                 rw [show k + 1 - k = 1 by omega, List.drop_eq_getElem_cons hk2, List.take_succ_cons, List.take_zero, e2]
               rw [hdt] at P3
               have hsl : ∀ V, (Instr.sliceAt 23 (.slice A7 l0.length c7) (some (.int .i64 (k : Int))) (some (.int .i64 ((k : Int) + 1))) none).run Tryz.prog V = .ok (.slice sA 1 sc) V := fun V' => by
                 have := DhU.run_part_lh V' A7 l0.length c7 .i64 .i64 k (k + 1) (by omega) (by have := T1.1; rw [HIL.out] at this; omega)
                 rw [es, show k + 1 - k = 1 by omega] at this
                 exact this
               have qs := DhA.anc_ret X _ sA cap0 sc l0 [hashK d.c] _ (S.below kq) P3 (by omega) (K.below kq)
               rw [ancC, if_pos HC.out] at qs
               unfold NewD at qs
               obtain ⟨D, hD⟩ : ∃ D, anc hashK (coms l0) [hashK d.c] = D := ⟨_, rfl⟩
               rw [hD] at qs
               simp only [hD] at HTK
               obtain ⟨t0, ht0⟩ : ∃ z, tk (coms l0) x.c ((coms l0).take k) = z := ⟨_, rfl⟩
               have HT2 : Hid (tk (coms l0) x.c ((coms l0).take (k + 1)) = (t0 || (qd x.c d.c && hit (hashK x.c) D))) := aside (by rw [← ht0]; unfold tk; exact HTK.out)
               rw [ht0]
               clear ht0 hD HTK hd hki hdt es P3 hpl
               have qs : Calls Tryz.prog 26 #[.slice (some ⟨bb, off, none⟩) l0.length cap0, .slice sA 1 sc] _ _ := qs
               go_wp2_with (first | go_skip)
               refine qs.mono ?_
               clear qs hsl
               rintro e w5 ⟨A8, c8, rfl, Z, kx⟩
               have k5 := kq.trans (kx.mono kq.size)
               clear kx
               have hmaxd : D.length ≤ 9223372036854775807 := by have := Z.1; have := Z.2.1; unfold maxLen at this; omega
               go_wp2_with (first | go_skip)
               obtain ⟨h, hh⟩ : ∃ h, hashK x.c = h := ⟨_, rfl⟩
               rw [hh] at HT2 hii
               clear hh
               have b5 := Below.refl w5.heap.size w5
               go_loopw [9, 12] (fun f j wl => ∃ n : Nat, n ≤ D.length ∧ j = .int .i64 n ∧ f = .bool (t0 || (qd x.c d.c && hit h (D.take n))) ∧ Below w5.heap.size w5 wl) (fun _ j _ => D.length - (intOf j).toNat)
               case atStart => exact ⟨0, Nat.zero_le _, rfl, by simp [hit], b5⟩
               case round =>
                 clear b5
                 obtain ⟨n, hn, rfl, rfl, kl⟩ := hrel
                 rename World => wl
                 by_cases hnl : n < D.length
                 case neg =>
                   obtain rfl : n = D.length := by omega
                   rw [List.take_length]
                   rw [← HT2.out]
                   go_wp2_with (first | go_skip)
                   go_roundw
                   case rel => exact ⟨k + 1, by omega, by go_num, rfl, k5.trans (kl.mono k5.size)⟩
                   case measure => simp [intOf]; omega
                 case pos =>
                   have k6 := k5.trans (kl.mono k5.size)
                   obtain ⟨ba, oa, rfl, _, hra⟩ := SlI.plain Z (by omega)
                   obtain ⟨y, hy⟩ : ∃ y, D[n]? = some y := ⟨_, List.getElem?_eq_getElem hnl⟩
                   have ra := IdW.range_below (hra n hnl) kl
                   rw [show D.getD n nought = y by rw [List.getD_eq_getElem?_getD, hy]; rfl] at ra
                   obtain ⟨bi, oi, rfl, _, hri⟩ := SlI.plain T (by rw [HIL.out]; omega)
                   have ri := IdW.range_below (hri i (by rw [HIL.out]; omega)) k6
                   rw [show ids.getD i nought = h by rw [List.getD_eq_getElem?_getD, hii]; rfl] at ri
                   have HNX := aside (hit_next t0 (q := qd x.c d.c) (h := h) hy)
                   clear hra hri hy
                   have r0 : (n : Int) < D.length := by omega
                   have s0 : ((n : Int)).toNat = n := by omega
                   have rd := RowS.range_below rd k6
                   have rx := RowS.range_below rx k6
                   have HHQ := aside (fun W => IdW.equal W 9998 y h)
                   obtain ⟨F, hF⟩ : ∃ z, (t0 || (qd x.c d.c && hit h (D.take n))) = z := ⟨_, rfl⟩
                   rw [hF] at HNX ⊢
                   clear hF
                   have hq : qd x.c d.c = ((d.c.op.kind == 3) && ((d.c.op.key.toList == x.c.op.key.toList) && (d.c.op.elem.toList == x.c.op.elem.toList))) := rfl
                   obtain ⟨t1, z1⟩ : ∃ z, decide (y = h) = z := ⟨_, rfl⟩
                   obtain ⟨t2, z2⟩ : ∃ z, (d.c.op.kind == 3) = z := ⟨_, rfl⟩
                   obtain ⟨t3, z3⟩ : ∃ z, (d.c.op.key.toList == x.c.op.key.toList) = z := ⟨_, rfl⟩
                   obtain ⟨t4, z4⟩ : ∃ z, (d.c.op.elem.toList == x.c.op.elem.toList) = z := ⟨_, rfl⟩
                   rw [z2, z3, z4] at hq
                   have hnx := HNX.out
                   rw [z1, hq] at hnx
                   have HN := aside hnx
                   have heq := HHQ.out
                   simp only [z1] at heq
                   have HQD := aside hq
                   clear hnx hq HNX HHQ z1
                   go_wp2_with (first | go_skip)
                   refine Grow.region [(0, true), (1, true), (2, true), (3, true), (4, true), (5, true), (6, true), (7, true), (8, true), (9, true), (10, true), (11, true), (12, true), (13, true), (14, true), (15, true), (16, true), (17, true), (18, true), (19, true), (20, true), (21, true), (22, true), (23, true), (24, true), (25, true), (26, true), (27, true), (28, true), (29, true), (30, true), (31, true), (32, true), (33, true), (34, true), (35, true), (36, true), (37, true), (38, true), (39, true), (40, true), (41, true), (42, true), (43, true), (44, true), (45, true), (46, true), (47, true), (48, true), (49, true), (50, true), (51, true)] (by kernel_rfl) (by kernel_rfl) rfl (by kernel_rfl) (by intro c a d v w h; cases d <;> exact h) ?_
                   have kx := below_drew1 (Below.refl wl.heap.size wl)
                   have ra := IdW.range_below ra kx
                   have ri := IdW.range_below ri kx
                   have rd := RowS.range_below rd kx
                   have rx := RowS.range_below rx kx
                   replace kl := kl.trans (kx.mono kl.size); clear k6 kx
                   generalize wl.drew = wz at ra ri rd rx kl ⊢
                   have f4 : ∀ dd os, (grow (redrawn wz dd) os).cell? ⟨bb, off + k * 8 + 4, none⟩ = some (.int .i64 d.c.op.kind) := Grow.grown (w := wz) (fun u hu => RowS.range_below rd hu 4 _ rfl)
                   have f5 : ∀ dd os, (grow (redrawn wz dd) os).cell? ⟨bb, off + k * 8 + 5, none⟩ = some (.string d.c.op.key) := Grow.grown (w := wz) (fun u hu => RowS.range_below rd hu 5 _ rfl)
                   have f6 : ∀ dd os, (grow (redrawn wz dd) os).cell? ⟨bb, off + k * 8 + 6, none⟩ = some (.string d.c.op.elem) := Grow.grown (w := wz) (fun u hu => RowS.range_below rd hu 6 _ rfl)
                   have g5 : ∀ dd os, (grow (redrawn wz dd) os).cell? ⟨bb, off + i * 8 + 5, none⟩ = some (.string x.c.op.key) := Grow.grown (w := wz) (fun u hu => RowS.range_below rx hu 5 _ rfl)
                   have g6 : ∀ dd os, (grow (redrawn wz dd) os).cell? ⟨bb, off + i * 8 + 6, none⟩ = some (.string x.c.op.elem) := Grow.grown (w := wz) (fun u hu => RowS.range_below rx hu 6 _ rfl)
                   clear rd rx
                   have hw : F = true ∨ (F = false ∧ t1 = false) ∨ (F = false ∧ t1 = true ∧ t2 = false) ∨ (F = false ∧ t1 = true ∧ t2 = true ∧ t3 = false) ∨ (F = false ∧ t1 = true ∧ t2 = true ∧ t3 = true) := by cases F <;> cases t1 <;> cases t2 <;> cases t3 <;> simp
                   rcases hw with rfl | ⟨rfl, rfl⟩ | ⟨rfl, rfl, rfl⟩ | ⟨rfl, rfl, rfl, rfl⟩ | ⟨rfl, rfl, rfl, rfl⟩
                   all_goals
                     repeat (first | (refine IdV.reads_id rfl rfl _ rfl _ _ rfl y ra ?_; simp only [Act.put, List.setIfInBounds_toArray, List.set_cons_succ, List.set_cons_zero]) | (refine IdV.reads_id rfl rfl _ rfl _ _ rfl h ri ?_; simp only [Act.put, List.setIfInBounds_toArray, List.set_cons_succ, List.set_cons_zero]) | (refine Grow.reads rfl rfl ?_; go_big_quiet_want; refine CmA.quiet_id _ rfl _ _ rfl y ra ?_; go_big_quiet_on; refine wpQuiet_nil ?_; (try simp only [Act.put, List.setIfInBounds_toArray, List.set_cons_succ, List.set_cons_zero])) | (refine Grow.reads rfl rfl ?_; go_big_quiet_want; refine CmA.quiet_id _ rfl _ _ rfl h ri ?_; go_big_quiet_on; refine wpQuiet_nil ?_; (try simp only [Act.put, List.setIfInBounds_toArray, List.set_cons_succ, List.set_cons_zero])) | (refine Grow.reads rfl rfl ?_; go_big_quiet_step (fail); refine wpQuiet_nil ?_))
                     refine Grow.ends ?_
                     go_wp2_with (first | go_skip)
                     go_roundw
                     case rel => exact ⟨n + 1, by omega, by go_num, by rw [HQD.out, HN.out]; simp, kl⟩
                     case measure => simp [intOf]; omega
       · obtain rfl : i = l0.length := by omega
         go_wp2_with (first | go_skip)
         go_ret
         exact ⟨rfl, b.trans (kb.mono b.size)⟩
end Go.Proofs.YtgmdhaepiclkcaaGreatDoor.EbW
