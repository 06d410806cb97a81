/- DagKnows' walk, over the six functions' contracts: what a commit knows is what its parents know, and they; it does not know itself, nor one of a greater generation. No condition. -/
import Derived.Test.YtechkdhehipliaaDoorDgAJ4
import Derived.Test.YtechkdhehipliaaDoorIdTJ2
import Derived.Test.YtechkdhehipliaaDoorDgRJ7
namespace Go.Proofs.YtechkdhehipliaaDoor.DhX
set_option maxRecDepth 100000
open Go Go.Sort Go.RowKit Byt IdM IdW OpsM OpsW CmM StW CmW CmX CmY CmA DgM DgW DgR DgF DgG DgS DgJ DgE DgH DgB DgV DhW DhU
open Classical

theorem anc_of {l : List Com} (C : Closed hashK l) (a : List Idn) : ancC l a = anc hashK l a := by rw [ancC, if_pos C]
theorem find_known {l : List Com} (C : Closed hashK l) {a : Idn} (h : a ∈ l.map hashK) : ∃ d, findC l a = some d ∧ gAt hashK l a = d.gen := by
  obtain ⟨d, hd, rfl⟩ := List.mem_map.1 h
  exact ⟨d, find_own C hd, gAt_of C.nodup hd⟩
set_option maxRecDepth 100000 in
set_option maxHeartbeats 32000000 in
theorem walk (X : Six) (HB : BothRet) (a0 : Option Addr) (cap0 : Nat) (l0 : List Cv) (i0 : Int) (w : World) (S : SlK w a0 cap0 l0) (K : ShaE.KIn w) :
    Calls Tryd.prog 5 #[.slice a0 l0.length cap0, .int .i64 i0] w fun e w' => e = .returned (.bool true) ∧ Below w.heap.size w w' := by
  have hmax := S.len
  have b := Below.refl w.heap.size w
  go_enter Tryd.func5, Tryd.ntmps5
  have qs := awake X _ K
  go_wp2_with (first | go_skip)
  refine qs.mono ?_
  clear qs
  rintro e wx ⟨rfl, kx⟩
  have S' := S.below kx
  have K' := K.below kx
  have b' := b.trans (kx.mono b.size)
  clear S K b kx
  have S := S'
  have K := K'
  have b := b'
  clear S' K' b'
  go_wp2_with (first | go_skip)
  obtain ⟨f, hf⟩ : ∃ f, fewD (coms l0) 10 = f := ⟨_, rfl⟩
  have qs := DgR.few_ret a0 cap0 l0 10 _ S
  rw [hf] at qs
  refine qs.mono ?_
  clear qs
  rintro e w2 ⟨rfl, kx⟩
  have S' := S.below kx
  have K' := K.below kx
  have b' := b.trans (kx.mono b.size)
  clear S K b kx
  have S := S'
  have K := K'
  have b := b'
  clear S' K' b'
  cases f with
  | false =>
    go_wp2_with (first | go_skip)
    go_ret
    exact ⟨rfl, b⟩
  | true =>
    obtain ⟨ho, hl⟩ := okay_few (fun v hv => (S.each v hv).2) hf
    have hl2 : l0.length ≤ 1000 := by omega
    have HO := aside ho
    clear ho hf
    have qs0 := X.closed a0 cap0 l0 _ S HO.out hl2 K
    by_cases hC : Closed hashK (coms l0)
    case neg =>
      rw [decide_eq_false hC] at qs0
      go_wp2_with (first | go_skip)
      refine qs0.mono ?_
      rintro e wx ⟨rfl, kx⟩
      clear qs0
      go_wp2_with (first | go_skip)
      go_ret
      exact ⟨rfl, b.trans (kx.mono b.size)⟩
    case pos =>
      rw [decide_eq_true hC] at qs0
      have HC := aside hC
      clear hC
      have qs := qs0
      go_wp2_with (first | go_skip)
      refine qs.mono ?_
      clear qs
      rintro e wx ⟨rfl, kx⟩
      clear qs0
      have S' := S.below kx
      have K' := K.below kx
      have b' := b.trans (kx.mono b.size)
      clear S K b kx
      have S := S'
      have K := K'
      have b := b'
      clear S' K' b'
      have hi : i0 < 0 ∨ (¬ i0 < 0 ∧ (l0.length : Int) ≤ i0) ∨ (¬ i0 < 0 ∧ ¬ (l0.length : Int) ≤ i0) := by omega
      rcases hi with p0 | ⟨p0, p1⟩ | ⟨p0, p1⟩
      case inl =>
        go_wp2_with (first | go_skip)
        go_ret
        exact ⟨rfl, b⟩
      case inr.inl =>
        go_wp2_with (first | go_skip)
        go_ret
        exact ⟨rfl, b⟩
      case inr.inr =>
        obtain ⟨i, rfl⟩ : ∃ i : Nat, i0 = i := ⟨i0.toNat, by omega⟩
        have hl5 : l0.length ≤ 500 := by omega
        have hlt : i < l0.length := by omega
        have p2 : (i : Int) < l0.length := by omega
        have m0 : ((i : Int)).toNat = i := by omega
        have hw1 : IntKind.i64.wrap ((i : Int) + 1) = ((i + 1 : Nat) : Int) := by rw [IntKind.wrap_i64]; omega
        obtain ⟨all, hal⟩ : ∃ all, (coms l0).map hashK = all := ⟨_, rfl⟩
        have hlen : all.length = l0.length := by rw [← hal, List.length_map, coms_len]
        have HAL := aside hal
        have HLEN := aside hlen
        have hid := all_ids HC.out
        rw [hal] at hid
        have qs0 := X.ids a0 cap0 l0 _ S HO.out hl2 K
        rw [hid] at qs0
        obtain ⟨x, hx⟩ : ∃ x, l0[i]? = some x := ⟨_, List.getElem?_eq_getElem hlt⟩
        have hxm := List.mem_of_getElem? hx
        have hxc : x.c ∈ coms l0 := List.mem_map_of_mem hxm
        have hnn : all[i]? = some (hashK x.c) := by rw [← hal, List.getElem?_map, coms_at hx]; rfl
        have hps : x.c.ps.length ≤ 8 := (lineB_iff.1 (mayK_iff.1 (HC.out.may _ hxc)).1).2.2.1
        have hone := anc_one HC.out hxc
        have hnb := not_below HC.out hxc
        have hbg := fun y => below_gen (x := y) HC.out hxc
        have HNN := aside hnn
        have HONE := aside hone
        have HNB := aside hnb
        have HBG := aside hbg
        have HX := aside hx
        have HXM := aside hxm
        clear hal hlen hid hnn hone hnb hbg hx hxm hxc hl
        have qs := qs0
        go_wp2_with (first | go_skip)
        refine qs.mono ?_
        clear qs
        rintro e wx ⟨A3, c3', rfl, V, kx⟩
        clear qs0
        have S' := S.below kx
        have K' := K.below kx
        have b' := b.trans (kx.mono b.size)
        clear S K b kx
        have S := S'
        have K := K'
        have b := b'
        clear S' K' b'
        obtain ⟨bb, off, rfl, _, hrg⟩ := S.plain (by omega)
        have rx := hrg i x HX.out
        have cps := DgK.cell_ps_at rx
        obtain ⟨ps, hpse⟩ : ∃ ps, x.c.ps = ps := ⟨_, rfl⟩
        obtain ⟨ap, hap⟩ : ∃ ap, x.a = ap := ⟨_, rfl⟩
        obtain ⟨kp, hkp⟩ : ∃ kp, x.k = kp := ⟨_, rfl⟩
        have IX := (S.each x HXM.out).1
        unfold CmW.In at IX
        rw [hpse, hap, hkp] at cps IX
        rw [hpse] at hps
        have HPS := aside hpse
        have qs0 := X.anc (some ⟨bb, off, none⟩) ap cap0 kp l0 ps _ S IX HO.out hl2 (by omega) K
        rw [anc_of HC.out] at qs0
        obtain ⟨B, hB⟩ : ∃ B, anc hashK (coms l0) ps = B := ⟨_, rfl⟩
        rw [hB] at qs0
        have HBB := aside hB
        clear hrg hpse hap hkp hB
        have qs := qs0
        go_wp2_with (first | go_skip)
        refine qs.mono ?_
        clear qs
        rintro e wx ⟨A4, c4', rfl, U, kx⟩
        clear qs0 cps IX
        have S' := S.below kx
        have K' := K.below kx
        have V' := V.below kx
        have b' := b.trans (kx.mono b.size)
        clear S K V b kx
        have S := S'
        have K := K'
        have V := V'
        have b := b'
        clear S' K' V' b'
        have hBl : B.length ≤ 500 := by
          have h1 : B.length = (DgM.part hashK (coms l0) (· ∈ anc hashK (coms l0) ps)).length := by rw [part_len HC.out, HBB.out]
          rw [h1]
          have h2 := List.length_filter_le (fun c => decide (hashK c ∈ anc hashK (coms l0) ps)) (coms l0)
          unfold DgM.part
          rw [coms_len] at h2
          refine Nat.le_trans ?_ (Nat.le_trans h2 (by omega))
          exact Nat.le_of_eq (congrArg List.length (List.filter_congr fun c _ => decide_eq_decide.2 Iff.rfl))
        obtain ⟨h, hh⟩ : ∃ h, hashK x.c = h := ⟨_, rfl⟩
        have HH := aside hh
        have hone : anc hashK (coms l0) [h] = both B [h] := by rw [← HH.out, HONE.out, HPS.out, HBB.out]
        have HON := aside hone
        clear hone hh
        obtain ⟨sA, sc, es, P3, hpl⟩ := IdX.SlI.part V i (i + 1) (by omega) (by rw [HLEN.out]; omega)
        have hdt : (all.drop i).take (i + 1 - i) = [h] := by
          rw [show i + 1 - i = 1 by omega]
          have := HNN.out
          rw [HH.out] at this
          rw [List.drop_eq_getElem_cons (by rw [HLEN.out]; exact hlt), List.take_succ_cons, List.take_zero]
          congr 1
          exact (List.getElem?_eq_some_iff.1 this).2
        rw [hdt] at P3
        have hsl : ∀ V, (Instr.sliceAt 29 (.slice A3 all.length c3') (some (.int .i64 (i : Int))) (some (.int .i64 ((i : Int) + 1))) none).run Tryd.prog V = .ok (.slice sA 1 sc) V := fun V' => by
          have := DhU.run_part_lh V' A3 all.length c3' .i64 .i64 i (i + 1) (by omega) (by have := V.1; have := HLEN.out; omega)
          rw [es, show i + 1 - i = 1 by omega] at this
          exact this
        have Q := P3
        clear hdt es P3 hpl
        go_wp2_with (first | go_skip)
        refine Grow.region [(0, true), (1, true), (2, true), (3, true), (4, true), (5, true), (7, true), (8, true), (9, true), (10, true), (11, true), (12, true), (6, false), (13, false), (14, false), (15, true)] (by kernel_rfl) (by kernel_rfl) rfl (by kernel_rfl) (by intro c a d v w h; cases d <;> exact h) ?_
        have kx := below_drew1 (Below.refl wx.heap.size wx)
        have S' := S.below kx
        have K' := K.below kx
        have V' := V.below kx
        have U' := U.below kx
        have Q' := Q.below kx
        have b' := b.trans (kx.mono b.size)
        clear S K V U Q b kx
        have S := S'
        have K := K'
        have V := V'
        have U := U'
        have Q := Q'
        have b := b'
        clear S' K' V' U' Q' b'
        generalize wx.drew = wz at S K V U Q b ⊢
        repeat (refine Grow.reads rfl rfl ?_; go_big_quiet_step (fail); refine wpQuiet_nil ?_)
        refine Grow.acts rfl ?_
        have qs := X.anc (some ⟨bb, off, none⟩) sA cap0 sc l0 [h] _ S Q HO.out hl2 (by simp) K
        rw [anc_of HC.out, HON.out] at qs
        obtain ⟨D, hD⟩ : ∃ D, both B [h] = D := ⟨_, rfl⟩
        rw [hD] at qs
        have qs : Calls Tryd.prog 15 #[.slice (some ⟨bb, off, none⟩) l0.length cap0, .slice sA 1 sc] _ _ := qs
        go_wp2_with (first | go_skip)
        refine qs.mono ?_
        clear qs
        rintro e wx ⟨A5, c5', rfl, Y, kx⟩
        go_wp2_with (first | go_skip)
        refine ⟨kx, ?_⟩
        have S' := S.below kx
        have K' := K.below kx
        have V' := V.below kx
        have U' := U.below kx
        have Q' := Q.below kx
        have b' := b.trans (kx.mono b.size)
        clear S K V U Q b kx
        have S := S'
        have K := K'
        have V := V'
        have U := U'
        have Q := Q'
        have b := b'
        clear S' K' V' U' Q' b'
        (try simp only [Act.put, List.setIfInBounds_toArray, List.set_cons_succ, List.set_cons_zero])
        refine Grow.acts rfl ?_
        have qs0 := HB A4 sA c4' sc B [h] _ U Q hBl (by simp)
        unfold NewI at qs0
        rw [hD] at qs0
        have qs : Calls Tryd.prog 18 #[.slice A4 B.length c4', .slice sA 1 sc] _ _ := qs0
        go_wp2_with (first | go_skip)
        refine qs.mono ?_
        clear qs
        rintro e wx ⟨v6, rfl, o6, kx⟩
        go_wp2_with (first | go_skip)
        refine ⟨kx, ?_⟩
        clear qs0
        obtain ⟨A6, c6', rfl, Z⟩ := SlI.own o6
        clear o6
        have S' := S.below kx
        have K' := K.below kx
        have V' := V.below kx
        have U' := U.below kx
        have Q' := Q.below kx
        have Y' := Y.below kx
        have b' := b.trans (kx.mono b.size)
        clear S K V U Q Y b kx
        have S := S'
        have K := K'
        have V := V'
        have U := U'
        have Q := Q'
        have Y := Y'
        have b := b'
        clear S' K' V' U' Q' Y' b'
        (try simp only [Act.put, List.setIfInBounds_toArray, List.set_cons_succ, List.set_cons_zero])
        refine Grow.acts rfl ?_
        have qs := IdV.same_ret A5 A6 c5' c6' D D _ Y Z
        rw [decide_eq_true rfl] at qs
        go_wp2_with (first | go_skip)
        refine qs.mono ?_
        clear qs
        rintro e wx ⟨rfl, kx⟩
        go_wp2_with (first | go_skip)
        refine ⟨kx, ?_⟩
        clear Y Z Q hD
        have S' := S.below kx
        have K' := K.below kx
        have V' := V.below kx
        have U' := U.below kx
        have b' := b.trans (kx.mono b.size)
        clear S K V U b kx
        have S := S'
        have K := K'
        have V := V'
        have U := U'
        have b := b'
        clear S' K' V' U' b'
        (try simp only [Act.put, List.setIfInBounds_toArray, List.set_cons_succ, List.set_cons_zero])
        repeat (refine Grow.reads rfl rfl ?_; go_big_quiet_step (fail); refine wpQuiet_nil ?_)
        refine Grow.ends ?_
        obtain ⟨ba, oa, rfl, _, hra⟩ := SlI.plain V (by rw [HLEN.out]; omega)
        have ra := hra i (by rw [HLEN.out]; exact hlt)
        rw [show all.getD i nought = h by rw [List.getD_eq_getElem?_getD, HNN.out, HH.out]; rfl] at ra
        have q0 : (i : Int) < all.length := by rw [HLEN.out]; exact p2
        clear hra
        have qs := IdV.has_ret A4 c4' B h _ U
        rw [decide_eq_false (by rw [← HBB.out, ← HPS.out, ← HH.out]; exact HNB.out)] at qs
        go_wp2_with (first | go_skip | (refine CmY.gid _ rfl _ _ rfl h ra rfl ?_))
        refine qs.mono ?_
        clear qs ra
        rintro e wy ⟨rfl, kx⟩
        have S' := S.below kx
        have K' := K.below kx
        have U' := U.below kx
        have b' := b.trans (kx.mono b.size)
        clear S K U b kx
        have S := S'
        have K := K'
        have U := U'
        have b := b'
        clear S' K' U' b'
        go_wp2_with (first | go_skip)
        have b0 := Below.refl wy.heap.size wy
        go_loopw [10] (fun i wr => ∃ k : Nat, k ≤ B.length ∧ i = .int .i64 k ∧ Below wy.heap.size wy wr) (fun i _ => B.length - (intOf i).toNat)
        case atStart => exact ⟨0, Nat.zero_le _, rfl, b0⟩
        case round =>
          clear b0
          rename World => wq
          obtain ⟨k, hk, rfl, kc⟩ := hrel
          by_cases hltk : k < B.length
          case neg =>
            have pn : ¬ (k : Int) < B.length := by omega
            go_wp2_with (first | go_skip)
            go_ret
            exact ⟨rfl, b.trans (kc.mono b.size)⟩
          case pos =>
            obtain ⟨bu, ou, rfl, _, hru⟩ := SlI.plain U (by omega)
            obtain ⟨y, hy⟩ : ∃ y, B[k]? = some y := ⟨_, List.getElem?_eq_getElem hltk⟩
            have ru := IdW.range_below (hru k hltk) kc
            rw [show B.getD k nought = y by rw [List.getD_eq_getElem?_getD, hy]; rfl] at ru
            have hym : y ∈ anc hashK (coms l0) x.c.ps := by rw [HPS.out, HBB.out]; exact List.mem_of_getElem? hy
            obtain ⟨d, hfd, hgd⟩ := find_known HC.out (anc_in y hym)
            have hlt2 := HBG.out y hym
            rw [hgd] at hlt2
            obtain ⟨bs, os, hA, _, hrs⟩ := S.plain (by omega)
            cases hA
            have rx2 := range_on (hrs i x HX.out) kc
            have pk : (k : Int) < B.length := by omega
            have mk : ((k : Int)).toNat = k := by omega
            have qs := X.find (some ⟨bb, off, none⟩) cap0 l0 y _ (S.below kc) HO.out hl2 (K.below kc)
            rw [hfd] at qs
            clear hru hy hym hfd hgd hrs
            go_wp2_with (first | go_skip | (refine wpList_load_id rfl _ rfl _ _ rfl y ru ?_))
            refine qs.mono ?_
            clear qs
            rintro e w3 ⟨v, rfl, hv, IV, _, k3⟩
            have hv : v.c = d := hv
            have b3 := kc.trans (k3.mono kc.size)
            clear ru
            go_wp2_with (first | go_skip | (refine Cel.wpList_store_new CE rfl _ _ rfl w3 _ _ rfl v _ rfl rfl rfl rfl ?_; intro w4 B4 k4 g4 s4; have b4 := b3.trans (k4.mono b3.size); have rx4 := range_on rx2 (k3.trans (k4.mono k3.size)); clear g4 s4))
            have c4 := cell_gen B4
            have c5 := rx4 2 _ rfl
            obtain ⟨n, hn⟩ : ∃ n, x.c.gen = n := ⟨_, rfl⟩
            obtain ⟨m, hm⟩ : ∃ m, d.gen = m := ⟨_, rfl⟩
            rw [hv, hm] at c4
            rw [hn] at c5
            rw [hn, hm] at hlt2
            have hge : decide (n ≤ m) = false := decide_eq_false (by omega)
            clear rx4 rx2 B4 hv hn hm
            go_quiet (fail)
            go_wp2_with (first | go_skip)
            go_roundw
            case rel => exact ⟨k + 1, by omega, by go_num, below_drew b4 _⟩
            case measure => simp [intOf]; omega
end Go.Proofs.YtechkdhehipliaaDoor.DhX
