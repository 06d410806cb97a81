/- DagSorted returns true for every input: closed commits, sorted, are the same from any order of theirs, they are all of them, and each beginning of them is closed. No condition. -/
import Derived.Test.YtechkdhehipliaaDoorDgSJ4
namespace Go.Proofs.YtechkdhehipliaaDoor.DgV
set_option maxRecDepth 100000
open Go Go.Sort Go.RowKit Byt IdM IdW OpsM OpsW CmM StW CmW CmX CmY CmA DgM DgW DgR DgF DgG DgS DgJ DgE DgH DgB
open Classical

theorem okay_few {l : List Cv} {m : Int} (S : ∀ v ∈ l, Fit v.c) (h : fewD (coms l) m = true) : (∀ v ∈ l, CmR.Okay v.c) ∧ (l.length : Int) ≤ m := by
  unfold fewD at h
  rw [Bool.and_eq_true, decide_eq_true_eq, coms_len, List.all_eq_true] at h
  exact ⟨fun v hv => CmX.okay (h.2 v.c (List.mem_map_of_mem hv)) (S v hv), h.1⟩
theorem coms_rev (l : List Cv) : coms l.reverse = (coms l).reverse := by unfold coms; rw [List.map_reverse]
theorem order_nodup {m : List Com} (h : InOrder hashK m) : m.Nodup := List.Pairwise.imp (fun {a b} (hab : Ahead hashK a b) (e : a = b) => by subst e; exact ahead_asymm hab hab) h
theorem sorted_perm {l m : List Com} (C : Closed hashK l) (h : IsSorted l m) : m.Perm l ∧ InOrder hashK m := by
  unfold IsSorted at h
  rw [if_pos C] at h
  refine ⟨(List.perm_ext_iff_of_nodup (order_nodup h.1) ?_).2 h.2, h.1⟩
  exact (List.pairwise_map.1 C.nodup).imp fun {a b} hab e => hab (by rw [e])
theorem sorted_rev {l m m2 : List Com} (C : Closed hashK l) (h : IsSorted l m) (k : IsSorted l.reverse m2) : m = m2 := by
  have C2 : Closed hashK l.reverse := closed_perm C (List.reverse_perm l).symm
  unfold IsSorted at h k
  rw [if_pos C] at h
  rw [if_pos C2] at k
  exact order_uniq h.1 k.1 fun x => (h.2 x).trans (by rw [k.2 x, List.mem_reverse])
theorem ids_same {l m : List Com} (h : m.Perm l) (C : Closed hashK l) : IdM.sort (idsD m) = IdM.sort (idsD l) := by
  have C2 := closed_perm C h.symm
  unfold idsD
  rw [if_pos (closed_may C), if_pos (closed_may C2)]
  exact sort_congr fun x => (h.map hashK).mem_iff
theorem rev_next {l : List Cv} {n : Nat} {x : Cv} (h : l[n]? = some x) : (l.drop n).reverse = (l.drop (n + 1)).reverse ++ [x] := by rw [drop_at h, List.reverse_cons]
set_option maxRecDepth 100000 in
set_option maxHeartbeats 32000000 in
theorem walk (X : Six) (HS : ∀ (A : Option Addr) (cap : Nat) (l : List Idn) (w : World), SlI w A cap l → l.length ≤ 1000 → Calls Tryd.prog 12 #[.slice A l.length cap] w (NewI (IdM.sort l) w)) (a0 : Option Addr) (cap0 : Nat) (l0 : List Cv) (w : World) (S : SlK w a0 cap0 l0) (K : ShaE.KIn w) :
    Calls Tryd.prog 3 #[.slice a0 l0.length cap0] w fun e w' => e = .returned (.bool true) ∧ Below w.heap.size w w' := by
  have hmax := S.len
  have b := Below.refl w.heap.size w
  go_enter Tryd.func3, Tryd.ntmps3
  go_wp2_with (first | go_skip)
  refine (awake X _ K).mono ?_
  rintro e w1 ⟨rfl, kx⟩
  have S' := S.below kx
  have K' := K.below kx
  have b' := b.trans (kx.mono b.size)
  clear S K b  kx
  have S := S'
  have K := K'
  have b := b'
  clear S' K' b' 
  go_wp2_with (first | go_skip)
  obtain ⟨f, hf⟩ : ∃ f, fewD (coms l0) 12 = f := ⟨_, rfl⟩
  have qs := DgR.few_ret a0 cap0 l0 12 _ S
  rw [hf] at qs
  refine qs.mono ?_
  clear qs
  rintro e w2 ⟨rfl, kx⟩
  have S' := S.below kx
  have K' := K.below kx
  have b' := b.trans (kx.mono b.size)
  clear S K b  kx
  have S := S'
  have K := K'
  have b := b'
  clear S' K' b' 
  cases f with
  | false =>
    go_wp2_with (first | go_skip)
    go_ret
    exact ⟨rfl, b⟩
  | true =>
    obtain ⟨ho, hl⟩ := okay_few (fun v hv => (S.each v hv).2) hf
    have hl2 : l0.length ≤ 1000 := by omega
    have HO := aside ho
    have HR := aside (fun v (hv : v ∈ l0.reverse) => ho v (List.mem_reverse.1 hv))
    clear ho hf
    have qs0 := X.closed a0 cap0 l0 _ S HO.out hl2 K
    by_cases hC : Closed hashK (coms l0)
    case neg =>
      rw [decide_eq_false hC] at qs0
      go_wp2_with (first | go_skip)
      refine qs0.mono ?_
      rintro e wx ⟨rfl, kx⟩
      clear qs0
      go_wp2_with (first | go_skip)
      go_ret
      exact ⟨rfl, b.trans (kx.mono b.size)⟩
    case pos =>
      rw [decide_eq_true hC] at qs0
      have HC := aside hC
      clear hC
      go_wp2_with (first | go_skip)
      have qs := qs0
      refine qs.mono ?_
      clear qs
      rintro e wx ⟨rfl, kx⟩
      clear qs0
      have S' := S.below kx
      have K' := K.below kx
      have b' := b.trans (kx.mono b.size)
      clear S K b  kx
      have S := S'
      have K := K'
      have b := b'
      clear S' K' b' 
      go_wp2_with (first | go_skip)
      have qs := X.sorted a0 cap0 l0 _ S HO.out hl2 K
      refine qs.mono ?_
      clear qs
      rintro e wx ⟨m, hm, A1, c1', lA, rfl, U, hA, kx⟩
      have HM := aside hm
      have HA := aside hA
      clear hm hA
      have S' := S.below kx
      have K' := K.below kx
      have b' := b.trans (kx.mono b.size)
      clear S K b  kx
      have S := S'
      have K := K'
      have b := b'
      clear S' K' b' 
      go_wp2_with (first | go_skip)
      have b0 := Below.refl wx.heap.size wx
      go_loopw [6, 7] (fun o i wr => ∃ (n t : Nat), n ≤ l0.length ∧ t + n = l0.length ∧ i = .int .i64 ((n : Int) - 1) ∧ Hid (wr.ownsRow wx.heap.size 33 8 o t (RowS.flat KE (l0.drop n).reverse)) ∧ Below wx.heap.size wx wr) (fun _ i _ => (intOf i + 1).toNat)
      case atStart => exact ⟨l0.length, 0, Nat.le_refl _, by omega, by go_num, aside (by rw [List.drop_of_length_le (Nat.le_refl _)]; exact ⟨rfl, .inl ⟨rfl, rfl⟩⟩), b0⟩
      case round =>
        clear b0
        obtain ⟨n, t, hn, ht, rfl, HOw, kc⟩ := hrel
        by_cases hn0 : 0 < n
        · obtain ⟨bb, off, rfl, hbw, hrg⟩ := S.plain (by omega)
          obtain ⟨x, hx⟩ : ∃ x, l0[n - 1]? = some x := ⟨_, List.getElem?_eq_getElem (by omega)⟩
          have rx := range_on (hrg (n - 1) x hx) kc
          have HN := aside (rev_next hx)
          rw [show n - 1 + 1 = n by omega] at HN
          obtain ⟨xs, hxs⟩ : ∃ xs, (l0.drop n).reverse = xs := ⟨_, rfl⟩
          rw [hxs] at HOw HN
          have g0 : (0 : Int) ≤ (n : Int) - 1 := by omega
          have p1 : (n : Int) - 1 < l0.length := by omega
          have m1 : ((n : Int) - 1).toNat = n - 1 := by omega
          clear hrg hx hxs
          go_wp2_with (first | go_skip | (refine load_at rfl _ rfl _ _ rfl x rx ?_) | (refine RowC.wpList_lit1 KE (of_decide_eq_true rfl) rfl _ rfl x rfl ?_; intro w4 S4 k4; have b4 := kc.trans (k4.mono kc.size); have O4 := aside (owns_below HOw.out k4)) | (refine RowS.wpList_append KE rfl (.tmp 35) (.tmp 40) rfl wx.heap.size _ t xs rfl O4.out _ 1 1 [x] rfl rfl S4 (by omega) b4.size ?_; intro v5 w5 o5 g5))
          have b5 : Below wx.heap.size wx w5 := below_grown b4 b4.size g5 (fun q hq => (O4.out.lt q hq).1)
          go_roundw
          case rel => exact ⟨n - 1, t + 1, by omega, by omega, by go_num, aside (by rw [HN.out]; exact o5), b5⟩
          case measure => simp [intOf]; omega
        · have e0 : n = 0 := by omega
          subst e0
          have g0 : ¬ (0 : Int) ≤ ((0 : Nat) : Int) - 1 := by omega
          have HO2 := HOw.out
          rw [List.drop_zero] at HO2
          have hev : ∀ x ∈ l0.reverse, In wr x ∧ CmW.Fit x.c := fun x hx => ⟨(S.each x (List.mem_reverse.1 hx)).1.below kc, (S.each x (List.mem_reverse.1 hx)).2⟩
          have hrl : l0.reverse.length = l0.length := List.length_reverse
          have hcr := coms_rev l0
          have HR2 := HR.out
          obtain ⟨r, hr⟩ : ∃ r, l0.reverse = r := ⟨_, rfl⟩
          rw [hr] at HO2 hev hrl hcr HR2
          obtain ⟨A6, c6, rfl, R⟩ := own_in HO2 hev
          have HRL := aside hrl
          have HCR := aside hcr
          have HR3 := aside HR2
          clear HOw HO2 hev hrl hcr HR2 hr
          have S' := S.below kc
          have K' := K.below kc
          have U' := U.below kc
          have b' := b.trans (kc.mono b.size)
          clear S K b U kc
          have S := S'
          have K := K'
          have U := U'
          have b := b'
          clear S' K' b' U'
          have qs0 := X.sorted A6 c6 r _ R HR3.out (by rw [HRL.out]; exact hl2) K
          go_wp2_with (first | go_skip)
          have qs := qs0
          refine qs.mono ?_
          clear qs
          rintro e wx ⟨m2, hm2, A2, c2', lB, rfl, V, hB, kx⟩
          clear qs0
          have hmm : m = m2 := sorted_rev HC.out HM.out (by rw [← HCR.out]; exact hm2)
          clear R hm2
          have S' := S.below kx
          have K' := K.below kx
          have U' := U.below kx
          have b' := b.trans (kx.mono b.size)
          clear S K b U kx
          have S := S'
          have K := K'
          have U := U'
          have b := b'
          clear S' K' b' U'
          have qs0 := list_ret A2 A1 c2' c1' lB lA _ V U
          rw [listB_iff.2 (hB.trans (hmm.symm.trans HA.out.symm))] at qs0
          go_wp2_with (first | go_skip)
          have qs := qs0
          refine qs.mono ?_
          clear qs
          rintro e wx ⟨rfl, kx⟩
          clear qs0 V hB hmm
          have S' := S.below kx
          have K' := K.below kx
          have U' := U.below kx
          have b' := b.trans (kx.mono b.size)
          clear S K b U kx
          have S := S'
          have K := K'
          have U := U'
          have b := b'
          clear S' K' b' U'
          obtain ⟨hp, hin⟩ := sorted_perm HC.out HM.out
          have hAl : lA.length = l0.length := by rw [← coms_len, HA.out, hp.length_eq, coms_len]
          have HOA := aside (fun v (hv : v ∈ lA) => by
            have h1 : v.c ∈ coms l0 := hp.mem_iff.1 (by rw [← HA.out]; exact List.mem_map_of_mem hv)
            obtain ⟨u, hu, e⟩ := List.mem_map.1 h1
            exact (show CmR.Okay v.c by rw [← e]; exact HO.out u hu))
          have HP := aside hp
          have HIN := aside hin
          have HAL := aside hAl
          clear hp hin hAl
          have qs0 := X.ids A1 c1' lA _ U HOA.out (by rw [HAL.out]; exact hl2) K
          rw [HA.out] at qs0
          go_wp2_with (first | go_skip)
          have qs := qs0
          refine qs.mono ?_
          clear qs
          rintro e wx ⟨A3, c3', rfl, V, kx⟩
          clear qs0
          have S' := S.below kx
          have K' := K.below kx
          have U' := U.below kx
          have b' := b.trans (kx.mono b.size)
          clear S K b U kx
          have S := S'
          have K := K'
          have U := U'
          have b := b'
          clear S' K' b' U'
          have hd1 : (idsD m).length ≤ 1000 := by have h1 : (idsD m).length ≤ m.length := (by unfold idsD; split <;> simp); have h2 := HP.out.length_eq; rw [coms_len] at h2; omega
          have hd2 : (idsD (coms l0)).length ≤ 1000 := by have h1 : (idsD (coms l0)).length ≤ (coms l0).length := (by unfold idsD; split <;> simp); rw [coms_len] at h1; omega
          have qs0 := HS A3 c3' _ _ V hd1
          unfold NewI at qs0
          go_wp2_with (first | go_skip)
          have qs := qs0
          refine qs.mono ?_
          clear qs
          rintro e wx ⟨v4, rfl, o4, kx⟩
          clear qs0
          obtain ⟨A4, c4', rfl, Y⟩ := SlI.own o4
          clear o4 V
          have S' := S.below kx
          have K' := K.below kx
          have U' := U.below kx
          have b' := b.trans (kx.mono b.size)
          clear S K b U kx
          have S := S'
          have K := K'
          have U := U'
          have b := b'
          clear S' K' b' U'
          go_wp2_with (first | go_skip)
          have qs := X.ids a0 cap0 l0 _ S HO.out hl2 K
          refine qs.mono ?_
          clear qs
          rintro e wx ⟨A5, c5', rfl, V, kx⟩
          have S' := S.below kx
          have K' := K.below kx
          have U' := U.below kx
          have Y' := Y.below kx
          have b' := b.trans (kx.mono b.size)
          clear S K b U Y kx
          have S := S'
          have K := K'
          have U := U'
          have Y := Y'
          have b := b'
          clear S' K' b' U' Y'
          have qs0 := HS A5 c5' _ _ V hd2
          unfold NewI at qs0
          go_wp2_with (first | go_skip)
          have qs := qs0
          refine qs.mono ?_
          clear qs
          rintro e wx ⟨v6, rfl, o6, kx⟩
          clear qs0
          obtain ⟨A7, c7', rfl, Z⟩ := SlI.own o6
          clear o6 V
          have S' := S.below kx
          have K' := K.below kx
          have U' := U.below kx
          have Y' := Y.below kx
          have b' := b.trans (kx.mono b.size)
          clear S K b U Y kx
          have S := S'
          have K := K'
          have U := U'
          have Y := Y'
          have b := b'
          clear S' K' b' U' Y'
          have qs0 := IdV.same_ret A4 A7 c4' c7' _ _ _ Y Z
          rw [decide_eq_true (ids_same HP.out HC.out)] at qs0
          go_wp2_with (first | go_skip)
          have qs := qs0
          refine qs.mono ?_
          clear qs
          rintro e wx ⟨rfl, kx⟩
          clear qs0 Y Z
          have S' := S.below kx
          have K' := K.below kx
          have U' := U.below kx
          have b' := b.trans (kx.mono b.size)
          clear S K b U kx
          have S := S'
          have K := K'
          have U := U'
          have b := b'
          clear S' K' b' U'
          have hne : ((lA.length : Int) != l0.length) = false := by simp [HAL.out]
          go_wp2_with (first | go_skip)
          have CM := aside (closed_perm HC.out HP.out.symm)
          have hl12 : lA.length ≤ 1000 := by rw [HAL.out]; exact hl2
          have U0 := U
          have b0 := Below.refl wx.heap.size wx
          go_loopw [10] (fun i wr => ∃ k : Nat, k ≤ lA.length ∧ i = .int .i64 k ∧ Below wx.heap.size wx wr) (fun i _ => lA.length - (intOf i).toNat)
          case atStart => exact ⟨0, Nat.zero_le _, rfl, b0⟩
          case round =>
            clear b0
            rename World => wq
            obtain ⟨k, hk, rfl, kc⟩ := hrel
            by_cases hlt : k < lA.length
            · obtain ⟨qA, qc, hqs, hqS⟩ := RowP.ahead (U.below kc).row k hk
              have hq1 : ∀ V, (Instr.sliceAt 22 (.slice A1 lA.length c1') none (some (.int .i64 (k : Int))) none).run Tryd.prog V = .ok (.slice qA k qc) V := fun V => hqs V .i64
              have hkl : (lA.take k).length = k := by rw [List.length_take]; omega
              have Q : SlK wq qA qc (lA.take k) := ⟨hqS, fun y hy => (U.below kc).each y (List.mem_of_mem_take hy)⟩
              have p0 : (k : Int) < lA.length := by omega
              have qs := X.closed qA qc (lA.take k) _ Q (fun y hy => HOA.out y (List.mem_of_mem_take hy)) (by rw [hkl]; omega) (K.below kc)
              rw [hkl, show coms (lA.take k) = m.take k by rw [← HA.out]; exact (List.map_take ..), decide_eq_true (closed_take CM.out HIN.out k)] at qs
              clear hqs hqS hkl Q
              go_wp2_with (first | go_skip)
              refine qs.mono ?_
              clear qs
              rintro e wz ⟨rfl, kz⟩
              have kz := kc.trans (kz.mono kc.size)
              go_wp2_with (first | go_skip)
              go_roundw
              case rel => exact ⟨k + 1, by omega, by go_num, kz⟩
              case measure => simp [intOf]; omega
            · have pn : ¬ (k : Int) < lA.length := by omega
              go_wp2_with (first | go_skip)
              go_ret
              exact ⟨rfl, b.trans (kc.mono b.size)⟩
end Go.Proofs.YtechkdhehipliaaDoor.DgV
