/- What the document's Elems and Merge of package pair return: contracts. -/
import Derived.Test.YtcodipgooofppaaPairQ
import Derived.Test.YtcodipgooofppaaTxt
namespace Go.Proofs.Ytcodipgooofppaa.PairU
open Go Go.RowKit Byt OpsM OpsK Rise PairM PairN RowS RowB PairW PairR PairS PairG PairP PairQ Txt

theorem elems_step (k : ByteArray) (o : Option ByteArray) (x : Pr) (r : List Pr) : elemsF k o (x :: r) = if x.key ≠ k ∨ o = some x.elem then elemsF k o r else x.elem :: elemsF k (some x.elem) r := rfl
set_option maxRecDepth 100000 in
set_option maxHeartbeats 16000000 in
theorem elems_ret (A : Option Addr) (cap : Nat) (l : List Pr) (k : ByteArray) (w : World) (S : SlR E w A cap l) (hl : l.length ≤ 1000000) :
    Calls Try.prog 21 #[.slice A l.length cap, .string k] w (NewT (elemsP l k) w) := by
  have hcap := S.1
  obtain ⟨R, hR⟩ : ∃ R, elemsP l k = R := ⟨_, rfl⟩
  rw [hR]
  have HR := aside hR
  clear hR
  go_enter Try.func21, Try.ntmps21
  go_wp2
  go_loopw [5, 6] (fun v i wr => ∃ (j N : Nat) (A : Option Addr) (c : Nat) (acc : List ByteArray), j ≤ l.length ∧ i = .int .i64 j ∧ v = .slice A N c ∧ N ≤ j ∧ acc.length = N ∧ Hid (R = acc ++ elemsF k acc.getLast? (l.drop j)) ∧ Hid (wr.ownsRow w.heap.size 9 1 (.slice A N c) N (ts acc)) ∧ Below w.heap.size w wr) (fun _ i _ => l.length - (intOf i).toNat)
  case atStart => exact ⟨0, 0, none, 0, [], Nat.zero_le _, rfl, rfl, Nat.le_refl _, rfl, aside HR.out.symm, aside (World.ownsRow_nil _ _ _ _), Below.refl _ _⟩
  case round =>
    obtain ⟨j, N, A', c', acc, hj, rfl, rfl, hNj, hN, HP, HO, kb⟩ := hrel
    by_cases hlt : j < l.length
    · obtain ⟨g, off, rfl, hbw, hr⟩ := PairW.plain S (by omega)
      obtain ⟨x, hx⟩ : ∃ x, l[j]? = some x := ⟨_, List.getElem?_eq_getElem hlt⟩
      obtain ⟨c0, c1, _, _⟩ := cells (range_below (hr j x hx) kb)
      have p0 : (j : Int) < l.length := by omega
      have m0 : ((j : Int)).toNat = j := by omega
      have hP := HP.out
      rw [getD_drop hx, elems_step] at hP
      clear hr S hx HP HR
      by_cases h1 : x.key = k
      · have t1 := bne_yes h1
        have s1 := str_yes h1
        rcases List.eq_nil_or_concat acc with hac | ⟨m, z, hac⟩
        · have hN0 : N = 0 := by rw [← hN, hac]; rfl
          have HP2 : Hid (R = (acc ++ [x.elem]) ++ elemsF k (acc ++ [x.elem]).getLast? (l.drop (j + 1))) := aside (by
            rw [hP, if_neg (by rw [hac]; simp [h1]), hac]
            simp)
          have q1 : ¬ (0 < (N : Int)) := by omega
          have q4 : decide (0 < N) = false := decide_eq_false (by omega)
          clear h1 hP hac hN0
          go_wp2
          go_quiet (fail)
          have kq := below_drew kb nq
          have HQ : Hid ((wr.drewN nq).ownsRow w.heap.size 9 1 (.slice A' N c') N (ts acc)) := aside HO.out
          have c1' := Txt.cell_below c1 (below_drew (Below.refl _ _) nq)
          have hqz := kq.size
          generalize wr.drewN nq = wq at kq HQ c1' hqz ⊢
          clear c0 c1 HO kb
          go_wp2_with (first
            | (refine Txt.wpList_append_new rfl (.tmp 39) (.tmp 45) rfl w.heap.size _ N acc rfl wq x.elem _ rfl rfl HQ.out (by omega) hqz ?_; intro v' w' own' h'; have k' := kq.trans h'; clear h'))
          obtain ⟨A2, c2, e2, _⟩ := SlT.own own'
          have hl2 : (acc ++ [x.elem]).length = N + 1 := by simp [hN]
          rw [hl2] at e2
          subst e2
          have HO2 := aside own'
          clear own'
          go_roundw
          case rel => exact ⟨j + 1, N + 1, A2, c2, acc ++ [x.elem], by omega, by go_num, rfl, by omega, hl2, HP2, HO2, k'⟩
          case measure => simp [intOf]; omega
        · rw [List.concat_eq_append] at hac
          obtain ⟨M, hM⟩ : ∃ M, m.length = M := ⟨_, rfl⟩
          have hNM : N = M + 1 := by rw [← hN, hac, ← hM]; simp
          obtain ⟨q, c2, e2⟩ := own_some (by have := HO.out; rw [hac] at this; exact this)
          injection e2 with e3 e4 e5
          subst e3
          subst e5
          have cz : wr.cell? ⟨q, M, none⟩ = some (.string z) := own_cell HO.out (by rw [hac, ← hM]; simp)
          have q1 : 0 < (N : Int) := by omega
          have q4 : decide (0 < N) = true := decide_eq_true (by omega)
          have q2 : (M : Int) < N := by omega
          have q3 : ((M : Int)).toNat = M := by omega
          have hwr : IntKind.i64.wrap ((N : Int) - 1) = (M : Int) := by rw [IntKind.wrap_i64]; omega
          by_cases h2 : z = x.elem
          · have t2 := str_yes h2
            have HP2 : Hid (R = acc ++ elemsF k acc.getLast? (l.drop (j + 1))) := aside (by
              rw [hP, if_pos (.inr (by rw [hac, h2]; simp))])
            clear h1 h2 hP hac hM hNM
            go_wp2
            go_quiet (fail)
            go_wp2
            go_roundw
            case rel => exact ⟨j + 1, N, _, _, acc, by omega, by go_num, rfl, by omega, hN, HP2, aside HO.out, below_drew kb _⟩
            case measure => simp [intOf]; omega
          · have t2 := str_no h2
            have HP2 : Hid (R = (acc ++ [x.elem]) ++ elemsF k (acc ++ [x.elem]).getLast? (l.drop (j + 1))) := aside (by
              rw [hP, if_neg (by rw [hac]; simp [h1, h2])]
              simp)
            clear h1 h2 hP hac hM hNM
            go_wp2
            go_quiet (fail)
            have kq := below_drew kb nq
            have HQ : Hid ((wr.drewN nq).ownsRow w.heap.size 9 1 (.slice (some ⟨q, 0, none⟩) N c') N (ts acc)) := aside HO.out
            have c1' := Txt.cell_below c1 (below_drew (Below.refl _ _) nq)
            have hqz := kq.size
            generalize wr.drewN nq = wq at kq HQ c1' hqz ⊢
            clear c0 c1 HO kb
            go_wp2_with (first
              | (refine Txt.wpList_append_new rfl (.tmp 39) (.tmp 45) rfl w.heap.size _ N acc rfl wq x.elem _ rfl rfl HQ.out (by omega) hqz ?_; intro v' w' own' h'; have k' := kq.trans h'; clear h'))
            obtain ⟨A2, c2, e2, _⟩ := SlT.own own'
            have hl2 : (acc ++ [x.elem]).length = N + 1 := by simp [hN]
            rw [hl2] at e2
            subst e2
            have HO2 := aside own'
            clear own'
            go_roundw
            case rel => exact ⟨j + 1, N + 1, A2, c2, acc ++ [x.elem], by omega, by go_num, rfl, by omega, hl2, HP2, HO2, k'⟩
            case measure => simp [intOf]; omega
      · have t1 := bne_no h1
        have s1 := str_no h1
        have HP2 : Hid (R = acc ++ elemsF k acc.getLast? (l.drop (j + 1))) := aside (by rw [hP, if_pos (.inl h1)])
        clear h1 hP
        go_wp2
        go_quiet (fail)
        go_wp2
        go_roundw
        case rel => exact ⟨j + 1, N, _, _, acc, by omega, by go_num, rfl, by omega, hN, HP2, aside HO.out, below_drew kb _⟩
        case measure => simp [intOf]; omega
    · have HE : Hid (R = acc) := aside (by rw [HP.out, List.drop_of_length_le (by omega)]; simp [elemsF])
      have q0 : ¬ ((j : Int) < l.length) := by omega
      clear S HP HR
      go_wp2
      obtain ⟨A5, c5, e5, S5⟩ := SlT.own HO.out
      rw [hN] at e5
      injection e5 with e6 e7 e8
      subst e6
      subst e8
      clear e7
      go_ret
      rw [HE.out]
      exact ⟨_, _, ret_val (congrArg (fun n => Value.slice _ n _) hN.symm), S5, kb⟩

theorem fromA_def (base b : List Pr) (x : Pr) : fromA base b x = (decide (x ∈ b) || !decide (x ∈ base)) := by unfold fromA; simp
theorem fromB_def (base a : List Pr) (x : Pr) : fromB base a x = (!decide (x ∈ a) && !decide (x ∈ base)) := by unfold fromB; simp
set_option maxRecDepth 100000 in
set_option maxHeartbeats 16000000 in
theorem merge_none (A0 : Option Addr) (cap0 : Nat) (base : List Pr) (A1 : Option Addr) (cap1 : Nat) (a : List Pr) (A2 : Option Addr) (cap2 : Nat) (b : List Pr) (w : World) (S0 : SlR E w A0 cap0 base) (S1 : SlR E w A1 cap1 a) (S2 : SlR E w A2 cap2 b) (f0 : Fits base) (f1 : Fits a) (f2 : Fits b)
    (h : mayP base = false ∨ (mayP base = true ∧ (mayP a = false ∨ (mayP a = true ∧ mayP b = false)))) :
    Calls Try.prog 18 #[.slice A0 base.length cap0, .slice A1 a.length cap1, .slice A2 b.length cap2] w (NewS E [] w) := by
  have q0 := may_ret A0 cap0 base w S0 f0
  have q1 := fun W S => may_ret A1 cap1 a W S f1
  have q2 := fun W S => may_ret A2 cap2 b W S f2
  obtain ⟨x, hx⟩ : ∃ x, mayP base = x := ⟨_, rfl⟩
  obtain ⟨y, hy⟩ : ∃ y, mayP a = y := ⟨_, rfl⟩
  obtain ⟨z, hz⟩ : ∃ z, mayP b = z := ⟨_, rfl⟩
  rw [hx] at q0 h
  rw [hy] at q1 h
  rw [hz] at q2 h
  clear hx hy hz f0 f1 f2 S0
  rcases h with rfl | ⟨rfl, rfl | ⟨rfl, rfl⟩⟩
  all_goals
    go_enter Try.func18, Try.ntmps18
    go_wp2_with fail
    refine q0.mono ?_
    rintro e w1 ⟨rfl, k1⟩
    have T1 := S1.below k1
    have T2 := S2.below k1
    clear S1 S2 q0
    go_wp2_with fail
    refine (q1 _ T1).mono ?_
    rintro e w2 ⟨rfl, h2⟩
    have k2 := k1.trans (h2.mono k1.size)
    have T3 := T2.below h2
    clear T1 T2 h2 k1 q1
    go_wp2_with fail
    refine (q2 _ T3).mono ?_
    rintro e w3 ⟨rfl, h3⟩
    have k3 := k2.trans (h3.mono k2.size)
    clear T3 h3 k2 q2
    go_wp2_with (first | go_skip)
    go_ret
    exact ⟨none, 0, rfl, SlR.nil E _, k3⟩

set_option maxRecDepth 100000 in
set_option maxHeartbeats 32000000 in
theorem merge_yes (A0 : Option Addr) (cap0 : Nat) (base : List Pr) (A1 : Option Addr) (cap1 : Nat) (a : List Pr) (A2 : Option Addr) (cap2 : Nat) (b : List Pr) (w : World) (S0 : SlR E w A0 cap0 base) (S1 : SlR E w A1 cap1 a) (S2 : SlR E w A2 cap2 b) (f0 : Fits base) (f1 : Fits a) (f2 : Fits b) (l1 : a.length ≤ 100000) (l2 : b.length ≤ 100000)
    (m0 : mayP base = true) (m1 : mayP a = true) (m2 : mayP b = true) :
    Calls Try.prog 18 #[.slice A0 base.length cap0, .slice A1 a.length cap1, .slice A2 b.length cap2] w (NewS E ((b.filter (fromB base a)).foldl putP ((a.filter (fromA base b)).foldl putP [])) w) := by
  have q0 := may_ret A0 cap0 base w S0 f0
  have q1 := fun W S => may_ret A1 cap1 a W S f1
  have q2 := fun W S => may_ret A2 cap2 b W S f2
  rw [m0] at q0
  rw [m1] at q1
  rw [m2] at q2
  clear m0 m1 m2 f0 f1 f2
  have hc1 := S1.1
  have hc2 := S2.1
  obtain ⟨R1, hR1⟩ : ∃ R, (a.filter (fromA base b)).foldl putP [] = R := ⟨_, rfl⟩
  obtain ⟨R2, hR2⟩ : ∃ R, (b.filter (fromB base a)).foldl putP R1 = R := ⟨_, rfl⟩
  rw [hR1, hR2]
  have HR1 := aside hR1
  have HR2' := aside hR2
  clear hR1 hR2
  go_enter Try.func18, Try.ntmps18
  go_wp2_with fail
  refine q0.mono ?_
  rintro e w1 ⟨rfl, k1⟩
  have T0 := S0.below k1
  have T1 := S1.below k1
  have T2 := S2.below k1
  clear S0 S1 S2 q0
  go_wp2_with fail
  refine (q1 _ T1).mono ?_
  rintro e w2 ⟨rfl, h2⟩
  have k2 := k1.trans (h2.mono k1.size)
  have U0 := T0.below h2
  have U1 := T1.below h2
  have U2 := T2.below h2
  clear T0 T1 T2 h2 k1 q1
  go_wp2_with fail
  refine (q2 _ U2).mono ?_
  rintro e w3 ⟨rfl, h3⟩
  have k3 := k2.trans (h3.mono k2.size)
  have Sbase := U0.below h3
  have Sa := U1.below h3
  have Sb := U2.below h3
  have hz3 := k3.size
  clear U0 U1 U2 h3 k2 q2
  go_wp2_with (first | go_skip)
  go_loopw [10, 11] (fun v i wr => ∃ (j : Nat) (out : List Pr) (A : Option Addr) (c : Nat), j ≤ a.length ∧ i = .int .i64 j ∧ v = .slice A out.length c ∧ out.length ≤ j ∧ Hid ((((a.take j).filter (fromA base b)).foldl putP []) = out) ∧ Hid (RisP out) ∧ SlR E wr A c out ∧ Below w3.heap.size w3 wr) (fun _ i _ => a.length - (intOf i).toNat)
  case atStart => exact ⟨0, [], none, 0, Nat.zero_le _, rfl, rfl, Nat.le_refl _, aside rfl, aside List.Pairwise.nil, SlR.nil E _, Below.refl _ _⟩
  case round =>
    obtain ⟨j, out, A4, c4, hj, rfl, rfl, hol, HP, HR4, SR, kb⟩ := hrel
    by_cases hlt : j < a.length
    · obtain ⟨g, off, rfl, hbw, hr⟩ := PairW.plain Sa (by omega)
      obtain ⟨x, hx⟩ : ∃ x, a[j]? = some x := ⟨_, List.getElem?_eq_getElem hlt⟩
      have hr1 := range_below (hr j x hx) kb
      have p0 : (j : Int) < a.length := by omega
      have m0 : ((j : Int)).toNat = j := by omega
      have HF := aside (filter_take (q := fromA base b) hx)
      have cu := fun W S => has_ret A2 cap2 b x W S
      have co := fun W S => has_ret A0 cap0 base x W S
      have cp := fun W S => put_ret A4 c4 out x W S HR4.out (by omega)
      have hle := put_length out x
      have HPR := aside (put_rises (p := x) HR4.out)
      obtain ⟨P, hP⟩ : ∃ P, putP out x = P := ⟨_, rfl⟩
      rw [hP] at cp hle HPR
      have HPE := aside hP
      obtain ⟨u, hu⟩ : ∃ u, decide (x ∈ b) = u := ⟨_, rfl⟩
      obtain ⟨o, ho⟩ : ∃ o, decide (x ∈ base) = o := ⟨_, rfl⟩
      rw [hu] at cu
      rw [ho] at co
      have HU := aside hu
      have HO := aside ho
      clear hr hx hP hu ho
      go_wp2_with (first | (refine wpList_load_at E rfl _ rfl g _ rfl x hr1 ?_))
      refine (cu _ (Sb.below kb)).mono ?_
      rintro e w5 ⟨rfl, h5⟩
      have hr2 := range_below hr1 h5
      have k5 := kb.trans (h5.mono kb.size)
      have SR5 := SR.below h5
      clear hr1 h5 cu
      go_wp2_with (first | (refine wpList_load_at E rfl _ rfl g _ rfl x hr2 ?_))
      refine (co _ (Sbase.below k5)).mono ?_
      rintro e w6 ⟨rfl, h6⟩
      have hr3 := range_below hr2 h6
      have k6 := k5.trans (h6.mono k5.size)
      have SR6 := SR5.below h6
      clear hr2 h6 co SR5 k5 SR kb
      cases u with
      | true =>
        have HP2 : Hid ((((a.take (j + 1)).filter (fromA base b)).foldl putP []) = P) := aside (by
          have hq : fromA base b x = true := by rw [fromA_def]; rw [HU.out, HO.out]; rfl
          rw [HF.out, hq, if_pos rfl, List.foldl_append, HP.out, ← HPE.out]
          rfl)
        have HR2 := HPR
        go_wp2_with (first
          | go_skip
          | (refine wpList_load_at E rfl _ rfl g _ rfl x hr3 ?_))
        refine (cp _ SR6).mono ?_
        rintro e w7 ⟨A7, c7, rfl, S7, h7⟩
        have k7 := k6.trans (h7.mono k6.size)
        clear h7 cp hr3 SR6 k6
        go_wp2_with fail
        go_roundw
        case rel => exact ⟨j + 1, P, A7, c7, by omega, by go_num, rfl, by omega, HP2, HR2, S7, k7⟩
        case measure => simp [intOf]; omega
      | false =>
        cases o with
        | false =>
          have HP2 : Hid ((((a.take (j + 1)).filter (fromA base b)).foldl putP []) = P) := aside (by
            have hq : fromA base b x = true := by rw [fromA_def]; rw [HU.out, HO.out]; rfl
            rw [HF.out, hq, if_pos rfl, List.foldl_append, HP.out, ← HPE.out]
            rfl)
          have HR2 := HPR
          go_wp2_with (first
            | go_skip
            | (refine wpList_load_at E rfl _ rfl g _ rfl x hr3 ?_))
          refine (cp _ SR6).mono ?_
          rintro e w7 ⟨A7, c7, rfl, S7, h7⟩
          have k7 := k6.trans (h7.mono k6.size)
          clear h7 cp hr3 SR6 k6
          go_wp2_with fail
          go_roundw
          case rel => exact ⟨j + 1, P, A7, c7, by omega, by go_num, rfl, by omega, HP2, HR2, S7, k7⟩
          case measure => simp [intOf]; omega
        | true =>
          have HP2 : Hid ((((a.take (j + 1)).filter (fromA base b)).foldl putP []) = out) := aside (by
            have hq : fromA base b x = false := by rw [fromA_def]; rw [HU.out, HO.out]; rfl
            rw [HF.out, hq, if_neg (by simp), List.append_nil, HP.out])
          go_wp2_with (first | go_skip)
          go_roundw
          case rel => exact ⟨j + 1, out, A4, c4, by omega, by go_num, rfl, by omega, HP2, HR4, SR6, k6⟩
          case measure => simp [intOf]; omega
    · have e : j = a.length := by omega
      have HE : Hid (R1 = out) := aside (by rw [← HR1.out, ← HP.out, e, List.take_length])
      have hol1 : out.length ≤ 100000 := by omega
      have k8 := k3.trans (kb.mono hz3)
      have Sbase2 := Sbase.below kb
      have Sa2 := Sa.below kb
      have Sb2 := Sb.below kb
      have HR5 := HR4
      obtain ⟨w8, hw8⟩ : ∃ w8, wr = w8 := ⟨_, rfl⟩
      subst hw8
      clear Sbase Sa Sb HP HR1 k3 kb e
      have Sbase := Sbase2
      have Sa := Sa2
      have Sb := Sb2
      clear Sbase2 Sa2 Sb2
      have hz8 := k8.size
      go_wp2_with fail
      go_loopw [10, 14] (fun v i wq => ∃ (j : Nat) (out2 : List Pr) (A : Option Addr) (c : Nat), j ≤ b.length ∧ i = .int .i64 j ∧ v = .slice A out2.length c ∧ out2.length ≤ 100000 + j ∧ Hid ((((b.take j).filter (fromB base a)).foldl putP R1) = out2) ∧ Hid (RisP out2) ∧ SlR E wq A c out2 ∧ Below wr.heap.size wr wq) (fun _ i _ => b.length - (intOf i).toNat)
      case atStart => exact ⟨0, out, A4, c4, Nat.zero_le _, rfl, rfl, by omega, aside HE.out, HR5, SR, Below.refl _ _⟩
      case round =>
        clear SR HR5 HR4
        clear hlt HE
        obtain ⟨j, out, A4, c4, hj, rfl, rfl, hol, HP, HR4, SR, kb⟩ := hrel
        by_cases hlt : j < b.length
        · obtain ⟨g, off, rfl, hbw, hr⟩ := PairW.plain Sb (by omega)
          obtain ⟨x, hx⟩ : ∃ x, b[j]? = some x := ⟨_, List.getElem?_eq_getElem hlt⟩
          have hr1 := range_below (hr j x hx) kb
          have p0 : (j : Int) < b.length := by omega
          have m0 : ((j : Int)).toNat = j := by omega
          have HF := aside (filter_take (q := fromB base a) hx)
          have cu := fun W S => has_ret A1 cap1 a x W S
          have co := fun W S => has_ret A0 cap0 base x W S
          have cp := fun W S => put_ret A4 c4 out x W S HR4.out (by omega)
          have hle := put_length out x
          have HPR := aside (put_rises (p := x) HR4.out)
          obtain ⟨P, hP⟩ : ∃ P, putP out x = P := ⟨_, rfl⟩
          rw [hP] at cp hle HPR
          have HPE := aside hP
          obtain ⟨u, hu⟩ : ∃ u, decide (x ∈ a) = u := ⟨_, rfl⟩
          obtain ⟨o, ho⟩ : ∃ o, decide (x ∈ base) = o := ⟨_, rfl⟩
          rw [hu] at cu
          rw [ho] at co
          have HU := aside hu
          have HO := aside ho
          clear hr hx hP hu ho
          go_wp2_with (first | (refine wpList_load_at E rfl _ rfl g _ rfl x hr1 ?_))
          refine (cu _ (Sa.below kb)).mono ?_
          rintro e w5 ⟨rfl, h5⟩
          have hr2 := range_below hr1 h5
          have k5 := kb.trans (h5.mono kb.size)
          have SR5 := SR.below h5
          clear hr1 h5 cu
          go_wp2_with (first | (refine wpList_load_at E rfl _ rfl g _ rfl x hr2 ?_))
          refine (co _ (Sbase.below k5)).mono ?_
          rintro e w6 ⟨rfl, h6⟩
          have hr3 := range_below hr2 h6
          have k6 := k5.trans (h6.mono k5.size)
          have SR6 := SR5.below h6
          clear hr2 h6 co SR5 k5 SR kb
          cases u with
          | true =>
            have HP2 : Hid ((((b.take (j + 1)).filter (fromB base a)).foldl putP R1) = out) := aside (by
              have hq : fromB base a x = false := by rw [fromB_def]; rw [HU.out, HO.out]; rfl
              rw [HF.out, hq, if_neg (by simp), List.append_nil, HP.out])
            go_wp2_with (first | go_skip)
            go_roundw
            case rel => exact ⟨j + 1, out, A4, c4, by omega, by go_num, rfl, by omega, HP2, HR4, SR6, k6⟩
            case measure => simp [intOf]; omega
          | false =>
            cases o with
            | false =>
              have HP2 : Hid ((((b.take (j + 1)).filter (fromB base a)).foldl putP R1) = P) := aside (by
                have hq : fromB base a x = true := by rw [fromB_def]; rw [HU.out, HO.out]; rfl
                rw [HF.out, hq, if_pos rfl, List.foldl_append, HP.out, ← HPE.out]
                rfl)
              have HR2 := HPR
              go_wp2_with (first
                | go_skip
                | (refine wpList_load_at E rfl _ rfl g _ rfl x hr3 ?_))
              refine (cp _ SR6).mono ?_
              rintro e w7 ⟨A7, c7, rfl, S7, h7⟩
              have k7 := k6.trans (h7.mono k6.size)
              clear h7 cp hr3 SR6 k6
              go_wp2_with fail
              go_roundw
              case rel => exact ⟨j + 1, P, A7, c7, by omega, by go_num, rfl, by omega, HP2, HR2, S7, k7⟩
              case measure => simp [intOf]; omega
            | true =>
              have HP2 : Hid ((((b.take (j + 1)).filter (fromB base a)).foldl putP R1) = out) := aside (by
                have hq : fromB base a x = false := by rw [fromB_def]; rw [HU.out, HO.out]; rfl
                rw [HF.out, hq, if_neg (by simp), List.append_nil, HP.out])
              go_wp2_with (first | go_skip)
              go_roundw
              case rel => exact ⟨j + 1, out, A4, c4, by omega, by go_num, rfl, by omega, HP2, HR4, SR6, k6⟩
              case measure => simp [intOf]; omega
        · have e : j = b.length := by omega
          have HE2 : Hid (R2 = out) := aside (by rw [← HR2'.out, ← HP.out, e, List.take_length])
          have k9 := k8.trans (kb.mono hz8)
          clear Sbase Sa Sb HP
          go_wp2_with fail
          go_ret
          rw [HE2.out]
          exact ⟨A4, c4, rfl, SR, k9⟩

theorem merge_ret (A0 : Option Addr) (cap0 : Nat) (base : List Pr) (A1 : Option Addr) (cap1 : Nat) (a : List Pr) (A2 : Option Addr) (cap2 : Nat) (b : List Pr) (w : World) (S0 : SlR E w A0 cap0 base) (S1 : SlR E w A1 cap1 a) (S2 : SlR E w A2 cap2 b) (f0 : Fits base) (f1 : Fits a) (f2 : Fits b) (l1 : a.length ≤ 100000) (l2 : b.length ≤ 100000) :
    Calls Try.prog 18 #[.slice A0 base.length cap0, .slice A1 a.length cap1, .slice A2 b.length cap2] w (NewS E (mergeP base a b) w) := by
  cases h0 : mayP base with
  | false => rw [merge_no (.inl h0)]; exact merge_none A0 cap0 base A1 cap1 a A2 cap2 b w S0 S1 S2 f0 f1 f2 (.inl h0)
  | true =>
    cases h1 : mayP a with
    | false => rw [merge_no (.inr (.inl h1))]; exact merge_none A0 cap0 base A1 cap1 a A2 cap2 b w S0 S1 S2 f0 f1 f2 (.inr ⟨h0, .inl h1⟩)
    | true =>
      cases h2 : mayP b with
      | false => rw [merge_no (.inr (.inr h2))]; exact merge_none A0 cap0 base A1 cap1 a A2 cap2 b w S0 S1 S2 f0 f1 f2 (.inr ⟨h0, .inr ⟨h1, h2⟩⟩)
      | true =>
        have e : mergeP base a b = (b.filter (fromB base a)).foldl putP ((a.filter (fromA base b)).foldl putP []) := if_pos ⟨h0, h1, h2⟩
        rw [e]
        exact merge_yes A0 cap0 base A1 cap1 a A2 cap2 b w S0 S1 S2 f0 f1 f2 l1 l2 h0 h1 h2
end Go.Proofs.Ytcodipgooofppaa.PairU
