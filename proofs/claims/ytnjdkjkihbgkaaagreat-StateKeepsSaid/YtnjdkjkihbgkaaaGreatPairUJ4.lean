/- What the document's Elems and Merge of package pair return: contracts. | How a reading gives pairs, and one pair, that came in. No condition. | What the laws on pairs ask of lists; two lists of texts compared. No condition. | Worlds that come of draws and new blocks alone. No condition. -/
import Derived.Test.YtnjdkjkihbgkaaaGreatPairPJ3
import Derived.Test.YtnjdkjkihbgkaaaGreatRowGJ6
import Derived.Test.YtnjdkjkihbgkaaaGreatCtrQJ4
import Derived.Deep.Fields
import Derived.Test.YtnjdkjkihbgkaaaGreatKeyMJ4
import Derived.Shelf.GgSortFunc.InsertionK
namespace Go.Proofs.YtnjdkjkihbgkaaaGreat.PairU
set_option maxRecDepth 100000
open Go Go.RowKit Byt OpsM OpsK Rise PairM PairN RowS RowB PairW PairR PairS PairG PairP PairQ Txt

theorem elems_step (k : ByteArray) (o : Option ByteArray) (x : Pr) (r : List Pr) : elemsF k o (x :: r) = if x.key ≠ k ∨ o = some x.elem then elemsF k o r else x.elem :: elemsF k (some x.elem) r := rfl

theorem fromA_def (base b : List Pr) (x : Pr) : fromA base b x = (decide (x ∈ b) || !decide (x ∈ base)) := by unfold fromA; simp
theorem fromB_def (base a : List Pr) (x : Pr) : fromB base a x = (!decide (x ∈ a) && !decide (x ∈ base)) := by unfold fromB; simp
set_option maxRecDepth 100000 in
set_option maxHeartbeats 16000000 in
theorem merge_none (A0 : Option Addr) (cap0 : Nat) (base : List Pr) (A1 : Option Addr) (cap1 : Nat) (a : List Pr) (A2 : Option Addr) (cap2 : Nat) (b : List Pr) (w : World) (S0 : SlR E w A0 cap0 base) (S1 : SlR E w A1 cap1 a) (S2 : SlR E w A2 cap2 b) (f0 : Fits base) (f1 : Fits a) (f2 : Fits b)
    (h : mayP base = false ∨ (mayP base = true ∧ (mayP a = false ∨ (mayP a = true ∧ mayP b = false)))) :
    Calls Tryz.prog 56 #[.slice A0 base.length cap0, .slice A1 a.length cap1, .slice A2 b.length cap2] w (NewS E [] w) := by
  have q0 := may_ret A0 cap0 base w S0 f0
  have q1 := fun W S => may_ret A1 cap1 a W S f1
  have q2 := fun W S => may_ret A2 cap2 b W S f2
  obtain ⟨x, hx⟩ : ∃ x, mayP base = x := ⟨_, rfl⟩
  obtain ⟨y, hy⟩ : ∃ y, mayP a = y := ⟨_, rfl⟩
  obtain ⟨z, hz⟩ : ∃ z, mayP b = z := ⟨_, rfl⟩
  rw [hx] at q0 h
  rw [hy] at q1 h
  rw [hz] at q2 h
  clear hx hy hz f0 f1 f2 S0
  rcases h with rfl | ⟨rfl, rfl | ⟨rfl, rfl⟩⟩
  all_goals
    go_enter Tryz.func56, Tryz.ntmps56
    go_wp2_with fail
    refine q0.mono ?_
    rintro e w1 ⟨rfl, k1⟩
    have T1 := S1.below k1
    have T2 := S2.below k1
    clear S1 S2 q0
    go_wp2_with fail
    refine (q1 _ T1).mono ?_
    rintro e w2 ⟨rfl, h2⟩
    have k2 := k1.trans (h2.mono k1.size)
    have T3 := T2.below h2
    clear T1 T2 h2 k1 q1
    go_wp2_with fail
    refine (q2 _ T3).mono ?_
    rintro e w3 ⟨rfl, h3⟩
    have k3 := k2.trans (h3.mono k2.size)
    clear T3 h3 k2 q2
    go_wp2_with (first | go_skip)
    go_ret
    exact ⟨none, 0, rfl, SlR.nil E _, k3⟩

set_option maxRecDepth 100000 in
set_option maxHeartbeats 32000000 in
theorem merge_yes (A0 : Option Addr) (cap0 : Nat) (base : List Pr) (A1 : Option Addr) (cap1 : Nat) (a : List Pr) (A2 : Option Addr) (cap2 : Nat) (b : List Pr) (w : World) (S0 : SlR E w A0 cap0 base) (S1 : SlR E w A1 cap1 a) (S2 : SlR E w A2 cap2 b) (f0 : Fits base) (f1 : Fits a) (f2 : Fits b) (l1 : a.length ≤ 100000) (l2 : b.length ≤ 100000)
    (m0 : mayP base = true) (m1 : mayP a = true) (m2 : mayP b = true) :
    Calls Tryz.prog 56 #[.slice A0 base.length cap0, .slice A1 a.length cap1, .slice A2 b.length cap2] w (NewS E ((b.filter (fromB base a)).foldl putP ((a.filter (fromA base b)).foldl putP [])) w) := by
  have q0 := may_ret A0 cap0 base w S0 f0
  have q1 := fun W S => may_ret A1 cap1 a W S f1
  have q2 := fun W S => may_ret A2 cap2 b W S f2
  rw [m0] at q0
  rw [m1] at q1
  rw [m2] at q2
  clear m0 m1 m2 f0 f1 f2
  have hc1 := S1.1
  have hc2 := S2.1
  obtain ⟨R1, hR1⟩ : ∃ R, (a.filter (fromA base b)).foldl putP [] = R := ⟨_, rfl⟩
  obtain ⟨R2, hR2⟩ : ∃ R, (b.filter (fromB base a)).foldl putP R1 = R := ⟨_, rfl⟩
  rw [hR1, hR2]
  have HR1 := aside hR1
  have HR2' := aside hR2
  clear hR1 hR2
  go_enter Tryz.func56, Tryz.ntmps56
  go_wp2_with fail
  refine q0.mono ?_
  rintro e w1 ⟨rfl, k1⟩
  have T0 := S0.below k1
  have T1 := S1.below k1
  have T2 := S2.below k1
  clear S0 S1 S2 q0
  go_wp2_with fail
  refine (q1 _ T1).mono ?_
  rintro e w2 ⟨rfl, h2⟩
  have k2 := k1.trans (h2.mono k1.size)
  have U0 := T0.below h2
  have U1 := T1.below h2
  have U2 := T2.below h2
  clear T0 T1 T2 h2 k1 q1
  go_wp2_with fail
  refine (q2 _ U2).mono ?_
  rintro e w3 ⟨rfl, h3⟩
  have k3 := k2.trans (h3.mono k2.size)
  have Sbase := U0.below h3
  have Sa := U1.below h3
  have Sb := U2.below h3
  have hz3 := k3.size
  clear U0 U1 U2 h3 k2 q2
  go_wp2_with (first | go_skip)
  go_loopw [10, 11] (fun v i wr => ∃ (j : Nat) (out : List Pr) (A : Option Addr) (c : Nat), j ≤ a.length ∧ i = .int .i64 j ∧ v = .slice A out.length c ∧ out.length ≤ j ∧ Hid ((((a.take j).filter (fromA base b)).foldl putP []) = out) ∧ Hid (RisP out) ∧ SlR E wr A c out ∧ Below w3.heap.size w3 wr) (fun _ i _ => a.length - (intOf i).toNat)
  case atStart => exact ⟨0, [], none, 0, Nat.zero_le _, rfl, rfl, Nat.le_refl _, aside rfl, aside List.Pairwise.nil, SlR.nil E _, Below.refl _ _⟩
  case round =>
    obtain ⟨j, out, A4, c4, hj, rfl, rfl, hol, HP, HR4, SR, kb⟩ := hrel
    by_cases hlt : j < a.length
    · obtain ⟨g, off, rfl, hbw, hr⟩ := PairW.plain Sa (by omega)
      obtain ⟨x, hx⟩ : ∃ x, a[j]? = some x := ⟨_, List.getElem?_eq_getElem hlt⟩
      have hr1 := range_below (hr j x hx) kb
      have p0 : (j : Int) < a.length := by omega
      have m0 : ((j : Int)).toNat = j := by omega
      have HF := aside (filter_take (q := fromA base b) hx)
      have cu := fun W S => has_ret A2 cap2 b x W S
      have co := fun W S => has_ret A0 cap0 base x W S
      have cp := fun W S => put_ret A4 c4 out x W S HR4.out (by omega)
      have hle := put_length out x
      have HPR := aside (put_rises (p := x) HR4.out)
      obtain ⟨P, hP⟩ : ∃ P, putP out x = P := ⟨_, rfl⟩
      rw [hP] at cp hle HPR
      have HPE := aside hP
      obtain ⟨u, hu⟩ : ∃ u, decide (x ∈ b) = u := ⟨_, rfl⟩
      obtain ⟨o, ho⟩ : ∃ o, decide (x ∈ base) = o := ⟨_, rfl⟩
      rw [hu] at cu
      rw [ho] at co
      have HU := aside hu
      have HO := aside ho
      clear hr hx hP hu ho
      go_wp2_with (first | (refine wpList_load_at E rfl _ rfl g _ rfl x hr1 ?_))
      refine (cu _ (Sb.below kb)).mono ?_
      rintro e w5 ⟨rfl, h5⟩
      have hr2 := range_below hr1 h5
      have k5 := kb.trans (h5.mono kb.size)
      have SR5 := SR.below h5
      clear hr1 h5 cu
      go_wp2_with (first | (refine wpList_load_at E rfl _ rfl g _ rfl x hr2 ?_))
      refine (co _ (Sbase.below k5)).mono ?_
      rintro e w6 ⟨rfl, h6⟩
      have hr3 := range_below hr2 h6
      have k6 := k5.trans (h6.mono k5.size)
      have SR6 := SR5.below h6
      clear hr2 h6 co SR5 k5 SR kb
      cases u with
      | true =>
        have HP2 : Hid ((((a.take (j + 1)).filter (fromA base b)).foldl putP []) = P) := aside (by
          have hq : fromA base b x = true := by rw [fromA_def]; rw [HU.out, HO.out]; rfl
          rw [HF.out, hq, if_pos rfl, List.foldl_append, HP.out, ← HPE.out]
          rfl)
        have HR2 := HPR
        go_wp2_with (first
          | go_skip
          | (refine wpList_load_at E rfl _ rfl g _ rfl x hr3 ?_))
        refine (cp _ SR6).mono ?_
        rintro e w7 ⟨A7, c7, rfl, S7, h7⟩
        have k7 := k6.trans (h7.mono k6.size)
        clear h7 cp hr3 SR6 k6
        go_wp2_with fail
        go_roundw
        case rel => exact ⟨j + 1, P, A7, c7, by omega, by go_num, rfl, by omega, HP2, HR2, S7, k7⟩
        case measure => simp [intOf]; omega
      | false =>
        cases o with
        | false =>
          have HP2 : Hid ((((a.take (j + 1)).filter (fromA base b)).foldl putP []) = P) := aside (by
            have hq : fromA base b x = true := by rw [fromA_def]; rw [HU.out, HO.out]; rfl
            rw [HF.out, hq, if_pos rfl, List.foldl_append, HP.out, ← HPE.out]
            rfl)
          have HR2 := HPR
          go_wp2_with (first
            | go_skip
            | (refine wpList_load_at E rfl _ rfl g _ rfl x hr3 ?_))
          refine (cp _ SR6).mono ?_
          rintro e w7 ⟨A7, c7, rfl, S7, h7⟩
          have k7 := k6.trans (h7.mono k6.size)
          clear h7 cp hr3 SR6 k6
          go_wp2_with fail
          go_roundw
          case rel => exact ⟨j + 1, P, A7, c7, by omega, by go_num, rfl, by omega, HP2, HR2, S7, k7⟩
          case measure => simp [intOf]; omega
        | true =>
          have HP2 : Hid ((((a.take (j + 1)).filter (fromA base b)).foldl putP []) = out) := aside (by
            have hq : fromA base b x = false := by rw [fromA_def]; rw [HU.out, HO.out]; rfl
            rw [HF.out, hq, if_neg (by simp), List.append_nil, HP.out])
          go_wp2_with (first | go_skip)
          go_roundw
          case rel => exact ⟨j + 1, out, A4, c4, by omega, by go_num, rfl, by omega, HP2, HR4, SR6, k6⟩
          case measure => simp [intOf]; omega
    · have e : j = a.length := by omega
      have HE : Hid (R1 = out) := aside (by rw [← HR1.out, ← HP.out, e, List.take_length])
      have hol1 : out.length ≤ 100000 := by omega
      have k8 := k3.trans (kb.mono hz3)
      have Sbase2 := Sbase.below kb
      have Sa2 := Sa.below kb
      have Sb2 := Sb.below kb
      have HR5 := HR4
      obtain ⟨w8, hw8⟩ : ∃ w8, wr = w8 := ⟨_, rfl⟩
      subst hw8
      clear Sbase Sa Sb HP HR1 k3 kb e
      have Sbase := Sbase2
      have Sa := Sa2
      have Sb := Sb2
      clear Sbase2 Sa2 Sb2
      have hz8 := k8.size
      go_wp2_with fail
      go_loopw [10, 14] (fun v i wq => ∃ (j : Nat) (out2 : List Pr) (A : Option Addr) (c : Nat), j ≤ b.length ∧ i = .int .i64 j ∧ v = .slice A out2.length c ∧ out2.length ≤ 100000 + j ∧ Hid ((((b.take j).filter (fromB base a)).foldl putP R1) = out2) ∧ Hid (RisP out2) ∧ SlR E wq A c out2 ∧ Below wr.heap.size wr wq) (fun _ i _ => b.length - (intOf i).toNat)
      case atStart => exact ⟨0, out, A4, c4, Nat.zero_le _, rfl, rfl, by omega, aside HE.out, HR5, SR, Below.refl _ _⟩
      case round =>
        clear SR HR5 HR4
        clear hlt HE
        obtain ⟨j, out, A4, c4, hj, rfl, rfl, hol, HP, HR4, SR, kb⟩ := hrel
        by_cases hlt : j < b.length
        · obtain ⟨g, off, rfl, hbw, hr⟩ := PairW.plain Sb (by omega)
          obtain ⟨x, hx⟩ : ∃ x, b[j]? = some x := ⟨_, List.getElem?_eq_getElem hlt⟩
          have hr1 := range_below (hr j x hx) kb
          have p0 : (j : Int) < b.length := by omega
          have m0 : ((j : Int)).toNat = j := by omega
          have HF := aside (filter_take (q := fromB base a) hx)
          have cu := fun W S => has_ret A1 cap1 a x W S
          have co := fun W S => has_ret A0 cap0 base x W S
          have cp := fun W S => put_ret A4 c4 out x W S HR4.out (by omega)
          have hle := put_length out x
          have HPR := aside (put_rises (p := x) HR4.out)
          obtain ⟨P, hP⟩ : ∃ P, putP out x = P := ⟨_, rfl⟩
          rw [hP] at cp hle HPR
          have HPE := aside hP
          obtain ⟨u, hu⟩ : ∃ u, decide (x ∈ a) = u := ⟨_, rfl⟩
          obtain ⟨o, ho⟩ : ∃ o, decide (x ∈ base) = o := ⟨_, rfl⟩
          rw [hu] at cu
          rw [ho] at co
          have HU := aside hu
          have HO := aside ho
          clear hr hx hP hu ho
          go_wp2_with (first | (refine wpList_load_at E rfl _ rfl g _ rfl x hr1 ?_))
          refine (cu _ (Sa.below kb)).mono ?_
          rintro e w5 ⟨rfl, h5⟩
          have hr2 := range_below hr1 h5
          have k5 := kb.trans (h5.mono kb.size)
          have SR5 := SR.below h5
          clear hr1 h5 cu
          go_wp2_with (first | (refine wpList_load_at E rfl _ rfl g _ rfl x hr2 ?_))
          refine (co _ (Sbase.below k5)).mono ?_
          rintro e w6 ⟨rfl, h6⟩
          have hr3 := range_below hr2 h6
          have k6 := k5.trans (h6.mono k5.size)
          have SR6 := SR5.below h6
          clear hr2 h6 co SR5 k5 SR kb
          cases u with
          | true =>
            have HP2 : Hid ((((b.take (j + 1)).filter (fromB base a)).foldl putP R1) = out) := aside (by
              have hq : fromB base a x = false := by rw [fromB_def]; rw [HU.out, HO.out]; rfl
              rw [HF.out, hq, if_neg (by simp), List.append_nil, HP.out])
            go_wp2_with (first | go_skip)
            go_roundw
            case rel => exact ⟨j + 1, out, A4, c4, by omega, by go_num, rfl, by omega, HP2, HR4, SR6, k6⟩
            case measure => simp [intOf]; omega
          | false =>
            cases o with
            | false =>
              have HP2 : Hid ((((b.take (j + 1)).filter (fromB base a)).foldl putP R1) = P) := aside (by
                have hq : fromB base a x = true := by rw [fromB_def]; rw [HU.out, HO.out]; rfl
                rw [HF.out, hq, if_pos rfl, List.foldl_append, HP.out, ← HPE.out]
                rfl)
              have HR2 := HPR
              go_wp2_with (first
                | go_skip
                | (refine wpList_load_at E rfl _ rfl g _ rfl x hr3 ?_))
              refine (cp _ SR6).mono ?_
              rintro e w7 ⟨A7, c7, rfl, S7, h7⟩
              have k7 := k6.trans (h7.mono k6.size)
              clear h7 cp hr3 SR6 k6
              go_wp2_with fail
              go_roundw
              case rel => exact ⟨j + 1, P, A7, c7, by omega, by go_num, rfl, by omega, HP2, HR2, S7, k7⟩
              case measure => simp [intOf]; omega
            | true =>
              have HP2 : Hid ((((b.take (j + 1)).filter (fromB base a)).foldl putP R1) = out) := aside (by
                have hq : fromB base a x = false := by rw [fromB_def]; rw [HU.out, HO.out]; rfl
                rw [HF.out, hq, if_neg (by simp), List.append_nil, HP.out])
              go_wp2_with (first | go_skip)
              go_roundw
              case rel => exact ⟨j + 1, out, A4, c4, by omega, by go_num, rfl, by omega, HP2, HR4, SR6, k6⟩
              case measure => simp [intOf]; omega
        · have e : j = b.length := by omega
          have HE2 : Hid (R2 = out) := aside (by rw [← HR2'.out, ← HP.out, e, List.take_length])
          have k9 := k8.trans (kb.mono hz8)
          clear Sbase Sa Sb HP
          go_wp2_with fail
          go_ret
          rw [HE2.out]
          exact ⟨A4, c4, rfl, SR, k9⟩

theorem merge_ret (A0 : Option Addr) (cap0 : Nat) (base : List Pr) (A1 : Option Addr) (cap1 : Nat) (a : List Pr) (A2 : Option Addr) (cap2 : Nat) (b : List Pr) (w : World) (S0 : SlR E w A0 cap0 base) (S1 : SlR E w A1 cap1 a) (S2 : SlR E w A2 cap2 b) (f0 : Fits base) (f1 : Fits a) (f2 : Fits b) (l1 : a.length ≤ 100000) (l2 : b.length ≤ 100000) :
    Calls Tryz.prog 56 #[.slice A0 base.length cap0, .slice A1 a.length cap1, .slice A2 b.length cap2] w (NewS E (mergeP base a b) w) := by
  cases h0 : mayP base with
  | false => rw [merge_no (.inl h0)]; exact merge_none A0 cap0 base A1 cap1 a A2 cap2 b w S0 S1 S2 f0 f1 f2 (.inl h0)
  | true =>
    cases h1 : mayP a with
    | false => rw [merge_no (.inr (.inl h1))]; exact merge_none A0 cap0 base A1 cap1 a A2 cap2 b w S0 S1 S2 f0 f1 f2 (.inr ⟨h0, .inl h1⟩)
    | true =>
      cases h2 : mayP b with
      | false => rw [merge_no (.inr (.inr h2))]; exact merge_none A0 cap0 base A1 cap1 a A2 cap2 b w S0 S1 S2 f0 f1 f2 (.inr ⟨h0, .inr ⟨h1, h2⟩⟩)
      | true =>
        have e : mergeP base a b = (b.filter (fromB base a)).foldl putP ((a.filter (fromA base b)).foldl putP []) := if_pos ⟨h0, h1, h2⟩
        rw [e]
        exact merge_yes A0 cap0 base A1 cap1 a A2 cap2 b w S0 S1 S2 f0 f1 f2 l1 l2 h0 h1 h2
end Go.Proofs.YtnjdkjkihbgkaaaGreat.PairU
namespace Go.Proofs.YtnjdkjkihbgkaaaGreat.OpenP
set_option maxRecDepth 100000
open Go Go.Deep Go.ChangeShapes Go.WideShapes Go.ChangeAt Go.RowKit Byt PairM RowS PairW

/-- A pair that came in. -/
structure Good (c : Pr) : Prop where
  key : c.key.size ≤ maxLen
  elem : c.elem.size ≤ maxLen
  node : In64 c.node
  seq : In64 c.seq
theorem i64_of {n : Int} (h : (Lit.int .i64 n).wf = true) : In64 n := by
  unfold In64
  simpa [Lit.wf, IntKind.min, IntKind.max, IntKind.bits, IntKind.signed] using h
section
variable {H : Type} {enc : TypeId × Value → H} {W : World} {sp : Nat → Bool} {hd : Bool}
theorem read_ev {t : TypeId} {f0 f1 : Field} (hs : Tryz.prog.underlying t = some (.struct #[f0, f1])) (hone : oneCellFields Tryz.prog #[f0, f1] = true) (hC : Tryz.prog.cellsOf t = 2)
    (h0 : Tryz.prog.underlying f0.type = some (.int .i64)) (h1 : Tryz.prog.underlying f1.type = some (.int .i64)) (fuel : Nat) (cs : List Value) (y : DataW H × List MemPlace)
    (h : DataW.trod enc Tryz.prog W 0 sp hd fuel t cs = some y) : ∃ m n : Int, cs = [.int .i64 m, .int .i64 n] ∧ In64 m ∧ In64 n := by
  obtain ⟨xs, n, _, _, hl, hlen, hf⟩ := DataW.trod_struct hs h
  rw [hC] at hl
  obtain ⟨a, b, rfl⟩ : ∃ a b, cs = [a, b] := by
    match cs, hl with
    | [a, b], _ => exact ⟨a, b, rfl⟩
  obtain ⟨y0, y1, rfl⟩ : ∃ a b, xs = [a, b] := by
    match xs, hlen with
    | [a, b], _ => exact ⟨a, b, rfl⟩
  obtain ⟨o0, k0⟩ := hone_of hone 0 f0 rfl
  obtain ⟨o1, k1⟩ := hone_of hone 1 f1 rfl
  have e0 := hf 0 f0 rfl
  have e1 := hf 1 f1 rfl
  rw [o0, k0] at e0
  rw [o1, k1] at e1
  simp only [List.drop_zero, List.take_succ_cons, List.take_zero, List.drop_succ_cons, List.getElem?_cons_zero, List.getElem?_cons_succ] at e0 e1
  obtain ⟨s, q0, _, w0⟩ := DataW.trod_int h0 e0
  obtain ⟨m, q1, _, w1⟩ := DataW.trod_int h1 e1
  simp only [List.cons.injEq, and_true] at q0 q1
  subst q0 q1
  exact ⟨s, m, rfl, i64_of w0, i64_of w1⟩
theorem read_fields {t u : TypeId} {f0 f1 f3 g0 g1 : Field} (hs : Tryz.prog.underlying t = some (.struct #[f0, f1, f3])) (hC : Tryz.prog.cellsOf t = 4)
    (o0 : f0.offset = 0) (o1 : f1.offset = 1) (o3 : f3.offset = 2) (k0 : Tryz.prog.cellsOf f0.type = 1) (k1 : Tryz.prog.cellsOf f1.type = 1)
    (h0 : Tryz.prog.underlying f0.type = some .string) (h1 : Tryz.prog.underlying f1.type = some .string)
    (h3 : f3.type = u) (hu : Tryz.prog.underlying u = some (.struct #[g0, g1])) (hone : oneCellFields Tryz.prog #[g0, g1] = true) (k3 : Tryz.prog.cellsOf u = 2) (h4 : Tryz.prog.underlying g0.type = some (.int .i64)) (h5 : Tryz.prog.underlying g1.type = some (.int .i64))
    (fuel : Nat) (cs : List Value) (y : DataW H × List MemPlace) (h : DataW.trod enc Tryz.prog W 0 sp hd fuel t cs = some y) : ∃ x : Pr, cs = E.enc x ∧ Good x := by
  obtain ⟨xs, n, _, _, hl, hlen, hf⟩ := DataW.trod_struct hs h
  rw [hC] at hl
  obtain ⟨a, b, c, d, rfl⟩ : ∃ a b c d, cs = [a, b, c, d] := by
    match cs, hl with
    | [a, b, c, d], _ => exact ⟨a, b, c, d, rfl⟩
  obtain ⟨y0, y1, y3, rfl⟩ : ∃ a b c, xs = [a, b, c] := by
    match xs, hlen with
    | [a, b, c], _ => exact ⟨a, b, c, rfl⟩
  have e0 := hf 0 f0 rfl
  have e1 := hf 1 f1 rfl
  have e3 := hf 2 f3 rfl
  rw [o0, k0] at e0
  rw [o1, k1] at e1
  rw [o3, h3, k3] at e3
  simp only [List.drop_zero, List.take_succ_cons, List.take_zero, List.drop_succ_cons, List.getElem?_cons_zero, List.getElem?_cons_succ] at e0 e1 e3
  obtain ⟨s, q0, _, w0⟩ := DataW.trod_string h0 e0
  obtain ⟨v, q1, _, w1⟩ := DataW.trod_string h1 e1
  obtain ⟨m, k, q3, w3, w4⟩ := read_ev hu hone k3 h4 h5 _ _ _ e3
  simp only [List.cons.injEq, and_true] at q0 q1 q3
  obtain ⟨q3, q4⟩ := q3
  subst q0 q1 q3 q4
  exact ⟨⟨s, v, m, k⟩, rfl, ⟨w0, w1, w3, w4⟩⟩
theorem read_pair (fuel : Nat) (cs : List Value) (y : DataW H × List MemPlace)
    (h : DataW.trod enc Tryz.prog W 0 sp hd fuel 63 cs = some y) : ∃ x : Pr, cs = E.enc x ∧ Good x :=
  read_fields Tryz.underlying63 (by kernel_rfl) rfl rfl rfl (by kernel_rfl) (by kernel_rfl) Tryz.underlying9 Tryz.underlying9
    rfl Tryz.underlying30 (by kernel_rfl) (by kernel_rfl) Tryz.underlying3 Tryz.underlying3 fuel cs y h
theorem open_pairs {base : Nat} {v : Value} {d : DataW H} {p : List MemPlace}
    (hval : Value.okWide Tryz.prog W .any base 24 v) (h : DataW.Trod enc Tryz.prog W 0 (fun _ => true) true 24 v d p) : ∃ A cap l, v = .slice A (List.length l) cap ∧ SlR E W A cap l ∧ ∀ x ∈ l, Good x :=
  OpenR.open_rows E (by kernel_rfl) read_pair hval h
theorem open_pair {base : Nat} {v : Value} {d : DataW H} {p : List MemPlace}
    (hval : Value.okWide Tryz.prog W .any base 63 v) (h : DataW.Trod enc Tryz.prog W 0 (fun _ => true) true 63 v d p) : ∃ c : Pr, v = .agg (pc c) ∧ Good c := by
  obtain ⟨cs, rfl, hsz⟩ := okWide_struct Tryz.underlying63 hval
  obtain ⟨fuel, hf⟩ := h
  obtain ⟨x, hx, hg⟩ := read_pair fuel _ _ hf
  refine ⟨x, ?_, hg⟩
  have hx2 : cs.toList = E.enc x := by simpa [Value.cells] using hx
  have : cs.toList = (pc x).toList := hx2
  rw [show cs = pc x from Array.toList_inj.1 this]
end
end Go.Proofs.YtnjdkjkihbgkaaaGreat.OpenP
namespace Go.Proofs.YtnjdkjkihbgkaaaGreat.PairX
set_option maxRecDepth 100000
open Go Go.RowKit Byt OpsM Rise PairM PairN RowS RowB PairW PairS PairQ Txt

theorem max_of {l : List Pr} (h : ∀ c ∈ l, OpenP.Good c) : ∀ c ∈ l, c.key.size ≤ maxLen ∧ c.elem.size ≤ maxLen := fun c hc => ⟨(h c hc).key, (h c hc).elem⟩
theorem few_len {l : List Pr} (h : fewB l = true) : l.length ≤ 30 := by
  unfold fewB at h
  simp only [Bool.and_eq_true, decide_eq_true_eq] at h
  exact h.1
theorem few_fits {l : List Pr} (h : fewB l = true) (hg : ∀ c ∈ l, OpenP.Good c) : Fits l := by
  unfold fewB at h
  simp only [Bool.and_eq_true, decide_eq_true_eq, List.all_eq_true] at h
  intro c hc
  have h1 := h.2 c hc
  have h2 := hg c hc
  exact ⟨by omega, by omega, h2.node, h2.seq⟩
theorem one_of {c : Pr} (h : OpenP.Good c) : ∀ x ∈ [c], OpenP.Good x := fun x hx => by
  simp at hx
  rw [hx]
  exact h
theorem two_of {c d : Pr} (h : OpenP.Good c) (h2 : OpenP.Good d) : ∀ x ∈ [c, d], OpenP.Good x := fun x hx => by
  simp at hx
  rcases hx with rfl | rfl
  · exact h
  · exact h2
theorem fit_one {c : Pr} (h : fewB [c] = true) (hg : OpenP.Good c) : Fit c := few_fits h (one_of hg) c (by simp)
theorem fit_two {c d : Pr} (h : fewB [c, d] = true) (hg : OpenP.Good c) (hg2 : OpenP.Good d) : Fit c ∧ Fit d := ⟨few_fits h (two_of hg hg2) c (by simp), few_fits h (two_of hg hg2) d (by simp)⟩
theorem few_one {c : Pr} (h : fewB [c] = true) : c.key.size ≤ 100 ∧ c.elem.size ≤ 100 := by
  unfold fewB at h
  simp only [Bool.and_eq_true, decide_eq_true_eq, List.all_eq_true] at h
  exact h.2 c (by simp)
theorem few_two {c d : Pr} (h : fewB [c, d] = true) : (c.key.size ≤ 100 ∧ c.elem.size ≤ 100) ∧ (d.key.size ≤ 100 ∧ d.elem.size ≤ 100) := by
  unfold fewB at h
  simp only [Bool.and_eq_true, decide_eq_true_eq, List.all_eq_true] at h
  exact ⟨h.2 c (by simp), h.2 d (by simp)⟩
theorem add_fits {l : List Pr} {p : Pr} (hl : Fits l) (hp : Fit p) : Fits (addP l p) := by
  unfold addP
  split
  · intro x hx
    rcases (put_mem x).1 hx with rfl | h
    · exact hp
    · exact hl x h
  · intro x hx; simp at hx
theorem del_fits {l : List Pr} {k e : ByteArray} (hl : Fits l) : Fits (delP l k e) := by
  unfold delP
  split
  · intro x hx
    exact hl x (List.mem_filter.1 hx).1
  · intro x hx; simp at hx
theorem merge_fits {base a b : List Pr} (ha : Fits a) (hb : Fits b) : Fits (mergeP base a b) := by
  unfold mergeP
  split
  · intro x hx
    rw [fold_mem, fold_mem] at hx
    rcases hx with h | h | h
    · exact hb x (List.mem_filter.1 h).1
    · exact ha x (List.mem_filter.1 h).1
    · simp at h
  · intro x hx; simp at hx
theorem equal_yes {x y : Pr} (h : x = y) (w : World) : (Op.equalIn 10000 63 (.agg (E.enc x).toArray) (.agg (E.enc y).toArray)).run Tryz.prog w = .ok true w := by
  have := equal w x y
  rw [sameN_iff.2 h] at this
  exact this
theorem equal_no {x y : Pr} (h : x ≠ y) (w : World) : (Op.equalIn 10000 63 (.agg (E.enc x).toArray) (.agg (E.enc y).toArray)).run Tryz.prog w = .ok false w := by
  have := equal w x y
  cases e : sameN x y with
  | false =>
    rw [e] at this
    exact this
  | true => exact absurd (sameN_iff.1 e) h
/-- Two pairs compared. -/
theorem equal_is {x y : Pr} {b : Bool} (h : b = true ↔ x = y) (w : World) : (Op.equalIn 10000 63 (.agg (E.enc x).toArray) (.agg (E.enc y).toArray)).run Tryz.prog w = .ok b w := by
  cases b with
  | true => exact equal_yes (h.1 rfl) w
  | false => exact equal_no (fun e => by cases h.2 e) w
/-- One more looked at. -/
theorem in_step {b B : Bool} {l : List Pr} {k : Nat} {x y : Pr} (hy : l[k]? = some y) (h : b = (B || decide (x ∈ l.take k))) : (B || decide (x ∈ l.take (k + 1))) = (b || decide (y = x)) := by
  obtain ⟨hk, rfl⟩ := List.getElem?_eq_some_iff.1 hy
  rw [h, List.take_succ_eq_append_getElem hk, Bool.or_assoc]
  congr 1
  rw [Bool.eq_iff_iff]
  simp only [decide_eq_true_eq, Bool.or_eq_true, List.mem_append, List.mem_singleton]
  exact ⟨fun h => h.imp id Eq.symm, fun h => h.imp id Eq.symm⟩
/-- Is a text among these? -/
def inT (x : ByteArray) (l : List ByteArray) : Bool := l.any fun y => decide (y = x)
theorem inT_iff {x : ByteArray} {l : List ByteArray} : inT x l = true ↔ x ∈ l := by
  unfold inT
  rw [List.any_eq_true]
  exact ⟨fun ⟨y, h1, h2⟩ => by rw [← of_decide_eq_true h2]; exact h1, fun h => ⟨x, h, decide_eq_true rfl⟩⟩
theorem txt_step {b : Bool} {l : List ByteArray} {k : Nat} {x y : ByteArray} (hy : l[k]? = some y) (h : b = inT x (l.take k)) : inT x (l.take (k + 1)) = (b || decide (y = x)) := by
  obtain ⟨hk, rfl⟩ := List.getElem?_eq_some_iff.1 hy
  rw [h, List.take_succ_eq_append_getElem hk]
  unfold inT
  rw [List.any_append]
  simp
theorem rises_at {l : List ByteArray} (h : Rises id ltS l) {m : Nat} {v z : ByteArray} (hv : l[m]? = some v) (hz : l[m + 1]? = some z) : ltS v z = true := by
  obtain ⟨h1, rfl⟩ := List.getElem?_eq_some_iff.1 hv
  obtain ⟨h2, rfl⟩ := List.getElem?_eq_some_iff.1 hz
  exact List.pairwise_iff_getElem.1 h m (m + 1) h1 h2 (by omega)
/-- The chapter's example. -/
def ax : Pr := ⟨⟨#[97]⟩, ⟨#[120]⟩, 0, 1⟩
def ay : Pr := ⟨⟨#[97]⟩, ⟨#[120]⟩, 0, 2⟩
theorem may_x : mayP [ax] = true := by kernel_rfl
theorem may_y : mayP [ay] = true := by kernel_rfl
theorem may_xy : mayP [ax, ay] = true := by kernel_rfl
theorem one_y : oneP ay = true := by kernel_rfl
theorem less_ex : lessP ax ay = true := by kernel_rfl
theorem elems_ex : elemsP [ax, ay] ⟨#[97]⟩ = [⟨#[120]⟩] := by kernel_rfl
theorem del_ex : delP [ax] ⟨#[97]⟩ ⟨#[120]⟩ = [] := by kernel_rfl
theorem add_ex : addP [ax] ay = [ax, ay] := by kernel_rfl
theorem merge_ex : mergeP [ax] [] [ax, ay] = [ay] := by kernel_rfl
end Go.Proofs.YtnjdkjkihbgkaaaGreat.PairX
namespace Go.Proofs.YtnjdkjkihbgkaaaGreat.GrewM
set_option maxRecDepth 100000
open Go Go.Sort Go.RowKit Go.Lib

/-- Draws and new blocks alone. -/
def Grew (w w' : World) : Prop := ∃ q os, w' = grow (w.drewN q) os
theorem Grew.refl (w : World) : Grew w w := ⟨0, #[], by rw [grow_empty]; rfl⟩
theorem Grew.alloc {w w' : World} (h : Grew w w') (o : Obj) : Grew w (w'.alloc o) := by
  obtain ⟨q, os, rfl⟩ := h
  exact ⟨q, os ++ #[o], by rw [alloc_eq_grow, grow_grow]⟩
theorem drewN_grow (w : World) (os : Array Obj) (n : Nat) : (grow w os).drewN n = grow (w.drewN n) os := rfl
theorem drewN_drewN (w : World) (m n : Nat) : (w.drewN m).drewN n = w.drewN (m + n) := by unfold World.drewN; simp [Nat.add_assoc]
theorem Grew.drewN {w w' : World} (h : Grew w w') (n : Nat) : Grew w (w'.drewN n) := by
  obtain ⟨q, os, rfl⟩ := h
  exact ⟨q + n, os, by rw [drewN_grow, drewN_drewN]⟩
theorem Grew.drew {w w' : World} (h : Grew w w') : Grew w w'.drew := h.drewN 1
theorem Grew.trans {w w' w'' : World} (h : Grew w w') (h' : Grew w' w'') : Grew w w'' := by
  obtain ⟨q, os, rfl⟩ := h'
  obtain ⟨p, os', e⟩ := h.drewN q
  exact ⟨p, os' ++ os, by rw [e, grow_grow]⟩
theorem Grew.below {w w' : World} (h : Grew w w') : Below w.heap.size w w' := by
  obtain ⟨q, os, rfl⟩ := h
  refine ⟨rfl, rfl, rfl, ?_, fun k hk => Sort.heap_grow_old _ _ hk⟩
  rw [Sort.size_grow]
  exact Nat.le_add_right _ _
end Go.Proofs.YtnjdkjkihbgkaaaGreat.GrewM
