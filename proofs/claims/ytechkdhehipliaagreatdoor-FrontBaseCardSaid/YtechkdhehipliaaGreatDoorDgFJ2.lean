/- What the document's Find, Part and Anc of package dag return: contracts. | Slices of ints in memory: read, cut, appended to; and what is put in at its place. No condition. -/
import Derived.Test.YtechkdhehipliaaGreatDoorDgCJ2
import Derived.Test.YtechkdhehipliaaGreatDoorDgGJ3
namespace Go.Proofs.YtechkdhehipliaaGreatDoor.DgF
set_option maxRecDepth 100000
open Go Go.Sort Go.RowKit Byt IdM IdW OpsM OpsW CmM StW CmW CmX CmY DgM DgN DgP DgW DgT DgR DgK DgO DgC
open Classical

noncomputable def partC (l : List Com) (a : List Idn) : List Com := if Closed hashK l then DgM.part hashK l (· ∈ a) else []
noncomputable def ancC (l : List Com) (a : List Idn) : List Idn := if Closed hashK l then anc hashK l a else []
/-- Commits in a slice are handed back. -/
def NewC (m : List Com) (w : World) (e : Ending) (w' : World) : Prop := ∃ A cap l, e = .returned (.slice A (List.length l) cap) ∧ SlK w' A cap l ∧ coms l = m ∧ Below w.heap.size w w'
theorem own_in {w : World} {base n : Nat} {v : Value} {l : List Cv} (h : w.ownsRow base 38 8 v n (RowS.flat KE l)) (he : ∀ x ∈ l, In w x ∧ Fit x.c) : ∃ A cap, v = .slice A l.length cap ∧ SlK w A cap l := by
  obtain ⟨A, cap, e, S⟩ := RowS.SlR.own (E := KE) h
  exact ⟨A, cap, e, S, he⟩
theorem closed_may {l : List Com} (C : Closed hashK l) : l.all mayK = true := List.all_eq_true.2 fun c hc => C.may c hc
theorem filter_next {α : Type} (p : α → Bool) {l : List α} {k : Nat} {x : α} (h : l[k]? = some x) : (l.take (k + 1)).filter p = (l.take k).filter p ++ (if p x = true then [x] else []) := by
  obtain ⟨hk, e⟩ := List.getElem?_eq_some_iff.1 h
  rw [List.take_succ_eq_append_getElem hk, List.filter_append, e]
  congr 1
  by_cases hp : p x = true
  · rw [if_pos hp, List.filter_cons_of_pos hp, List.filter_nil]
  · rw [if_neg hp, List.filter_cons_of_neg (by simpa using hp), List.filter_nil]
theorem map_filter {l : List Cv} {a : List Idn} : coms (l.filter fun v => decide (hashK v.c ∈ a)) = DgM.part hashK (coms l) (· ∈ a) := by
  unfold coms DgM.part
  rw [List.filter_map]
  congr 1
  refine List.filter_congr fun v _ => ?_
  rw [Bool.eq_iff_iff]
  simp
set_option maxRecDepth 100000 in
set_option maxHeartbeats 16000000 in
theorem part_ret (A A' : Option Addr) (cap cap' : Nat) (l : List Cv) (a : List Idn) (w : World) (S : SlK w A cap l) (T : SlI w A' cap' a) (ho : ∀ v ∈ l, CmR.Okay v.c) (hl : l.length ≤ 1000) :
    Calls Tryz.prog 22 #[.slice A l.length cap, .slice A' a.length cap'] w (NewC (partC (coms l) a) w) := by
  have hmax := S.len
  have hmaxa : a.length ≤ 9223372036854775807 := by have := T.1; have := T.2.1; unfold maxLen at this; omega
  have hcl := closed_ret A cap l w S ho hl
  obtain ⟨m, hm⟩ : ∃ m, partC (coms l) a = m := ⟨_, rfl⟩
  rw [hm]
  unfold NewC
  by_cases hC : Closed hashK (coms l)
  · rw [decide_eq_true hC] at hcl
    have hall := closed_may hC
    have HM : Hid (coms (l.filter fun v => decide (hashK v.c ∈ a)) = m) := aside (by rw [map_filter, ← hm, partC, if_pos hC])
    have hids := fun W (T : SlK W A cap l) => ids_ret A cap l W T ho hl
    unfold NewD at hids
    rw [idsD_all hall] at hids
    obtain ⟨all, hal⟩ : ∃ all, (coms l).map hashK = all := ⟨_, rfl⟩
    have hallen : all.length = l.length := by rw [← hal, List.length_map, coms_len]
    have HAT : Hid (∀ (i : Nat) (x : Cv), l[i]? = some x → all[i]? = some (hashK x.c)) := aside (fun i x hx => by rw [← hal, List.getElem?_map, coms_at hx]; rfl)
    rw [hal, hallen] at hids
    have HALL := aside hallen
    clear hm hC hall hal ho hallen
    go_enter Tryz.func22, Tryz.ntmps22
    go_wp2_with (first | go_skip)
    refine hcl.mono ?_
    rintro e w1 ⟨rfl, k1⟩
    clear hcl
    go_wp2_with (first | go_skip)
    refine (hids _ (S.below k1)).mono ?_
    rintro e w2 ⟨A1, c1, rfl, T1, k2⟩
    have b2 := k1.trans (k2.mono k1.size)
    have HS := aside (S.below b2)
    have HT := aside (T.below b2)
    have HT1 := aside T1
    clear hids S T T1 k1 k2
    go_wp2_with (first | go_skip)
    go_loopw [7, 8] (fun o i wr => ∃ (k n : Nat), k ≤ l.length ∧ n ≤ k ∧ i = .int .i64 k ∧ Hid (wr.ownsRow w2.heap.size 38 8 o n (RowS.flat KE ((l.take k).filter fun v => decide (hashK v.c ∈ a)))) ∧ Below w2.heap.size w2 wr) (fun _ i _ => l.length - (intOf i).toNat)
    case atStart => exact ⟨0, 0, Nat.zero_le _, Nat.zero_le _, rfl, aside ⟨rfl, .inl ⟨rfl, rfl⟩⟩, Below.refl _ _⟩
    case round =>
      obtain ⟨k, n, hk, hnk, rfl, HO, kb⟩ := hrel
      by_cases hlt : k < l.length
      · obtain ⟨b, off, rfl, hbw, hrg⟩ := HS.out.plain (by omega)
        obtain ⟨x, hx⟩ : ∃ x, l[k]? = some x := ⟨_, List.getElem?_eq_getElem hlt⟩
        obtain ⟨a1, o1, rfl, hb1, hr1⟩ := SlI.plain HT1.out (by rw [HALL.out]; omega)
        have ra := IdW.range_below (hr1 k (by rw [HALL.out]; exact hlt)) kb
        obtain ⟨h, hh⟩ : ∃ h, hashK x.c = h := ⟨_, rfl⟩
        rw [show all.getD k nought = h by rw [List.getD_eq_getElem?_getD, HAT.out k x hx, hh]; rfl] at ra
        have rx := hrg k x hx
        have p0 : (k : Int) < l.length := by omega
        have m0 : ((k : Int)).toNat = k := by omega
        have hhas := IdV.rhas_ret A' cap' a h _ (HT.out.below kb)
        obtain ⟨z, hz⟩ : ∃ z, decide (h ∈ a) = z := ⟨_, rfl⟩
        have HN := aside (filter_next (fun v : Cv => decide (hashK v.c ∈ a)) hx)
        have HH := aside hh
        have HZ := aside hz
        rw [hz] at hhas
        clear hrg hr1 hx hh hz
        go_wp2_with (first | go_skip | (refine wpList_load_id rfl _ rfl _ _ rfl h ra ?_))
        refine hhas.mono ?_
        rintro e w3 ⟨rfl, k3⟩
        have b3 := kb.trans (k3.mono kb.size)
        have O3 := aside (owns_below HO.out k3)
        have rx3 := range_on rx b3
        clear hhas kb k3 ra HO
        cases z with
        | false =>
          have HO2 := aside (show w3.ownsRow w2.heap.size 38 8 _ n (RowS.flat KE ((l.take (k + 1)).filter fun v => decide (hashK v.c ∈ a))) by rw [HN.out, if_neg (by rw [HH.out]; exact fun hc => by rw [hc] at HZ; cases HZ.out), List.append_nil]; exact O3.out)
          clear O3 HN HZ rx3
          go_wp2_with (first | go_skip)
          go_roundw
          case rel => exact ⟨k + 1, n, by omega, by omega, by go_num, HO2, b3⟩
          case measure => simp [intOf]; omega
        | true =>
          obtain ⟨ms, hms⟩ : ∃ ms, (l.take k).filter (fun v => decide (hashK v.c ∈ a)) = ms := ⟨_, rfl⟩
          rw [hms] at O3 HN
          have HN2 : Hid ((l.take (k + 1)).filter (fun v => decide (hashK v.c ∈ a)) = ms ++ [x]) := aside (by rw [HN.out, if_pos (by rw [HH.out]; exact HZ.out)])
          clear HN HZ hms
          go_wp2_with (first | go_skip | (refine load_at rfl _ rfl _ _ rfl x rx3 ?_) | (refine RowC.wpList_lit1 KE (of_decide_eq_true rfl) rfl _ rfl x rfl ?_; intro w4 S4 k4; have b4 := b3.trans (k4.mono b3.size); have O4 := aside (owns_below O3.out k4)) | (refine RowS.wpList_append KE rfl (.tmp 29) (.tmp 34) rfl w2.heap.size _ n ms rfl O4.out _ 1 1 [x] rfl rfl S4 (by omega) b4.size ?_; intro v5 w5 o5 g5))
          have b5 : Below w2.heap.size w2 w5 := below_grown b4 b4.size g5 (fun q hq => (O4.out.lt q hq).1)
          have HO5 := aside (show w5.ownsRow w2.heap.size 38 8 v5 (n + 1) (RowS.flat KE ((l.take (k + 1)).filter fun v => decide (hashK v.c ∈ a))) by rw [HN2.out]; exact o5)
          clear O3 O4 o5 g5 b4 S4 HN2
          go_roundw
          case rel => exact ⟨k + 1, n + 1, by omega, by omega, by go_num, HO5, b5⟩
          case measure => simp [intOf]; omega
      · have HO2 := HO.out
        rw [List.take_of_length_le (by omega)] at HO2
        have b3 := b2.trans (kb.mono b2.size)
        obtain ⟨A6, c6, rfl, S6⟩ := own_in HO2 (fun x hx => ⟨(HS.out.each x (List.mem_filter.1 hx).1).1.below kb, (HS.out.each x ((List.mem_filter.1 hx).1)).2⟩)
        have HS6 := aside S6
        have pn : ¬ (k : Int) < l.length := by omega
        clear HO HO2 S6
        obtain ⟨ms, hms⟩ : ∃ ms, l.filter (fun v => decide (hashK v.c ∈ a)) = ms := ⟨_, rfl⟩
        rw [hms] at HS6 HM ⊢
        clear hms
        go_wp2_with (first | go_skip)
        go_ret
        exact ⟨A6, c6, ms, rfl, HS6.out, HM.out, b3⟩
  · rw [decide_eq_false hC] at hcl
    have HM : Hid (m = []) := aside (by rw [← hm, partC, if_neg hC])
    clear hm hC ho S T
    go_enter Tryz.func22, Tryz.ntmps22
    go_wp2_with (first | go_skip)
    refine hcl.mono ?_
    rintro e w1 ⟨rfl, k1⟩
    clear hcl
    go_wp2_with (first | go_skip)
    go_ret
    exact ⟨none, 0, [], rfl, SlK.nil _, HM.out.symm, k1⟩
/-- What is looked for, by places. -/
def Seen (all a : List Idn) (K : Nat → Nat → Bool) (k : Nat) (h : Idn) (j : Nat) : Prop := h ∈ a ∨ ∃ j' y, j' < j ∧ all[j']? = some y ∧ y ∈ a ∧ K j' k = true
theorem seen_next {all a : List Idn} {K : Nat → Nat → Bool} {k : Nat} {h y : Idn} {j : Nat} (hy : all[j]? = some y) : Seen all a K k h (j + 1) ↔ Seen all a K k h j ∨ (y ∈ a ∧ K j k = true) := by
  unfold Seen
  constructor
  · rintro (h1 | ⟨j', y', h1, h2, h3, h4⟩)
    · exact .inl (.inl h1)
    · by_cases e : j' = j
      · subst e
        rw [hy] at h2
        rw [← Option.some.inj h2] at h3
        exact .inr ⟨h3, h4⟩
      · exact .inl (.inr ⟨j', y', by omega, h2, h3, h4⟩)
  · rintro ((h1 | ⟨j', y', h1, h2, h3, h4⟩) | ⟨h3, h4⟩)
    · exact .inl h1
    · exact .inr ⟨j', y', by omega, h2, h3, h4⟩
    · exact .inr ⟨j, y, by omega, hy, h3, h4⟩
theorem seen_below {l : List Com} {a : List Idn} {K : Nat → Nat → Bool} (C : Closed hashK l) (hW : Whole l (l.map hashK) K) {k : Nat} {h : Idn} (hk : (l.map hashK)[k]? = some h) : Seen (l.map hashK) a K k h l.length ↔ DgM.Below hashK l a h := by
  unfold Seen DgM.Below
  constructor
  · rintro (h1 | ⟨j', y, _, h2, h3, h4⟩)
    · exact ⟨List.mem_of_getElem? hk, .inl h1⟩
    · exact ⟨List.mem_of_getElem? hk, .inr ⟨y, h3, (kni_iff C.nodup C.found h2 hk).1 ((hW j' k).1 h4)⟩⟩
  · rintro ⟨_, h1 | ⟨y, h1, h2⟩⟩
    · exact .inl h1
    · obtain ⟨j', hj'⟩ := List.mem_iff_getElem?.1 (kn_src h2)
      exact .inr ⟨j', y, by have := (List.getElem?_eq_some_iff.1 hj').1; rwa [List.length_map] at this, hj', h1, (hW j' k).2 ((kni_iff C.nodup C.found hj' hk).2 h2)⟩
set_option maxRecDepth 100000 in
set_option maxHeartbeats 16000000 in
theorem anc_ret (A A' : Option Addr) (cap cap' : Nat) (l : List Cv) (a : List Idn) (w : World) (S : SlK w A cap l) (T : SlI w A' cap' a) (ho : ∀ v ∈ l, CmR.Okay v.c) (hl : l.length ≤ 1000) :
    Calls Tryz.prog 19 #[.slice A l.length cap, .slice A' a.length cap'] w (NewD (ancC (coms l) a) w) := by
  have hmax := S.len
  have hmaxa : a.length ≤ 9223372036854775807 := by have := T.1; have := T.2.1; unfold maxLen at this; omega
  have hcl := closed_ret A cap l w S ho hl
  obtain ⟨m, hm⟩ : ∃ m, ancC (coms l) a = m := ⟨_, rfl⟩
  rw [hm]
  unfold NewD
  by_cases hC : Closed hashK (coms l)
  · rw [decide_eq_true hC] at hcl
    have hcm := closed_may hC
    have hids := fun W (T : SlK W A cap l) => ids_ret A cap l W T ho hl
    unfold NewD at hids
    rw [idsD_all hcm] at hids
    have HSB : Hid (∀ K, Whole (coms l) ((coms l).map hashK) K → ∀ k h, ((coms l).map hashK)[k]? = some h → (Seen ((coms l).map hashK) a K k h l.length ↔ DgM.Below hashK (coms l) a h)) := aside (fun K hW k h hk => by
      rw [← seen_below hC hW hk, coms_len])
    have hm2 : IdM.sort (((coms l).map hashK).filter fun x => decide (DgM.Below hashK (coms l) a x)) = m := by rw [← hm, ancC, if_pos hC]; rfl
    obtain ⟨all, hal⟩ : ∃ all, (coms l).map hashK = all := ⟨_, rfl⟩
    have hallen : all.length = l.length := by rw [← hal, List.length_map, coms_len]
    rw [hal] at hids HSB hm2
    rw [hallen] at hids
    have HALL := aside hallen
    have HM := aside hm2
    clear hm hC hcm hal ho hm2
    go_enter Tryz.func19, Tryz.ntmps19
    go_wp2_with (first | go_skip)
    refine hcl.mono ?_
    rintro e w1 ⟨rfl, k1⟩
    clear hcl
    go_wp2_with (first | go_skip)
    refine (hids _ (S.below k1)).mono ?_
    rintro e w2 ⟨A1, c1, rfl, T1, k2⟩
    have b2 := k1.trans (k2.mono k1.size)
    have hkn := knows_ret A A1 cap c1 l all w2 (S.below b2) T1 hallen hl
    unfold NewT at hkn
    rw [coms_len, hallen] at hkn
    clear hids hallen k1 k2
    go_wp2_with (first | go_skip)
    refine hkn.mono ?_
    rintro e w3 ⟨v, gs, K, rfl, hgl, TB, hW, k3⟩
    have b3 := b2.trans (k3.mono b2.size)
    have HS := aside (S.below b3)
    have HT := aside (T.below b3)
    have HT1 := aside (T1.below k3)
    have HTB := aside TB
    have HGL := aside hgl
    have HW := aside (HSB.out K hW)
    clear hkn S T T1 TB hW hgl HSB b2 k3
    go_wp2_with (first | go_skip)
    go_loopw [8, 9] (fun o i wr => ∃ (k n : Nat), k ≤ l.length ∧ n ≤ k ∧ i = .int .i64 k ∧ Hid (wr.ownsRow w3.heap.size 42 32 o n (bv (flat ((all.take k).filter fun x => decide (DgM.Below hashK (coms l) a x))))) ∧ Below w3.heap.size w3 wr) (fun _ i _ => l.length - (intOf i).toNat)
    case atStart => exact ⟨0, 0, Nat.zero_le _, Nat.zero_le _, rfl, aside ⟨rfl, .inl ⟨rfl, rfl⟩⟩, Below.refl _ _⟩
    case round =>
      obtain ⟨k, n, hk, hnk, rfl, HO, kb⟩ := hrel
      by_cases hlt : k < l.length
      · obtain ⟨a1, o1, rfl, hb1, hr1⟩ := SlI.plain HT1.out (by rw [HALL.out]; omega)
        have HR1 := aside hr1
        obtain ⟨h, hh⟩ : ∃ h, all[k]? = some h := ⟨_, List.getElem?_eq_getElem (by rw [HALL.out]; exact hlt)⟩
        have ra0 := hr1 k (by rw [HALL.out]; exact hlt)
        rw [show all.getD k nought = h by rw [List.getD_eq_getElem?_getD, hh]; rfl] at ra0
        have ra := IdW.range_below ra0 kb
        obtain ⟨r, rc, rfl, _⟩ := HTB.out.at (by rw [HGL.out]; omega)
        have p0 : (k : Int) < l.length := by omega
        have m0 : ((k : Int)).toNat = k := by omega
        have hhas := IdV.rhas_ret A' cap' a h _ (HT.out.below kb)
        obtain ⟨z, hz⟩ : ∃ z, decide (h ∈ a) = z := ⟨_, rfl⟩
        have HH := aside hh
        have HN := aside (filter_next (fun x : Idn => decide (DgM.Below hashK (coms l) a x)) hh)
        have HZ : Hid (z = true ↔ Seen all a K k h 0) := aside (by
          rw [← hz, decide_eq_true_eq]
          exact ⟨fun h => .inl h, fun h => h.elim id (fun ⟨j', _, h1, _⟩ => absurd h1 (Nat.not_lt_zero _))⟩)
        rw [hz] at hhas
        clear hr1 hh hz
        go_wp2_with (first | go_skip | (refine wpList_load_id rfl _ rfl _ _ rfl h ra ?_))
        refine hhas.mono ?_
        rintro e w4 ⟨rfl, k4⟩
        have b4 := kb.trans (k4.mono kb.size)
        have O4 := aside (owns_below HO.out k4)
        clear hhas kb k4 ra HO
        go_wp2_with (first | go_skip)
        go_loopw [10, 11] (fun bo i wr => ∃ (j : Nat) (z : Bool), j ≤ l.length ∧ i = .int .i64 j ∧ bo = .bool z ∧ Hid (z = true ↔ Seen all a K k h j) ∧ Below w4.heap.size w4 wr) (fun _ i _ => l.length - (intOf i).toNat)
        case atStart => exact ⟨0, z, Nat.zero_le _, rfl, rfl, HZ, Below.refl _ _⟩
        case round =>
          clear HZ
          obtain ⟨j, z, hj, rfl, rfl, HZ, kc⟩ := hrel
          have kb := b4.trans (kc.mono b4.size)
          by_cases hjl : j < l.length
          · obtain ⟨y, hy⟩ : ∃ y, all[j]? = some y := ⟨_, List.getElem?_eq_getElem (by rw [HALL.out]; exact hjl)⟩
            have ry := IdW.range_below (HR1.out j (by rw [HALL.out]; exact hjl)) kb
            rw [show all.getD j nought = y by rw [List.getD_eq_getElem?_getD, hy]; rfl] at ry
            have pj : (j : Int) < l.length := by omega
            have mj : ((j : Int)).toNat = j := by omega
            have hhas := IdV.rhas_ret A' cap' a y _ (HT.out.below kb)
            obtain ⟨z2, hz2⟩ : ∃ z, decide (y ∈ a) = z := ⟨_, rfl⟩
            have HZ2 := aside hz2
            have HSN := aside (seen_next (a := a) (K := K) (k := k) (h := h) hy)
            rw [hz2] at hhas
            obtain ⟨gj, hgj⟩ : ∃ g, gs[j]? = some g := ⟨_, List.getElem?_eq_getElem (by rw [HGL.out]; exact hjl)⟩
            have HGJ := aside hgj
            have pjg : (j : Int) < gs.length := by rw [HGL.out]; exact pj
            clear hy hz2 hgj
            go_wp2_with (first | go_skip | (refine wpList_load_id rfl _ rfl _ _ rfl y ry ?_))
            refine hhas.mono ?_
            rintro e w5 ⟨rfl, k5⟩
            have b5 := kc.trans (k5.mono kc.size)
            have TB := HTB.out.below (kb.trans (k5.mono kb.size))
            have cj : w5.cell? ⟨r, j, none⟩ = some (.slice (some ⟨gj, 0, none⟩) l.length l.length) := TB.cell HGJ.out
            have bj := TB.bit HGJ.out (j := k) hlt
            obtain ⟨u, hu⟩ : ∃ u, K j k = u := ⟨_, rfl⟩
            rw [hu] at bj
            have HU := aside hu
            clear hhas kb k5 ry kc TB hu
            have hw : z = true ∨ (z = false ∧ z2 = false) ∨ (z = false ∧ z2 = true ∧ u = false) ∨ (z = false ∧ z2 = true ∧ u = true) := by cases z <;> cases z2 <;> cases u <;> simp
            rcases hw with rfl | ⟨rfl, rfl⟩ | ⟨rfl, rfl, rfl⟩ | ⟨rfl, rfl, rfl⟩
            · have HZn : Hid (Seen all a K k h (j + 1)) := aside (HSN.out.2 (.inl (HZ.out.1 rfl)))
              clear HZ HZ2 HSN
              go_wp2_with (first | go_skip)
              go_roundw
              case rel => exact ⟨j + 1, true, by omega, by go_num, rfl, aside ⟨fun _ => HZn.out, fun _ => rfl⟩, b5⟩
              case measure => simp [intOf]; omega
            · have HZn : Hid (¬ Seen all a K k h (j + 1)) := aside (fun h => by
                rcases HSN.out.1 h with h | ⟨h, _⟩
                · exact absurd (HZ.out.2 h) (by decide)
                · exact absurd h (of_decide_eq_false HZ2.out))
              clear HZ HZ2 HSN
              go_wp2_with (first | go_skip)
              go_roundw
              case rel => exact ⟨j + 1, false, by omega, by go_num, rfl, aside ⟨fun h => absurd h (by decide), fun h => absurd h HZn.out⟩, b5⟩
              case measure => simp [intOf]; omega
            · have HZn : Hid (¬ Seen all a K k h (j + 1)) := aside (fun h => by
                rcases HSN.out.1 h with h | ⟨_, h⟩
                · exact absurd (HZ.out.2 h) (by decide)
                · have := HU.out; rw [h] at this; cases this)
              clear HZ HZ2 HSN
              go_wp2_with (first | go_skip)
              go_roundw
              case rel => exact ⟨j + 1, false, by omega, by go_num, rfl, aside ⟨fun h => absurd h (by decide), fun h => absurd h HZn.out⟩, b5⟩
              case measure => simp [intOf]; omega
            · have HZn : Hid (Seen all a K k h (j + 1)) := aside (HSN.out.2 (.inr ⟨of_decide_eq_true HZ2.out, HU.out⟩))
              clear HZ HZ2 HSN
              go_wp2_with (first | go_skip)
              go_roundw
              case rel => exact ⟨j + 1, true, by omega, by go_num, rfl, aside ⟨fun _ => HZn.out, fun _ => rfl⟩, b5⟩
              case measure => simp [intOf]; omega
          · have e : j = l.length := by omega
            have pj : ¬ (j : Int) < l.length := by omega
            have HZB : Hid (z = true ↔ DgM.Below hashK (coms l) a h) := aside (by rw [← HW.out k h HH.out, ← e]; exact HZ.out)
            have O5 := aside (owns_below O4.out kc)
            have ra5 := IdW.range_below ra0 kb
            clear HZ O4 kc e
            cases z with
            | false =>
              have HO2 := aside (show wr.ownsRow w3.heap.size 42 32 _ n (bv (flat ((all.take (k + 1)).filter fun x => decide (DgM.Below hashK (coms l) a x)))) by rw [HN.out, if_neg (fun hc => by have := HZB.out.2 (of_decide_eq_true hc); cases this), List.append_nil]; exact O5.out)
              clear O5 HN HZB ra5
              go_wp2_with (first | go_skip)
              go_roundw
              case rel => exact ⟨k + 1, n, by omega, by omega, by go_num, HO2, kb⟩
              case measure => simp [intOf]; omega
            | true =>
              obtain ⟨ms, hms⟩ : ∃ ms, (all.take k).filter (fun x => decide (DgM.Below hashK (coms l) a x)) = ms := ⟨_, rfl⟩
              rw [hms] at O5 HN
              have HN2 : Hid ((all.take (k + 1)).filter (fun x => decide (DgM.Below hashK (coms l) a x)) = ms ++ [h]) := aside (by rw [HN.out, if_pos (decide_eq_true (HZB.out.1 rfl))])
              clear HN HZB hms
              go_wp2_with (first | go_skip | (refine wpList_load_id rfl _ rfl _ _ rfl h ra5 ?_) | (refine build_one rfl _ rfl h rfl ?_; intro w6 S6 k6; have b6 := kb.trans (k6.mono kb.size); have O6 := aside (owns_below O5.out k6)) | (refine wpList_append_ids rfl (.tmp 60) (.tmp 65) rfl w3.heap.size _ n ms rfl O6.out _ 1 1 [h] rfl rfl S6 (by omega) b6.size ?_; intro v7 w7 o7 g7))
              have b7 : Below w3.heap.size w3 w7 := below_grown b6 b6.size g7 (fun q hq => (O6.out.lt q hq).1)
              have HO7 := aside (show w7.ownsRow w3.heap.size 42 32 v7 (n + 1) (bv (flat ((all.take (k + 1)).filter fun x => decide (DgM.Below hashK (coms l) a x)))) by rw [HN2.out]; exact o7)
              clear O5 O6 o7 g7 b6 S6 HN2 ra5
              go_roundw
              case rel => exact ⟨k + 1, n + 1, by omega, by omega, by go_num, HO7, b7⟩
              case measure => simp [intOf]; omega
      · have HO2 := HO.out
        rw [List.take_of_length_le (by rw [HALL.out]; omega)] at HO2
        obtain ⟨ms, hms⟩ : ∃ ms, all.filter (fun x => decide (DgM.Below hashK (coms l) a x)) = ms := ⟨_, rfl⟩
        have hmsl : ms.length ≤ 1000 := by rw [← hms]; exact Nat.le_trans (List.length_filter_le _ _) (by rw [HALL.out]; exact hl)
        have hm := HM.out
        rw [hms] at HO2 hm
        obtain ⟨A6, c6, rfl, S6⟩ := SlI.own HO2
        have hst := IdX.rsort_ret A6 c6 ms _ S6 hmsl
        rw [hm] at hst
        unfold NewI at hst
        have b4 := b3.trans (kb.mono b3.size)
        have pn : ¬ (k : Int) < l.length := by omega
        clear HO HO2 S6 hms hm hmsl
        go_wp2_with (first | go_skip)
        refine hst.mono ?_
        rintro e w8 ⟨v8, rfl, o8, k8⟩
        obtain ⟨A8, c8, rfl, S8⟩ := SlI.own o8
        clear hst
        go_wp2_with (first | go_skip)
        go_ret
        exact ⟨A8, c8, rfl, S8, b4.trans (k8.mono b4.size)⟩
  · rw [decide_eq_false hC] at hcl
    have HM : Hid (m = []) := aside (by rw [← hm, ancC, if_neg hC])
    clear hm hC ho S T
    go_enter Tryz.func19, Tryz.ntmps19
    go_wp2_with (first | go_skip)
    refine hcl.mono ?_
    rintro e w1 ⟨rfl, k1⟩
    clear hcl
    go_wp2_with (first | go_skip)
    go_ret
    rw [HM.out]
    exact ⟨none, 0, rfl, SlI.nil _, k1⟩
end Go.Proofs.YtechkdhehipliaaGreatDoor.DgF
namespace Go.Proofs.YtechkdhehipliaaGreatDoor.DgI
set_option maxRecDepth 100000
open Go Go.Sort Go.RowKit Byt IdM IdW OpsM OpsW CmM StW CmW

def nv (l : List Nat) : List Value := l.map fun (n : Nat) => Value.int .i64 n
theorem nv_length (l : List Nat) : (nv l).length = l.length := List.length_map ..
theorem nv_append (a b : List Nat) : nv (a ++ b) = nv a ++ nv b := List.map_append ..
theorem nv_at {l : List Nat} {i n : Nat} (h : l[i]? = some n) : (nv l)[i]? = some (.int .i64 n) := by
  unfold nv
  rw [List.getElem?_map, h]
  rfl
theorem nv_one (l : List Nat) : ∀ v ∈ nv l, v.oneCell' = true := by
  intro v hv
  obtain ⟨n, _, rfl⟩ := List.mem_map.1 hv
  rfl
/-- The slice with address A, as long as l, and with room for cap, has the values l. -/
def SlN (w : World) (A : Option Addr) (cap : Nat) (l : List Nat) : Prop :=
  l.length ≤ cap ∧ cap ≤ maxLen ∧ ((A = none ∧ l = [] ∧ cap = 0) ∨ ∃ x, A = some x ∧ ∀ i v, (nv l)[i]? = some v → w.cell? (x.add i) = some v)
theorem SlN.nil (w : World) : SlN w none 0 [] := ⟨Nat.le_refl _, Nat.zero_le _, .inl ⟨rfl, rfl, rfl⟩⟩
theorem SlN.below {w w' : World} {A : Option Addr} {cap : Nat} {l : List Nat} (h : SlN w A cap l) (hb : Below w.heap.size w w') : SlN w' A cap l := by
  obtain ⟨h1, h2, h5⟩ := h
  refine ⟨h1, h2, ?_⟩
  rcases h5 with h5 | ⟨x, rfl, hc⟩
  · exact .inl h5
  · refine .inr ⟨x, rfl, fun i v hv => ?_⟩
    have hcell := hc i v hv
    exact (hb.cell (block_lt_of_cell hcell)).trans hcell
theorem SlN.plain {w : World} {A : Option Addr} {cap : Nat} {l : List Nat} (h : SlN w A cap l) (hp : 0 < l.length) :
    ∃ b off, A = some ⟨b, off, none⟩ ∧ b < w.heap.size ∧ ∀ (i n : Nat), l[i]? = some n → w.cell? ⟨b, off + i, none⟩ = some (.int .i64 n) := by
  obtain ⟨h1, h2, h5⟩ := h
  rcases h5 with ⟨_, rfl, _⟩ | ⟨x, rfl, hc⟩
  · simp at hp
  · have h0 := hc 0 _ (nv_at (n := l[0]) (List.getElem?_eq_getElem hp))
    obtain ⟨b, off, spot⟩ := x
    have hspot : spot = none := by simpa [Addr.add] using World.cell?_spot h0
    subst hspot
    have hb := block_lt_of_cell h0
    rw [RowIn.block_add] at hb
    refine ⟨b, off, rfl, hb, fun i n hi => ?_⟩
    have := hc i _ (nv_at hi)
    rwa [Addr.add_lit] at this
theorem SlN.own {w : World} {base n : Nat} {v : Value} {l : List Nat} (h : w.ownsRow base 3 1 v n (nv l)) : ∃ A cap, v = .slice A l.length cap ∧ SlN w A cap l := by
  have hn : l.length = n := by
    have := h.1
    rw [nv_length] at this
    omega
  rcases h.2 with ⟨rfl, rfl⟩ | ⟨g, cap, cur, rfl, hbg, hg, h1, h2, h3, h4⟩
  · have : l = [] := List.eq_nil_of_length_eq_zero hn
    subst this
    exact ⟨none, 0, rfl, SlN.nil w⟩
  · refine ⟨some ⟨g, 0, none⟩, cap, by rw [hn], by omega, h2, .inr ⟨_, rfl, fun i u hu => ?_⟩⟩
    exact h.cells rfl i u hu
theorem SlN.part {w : World} {A : Option Addr} {cap : Nat} {l : List Nat} (h : SlN w A cap l) (i j : Nat) (hij : i ≤ j) (hj : j ≤ l.length) :
    ∃ A' cap', sliced A i j cap 1 = .slice A' (j - i) cap' ∧ SlN w A' cap' ((l.drop i).take (j - i)) ∧ ((l.drop i).take (j - i)).length = j - i := by
  obtain ⟨h1, h2, h5⟩ := h
  have hl : ((l.drop i).take (j - i)).length = j - i := by simp; omega
  rcases h5 with ⟨rfl, rfl, rfl⟩ | ⟨x, rfl, hc⟩
  · simp at hj
    obtain rfl : j = 0 := hj
    obtain rfl : i = 0 := by omega
    exact ⟨none, 0, by simp [sliced], by simpa using SlN.nil w, hl⟩
  · by_cases hci : cap = i
    · refine ⟨some x, cap - i, by simp [sliced, hci], ⟨by rw [hl]; omega, by omega, .inr ⟨x, rfl, fun m v hv => ?_⟩⟩, hl⟩
      have := (List.getElem?_eq_some_iff.1 hv).1
      rw [nv_length, hl] at this
      omega
    · refine ⟨some (x.add (i * 1)), cap - i, by simp [sliced, hci], ⟨by rw [hl]; omega, by omega, .inr ⟨_, rfl, fun m v hv => ?_⟩⟩, hl⟩
      rw [Addr.add_add]
      apply hc
      have hm := (List.getElem?_eq_some_iff.1 hv).1
      rw [nv_length, hl] at hm
      unfold nv at hv ⊢
      rw [List.getElem?_map, List.getElem?_take, if_pos (by omega), List.getElem?_drop] at hv
      rw [List.getElem?_map, Nat.mul_one]
      exact hv
theorem info_int : (Tryz.prog.info? 3).map (fun i => (i.zero, i.size, i.bytes)) = some (some (.int .i64 0), 1, 8) := by kernel_rfl
theorem elem_int : Tryz.prog.elem 81 = 3 := by kernel_rfl
theorem under_int : Tryz.prog.underlying 81 = some (.slice (Tryz.prog.elem 81)) := by kernel_rfl
theorem size_int (w : World) : (sizeOf (Tryz.prog.elem 81)).run Tryz.prog w = .ok 1 w := by
  obtain ⟨i, hi, z0, z1, _⟩ := info_parts info_int
  rw [elem_int]
  simp [sizeOf, typeInfo, hi, z1]
theorem run_part_h (w : World) (A : Option Addr) (len cap : Nat) (k : IntKind) (j : Nat) (hj : j ≤ cap) :
    (Instr.sliceAt 81 (.slice A len cap) none (some (.int k j)) none).run Tryz.prog w = .ok (sliced A 0 j cap 1) w := by
  rw [run_sliceAt_slice w _ _ _ _ _ under_int, run_slice_h w _ A len cap under_int k j (by omega) (by omega), size_int]
  simp [Result.andThen]
theorem run_part_l (w : World) (A : Option Addr) (len cap : Nat) (k : IntKind) (i : Nat) (hi : i ≤ len) :
    (Instr.sliceAt 81 (.slice A len cap) (some (.int k i)) none none).run Tryz.prog w = .ok (sliced A i len cap 1) w := by
  rw [run_sliceAt_slice w _ _ _ _ _ under_int, run_slice_l w _ A len cap under_int k i (by omega) (by omega), size_int]
  simp [Result.andThen]
theorem SlN.new1 (w : World) (n : Nat) (t : TypeId) : SlN (w.alloc (.cells #[.int .i64 n] t)) (some ⟨w.heap.size, 0, none⟩) 1 [n] := by
  refine ⟨Nat.le_refl _, by unfold maxLen; omega, .inr ⟨_, rfl, fun i v hv => ?_⟩⟩
  have hi : i = 0 := by
    have := (List.getElem?_eq_some_iff.1 hv).1
    simpa [nv] using this
  subst hi
  obtain rfl : Value.int .i64 n = v := by simpa [nv] using hv
  rw [Addr.add_lit]
  exact cell_of_row _ _ _ _ _ (0, 0) (heap_alloc_new w _)
theorem nil_own (w : World) (base : Nat) : w.ownsRow base 3 1 (.slice none 0 0) 0 (nv []) := ⟨rfl, .inl ⟨rfl, rfl⟩⟩
/-- 'append' of a slice of ints. -/
theorem append_ints {w : World} {ops : Array Oper} {rest : List Oper} {o : Oper} {a : Act} {Q : Exit → Act → World → Prop} (hgd : o.guard = none) (s x : Operand)
    (ho : o.op = .call { callee := .builtin .append, args := #[s, x], argTypes := #[81, 81] })
    (base : Nat) (v : Value) (n : Nat) (xs : List Nat) (hs : a.eval s = v) (hown : w.ownsRow base 3 1 v n (nv xs))
    (A : Option Addr) (m c : Nat) (l : List Nat) (hx : a.eval x = .slice A m c) (hm : l.length = m) (hr : SlN w A c l)
    (h63 : n + m ≤ 1000000000) (hbase : base ≤ w.heap.size)
    (h : ∀ v' w', w'.ownsRow base 3 1 v' (n + m) (nv (xs ++ l)) → w.grownBy w' v.ownBlock → wpList Tryz.prog ops Q rest (a.put o.dst v') w') : wpList Tryz.prog ops Q (o :: rest) a w := by
  obtain ⟨i, hi, z0, z1, z2⟩ := info_parts info_int
  subst hm
  obtain ⟨h1, h2, h5⟩ := hr
  rcases h5 with ⟨rfl, rfl, rfl⟩ | ⟨ad, rfl, hc⟩
  · refine wpList_append_own_none hgd s x 81 ho base 3 i 1 Tryz.underlying81 hi v n (nv xs) hs hown hx (h v w ?_ (grown_of_below (Below.refl _ _) _))
    simpa using hown
  · exact wpList_append_own w hgd s x 81 ho base 3 i (.int .i64 0) 1 8 Tryz.underlying81 hi z0 z1 z2 rfl (by decide) v n (nv xs) hs hown ad l.length c (nv l) hx (by rw [nv_length]; omega) (fun j u hu => hc j u hu) (nv_one l) (by unfold maxLen; omega) (by omega) hbase (fun v' w' a1 a2 _ => h v' w' (by rw [nv_append]; exact a1) a2)
/-- Put in at its place. -/
theorem put_pw {R : Nat → Nat → Prop} (tr : ∀ a b c, R a b → R b c → R a c) {l : List Nat} {x m : Nat} (h : l.Pairwise R) (hm : m ≤ l.length) (h1 : ∀ j y, m ≤ j → l[j]? = some y → R x y) (h2 : m = 0 ∨ ∃ y, l[m - 1]? = some y ∧ R y x) :
    (l.take m ++ [x] ++ l.drop m).Pairwise R := by
  have hd : ∀ z ∈ l.drop m, R x z := by
    intro z hz
    obtain ⟨i, hi⟩ := List.mem_iff_getElem?.1 hz
    rw [List.getElem?_drop] at hi
    exact h1 (m + i) z (by omega) hi
  have ht : ∀ z ∈ l.take m, R z x := by
    intro z hz
    obtain ⟨i, hi⟩ := List.mem_iff_getElem?.1 hz
    have hi' : i < m := by
      have := (List.getElem?_eq_some_iff.1 hi).1
      rw [List.length_take] at this
      omega
    rw [List.getElem?_take, if_pos hi'] at hi
    rcases h2 with h2 | ⟨y, hy, hr⟩
    · omega
    · by_cases e : i = m - 1
      · rw [e, hy] at hi
        rw [← Option.some.inj hi]
        exact hr
      · obtain ⟨i1, e1⟩ := List.getElem?_eq_some_iff.1 hi
        obtain ⟨i2, e2⟩ := List.getElem?_eq_some_iff.1 hy
        have := List.pairwise_iff_getElem.1 h i (m - 1) i1 i2 (by omega)
        rw [e1, e2] at this
        exact tr _ _ _ this hr
  rw [List.append_assoc, List.pairwise_append]
  refine ⟨List.Pairwise.sublist (List.take_sublist m l) h, ?_, ?_⟩
  · rw [List.singleton_append, List.pairwise_cons]
    exact ⟨hd, List.Pairwise.sublist (List.drop_sublist m l) h⟩
  · intro a ha b hb
    rw [List.singleton_append, List.mem_cons] at hb
    rcases hb with rfl | hb
    · exact ht a ha
    · exact tr _ _ _ (ht a ha) (hd b hb)
theorem put_mem {l : List Nat} {x m z : Nat} : z ∈ l.take m ++ [x] ++ l.drop m ↔ z = x ∨ z ∈ l := by
  have hmem : z ∈ l ↔ z ∈ l.take m ∨ z ∈ l.drop m := by
    conv => lhs; rw [← List.take_append_drop m l]
    rw [List.mem_append]
  rw [List.append_assoc, List.mem_append, List.singleton_append, List.mem_cons, hmem]
  constructor
  · rintro (h | h | h)
    · exact .inr (.inl h)
    · exact .inl h
    · exact .inr (.inr h)
  · rintro (h | h | h)
    · exact .inr (.inl h)
    · exact .inl h
    · exact .inr (.inr h)
theorem put_len {l : List Nat} {x m : Nat} (hm : m ≤ l.length) : (l.take m ++ [x] ++ l.drop m).length = l.length + 1 := by simp; omega
end Go.Proofs.YtechkdhehipliaaGreatDoor.DgI
