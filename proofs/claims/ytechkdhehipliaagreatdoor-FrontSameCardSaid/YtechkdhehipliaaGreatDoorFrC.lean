/- What the project's Front, Join, Head, Base of package front return, where known does as it must: contracts. No condition. -/
import Derived.Test.YtechkdhehipliaaGreatDoorIdUJ2
import Derived.Test.YtechkdhehipliaaGreatDoorFrIJ3
import Derived.Test.YtechkdhehipliaaGreatDoorDhAJ2
namespace Go.Proofs.YtechkdhehipliaaGreatDoor.FrC
set_option maxRecDepth 100000
open Go Go.Sort Go.RowKit Byt IdM IdW OpsM OpsW CmM StW CmW CmX CmY CmA DgM DgX DgW DgR DgC DgF DgG FrM FrN FrH FrU FrI FrK FrV DhA
open Classical

theorem pars_few {l : List Com} {n : Nat} (hl : l.length ≤ n) (h : ∀ c ∈ l, c.ps.length ≤ 8) : (pars l).length ≤ 8 * n := by
  induction l generalizing n with
  | nil => simp [pars]
  | cons c l ih =>
    have h1 := h c (by simp)
    have h2 := ih (n := l.length) (Nat.le_refl _) fun d hd => h d (by simp [hd])
    have e : pars (c :: l) = c.ps ++ pars l := rfl
    rw [e, List.length_append]
    simp at hl
    omega
theorem few_ps {l : List Com} (C : Closed hashK l) : ∀ c ∈ l, c.ps.length ≤ 8 := fun c hc => (lineB_iff.1 (mayK_iff.1 (C.may c hc)).1).2.2.1
theorem anc_few (l : List Com) (a : List Idn) : (ancC l a).length ≤ l.length := by
  unfold ancC
  by_cases C : Closed hashK l
  · rw [if_pos C]
    exact FrU.anc_short C a
  · rw [if_neg C]
    exact Nat.zero_le _
theorem part_few (l : List Com) (a : List Idn) : (partC l a).length ≤ l.length := by
  unfold partC
  by_cases C : Closed hashK l
  · rw [if_pos C]
    exact List.length_filter_le _ _
  · rw [if_neg C]
    exact Nat.zero_le _
theorem part_ps (l : List Com) (a : List Idn) : ∀ c ∈ partC l a, c.ps.length ≤ 8 := fun c hc => by
  unfold partC at hc
  by_cases C : Closed hashK l
  · rw [if_pos C] at hc
    exact few_ps C c (mem_part.1 hc).1
  · rw [if_neg C] at hc
    cases hc
/-- The last ones of what ids stand behind; the commits of these. -/
noncomputable def lastJ (l : List Com) (a : List Idn) : List Idn := without (ancC l a) (pars (partC l (ancC l a)))
noncomputable def endsJ (l : List Com) (a : List Idn) : List Com := partC (partC l (ancC l a)) (lastJ l a)
theorem last_few (l : List Com) (a : List Idn) : (lastJ l a).length ≤ l.length := Nat.le_trans (sort_length_le _) (Nat.le_trans (List.length_filter_le _ _) (anc_few l a))
theorem join_cases (l : List Com) (a : List Idn) (hl : l.length ≤ 1000) :
    (endsJ l a = [] ∧ joinC l a = none) ∨ (∃ c, endsJ l a = [c] ∧ joinC l a = some c) ∨
    (2 ≤ (endsJ l a).length ∧ 0 ≤ most ((endsJ l a).map (·.gen)) ∧ most ((endsJ l a).map (·.gen)) ≤ 1000 ∧
      joinC l a = if mayK ⟨-1, 0, most ((endsJ l a).map (·.gen)) + 1, lastJ l a, noO⟩ = true then some ⟨-1, 0, most ((endsJ l a).map (·.gen)) + 1, lastJ l a, noO⟩ else none) := by
  by_cases C : Closed hashK l
  · have e1 : ancC l a = anc hashK l a := by rw [ancC, if_pos C]
    have e2 : partC l (ancC l a) = DgM.part hashK l (· ∈ anc hashK l a) := by rw [partC, if_pos C, e1]
    have e3 : lastJ l a = tops hashK l a := by rw [lastJ, e2, e1]; exact tops_of l a
    have D := closed_anc C a
    have hin : ∀ x ∈ tops hashK l a, x ∈ l.map hashK := fun x h => tops_in h
    have hin2 : ∀ x ∈ tops hashK l a, x ∈ (DgM.part hashK l (· ∈ anc hashK l a)).map hashK := fun x h => front_in x h
    have e4 : endsJ l a = DgM.part hashK l (· ∈ tops hashK l a) := by
      rw [endsJ, e3, e2, partC, if_pos D]
      exact part_part fun x hx => (DgM.mem_map.1 (front_in x hx)).2
    have hlen : (endsJ l a).length = (tops hashK l a).length := by rw [e4]; exact ends_len C.nodup (rising_front _) hin
    have hgen : most ((endsJ l a).map (·.gen)) = most ((tops hashK l a).map (gAt hashK l)) := by rw [e4]; exact ends_gen C.nodup hin
    have hj : joinC l a = joinF hashK l (tops hashK l a) := by rw [joinC, join, if_pos C]
    have hlo := most_low C hin
    have h0 := most_nonneg ((tops hashK l a).map (gAt hashK l))
    rw [e3, hgen, hj]
    match hf : tops hashK l a with
    | [] =>
      rw [hf] at hlen
      exact .inl ⟨List.eq_nil_of_length_eq_zero hlen, rfl⟩
    | [x] =>
      rw [hf] at hlen e4
      obtain ⟨c, hc⟩ := List.length_eq_one_iff.1 hlen
      exact .inr (.inl ⟨c, hc, ends_one C.nodup (e4.symm.trans hc)⟩)
    | x :: y :: f =>
      rw [hf] at hlen hlo h0
      refine .inr (.inr ⟨by rw [hlen]; simp, h0, by omega, ?_⟩)
      rw [joinF_more]
      rfl
  · have e1 : ancC l a = [] := by rw [ancC, if_neg C]
    have e2 : partC l (ancC l a) = [] := by rw [partC, if_neg C]
    refine .inl ⟨?_, by rw [joinC, join, if_neg C]⟩
    rw [endsJ, e2, partC, if_pos closed_nil]
    rfl
set_option maxRecDepth 100000 in
set_option maxHeartbeats 16000000 in
theorem front_ret (X : KnownRet) (A : Option Addr) (cap : Nat) (l : List Cv) (w : World) (S : SlK w A cap l) (hl : l.length ≤ 200) (K : ShaE.KIn w) :
    Calls Tryz.prog 33 #[.slice A l.length cap] w (NewD (frontC (coms l)) w) := by
  have q0 := DhA.closed_ret X A cap l w S (by omega) K
  obtain ⟨r, hr⟩ : ∃ r, frontC (coms l) = r := ⟨_, rfl⟩
  rw [hr]
  unfold NewD
  by_cases hC : Closed hashK (coms l)
  · rw [decide_eq_true hC] at q0
    have hids := fun W S K => DhC.ids_ret A cap l W S (by omega) K
    unfold NewD at hids
    have hid : idsD (coms l) = (coms l).map hashK := all_ids hC
    have hlen : ((coms l).map hashK).length = l.length := by rw [List.length_map, coms_len]
    have hp := pars_few (n := 200) (by rw [coms_len]; exact hl) (few_ps hC)
    have he : without ((coms l).map hashK) (pars (coms l)) = r := by rw [← hr, frontC, if_pos hC]; exact front_of fun _ => Iff.rfl
    rw [hid] at hids
    obtain ⟨own, hown⟩ : ∃ own, (coms l).map hashK = own := ⟨_, rfl⟩
    rw [hown] at hids hlen he
    have ql := fun A' c' W T S => last_ret A' A c' cap own l W T S (by omega) (by omega) (by omega)
    rw [he] at ql
    clear hr hC hid hp he hown hlen
    go_enter Tryz.func33, Tryz.ntmps33
    go_wp2_with (first | go_skip)
    refine q0.mono ?_
    rintro e w1 ⟨rfl, k1⟩
    clear q0
    go_wp2_with (first | go_skip)
    refine (hids _ (S.below k1) (K.below k1)).mono ?_
    rintro e w2 ⟨A2, c2, rfl, T2, k2⟩
    have b2 := k1.trans (k2.mono k1.size)
    clear hids
    go_wp2_with (first | go_skip)
    refine (ql A2 c2 _ T2 (S.below b2)).mono ?_
    rintro e w3 ⟨v3, rfl, o3, k3⟩
    obtain ⟨A3, c3, rfl, T3⟩ := SlI.own o3
    clear ql o3
    go_wp2_with (first | go_skip)
    go_ret
    exact ⟨A3, c3, rfl, T3, b2.trans (k3.mono b2.size)⟩
  · rw [decide_eq_false hC] at q0
    have hn : r = [] := by rw [← hr, frontC, if_neg hC]
    subst hn
    clear hr hC
    go_enter Tryz.func33, Tryz.ntmps33
    go_wp2_with (first | go_skip)
    refine q0.mono ?_
    rintro e w1 ⟨rfl, k1⟩
    clear q0
    go_wp2_with (first | go_skip)
    go_ret
    exact ⟨none, 0, rfl, SlI.nil _, k1⟩
set_option maxRecDepth 100000 in
set_option maxHeartbeats 32000000 in
theorem join_ret (X : KnownRet) (A A' : Option Addr) (cap cap' : Nat) (l : List Cv) (a : List Idn) (w : World) (S : SlK w A cap l) (T : SlI w A' cap' a) (hl : l.length ≤ 200) (K : ShaE.KIn w) :
    Calls Tryz.prog 37 #[.slice A l.length cap, .slice A' a.length cap'] w (FoundC (joinC (coms l) a) w) := by
  have b0 := StW.below_alloc w (.cells #[.int .i64 0, .int .i64 0, .int .i64 0, .slice none 0 0, .int .i64 0, .string ⟨#[]⟩, .string ⟨#[]⟩, .int .i64 0] 38)
  have C0 : Cel.Box CE (w.alloc (.cells #[.int .i64 0, .int .i64 0, .int .i64 0, .slice none 0 0, .int .i64 0, .string ⟨#[]⟩, .string ⟨#[]⟩, .int .i64 0] 38)) w.heap.size noV := Cel.Box.new (E := CE) w noV _
  have q1 := DhA.anc_ret X A A' cap cap' l a _ (S.below b0) (T.below b0) (by omega) (K.below b0)
  have hjc := join_cases (coms l) a (by rw [coms_len]; omega)
  have hx1 := anc_few (coms l) a
  have hu1 := part_few (coms l) (ancC (coms l) a)
  have hu2 := pars_few (n := 200) (Nat.le_trans hu1 (by rw [coms_len]; exact hl)) (part_ps (coms l) (ancC (coms l) a))
  have hf1 := last_few (coms l) a
  rw [coms_len] at hx1 hu1 hf1
  obtain ⟨r, hr⟩ : ∃ r, joinC (coms l) a = r := ⟨_, rfl⟩
  rw [hr] at hjc ⊢
  obtain ⟨E, hE⟩ : ∃ E, endsJ (coms l) a = E := ⟨_, rfl⟩
  obtain ⟨F, hF⟩ : ∃ F, lastJ (coms l) a = F := ⟨_, rfl⟩
  have hE2 := hE
  have hF2 := hF
  rw [hE, hF] at hjc
  rw [hF] at hf1
  unfold endsJ at hE2
  rw [hF] at hE2
  unfold lastJ at hF2
  obtain ⟨xs, hxs⟩ : ∃ xs, ancC (coms l) a = xs := ⟨_, rfl⟩
  rw [hxs] at q1 hx1 hu1 hu2 hE2 hF2
  obtain ⟨U, hU⟩ : ∃ U, partC (coms l) xs = U := ⟨_, rfl⟩
  rw [hU] at hu1 hu2 hE2 hF2
  have hel : E.length ≤ l.length := by rw [← hE2]; exact Nat.le_trans (part_few _ _) hu1
  unfold NewD at q1
  unfold FoundC
  have HU := aside hU
  have HE := aside hE2
  have HF := aside hF2
  have HJ := aside hjc
  clear hr hE hF hxs hU hE2 hF2 hjc
  go_enter Tryz.func37, Tryz.ntmps37
  go_wp2_with (first | go_skip)
  refine q1.mono ?_
  rintro e w1 ⟨A1, c1, rfl, T1, k1⟩
  have C1 := C0.below k1
  have b1 := b0.trans (k1.mono b0.size)
  clear q1 C0 b0 k1
  go_wp2_with (first | go_skip)
  refine (DhB.part_ret X A A1 cap c1 l xs w1 (S.below b1) T1 (by omega) (by omega) (K.below b1)).mono ?_
  rintro e w2 ⟨A2, c2, us, rfl, S2, hus, k2⟩
  rw [HU.out] at hus
  subst hus
  rw [coms_len] at hu1
  have C2 := C1.below k2
  have b2 := b1.trans (k2.mono b1.size)
  have T2 := T1.below k2
  clear C1 b1 k2 T1
  go_wp2_with (first | go_skip)
  have q3 := last_ret A1 A2 c1 c2 xs us w2 T2 S2 (by omega) (by omega) (by omega)
  rw [HF.out] at q3
  refine q3.mono ?_
  rintro e w3 ⟨v3, rfl, o3, k3⟩
  obtain ⟨A3, c3, rfl, T3⟩ := SlI.own o3
  have C3 := C2.below k3
  have b3 := b2.trans (k3.mono b2.size)
  have S3 := S2.below k3
  clear q3 o3 C2 b2 k3 S2 T2
  go_wp2_with (first | go_skip)
  refine (DhB.part_ret X A2 A3 c2 c3 us F w3 S3 T3 (by omega) (by omega) (K.below b3)).mono ?_
  rintro e w4 ⟨A4, c4, es, rfl, S4, hes, k4⟩
  rw [HE.out] at hes
  subst hes
  rw [coms_len] at hel
  have C4 := C3.below k4
  have b4 := b3.trans (k4.mono b3.size)
  have T4 := T3.below k4
  clear C3 b3 k4 S3 T3
  have hjc := HJ.out
  clear HJ HU HE HF
  rcases hjc with ⟨h1, rfl⟩ | ⟨c, h1, rfl⟩ | ⟨h2, h3, h4, h5⟩
  case inl =>
    have he0 : es = [] := by
      have := congrArg List.length h1
      rw [coms_len] at this
      exact List.eq_nil_of_length_eq_zero this
    subst he0
    go_wp2_with (first | go_skip | (refine Cel.wpList_store_box CE rfl _ _ rfl w.heap.size rfl noV C4 noV rfl ?_; intro w9 R9 f9 g9 s9))
    exact bodyPost_ret (v := .tuple #[.agg (cc noV), .bool false]) (results_cb Tryz.results37 _ _ w.heap.size noV _ rfl rfl R9) rfl ⟨noV, rfl, rfl, CmW.In.none _, fit_noK, b4.trans (f9 _ (Nat.le_refl _))⟩
  case inr.inl =>
    obtain ⟨v, rfl⟩ : ∃ v, es = [v] := List.length_eq_one_iff.1 (by
      have := congrArg List.length h1
      rw [coms_len] at this
      exact this)
    obtain rfl : v.c = c := (List.cons.inj h1).1
    obtain ⟨b, off, rfl, hbw, hrg⟩ := S4.plain (by simp)
    have rx : w4.rangeAt b off (cc v).toList := by simpa using hrg 0 v rfl
    obtain ⟨IV, FV⟩ := S4.each v (by simp)
    clear hrg h1 hel
    go_wp2_with (first | go_skip | (refine load_at rfl _ rfl _ _ rfl v rx ?_) | (refine Cel.wpList_store_box CE rfl _ _ rfl w.heap.size rfl noV C4 v rfl ?_; intro w9 R9 f9 g9 s9))
    exact bodyPost_ret (v := .tuple #[.agg (cc v), .bool true]) (results_cb Tryz.results37 _ _ w.heap.size v _ rfl rfl R9) rfl ⟨v, rfl, rfl, CmD.sli_far IV (CmD.no_cm C4) g9, FV, b4.trans (f9 _ (Nat.le_refl _))⟩
  case inr.inr =>
    rw [coms_len] at h2
    have p0 : ¬ ((es.length : Int) = 0) := by omega
    have p1 : ¬ ((es.length : Int) = 1) := by omega
    have q5 := above_ret A4 c4 es w4 S4
    obtain ⟨g, hg⟩ : ∃ g, most ((coms es).map (·.gen)) = g := ⟨_, rfl⟩
    rw [hg] at q5 h3 h4 h5
    have hw1 : IntKind.i64.wrap (g + 1) = g + 1 := by rw [IntKind.wrap_i64]; omega
    rw [hw1] at q5
    have hok : CmR.Okay ⟨-1, 0, g + 1, F, noO⟩ := okay_merge ⟨by omega, by omega⟩
    have q6 := fun W (I : SlI W A3 c3 F) => CmA.may_ret (⟨A3, c3, ⟨-1, 0, g + 1, F, noO⟩⟩ : Cv) W I hok.fit
    obtain ⟨m, hm⟩ : ∃ m, mayK ⟨-1, 0, g + 1, F, noO⟩ = m := ⟨_, rfl⟩
    rw [hm] at h5
    rw [show mayK (⟨A3, c3, ⟨-1, 0, g + 1, F, noO⟩⟩ : Cv).c = m from hm] at q6
    have HOK := aside hok
    have H5 := aside h5
    clear hg hm h5 hok h2 h3 h4 hel hw1
    go_wp2_with (first | go_skip)
    refine q5.mono ?_
    rintro e w5 ⟨rfl, k5⟩
    have C5 := C4.below k5
    have b5 := b4.trans (k5.mono b4.size)
    have T5 := T4.below k5
    clear q5 C4 b4 k5 S4 T4
    go_wp2_with (first | go_skip | (refine Cel.wpList_store_new CE rfl _ _ rfl w5 _ _ rfl (⟨A3, c3, ⟨-1, 0, g + 1, F, noO⟩⟩ : Cv) _ rfl rfl rfl rfl ?_; intro w6 B6 k6 g6 s6; have C6 := C5.below k6; have T6 := T5.below k6; have b6 := b5.trans (k6.mono b5.size); clear g6 s6) | (refine Cel.wpList_load_box CE rfl _ rfl _ rfl (⟨A3, c3, ⟨-1, 0, g + 1, F, noO⟩⟩ : Cv) B6 ?_))
    refine (q6 _ T6).mono ?_
    rintro e w7 ⟨rfl, k7⟩
    have C7 := C6.below k7
    have B7 := B6.below k7
    have T7 := T6.below k7
    have b7 := b6.trans (k7.mono b6.size)
    clear q6
    cases m with
    | false =>
      have hrn : r = none := H5.out
      go_wp2_with (first | go_skip | (refine Cel.wpList_store_box CE rfl _ _ rfl w.heap.size rfl noV C7 noV rfl ?_; intro w9 R9 f9 g9 s9))
      exact bodyPost_ret (v := .tuple #[.agg (cc noV), .bool false]) (results_cb Tryz.results37 _ _ w.heap.size noV _ rfl rfl R9) rfl ⟨noV, by rw [hrn]; rfl, by rw [hrn]; rfl, CmW.In.none _, fit_noK, b7.trans (f9 _ (Nat.le_refl _))⟩
    | true =>
      have hrn : r = some ⟨-1, 0, g + 1, F, noO⟩ := H5.out
      go_wp2_with (first | go_skip | (refine Cel.wpList_load_box CE rfl _ rfl _ rfl (⟨A3, c3, ⟨-1, 0, g + 1, F, noO⟩⟩ : Cv) B7 ?_) | (refine Cel.wpList_store_box CE rfl _ _ rfl w.heap.size rfl noV C7 (⟨A3, c3, ⟨-1, 0, g + 1, F, noO⟩⟩ : Cv) rfl ?_; intro w9 R9 f9 g9 s9))
      exact bodyPost_ret (v := .tuple #[.agg (cc (⟨A3, c3, ⟨-1, 0, g + 1, F, noO⟩⟩ : Cv)), .bool true]) (results_cb Tryz.results37 _ _ w.heap.size _ _ rfl rfl R9) rfl ⟨⟨A3, c3, ⟨-1, 0, g + 1, F, noO⟩⟩, by rw [hrn]; rfl, by rw [hrn]; rfl, CmD.sli_far T7 (CmD.no_cm C7) g9, HOK.out.fit, b7.trans (f9 _ (Nat.le_refl _))⟩
set_option maxRecDepth 100000 in
set_option maxHeartbeats 16000000 in
theorem head_ret (X : KnownRet) (A : Option Addr) (cap : Nat) (l : List Cv) (w : World) (S : SlK w A cap l) (hl : l.length ≤ 200) (K : ShaE.KIn w) :
    Calls Tryz.prog 39 #[.slice A l.length cap] w (FoundC (headC (coms l)) w) := by
  have b0 := StW.below_alloc w (.cells #[.int .i64 0, .int .i64 0, .int .i64 0, .slice none 0 0, .int .i64 0, .string ⟨#[]⟩, .string ⟨#[]⟩, .int .i64 0] 38)
  have C0 : Cel.Box CE (w.alloc (.cells #[.int .i64 0, .int .i64 0, .int .i64 0, .slice none 0 0, .int .i64 0, .string ⟨#[]⟩, .string ⟨#[]⟩, .int .i64 0] 38)) w.heap.size noV := Cel.Box.new (E := CE) w noV _
  have q1 := DhC.ids_ret A cap l _ (S.below b0) (by omega) (K.below b0)
  have q2 := fun A' cap' W S T K => join_ret X A A' cap cap' l (idsD (coms l)) W S T hl K
  have hh : joinC (coms l) (idsD (coms l)) = headC (coms l) := by
    unfold headC joinC head join
    by_cases C : Closed hashK (coms l)
    · rw [if_pos C, if_pos C, all_ids C]
    · rw [if_neg C, if_neg C]
  rw [hh] at q2
  clear hh
  unfold NewD at q1
  unfold FoundC at q2 ⊢
  generalize headC (coms l) = r at q2 ⊢
  generalize idsD (coms l) = all at q1 q2
  go_enter Tryz.func39, Tryz.ntmps39
  go_wp2_with (first | go_skip)
  refine q1.mono ?_
  rintro e w1 ⟨A1, c1, rfl, T1, k1⟩
  have C1 := C0.below k1
  have b1 := b0.trans (k1.mono b0.size)
  clear C0 b0 k1 q1
  go_wp2_with (first | go_skip)
  refine (q2 _ _ _ (S.below b1) T1 (K.below b1)).mono ?_
  rintro e w2 ⟨v, rfl, hv, IV, FV, k2⟩
  have C2 := C1.below k2
  have b2 := b1.trans (k2.mono b1.size)
  clear C1 b1 k2 q2 T1
  obtain ⟨s, hs⟩ : ∃ s, r.isSome = s := ⟨_, rfl⟩
  rw [hs]
  go_wp2_with (first | go_skip | (refine Cel.wpList_store_box CE rfl _ _ rfl w.heap.size rfl noV C2 v rfl ?_; intro w9 R9 f9 g9 s9))
  exact bodyPost_ret (v := .tuple #[.agg (cc v), .bool s]) (results_cb Tryz.results39 _ _ w.heap.size v _ rfl rfl R9) rfl ⟨v, by rw [hs], hv, CmD.sli_far IV (CmD.no_cm C2) g9, FV, b2.trans (f9 _ (Nat.le_refl _))⟩
set_option maxRecDepth 100000 in
set_option maxHeartbeats 16000000 in
theorem base_ret (X : KnownRet) (A A1 A2 : Option Addr) (cap cap1 cap2 : Nat) (l : List Cv) (a b : List Idn) (w : World) (S : SlK w A cap l) (T : SlI w A1 cap1 a) (R : SlI w A2 cap2 b) (hl : l.length ≤ 200) (K : ShaE.KIn w) :
    Calls Tryz.prog 35 #[.slice A l.length cap, .slice A1 a.length cap1, .slice A2 b.length cap2] w (NewD (baseC (coms l) a b) w) := by
  have hs1 := anc_few (coms l) a
  have hs2 := anc_few (coms l) b
  rw [coms_len] at hs1 hs2
  have q1 := DhA.anc_ret X A A1 cap cap1 l a w S T (by omega) K
  have q2 := fun W S T K => DhA.anc_ret X A A2 cap cap2 l b W S T (by omega) K
  unfold baseC
  obtain ⟨xs, hxs⟩ : ∃ xs, ancC (coms l) a = xs := ⟨_, rfl⟩
  obtain ⟨ys, hys⟩ : ∃ ys, ancC (coms l) b = ys := ⟨_, rfl⟩
  rw [hxs] at hs1 q1
  rw [hys] at hs2 q2
  rw [hxs, hys]
  have q3 := fun B1 B2 d1 d2 W S T => IdU.common_ret B1 B2 d1 d2 xs ys W S T (by omega) (by omega)
  obtain ⟨M, hM⟩ : ∃ M, common xs ys = M := ⟨_, rfl⟩
  unfold NewI at q3
  rw [hM] at q3 ⊢
  clear hxs hys hs1 hs2 hM
  unfold NewD at q1 q2 ⊢
  go_enter Tryz.func35, Tryz.ntmps35
  go_wp2_with (first | go_skip)
  refine q1.mono ?_
  rintro e w1 ⟨B1, d1, rfl, U, k1⟩
  go_wp2_with (first | go_skip)
  refine (q2 _ (S.below k1) (R.below k1) (K.below k1)).mono ?_
  rintro e w2 ⟨B2, d2, rfl, V, k2⟩
  go_wp2_with (first | go_skip)
  refine (q3 _ _ _ _ _ (U.below k2) V).mono ?_
  rintro e w3 ⟨v3, rfl, o3, k3⟩
  obtain ⟨B3, d3, rfl, Z⟩ := SlI.own o3
  clear o3
  go_wp2_with (first | go_skip)
  go_ret
  exact ⟨B3, d3, rfl, Z, (k1.trans (k2.mono k1.size)).trans (k3.mono (k1.trans (k2.mono k1.size)).size)⟩
end Go.Proofs.YtechkdhehipliaaGreatDoor.FrC
