/- What the project's Front, Join, Head, Base of package front return, where known does as it must: contracts. No condition. | What slices.Grow of no slice, and slices.Concat of two, return at commits: contracts. No condition but sizes. | As GrowL, where operations that act need not wait for one another: of these every order is walked, as a tree; what only reads is taken first. No condition. | An event, an operation and a result's cell, boxed; slices of two. No condition. | What comes next, told by numbers of 64 bits. No condition. -/
import Derived.Test.YtechkdhehipliaaGreatDoorIdUJ2
import Derived.Test.YtechkdhehipliaaGreatDoorFrIJ3
import Derived.Test.YtechkdhehipliaaGreatDoorDhAJ2
import Derived.Test.YtechkdhehipliaaGreatDoorRowGJ8
import Derived.Lib.AppendZeros
import Derived.Lib.Walk
import Derived.Test.YtechkdhehipliaaGreatDoorDhPJ2
import Derived.Test.YtechkdhehipliaaGreatDoorDgGJ4
import Derived.Test.YtechkdhehipliaaGreatDoorRowSJ3
import Derived.Test.YtechkdhehipliaaGreatDoorFrAJ5
namespace Go.Proofs.YtechkdhehipliaaGreatDoor.FrC
set_option maxRecDepth 100000
open Go Go.Sort Go.RowKit Byt IdM IdW OpsM OpsW CmM StW CmW CmX CmY CmA DgM DgX DgW DgR DgC DgF DgG FrM FrN FrH FrU FrI FrK FrV DhA
open Classical

theorem pars_few {l : List Com} {n : Nat} (hl : l.length ≤ n) (h : ∀ c ∈ l, c.ps.length ≤ 8) : (pars l).length ≤ 8 * n := by
 induction l generalizing n with
 | nil => simp [pars]
 | cons c l ih =>
  have h1 := h c (by simp)
  have h2 := ih (n := l.length) (Nat.le_refl _) fun d hd => h d (by simp [hd])
  have e : pars (c :: l) = c.ps ++ pars l := rfl
  rw [e, List.length_append]
  simp at hl
  omega
theorem few_ps {l : List Com} (C : Closed hashK l) : ∀ c ∈ l, c.ps.length ≤ 8 := fun c hc => (lineB_iff.1 (mayK_iff.1 (C.may c hc)).1).2.2.1
theorem anc_few (l : List Com) (a : List Idn) : (ancC l a).length ≤ l.length := by
 unfold ancC
 by_cases C : Closed hashK l
 · rw [if_pos C]
  exact FrU.anc_short C a
 · rw [if_neg C]
  exact Nat.zero_le _
theorem part_few (l : List Com) (a : List Idn) : (partC l a).length ≤ l.length := by
 unfold partC
 by_cases C : Closed hashK l
 · rw [if_pos C]
  exact List.length_filter_le _ _
 · rw [if_neg C]
  exact Nat.zero_le _
theorem part_ps (l : List Com) (a : List Idn) : ∀ c ∈ partC l a, c.ps.length ≤ 8 := fun c hc => by
 unfold partC at hc
 by_cases C : Closed hashK l
 · rw [if_pos C] at hc
  exact few_ps C c (mem_part.1 hc).1
 · rw [if_neg C] at hc
  cases hc
/-- The last ones of what ids stand behind; the commits of these. -/
noncomputable def lastJ (l : List Com) (a : List Idn) : List Idn := without (ancC l a) (pars (partC l (ancC l a)))
noncomputable def endsJ (l : List Com) (a : List Idn) : List Com := partC (partC l (ancC l a)) (lastJ l a)
theorem last_few (l : List Com) (a : List Idn) : (lastJ l a).length ≤ l.length := Nat.le_trans (sort_length_le _) (Nat.le_trans (List.length_filter_le _ _) (anc_few l a))
theorem join_cases (l : List Com) (a : List Idn) (hl : l.length ≤ 1000) :
  (endsJ l a = [] ∧ joinC l a = none) ∨ (∃ c, endsJ l a = [c] ∧ joinC l a = some c) ∨
  (2 ≤ (endsJ l a).length ∧ 0 ≤ most ((endsJ l a).map (·.gen)) ∧ most ((endsJ l a).map (·.gen)) ≤ 1000 ∧
   joinC l a = if mayK ⟨-1, 0, most ((endsJ l a).map (·.gen)) + 1, lastJ l a, noO⟩ = true then some ⟨-1, 0, most ((endsJ l a).map (·.gen)) + 1, lastJ l a, noO⟩ else none) := by
 by_cases C : Closed hashK l
 · have e1 : ancC l a = anc hashK l a := by rw [ancC, if_pos C]
  have e2 : partC l (ancC l a) = DgM.part hashK l (· ∈ anc hashK l a) := by rw [partC, if_pos C, e1]
  have e3 : lastJ l a = tops hashK l a := by rw [lastJ, e2, e1]; exact tops_of l a
  have D := closed_anc C a
  have hin : ∀ x ∈ tops hashK l a, x ∈ l.map hashK := fun x h => tops_in h
  have hin2 : ∀ x ∈ tops hashK l a, x ∈ (DgM.part hashK l (· ∈ anc hashK l a)).map hashK := fun x h => front_in x h
  have e4 : endsJ l a = DgM.part hashK l (· ∈ tops hashK l a) := by
   rw [endsJ, e3, e2, partC, if_pos D]
   exact part_part fun x hx => (DgM.mem_map.1 (front_in x hx)).2
  have hlen : (endsJ l a).length = (tops hashK l a).length := by rw [e4]; exact ends_len C.nodup (rising_front _) hin
  have hgen : most ((endsJ l a).map (·.gen)) = most ((tops hashK l a).map (gAt hashK l)) := by rw [e4]; exact ends_gen C.nodup hin
  have hj : joinC l a = joinF hashK l (tops hashK l a) := by rw [joinC, join, if_pos C]
  have hlo := most_low C hin
  have h0 := most_nonneg ((tops hashK l a).map (gAt hashK l))
  rw [e3, hgen, hj]
  match hf : tops hashK l a with
  | [] =>
   rw [hf] at hlen
   exact .inl ⟨List.eq_nil_of_length_eq_zero hlen, rfl⟩
  | [x] =>
   rw [hf] at hlen e4
   obtain ⟨c, hc⟩ := List.length_eq_one_iff.1 hlen
   exact .inr (.inl ⟨c, hc, ends_one C.nodup (e4.symm.trans hc)⟩)
  | x :: y :: f =>
   rw [hf] at hlen hlo h0
   refine .inr (.inr ⟨by rw [hlen]; simp, h0, by omega, ?_⟩)
   rw [joinF_more]
   rfl
 · have e1 : ancC l a = [] := by rw [ancC, if_neg C]
  have e2 : partC l (ancC l a) = [] := by rw [partC, if_neg C]
  refine .inl ⟨?_, by rw [joinC, join, if_neg C]⟩
  rw [endsJ, e2, partC, if_pos closed_nil]
  rfl
set_option maxRecDepth 100000 in
set_option maxHeartbeats 16000000 in
theorem front_ret (X : KnownRet) (A : Option Addr) (cap : Nat) (l : List Cv) (w : World) (S : SlK w A cap l) (hl : l.length ≤ 200) (K : ShaE.KIn w) :
  Calls Tryz.prog 33 #[.slice A l.length cap] w (NewD (frontC (coms l)) w) := by
 have q0 := DhA.closed_ret X A cap l w S (by omega) K
 obtain ⟨r, hr⟩ : ∃ r, frontC (coms l) = r := ⟨_, rfl⟩
 rw [hr]
 unfold NewD
 by_cases hC : Closed hashK (coms l)
 · rw [decide_eq_true hC] at q0
  have hids := fun W S K => DhC.ids_ret A cap l W S (by omega) K
  unfold NewD at hids
  have hid : idsD (coms l) = (coms l).map hashK := all_ids hC
  have hlen : ((coms l).map hashK).length = l.length := by rw [List.length_map, coms_len]
  have hp := pars_few (n := 200) (by rw [coms_len]; exact hl) (few_ps hC)
  have he : without ((coms l).map hashK) (pars (coms l)) = r := by rw [← hr, frontC, if_pos hC]; exact front_of fun _ => Iff.rfl
  rw [hid] at hids
  obtain ⟨own, hown⟩ : ∃ own, (coms l).map hashK = own := ⟨_, rfl⟩
  rw [hown] at hids hlen he
  have ql := fun A' c' W T S => last_ret A' A c' cap own l W T S (by omega) (by omega) (by omega)
  rw [he] at ql
  clear hr hC hid hp he hown hlen
  go_enter Tryz.func33, Tryz.ntmps33
  go_wp2_with (first | go_skip)
  refine q0.mono ?_
  rintro e w1 ⟨rfl, k1⟩
  clear q0
  go_wp2_with (first | go_skip)
  refine (hids _ (S.below k1) (K.below k1)).mono ?_
  rintro e w2 ⟨A2, c2, rfl, T2, k2⟩
  have b2 := k1.trans (k2.mono k1.size)
  clear hids
  go_wp2_with (first | go_skip)
  refine (ql A2 c2 _ T2 (S.below b2)).mono ?_
  rintro e w3 ⟨v3, rfl, o3, k3⟩
  obtain ⟨A3, c3, rfl, T3⟩ := SlI.own o3
  clear ql o3
  go_wp2_with (first | go_skip)
  go_ret
  exact ⟨A3, c3, rfl, T3, b2.trans (k3.mono b2.size)⟩
 · rw [decide_eq_false hC] at q0
  have hn : r = [] := by rw [← hr, frontC, if_neg hC]
  subst hn
  clear hr hC
  go_enter Tryz.func33, Tryz.ntmps33
  go_wp2_with (first | go_skip)
  refine q0.mono ?_
  rintro e w1 ⟨rfl, k1⟩
  clear q0
  go_wp2_with (first | go_skip)
  go_ret
  exact ⟨none, 0, rfl, SlI.nil _, k1⟩
set_option maxRecDepth 100000 in
set_option maxHeartbeats 32000000 in
theorem join_ret (X : KnownRet) (A A' : Option Addr) (cap cap' : Nat) (l : List Cv) (a : List Idn) (w : World) (S : SlK w A cap l) (T : SlI w A' cap' a) (hl : l.length ≤ 200) (K : ShaE.KIn w) :
  Calls Tryz.prog 37 #[.slice A l.length cap, .slice A' a.length cap'] w (FoundC (joinC (coms l) a) w) := by
 have b0 := StW.below_alloc w (.cells #[.int .i64 0, .int .i64 0, .int .i64 0, .slice none 0 0, .int .i64 0, .string ⟨#[]⟩, .string ⟨#[]⟩, .int .i64 0] 38)
 have C0 : Cel.Box CE (w.alloc (.cells #[.int .i64 0, .int .i64 0, .int .i64 0, .slice none 0 0, .int .i64 0, .string ⟨#[]⟩, .string ⟨#[]⟩, .int .i64 0] 38)) w.heap.size noV := Cel.Box.new (E := CE) w noV _
 have q1 := DhA.anc_ret X A A' cap cap' l a _ (S.below b0) (T.below b0) (by omega) (K.below b0)
 have hjc := join_cases (coms l) a (by rw [coms_len]; omega)
 have hx1 := anc_few (coms l) a
 have hu1 := part_few (coms l) (ancC (coms l) a)
 have hu2 := pars_few (n := 200) (Nat.le_trans hu1 (by rw [coms_len]; exact hl)) (part_ps (coms l) (ancC (coms l) a))
 have hf1 := last_few (coms l) a
 rw [coms_len] at hx1 hu1 hf1
 obtain ⟨r, hr⟩ : ∃ r, joinC (coms l) a = r := ⟨_, rfl⟩
 rw [hr] at hjc ⊢
 obtain ⟨E, hE⟩ : ∃ E, endsJ (coms l) a = E := ⟨_, rfl⟩
 obtain ⟨F, hF⟩ : ∃ F, lastJ (coms l) a = F := ⟨_, rfl⟩
 have hE2 := hE
 have hF2 := hF
 rw [hE, hF] at hjc
 rw [hF] at hf1
 unfold endsJ at hE2
 rw [hF] at hE2
 unfold lastJ at hF2
 obtain ⟨xs, hxs⟩ : ∃ xs, ancC (coms l) a = xs := ⟨_, rfl⟩
 rw [hxs] at q1 hx1 hu1 hu2 hE2 hF2
 obtain ⟨U, hU⟩ : ∃ U, partC (coms l) xs = U := ⟨_, rfl⟩
 rw [hU] at hu1 hu2 hE2 hF2
 have hel : E.length ≤ l.length := by rw [← hE2]; exact Nat.le_trans (part_few _ _) hu1
 unfold NewD at q1
 unfold FoundC
 have HU := aside hU
 have HE := aside hE2
 have HF := aside hF2
 have HJ := aside hjc
 clear hr hE hF hxs hU hE2 hF2 hjc
 go_enter Tryz.func37, Tryz.ntmps37
 go_wp2_with (first | go_skip)
 refine q1.mono ?_
 rintro e w1 ⟨A1, c1, rfl, T1, k1⟩
 have C1 := C0.below k1
 have b1 := b0.trans (k1.mono b0.size)
 clear q1 C0 b0 k1
 go_wp2_with (first | go_skip)
 refine (DhB.part_ret X A A1 cap c1 l xs w1 (S.below b1) T1 (by omega) (by omega) (K.below b1)).mono ?_
 rintro e w2 ⟨A2, c2, us, rfl, S2, hus, k2⟩
 rw [HU.out] at hus
 subst hus
 rw [coms_len] at hu1
 have C2 := C1.below k2
 have b2 := b1.trans (k2.mono b1.size)
 have T2 := T1.below k2
 clear C1 b1 k2 T1
 go_wp2_with (first | go_skip)
 have q3 := last_ret A1 A2 c1 c2 xs us w2 T2 S2 (by omega) (by omega) (by omega)
 rw [HF.out] at q3
 refine q3.mono ?_
 rintro e w3 ⟨v3, rfl, o3, k3⟩
 obtain ⟨A3, c3, rfl, T3⟩ := SlI.own o3
 have C3 := C2.below k3
 have b3 := b2.trans (k3.mono b2.size)
 have S3 := S2.below k3
 clear q3 o3 C2 b2 k3 S2 T2
 go_wp2_with (first | go_skip)
 refine (DhB.part_ret X A2 A3 c2 c3 us F w3 S3 T3 (by omega) (by omega) (K.below b3)).mono ?_
 rintro e w4 ⟨A4, c4, es, rfl, S4, hes, k4⟩
 rw [HE.out] at hes
 subst hes
 rw [coms_len] at hel
 have C4 := C3.below k4
 have b4 := b3.trans (k4.mono b3.size)
 have T4 := T3.below k4
 clear C3 b3 k4 S3 T3
 have hjc := HJ.out
 clear HJ HU HE HF
 rcases hjc with ⟨h1, rfl⟩ | ⟨c, h1, rfl⟩ | ⟨h2, h3, h4, h5⟩
 case inl =>
  have he0 : es = [] := by
   have := congrArg List.length h1
   rw [coms_len] at this
   exact List.eq_nil_of_length_eq_zero this
  subst he0
  go_wp2_with (first | go_skip | (refine Cel.wpList_store_box CE rfl _ _ rfl w.heap.size rfl noV C4 noV rfl ?_; intro w9 R9 f9 g9 s9))
  exact bodyPost_ret (v := .tuple #[.agg (cc noV), .bool false]) (results_cb Tryz.results37 _ _ w.heap.size noV _ rfl rfl R9) rfl ⟨noV, rfl, rfl, CmW.In.none _, fit_noK, b4.trans (f9 _ (Nat.le_refl _))⟩
 case inr.inl =>
  obtain ⟨v, rfl⟩ : ∃ v, es = [v] := List.length_eq_one_iff.1 (by
   have := congrArg List.length h1
   rw [coms_len] at this
   exact this)
  obtain rfl : v.c = c := (List.cons.inj h1).1
  obtain ⟨b, off, rfl, hbw, hrg⟩ := S4.plain (by simp)
  have rx : w4.rangeAt b off (cc v).toList := by simpa using hrg 0 v rfl
  obtain ⟨IV, FV⟩ := S4.each v (by simp)
  clear hrg h1 hel
  go_wp2_with (first | go_skip | (refine load_at rfl _ rfl _ _ rfl v rx ?_) | (refine Cel.wpList_store_box CE rfl _ _ rfl w.heap.size rfl noV C4 v rfl ?_; intro w9 R9 f9 g9 s9))
  exact bodyPost_ret (v := .tuple #[.agg (cc v), .bool true]) (results_cb Tryz.results37 _ _ w.heap.size v _ rfl rfl R9) rfl ⟨v, rfl, rfl, CmD.sli_far IV (CmD.no_cm C4) g9, FV, b4.trans (f9 _ (Nat.le_refl _))⟩
 case inr.inr =>
  rw [coms_len] at h2
  have p0 : ¬ ((es.length : Int) = 0) := by omega
  have p1 : ¬ ((es.length : Int) = 1) := by omega
  have q5 := above_ret A4 c4 es w4 S4
  obtain ⟨g, hg⟩ : ∃ g, most ((coms es).map (·.gen)) = g := ⟨_, rfl⟩
  rw [hg] at q5 h3 h4 h5
  have hw1 : IntKind.i64.wrap (g + 1) = g + 1 := by rw [IntKind.wrap_i64]; omega
  rw [hw1] at q5
  have hok : CmR.Okay ⟨-1, 0, g + 1, F, noO⟩ := okay_merge ⟨by omega, by omega⟩
  have q6 := fun W (I : SlI W A3 c3 F) => CmA.may_ret (⟨A3, c3, ⟨-1, 0, g + 1, F, noO⟩⟩ : Cv) W I hok.fit
  obtain ⟨m, hm⟩ : ∃ m, mayK ⟨-1, 0, g + 1, F, noO⟩ = m := ⟨_, rfl⟩
  rw [hm] at h5
  rw [show mayK (⟨A3, c3, ⟨-1, 0, g + 1, F, noO⟩⟩ : Cv).c = m from hm] at q6
  have HOK := aside hok
  have H5 := aside h5
  clear hg hm h5 hok h2 h3 h4 hel hw1
  go_wp2_with (first | go_skip)
  refine q5.mono ?_
  rintro e w5 ⟨rfl, k5⟩
  have C5 := C4.below k5
  have b5 := b4.trans (k5.mono b4.size)
  have T5 := T4.below k5
  clear q5 C4 b4 k5 S4 T4
  go_wp2_with (first | go_skip | (refine Cel.wpList_store_new CE rfl _ _ rfl w5 _ _ rfl (⟨A3, c3, ⟨-1, 0, g + 1, F, noO⟩⟩ : Cv) _ rfl rfl rfl rfl ?_; intro w6 B6 k6 g6 s6; have C6 := C5.below k6; have T6 := T5.below k6; have b6 := b5.trans (k6.mono b5.size); clear g6 s6) | (refine Cel.wpList_load_box CE rfl _ rfl _ rfl (⟨A3, c3, ⟨-1, 0, g + 1, F, noO⟩⟩ : Cv) B6 ?_))
  refine (q6 _ T6).mono ?_
  rintro e w7 ⟨rfl, k7⟩
  have C7 := C6.below k7
  have B7 := B6.below k7
  have T7 := T6.below k7
  have b7 := b6.trans (k7.mono b6.size)
  clear q6
  cases m with
  | false =>
   have hrn : r = none := H5.out
   go_wp2_with (first | go_skip | (refine Cel.wpList_store_box CE rfl _ _ rfl w.heap.size rfl noV C7 noV rfl ?_; intro w9 R9 f9 g9 s9))
   exact bodyPost_ret (v := .tuple #[.agg (cc noV), .bool false]) (results_cb Tryz.results37 _ _ w.heap.size noV _ rfl rfl R9) rfl ⟨noV, by rw [hrn]; rfl, by rw [hrn]; rfl, CmW.In.none _, fit_noK, b7.trans (f9 _ (Nat.le_refl _))⟩
  | true =>
   have hrn : r = some ⟨-1, 0, g + 1, F, noO⟩ := H5.out
   go_wp2_with (first | go_skip | (refine Cel.wpList_load_box CE rfl _ rfl _ rfl (⟨A3, c3, ⟨-1, 0, g + 1, F, noO⟩⟩ : Cv) B7 ?_) | (refine Cel.wpList_store_box CE rfl _ _ rfl w.heap.size rfl noV C7 (⟨A3, c3, ⟨-1, 0, g + 1, F, noO⟩⟩ : Cv) rfl ?_; intro w9 R9 f9 g9 s9))
   exact bodyPost_ret (v := .tuple #[.agg (cc (⟨A3, c3, ⟨-1, 0, g + 1, F, noO⟩⟩ : Cv)), .bool true]) (results_cb Tryz.results37 _ _ w.heap.size _ _ rfl rfl R9) rfl ⟨⟨A3, c3, ⟨-1, 0, g + 1, F, noO⟩⟩, by rw [hrn]; rfl, by rw [hrn]; rfl, CmD.sli_far T7 (CmD.no_cm C7) g9, HOK.out.fit, b7.trans (f9 _ (Nat.le_refl _))⟩
set_option maxRecDepth 100000 in
set_option maxHeartbeats 16000000 in
theorem head_ret (X : KnownRet) (A : Option Addr) (cap : Nat) (l : List Cv) (w : World) (S : SlK w A cap l) (hl : l.length ≤ 200) (K : ShaE.KIn w) :
  Calls Tryz.prog 39 #[.slice A l.length cap] w (FoundC (headC (coms l)) w) := by
 have b0 := StW.below_alloc w (.cells #[.int .i64 0, .int .i64 0, .int .i64 0, .slice none 0 0, .int .i64 0, .string ⟨#[]⟩, .string ⟨#[]⟩, .int .i64 0] 38)
 have C0 : Cel.Box CE (w.alloc (.cells #[.int .i64 0, .int .i64 0, .int .i64 0, .slice none 0 0, .int .i64 0, .string ⟨#[]⟩, .string ⟨#[]⟩, .int .i64 0] 38)) w.heap.size noV := Cel.Box.new (E := CE) w noV _
 have q1 := DhC.ids_ret A cap l _ (S.below b0) (by omega) (K.below b0)
 have q2 := fun A' cap' W S T K => join_ret X A A' cap cap' l (idsD (coms l)) W S T hl K
 have hh : joinC (coms l) (idsD (coms l)) = headC (coms l) := by
  unfold headC joinC head join
  by_cases C : Closed hashK (coms l)
  · rw [if_pos C, if_pos C, all_ids C]
  · rw [if_neg C, if_neg C]
 rw [hh] at q2
 clear hh
 unfold NewD at q1
 unfold FoundC at q2 ⊢
 generalize headC (coms l) = r at q2 ⊢
 generalize idsD (coms l) = all at q1 q2
 go_enter Tryz.func39, Tryz.ntmps39
 go_wp2_with (first | go_skip)
 refine q1.mono ?_
 rintro e w1 ⟨A1, c1, rfl, T1, k1⟩
 have C1 := C0.below k1
 have b1 := b0.trans (k1.mono b0.size)
 clear C0 b0 k1 q1
 go_wp2_with (first | go_skip)
 refine (q2 _ _ _ (S.below b1) T1 (K.below b1)).mono ?_
 rintro e w2 ⟨v, rfl, hv, IV, FV, k2⟩
 have C2 := C1.below k2
 have b2 := b1.trans (k2.mono b1.size)
 clear C1 b1 k2 q2 T1
 obtain ⟨s, hs⟩ : ∃ s, r.isSome = s := ⟨_, rfl⟩
 rw [hs]
 go_wp2_with (first | go_skip | (refine Cel.wpList_store_box CE rfl _ _ rfl w.heap.size rfl noV C2 v rfl ?_; intro w9 R9 f9 g9 s9))
 exact bodyPost_ret (v := .tuple #[.agg (cc v), .bool s]) (results_cb Tryz.results39 _ _ w.heap.size v _ rfl rfl R9) rfl ⟨v, by rw [hs], hv, CmD.sli_far IV (CmD.no_cm C2) g9, FV, b2.trans (f9 _ (Nat.le_refl _))⟩
set_option maxRecDepth 100000 in
set_option maxHeartbeats 16000000 in
theorem base_ret (X : KnownRet) (A A1 A2 : Option Addr) (cap cap1 cap2 : Nat) (l : List Cv) (a b : List Idn) (w : World) (S : SlK w A cap l) (T : SlI w A1 cap1 a) (R : SlI w A2 cap2 b) (hl : l.length ≤ 200) (K : ShaE.KIn w) :
  Calls Tryz.prog 35 #[.slice A l.length cap, .slice A1 a.length cap1, .slice A2 b.length cap2] w (NewD (baseC (coms l) a b) w) := by
 have hs1 := anc_few (coms l) a
 have hs2 := anc_few (coms l) b
 rw [coms_len] at hs1 hs2
 have q1 := DhA.anc_ret X A A1 cap cap1 l a w S T (by omega) K
 have q2 := fun W S T K => DhA.anc_ret X A A2 cap cap2 l b W S T (by omega) K
 unfold baseC
 obtain ⟨xs, hxs⟩ : ∃ xs, ancC (coms l) a = xs := ⟨_, rfl⟩
 obtain ⟨ys, hys⟩ : ∃ ys, ancC (coms l) b = ys := ⟨_, rfl⟩
 rw [hxs] at hs1 q1
 rw [hys] at hs2 q2
 rw [hxs, hys]
 have q3 := fun B1 B2 d1 d2 W S T => IdU.common_ret B1 B2 d1 d2 xs ys W S T (by omega) (by omega)
 obtain ⟨M, hM⟩ : ∃ M, common xs ys = M := ⟨_, rfl⟩
 unfold NewI at q3
 rw [hM] at q3 ⊢
 clear hxs hys hs1 hs2 hM
 unfold NewD at q1 q2 ⊢
 go_enter Tryz.func35, Tryz.ntmps35
 go_wp2_with (first | go_skip)
 refine q1.mono ?_
 rintro e w1 ⟨B1, d1, rfl, U, k1⟩
 go_wp2_with (first | go_skip)
 refine (q2 _ (S.below k1) (R.below k1) (K.below k1)).mono ?_
 rintro e w2 ⟨B2, d2, rfl, V, k2⟩
 go_wp2_with (first | go_skip)
 refine (q3 _ _ _ _ _ (U.below k2) V).mono ?_
 rintro e w3 ⟨v3, rfl, o3, k3⟩
 obtain ⟨B3, d3, rfl, Z⟩ := SlI.own o3
 clear o3
 go_wp2_with (first | go_skip)
 go_ret
 exact ⟨B3, d3, rfl, Z, (k1.trans (k2.mono k1.size)).trans (k3.mono (k1.trans (k2.mono k1.size)).size)⟩
end Go.Proofs.YtechkdhehipliaaGreatDoor.FrC
namespace Go.Proofs.YtechkdhehipliaaGreatDoor.FrX
set_option maxRecDepth 100000
open Go Go.Sort Go.RowKit Byt IdM IdW OpsM OpsW RowS CmM StW CmW CmX CmY DgW

set_option maxRecDepth 100000 in
set_option maxHeartbeats 4000000 in
theorem grow_ret (n : Nat) (hn : n ≤ 1000) (w : World) : Calls Tryz.prog 98 #[.slice none 0 0, .int .i64 n] w fun e w' => ∃ v, e = .returned v ∧ w'.ownsRow w.heap.size 38 8 v 0 (RowS.flat KE []) ∧ Below w.heap.size w w' := by
 by_cases h0 : n = 0
 · subst h0
  go_enter Tryz.func98, Tryz.ntmps98
  go_wp2_with (first | go_skip)
  go_ret
  exact ⟨_, rfl, ⟨rfl, .inl ⟨rfl, rfl⟩⟩, Below.refl _ _⟩
 · obtain ⟨i, hi, z0, z1, z2⟩ := info_parts KE.info
  have h1 : ¬ ((n : Int) < 0) := by omega
  have h4 : (0 : Int) < n := by omega
  have hw : IntKind.i64.wrap (n : Int) = n := by rw [IntKind.wrap_i64]; omega
  have hrz : ∀ ty, (Builtin.append_ #[22, 3] ty #[.slice none 0 0, .int .i64 n]).run Tryz.prog w =
    .ok (.slice (some ⟨w.heap.size, 0, none⟩) n (grownCap w n 0 38)) (w.drew.alloc (.cells (Builtin.zeroCells (Value.agg (KE.enc KE.zero).toArray).cells n ++ Builtin.zeroCells (Value.agg (KE.enc KE.zero).toArray).cells (grownCap w n 0 38 - n)) 38)) := fun ty =>
   Lib.run_append_nil_zeros w 22 3 ty 38 i (.agg (KE.enc KE.zero).toArray) .i64 .i64 Tryz.underlying22 Tryz.underlying3 hi z0 n (by omega) (by rw [z1]; show 0 < 8; omega) (by omega) (by rw [z2]; show n * 96 ≤ _; omega)
  have hge := grownCap_ge w n 0 38
  have hle := grownCap_le_maxLen w n 0 38 (by unfold maxLen; omega)
  obtain ⟨G, hG⟩ : ∃ G, grownCap w n 0 38 = G := ⟨_, rfl⟩
  rw [hG] at hrz hge hle
  obtain ⟨Z, hZ⟩ : ∃ Z, Builtin.zeroCells (Value.agg (KE.enc KE.zero).toArray).cells n ++ Builtin.zeroCells (Value.agg (KE.enc KE.zero).toArray).cells (G - n) = Z := ⟨_, rfl⟩
  have hz : Z.size = G * 8 := by
   rw [← hZ]
   simp [Builtin.zeroCells, Value.cells, KE]
   omega
  rw [hZ] at hrz
  have own : (w.drew.alloc (.cells Z 38)).ownsRow w.heap.size 38 8 (.slice (some ⟨w.drew.heap.size, 0, none⟩) 0 G) 0 [] :=
   World.ownsRow_made w.drew _ G (Nat.le_refl _) hle hz
  have kb : Below w.heap.size w (w.drew.alloc (.cells Z 38)) := (below_drew1 (Below.refl _ _)).alloc (Nat.le_refl _) _
  have own' : (w.drew.alloc (.cells Z 38)).ownsRow w.heap.size 38 8 (.slice (some ⟨w.heap.size, 0, none⟩) 0 G) 0 (RowS.flat KE []) := own
  obtain ⟨W, hW⟩ : ∃ W, w.drew.alloc (.cells Z 38) = W := ⟨_, rfl⟩
  rw [hW] at hrz own' kb
  have hmax : (G : Int) ≤ 9223372036854775807 := by unfold maxLen at hle; omega
  clear hG own hz hW hZ
  go_enter Tryz.func98, Tryz.ntmps98
  go_wp2_with (first | go_skip | (at_builtin; refine Lib.wpList_append_run _ rfl _ _ _ _ rfl _ _ rfl rfl _ _ (hrz _) ?_))
  go_ret
  exact ⟨_, rfl, own', kb⟩
set_option maxRecDepth 100000 in
set_option maxHeartbeats 8000000 in
theorem concat_ret (g : Nat) (A0 : Option Addr) (k0 : Nat) (l0 : List Cv) (A1 : Option Addr) (k1 : Nat) (l1 : List Cv) (w : World)
  (c0 : w.cell? ⟨g, 0, none⟩ = some (.slice A0 l0.length k0)) (c1 : w.cell? ⟨g, 1, none⟩ = some (.slice A1 l1.length k1))
  (S0 : SlR KE w A0 k0 l0) (S1 : SlR KE w A1 k1 l1) (hn : l0.length + l1.length ≤ 1000) (cap : Nat) :
  Calls Tryz.prog 72 #[.slice (some ⟨g, 0, none⟩) 2 cap] w (NewR KE (l0 ++ l1) w) := by
 have cg : ∀ W, Calls Tryz.prog 98 #[.slice none 0 0, .int .i64 ((l0.length : Int) + l1.length)] W fun e w' => ∃ v, e = .returned v ∧ w'.ownsRow W.heap.size 38 8 v 0 (RowS.flat KE []) ∧ Below W.heap.size W w' := fun W => by
  have := grow_ret (l0.length + l1.length) (by omega) W
  simpa using this
 go_enter Tryz.func72, Tryz.ntmps72
 go_wp2_with (first | go_skip)
 refine wp_loop_rounds 3 ?_
 rw [rounds_succ]
 go_wp2_with (first | go_skip)
 rw [rounds_succ]
 go_wp2_with (first | go_skip)
 rw [rounds_succ]
 go_wp2_with (first | go_skip)
 refine (cg _).mono ?_
 rintro _ w1 ⟨v1, rfl, own1, b1⟩
 have z0 := b1.cell (block_lt_of_cell c0) |>.trans c0
 have z1 := b1.cell (block_lt_of_cell c1) |>.trans c1
 have T0 := S0.below b1
 have T1 := S1.below b1
 clear cg
 go_wp2_with (first | go_skip)
 refine wp_loop_rounds 3 ?_
 rw [rounds_succ]
 go_wp2_with (first | go_skip | (refine RowS.wpList_append KE rfl (.tmp 31) (.tmp 32) rfl w.heap.size _ 0 [] rfl own1 A0 _ k0 l0 rfl rfl T0 (by omega) b1.size ?_; intro v2 w2 own2 g2))
 have b2 := below_grown b1 b1.size g2 (fun q hq => (own1.lt q hq).1)
 clear z0
 have z1' := b2.cell (block_lt_of_cell c1) |>.trans c1
 have U1 := S1.below b2
 clear z1 T0 T1 g2 own1
 rw [rounds_succ]
 go_wp2_with (first | go_skip | (refine RowS.wpList_append KE rfl (.tmp 31) (.tmp 32) rfl w.heap.size _ _ ([] ++ l0) rfl own2 A1 _ k1 l1 rfl rfl U1 (by omega) b2.size ?_; intro v3 w3 own3 g3))
 have b3 := below_grown b2 b2.size g3 (fun q hq => (own2.lt q hq).1)
 clear z1' U1 g3 own2
 rw [rounds_succ]
 go_wp2_with (first | go_skip)
 go_ret
 refine ⟨_, rfl, ?_, b3⟩
 have e : ([] ++ l0) ++ l1 = l0 ++ l1 := by simp
 rw [e] at own3
 have hl : 0 + l0.length + l1.length = (l0 ++ l1).length := by simp
 rw [← hl]
 exact own3
end Go.Proofs.YtechkdhehipliaaGreatDoor.FrX
namespace Go.Proofs.YtechkdhehipliaaGreatDoor.GrowT
set_option maxRecDepth 100000
open Go Go.Sort Go.RowKit GrowL
open Forks (Tree One)

section
variable {P : Program} {ops : Array Oper} {Q : Exit → Act → World → Prop} {md : Region.Mode}

/-- What is asked of a tree. -/
def treeB (L : Nat) (md : Region.Mode) (ops : Array Oper) : Tree → Array Bool → Bool
 | .ends, listed => (Region.ready md ops listed).isEmpty
 | .free i t, listed => ((Region.ready md ops listed).contains i && Region.free md ops listed i && ((ops[i]?).map GrowL.plain).getD false && GrowL.ahead md ops i ops.size L) && treeB L md ops t (listed.setIfInBounds i true)
 | .act i t, listed => Region.ready md ops listed == [i] && treeB L md ops t (listed.setIfInBounds i true)
 | .two i t j u, listed => Region.ready md ops listed == [i, j] && (t.size == u.size && (treeB L md ops t (listed.setIfInBounds i true) && treeB L md ops u (listed.setIfInBounds j true)))
/-- What is asked of each operation, in these orders. -/
def Seq (L : Nat) (P : Program) (ops : Array Oper) (Q : Exit → Act → World → Prop) : Tree → Act → World → Prop
 | .ends, a, w => Q .normal a w
 | .free i t, a, w => ∃ o, ops[i]? = some o ∧ ∃ v, YieldsIf P ops (Below w.heap.size w) o v a ∧ Seq L P ops Q t (a.put o.dst v) w
 | .act i t, a, w => One P ops Q i (fun a' w' => Below w.heap.size w w' ∧ Seq L P ops Q t a' w') a w ∨ (i = L ∧ One P ops Q i (fun a' w' => Seq L P ops Q t a' w') a w)
 | .two i t j u, a, w => One P ops Q i (fun a' w' => Below w.heap.size w w' ∧ Seq L P ops Q t a' w') a w ∧ One P ops Q j (fun a' w' => Below w.heap.size w w' ∧ Seq L P ops Q u a' w') a w

theorem seq_M {L : Nat} (hs : Region.noSelect ops = true) (hQ : ∀ c a d v w, Q (.panic c) (a.put d v) w → Q (.panic c) a w) : ∀ (t : Tree) (listed : Array Bool) (a : Act) (w : World), Shut md ops listed →
  treeB L md ops t listed = true → Seq L P ops Q t a w → M L P md ops Q t.size listed a w
 | .ends, listed, a, w, _, hB, h => ⟨by simpa [treeB] using hB, h⟩
 | .free i t, listed, a, w, hS, hB, ⟨o, ho, v, hy, h⟩ => by
  simp only [treeB, Bool.and_eq_true] at hB
  obtain ⟨⟨⟨⟨h1, h2⟩, _⟩, h3⟩, h4⟩ := hB
  have hr : i ∈ Region.ready md ops listed := by simpa using h1
  exact M.first ho hs h3 (fun c a w => hQ c a o.dst v w) t.size listed a w hS (Region.free_spec ho h2) hr hy (seq_M hs hQ t _ _ _ (hS.set hr) h4 h)
 | .act i t, listed, a, w, hS, hB, h => by
  simp only [treeB, Bool.and_eq_true, beq_iff_eq] at hB
  obtain ⟨h1, h4⟩ := hB
  have hS' : Shut md ops (listed.setIfInBounds i true) := hS.set (by rw [h1]; simp)
  refine ⟨fun h0 => (by rw [h1] at h0; cases h0), fun j hj => ?_⟩
  rw [h1] at hj
  obtain rfl : j = i := by simpa using hj
  rcases h with h | ⟨e, h⟩
  · exact h.op (fun a' w' hh => ⟨fun _ => hh.1, seq_M hs hQ t _ _ _ hS' h4 hh.2⟩)
  · exact h.op (fun a' w' hh => ⟨fun hne => absurd e hne, seq_M hs hQ t _ _ _ hS' h4 hh⟩)
 | .two i t j u, listed, a, w, hS, hB, h => by
  simp only [treeB, Bool.and_eq_true, beq_iff_eq] at hB
  obtain ⟨h1, h2, h3, h4⟩ := hB
  have hI : Shut md ops (listed.setIfInBounds i true) := hS.set (by rw [h1]; simp)
  have hJ : Shut md ops (listed.setIfInBounds j true) := hS.set (by rw [h1]; simp)
  refine ⟨fun h0 => (by rw [h1] at h0; cases h0), fun k hk => ?_⟩
  rw [h1] at hk
  obtain rfl | rfl : k = i ∨ k = j := by simpa using hk
  · exact h.1.op (fun a' w' hh => ⟨fun _ => hh.1, seq_M hs hQ t _ _ _ hI h3 hh.2⟩)
  · exact h.2.op (fun a' w' hh => ⟨fun _ => hh.1, by rw [h2]; exact seq_M hs hQ u _ _ _ hJ h4 hh.2⟩)

/-- These orders serve every order. -/
theorem region (L : Nat) {id : Nat} {a : Act} {w : World} {l : List Oper} (t : Tree) (hm : P.follows .mixedOrders = true) (hs : Region.noSelect l.toArray = true)
  (hl : t.size = l.toArray.size) (hB : treeB L .any l.toArray t (Array.replicate l.toArray.size false) = true) (hQ : ∀ c a d v w, Q (.panic c) (a.put d v) w → Q (.panic c) a w)
  (h : Seq L P l.toArray Q t a w.drew) : (Code.region id l.toArray true).wp P Q a w := by
 refine wp_region_any hm (M.any (L := L) _ _ _ _ ?_)
 have := seq_M (md := .any) hs hQ t (Array.replicate l.toArray.size false) a w.drew (Shut.none _) hB h
 rw [hl] at this
 exact this

/-- One operation that only reads: in every world that grew from this one it yields one and the same. -/
theorem reads {L : Nat} {l : List Oper} {i : Nat} {o : Oper} {t : Tree} {a : Act} {w : World} (hn : Grow.nth l i = some o) (hp : Grow.plain o = true)
  (h : wpQuiet P l.toArray (fun w' => ∃ p : Regrown, w' = grow (redrawn w p.d) p.os) (fun a' => Seq L P l.toArray Q t a' w) [o] a) : Seq L P l.toArray Q (.free i t) a w := by
 have ho := (Grow.nth_at l i).trans hn
 unfold wpQuiet at h
 split at h
 · rename_i hw
  obtain ⟨v, h1, h2⟩ := h
  refine ⟨o, ho, v, .inl ⟨hw, fun u hu => ?_⟩, h2⟩
  have q := h1 u (regrown_of_below hu)
  unfold Oper.quietAt at q
  cases hx : (execOp a.eval o).run P u with
  | ok n u' =>
   obtain ⟨x, rfl⟩ := Grow.plain_value hp hx
   rw [hx] at q
   obtain ⟨rfl, rfl⟩ := q
   rfl
  | halt x u' => rw [hx] at q; exact q.elim
 · rename_i hw
  exact ⟨o, ho, undef, .inr ⟨by simpa using hw, rfl⟩, h⟩
/-- What follows an operation that leaves all that was there. -/
def On (L : Nat) (P : Program) (ops : Array Oper) (Q : Exit → Act → World → Prop) (t : Tree) (w : World) (a' : Act) (w' : World) : Prop := Below w.heap.size w w' ∧ Seq L P ops Q t a' w'
/-- One operation that acts, and waits for all others but those behind it. -/
theorem acts {L : Nat} {l : List Oper} {i : Nat} {o : Oper} {t : Tree} {a : Act} {w : World} (hn : Grow.nth l i = some o)
  (h : wpList P l.toArray (Exit.then (On L P l.toArray Q t w) Q) [o] a w) : Seq L P l.toArray Q (.act i t) a w :=
 .inl ⟨o, (Grow.nth_at l i).trans hn, h⟩
/-- Two that act, in either order. -/
theorem forks {L : Nat} {l : List Oper} {i j : Nat} {o p : Oper} {t u : Tree} {a : Act} {w : World} (hn : Grow.nth l i = some o) (hm : Grow.nth l j = some p)
  (h : wpList P l.toArray (Exit.then (On L P l.toArray Q t w) Q) [o] a w) (h' : wpList P l.toArray (Exit.then (On L P l.toArray Q u w) Q) [p] a w) : Seq L P l.toArray Q (.two i t j u) a w :=
 ⟨⟨o, (Grow.nth_at l i).trans hn, h⟩, ⟨p, (Grow.nth_at l j).trans hm, h'⟩⟩
/-- The last operation: it may write what was there. -/
theorem last {L : Nat} {l : List Oper} {o : Oper} {a : Act} {w : World} (hn : Grow.nth l L = some o)
  (h : wpList P l.toArray (Exit.then (Done Q) Q) [o] a w) : Seq L P l.toArray Q (.act L .ends) a w :=
 .inr ⟨rfl, o, (Grow.nth_at l L).trans hn, h⟩
/-- What follows operation L, where others wait for it. -/
def Mid (L : Nat) (P : Program) (ops : Array Oper) (Q : Exit → Act → World → Prop) (t : Tree) (a' : Act) (w' : World) : Prop := Seq L P ops Q t a' w'
theorem mid {L : Nat} {l : List Oper} {o : Oper} {t : Tree} {a : Act} {w : World} (hn : Grow.nth l L = some o)
  (h : wpList P l.toArray (Exit.then (Mid L P l.toArray Q t) Q) [o] a w) : Seq L P l.toArray Q (.act L t) a w :=
 .inr ⟨rfl, o, (Grow.nth_at l L).trans hn, h⟩
theorem on_mid {L : Nat} {t : Tree} {a : Act} {w : World} (h : Seq L P ops Q t a w) : Mid L P ops Q t a w := h
theorem ends {L : Nat} {a : Act} {w : World} (h : Q .normal a w) : Seq L P ops Q .ends a w := h
end
end Go.Proofs.YtechkdhehipliaaGreatDoor.GrowT
namespace Go.Proofs.YtechkdhehipliaaGreatDoor.FrY
set_option maxRecDepth 100000
open Go Go.Sort Go.RowKit Byt IdM IdW OpsM OpsW CmM StW CmW CmX CmY DgM DgW

/-- How an operation lies in memory. -/
def OE : Cel.Cel Opn where
 T := 36
 k := 4
 bytes := 48
 d := _
 enc o := [.int .i64 o.kind, .string o.key, .string o.elem, .int .i64 o.n]
 zero := noO
 len _ := rfl
 one c v hv := by
  simp only [List.mem_cons, List.not_mem_nil, or_false] at hv
  rcases hv with rfl | rfl | rfl | rfl <;> rfl
 pos := by omega
 info := by kernel_rfl
 under := Tryz.underlying36
 row := rfl
def W3 (w : World) (e : Ev) (o : Opn) : World := ((w.alloc (.cells (ec e) 34)).alloc (.cells (opc o) 36)).alloc (.cells #[.int .i64 0, .int .i64 0, .int .i64 0, .slice none 0 0, .int .i64 0, .string ⟨#[]⟩, .string ⟨#[]⟩, .int .i64 0] 38)
theorem W3_below (w : World) (e : Ev) (o : Opn) : Below w.heap.size w (W3 w e o) := (((Below.refl _ _).alloc (Nat.le_refl _) _).alloc (by simp) _).alloc (by simp; omega) _
theorem W3_boxes (w : World) (e : Ev) (o : Opn) : Cel.Box EE (W3 w e o) w.heap.size e ∧ Cel.Box OE (W3 w e o) (w.heap.size + 1) o ∧ Cel.Box CE (W3 w e o) (w.heap.size + 1 + 1) noV := by
 have z1 : (w.alloc (.cells (ec e) 34)).heap.size = w.heap.size + 1 := by simp
 have z2 : ((w.alloc (.cells (ec e) 34)).alloc (.cells (opc o) 36)).heap.size = w.heap.size + 1 + 1 := by simp
 refine ⟨((Cel.Box.new (E := EE) w e 34).alloc _).alloc _, ?_, ?_⟩
 · rw [← z1]
  exact (Cel.Box.new (E := OE) _ o 36).alloc _
 · rw [← z2]
  exact Cel.Box.new (E := CE) _ noV 38
/-- An event and an operation alone. -/
def W2 (w : World) (e : Ev) (o : Opn) : World := (w.alloc (.cells (ec e) 34)).alloc (.cells (opc o) 36)
theorem W2_below (w : World) (e : Ev) (o : Opn) : Below w.heap.size w (W2 w e o) := ((Below.refl _ _).alloc (Nat.le_refl _) _).alloc (by simp) _
theorem W2_boxes (w : World) (e : Ev) (o : Opn) : Cel.Box EE (W2 w e o) w.heap.size e ∧ Cel.Box OE (W2 w e o) (w.heap.size + 1) o := by
 have z1 : (w.alloc (.cells (ec e) 34)).heap.size = w.heap.size + 1 := by simp
 refine ⟨(Cel.Box.new (E := EE) w e 34).alloc _, ?_⟩
 rw [← z1]
 exact Cel.Box.new (E := OE) _ o 36
theorem two_cells (w : World) (x y : Value) (t : TypeId) : (w.alloc (.cells #[x, y] t)).cell? ⟨w.heap.size, 0, none⟩ = some x ∧ (w.alloc (.cells #[x, y] t)).cell? ⟨w.heap.size, 1, none⟩ = some y := by
 constructor
 · rw [cell_of_row _ _ 0 _ t (0, 0) (heap_alloc_new w _)]
  rfl
 · rw [cell_of_row _ _ 1 _ t (0, 0) (heap_alloc_new w _)]
  rfl
/-- A commit put together out of an event, a generation, parents and an operation. -/
theorem build_com4 (ev : Ev) (g : Int) (A : Option Addr) (n k : Nat) (o : Opn) (w : World) : (Instr.build 38 #[(0, .agg (EE.enc ev).toArray), (1, .int .i64 g), (2, .slice A n k), (3, .agg (OE.enc o).toArray)]).run Tryz.prog w = .ok (.agg #[.int .i64 ev.node, .int .i64 ev.seq, .int .i64 g, .slice A n k, .int .i64 o.kind, .string o.key, .string o.elem, .int .i64 o.n]) w := by kernel_rfl
theorem quiet_build4 {a : Act} {o : Oper} {K : Act → Prop} {w : World} (x y z u : Operand) (ho : o.op = .build 38 #[(0, x), (1, y), (2, z), (3, u)]) (X Y Z U v : Value) (hx : a.eval x = X) (hy : a.eval y = Y) (hz : a.eval z = Z) (hu : a.eval u = U)
  (hb : ∀ W, (Instr.build 38 #[(0, X), (1, Y), (2, Z), (3, U)]).run Tryz.prog W = .ok v W) (hk : K (a.put o.dst v)) : o.quiet Tryz.prog a (fun w' => ∃ p : Regrown, w' = grow (redrawn w p.d) p.os) K := by
 refine ⟨v, fun u hu' => ?_, hk⟩
 unfold Oper.quietAt execOp
 simp only [ho, List.map_toArray, List.map_cons, List.map_nil, hx, hy, hz, hu, Sem.run_bind, hb u, Result.andThen_ok, Sem.run_pure]
 exact ⟨rfl, rfl⟩
/-- Two rows one behind the other, as one. -/
theorem sl_both {w : World} {base n : Nat} {v : Value} {l m : List Cv} (h : w.ownsRow base 38 8 v n (RowS.flat KE (l ++ m))) (hl : ∀ x ∈ l, CmW.In w x ∧ Fit x.c) (hm : ∀ x ∈ m, CmW.In w x ∧ Fit x.c) :
  ∃ A cap, v = .slice A (l ++ m).length cap ∧ SlK w A cap (l ++ m) := by
 obtain ⟨A, cap, e, S⟩ := RowS.SlR.own (E := KE) h
 refine ⟨A, cap, e, S, fun x hx => ?_⟩
 rcases List.mem_append.1 hx with hx | hx
 · exact hl x hx
 · exact hm x hx
theorem coms_one (l : List Cv) (x : Cv) : coms (l ++ [x]) = coms l ++ [x.c] := by unfold coms; rw [List.map_append]; rfl
end Go.Proofs.YtechkdhehipliaaGreatDoor.FrY
namespace Go.Proofs.YtechkdhehipliaaGreatDoor.FrZ
set_option maxRecDepth 100000
open Go Go.Sort Go.RowKit Byt IdM IdW OpsM OpsW CmM StW CmW CmX CmY DgM DgX DgW FrM FrN FrH FrK
open Classical

theorem most_bound {l : List Com} (h : ∀ c ∈ l, I64 c.gen) : 0 ≤ most (l.map (·.gen)) ∧ most (l.map (·.gen)) ≤ 9223372036854775807 := by
 refine ⟨most_nonneg _, most_le (by omega) fun g hg => ?_⟩
 obtain ⟨c, hc, rfl⟩ := List.mem_map.1 hg
 have := h c hc
 unfold I64 at this
 show c.gen ≤ _
 omega
theorem most_small {l : List Com} (C : Closed hashK l) : most (l.map (·.gen)) ≤ l.length := most_le (by omega) fun g hg => by
 obtain ⟨c, hc, rfl⟩ := List.mem_map.1 hg
 exact (gen_len C c hc).2
theorem wrap_one (n : Int) : I64 (IntKind.i64.wrap n) := by
 unfold I64
 rw [IntKind.wrap_i64]
 omega
/-- What comes next, as a program finds it whose numbers are of 64 bits. -/
theorem next_wrap {l : List Com} {ev : Ev} {o : Opn} (hf : ∀ c ∈ l, I64 c.gen) (hl : l.length ≤ 1000) :
  nextC l ev o = if Closed hashK (l ++ [⟨ev.node, ev.seq, IntKind.i64.wrap (most (l.map (·.gen)) + 1), frontC l, o⟩]) then some ⟨ev.node, ev.seq, IntKind.i64.wrap (most (l.map (·.gen)) + 1), frontC l, o⟩ else none := by
 obtain ⟨h0, h1⟩ := most_bound hf
 refine next_if (fun C => ⟨?_, by rw [frontC, if_pos C]⟩) fun _ D d hd => ?_
 · have := most_small C
  rw [IntKind.wrap_i64]
  omega
 · have h2 := (lineB_iff.1 (mayK_iff.1 (D.may _ (List.mem_append_right _ (List.mem_singleton_self _)))).1).1
  have h3 := le_most (List.mem_map_of_mem (f := (·.gen)) hd)
  have h2 : 1 ≤ IntKind.i64.wrap (most (l.map (·.gen)) + 1) := h2
  rw [IntKind.wrap_i64] at h2 ⊢
  have h3 : d.gen ≤ most (l.map (·.gen)) := h3
  omega
/-- What comes next, as the document's answer finds it: closed, one that may be, and closed with it. -/
theorem next_three {l : List Com} {ev : Ev} {o : Opn} (hl : l.length ≤ 1000) :
  nextC l ev o = if (decide (Closed hashK l) && (mayK ⟨ev.node, ev.seq, IntKind.i64.wrap (most (l.map (·.gen)) + 1), frontC l, o⟩ && decide (Closed hashK (l ++ [⟨ev.node, ev.seq, IntKind.i64.wrap (most (l.map (·.gen)) + 1), frontC l, o⟩])))) = true
   then some ⟨ev.node, ev.seq, IntKind.i64.wrap (most (l.map (·.gen)) + 1), frontC l, o⟩ else none := by
 by_cases C : Closed hashK l
 · have h0 := most_nonneg (l.map (·.gen))
  have h1 := most_small C
  have e : IntKind.i64.wrap (most (l.map (·.gen)) + 1) = most (l.map (·.gen)) + 1 := by rw [IntKind.wrap_i64]; omega
  have f : frontC l = front hashK l := by rw [frontC, if_pos C]
  rw [e, f]
  unfold nextC next
  by_cases h : mayK (nextK hashK l ev.node ev.seq o) = true ∧ Closed hashK (l ++ [nextK hashK l ev.node ev.seq o])
  · rw [if_pos ⟨C, h⟩, if_pos (by rw [decide_eq_true C, Bool.true_and, Bool.and_eq_true, decide_eq_true_eq]; exact h)]
   rfl
  · rw [if_neg fun k => h k.2, if_neg (by rw [decide_eq_true C, Bool.true_and, Bool.and_eq_true, decide_eq_true_eq]; exact h)]
 · rw [decide_eq_false C, Bool.false_and, if_neg (by decide)]
  unfold nextC next
  rw [if_neg fun k => C k.1]
theorem next_some {l : List Com} {ev : Ev} {o : Opn} {c : Com} (h : nextC l ev o = some c) : Closed hashK l ∧ Closed hashK (l ++ [c]) ∧ c.ps = front hashK l ∧ c.node = ev.node ∧ c.seq = ev.seq ∧ c.op = o := by
 unfold nextC next at h
 by_cases k : Closed hashK l ∧ mayK (nextK hashK l ev.node ev.seq o) = true ∧ Closed hashK (l ++ [nextK hashK l ev.node ev.seq o])
 · rw [if_pos k] at h
  obtain rfl := Option.some.inj h
  exact ⟨k.1, k.2.2, rfl, rfl, rfl, rfl⟩
 · rw [if_neg k] at h
  cases h
end Go.Proofs.YtechkdhehipliaaGreatDoor.FrZ
