/- What the five functions of package front return, as the walks need it; what they are on the chapter's two commits. No condition. | What the walks of the laws of package front lean on. No condition. | FrontBase's walk, over contracts: what two lists both know is closed, doesn't hang on which comes first, and has what both know. No condition. -/
import Derived.Test.YtechkdhehipliaaGreatDoorFrJ
import Derived.Test.YtechkdhehipliaaGreatDoorDgFJ2
import Derived.Test.YtechkdhehipliaaGreatDoorDgGJ3
import Derived.Test.YtechkdhehipliaaGreatDoorDgAJ5
namespace Go.Proofs.YtechkdhehipliaaGreatDoor.FrH
set_option maxRecDepth 100000
open Go Go.Sort Go.RowKit Byt IdM IdW OpsM OpsW CmM StW CmW CmX CmY CmA DgM DgW DgR DgF DgG FrM FrN FrJ
open Classical

noncomputable def frontC (l : List Com) : List Idn := if Closed hashK l then front hashK l else []
noncomputable def joinC (l : List Com) (a : List Idn) : Option Com := join hashK l a
noncomputable def headC (l : List Com) : Option Com := head hashK l
noncomputable def baseC (l : List Com) (a b : List Idn) : List Idn := common (ancC l a) (ancC l b)
noncomputable def nextC (l : List Com) (ev : Ev) (o : Opn) : Option Com := next hashK l ev.node ev.seq o
/-- What those of package dag return that the laws of package front call. -/
structure Three : Prop where
  ids : ∀ (A : Option Addr) (cap : Nat) (l : List Cv) (w : World), SlK w A cap l → (∀ v ∈ l, CmR.Okay v.c) → l.length ≤ 1000 → ShaE.KIn w → Calls Tryz.prog 15 #[.slice A l.length cap] w (NewD (idsD (coms l)) w)
  closed : ∀ (A : Option Addr) (cap : Nat) (l : List Cv) (w : World), SlK w A cap l → (∀ v ∈ l, CmR.Okay v.c) → l.length ≤ 1000 → ShaE.KIn w → Calls Tryz.prog 25 #[.slice A l.length cap] w fun e w' => e = .returned (.bool (decide (Closed hashK (coms l)))) ∧ Below w.heap.size w w'
  anc : ∀ (A A' : Option Addr) (cap cap' : Nat) (l : List Cv) (a : List Idn) (w : World), SlK w A cap l → SlI w A' cap' a → (∀ v ∈ l, CmR.Okay v.c) → l.length ≤ 1000 → a.length ≤ 1000 → ShaE.KIn w → Calls Tryz.prog 18 #[.slice A l.length cap, .slice A' a.length cap'] w (NewD (ancC (coms l) a) w)
/-- What the five functions return, where each of the commits is short and they are few. -/
structure Five : Prop where
  front : ∀ (A : Option Addr) (cap : Nat) (l : List Cv) (w : World), SlK w A cap l → (∀ v ∈ l, CmR.Okay v.c) → l.length ≤ 100 → ShaE.KIn w → Calls Tryz.prog 33 #[.slice A l.length cap] w (NewD (frontC (coms l)) w)
  join : ∀ (A A' : Option Addr) (cap cap' : Nat) (l : List Cv) (a : List Idn) (w : World), SlK w A cap l → SlI w A' cap' a → (∀ v ∈ l, CmR.Okay v.c) → l.length ≤ 100 → a.length ≤ 100 → ShaE.KIn w → Calls Tryz.prog 37 #[.slice A l.length cap, .slice A' a.length cap'] w (FoundC (joinC (coms l) a) w)
  head : ∀ (A : Option Addr) (cap : Nat) (l : List Cv) (w : World), SlK w A cap l → (∀ v ∈ l, CmR.Okay v.c) → l.length ≤ 100 → ShaE.KIn w → Calls Tryz.prog 39 #[.slice A l.length cap] w (FoundC (headC (coms l)) w)
  base : ∀ (A A1 A2 : Option Addr) (cap cap1 cap2 : Nat) (l : List Cv) (a b : List Idn) (w : World), SlK w A cap l → SlI w A1 cap1 a → SlI w A2 cap2 b → (∀ v ∈ l, CmR.Okay v.c) → l.length ≤ 100 → a.length ≤ 100 → b.length ≤ 100 → ShaE.KIn w → Calls Tryz.prog 35 #[.slice A l.length cap, .slice A1 a.length cap1, .slice A2 b.length cap2] w (NewD (baseC (coms l) a b) w)
  next : ∀ (A : Option Addr) (cap : Nat) (l : List Cv) (ev : Ev) (o : Opn) (w : World), SlK w A cap l → (∀ v ∈ l, CmR.Okay v.c) → l.length ≤ 100 → CmR.Okay ⟨ev.node, ev.seq, 0, [], o⟩ → ShaE.KIn w → Calls Tryz.prog 41 #[.slice A l.length cap, .agg (ec ev), .agg (opc o)] w (FoundC (nextC (coms l) ev o) w)
theorem front_two : (frontC pair).length = 2 := by
  unfold frontC
  rw [if_pos closed_pair, front_pair]
  rfl
theorem base_two {a : List Idn} : baseC pair a [] = [] := by
  unfold baseC ancC
  rw [if_pos closed_pair, if_pos closed_pair, anc_nil]
  refine rising_uniq (rising_common _ _) (by simp [Rising]) fun x => ?_
  rw [mem_common]
  simp
end Go.Proofs.YtechkdhehipliaaGreatDoor.FrH
namespace Go.Proofs.YtechkdhehipliaaGreatDoor.FrU
set_option maxRecDepth 100000
open Go Go.Sort Go.RowKit Byt IdM IdW OpsM OpsW CmM StW CmW CmX CmY CmA DgM DgW DgR DgC DgF DgG FrM FrN FrJ FrH
open Classical

abbrev AwakeRet : Prop := ∀ w : World, ShaE.KIn w → Calls Tryz.prog 32 #[] w fun e w' => e = .returned (.bool true) ∧ Below w.heap.size w w'
abbrev SortRet : Prop := ∀ (A : Option Addr) (cap : Nat) (l : List Idn) (w : World), SlI w A cap l → l.length ≤ 1000 → Calls Tryz.prog 46 #[.slice A l.length cap] w (NewI (IdM.sort l) w)
theorem okay_few {l : List Cv} {m : Int} (S : ∀ v ∈ l, Fit v.c) (h : fewD (coms l) m = true) : (∀ v ∈ l, CmR.Okay v.c) ∧ (l.length : Int) ≤ m := by
  unfold fewD at h
  rw [Bool.and_eq_true, decide_eq_true_eq, coms_len, List.all_eq_true] at h
  refine ⟨fun v hv => ?_, h.1⟩
  exact CmX.okay (h.2 v.c (List.mem_map_of_mem hv)) (S v hv)
theorem anc_of {l : List Com} (C : Closed hashK l) (a : List Idn) : ancC l a = anc hashK l a := by rw [ancC, if_pos C]
theorem front_of {l : List Com} (C : Closed hashK l) : frontC l = front hashK l := by rw [frontC, if_pos C]
theorem all_ids {l : List Com} (C : Closed hashK l) : idsD l = l.map hashK := by rw [idsD, if_pos (closed_may C)]
theorem anc_short {l : List Com} (C : Closed hashK l) (a : List Idn) : (anc hashK l a).length ≤ l.length := by
  rw [← part_len C]
  exact List.length_filter_le _ _
end Go.Proofs.YtechkdhehipliaaGreatDoor.FrU
namespace Go.Proofs.YtechkdhehipliaaGreatDoor.FrB
set_option maxRecDepth 100000
open Go Go.Sort Go.RowKit Byt IdM IdW OpsM OpsW CmM StW CmW CmX CmY CmA DgM DgW DgR DgF DgG FrM FrN FrJ FrH FrU DhU
open Classical

theorem common_turn (a b : List Idn) : common b a = common a b := by
  refine rising_uniq (rising_common _ _) (rising_common _ _) fun x => ?_
  rw [mem_common, mem_common]
  exact and_comm
theorem base_of {l : List Com} (C : Closed hashK l) (a b : List Idn) : baseC l a b = common (anc hashK l a) (anc hashK l b) := by rw [baseC, anc_of C, anc_of C]
set_option maxRecDepth 100000 in
set_option maxHeartbeats 32000000 in
theorem walk (X : Three) (F : Five) (HA : AwakeRet) (a0 : Option Addr) (cap0 : Nat) (l0 : List Cv) (a1 : Option Addr) (cap1 : Nat) (l1 : List Idn) (a2 : Option Addr) (cap2 : Nat) (l2 : List Idn) (x : Idn) (w : World) (S : SlK w a0 cap0 l0) (T : SlI w a1 cap1 l1) (R : SlI w a2 cap2 l2) (K : ShaE.KIn w) :
    Calls Tryz.prog 11 #[.slice a0 l0.length cap0, .slice a1 l1.length cap1, .slice a2 l2.length cap2, .agg (cs x)] w fun e w' => e = .returned (.bool true) ∧ Below w.heap.size w w' := by
  have hmax := S.len
  have hmax1 : l1.length ≤ 9223372036854775807 := by have := T.1; have := T.2.1; unfold maxLen at this; omega
  have hmax2 : l2.length ≤ 9223372036854775807 := by have := R.1; have := R.2.1; unfold maxLen at this; omega
  have BX : IdW.Box (w.alloc (.cells (cs x) 42)) w.heap.size x := IdW.Box.new w x _
  have b := StW.below_alloc w (.cells (cs x) 42)
  have S := S.below b
  have T := T.below b
  have R := R.below b
  have K := K.below b
  go_enter Tryz.func11, Tryz.ntmps11
  have qs := HA _ K
  go_wp2_with (first | go_skip)
  refine qs.mono ?_
  clear qs
  rintro e wx ⟨rfl, kx⟩
  have S' := S.below kx
  have T' := T.below kx
  have R' := R.below kx
  have K' := K.below kx
  have BX' := BX.below kx BX.lt
  have b' := b.trans (kx.mono b.size)
  clear S T R K BX b kx
  have S := S'
  have T := T'
  have R := R'
  have K := K'
  have BX := BX'
  have b := b'
  clear S' T' R' K' BX' b'
  go_wp2_with (first | go_skip)
  obtain ⟨f, hf⟩ : ∃ f, fewD (coms l0) 10 = f := ⟨_, rfl⟩
  have qs := DgR.few_ret a0 cap0 l0 10 _ S
  rw [hf] at qs
  refine qs.mono ?_
  clear qs
  rintro e w2 ⟨rfl, kx⟩
  have S' := S.below kx
  have T' := T.below kx
  have R' := R.below kx
  have K' := K.below kx
  have BX' := BX.below kx BX.lt
  have b' := b.trans (kx.mono b.size)
  clear S T R K BX b kx
  have S := S'
  have T := T'
  have R := R'
  have K := K'
  have BX := BX'
  have b := b'
  clear S' T' R' K' BX' b'
  cases f with
  | false =>
    go_wp2_with (first | go_skip)
    go_ret
    exact ⟨rfl, b⟩
  | true =>
    have hw : (20 : Int) < l1.length ∨ (¬ (20 : Int) < l1.length ∧ (20 : Int) < l2.length) ∨ (¬ (20 : Int) < l1.length ∧ ¬ (20 : Int) < l2.length) := by omega
    rcases hw with p1 | ⟨p1, p2⟩ | ⟨p1, p2⟩
    case inl =>
      go_wp2_with (first | go_skip)
      go_ret
      exact ⟨rfl, b⟩
    case inr.inl =>
      go_wp2_with (first | go_skip)
      go_ret
      exact ⟨rfl, b⟩
    case inr.inr =>
      obtain ⟨ho, hl⟩ := okay_few (fun v hv => (S.each v hv).2) hf
      have hl2 : l0.length ≤ 1000 := by omega
      have hl1 : l0.length ≤ 100 := by omega
      have HO := aside ho
      clear ho hf
      have qs0 := X.closed a0 cap0 l0 _ S HO.out hl2 K
      by_cases hC : Closed hashK (coms l0)
      case neg =>
        rw [decide_eq_false hC] at qs0
        go_wp2_with (first | go_skip)
        refine qs0.mono ?_
        rintro e wx ⟨rfl, kx⟩
        clear qs0
        go_wp2_with (first | go_skip)
        go_ret
        exact ⟨rfl, b.trans (kx.mono b.size)⟩
      case pos =>
        rw [decide_eq_true hC] at qs0
        have HC := aside hC
        clear hC
        have qs := qs0
        go_wp2_with (first | go_skip)
        refine qs.mono ?_
        clear qs
        rintro e wx ⟨rfl, kx⟩
        clear qs0
        have S' := S.below kx
        have T' := T.below kx
        have R' := R.below kx
        have K' := K.below kx
        have BX' := BX.below kx BX.lt
        have b' := b.trans (kx.mono b.size)
        clear S T R K BX b kx
        have S := S'
        have T := T'
        have R := R'
        have K := K'
        have BX := BX'
        have b := b'
        clear S' T' R' K' BX' b'
        have n1 : l1.length ≤ 20 := by omega
        have n2 : l2.length ≤ 20 := by omega
        have hlc := coms_len l0
        have s1 := anc_short HC.out l1
        have e3 := anc_common HC.out l1 l2
        have e4 := base_of HC.out l1 l2
        have e5 := base_of HC.out l2 l1
        rw [common_turn] at e5
        obtain ⟨xs, hxs⟩ : ∃ xs, anc hashK (coms l0) l1 = xs := ⟨_, rfl⟩
        obtain ⟨ys, hys⟩ : ∃ ys, anc hashK (coms l0) l2 = ys := ⟨_, rfl⟩
        rw [hxs] at s1
        rw [hxs, hys] at e3 e4 e5
        obtain ⟨M, hM⟩ : ∃ M, common xs ys = M := ⟨_, rfl⟩
        have hMl : M.length ≤ 100 := by rw [← hM]; exact Nat.le_trans (common_short xs ys) (by omega)
        have hx : decide (x ∈ M) = (decide (x ∈ xs) && decide (x ∈ ys)) := by rw [← hM, Bool.eq_iff_iff]; simp [mem_common]
        rw [hM] at e3 e4 e5
        have E3 := aside e3
        have E4 := aside e4
        have E5 := aside e5
        have HX := aside hxs
        have HY := aside hys
        obtain ⟨p, hp⟩ : ∃ p, decide (x ∈ xs) = p := ⟨_, rfl⟩
        obtain ⟨q, hq⟩ : ∃ q, decide (x ∈ ys) = q := ⟨_, rfl⟩
        rw [hp, hq] at hx
        have HP := aside hp
        have HQ := aside hq
        have HE := aside hx
        clear e3 e4 e5 hxs hys s1 hlc hM hx hp hq
        have qs := F.base a0 a1 a2 cap0 cap1 cap2 l0 l1 l2 _ S T R HO.out hl1 (by omega) (by omega) K
        rw [E4.out] at qs
        go_wp2_with (first | go_skip)
        refine qs.mono ?_
        clear qs
        rintro e wx ⟨A4, c4', rfl, U, kx⟩
        have S' := S.below kx
        have T' := T.below kx
        have R' := R.below kx
        have K' := K.below kx
        have BX' := BX.below kx BX.lt
        have b' := b.trans (kx.mono b.size)
        clear S T R K BX b kx
        have S := S'
        have T := T'
        have R := R'
        have K := K'
        have BX := BX'
        have b := b'
        clear S' T' R' K' BX' b'
        have qs := X.anc a0 A4 cap0 c4' l0 M _ S U HO.out hl2 (by omega) K
        rw [anc_of HC.out, E3.out] at qs
        go_wp2_with (first | go_skip)
        refine qs.mono ?_
        clear qs
        rintro e wx ⟨A5, c5', rfl, V, kx⟩
        have S' := S.below kx
        have T' := T.below kx
        have R' := R.below kx
        have K' := K.below kx
        have BX' := BX.below kx BX.lt
        have U' := U.below kx
        have b' := b.trans (kx.mono b.size)
        clear S T R K BX U b kx
        have S := S'
        have T := T'
        have R := R'
        have K := K'
        have BX := BX'
        have U := U'
        have b := b'
        clear S' T' R' K' BX' U' b'
        have qs := IdV.same_ret A5 A4 c5' c4' M M _ V U
        rw [decide_eq_true rfl] at qs
        go_wp2_with (first | go_skip)
        refine qs.mono ?_
        clear qs
        rintro e wx ⟨rfl, kx⟩
        clear V
        have S' := S.below kx
        have T' := T.below kx
        have R' := R.below kx
        have K' := K.below kx
        have BX' := BX.below kx BX.lt
        have U' := U.below kx
        have b' := b.trans (kx.mono b.size)
        clear S T R K BX U b kx
        have S := S'
        have T := T'
        have R := R'
        have K := K'
        have BX := BX'
        have U := U'
        have b := b'
        clear S' T' R' K' BX' U' b'
        have qs := F.base a0 a2 a1 cap0 cap2 cap1 l0 l2 l1 _ S R T HO.out hl1 (by omega) (by omega) K
        rw [E5.out] at qs
        go_wp2_with (first | go_skip)
        refine qs.mono ?_
        clear qs
        rintro e wx ⟨A5, c5', rfl, V, kx⟩
        have S' := S.below kx
        have T' := T.below kx
        have R' := R.below kx
        have K' := K.below kx
        have BX' := BX.below kx BX.lt
        have U' := U.below kx
        have b' := b.trans (kx.mono b.size)
        clear S T R K BX U b kx
        have S := S'
        have T := T'
        have R := R'
        have K := K'
        have BX := BX'
        have U := U'
        have b := b'
        clear S' T' R' K' BX' U' b'
        have qs := IdV.same_ret A5 A4 c5' c4' M M _ V U
        rw [decide_eq_true rfl] at qs
        go_wp2_with (first | go_skip)
        refine qs.mono ?_
        clear qs
        rintro e wx ⟨rfl, kx⟩
        clear V
        have S' := S.below kx
        have T' := T.below kx
        have R' := R.below kx
        have K' := K.below kx
        have BX' := BX.below kx BX.lt
        have U' := U.below kx
        have b' := b.trans (kx.mono b.size)
        clear S T R K BX U b kx
        have S := S'
        have T := T'
        have R := R'
        have K := K'
        have BX := BX'
        have U := U'
        have b := b'
        clear S' T' R' K' BX' U' b'
        cases p with
        | false =>
          go_wp2_with (first | go_skip)
          refine Grow.region [(0, true), (1, true), (3, true), (2, false), (4, false), (5, true), (6, true), (7, true), (9, true), (8, false), (10, false), (11, true), (12, true)] (by kernel_rfl) (by kernel_rfl) rfl (by kernel_rfl) (by intro c a d v w h; cases d <;> exact h) ?_
          rename World => wq
          have kx := below_drew1 (Below.refl wq.heap.size wq)
          have S' := S.below kx
          have T' := T.below kx
          have R' := R.below kx
          have K' := K.below kx
          have BX' := BX.below kx BX.lt
          have U' := U.below kx
          have b' := b.trans (kx.mono b.size)
          clear S T R K BX U b kx
          have S := S'
          have T := T'
          have R := R'
          have K := K'
          have BX := BX'
          have U := U'
          have b := b'
          clear S' T' R' K' BX' U' b'
          generalize wq.drew = wz at S T R K BX U b ⊢
          repeat (first | (refine IdV.reads_id rfl rfl _ rfl _ _ rfl x BX.range ?_; simp only [Act.put, List.setIfInBounds_toArray, List.set_cons_succ, List.set_cons_zero]) | (refine Grow.reads rfl rfl ?_; go_big_quiet_want; refine CmA.quiet_id _ rfl _ _ rfl x BX.range ?_; go_big_quiet_on; refine wpQuiet_nil ?_; (try simp only [Act.put, List.setIfInBounds_toArray, List.set_cons_succ, List.set_cons_zero])) | (refine Grow.reads rfl rfl ?_; go_big_quiet_step (fail); refine wpQuiet_nil ?_))
          refine Grow.acts rfl ?_
          have qs := X.anc a0 a1 cap0 cap1 l0 l1 _ S T HO.out hl2 (by omega) K
          rw [anc_of HC.out, HX.out] at qs
          go_wp2_with (first | go_skip)
          refine qs.mono ?_
          clear qs
          rintro e wx ⟨A5, c5', rfl, V, kx⟩
          go_wp2_with (first | go_skip)
          refine ⟨kx, ?_⟩
          have S' := S.below kx
          have T' := T.below kx
          have R' := R.below kx
          have K' := K.below kx
          have BX' := BX.below kx BX.lt
          have U' := U.below kx
          have b' := b.trans (kx.mono b.size)
          clear S T R K BX U b kx
          have S := S'
          have T := T'
          have R := R'
          have K := K'
          have BX := BX'
          have U := U'
          have b := b'
          clear S' T' R' K' BX' U' b'
          (try simp only [Act.put, List.setIfInBounds_toArray, List.set_cons_succ, List.set_cons_zero])
          repeat (first | (refine IdV.reads_id rfl rfl _ rfl _ _ rfl x BX.range ?_; simp only [Act.put, List.setIfInBounds_toArray, List.set_cons_succ, List.set_cons_zero]) | (refine Grow.reads rfl rfl ?_; go_big_quiet_want; refine CmA.quiet_id _ rfl _ _ rfl x BX.range ?_; go_big_quiet_on; refine wpQuiet_nil ?_; (try simp only [Act.put, List.setIfInBounds_toArray, List.set_cons_succ, List.set_cons_zero])) | (refine Grow.reads rfl rfl ?_; go_big_quiet_step (fail); refine wpQuiet_nil ?_))
          refine Grow.acts rfl ?_
          have qs := IdV.has_ret A5 c5' xs x _ V
          rw [HP.out] at qs
          go_wp2_with (first | go_skip)
          refine qs.mono ?_
          clear qs
          rintro e wx ⟨rfl, kx⟩
          go_wp2_with (first | go_skip)
          refine ⟨kx, ?_⟩
          clear V
          have S' := S.below kx
          have T' := T.below kx
          have R' := R.below kx
          have K' := K.below kx
          have BX' := BX.below kx BX.lt
          have U' := U.below kx
          have b' := b.trans (kx.mono b.size)
          clear S T R K BX U b kx
          have S := S'
          have T := T'
          have R := R'
          have K := K'
          have BX := BX'
          have U := U'
          have b := b'
          clear S' T' R' K' BX' U' b'
          (try simp only [Act.put, List.setIfInBounds_toArray, List.set_cons_succ, List.set_cons_zero])
          repeat (first | (refine IdV.reads_id rfl rfl _ rfl _ _ rfl x BX.range ?_; simp only [Act.put, List.setIfInBounds_toArray, List.set_cons_succ, List.set_cons_zero]) | (refine Grow.reads rfl rfl ?_; go_big_quiet_want; refine CmA.quiet_id _ rfl _ _ rfl x BX.range ?_; go_big_quiet_on; refine wpQuiet_nil ?_; (try simp only [Act.put, List.setIfInBounds_toArray, List.set_cons_succ, List.set_cons_zero])) | (refine Grow.reads rfl rfl ?_; go_big_quiet_step (fail); refine wpQuiet_nil ?_))
          refine Grow.acts rfl ?_
          go_wp2_with (first | go_skip)
          refine ⟨Below.refl _ _, ?_⟩
          (try simp only [Act.put, List.setIfInBounds_toArray, List.set_cons_succ, List.set_cons_zero])
          refine Grow.acts rfl ?_
          go_wp2_with (first | go_skip)
          refine ⟨Below.refl _ _, ?_⟩
          (try simp only [Act.put, List.setIfInBounds_toArray, List.set_cons_succ, List.set_cons_zero])
          repeat (first | (refine IdV.reads_id rfl rfl _ rfl _ _ rfl x BX.range ?_; simp only [Act.put, List.setIfInBounds_toArray, List.set_cons_succ, List.set_cons_zero]) | (refine Grow.reads rfl rfl ?_; go_big_quiet_want; refine CmA.quiet_id _ rfl _ _ rfl x BX.range ?_; go_big_quiet_on; refine wpQuiet_nil ?_; (try simp only [Act.put, List.setIfInBounds_toArray, List.set_cons_succ, List.set_cons_zero])) | (refine Grow.reads rfl rfl ?_; go_big_quiet_step (fail); refine wpQuiet_nil ?_))
          refine Grow.ends ?_
          have hE := HE.out
          have qs := IdV.has_ret A4 c4' M x _ U
          rw [hE] at qs
          rw [Bool.false_and] at qs
          go_wp2_with (first | go_skip | (refine CmY.gid _ rfl _ _ rfl x BX.range rfl ?_))
          refine qs.mono ?_
          clear qs
          rintro e wx ⟨rfl, kx⟩
          go_wp2_with (first | go_skip)
          go_ret
          exact ⟨rfl, b.trans (kx.mono b.size)⟩
        | true =>
          go_wp2_with (first | go_skip)
          refine Grow.region [(0, true), (1, true), (3, true), (2, false), (4, false), (5, true), (6, true), (7, true), (9, true), (8, false), (10, false), (11, true), (12, true)] (by kernel_rfl) (by kernel_rfl) rfl (by kernel_rfl) (by intro c a d v w h; cases d <;> exact h) ?_
          rename World => wq
          have kx := below_drew1 (Below.refl wq.heap.size wq)
          have S' := S.below kx
          have T' := T.below kx
          have R' := R.below kx
          have K' := K.below kx
          have BX' := BX.below kx BX.lt
          have U' := U.below kx
          have b' := b.trans (kx.mono b.size)
          clear S T R K BX U b kx
          have S := S'
          have T := T'
          have R := R'
          have K := K'
          have BX := BX'
          have U := U'
          have b := b'
          clear S' T' R' K' BX' U' b'
          generalize wq.drew = wz at S T R K BX U b ⊢
          repeat (first | (refine IdV.reads_id rfl rfl _ rfl _ _ rfl x BX.range ?_; simp only [Act.put, List.setIfInBounds_toArray, List.set_cons_succ, List.set_cons_zero]) | (refine Grow.reads rfl rfl ?_; go_big_quiet_want; refine CmA.quiet_id _ rfl _ _ rfl x BX.range ?_; go_big_quiet_on; refine wpQuiet_nil ?_; (try simp only [Act.put, List.setIfInBounds_toArray, List.set_cons_succ, List.set_cons_zero])) | (refine Grow.reads rfl rfl ?_; go_big_quiet_step (fail); refine wpQuiet_nil ?_))
          refine Grow.acts rfl ?_
          have qs := X.anc a0 a1 cap0 cap1 l0 l1 _ S T HO.out hl2 (by omega) K
          rw [anc_of HC.out, HX.out] at qs
          go_wp2_with (first | go_skip)
          refine qs.mono ?_
          clear qs
          rintro e wx ⟨A5, c5', rfl, V, kx⟩
          go_wp2_with (first | go_skip)
          refine ⟨kx, ?_⟩
          have S' := S.below kx
          have T' := T.below kx
          have R' := R.below kx
          have K' := K.below kx
          have BX' := BX.below kx BX.lt
          have U' := U.below kx
          have b' := b.trans (kx.mono b.size)
          clear S T R K BX U b kx
          have S := S'
          have T := T'
          have R := R'
          have K := K'
          have BX := BX'
          have U := U'
          have b := b'
          clear S' T' R' K' BX' U' b'
          (try simp only [Act.put, List.setIfInBounds_toArray, List.set_cons_succ, List.set_cons_zero])
          repeat (first | (refine IdV.reads_id rfl rfl _ rfl _ _ rfl x BX.range ?_; simp only [Act.put, List.setIfInBounds_toArray, List.set_cons_succ, List.set_cons_zero]) | (refine Grow.reads rfl rfl ?_; go_big_quiet_want; refine CmA.quiet_id _ rfl _ _ rfl x BX.range ?_; go_big_quiet_on; refine wpQuiet_nil ?_; (try simp only [Act.put, List.setIfInBounds_toArray, List.set_cons_succ, List.set_cons_zero])) | (refine Grow.reads rfl rfl ?_; go_big_quiet_step (fail); refine wpQuiet_nil ?_))
          refine Grow.acts rfl ?_
          have qs := IdV.has_ret A5 c5' xs x _ V
          rw [HP.out] at qs
          go_wp2_with (first | go_skip)
          refine qs.mono ?_
          clear qs
          rintro e wx ⟨rfl, kx⟩
          go_wp2_with (first | go_skip)
          refine ⟨kx, ?_⟩
          clear V
          have S' := S.below kx
          have T' := T.below kx
          have R' := R.below kx
          have K' := K.below kx
          have BX' := BX.below kx BX.lt
          have U' := U.below kx
          have b' := b.trans (kx.mono b.size)
          clear S T R K BX U b kx
          have S := S'
          have T := T'
          have R := R'
          have K := K'
          have BX := BX'
          have U := U'
          have b := b'
          clear S' T' R' K' BX' U' b'
          (try simp only [Act.put, List.setIfInBounds_toArray, List.set_cons_succ, List.set_cons_zero])
          repeat (first | (refine IdV.reads_id rfl rfl _ rfl _ _ rfl x BX.range ?_; simp only [Act.put, List.setIfInBounds_toArray, List.set_cons_succ, List.set_cons_zero]) | (refine Grow.reads rfl rfl ?_; go_big_quiet_want; refine CmA.quiet_id _ rfl _ _ rfl x BX.range ?_; go_big_quiet_on; refine wpQuiet_nil ?_; (try simp only [Act.put, List.setIfInBounds_toArray, List.set_cons_succ, List.set_cons_zero])) | (refine Grow.reads rfl rfl ?_; go_big_quiet_step (fail); refine wpQuiet_nil ?_))
          refine Grow.acts rfl ?_
          have qs := X.anc a0 a2 cap0 cap2 l0 l2 _ S R HO.out hl2 (by omega) K
          rw [anc_of HC.out, HY.out] at qs
          go_wp2_with (first | go_skip)
          refine qs.mono ?_
          clear qs
          rintro e wx ⟨A5, c5', rfl, V, kx⟩
          go_wp2_with (first | go_skip)
          refine ⟨kx, ?_⟩
          have S' := S.below kx
          have T' := T.below kx
          have R' := R.below kx
          have K' := K.below kx
          have BX' := BX.below kx BX.lt
          have U' := U.below kx
          have b' := b.trans (kx.mono b.size)
          clear S T R K BX U b kx
          have S := S'
          have T := T'
          have R := R'
          have K := K'
          have BX := BX'
          have U := U'
          have b := b'
          clear S' T' R' K' BX' U' b'
          (try simp only [Act.put, List.setIfInBounds_toArray, List.set_cons_succ, List.set_cons_zero])
          repeat (first | (refine IdV.reads_id rfl rfl _ rfl _ _ rfl x BX.range ?_; simp only [Act.put, List.setIfInBounds_toArray, List.set_cons_succ, List.set_cons_zero]) | (refine Grow.reads rfl rfl ?_; go_big_quiet_want; refine CmA.quiet_id _ rfl _ _ rfl x BX.range ?_; go_big_quiet_on; refine wpQuiet_nil ?_; (try simp only [Act.put, List.setIfInBounds_toArray, List.set_cons_succ, List.set_cons_zero])) | (refine Grow.reads rfl rfl ?_; go_big_quiet_step (fail); refine wpQuiet_nil ?_))
          refine Grow.acts rfl ?_
          have qs := IdV.has_ret A5 c5' ys x _ V
          rw [HQ.out] at qs
          go_wp2_with (first | go_skip)
          refine qs.mono ?_
          clear qs
          rintro e wx ⟨rfl, kx⟩
          go_wp2_with (first | go_skip)
          refine ⟨kx, ?_⟩
          clear V
          have S' := S.below kx
          have T' := T.below kx
          have R' := R.below kx
          have K' := K.below kx
          have BX' := BX.below kx BX.lt
          have U' := U.below kx
          have b' := b.trans (kx.mono b.size)
          clear S T R K BX U b kx
          have S := S'
          have T := T'
          have R := R'
          have K := K'
          have BX := BX'
          have U := U'
          have b := b'
          clear S' T' R' K' BX' U' b'
          (try simp only [Act.put, List.setIfInBounds_toArray, List.set_cons_succ, List.set_cons_zero])
          repeat (first | (refine IdV.reads_id rfl rfl _ rfl _ _ rfl x BX.range ?_; simp only [Act.put, List.setIfInBounds_toArray, List.set_cons_succ, List.set_cons_zero]) | (refine Grow.reads rfl rfl ?_; go_big_quiet_want; refine CmA.quiet_id _ rfl _ _ rfl x BX.range ?_; go_big_quiet_on; refine wpQuiet_nil ?_; (try simp only [Act.put, List.setIfInBounds_toArray, List.set_cons_succ, List.set_cons_zero])) | (refine Grow.reads rfl rfl ?_; go_big_quiet_step (fail); refine wpQuiet_nil ?_))
          refine Grow.ends ?_
          have hE := HE.out
          have qs := IdV.has_ret A4 c4' M x _ U
          rw [hE] at qs
          rw [Bool.true_and] at qs
          have hqq : (q == q) = true := by cases q <;> rfl
          go_wp2_with (first | go_skip | (refine CmY.gid _ rfl _ _ rfl x BX.range rfl ?_))
          refine qs.mono ?_
          clear qs
          rintro e wx ⟨rfl, kx⟩
          go_wp2_with (first | go_skip)
          go_ret
          exact ⟨rfl, b.trans (kx.mono b.size)⟩
end Go.Proofs.YtechkdhehipliaaGreatDoor.FrB
