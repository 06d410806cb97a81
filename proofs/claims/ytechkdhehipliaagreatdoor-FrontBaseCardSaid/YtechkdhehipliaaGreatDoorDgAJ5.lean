/- The six functions of the project's package dag answer as the document does, where known does, as it does. No condition. | What the listed variable gives a walk: the table of constants, cell by cell; and a world that meets the condition. | DagSorted returns true for every input: closed commits, sorted, are the same from any order of theirs, they are all of them, and each beginning of them is closed. No condition. | Contracts of package ids as premises; slices of ids cut on both sides. No condition. | DagAnc's walk, over the six functions' contracts: what some know is closed, has them, and all that it has is known by itself; of two lists together it is what both have. No condition. -/
import Derived.Test.YtechkdhehipliaaGreatDoorDhB
import Derived.Test.YtechkdhehipliaaGreatDoorCmFJ4
import Derived.Test.YtechkdhehipliaaGreatDoorRows
import Derived.ProofKit
import Derived.LaidMore
import Derived.OpenShut
import Derived.Stop.Joined
import Derived.Test.YtechkdhehipliaaGreatDoorDgHJ4
import Derived.Test.YtechkdhehipliaaGreatDoorDgCJ2
namespace Go.Proofs.YtechkdhehipliaaGreatDoor.DgA
set_option maxRecDepth 100000
open Go Go.Sort Go.RowKit Byt IdM IdW OpsM OpsW CmM StW CmW CmX CmY CmA DgM DgW DgR DgF DgG DgS DgJ DgH DhA

theorem six_of (X : KnownRet) : Six where
  ids A cap l w S _ hl K := DhC.ids_ret A cap l w S (by omega) K
  find A cap l a w S _ _ K := DhC.find_ret A cap l a w S K
  closed A cap l w S _ hl K := DhA.closed_ret X A cap l w S (by omega) K
  anc A A' cap cap' l a w S T _ hl _ K := DhA.anc_ret X A A' cap cap' l a w S T hl K
  part A A' cap cap' l a w S T _ hl ha K := DhB.part_ret X A A' cap cap' l a w S T (by omega) ha K
  sorted A cap l w S _ hl K := DhB.sorted_ret X A cap l w S (by omega) K
theorem six : Six := six_of DhK.known_ret
end Go.Proofs.YtechkdhehipliaaGreatDoor.DgA
namespace Go.Proofs.YtechkdhehipliaaGreatDoor.ShaL
set_option maxRecDepth 100000
open Go.ChangeShapes Go.WideShapes Go.ChangeAt Go.RowKit RotM ShaM ShaE

/-- The list of the rows of this seat. -/
abbrev laid1 : List (String × DataW Unit) := [("anabranch/sha.constants", Rows.laid_anabranch_sha_constants)]
theorem gK : Tryz.prog.globalNamed "anabranch/sha.constants" = some 0 := by kernel_rfl
theorem tK : (Tryz.prog.globals[0]?).map (·.type) = some 133 := by kernel_rfl
theorem cells_u32 : Tryz.prog.cellsOf 114 = 1 := by kernel_rfl
theorem datum : (Rows.laid_anabranch_sha_constants : DataW Unit) = .agg ((List.range 64).map fun i => .lit (.int .u32 (u (kc i)))) := by kernel_rfl

/-- The door's own heap meets the condition. -/
theorem door_met (os : Os) (args : Array Value) : laidMetH Tryz.prog laid1 ((World.doorLaid Tryz.prog 14 os).forCall (fun _ _ => 0) ⟨#[], args, []⟩).memory :=
  laidMetH_of_parts3 (fuel := 8) (laidMet_of_run' 8 (by kernel_rfl) (by kernel_rfl)) (by kernel_rfl) (by kernel_rfl)

theorem of_laid {W : World} (h : laidMetH Tryz.prog laid1 W) : KIn W := by
  rw [MakeChecks.laidMetH_plain _ _ _ (by kernel_rfl)] at h
  obtain ⟨ps, ⟨g0, t0, cs0, f0, p0, q0, hg0, ht0, hv0, hd0, _⟩, _, _⟩ := h
  obtain rfl := Option.some.inj (gK.symm.trans hg0)
  obtain rfl := Option.some.inj (tK.symm.trans ht0)
  obtain ⟨xs, m, _, hx, hlen, hn, hel⟩ := DataW.trod_array Tryz.underlying133 hd0
  intro i hi
  have hc := World.var?_cell hg0 hv0 i
  have he := hel i hi
  rw [datum] at hx
  simp only [Prod.mk.injEq, DataW.agg.injEq] at hx
  obtain ⟨hx, _⟩ := hx
  have hxi := congrArg (fun l => l[i]?) hx
  have hlt : i < xs.length := by omega
  simp only [List.getElem?_map, List.getElem?_range hi, Option.map_some, List.getElem?_eq_getElem hlt, Option.some.injEq] at hxi
  rw [List.getElem?_eq_getElem hlt] at he
  obtain ⟨n, e1, e2, _⟩ := DataW.trod_int Tryz.underlying114 he
  rw [e2] at hxi
  simp only [DataW.lit.injEq, Lit.int.injEq, true_and] at hxi
  subst hxi
  rw [hc]
  rw [cells_u32, Nat.mul_one] at e1
  have e3 := congrArg (fun l => l[0]?) e1
  simpa using e3
end Go.Proofs.YtechkdhehipliaaGreatDoor.ShaL
namespace Go.Proofs.YtechkdhehipliaaGreatDoor.DgV
set_option maxRecDepth 100000
open Go Go.Sort Go.RowKit Byt IdM IdW OpsM OpsW CmM StW CmW CmX CmY CmA DgM DgW DgR DgF DgG DgS DgJ DgE DgH DgB
open Classical

theorem okay_few {l : List Cv} {m : Int} (S : ∀ v ∈ l, Fit v.c) (h : fewD (coms l) m = true) : (∀ v ∈ l, CmR.Okay v.c) ∧ (l.length : Int) ≤ m := by
  unfold fewD at h
  rw [Bool.and_eq_true, decide_eq_true_eq, coms_len, List.all_eq_true] at h
  exact ⟨fun v hv => CmX.okay (h.2 v.c (List.mem_map_of_mem hv)) (S v hv), h.1⟩
theorem coms_rev (l : List Cv) : coms l.reverse = (coms l).reverse := by unfold coms; rw [List.map_reverse]
theorem order_nodup {m : List Com} (h : InOrder hashK m) : m.Nodup := List.Pairwise.imp (fun {a b} (hab : Ahead hashK a b) (e : a = b) => by subst e; exact ahead_asymm hab hab) h
theorem sorted_perm {l m : List Com} (C : Closed hashK l) (h : IsSorted l m) : m.Perm l ∧ InOrder hashK m := by
  unfold IsSorted at h
  rw [if_pos C] at h
  refine ⟨(List.perm_ext_iff_of_nodup (order_nodup h.1) ?_).2 h.2, h.1⟩
  exact (List.pairwise_map.1 C.nodup).imp fun {a b} hab e => hab (by rw [e])
theorem sorted_rev {l m m2 : List Com} (C : Closed hashK l) (h : IsSorted l m) (k : IsSorted l.reverse m2) : m = m2 := by
  have C2 : Closed hashK l.reverse := closed_perm C (List.reverse_perm l).symm
  unfold IsSorted at h k
  rw [if_pos C] at h
  rw [if_pos C2] at k
  exact order_uniq h.1 k.1 fun x => (h.2 x).trans (by rw [k.2 x, List.mem_reverse])
theorem ids_same {l m : List Com} (h : m.Perm l) (C : Closed hashK l) : IdM.sort (idsD m) = IdM.sort (idsD l) := by
  have C2 := closed_perm C h.symm
  unfold idsD
  rw [if_pos (closed_may C), if_pos (closed_may C2)]
  exact sort_congr fun x => (h.map hashK).mem_iff
theorem rev_next {l : List Cv} {n : Nat} {x : Cv} (h : l[n]? = some x) : (l.drop n).reverse = (l.drop (n + 1)).reverse ++ [x] := by rw [drop_at h, List.reverse_cons]
end Go.Proofs.YtechkdhehipliaaGreatDoor.DgV
namespace Go.Proofs.YtechkdhehipliaaGreatDoor.DhU
set_option maxRecDepth 100000
open Go Go.Sort Go.RowKit Byt IdM IdW IdX

theorem run_part_lh (w : World) (A : Option Addr) (len cap : Nat) (k k' : IntKind) (i j : Nat) (hij : i ≤ j) (hj : j ≤ cap) :
    (Instr.sliceAt 23 (.slice A len cap) (some (.int k i)) (some (.int k' j)) none).run Tryz.prog w = .ok (sliced A i j cap 32) w := by
  rw [run_sliceAt_slice w _ _ _ _ _ under_id, run_slice_lh w _ A len cap under_id k k' i j (by omega) (by omega) (by omega), size_id]
  simp [Result.andThen]
abbrev BothRet : Prop := ∀ (A A' : Option Addr) (cap cap' : Nat) (l l' : List Idn) (w : World), SlI w A cap l → SlI w A' cap' l' → l.length ≤ 500 → l'.length ≤ 500 → Calls Tryz.prog 29 #[.slice A l.length cap, .slice A' l'.length cap'] w (NewI (both l l') w)
abbrev CommonRet : Prop := ∀ (A A' : Option Addr) (cap cap' : Nat) (l l' : List Idn) (w : World), SlI w A cap l → SlI w A' cap' l' → l.length ≤ 500 → l'.length ≤ 500 → Calls Tryz.prog 30 #[.slice A l.length cap, .slice A' l'.length cap'] w (NewI (common l l') w)
theorem rising_short {l m : List Idn} (hl : Rising l) (h : ∀ x ∈ l, x ∈ m) : l.length ≤ m.length := by
  have hn := rising_nodup hl
  clear hl
  induction l generalizing m with
  | nil => exact Nat.zero_le _
  | cons x l ih =>
    rw [List.nodup_cons] at hn
    have h1 := ih (m := m.erase x) (fun y hy => by
      have hne : y ≠ x := fun e => hn.1 (by rw [← e]; exact hy)
      exact (List.mem_erase_of_ne hne).2 (h y (List.mem_cons_of_mem _ hy))) hn.2
    have hx := h x (by simp)
    rw [List.length_erase_of_mem hx] at h1
    have := List.length_pos_of_mem hx
    simp only [List.length_cons]
    omega
theorem common_short (a b : List Idn) : (common a b).length ≤ a.length := rising_short (rising_common a b) fun _ h => ((mem_common _ a b).1 h).1
end Go.Proofs.YtechkdhehipliaaGreatDoor.DhU
namespace Go.Proofs.YtechkdhehipliaaGreatDoor.DhY
set_option maxRecDepth 100000
open Go Go.Sort Go.RowKit Byt IdM IdW OpsM OpsW CmM StW CmW CmX CmY CmA DgM DgW DgR DgF DgG DgS DgJ DgE DgH DgB DgV DhU
open Classical

theorem anc_of {l : List Com} (C : Closed hashK l) (a : List Idn) : ancC l a = anc hashK l a := by rw [ancC, if_pos C]
theorem part_of {l : List Com} (C : Closed hashK l) (a : List Idn) : partC l a = DgM.part hashK l (· ∈ a) := by rw [partC, if_pos C]
theorem anc_short {l : List Com} (C : Closed hashK l) (a : List Idn) : (anc hashK l a).length ≤ l.length := by
  rw [← part_len C]
  exact List.length_filter_le _ _
theorem found_iff {l : List Com} (C : Closed hashK l) {a : List Idn} {y : Idn} (hy : y ∈ a) : (findC l y).isSome = decide (y ∈ anc hashK l a) := by
  rw [Bool.eq_iff_iff, decide_eq_true_eq, mem_anc]
  unfold findC
  rw [List.find?_isSome]
  constructor
  · rintro ⟨c, hc, h⟩
    rw [Bool.and_eq_true, decide_eq_true_eq] at h
    exact ⟨by rw [← h.2]; exact List.mem_map_of_mem hc, .inl hy⟩
  · rintro ⟨h, _⟩
    obtain ⟨c, hc, rfl⟩ := List.mem_map.1 h
    exact ⟨c, hc, by rw [C.may c hc]; simp⟩
set_option maxRecDepth 100000 in
set_option maxHeartbeats 32000000 in
theorem walk (X : Six) (HB : BothRet) (HM : CommonRet) (a0 : Option Addr) (cap0 : Nat) (l0 : List Cv) (a1 : Option Addr) (cap1 : Nat) (l1 : List Idn) (a2 : Option Addr) (cap2 : Nat) (l2 : List Idn) (w : World) (S : SlK w a0 cap0 l0) (T : SlI w a1 cap1 l1) (R : SlI w a2 cap2 l2) (K : ShaE.KIn w) :
    Calls Tryz.prog 4 #[.slice a0 l0.length cap0, .slice a1 l1.length cap1, .slice a2 l2.length cap2] w fun e w' => e = .returned (.bool true) ∧ Below w.heap.size w w' := by
  have hmax := S.len
  have hmax1 : l1.length ≤ 9223372036854775807 := by have := T.1; have := T.2.1; unfold maxLen at this; omega
  have hmax2 : l2.length ≤ 9223372036854775807 := by have := R.1; have := R.2.1; unfold maxLen at this; omega
  have b := Below.refl w.heap.size w
  go_enter Tryz.func4, Tryz.ntmps4
  have qs := awake X _ K
  go_wp2_with (first | go_skip)
  refine qs.mono ?_
  clear qs
  rintro e wx ⟨rfl, kx⟩
  have S' := S.below kx
  have T' := T.below kx
  have R' := R.below kx
  have K' := K.below kx
  have b' := b.trans (kx.mono b.size)
  clear S T R K b kx
  have S := S'
  have T := T'
  have R := R'
  have K := K'
  have b := b'
  clear S' T' R' K' b'
  go_wp2_with (first | go_skip)
  obtain ⟨f, hf⟩ : ∃ f, fewD (coms l0) 12 = f := ⟨_, rfl⟩
  have qs := DgR.few_ret a0 cap0 l0 12 _ S
  rw [hf] at qs
  refine qs.mono ?_
  clear qs
  rintro e w2 ⟨rfl, kx⟩
  have S' := S.below kx
  have T' := T.below kx
  have R' := R.below kx
  have K' := K.below kx
  have b' := b.trans (kx.mono b.size)
  clear S T R K b kx
  have S := S'
  have T := T'
  have R := R'
  have K := K'
  have b := b'
  clear S' T' R' K' b'
  cases f with
  | false =>
    go_wp2_with (first | go_skip)
    go_ret
    exact ⟨rfl, b⟩
  | true =>
    have hw : (20 : Int) < l1.length ∨ (¬ (20 : Int) < l1.length ∧ (20 : Int) < l2.length) ∨ (¬ (20 : Int) < l1.length ∧ ¬ (20 : Int) < l2.length) := by omega
    rcases hw with p1 | ⟨p1, p2⟩ | ⟨p1, p2⟩
    case inl =>
      go_wp2_with (first | go_skip)
      go_ret
      exact ⟨rfl, b⟩
    case inr.inl =>
      go_wp2_with (first | go_skip)
      go_ret
      exact ⟨rfl, b⟩
    case inr.inr =>
      obtain ⟨ho, hl⟩ := okay_few (fun v hv => (S.each v hv).2) hf
      have hl2 : l0.length ≤ 1000 := by omega
      have HO := aside ho
      clear ho hf
      have qs0 := X.closed a0 cap0 l0 _ S HO.out hl2 K
      by_cases hC : Closed hashK (coms l0)
      case neg =>
        rw [decide_eq_false hC] at qs0
        go_wp2_with (first | go_skip)
        refine qs0.mono ?_
        rintro e wx ⟨rfl, kx⟩
        clear qs0
        go_wp2_with (first | go_skip)
        go_ret
        exact ⟨rfl, b.trans (kx.mono b.size)⟩
      case pos =>
        rw [decide_eq_true hC] at qs0
        have HC := aside hC
        clear hC
        have qs := qs0
        go_wp2_with (first | go_skip)
        refine qs.mono ?_
        clear qs
        rintro e wx ⟨rfl, kx⟩
        clear qs0
        have S' := S.below kx
        have T' := T.below kx
        have R' := R.below kx
        have K' := K.below kx
        have b' := b.trans (kx.mono b.size)
        clear S T R K b kx
        have S := S'
        have T := T'
        have R := R'
        have K := K'
        have b := b'
        clear S' T' R' K' b'
        have n1 : l1.length ≤ 20 := by omega
        have n2 : l2.length ≤ 20 := by omega
        have hlc := coms_len l0
        have s1 := anc_short HC.out l1
        have s2 := anc_short HC.out l2
        have e1 := anc_twice HC.out l1
        have e2 := anc_both (H := hashK) (l := coms l0) l1 l2
        have e3 := anc_common HC.out l1 l2
        have e4 := part_len HC.out l1
        have e5 := closed_anc HC.out l1
        have e6 := fun y (hy : y ∈ l1) => found_iff HC.out hy
        obtain ⟨xs, hxs⟩ : ∃ xs, anc hashK (coms l0) l1 = xs := ⟨_, rfl⟩
        obtain ⟨ys, hys⟩ : ∃ ys, anc hashK (coms l0) l2 = ys := ⟨_, rfl⟩
        rw [hxs] at s1 e1 e2 e3 e4 e5
        rw [hys] at s2 e2 e3
        simp only [hxs] at e6
        have hx2 : xs.length ≤ 500 := by omega
        have hy2 : ys.length ≤ 500 := by omega
        have E1 := aside e1
        have E2 := aside e2
        have E3 := aside e3
        have E4 := aside e4
        have E5 := aside e5
        have E6 := aside e6
        have HX := aside hxs
        have HY := aside hys
        clear e1 e2 e3 e4 e5 e6 hxs hys s1 s2 hlc
        have qs := X.anc a0 a1 cap0 cap1 l0 l1 _ S T HO.out hl2 (by omega) K
        rw [anc_of HC.out, HX.out] at qs
        go_wp2_with (first | go_skip)
        refine qs.mono ?_
        clear qs
        rintro e wx ⟨A4, c4', rfl, U, kx⟩
        have S' := S.below kx
        have T' := T.below kx
        have R' := R.below kx
        have K' := K.below kx
        have b' := b.trans (kx.mono b.size)
        clear S T R K b kx
        have S := S'
        have T := T'
        have R := R'
        have K := K'
        have b := b'
        clear S' T' R' K' b'
        have qs := X.anc a0 a2 cap0 cap2 l0 l2 _ S R HO.out hl2 (by omega) K
        rw [anc_of HC.out, HY.out] at qs
        go_wp2_with (first | go_skip)
        refine qs.mono ?_
        clear qs
        rintro e wx ⟨A5, c5', rfl, V, kx⟩
        have S' := S.below kx
        have T' := T.below kx
        have R' := R.below kx
        have K' := K.below kx
        have U' := U.below kx
        have b' := b.trans (kx.mono b.size)
        clear S T R K U b kx
        have S := S'
        have T := T'
        have R := R'
        have K := K'
        have U := U'
        have b := b'
        clear S' T' R' K' U' b'
        have qs := X.part a0 A4 cap0 c4' l0 xs _ S U HO.out hl2 (by omega) K
        rw [part_of HC.out] at qs
        go_wp2_with (first | go_skip)
        refine qs.mono ?_
        clear qs
        rintro e wx ⟨A6, c6', lA, rfl, Y, hA, kx⟩
        have HA := aside hA
        clear hA
        have S' := S.below kx
        have T' := T.below kx
        have R' := R.below kx
        have K' := K.below kx
        have U' := U.below kx
        have V' := V.below kx
        have b' := b.trans (kx.mono b.size)
        clear S T R K U V b kx
        have S := S'
        have T := T'
        have R := R'
        have K := K'
        have U := U'
        have V := V'
        have b := b'
        clear S' T' R' K' U' V' b'
        have qs := X.anc a0 A4 cap0 c4' l0 xs _ S U HO.out hl2 (by omega) K
        rw [anc_of HC.out, E1.out] at qs
        go_wp2_with (first | go_skip)
        refine qs.mono ?_
        clear qs
        rintro e wx ⟨A7, c7', rfl, Z, kx⟩
        have S' := S.below kx
        have T' := T.below kx
        have R' := R.below kx
        have K' := K.below kx
        have U' := U.below kx
        have V' := V.below kx
        have Y' := Y.below kx
        have b' := b.trans (kx.mono b.size)
        clear S T R K U V Y b kx
        have S := S'
        have T := T'
        have R := R'
        have K := K'
        have U := U'
        have V := V'
        have Y := Y'
        have b := b'
        clear S' T' R' K' U' V' Y' b'
        have qs := IdV.same_ret A7 A4 c7' c4' xs xs _ Z U
        rw [decide_eq_true rfl] at qs
        go_wp2_with (first | go_skip)
        refine qs.mono ?_
        clear qs
        rintro e wx ⟨rfl, kx⟩
        clear Z
        have S' := S.below kx
        have T' := T.below kx
        have R' := R.below kx
        have K' := K.below kx
        have U' := U.below kx
        have V' := V.below kx
        have Y' := Y.below kx
        have b' := b.trans (kx.mono b.size)
        clear S T R K U V Y b kx
        have S := S'
        have T := T'
        have R := R'
        have K := K'
        have U := U'
        have V := V'
        have Y := Y'
        have b := b'
        clear S' T' R' K' U' V' Y' b'
        go_wp2_with (first | go_skip | (refine wpList_append_ids rfl (.const (.slice none 0 0)) (.tmp 59) rfl wx.heap.size _ 0 [] rfl ⟨rfl, .inl ⟨rfl, rfl⟩⟩ a1 l1.length cap1 l1 rfl rfl T (by omega) (Nat.le_refl _) ?_; intro v8 w8 o8 g8; have k8 := below_grown (Below.refl wx.heap.size wx) (Nat.le_refl _) g8 (fun q hq => by cases hq); have R8 := R.below k8) | (refine wpList_append_ids rfl (.tmp 60) (.tmp 61) rfl wx.heap.size _ (0 + l1.length) ([] ++ l1) rfl o8 a2 l2.length cap2 l2 rfl rfl R8 (by omega) k8.size ?_; intro v9 w9 o9 g9; have kx := below_grown k8 k8.size g9 (fun q hq => (o8.lt q hq).1)))
        have S' := S.below kx
        have T' := T.below kx
        have R' := R.below kx
        have K' := K.below kx
        have U' := U.below kx
        have V' := V.below kx
        have Y' := Y.below kx
        have b' := b.trans (kx.mono b.size)
        clear S T R K U V Y b kx
        have S := S'
        have T := T'
        have R := R'
        have K := K'
        have U := U'
        have V := V'
        have Y := Y'
        have b := b'
        clear S' T' R' K' U' V' Y' b'
        rw [List.nil_append, show 0 + l1.length + l2.length = (l1 ++ l2).length by rw [List.length_append]; omega] at o9
        have hab : (l1 ++ l2).length ≤ 1000 := by rw [List.length_append]; omega
        obtain ⟨ab, hab2⟩ : ∃ ab, l1 ++ l2 = ab := ⟨_, rfl⟩
        rw [hab2] at o9 hab
        have E2' := aside (show anc hashK (coms l0) ab = both xs ys by rw [← hab2]; exact E2.out)
        obtain ⟨A9, c9', rfl, Q⟩ := SlI.own o9
        clear o9 o8 g8 g9 k8 R8 hab2 E2
        obtain ⟨D, hD⟩ : ∃ D, both xs ys = D := ⟨_, rfl⟩
        rw [hD] at E2'
        have qs := X.anc a0 A9 cap0 c9' l0 ab _ S Q HO.out hl2 hab K
        rw [anc_of HC.out, E2'.out] at qs
        go_wp2_with (first | go_skip)
        refine qs.mono ?_
        clear qs
        rintro e wx ⟨A7, c7', rfl, Z, kx⟩
        clear Q
        have S' := S.below kx
        have T' := T.below kx
        have R' := R.below kx
        have K' := K.below kx
        have U' := U.below kx
        have V' := V.below kx
        have Y' := Y.below kx
        have b' := b.trans (kx.mono b.size)
        clear S T R K U V Y b kx
        have S := S'
        have T := T'
        have R := R'
        have K := K'
        have U := U'
        have V := V'
        have Y := Y'
        have b := b'
        clear S' T' R' K' U' V' Y' b'
        have qs0 := HB A4 A5 c4' c5' xs ys _ U V hx2 hy2
        unfold NewI at qs0
        rw [hD] at qs0
        have qs := qs0
        go_wp2_with (first | go_skip)
        refine qs.mono ?_
        clear qs
        rintro e wx ⟨v6, rfl, o6, kx⟩
        clear qs0
        obtain ⟨A8, c8', rfl, Q⟩ := SlI.own o6
        clear o6
        have S' := S.below kx
        have T' := T.below kx
        have R' := R.below kx
        have K' := K.below kx
        have U' := U.below kx
        have V' := V.below kx
        have Y' := Y.below kx
        have Z' := Z.below kx
        have b' := b.trans (kx.mono b.size)
        clear S T R K U V Y Z b kx
        have S := S'
        have T := T'
        have R := R'
        have K := K'
        have U := U'
        have V := V'
        have Y := Y'
        have Z := Z'
        have b := b'
        clear S' T' R' K' U' V' Y' Z' b'
        have qs := IdV.same_ret A7 A8 c7' c8' D D _ Z Q
        rw [decide_eq_true rfl] at qs
        go_wp2_with (first | go_skip)
        refine qs.mono ?_
        clear qs
        rintro e wx ⟨rfl, kx⟩
        clear Z Q hD
        have S' := S.below kx
        have T' := T.below kx
        have R' := R.below kx
        have K' := K.below kx
        have U' := U.below kx
        have V' := V.below kx
        have Y' := Y.below kx
        have b' := b.trans (kx.mono b.size)
        clear S T R K U V Y b kx
        have S := S'
        have T := T'
        have R := R'
        have K := K'
        have U := U'
        have V := V'
        have Y := Y'
        have b := b'
        clear S' T' R' K' U' V' Y' b'
        obtain ⟨M, hM⟩ : ∃ M, common xs ys = M := ⟨_, rfl⟩
        have hMl : M.length ≤ 1000 := by rw [← hM]; exact Nat.le_trans (common_short xs ys) (by omega)
        have E3' := E3.out
        rw [hM] at E3'
        have E7 := aside E3'
        clear E3' E3
        have qs0 := HM A4 A5 c4' c5' xs ys _ U V hx2 hy2
        unfold NewI at qs0
        rw [hM] at qs0
        have qs := qs0
        go_wp2_with (first | go_skip)
        refine qs.mono ?_
        clear qs
        rintro e wx ⟨v6, rfl, o6, kx⟩
        clear qs0
        obtain ⟨A8, c8', rfl, Q⟩ := SlI.own o6
        clear o6
        have S' := S.below kx
        have T' := T.below kx
        have R' := R.below kx
        have K' := K.below kx
        have U' := U.below kx
        have V' := V.below kx
        have Y' := Y.below kx
        have b' := b.trans (kx.mono b.size)
        clear S T R K U V Y b kx
        have S := S'
        have T := T'
        have R := R'
        have K := K'
        have U := U'
        have V := V'
        have Y := Y'
        have b := b'
        clear S' T' R' K' U' V' Y' b'
        have qs := X.anc a0 A8 cap0 c8' l0 M _ S Q HO.out hl2 hMl K
        rw [anc_of HC.out, E7.out] at qs
        go_wp2_with (first | go_skip)
        refine qs.mono ?_
        clear qs
        rintro e wx ⟨A7, c7', rfl, Z, kx⟩
        have S' := S.below kx
        have T' := T.below kx
        have R' := R.below kx
        have K' := K.below kx
        have U' := U.below kx
        have V' := V.below kx
        have Y' := Y.below kx
        have Q' := Q.below kx
        have b' := b.trans (kx.mono b.size)
        clear S T R K U V Y Q b kx
        have S := S'
        have T := T'
        have R := R'
        have K := K'
        have U := U'
        have V := V'
        have Y := Y'
        have Q := Q'
        have b := b'
        clear S' T' R' K' U' V' Y' Q' b'
        have qs := IdV.same_ret A7 A8 c7' c8' M M _ Z Q
        rw [decide_eq_true rfl] at qs
        go_wp2_with (first | go_skip)
        refine qs.mono ?_
        clear qs
        rintro e wx ⟨rfl, kx⟩
        clear Z Q hM
        have S' := S.below kx
        have T' := T.below kx
        have R' := R.below kx
        have K' := K.below kx
        have U' := U.below kx
        have V' := V.below kx
        have Y' := Y.below kx
        have b' := b.trans (kx.mono b.size)
        clear S T R K U V Y b kx
        have S := S'
        have T := T'
        have R := R'
        have K := K'
        have U := U'
        have V := V'
        have Y := Y'
        have b := b'
        clear S' T' R' K' U' V' Y' b'
        have hok : ∀ v ∈ lA, CmR.Okay v.c := fun v hv => by
          have h1 : v.c ∈ coms lA := List.mem_map_of_mem hv
          rw [HA.out] at h1
          obtain ⟨u, hu, e⟩ := List.mem_map.1 (mem_part.1 h1).1
          rw [← e]
          exact HO.out u hu
        have hAl : lA.length = xs.length := by rw [← coms_len, HA.out, E4.out]
        have hne : ((lA.length : Int) != xs.length) = false := by simp [hAl]
        have hA2 : lA.length ≤ 1000 := by omega
        clear hAl
        have qs := X.closed A6 c6' lA _ Y hok hA2 K
        rw [HA.out, decide_eq_true E5.out] at qs
        go_wp2_with (first | go_skip)
        refine qs.mono ?_
        clear qs
        rintro e wx ⟨rfl, kx⟩
        clear hok
        have S' := S.below kx
        have T' := T.below kx
        have R' := R.below kx
        have K' := K.below kx
        have U' := U.below kx
        have V' := V.below kx
        have Y' := Y.below kx
        have b' := b.trans (kx.mono b.size)
        clear S T R K U V Y b kx
        have S := S'
        have T := T'
        have R := R'
        have K := K'
        have U := U'
        have V := V'
        have Y := Y'
        have b := b'
        clear S' T' R' K' U' V' Y' b'
        go_wp2_with (first | go_skip)
        have b0 := Below.refl wx.heap.size wx
        go_loopw [16] (fun i wr => ∃ k : Nat, k ≤ l1.length ∧ i = .int .i64 k ∧ Below wx.heap.size wx wr) (fun i _ => l1.length - (intOf i).toNat)
        case atStart => exact ⟨0, Nat.zero_le _, rfl, b0⟩
        case round =>
          clear b0 hne
          rename World => wq
          obtain ⟨k, hk, rfl, kc⟩ := hrel
          by_cases hlt : k < l1.length
          case neg =>
            have pn : ¬ (k : Int) < l1.length := by omega
            go_wp2_with (first | go_skip)
            go_ret
            exact ⟨rfl, b.trans (kc.mono b.size)⟩
          case pos =>
            obtain ⟨ba, oa, rfl, _, hra⟩ := SlI.plain T (by omega)
            obtain ⟨y, hy⟩ : ∃ y, l1[k]? = some y := ⟨_, List.getElem?_eq_getElem hlt⟩
            have ra := IdW.range_below (hra k hlt) kc
            rw [show l1.getD k nought = y by rw [List.getD_eq_getElem?_getD, hy]; rfl] at ra
            have hfy := E6.out y (List.mem_of_getElem? hy)
            have p0 : (k : Int) < l1.length := by omega
            have m0 : ((k : Int)).toNat = k := by omega
            have qs := X.find a0 cap0 l0 y _ (S.below kc) HO.out hl2 (K.below kc)
            obtain ⟨q, hq⟩ : ∃ q, findC (coms l0) y = q := ⟨_, rfl⟩
            rw [hq] at qs hfy
            have qh := fun W U => IdV.has_ret A4 c4' xs y W U
            rw [← hfy] at qh
            clear hra hy hq hfy
            go_wp2_with (first | go_skip | (refine wpList_load_id rfl _ rfl _ _ rfl y ra ?_))
            refine qs.mono ?_
            clear qs
            rintro e w3 ⟨v, rfl, hv, IV, _, k3⟩
            have b3 := kc.trans (k3.mono kc.size)
            have ra3 := IdW.range_below ra k3
            clear hv IV ra
            obtain ⟨z, hz⟩ : ∃ z, q.isSome = z := ⟨_, rfl⟩
            rw [hz] at qh ⊢
            have hzz : (z != z) = false := by cases z <;> rfl
            clear hz
            go_wp2_with (first | go_skip | (refine Cel.wpList_store_new CE rfl _ _ rfl w3 _ _ rfl v _ rfl rfl rfl rfl ?_; intro w4 B4 k4 g4 s4; have b4 := b3.trans (k4.mono b3.size); have ra4 := IdW.range_below ra3 k4; clear g4 s4) | (refine wpList_load_id rfl _ rfl _ _ rfl y ra4 ?_))
            refine (qh _ (U.below b4)).mono ?_
            clear qh
            rintro e w5 ⟨rfl, k5⟩
            have b5 := b4.trans (k5.mono b4.size)
            go_wp2_with (first | go_skip)
            go_roundw
            case rel => exact ⟨k + 1, by omega, by go_num, b5⟩
            case measure => simp [intOf]; omega
end Go.Proofs.YtechkdhehipliaaGreatDoor.DhY
