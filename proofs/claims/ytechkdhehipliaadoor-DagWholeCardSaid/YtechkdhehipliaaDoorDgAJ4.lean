/- The six functions of the project's package dag answer as the document does, where known does, as it does. No condition. | What the listed variable gives a walk: the table of constants, cell by cell; and a world that meets the condition. | DagWhole's walk, over the six functions' contracts: of all its ids closed commits' part is all of them, of none it is nothing, and each commit is found by its id. No condition. | Contracts of package ids as premises; slices of ids cut on both sides. No condition. -/
import Derived.Test.YtechkdhehipliaaDoorDhB
import Derived.Test.YtechkdhehipliaaDoorCmFJ4
import Derived.Test.YtechkdhehipliaaDoorRows
import Derived.ProofKit
import Derived.LaidMore
import Derived.OpenShut
import Derived.Stop.Joined
import Derived.Test.YtechkdhehipliaaDoorDgV
import Derived.Test.YtechkdhehipliaaDoorIdXJ3
namespace Go.Proofs.YtechkdhehipliaaDoor.DgA
set_option maxRecDepth 100000
open Go Go.Sort Go.RowKit Byt IdM IdW OpsM OpsW CmM StW CmW CmX CmY CmA DgM DgW DgR DgF DgG DgS DgJ DgH DhA

theorem six_of (X : KnownRet) : Six where
  ids A cap l w S _ hl K := DhC.ids_ret A cap l w S (by omega) K
  find A cap l a w S _ _ K := DhC.find_ret A cap l a w S K
  closed A cap l w S _ hl K := DhA.closed_ret X A cap l w S (by omega) K
  anc A A' cap cap' l a w S T _ hl _ K := DhA.anc_ret X A A' cap cap' l a w S T hl K
  part A A' cap cap' l a w S T _ hl ha K := DhB.part_ret X A A' cap cap' l a w S T (by omega) ha K
  sorted A cap l w S _ hl K := DhB.sorted_ret X A cap l w S (by omega) K
theorem six : Six := six_of DhK.known_ret
end Go.Proofs.YtechkdhehipliaaDoor.DgA
namespace Go.Proofs.YtechkdhehipliaaDoor.ShaL
set_option maxRecDepth 100000
open Go.ChangeShapes Go.WideShapes Go.ChangeAt Go.RowKit RotM ShaM ShaE

/-- The list of the rows of this seat. -/
abbrev laid1 : List (String × DataW Unit) := [("anabranch/sha.constants", Rows.laid_anabranch_sha_constants)]
theorem gK : Tryd.prog.globalNamed "anabranch/sha.constants" = some 0 := by kernel_rfl
theorem tK : (Tryd.prog.globals[0]?).map (·.type) = some 119 := by kernel_rfl
theorem cells_u32 : Tryd.prog.cellsOf 90 = 1 := by kernel_rfl
theorem datum : (Rows.laid_anabranch_sha_constants : DataW Unit) = .agg ((List.range 64).map fun i => .lit (.int .u32 (u (kc i)))) := by kernel_rfl

/-- The door's own heap meets the condition. -/
theorem door_met (os : Os) (args : Array Value) : laidMetH Tryd.prog laid1 ((World.doorLaid Tryd.prog 14 os).forCall (fun _ _ => 0) ⟨#[], args, []⟩).memory :=
  laidMetH_of_parts3 (fuel := 8) (laidMet_of_run' 8 (by kernel_rfl) (by kernel_rfl)) (by kernel_rfl) (by kernel_rfl)

theorem of_laid {W : World} (h : laidMetH Tryd.prog laid1 W) : KIn W := by
  rw [MakeChecks.laidMetH_plain _ _ _ (by kernel_rfl)] at h
  obtain ⟨ps, ⟨g0, t0, cs0, f0, p0, q0, hg0, ht0, hv0, hd0, _⟩, _, _⟩ := h
  obtain rfl := Option.some.inj (gK.symm.trans hg0)
  obtain rfl := Option.some.inj (tK.symm.trans ht0)
  obtain ⟨xs, m, _, hx, hlen, hn, hel⟩ := DataW.trod_array Tryd.underlying119 hd0
  intro i hi
  have hc := World.var?_cell hg0 hv0 i
  have he := hel i hi
  rw [datum] at hx
  simp only [Prod.mk.injEq, DataW.agg.injEq] at hx
  obtain ⟨hx, _⟩ := hx
  have hxi := congrArg (fun l => l[i]?) hx
  have hlt : i < xs.length := by omega
  simp only [List.getElem?_map, List.getElem?_range hi, Option.map_some, List.getElem?_eq_getElem hlt, Option.some.injEq] at hxi
  rw [List.getElem?_eq_getElem hlt] at he
  obtain ⟨n, e1, e2, _⟩ := DataW.trod_int Tryd.underlying90 he
  rw [e2] at hxi
  simp only [DataW.lit.injEq, Lit.int.injEq, true_and] at hxi
  subst hxi
  rw [hc]
  rw [cells_u32, Nat.mul_one] at e1
  have e3 := congrArg (fun l => l[0]?) e1
  simpa using e3
end Go.Proofs.YtechkdhehipliaaDoor.ShaL
namespace Go.Proofs.YtechkdhehipliaaDoor.DhW
set_option maxRecDepth 100000
open Go Go.Sort Go.RowKit Byt IdM IdW OpsM OpsW CmM StW CmW CmX CmY CmA DgM DgW DgR DgF DgG DgS DgJ DgE DgH DgB DgV
open Classical

theorem all_ids {l : List Com} (C : Closed hashK l) : idsD l = l.map hashK := by rw [idsD, if_pos (closed_may C)]
theorem part_whole {l : List Com} (C : Closed hashK l) : partC l (l.map hashK) = l := by rw [partC, if_pos C, part_all]
theorem part_none {l : List Com} (C : Closed hashK l) : partC l [] = [] := by rw [partC, if_pos C, part_nil]
theorem anc_whole {l : List Com} (C : Closed hashK l) : ancC l (l.map hashK) = IdM.sort (l.map hashK) := by rw [ancC, if_pos C, anc_all]
theorem anc_none {l : List Com} (C : Closed hashK l) : ancC l [] = [] := by rw [ancC, if_pos C, anc_nil]
theorem find_own {l : List Com} (C : Closed hashK l) {c : Com} (hc : c ∈ l) : findC l (hashK c) = some c := by
  unfold findC
  cases hf : l.find? (fun d => mayK d && decide (hashK d = hashK c)) with
  | none =>
    have := List.find?_eq_none.1 hf c hc
    simp [C.may c hc] at this
  | some d =>
    have h1 := List.mem_of_find?_eq_some hf
    have h2 := List.find?_some hf
    rw [Bool.and_eq_true, decide_eq_true_eq] at h2
    rw [same_of C.nodup h1 hc h2.2]
abbrev SortRet : Prop := ∀ (A : Option Addr) (cap : Nat) (l : List Idn) (w : World), SlI w A cap l → l.length ≤ 1000 → Calls Tryd.prog 12 #[.slice A l.length cap] w (NewI (IdM.sort l) w)
set_option maxRecDepth 100000 in
set_option maxHeartbeats 32000000 in
theorem walk (X : Six) (HS : SortRet) (a0 : Option Addr) (cap0 : Nat) (l0 : List Cv) (w : World) (S : SlK w a0 cap0 l0) (K : ShaE.KIn w) :
    Calls Tryd.prog 4 #[.slice a0 l0.length cap0] w fun e w' => e = .returned (.bool true) ∧ Below w.heap.size w w' := by
  have hmax := S.len
  have b := Below.refl w.heap.size w
  go_enter Tryd.func4, Tryd.ntmps4
  have qs := awake X _ K
  go_wp2_with (first | go_skip)
  refine qs.mono ?_
  clear qs
  rintro e wx ⟨rfl, kx⟩
  have S' := S.below kx
  have K' := K.below kx
  have b' := b.trans (kx.mono b.size)
  clear S K b kx
  have S := S'
  have K := K'
  have b := b'
  clear S' K' b'
  go_wp2_with (first | go_skip)
  obtain ⟨f, hf⟩ : ∃ f, fewD (coms l0) 10 = f := ⟨_, rfl⟩
  have qs := DgR.few_ret a0 cap0 l0 10 _ S
  rw [hf] at qs
  refine qs.mono ?_
  clear qs
  rintro e w2 ⟨rfl, kx⟩
  have S' := S.below kx
  have K' := K.below kx
  have b' := b.trans (kx.mono b.size)
  clear S K b kx
  have S := S'
  have K := K'
  have b := b'
  clear S' K' b'
  cases f with
  | false =>
    go_wp2_with (first | go_skip)
    go_ret
    exact ⟨rfl, b⟩
  | true =>
    obtain ⟨ho, hl⟩ := okay_few (fun v hv => (S.each v hv).2) hf
    have hl2 : l0.length ≤ 1000 := by omega
    have HO := aside ho
    clear ho hf
    have qs0 := X.closed a0 cap0 l0 _ S HO.out hl2 K
    by_cases hC : Closed hashK (coms l0)
    case neg =>
      rw [decide_eq_false hC] at qs0
      go_wp2_with (first | go_skip)
      refine qs0.mono ?_
      rintro e wx ⟨rfl, kx⟩
      clear qs0
      go_wp2_with (first | go_skip)
      go_ret
      exact ⟨rfl, b.trans (kx.mono b.size)⟩
    case pos =>
      rw [decide_eq_true hC] at qs0
      have HC := aside hC
      clear hC
      have qs := qs0
      go_wp2_with (first | go_skip)
      refine qs.mono ?_
      clear qs
      rintro e wx ⟨rfl, kx⟩
      clear qs0
      have S' := S.below kx
      have K' := K.below kx
      have b' := b.trans (kx.mono b.size)
      clear S K b kx
      have S := S'
      have K := K'
      have b := b'
      clear S' K' b'
      obtain ⟨all, hal⟩ : ∃ all, (coms l0).map hashK = all := ⟨_, rfl⟩
      have hlen : all.length = l0.length := by rw [← hal, List.length_map, coms_len]
      have HAL := aside hal
      have HLEN := aside hlen
      have hne : ((all.length : Int) != l0.length) = false := by simp [hlen]
      have ha2 : all.length ≤ 1000 := by omega
      have hid := all_ids HC.out
      rw [hal] at hid
      have qs0 := X.ids a0 cap0 l0 _ S HO.out hl2 K
      rw [hid] at qs0
      have hpw := part_whole HC.out
      have haw := anc_whole HC.out
      rw [hal] at hpw haw
      have HPW := aside hpw
      have HAW := aside haw
      have hnn : ∀ (v : Cv) (k : Nat), l0[k]? = some v → all.getD k nought = hashK v.c := fun v k h => by rw [← hal, List.getD_eq_getElem?_getD, List.getElem?_map, coms_at h]; rfl
      have HNN := aside hnn
      clear hal hlen hid hpw haw hnn hne
      have qs := qs0
      go_wp2_with (first | go_skip)
      refine qs.mono ?_
      clear qs
      rintro e wx ⟨A3, c3', rfl, V, kx⟩
      clear qs0
      have S' := S.below kx
      have K' := K.below kx
      have b' := b.trans (kx.mono b.size)
      clear S K b kx
      have S := S'
      have K := K'
      have b := b'
      clear S' K' b'
      have qs := X.part a0 A3 cap0 c3' l0 all _ S V HO.out hl2 ha2 K
      go_wp2_with (first | go_skip)
      refine qs.mono ?_
      clear qs
      rintro e wx ⟨A4, c4', lA, rfl, U, hA, kx⟩
      rw [HPW.out] at hA
      have hA' := aside hA
      clear hA
      have S' := S.below kx
      have K' := K.below kx
      have V' := V.below kx
      have b' := b.trans (kx.mono b.size)
      clear S K V b kx
      have S := S'
      have K := K'
      have V := V'
      have b := b'
      clear S' K' V' b'
      have qs := list_ret A4 a0 c4' cap0 lA l0 _ U S
      rw [listB_iff.2 hA'.out] at qs
      go_wp2_with (first | go_skip)
      refine qs.mono ?_
      clear qs
      rintro e wx ⟨rfl, kx⟩
      clear U hA'
      have S' := S.below kx
      have K' := K.below kx
      have V' := V.below kx
      have b' := b.trans (kx.mono b.size)
      clear S K V b kx
      have S := S'
      have K := K'
      have V := V'
      have b := b'
      clear S' K' V' b'
      have qs := X.anc a0 A3 cap0 c3' l0 all _ S V HO.out hl2 ha2 K
      rw [HAW.out] at qs
      obtain ⟨so, hso⟩ : ∃ so, IdM.sort all = so := ⟨_, rfl⟩
      rw [hso] at qs
      go_wp2_with (first | go_skip)
      refine qs.mono ?_
      clear qs
      rintro e wx ⟨A5, c5', rfl, U, kx⟩
      have U := U
      have S' := S.below kx
      have K' := K.below kx
      have V' := V.below kx
      have b' := b.trans (kx.mono b.size)
      clear S K V b kx
      have S := S'
      have K := K'
      have V := V'
      have b := b'
      clear S' K' V' b'
      have qs0 := HS A3 c3' all _ V ha2
      unfold NewI at qs0
      rw [hso] at qs0
      have qs := qs0
      go_wp2_with (first | go_skip)
      refine qs.mono ?_
      clear qs
      rintro e wx ⟨v4, rfl, o4, kx⟩
      clear qs0
      obtain ⟨A6, c6', rfl, Y⟩ := SlI.own o4
      clear o4
      have S' := S.below kx
      have K' := K.below kx
      have V' := V.below kx
      have U' := U.below kx
      have b' := b.trans (kx.mono b.size)
      clear S K V U b kx
      have S := S'
      have K := K'
      have V := V'
      have U := U'
      have b := b'
      clear S' K' V' U' b'
      have qs := IdV.same_ret A5 A6 c5' c6' so so _ U Y
      rw [decide_eq_true rfl] at qs
      go_wp2_with (first | go_skip)
      refine qs.mono ?_
      clear qs
      rintro e wx ⟨rfl, kx⟩
      clear U Y
      have S' := S.below kx
      have K' := K.below kx
      have V' := V.below kx
      have b' := b.trans (kx.mono b.size)
      clear S K V b kx
      have S := S'
      have K := K'
      have V := V'
      have b := b'
      clear S' K' V' b'
      have hne : ((all.length : Int) != l0.length) = false := by simp [HLEN.out]
      have qs : Calls Tryd.prog 14 #[.slice a0 l0.length cap0, .slice none 0 0] _ _ := (X.part a0 none cap0 0 l0 [] _ S (SlI.nil _) HO.out hl2 (by simp) K).mono (R' := fun e w' => ∃ A cap, e = .returned (.slice A 0 cap) ∧ Below _ _ w') (by
        rintro e w' ⟨A, cap, l, rfl, _, h, k⟩
        rw [part_none HC.out] at h
        exact ⟨A, cap, by rw [← coms_len, h]; rfl, k⟩)
      go_wp2_with (first | go_skip)
      refine qs.mono ?_
      clear qs
      rintro e wx ⟨A7, c7', rfl, kx⟩
      have kx : Below _ _ wx := kx
      have S' := S.below kx
      have K' := K.below kx
      have V' := V.below kx
      have b' := b.trans (kx.mono b.size)
      clear S K V b kx
      have S := S'
      have K := K'
      have V := V'
      have b := b'
      clear S' K' V' b'
      have qs : Calls Tryd.prog 15 #[.slice a0 l0.length cap0, .slice none 0 0] _ _ := (X.anc a0 none cap0 0 l0 [] _ S (SlI.nil _) HO.out hl2 (by simp) K).mono (R' := fun e w' => ∃ A cap, e = .returned (.slice A 0 cap) ∧ Below _ _ w') (by
        rintro e w' ⟨A, cap, rfl, _, k⟩
        exact ⟨A, cap, by rw [anc_none HC.out]; rfl, k⟩)
      go_wp2_with (first | go_skip)
      refine qs.mono ?_
      clear qs
      rintro e wx ⟨A8, c8', rfl, kx⟩
      clear hne
      have S' := S.below kx
      have K' := K.below kx
      have V' := V.below kx
      have b' := b.trans (kx.mono b.size)
      clear S K V b kx
      have S := S'
      have K := K'
      have V := V'
      have b := b'
      clear S' K' V' b'
      go_wp2_with (first | go_skip)
      have b0 := Below.refl wx.heap.size wx
      go_loopw [8] (fun i wr => ∃ k : Nat, k ≤ l0.length ∧ i = .int .i64 k ∧ Below wx.heap.size wx wr) (fun i _ => l0.length - (intOf i).toNat)
      case atStart => exact ⟨0, Nat.zero_le _, rfl, b0⟩
      case round =>
        clear b0
        rename World => wq
        obtain ⟨k, hk, rfl, kc⟩ := hrel
        by_cases hlt : k < l0.length
        case neg =>
          have pn : ¬ (k : Int) < l0.length := by omega
          go_wp2_with (first | go_skip)
          go_ret
          exact ⟨rfl, b.trans (kc.mono b.size)⟩
        case pos =>
          obtain ⟨bb, off, rfl, _, hrg⟩ := S.plain (by omega)
          obtain ⟨x, hx⟩ : ∃ x, l0[k]? = some x := ⟨_, List.getElem?_eq_getElem hlt⟩
          have rx := hrg k x hx
          obtain ⟨ba, oa, rfl, _, hra⟩ := SlI.plain V (by rw [HLEN.out]; omega)
          have ra := IdW.range_below (hra k (by rw [HLEN.out]; exact hlt)) kc
          rw [HNN.out x k hx] at ra
          have hxm := List.mem_of_getElem? hx
          have IX := (S.each x hxm).1
          have p0 : (k : Int) < l0.length := by omega
          have q0 : (k : Int) < all.length := by rw [HLEN.out]; exact p0
          have m0 : ((k : Int)).toNat = k := by omega
          have qs := X.find (some ⟨bb, off, none⟩) cap0 l0 (hashK x.c) _ (S.below kc) HO.out hl2 (K.below kc)
          rw [find_own HC.out (List.mem_map_of_mem hxm)] at qs
          obtain ⟨h, hh⟩ : ∃ h, hashK x.c = h := ⟨_, rfl⟩
          rw [hh] at qs ra
          clear hrg hra hx hh hxm
          go_wp2_with (first | go_skip | (refine wpList_load_id rfl _ rfl _ _ rfl h ra ?_))
          refine qs.mono ?_
          clear qs
          rintro e w3 ⟨v, rfl, hv, IV, _, k3⟩
          have hv : v.c = x.c := hv
          have b3 := kc.trans (k3.mono kc.size)
          have HV := aside hv
          clear hv ra
          go_wp2_with (first | go_skip | (refine Cel.wpList_store_new CE rfl _ _ rfl w3 _ _ rfl v _ rfl rfl rfl rfl ?_; intro w4 B4 k4 g4 s4; have b4 := b3.trans (k4.mono b3.size); have IV4 := CmW.In.below IV k4; have IX4 := CmW.In.below IX b4; have rx4 := range_on rx b4; clear g4 s4))
          refine Grow.region [(0, true), (1, true), (2, true), (3, true), (4, true), (5, false), (6, true)] (by kernel_rfl) (by kernel_rfl) rfl (by kernel_rfl) (by intro c a d v w h; cases d <;> exact h) ?_
          have kd := below_drew1 (Below.refl w4.heap.size w4)
          have B5 := B4.below kd
          have IV5 := CmW.In.below IV4 kd
          have IX5 := CmW.In.below IX4 kd
          have rx5 := range_on rx4 kd
          have b5 := b4.trans (kd.mono b4.size)
          generalize w4.drew = wz at B5 IV5 IX5 rx5 b5 ⊢
          clear B4 IV4 IX4 rx4 b4 kd
          (try simp only [Act.put, List.setIfInBounds_toArray, List.set_cons_succ, List.set_cons_zero])
          repeat (first | (refine Grow.reads rfl rfl ?_; go_big_quiet_want; refine Cel.quiet_row CE _ rfl _ _ rfl v B5.range ?_; go_big_quiet_on; refine wpQuiet_nil ?_; (try simp only [Act.put, List.setIfInBounds_toArray, List.set_cons_succ, List.set_cons_zero])) | (refine Grow.reads rfl rfl ?_; go_big_quiet_want; refine quiet_com _ rfl _ _ rfl x rx5 ?_; go_big_quiet_on; refine wpQuiet_nil ?_; (try simp only [Act.put, List.setIfInBounds_toArray, List.set_cons_succ, List.set_cons_zero])) | (refine Grow.reads rfl rfl ?_; go_big_quiet_step (fail); refine wpQuiet_nil ?_))
          have qs := CmR.same_ret v x wz IV5 IX5
          rw [HV.out, CmR.sameK_self] at qs
          refine Grow.acts rfl ?_
          go_wp2_with (first | go_skip)
          refine qs.mono ?_
          clear qs
          rintro e w6 ⟨rfl, k6⟩
          go_wp2_with (first | go_skip)
          refine ⟨k6, ?_⟩
          have b6 := b5.trans (k6.mono b5.size)
          (try simp only [Act.put, List.setIfInBounds_toArray, List.set_cons_succ, List.set_cons_zero])
          repeat (refine Grow.reads rfl rfl ?_; go_big_quiet_step (fail); refine wpQuiet_nil ?_)
          refine Grow.ends ?_
          go_wp2_with (first | go_skip)
          go_roundw
          case rel => exact ⟨k + 1, by omega, by go_num, b6⟩
          case measure => simp [intOf]; omega
end Go.Proofs.YtechkdhehipliaaDoor.DhW
namespace Go.Proofs.YtechkdhehipliaaDoor.DhU
set_option maxRecDepth 100000
open Go Go.Sort Go.RowKit Byt IdM IdW IdX

theorem run_part_lh (w : World) (A : Option Addr) (len cap : Nat) (k k' : IntKind) (i j : Nat) (hij : i ≤ j) (hj : j ≤ cap) :
    (Instr.sliceAt 29 (.slice A len cap) (some (.int k i)) (some (.int k' j)) none).run Tryd.prog w = .ok (sliced A i j cap 32) w := by
  rw [run_sliceAt_slice w _ _ _ _ _ under_id, run_slice_lh w _ A len cap under_id k k' i j (by omega) (by omega) (by omega), size_id]
  simp [Result.andThen]
abbrev BothRet : Prop := ∀ (A A' : Option Addr) (cap cap' : Nat) (l l' : List Idn) (w : World), SlI w A cap l → SlI w A' cap' l' → l.length ≤ 500 → l'.length ≤ 500 → Calls Tryd.prog 18 #[.slice A l.length cap, .slice A' l'.length cap'] w (NewI (both l l') w)
theorem rising_short {l m : List Idn} (hl : Rising l) (h : ∀ x ∈ l, x ∈ m) : l.length ≤ m.length := by
  have hn := rising_nodup hl
  clear hl
  induction l generalizing m with
  | nil => exact Nat.zero_le _
  | cons x l ih =>
    rw [List.nodup_cons] at hn
    have h1 := ih (m := m.erase x) (fun y hy => by
      have hne : y ≠ x := fun e => hn.1 (by rw [← e]; exact hy)
      exact (List.mem_erase_of_ne hne).2 (h y (List.mem_cons_of_mem _ hy))) hn.2
    have hx := h x (by simp)
    rw [List.length_erase_of_mem hx] at h1
    have := List.length_pos_of_mem hx
    simp only [List.length_cons]
    omega
theorem common_short (a b : List Idn) : (common a b).length ≤ a.length := rising_short (rising_common a b) fun _ h => ((mem_common _ a b).1 h).1
end Go.Proofs.YtechkdhehipliaaDoor.DhU
