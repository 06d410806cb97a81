/- IdsOrder returns true for every input: in whatever order, and however often, ids stand, sets of them are the same. No condition. -/
import Derived.Test.YtbggegpbcgcknaaIdA
import Derived.Test.YtbggegpbcgcknaaOpenI
import Derived.ShutString
import Derived.ChangeOld
namespace Go.Proofs.Ytbggegpbcgcknaa.idsOrder
open Go Go.ChangeShapes Go.WideShapes Go.ChangeAt Go.RowKit IdM Byt IdW IdB IdC IdV IdU IdY IdX IdG IdA

/-- The last of them first, each twice. -/
def backs (l : List Idn) (k : Nat) : List Idn := (l.drop k).reverse.flatMap fun x => [x, x]
theorem mem_backs (l : List Idn) (z : Idn) : z ∈ backs l 0 ↔ z ∈ l := by simp [backs]
theorem backs_end (l : List Idn) : backs l l.length = [] := by simp [backs]
theorem backs_step {l : List Idn} {k : Nat} (h : k < l.length) : backs l k = backs l (k + 1) ++ [l.getD k nought] ++ [l.getD k nought] := by
  unfold backs
  rw [List.drop_eq_getElem_cons h, List.reverse_cons, List.flatMap_append, List.getD_eq_getElem?_getD, List.getElem?_eq_getElem h]
  simp
theorem backs_length : ∀ l : List Idn, (l.flatMap fun x => [x, x]).length = 2 * l.length
  | [] => rfl
  | a :: l => by
    rw [List.flatMap_cons, List.length_append, backs_length l, List.length_cons]
    simp
    omega
theorem backs_len (l : List Idn) (k : Nat) : (backs l k).length = 2 * (l.length - k) := by
  rw [backs, backs_length]
  simp
theorem q1 {l b : List Idn} (h : ∀ z, z ∈ b ↔ z ∈ l) : IdM.sort b = IdM.sort l := sort_congr h
theorem q2 {l b m : List Idn} (h : ∀ z, z ∈ b ↔ z ∈ l) : both m b = both l m := rising_uniq (rising_both _ _) (rising_both _ _) fun z => by simp only [mem_both, h]; exact or_comm
theorem q3 {l b m : List Idn} (h : ∀ z, z ∈ b ↔ z ∈ l) : common m b = common l m := rising_uniq (rising_common _ _) (rising_common _ _) fun z => by simp only [mem_common, h]; exact and_comm
theorem q4 {l b m : List Idn} (h : ∀ z, z ∈ b ↔ z ∈ l) : without b m = without l m := rising_uniq (rising_without _ _) (rising_without _ _) fun z => by simp only [mem_without, h]
theorem q5 (l : List Idn) : IdM.sort (IdM.sort l) = IdM.sort l := sort_congr fun z => mem_sort z l

set_option maxRecDepth 100000 in
set_option maxHeartbeats 8000000 in
theorem walk (a0 : Option Addr) (c0 : Nat) (l0 : List Idn) (a1 : Option Addr) (c1 : Nat) (l1 : List Idn) (w : World) (w0 : SlI w a0 c0 l0) (w1 : SlI w a1 c1 l1) :
    Calls Try.prog 6 #[.slice a0 l0.length c0, .slice a1 l1.length c1] w fun e w' => e = .returned (.bool true) ∧ Below w.heap.size w w' := by
  have m0 : l0.length ≤ 9223372036854775807 := by have := w0.1; have := w0.2.1; unfold maxLen at this; omega
  have m1 : l1.length ≤ 9223372036854775807 := by have := w1.1; have := w1.2.1; unfold maxLen at this; omega
  have kb0 : Below w.heap.size w w := Below.refl _ _
  have s0 := w0.below kb0
  have s1 := w1.below kb0
  have Wf0 := w0
  have Wf1 := w1
  clear w0 w1
  go_enter Try.func6, Try.ntmps6
  go_wp2_with fail
  refine (awake_ret _).mono ?_
  rintro e w1 ⟨rfl, k1⟩
  have s0' := s0.below k1
  have s1' := s1.below k1
  have kb' := kb0.trans (k1.mono kb0.size)
  clear s0 s1 kb0 k1
  have s0 := s0'
  have s1 := s1'
  have kb := kb'
  clear s0' s1' kb'
  by_cases h0 : 30 < l0.length
  · go_wp2_with fail
    go_ret
    exact ⟨rfl, kb⟩
  by_cases h1 : 30 < l1.length
  · go_wp2_with fail
    go_ret
    exact ⟨rfl, kb⟩
  go_wp2_with fail
  go_loopw [6, 7] (fun v i wr => ∃ k : Nat, k ≤ l0.length ∧ i = .int .i64 ((k : Int) - 1) ∧ wr.ownsRow w.heap.size 24 32 v (backs l0 k).length (bv (flat (backs l0 k))) ∧ Below w.heap.size w wr) (fun _ i _ => (intOf i + 1).toNat)
  case atStart => exact ⟨l0.length, Nat.le_refl _, rfl, by rw [backs_end]; exact nil_own _ _, kb⟩
  case round =>
    clear s0 s1 kb
    obtain ⟨k, hk, rfl, hrow, kb⟩ := hrel
    have s0 := Wf0.below kb
    have s1 := Wf1.below kb
    have hlen := backs_len l0 k
    by_cases hk0 : k = 0
    · have g0 : ¬ (0 ≤ (k : Int) - 1) := by omega
      have hmem := mem_backs l0
      rw [hk0] at hrow hlen
      generalize backs l0 0 = bk at hrow hlen hmem
      have HM := aside hmem
      have hbk : bk.length ≤ 60 := by omega
      clear hmem hk0 hlen
      obtain ⟨Ab, Cb, rfl, Sb⟩ := SlI.own hrow
      clear hrow
      go_wp2_with fail
      refine (sort_ret Ab Cb bk _ Sb (by omega)).mono ?_
      rintro e w2 h2
      obtain ⟨AP1, CP1, rfl, SP1, k2⟩ := IdG.NewI.s h2
      clear h2
      have s0' := s0.below k2
      have s1' := s1.below k2
      have Sb' := Sb.below k2
      have kb' := kb.trans (k2.mono kb.size)
      clear s0 s1 Sb kb k2
      have s0 := s0'
      have s1 := s1'
      have Sb := Sb'
      have kb := kb'
      clear s0' s1' Sb' kb'
      go_wp2_with fail
      refine (sort_ret a0 c0 l0 _ s0 (by omega)).mono ?_
      rintro e w3 h3
      obtain ⟨AQ1, CQ1, rfl, SQ1, k3⟩ := IdG.NewI.s h3
      clear h3
      have s0' := s0.below k3
      have s1' := s1.below k3
      have Sb' := Sb.below k3
      have SP1' := SP1.below k3
      have kb' := kb.trans (k3.mono kb.size)
      clear s0 s1 Sb SP1 kb k3
      have s0 := s0'
      have s1 := s1'
      have Sb := Sb'
      have SP1 := SP1'
      have kb := kb'
      clear s0' s1' Sb' SP1' kb'
      go_wp2_with fail
      refine (same_ret AP1 AQ1 CP1 CQ1 (IdM.sort bk) (IdM.sort l0) _ SP1 SQ1).mono ?_
      rintro e w4 ⟨rfl, k4⟩
      rw [decide_eq_true (q1 HM.out)]
      have s0' := s0.below k4
      have s1' := s1.below k4
      have Sb' := Sb.below k4
      have SP1' := SP1.below k4
      have SQ1' := SQ1.below k4
      have kb' := kb.trans (k4.mono kb.size)
      clear s0 s1 Sb SP1 SQ1 kb k4
      have s0 := s0'
      have s1 := s1'
      have Sb := Sb'
      have SP1 := SP1'
      have SQ1 := SQ1'
      have kb := kb'
      clear s0' s1' Sb' SP1' SQ1' kb'
      clear SP1 SQ1
      go_wp2_with fail
      refine (both_ret a1 Ab c1 Cb l1 bk _ s1 Sb (by omega) (by omega)).mono ?_
      rintro e w5 h5
      obtain ⟨AP2, CP2, rfl, SP2, k5⟩ := IdG.NewI.s h5
      clear h5
      have s0' := s0.below k5
      have s1' := s1.below k5
      have Sb' := Sb.below k5
      have kb' := kb.trans (k5.mono kb.size)
      clear s0 s1 Sb kb k5
      have s0 := s0'
      have s1 := s1'
      have Sb := Sb'
      have kb := kb'
      clear s0' s1' Sb' kb'
      go_wp2_with fail
      refine (both_ret a0 a1 c0 c1 l0 l1 _ s0 s1 (by omega) (by omega)).mono ?_
      rintro e w6 h6
      obtain ⟨AQ2, CQ2, rfl, SQ2, k6⟩ := IdG.NewI.s h6
      clear h6
      have s0' := s0.below k6
      have s1' := s1.below k6
      have Sb' := Sb.below k6
      have SP2' := SP2.below k6
      have kb' := kb.trans (k6.mono kb.size)
      clear s0 s1 Sb SP2 kb k6
      have s0 := s0'
      have s1 := s1'
      have Sb := Sb'
      have SP2 := SP2'
      have kb := kb'
      clear s0' s1' Sb' SP2' kb'
      go_wp2_with fail
      refine (same_ret AP2 AQ2 CP2 CQ2 (both l1 bk) (both l0 l1) _ SP2 SQ2).mono ?_
      rintro e w7 ⟨rfl, k7⟩
      rw [decide_eq_true (q2 HM.out)]
      have s0' := s0.below k7
      have s1' := s1.below k7
      have Sb' := Sb.below k7
      have SP2' := SP2.below k7
      have SQ2' := SQ2.below k7
      have kb' := kb.trans (k7.mono kb.size)
      clear s0 s1 Sb SP2 SQ2 kb k7
      have s0 := s0'
      have s1 := s1'
      have Sb := Sb'
      have SP2 := SP2'
      have SQ2 := SQ2'
      have kb := kb'
      clear s0' s1' Sb' SP2' SQ2' kb'
      clear SP2 SQ2
      go_wp2_with fail
      refine (common_ret a1 Ab c1 Cb l1 bk _ s1 Sb (by omega) (by omega)).mono ?_
      rintro e w8 h8
      obtain ⟨AP3, CP3, rfl, SP3, k8⟩ := IdG.NewI.s h8
      clear h8
      have s0' := s0.below k8
      have s1' := s1.below k8
      have Sb' := Sb.below k8
      have kb' := kb.trans (k8.mono kb.size)
      clear s0 s1 Sb kb k8
      have s0 := s0'
      have s1 := s1'
      have Sb := Sb'
      have kb := kb'
      clear s0' s1' Sb' kb'
      go_wp2_with fail
      refine (common_ret a0 a1 c0 c1 l0 l1 _ s0 s1 (by omega) (by omega)).mono ?_
      rintro e w9 h9
      obtain ⟨AQ3, CQ3, rfl, SQ3, k9⟩ := IdG.NewI.s h9
      clear h9
      have s0' := s0.below k9
      have s1' := s1.below k9
      have Sb' := Sb.below k9
      have SP3' := SP3.below k9
      have kb' := kb.trans (k9.mono kb.size)
      clear s0 s1 Sb SP3 kb k9
      have s0 := s0'
      have s1 := s1'
      have Sb := Sb'
      have SP3 := SP3'
      have kb := kb'
      clear s0' s1' Sb' SP3' kb'
      go_wp2_with fail
      refine (same_ret AP3 AQ3 CP3 CQ3 (common l1 bk) (common l0 l1) _ SP3 SQ3).mono ?_
      rintro e w10 ⟨rfl, k10⟩
      rw [decide_eq_true (q3 HM.out)]
      have s0' := s0.below k10
      have s1' := s1.below k10
      have Sb' := Sb.below k10
      have SP3' := SP3.below k10
      have SQ3' := SQ3.below k10
      have kb' := kb.trans (k10.mono kb.size)
      clear s0 s1 Sb SP3 SQ3 kb k10
      have s0 := s0'
      have s1 := s1'
      have Sb := Sb'
      have SP3 := SP3'
      have SQ3 := SQ3'
      have kb := kb'
      clear s0' s1' Sb' SP3' SQ3' kb'
      clear SP3 SQ3
      go_wp2_with fail
      refine (without_ret Ab a1 Cb c1 bk l1 _ Sb s1 (by omega) (by omega)).mono ?_
      rintro e w11 h11
      obtain ⟨AP4, CP4, rfl, SP4, k11⟩ := IdG.NewI.s h11
      clear h11
      have s0' := s0.below k11
      have s1' := s1.below k11
      have Sb' := Sb.below k11
      have kb' := kb.trans (k11.mono kb.size)
      clear s0 s1 Sb kb k11
      have s0 := s0'
      have s1 := s1'
      have Sb := Sb'
      have kb := kb'
      clear s0' s1' Sb' kb'
      go_wp2_with fail
      refine (without_ret a0 a1 c0 c1 l0 l1 _ s0 s1 (by omega) (by omega)).mono ?_
      rintro e w12 h12
      obtain ⟨AQ4, CQ4, rfl, SQ4, k12⟩ := IdG.NewI.s h12
      clear h12
      have s0' := s0.below k12
      have s1' := s1.below k12
      have Sb' := Sb.below k12
      have SP4' := SP4.below k12
      have kb' := kb.trans (k12.mono kb.size)
      clear s0 s1 Sb SP4 kb k12
      have s0 := s0'
      have s1 := s1'
      have Sb := Sb'
      have SP4 := SP4'
      have kb := kb'
      clear s0' s1' Sb' SP4' kb'
      go_wp2_with fail
      refine (same_ret AP4 AQ4 CP4 CQ4 (without bk l1) (without l0 l1) _ SP4 SQ4).mono ?_
      rintro e w13 ⟨rfl, k13⟩
      rw [decide_eq_true (q4 HM.out)]
      have s0' := s0.below k13
      have s1' := s1.below k13
      have Sb' := Sb.below k13
      have SP4' := SP4.below k13
      have SQ4' := SQ4.below k13
      have kb' := kb.trans (k13.mono kb.size)
      clear s0 s1 Sb SP4 SQ4 kb k13
      have s0 := s0'
      have s1 := s1'
      have Sb := Sb'
      have SP4 := SP4'
      have SQ4 := SQ4'
      have kb := kb'
      clear s0' s1' Sb' SP4' SQ4' kb'
      clear SP4 SQ4
      go_wp2_with fail
      refine (sort_ret a0 c0 l0 _ s0 (by omega)).mono ?_
      rintro e w14 h14
      obtain ⟨AP5, CP5, rfl, SP5, k14⟩ := IdG.NewI.s h14
      clear h14
      have s0' := s0.below k14
      have s1' := s1.below k14
      have Sb' := Sb.below k14
      have kb' := kb.trans (k14.mono kb.size)
      clear s0 s1 Sb kb k14
      have s0 := s0'
      have s1 := s1'
      have Sb := Sb'
      have kb := kb'
      clear s0' s1' Sb' kb'
      have b5 := sort_length_le l0
      go_wp2_with fail
      refine (sort_ret AP5 CP5 (IdM.sort l0) _ SP5 (by omega)).mono ?_
      rintro e w15 h15
      obtain ⟨AQ5, CQ5, rfl, SQ5, k15⟩ := IdG.NewI.s h15
      clear h15
      have s0' := s0.below k15
      have s1' := s1.below k15
      have Sb' := Sb.below k15
      have SP5' := SP5.below k15
      have kb' := kb.trans (k15.mono kb.size)
      clear s0 s1 Sb SP5 kb k15
      have s0 := s0'
      have s1 := s1'
      have Sb := Sb'
      have SP5 := SP5'
      have kb := kb'
      clear s0' s1' Sb' SP5' kb'
      go_wp2_with fail
      refine (sort_ret a0 c0 l0 _ s0 (by omega)).mono ?_
      rintro e w16 h16
      obtain ⟨AR5, CR5, rfl, SR5, k16⟩ := IdG.NewI.s h16
      clear h16
      have s0' := s0.below k16
      have s1' := s1.below k16
      have Sb' := Sb.below k16
      have SP5' := SP5.below k16
      have SQ5' := SQ5.below k16
      have kb' := kb.trans (k16.mono kb.size)
      clear s0 s1 Sb SP5 SQ5 kb k16
      have s0 := s0'
      have s1 := s1'
      have Sb := Sb'
      have SP5 := SP5'
      have SQ5 := SQ5'
      have kb := kb'
      clear s0' s1' Sb' SP5' SQ5' kb'
      go_wp2_with fail
      refine (same_ret AQ5 AR5 CQ5 CR5 (IdM.sort (IdM.sort l0)) (IdM.sort l0) _ SQ5 SR5).mono ?_
      rintro e w17 ⟨rfl, k17⟩
      rw [decide_eq_true (q5 l0)]
      have s0' := s0.below k17
      have s1' := s1.below k17
      have Sb' := Sb.below k17
      have SP5' := SP5.below k17
      have SQ5' := SQ5.below k17
      have SR5' := SR5.below k17
      have kb' := kb.trans (k17.mono kb.size)
      clear s0 s1 Sb SP5 SQ5 SR5 kb k17
      have s0 := s0'
      have s1 := s1'
      have Sb := Sb'
      have SP5 := SP5'
      have SQ5 := SQ5'
      have SR5 := SR5'
      have kb := kb'
      clear s0' s1' Sb' SP5' SQ5' SR5' kb'
      go_wp2_with fail
      go_ret
      exact ⟨rfl, kb⟩
    · obtain ⟨j, rfl⟩ : ∃ j, k = j + 1 := ⟨k - 1, by omega⟩
      have hstep := backs_step (l := l0) (k := j) (by omega)
      obtain ⟨b, off, rfl, hbw, hrg⟩ := Wf0.plain (by omega)
      have hr1 := hrg j (by omega)
      obtain ⟨x, hx⟩ : ∃ x, l0.getD j nought = x := ⟨_, rfl⟩
      rw [hx] at hr1 hstep
      have HSt := aside hstep
      generalize backs l0 (j + 1) = acc at hrow hlen HSt
      have p0 : (j : Int) < l0.length := by omega
      have o0 : 0 ≤ (j : Int) := by omega
      have mm : ((j : Int)).toNat = j := by omega
      have ej : ((j + 1 : Nat) : Int) - 1 = j := by omega
      rw [ej]
      clear hrg hx hstep
      have r1 := range_below hr1 kb
      go_wp2_with (first | (refine wpList_load_id rfl _ rfl _ _ rfl x r1 ?_) | (refine wpList_build1 rfl _ rfl x rfl ?_) | (refine wpList_append_ids rfl _ _ rfl w.heap.size _ _ acc rfl (hrow.alloc _) _ 1 1 [x] rfl rfl (SlI.new1 _ x _) (by omega) (by have := kb.size; simp; omega) ?_; intro v6 w6 o6 g6; have k6 : Below w.heap.size w w6 := below_grown (kb.alloc kb.size _) (by have := kb.size; simp; omega) g6 (fun k hk => (hrow.lt k hk).1); have r6 := range_below hr1 k6) | (refine wpList_load_id rfl _ rfl _ _ rfl x r6 ?_) | (refine wpList_append_ids rfl _ _ rfl w.heap.size _ _ (acc ++ [x]) rfl (o6.alloc _) _ 1 1 [x] rfl rfl (SlI.new1 _ x _) (by omega) (by have := k6.size; simp; omega) ?_; intro v7 w7 o7 g7; have k7 : Below w.heap.size w w7 := below_grown (k6.alloc k6.size _) (by have := k6.size; simp; omega) g7 (fun k hk => (o6.lt k hk).1)))
      go_roundw
      case rel =>
        refine ⟨j, by omega, by go_num, ?_, k7⟩
        rw [HSt.out]
        simpa using o7
      case measure => simp [intOf]

theorem own : ownKnob Try.prog.godebug = none := by kernel_rfl
theorem laidOut : laidOutB Try.prog = true := by kernel_rfl
set_option linter.unusedVariables false in
set_option maxRecDepth 100000 in
theorem lifted (os : Os) (started : os.Started) (H : Type) (enc : TypeId × Value → H) :
    ReturnsInHanded {} Try.checked os 6 .any (Rows.idsOrderSpec.pre6 enc Try.prog Try.f6 Rows.idsOrderRow.domain false) (Rows.idsOrderSpec.post enc Try.prog Try.f6 false true false false) := by
  refine returnsInHanded_of_change (C := Try.checked) own started (by kernel_rfl) Try.func6
    (ChangeSpec.witness6 (enc := enc) (C := Try.checked) false ⟨#[], #[.slice none 0 0, .slice none 0 0], []⟩ 8 (by kernel_rfl) (by kernel_rfl) (by kernel_rfl) (by kernel_rfl)) ?_
  intro W base args ds gs before hval0 hW hcnd _
  have hval : ∀ (j : Nat) t v, Try.f6.params[j]? = some t → args[j]? = some v → Value.okWide Try.prog W .any base t v := hval0
  have hW' := hW
  obtain ⟨p, q, hA0, hV, rfl, hfz, hnd⟩ := hW
  have hA : DataW.TrodAll enc Try.prog W 0 (fun _ => true) true Try.f6.params.toList args.toList ds p := hA0
  rw [Try.params6] at hA hval
  obtain ⟨v0, vs0, d0, ds0, p0, q0, hargs, rfl, rfl, h0, r0⟩ := trodAll_cons hA
  obtain ⟨v1, vs1, d1, ds1, p1, q1, rfl, rfl, rfl, h1, r1⟩ := trodAll_cons r0
  obtain ⟨rfl, rfl, rfl⟩ := trodAll_nil r1
  obtain rfl : args = #[v0, v1] := by cases args; simp_all
  obtain ⟨rfl, rfl⟩ := trodVars_none hV
  have k0 := h0
  have lt0 : ∀ x ∈ p0, x.block < W.heap.size := by obtain ⟨m, hm⟩ := k0; exact DataW.trod_lt m _ _ _ hm
  obtain ⟨a0, cap0, l0, rfl, w0⟩ := OpenI.open_ids Try.underlying22 Try.underlying24 Try.underlying5 (by kernel_rfl) (by kernel_rfl) (hval 0 22 v0 rfl rfl) h0
  have k1 := h1
  have lt1 : ∀ x ∈ p1, x.block < W.heap.size := by obtain ⟨m, hm⟩ := k1; exact DataW.trod_lt m _ _ _ hm
  obtain ⟨a1, cap1, l1, rfl, w1⟩ := OpenI.open_ids Try.underlying22 Try.underlying24 Try.underlying5 (by kernel_rfl) (by kernel_rfl) (hval 1 22 v1 rfl rfl) h1
  clear hA0 hval0
  refine (walk a0 cap0 l0 a1 cap1 l1 W w0 w1).mono fun e W' ⟨he, bel⟩ => ?_
  subst he
  exact ⟨_, rfl, _, _, _, [], _, [], hW', trodAll_mk1 (shut_bool Try.underlying4 _), (trodAll_cons_mk (Below.trod laidOut (by kernel_rfl) (of_decide_eq_true (by kernel_rfl)) k0 bel lt0) (trodAll_cons_mk (Below.trod laidOut (by kernel_rfl) (of_decide_eq_true (by kernel_rfl)) k1 bel lt1) trodAll_mk0)), rfl, bel.frame _, fun h => by cases h⟩

theorem over : Rows.idsOrderRow.holds Try.pinned (OpenSpec.ofChange Rows.idsOrderSpec) :=
  OpenClaim.holds_of_wide 6 Try.f6 rfl rfl rfl rfl rfl rfl rfl ⟨rfl, rfl, rfl, rfl, rfl⟩ rfl rfl rfl rfl rfl (by kernel_rfl) Try.func6 (by kernel_rfl)
    (of_decide_eq_true (by kernel_rfl)) (by unfold Func.isWrapper; first | (rw [if_pos (by decide +kernel)]; kernel_rfl) | (rw [if_neg (by decide +kernel)]; exact ⟨rfl, rfl⟩))
    (fun os started H enc _ => lifted os started H enc)

theorem proved : Rows.IdsOrderSaid := over
end Go.Proofs.Ytbggegpbcgcknaa.idsOrder
