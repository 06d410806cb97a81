/- IdsParts returns true for every input: both are what the first one has alone, what is common, and what the second one has alone; of three it does not matter which two are taken first. No condition. -/
import Derived.Test.YtbggegpbcgcknaaIdA
import Derived.Test.YtbggegpbcgcknaaOpenI
import Derived.ShutString
import Derived.ChangeOld
namespace Go.Proofs.Ytbggegpbcgcknaa.idsParts
open Go Go.ChangeShapes Go.WideShapes Go.ChangeAt Go.RowKit IdM Byt IdW IdB IdC IdV IdU IdY IdX IdG IdA

theorem p1 (a b : List Idn) : both (both (without a b) (common a b)) (without b a) = both a b := rising_uniq (rising_both _ _) (rising_both _ _) fun z => by
  simp only [mem_both, mem_without, mem_common]
  by_cases h1 : z ∈ a <;> by_cases h2 : z ∈ b <;> simp [h1, h2]
theorem p2 (a b c : List Idn) : both (both a b) c = both a (both b c) := rising_uniq (rising_both _ _) (rising_both _ _) fun z => by
  simp only [mem_both, or_assoc]
theorem p3 (a b c : List Idn) : common (common a b) c = common a (common b c) := rising_uniq (rising_common _ _) (rising_common _ _) fun z => by
  simp only [mem_common, and_assoc]
theorem p4 (a b c : List Idn) : without (without a b) c = without a (both b c) := rising_uniq (rising_without _ _) (rising_without _ _) fun z => by
  simp only [mem_without, mem_both, not_or, and_assoc]
theorem p5 (a : List Idn) : without a a = [] := rising_uniq (rising_without _ _) List.Pairwise.nil fun z => by
  simp only [mem_without]
  by_cases h : z ∈ a <;> simp [h]
theorem n1 (a b : List Idn) : (both a b).length ≤ a.length + b.length := Nat.le_trans (sort_length_le _) (by simp)
theorem n2 (a b : List Idn) : (common a b).length ≤ a.length := Nat.le_trans (sort_length_le _) (List.length_filter_le _ _)
theorem n3 (a b : List Idn) : (without a b).length ≤ a.length := Nat.le_trans (sort_length_le _) (List.length_filter_le _ _)

set_option maxRecDepth 100000 in
set_option maxHeartbeats 8000000 in
theorem walk (a0 : Option Addr) (c0 : Nat) (l0 : List Idn) (a1 : Option Addr) (c1 : Nat) (l1 : List Idn) (a2 : Option Addr) (c2 : Nat) (l2 : List Idn) (w : World) (w0 : SlI w a0 c0 l0) (w1 : SlI w a1 c1 l1) (w2 : SlI w a2 c2 l2) :
    Calls Try.prog 8 #[.slice a0 l0.length c0, .slice a1 l1.length c1, .slice a2 l2.length c2] w fun e w' => e = .returned (.bool true) ∧ Below w.heap.size w w' := by
  have m0 : l0.length ≤ 9223372036854775807 := by have := w0.1; have := w0.2.1; unfold maxLen at this; omega
  have m1 : l1.length ≤ 9223372036854775807 := by have := w1.1; have := w1.2.1; unfold maxLen at this; omega
  have m2 : l2.length ≤ 9223372036854775807 := by have := w2.1; have := w2.2.1; unfold maxLen at this; omega
  have kb0 : Below w.heap.size w w := Below.refl _ _
  have s0 := w0.below kb0
  have s1 := w1.below kb0
  have s2 := w2.below kb0
  clear w0 w1 w2
  go_enter Try.func8, Try.ntmps8
  go_wp2_with fail
  refine (awake_ret _).mono ?_
  rintro e w1 ⟨rfl, k1⟩
  have s0' := s0.below k1
  have s1' := s1.below k1
  have s2' := s2.below k1
  have kb' := kb0.trans (k1.mono kb0.size)
  clear s0 s1 s2 kb0 k1
  have s0 := s0'
  have s1 := s1'
  have s2 := s2'
  have kb := kb'
  clear s0' s1' s2' kb'
  by_cases h0 : 20 < l0.length
  · go_wp2_with fail
    go_ret
    exact ⟨rfl, kb⟩
  by_cases h1 : 20 < l1.length
  · go_wp2_with fail
    go_ret
    exact ⟨rfl, kb⟩
  by_cases h2 : 20 < l2.length
  · go_wp2_with fail
    go_ret
    exact ⟨rfl, kb⟩
  have b01 := n1 l0 l1
  have d01 := n2 l0 l1
  have f01 := n3 l0 l1
  have b10 := n1 l1 l0
  have d10 := n2 l1 l0
  have f10 := n3 l1 l0
  have b12 := n1 l1 l2
  have d12 := n2 l1 l2
  have f12 := n3 l1 l2
  go_wp2_with fail
  refine (without_ret a0 a1 c0 c1 l0 l1 _ s0 s1 (by omega) (by omega)).mono ?_
  rintro e w2 h2
  obtain ⟨AW, CW, rfl, SW, k2⟩ := IdG.NewI.s h2
  clear h2
  have s0' := s0.below k2
  have s1' := s1.below k2
  have s2' := s2.below k2
  have kb' := kb.trans (k2.mono kb.size)
  clear s0 s1 s2 kb k2
  have s0 := s0'
  have s1 := s1'
  have s2 := s2'
  have kb := kb'
  clear s0' s1' s2' kb'
  go_wp2_with fail
  refine (common_ret a0 a1 c0 c1 l0 l1 _ s0 s1 (by omega) (by omega)).mono ?_
  rintro e w3 h3
  obtain ⟨AK, CK, rfl, SK, k3⟩ := IdG.NewI.s h3
  clear h3
  have s0' := s0.below k3
  have s1' := s1.below k3
  have s2' := s2.below k3
  have SW' := SW.below k3
  have kb' := kb.trans (k3.mono kb.size)
  clear s0 s1 s2 SW kb k3
  have s0 := s0'
  have s1 := s1'
  have s2 := s2'
  have SW := SW'
  have kb := kb'
  clear s0' s1' s2' SW' kb'
  have e1 := n1 (without l0 l1) (common l0 l1)
  go_wp2_with fail
  refine (both_ret AW AK CW CK (without l0 l1) (common l0 l1) _ SW SK (by omega) (by omega)).mono ?_
  rintro e w4 h4
  obtain ⟨AP, CP, rfl, SP, k4⟩ := IdG.NewI.s h4
  clear h4
  have s0' := s0.below k4
  have s1' := s1.below k4
  have s2' := s2.below k4
  have SW' := SW.below k4
  have SK' := SK.below k4
  have kb' := kb.trans (k4.mono kb.size)
  clear s0 s1 s2 SW SK kb k4
  have s0 := s0'
  have s1 := s1'
  have s2 := s2'
  have SW := SW'
  have SK := SK'
  have kb := kb'
  clear s0' s1' s2' SW' SK' kb'
  go_wp2_with fail
  refine (without_ret a1 a0 c1 c0 l1 l0 _ s1 s0 (by omega) (by omega)).mono ?_
  rintro e w5 h5
  obtain ⟨AV, CV, rfl, SV, k5⟩ := IdG.NewI.s h5
  clear h5
  have s0' := s0.below k5
  have s1' := s1.below k5
  have s2' := s2.below k5
  have SW' := SW.below k5
  have SK' := SK.below k5
  have SP' := SP.below k5
  have kb' := kb.trans (k5.mono kb.size)
  clear s0 s1 s2 SW SK SP kb k5
  have s0 := s0'
  have s1 := s1'
  have s2 := s2'
  have SW := SW'
  have SK := SK'
  have SP := SP'
  have kb := kb'
  clear s0' s1' s2' SW' SK' SP' kb'
  go_wp2_with fail
  refine (both_ret AP AV CP CV (both (without l0 l1) (common l0 l1)) (without l1 l0) _ SP SV (by omega) (by omega)).mono ?_
  rintro e w6 h6
  obtain ⟨AQ, CQ, rfl, SQ, k6⟩ := IdG.NewI.s h6
  clear h6
  have s0' := s0.below k6
  have s1' := s1.below k6
  have s2' := s2.below k6
  have SW' := SW.below k6
  have SK' := SK.below k6
  have SP' := SP.below k6
  have SV' := SV.below k6
  have kb' := kb.trans (k6.mono kb.size)
  clear s0 s1 s2 SW SK SP SV kb k6
  have s0 := s0'
  have s1 := s1'
  have s2 := s2'
  have SW := SW'
  have SK := SK'
  have SP := SP'
  have SV := SV'
  have kb := kb'
  clear s0' s1' s2' SW' SK' SP' SV' kb'
  go_wp2_with fail
  refine (both_ret a0 a1 c0 c1 l0 l1 _ s0 s1 (by omega) (by omega)).mono ?_
  rintro e w7 h7
  obtain ⟨AR, CR, rfl, SR, k7⟩ := IdG.NewI.s h7
  clear h7
  have s0' := s0.below k7
  have s1' := s1.below k7
  have s2' := s2.below k7
  have SW' := SW.below k7
  have SK' := SK.below k7
  have SP' := SP.below k7
  have SV' := SV.below k7
  have SQ' := SQ.below k7
  have kb' := kb.trans (k7.mono kb.size)
  clear s0 s1 s2 SW SK SP SV SQ kb k7
  have s0 := s0'
  have s1 := s1'
  have s2 := s2'
  have SW := SW'
  have SK := SK'
  have SP := SP'
  have SV := SV'
  have SQ := SQ'
  have kb := kb'
  clear s0' s1' s2' SW' SK' SP' SV' SQ' kb'
  go_wp2_with fail
  refine (same_ret AQ AR CQ CR (both (both (without l0 l1) (common l0 l1)) (without l1 l0)) (both l0 l1) _ SQ SR).mono ?_
  rintro e w8 ⟨rfl, k8⟩
  rw [decide_eq_true (p1 l0 l1)]
  have s0' := s0.below k8
  have s1' := s1.below k8
  have s2' := s2.below k8
  have SW' := SW.below k8
  have SK' := SK.below k8
  have SP' := SP.below k8
  have SV' := SV.below k8
  have SQ' := SQ.below k8
  have SR' := SR.below k8
  have kb' := kb.trans (k8.mono kb.size)
  clear s0 s1 s2 SW SK SP SV SQ SR kb k8
  have s0 := s0'
  have s1 := s1'
  have s2 := s2'
  have SW := SW'
  have SK := SK'
  have SP := SP'
  have SV := SV'
  have SQ := SQ'
  have SR := SR'
  have kb := kb'
  clear s0' s1' s2' SW' SK' SP' SV' SQ' SR' kb'
  clear SW SK SP SV SQ SR
  go_wp2_with fail
  refine (both_ret a0 a1 c0 c1 l0 l1 _ s0 s1 (by omega) (by omega)).mono ?_
  rintro e w9 h9
  obtain ⟨AP2, CP2, rfl, SP2, k9⟩ := IdG.NewI.s h9
  clear h9
  have s0' := s0.below k9
  have s1' := s1.below k9
  have s2' := s2.below k9
  have kb' := kb.trans (k9.mono kb.size)
  clear s0 s1 s2 kb k9
  have s0 := s0'
  have s1 := s1'
  have s2 := s2'
  have kb := kb'
  clear s0' s1' s2' kb'
  go_wp2_with fail
  refine (both_ret AP2 a2 CP2 c2 (both l0 l1) l2 _ SP2 s2 (by omega) (by omega)).mono ?_
  rintro e w10 h10
  obtain ⟨AQ2, CQ2, rfl, SQ2, k10⟩ := IdG.NewI.s h10
  clear h10
  have s0' := s0.below k10
  have s1' := s1.below k10
  have s2' := s2.below k10
  have SP2' := SP2.below k10
  have kb' := kb.trans (k10.mono kb.size)
  clear s0 s1 s2 SP2 kb k10
  have s0 := s0'
  have s1 := s1'
  have s2 := s2'
  have SP2 := SP2'
  have kb := kb'
  clear s0' s1' s2' SP2' kb'
  go_wp2_with fail
  refine (both_ret a1 a2 c1 c2 l1 l2 _ s1 s2 (by omega) (by omega)).mono ?_
  rintro e w11 h11
  obtain ⟨AR2, CR2, rfl, SR2, k11⟩ := IdG.NewI.s h11
  clear h11
  have s0' := s0.below k11
  have s1' := s1.below k11
  have s2' := s2.below k11
  have SP2' := SP2.below k11
  have SQ2' := SQ2.below k11
  have kb' := kb.trans (k11.mono kb.size)
  clear s0 s1 s2 SP2 SQ2 kb k11
  have s0 := s0'
  have s1 := s1'
  have s2 := s2'
  have SP2 := SP2'
  have SQ2 := SQ2'
  have kb := kb'
  clear s0' s1' s2' SP2' SQ2' kb'
  go_wp2_with fail
  refine (both_ret a0 AR2 c0 CR2 l0 (both l1 l2) _ s0 SR2 (by omega) (by omega)).mono ?_
  rintro e w12 h12
  obtain ⟨AT2, CT2, rfl, ST2, k12⟩ := IdG.NewI.s h12
  clear h12
  have s0' := s0.below k12
  have s1' := s1.below k12
  have s2' := s2.below k12
  have SP2' := SP2.below k12
  have SQ2' := SQ2.below k12
  have SR2' := SR2.below k12
  have kb' := kb.trans (k12.mono kb.size)
  clear s0 s1 s2 SP2 SQ2 SR2 kb k12
  have s0 := s0'
  have s1 := s1'
  have s2 := s2'
  have SP2 := SP2'
  have SQ2 := SQ2'
  have SR2 := SR2'
  have kb := kb'
  clear s0' s1' s2' SP2' SQ2' SR2' kb'
  go_wp2_with fail
  refine (same_ret AQ2 AT2 CQ2 CT2 (both (both l0 l1) l2) (both l0 (both l1 l2)) _ SQ2 ST2).mono ?_
  rintro e w13 ⟨rfl, k13⟩
  rw [decide_eq_true (p2 l0 l1 l2)]
  have s0' := s0.below k13
  have s1' := s1.below k13
  have s2' := s2.below k13
  have SP2' := SP2.below k13
  have SQ2' := SQ2.below k13
  have SR2' := SR2.below k13
  have ST2' := ST2.below k13
  have kb' := kb.trans (k13.mono kb.size)
  clear s0 s1 s2 SP2 SQ2 SR2 ST2 kb k13
  have s0 := s0'
  have s1 := s1'
  have s2 := s2'
  have SP2 := SP2'
  have SQ2 := SQ2'
  have SR2 := SR2'
  have ST2 := ST2'
  have kb := kb'
  clear s0' s1' s2' SP2' SQ2' SR2' ST2' kb'
  clear SP2 SQ2 SR2 ST2
  go_wp2_with fail
  refine (common_ret a0 a1 c0 c1 l0 l1 _ s0 s1 (by omega) (by omega)).mono ?_
  rintro e w14 h14
  obtain ⟨AP3, CP3, rfl, SP3, k14⟩ := IdG.NewI.s h14
  clear h14
  have s0' := s0.below k14
  have s1' := s1.below k14
  have s2' := s2.below k14
  have kb' := kb.trans (k14.mono kb.size)
  clear s0 s1 s2 kb k14
  have s0 := s0'
  have s1 := s1'
  have s2 := s2'
  have kb := kb'
  clear s0' s1' s2' kb'
  go_wp2_with fail
  refine (common_ret AP3 a2 CP3 c2 (common l0 l1) l2 _ SP3 s2 (by omega) (by omega)).mono ?_
  rintro e w15 h15
  obtain ⟨AQ3, CQ3, rfl, SQ3, k15⟩ := IdG.NewI.s h15
  clear h15
  have s0' := s0.below k15
  have s1' := s1.below k15
  have s2' := s2.below k15
  have SP3' := SP3.below k15
  have kb' := kb.trans (k15.mono kb.size)
  clear s0 s1 s2 SP3 kb k15
  have s0 := s0'
  have s1 := s1'
  have s2 := s2'
  have SP3 := SP3'
  have kb := kb'
  clear s0' s1' s2' SP3' kb'
  go_wp2_with fail
  refine (common_ret a1 a2 c1 c2 l1 l2 _ s1 s2 (by omega) (by omega)).mono ?_
  rintro e w16 h16
  obtain ⟨AR3, CR3, rfl, SR3, k16⟩ := IdG.NewI.s h16
  clear h16
  have s0' := s0.below k16
  have s1' := s1.below k16
  have s2' := s2.below k16
  have SP3' := SP3.below k16
  have SQ3' := SQ3.below k16
  have kb' := kb.trans (k16.mono kb.size)
  clear s0 s1 s2 SP3 SQ3 kb k16
  have s0 := s0'
  have s1 := s1'
  have s2 := s2'
  have SP3 := SP3'
  have SQ3 := SQ3'
  have kb := kb'
  clear s0' s1' s2' SP3' SQ3' kb'
  go_wp2_with fail
  refine (common_ret a0 AR3 c0 CR3 l0 (common l1 l2) _ s0 SR3 (by omega) (by omega)).mono ?_
  rintro e w17 h17
  obtain ⟨AT3, CT3, rfl, ST3, k17⟩ := IdG.NewI.s h17
  clear h17
  have s0' := s0.below k17
  have s1' := s1.below k17
  have s2' := s2.below k17
  have SP3' := SP3.below k17
  have SQ3' := SQ3.below k17
  have SR3' := SR3.below k17
  have kb' := kb.trans (k17.mono kb.size)
  clear s0 s1 s2 SP3 SQ3 SR3 kb k17
  have s0 := s0'
  have s1 := s1'
  have s2 := s2'
  have SP3 := SP3'
  have SQ3 := SQ3'
  have SR3 := SR3'
  have kb := kb'
  clear s0' s1' s2' SP3' SQ3' SR3' kb'
  go_wp2_with fail
  refine (same_ret AQ3 AT3 CQ3 CT3 (common (common l0 l1) l2) (common l0 (common l1 l2)) _ SQ3 ST3).mono ?_
  rintro e w18 ⟨rfl, k18⟩
  rw [decide_eq_true (p3 l0 l1 l2)]
  have s0' := s0.below k18
  have s1' := s1.below k18
  have s2' := s2.below k18
  have SP3' := SP3.below k18
  have SQ3' := SQ3.below k18
  have SR3' := SR3.below k18
  have ST3' := ST3.below k18
  have kb' := kb.trans (k18.mono kb.size)
  clear s0 s1 s2 SP3 SQ3 SR3 ST3 kb k18
  have s0 := s0'
  have s1 := s1'
  have s2 := s2'
  have SP3 := SP3'
  have SQ3 := SQ3'
  have SR3 := SR3'
  have ST3 := ST3'
  have kb := kb'
  clear s0' s1' s2' SP3' SQ3' SR3' ST3' kb'
  clear SP3 SQ3 SR3 ST3
  go_wp2_with fail
  refine (without_ret a0 a1 c0 c1 l0 l1 _ s0 s1 (by omega) (by omega)).mono ?_
  rintro e w19 h19
  obtain ⟨AP4, CP4, rfl, SP4, k19⟩ := IdG.NewI.s h19
  clear h19
  have s0' := s0.below k19
  have s1' := s1.below k19
  have s2' := s2.below k19
  have kb' := kb.trans (k19.mono kb.size)
  clear s0 s1 s2 kb k19
  have s0 := s0'
  have s1 := s1'
  have s2 := s2'
  have kb := kb'
  clear s0' s1' s2' kb'
  go_wp2_with fail
  refine (without_ret AP4 a2 CP4 c2 (without l0 l1) l2 _ SP4 s2 (by omega) (by omega)).mono ?_
  rintro e w20 h20
  obtain ⟨AQ4, CQ4, rfl, SQ4, k20⟩ := IdG.NewI.s h20
  clear h20
  have s0' := s0.below k20
  have s1' := s1.below k20
  have s2' := s2.below k20
  have SP4' := SP4.below k20
  have kb' := kb.trans (k20.mono kb.size)
  clear s0 s1 s2 SP4 kb k20
  have s0 := s0'
  have s1 := s1'
  have s2 := s2'
  have SP4 := SP4'
  have kb := kb'
  clear s0' s1' s2' SP4' kb'
  go_wp2_with fail
  refine (both_ret a1 a2 c1 c2 l1 l2 _ s1 s2 (by omega) (by omega)).mono ?_
  rintro e w21 h21
  obtain ⟨AR4, CR4, rfl, SR4, k21⟩ := IdG.NewI.s h21
  clear h21
  have s0' := s0.below k21
  have s1' := s1.below k21
  have s2' := s2.below k21
  have SP4' := SP4.below k21
  have SQ4' := SQ4.below k21
  have kb' := kb.trans (k21.mono kb.size)
  clear s0 s1 s2 SP4 SQ4 kb k21
  have s0 := s0'
  have s1 := s1'
  have s2 := s2'
  have SP4 := SP4'
  have SQ4 := SQ4'
  have kb := kb'
  clear s0' s1' s2' SP4' SQ4' kb'
  go_wp2_with fail
  refine (without_ret a0 AR4 c0 CR4 l0 (both l1 l2) _ s0 SR4 (by omega) (by omega)).mono ?_
  rintro e w22 h22
  obtain ⟨AT4, CT4, rfl, ST4, k22⟩ := IdG.NewI.s h22
  clear h22
  have s0' := s0.below k22
  have s1' := s1.below k22
  have s2' := s2.below k22
  have SP4' := SP4.below k22
  have SQ4' := SQ4.below k22
  have SR4' := SR4.below k22
  have kb' := kb.trans (k22.mono kb.size)
  clear s0 s1 s2 SP4 SQ4 SR4 kb k22
  have s0 := s0'
  have s1 := s1'
  have s2 := s2'
  have SP4 := SP4'
  have SQ4 := SQ4'
  have SR4 := SR4'
  have kb := kb'
  clear s0' s1' s2' SP4' SQ4' SR4' kb'
  go_wp2_with fail
  refine (same_ret AQ4 AT4 CQ4 CT4 (without (without l0 l1) l2) (without l0 (both l1 l2)) _ SQ4 ST4).mono ?_
  rintro e w23 ⟨rfl, k23⟩
  rw [decide_eq_true (p4 l0 l1 l2)]
  have s0' := s0.below k23
  have s1' := s1.below k23
  have s2' := s2.below k23
  have SP4' := SP4.below k23
  have SQ4' := SQ4.below k23
  have SR4' := SR4.below k23
  have ST4' := ST4.below k23
  have kb' := kb.trans (k23.mono kb.size)
  clear s0 s1 s2 SP4 SQ4 SR4 ST4 kb k23
  have s0 := s0'
  have s1 := s1'
  have s2 := s2'
  have SP4 := SP4'
  have SQ4 := SQ4'
  have SR4 := SR4'
  have ST4 := ST4'
  have kb := kb'
  clear s0' s1' s2' SP4' SQ4' SR4' ST4' kb'
  clear SP4 SQ4 SR4 ST4
  go_wp2_with fail
  refine (without_ret a0 a0 c0 c0 l0 l0 _ s0 s0 (by omega) (by omega)).mono ?_
  rintro e w24 h24
  obtain ⟨AN, CN, rfl, SN, k24⟩ := IdG.NewI.s h24
  clear h24
  have s0' := s0.below k24
  have s1' := s1.below k24
  have s2' := s2.below k24
  have kb' := kb.trans (k24.mono kb.size)
  clear s0 s1 s2 kb k24
  have s0 := s0'
  have s1 := s1'
  have s2 := s2'
  have kb := kb'
  clear s0' s1' s2' kb'
  have hN : (without l0 l0).length = 0 := by rw [p5]; rfl
  rw [hN]
  go_wp2_with fail
  go_ret
  exact ⟨rfl, kb⟩

theorem own : ownKnob Try.prog.godebug = none := by kernel_rfl
theorem laidOut : laidOutB Try.prog = true := by kernel_rfl
set_option linter.unusedVariables false in
set_option maxRecDepth 100000 in
theorem lifted (os : Os) (started : os.Started) (H : Type) (enc : TypeId × Value → H) :
    ReturnsInHanded {} Try.checked os 8 .any (Rows.idsPartsSpec.pre6 enc Try.prog Try.f8 Rows.idsPartsRow.domain false) (Rows.idsPartsSpec.post enc Try.prog Try.f8 false true false false) := by
  refine returnsInHanded_of_change (C := Try.checked) own started (by kernel_rfl) Try.func8
    (ChangeSpec.witness6 (enc := enc) (C := Try.checked) false ⟨#[], #[.slice none 0 0, .slice none 0 0, .slice none 0 0], []⟩ 8 (by kernel_rfl) (by kernel_rfl) (by kernel_rfl) (by kernel_rfl)) ?_
  intro W base args ds gs before hval0 hW hcnd _
  have hval : ∀ (j : Nat) t v, Try.f8.params[j]? = some t → args[j]? = some v → Value.okWide Try.prog W .any base t v := hval0
  have hW' := hW
  obtain ⟨p, q, hA0, hV, rfl, hfz, hnd⟩ := hW
  have hA : DataW.TrodAll enc Try.prog W 0 (fun _ => true) true Try.f8.params.toList args.toList ds p := hA0
  rw [Try.params8] at hA hval
  obtain ⟨v0, vs0, d0, ds0, p0, q0, hargs, rfl, rfl, h0, r0⟩ := trodAll_cons hA
  obtain ⟨v1, vs1, d1, ds1, p1, q1, rfl, rfl, rfl, h1, r1⟩ := trodAll_cons r0
  obtain ⟨v2, vs2, d2, ds2, p2, q2, rfl, rfl, rfl, h2, r2⟩ := trodAll_cons r1
  obtain ⟨rfl, rfl, rfl⟩ := trodAll_nil r2
  obtain rfl : args = #[v0, v1, v2] := by cases args; simp_all
  obtain ⟨rfl, rfl⟩ := trodVars_none hV
  have k0 := h0
  have lt0 : ∀ x ∈ p0, x.block < W.heap.size := by obtain ⟨m, hm⟩ := k0; exact DataW.trod_lt m _ _ _ hm
  obtain ⟨a0, cap0, l0, rfl, w0⟩ := OpenI.open_ids Try.underlying22 Try.underlying24 Try.underlying5 (by kernel_rfl) (by kernel_rfl) (hval 0 22 v0 rfl rfl) h0
  have k1 := h1
  have lt1 : ∀ x ∈ p1, x.block < W.heap.size := by obtain ⟨m, hm⟩ := k1; exact DataW.trod_lt m _ _ _ hm
  obtain ⟨a1, cap1, l1, rfl, w1⟩ := OpenI.open_ids Try.underlying22 Try.underlying24 Try.underlying5 (by kernel_rfl) (by kernel_rfl) (hval 1 22 v1 rfl rfl) h1
  have k2 := h2
  have lt2 : ∀ x ∈ p2, x.block < W.heap.size := by obtain ⟨m, hm⟩ := k2; exact DataW.trod_lt m _ _ _ hm
  obtain ⟨a2, cap2, l2, rfl, w2⟩ := OpenI.open_ids Try.underlying22 Try.underlying24 Try.underlying5 (by kernel_rfl) (by kernel_rfl) (hval 2 22 v2 rfl rfl) h2
  clear hA0 hval0
  refine (walk a0 cap0 l0 a1 cap1 l1 a2 cap2 l2 W w0 w1 w2).mono fun e W' ⟨he, bel⟩ => ?_
  subst he
  exact ⟨_, rfl, _, _, _, [], _, [], hW', trodAll_mk1 (shut_bool Try.underlying4 _), (trodAll_cons_mk (Below.trod laidOut (by kernel_rfl) (of_decide_eq_true (by kernel_rfl)) k0 bel lt0) (trodAll_cons_mk (Below.trod laidOut (by kernel_rfl) (of_decide_eq_true (by kernel_rfl)) k1 bel lt1) (trodAll_cons_mk (Below.trod laidOut (by kernel_rfl) (of_decide_eq_true (by kernel_rfl)) k2 bel lt2) trodAll_mk0))), rfl, bel.frame _, fun h => by cases h⟩

theorem over : Rows.idsPartsRow.holds Try.pinned (OpenSpec.ofChange Rows.idsPartsSpec) :=
  OpenClaim.holds_of_wide 8 Try.f8 rfl rfl rfl rfl rfl rfl rfl ⟨rfl, rfl, rfl, rfl, rfl⟩ rfl rfl rfl rfl rfl (by kernel_rfl) Try.func8 (by kernel_rfl)
    (of_decide_eq_true (by kernel_rfl)) (by unfold Func.isWrapper; first | (rw [if_pos (by decide +kernel)]; kernel_rfl) | (rw [if_neg (by decide +kernel)]; exact ⟨rfl, rfl⟩))
    (fun os started H enc _ => lifted os started H enc)

theorem proved : Rows.IdsPartsSaid := over
end Go.Proofs.Ytbggegpbcgcknaa.idsParts
