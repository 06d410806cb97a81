/- IdsSets returns true for every input: an id is in both together just if it is in one, in what is common just if it is in each, in what is without just if it is in the first one alone; all of them rise. No condition. -/
import Derived.Test.YtbggegpbcgcknaaIdA
import Derived.Test.YtbggegpbcgcknaaOpenI
import Derived.ShutString
import Derived.ChangeOld
namespace Go.Proofs.Ytbggegpbcgcknaa.idsSets
open Go Go.ChangeShapes Go.WideShapes Go.ChangeAt Go.RowKit IdM Byt IdW IdB IdC IdV IdU IdY IdX IdG IdA

theorem both_len (a b : List Idn) : (both a b).length = (IdM.sort b).length + (without a b).length := by
  have hp : (both a b).Perm (IdM.sort b ++ without a b) := by
    refine perm_of (rising_nodup (rising_both a b)) ?_ (fun z => ?_)
    · rw [List.nodup_append]
      refine ⟨rising_nodup (rising_sort b), rising_nodup (rising_without a b), fun y hy z hz => ?_⟩
      rintro rfl
      rw [mem_sort] at hy
      rw [mem_without] at hz
      exact hz.2 hy
    · rw [List.mem_append, mem_both, mem_sort, mem_without]
      by_cases h1 : z ∈ a <;> by_cases h2 : z ∈ b <;> simp [h1, h2]
  rw [hp.length_eq, List.length_append]
theorem sort_len (a b : List Idn) : (IdM.sort a).length = (common a b).length + (without a b).length := by
  have hp : (IdM.sort a).Perm (common a b ++ without a b) := by
    refine perm_of (rising_nodup (rising_sort a)) ?_ (fun z => ?_)
    · rw [List.nodup_append]
      refine ⟨rising_nodup (rising_common a b), rising_nodup (rising_without a b), fun y hy z hz => ?_⟩
      rintro rfl
      rw [mem_common] at hy
      rw [mem_without] at hz
      exact hz.2 hy.2
    · rw [List.mem_append, mem_sort, mem_common, mem_without]
      by_cases h1 : z ∈ a <;> by_cases h2 : z ∈ b <;> simp [h1, h2]
  rw [hp.length_eq, List.length_append]
theorem n1 (a b : List Idn) : (both a b).length ≤ a.length + b.length := Nat.le_trans (sort_length_le _) (by simp)
theorem n2 (a b : List Idn) : (common a b).length ≤ a.length := Nat.le_trans (sort_length_le _) (List.length_filter_le _ _)
theorem n3 (a b : List Idn) : (without a b).length ≤ a.length := Nat.le_trans (sort_length_le _) (List.length_filter_le _ _)
theorem has_both (x : Idn) (a b : List Idn) : decide (x ∈ both a b) = (decide (x ∈ a) || decide (x ∈ b)) := by simp [mem_both]
theorem has_common (x : Idn) (a b : List Idn) : decide (x ∈ common a b) = (decide (x ∈ a) && decide (x ∈ b)) := by simp [mem_common]
theorem has_without (x : Idn) (a b : List Idn) : decide (x ∈ without a b) = (decide (x ∈ a) && !decide (x ∈ b)) := by simp [mem_without]

set_option maxRecDepth 100000 in
set_option maxHeartbeats 8000000 in
theorem walk (a0 : Option Addr) (c0 : Nat) (l0 : List Idn) (a1 : Option Addr) (c1 : Nat) (l1 : List Idn) (x : Idn) (w : World) (w0 : SlI w a0 c0 l0) (w1 : SlI w a1 c1 l1) :
    Calls Try.prog 5 #[.slice a0 l0.length c0, .slice a1 l1.length c1, .agg (cs x)] w fun e w' => e = .returned (.bool true) ∧ Below w.heap.size w w' := by
  have m0 : l0.length ≤ 9223372036854775807 := by have := w0.1; have := w0.2.1; unfold maxLen at this; omega
  have m1 : l1.length ≤ 9223372036854775807 := by have := w1.1; have := w1.2.1; unfold maxLen at this; omega
  have Xb : Box (w.alloc (.cells (cs x) 24)) (w.heap.size) x := by
    have := Box.new w x 24
    simpa using this
  have kb0 : Below w.heap.size w (w.alloc (.cells (cs x) 24)) := (Below.refl _ _).alloc (Nat.le_refl _) _
  have s0 := w0.below kb0
  have s1 := w1.below kb0
  clear w0 w1
  go_enter Try.func5, Try.ntmps5
  go_wp2_with fail
  refine (awake_ret _).mono ?_
  rintro e w1 ⟨rfl, k1⟩
  have s0' := s0.below k1
  have s1' := s1.below k1
  have Xb' := IdG.Box.on Xb k1
  have kb' := kb0.trans (k1.mono kb0.size)
  clear s0 s1 Xb kb0 k1
  have s0 := s0'
  have s1 := s1'
  have Xb := Xb'
  have kb := kb'
  clear s0' s1' Xb' kb'
  by_cases h0 : 30 < l0.length
  · go_wp2_with fail
    go_ret
    exact ⟨rfl, kb⟩
  by_cases h1 : 30 < l1.length
  · go_wp2_with fail
    go_ret
    exact ⟨rfl, kb⟩
  have b1 := aside (both_len l0 l1)
  have b2 := aside (sort_len l0 l1)
  have b3 := n1 l0 l1
  have b4 := sort_length_le l0
  have b5 := n2 l0 l1
  have b6 := n3 l0 l1
  have b7 := sort_length_le l1
  have hB := has_both x l0 l1
  have hC := has_common x l0 l1
  have hD := has_without x l0 l1
  obtain ⟨p, hp⟩ : ∃ p, decide (x ∈ l0) = p := ⟨_, rfl⟩
  obtain ⟨q, hq⟩ : ∃ q, decide (x ∈ l1) = q := ⟨_, rfl⟩
  rw [hp, hq] at hB hC hD
  have HP := aside hp
  have HQ := aside hq
  have HB := aside hB
  have HC := aside hC
  have HD := aside hD
  clear hp hq hB hC hD
  go_wp2_with (refine wpList_load_box rfl _ rfl _ rfl x Xb ?_)
  refine (has_ret a0 c0 l0 x _ s0).mono ?_
  rintro e w2 ⟨rfl, k2⟩
  rw [HP.out]
  have s0' := s0.below k2
  have s1' := s1.below k2
  have Xb' := IdG.Box.on Xb k2
  have kb' := kb.trans (k2.mono kb.size)
  clear s0 s1 Xb kb k2
  have s0 := s0'
  have s1 := s1'
  have Xb := Xb'
  have kb := kb'
  clear s0' s1' Xb' kb'
  go_wp2_with (refine wpList_load_box rfl _ rfl _ rfl x Xb ?_)
  refine (has_ret a1 c1 l1 x _ s1).mono ?_
  rintro e w3 ⟨rfl, k3⟩
  rw [HQ.out]
  have s0' := s0.below k3
  have s1' := s1.below k3
  have Xb' := IdG.Box.on Xb k3
  have kb' := kb.trans (k3.mono kb.size)
  clear s0 s1 Xb kb k3
  have s0 := s0'
  have s1 := s1'
  have Xb := Xb'
  have kb := kb'
  clear s0' s1' Xb' kb'
  go_wp2_with fail
  refine (both_ret a0 a1 c0 c1 l0 l1 _ s0 s1 (by omega) (by omega)).mono ?_
  rintro e w4 h4
  obtain ⟨AB, CB, rfl, SB, k4⟩ := IdG.NewI.s h4
  clear h4
  have s0' := s0.below k4
  have s1' := s1.below k4
  have Xb' := IdG.Box.on Xb k4
  have kb' := kb.trans (k4.mono kb.size)
  clear s0 s1 Xb kb k4
  have s0 := s0'
  have s1 := s1'
  have Xb := Xb'
  have kb := kb'
  clear s0' s1' Xb' kb'
  go_wp2_with fail
  refine (common_ret a0 a1 c0 c1 l0 l1 _ s0 s1 (by omega) (by omega)).mono ?_
  rintro e w5 h5
  obtain ⟨AC, CC, rfl, SC, k5⟩ := IdG.NewI.s h5
  clear h5
  have s0' := s0.below k5
  have s1' := s1.below k5
  have SB' := SB.below k5
  have Xb' := IdG.Box.on Xb k5
  have kb' := kb.trans (k5.mono kb.size)
  clear s0 s1 SB Xb kb k5
  have s0 := s0'
  have s1 := s1'
  have SB := SB'
  have Xb := Xb'
  have kb := kb'
  clear s0' s1' SB' Xb' kb'
  go_wp2_with fail
  refine (without_ret a0 a1 c0 c1 l0 l1 _ s0 s1 (by omega) (by omega)).mono ?_
  rintro e w6 h6
  obtain ⟨AD, CD, rfl, SD, k6⟩ := IdG.NewI.s h6
  clear h6
  have s0' := s0.below k6
  have s1' := s1.below k6
  have SB' := SB.below k6
  have SC' := SC.below k6
  have Xb' := IdG.Box.on Xb k6
  have kb' := kb.trans (k6.mono kb.size)
  clear s0 s1 SB SC Xb kb k6
  have s0 := s0'
  have s1 := s1'
  have SB := SB'
  have SC := SC'
  have Xb := Xb'
  have kb := kb'
  clear s0' s1' SB' SC' Xb' kb'
  have rB := aside (risesB_of_rising (rising_both l0 l1))
  have rC := aside (risesB_of_rising (rising_common l0 l1))
  have rD := aside (risesB_of_rising (rising_without l0 l1))
  go_wp2_with (refine wpList_load_box rfl _ rfl _ rfl x Xb ?_)
  refine (has_ret AB CB (both l0 l1) x _ SB).mono ?_
  rintro e w7 ⟨rfl, k7⟩
  rw [HB.out]
  have s0' := s0.below k7
  have s1' := s1.below k7
  have SB' := SB.below k7
  have SC' := SC.below k7
  have SD' := SD.below k7
  have Xb' := IdG.Box.on Xb k7
  have kb' := kb.trans (k7.mono kb.size)
  clear s0 s1 SB SC SD Xb kb k7
  have s0 := s0'
  have s1 := s1'
  have SB := SB'
  have SC := SC'
  have SD := SD'
  have Xb := Xb'
  have kb := kb'
  clear s0' s1' SB' SC' SD' Xb' kb'
  cases p <;> cases q
  · go_wp2_with (refine gload _ rfl _ rfl x Xb (by kernel_rfl) ?_)
    refine (has_ret AC CC (common l0 l1) x _ SC).mono ?_
    rintro e w8 ⟨rfl, k8⟩
    rw [HC.out]
    have s0' := s0.below k8
    have s1' := s1.below k8
    have SB' := SB.below k8
    have SC' := SC.below k8
    have SD' := SD.below k8
    have Xb' := IdG.Box.on Xb k8
    have kb' := kb.trans (k8.mono kb.size)
    clear s0 s1 SB SC SD Xb kb k8
    have s0 := s0'
    have s1 := s1'
    have SB := SB'
    have SC := SC'
    have SD := SD'
    have Xb := Xb'
    have kb := kb'
    clear s0' s1' SB' SC' SD' Xb' kb'
    go_wp2_with (refine gload _ rfl _ rfl x Xb (by kernel_rfl) ?_)
    refine (has_ret AD CD (without l0 l1) x _ SD).mono ?_
    rintro e w9 ⟨rfl, k9⟩
    rw [HD.out]
    have s0' := s0.below k9
    have s1' := s1.below k9
    have SB' := SB.below k9
    have SC' := SC.below k9
    have SD' := SD.below k9
    have Xb' := IdG.Box.on Xb k9
    have kb' := kb.trans (k9.mono kb.size)
    clear s0 s1 SB SC SD Xb kb k9
    have s0 := s0'
    have s1 := s1'
    have SB := SB'
    have SC := SC'
    have SD := SD'
    have Xb := Xb'
    have kb := kb'
    clear s0' s1' SB' SC' SD' Xb' kb'
    go_wp2_with fail
    refine (rises_ret AB CB (both l0 l1) _ SB).mono ?_
    rintro e w10 ⟨rfl, k10⟩
    rw [rB.out]
    have s0' := s0.below k10
    have s1' := s1.below k10
    have SB' := SB.below k10
    have SC' := SC.below k10
    have SD' := SD.below k10
    have Xb' := IdG.Box.on Xb k10
    have kb' := kb.trans (k10.mono kb.size)
    clear s0 s1 SB SC SD Xb kb k10
    have s0 := s0'
    have s1 := s1'
    have SB := SB'
    have SC := SC'
    have SD := SD'
    have Xb := Xb'
    have kb := kb'
    clear s0' s1' SB' SC' SD' Xb' kb'
    go_wp2_with fail
    refine (rises_ret AC CC (common l0 l1) _ SC).mono ?_
    rintro e w11 ⟨rfl, k11⟩
    rw [rC.out]
    have s0' := s0.below k11
    have s1' := s1.below k11
    have SB' := SB.below k11
    have SC' := SC.below k11
    have SD' := SD.below k11
    have Xb' := IdG.Box.on Xb k11
    have kb' := kb.trans (k11.mono kb.size)
    clear s0 s1 SB SC SD Xb kb k11
    have s0 := s0'
    have s1 := s1'
    have SB := SB'
    have SC := SC'
    have SD := SD'
    have Xb := Xb'
    have kb := kb'
    clear s0' s1' SB' SC' SD' Xb' kb'
    go_wp2_with fail
    refine (rises_ret AD CD (without l0 l1) _ SD).mono ?_
    rintro e w12 ⟨rfl, k12⟩
    rw [rD.out]
    have s0' := s0.below k12
    have s1' := s1.below k12
    have SB' := SB.below k12
    have SC' := SC.below k12
    have SD' := SD.below k12
    have Xb' := IdG.Box.on Xb k12
    have kb' := kb.trans (k12.mono kb.size)
    clear s0 s1 SB SC SD Xb kb k12
    have s0 := s0'
    have s1 := s1'
    have SB := SB'
    have SC := SC'
    have SD := SD'
    have Xb := Xb'
    have kb := kb'
    clear s0' s1' SB' SC' SD' Xb' kb'
    go_wp2_with fail
    refine (sort_ret a1 c1 l1 _ s1 (by omega)).mono ?_
    rintro e w13 h13
    obtain ⟨AE, CE, rfl, SE, k13⟩ := IdG.NewI.s h13
    clear h13
    have s0' := s0.below k13
    have s1' := s1.below k13
    have SB' := SB.below k13
    have SC' := SC.below k13
    have SD' := SD.below k13
    have Xb' := IdG.Box.on Xb k13
    have kb' := kb.trans (k13.mono kb.size)
    clear s0 s1 SB SC SD Xb kb k13
    have s0 := s0'
    have s1 := s1'
    have SB := SB'
    have SC := SC'
    have SD := SD'
    have Xb := Xb'
    have kb := kb'
    clear s0' s1' SB' SC' SD' Xb' kb'
    have i1 : (((both l0 l1).length : Int) == (IdM.sort l1).length + (without l0 l1).length) = true := by have := b1.out; simp; omega
    go_wp2_with fail
    refine (sort_ret a0 c0 l0 _ s0 (by omega)).mono ?_
    rintro e w14 h14
    obtain ⟨AG, CG, rfl, SG, k14⟩ := IdG.NewI.s h14
    clear h14
    have s0' := s0.below k14
    have s1' := s1.below k14
    have SB' := SB.below k14
    have SC' := SC.below k14
    have SD' := SD.below k14
    have SE' := SE.below k14
    have Xb' := IdG.Box.on Xb k14
    have kb' := kb.trans (k14.mono kb.size)
    clear s0 s1 SB SC SD SE Xb kb k14
    have s0 := s0'
    have s1 := s1'
    have SB := SB'
    have SC := SC'
    have SD := SD'
    have SE := SE'
    have Xb := Xb'
    have kb := kb'
    clear s0' s1' SB' SC' SD' SE' Xb' kb'
    have i2 : (((IdM.sort l0).length : Int) == (common l0 l1).length + (without l0 l1).length) = true := by have := b2.out; simp; omega
    go_wp2_with fail
    go_ret
    exact ⟨rfl, kb⟩
  · go_wp2_with (refine gload _ rfl _ rfl x Xb (by kernel_rfl) ?_)
    refine (has_ret AC CC (common l0 l1) x _ SC).mono ?_
    rintro e w8 ⟨rfl, k8⟩
    rw [HC.out]
    have s0' := s0.below k8
    have s1' := s1.below k8
    have SB' := SB.below k8
    have SC' := SC.below k8
    have SD' := SD.below k8
    have Xb' := IdG.Box.on Xb k8
    have kb' := kb.trans (k8.mono kb.size)
    clear s0 s1 SB SC SD Xb kb k8
    have s0 := s0'
    have s1 := s1'
    have SB := SB'
    have SC := SC'
    have SD := SD'
    have Xb := Xb'
    have kb := kb'
    clear s0' s1' SB' SC' SD' Xb' kb'
    go_wp2_with (refine gload _ rfl _ rfl x Xb (by kernel_rfl) ?_)
    refine (has_ret AD CD (without l0 l1) x _ SD).mono ?_
    rintro e w9 ⟨rfl, k9⟩
    rw [HD.out]
    have s0' := s0.below k9
    have s1' := s1.below k9
    have SB' := SB.below k9
    have SC' := SC.below k9
    have SD' := SD.below k9
    have Xb' := IdG.Box.on Xb k9
    have kb' := kb.trans (k9.mono kb.size)
    clear s0 s1 SB SC SD Xb kb k9
    have s0 := s0'
    have s1 := s1'
    have SB := SB'
    have SC := SC'
    have SD := SD'
    have Xb := Xb'
    have kb := kb'
    clear s0' s1' SB' SC' SD' Xb' kb'
    go_wp2_with fail
    refine (rises_ret AB CB (both l0 l1) _ SB).mono ?_
    rintro e w10 ⟨rfl, k10⟩
    rw [rB.out]
    have s0' := s0.below k10
    have s1' := s1.below k10
    have SB' := SB.below k10
    have SC' := SC.below k10
    have SD' := SD.below k10
    have Xb' := IdG.Box.on Xb k10
    have kb' := kb.trans (k10.mono kb.size)
    clear s0 s1 SB SC SD Xb kb k10
    have s0 := s0'
    have s1 := s1'
    have SB := SB'
    have SC := SC'
    have SD := SD'
    have Xb := Xb'
    have kb := kb'
    clear s0' s1' SB' SC' SD' Xb' kb'
    go_wp2_with fail
    refine (rises_ret AC CC (common l0 l1) _ SC).mono ?_
    rintro e w11 ⟨rfl, k11⟩
    rw [rC.out]
    have s0' := s0.below k11
    have s1' := s1.below k11
    have SB' := SB.below k11
    have SC' := SC.below k11
    have SD' := SD.below k11
    have Xb' := IdG.Box.on Xb k11
    have kb' := kb.trans (k11.mono kb.size)
    clear s0 s1 SB SC SD Xb kb k11
    have s0 := s0'
    have s1 := s1'
    have SB := SB'
    have SC := SC'
    have SD := SD'
    have Xb := Xb'
    have kb := kb'
    clear s0' s1' SB' SC' SD' Xb' kb'
    go_wp2_with fail
    refine (rises_ret AD CD (without l0 l1) _ SD).mono ?_
    rintro e w12 ⟨rfl, k12⟩
    rw [rD.out]
    have s0' := s0.below k12
    have s1' := s1.below k12
    have SB' := SB.below k12
    have SC' := SC.below k12
    have SD' := SD.below k12
    have Xb' := IdG.Box.on Xb k12
    have kb' := kb.trans (k12.mono kb.size)
    clear s0 s1 SB SC SD Xb kb k12
    have s0 := s0'
    have s1 := s1'
    have SB := SB'
    have SC := SC'
    have SD := SD'
    have Xb := Xb'
    have kb := kb'
    clear s0' s1' SB' SC' SD' Xb' kb'
    go_wp2_with fail
    refine (sort_ret a1 c1 l1 _ s1 (by omega)).mono ?_
    rintro e w13 h13
    obtain ⟨AE, CE, rfl, SE, k13⟩ := IdG.NewI.s h13
    clear h13
    have s0' := s0.below k13
    have s1' := s1.below k13
    have SB' := SB.below k13
    have SC' := SC.below k13
    have SD' := SD.below k13
    have Xb' := IdG.Box.on Xb k13
    have kb' := kb.trans (k13.mono kb.size)
    clear s0 s1 SB SC SD Xb kb k13
    have s0 := s0'
    have s1 := s1'
    have SB := SB'
    have SC := SC'
    have SD := SD'
    have Xb := Xb'
    have kb := kb'
    clear s0' s1' SB' SC' SD' Xb' kb'
    have i1 : (((both l0 l1).length : Int) == (IdM.sort l1).length + (without l0 l1).length) = true := by have := b1.out; simp; omega
    go_wp2_with fail
    refine (sort_ret a0 c0 l0 _ s0 (by omega)).mono ?_
    rintro e w14 h14
    obtain ⟨AG, CG, rfl, SG, k14⟩ := IdG.NewI.s h14
    clear h14
    have s0' := s0.below k14
    have s1' := s1.below k14
    have SB' := SB.below k14
    have SC' := SC.below k14
    have SD' := SD.below k14
    have SE' := SE.below k14
    have Xb' := IdG.Box.on Xb k14
    have kb' := kb.trans (k14.mono kb.size)
    clear s0 s1 SB SC SD SE Xb kb k14
    have s0 := s0'
    have s1 := s1'
    have SB := SB'
    have SC := SC'
    have SD := SD'
    have SE := SE'
    have Xb := Xb'
    have kb := kb'
    clear s0' s1' SB' SC' SD' SE' Xb' kb'
    have i2 : (((IdM.sort l0).length : Int) == (common l0 l1).length + (without l0 l1).length) = true := by have := b2.out; simp; omega
    go_wp2_with fail
    go_ret
    exact ⟨rfl, kb⟩
  · go_wp2_with (refine gload _ rfl _ rfl x Xb (by kernel_rfl) ?_)
    refine (has_ret AC CC (common l0 l1) x _ SC).mono ?_
    rintro e w8 ⟨rfl, k8⟩
    rw [HC.out]
    have s0' := s0.below k8
    have s1' := s1.below k8
    have SB' := SB.below k8
    have SC' := SC.below k8
    have SD' := SD.below k8
    have Xb' := IdG.Box.on Xb k8
    have kb' := kb.trans (k8.mono kb.size)
    clear s0 s1 SB SC SD Xb kb k8
    have s0 := s0'
    have s1 := s1'
    have SB := SB'
    have SC := SC'
    have SD := SD'
    have Xb := Xb'
    have kb := kb'
    clear s0' s1' SB' SC' SD' Xb' kb'
    go_wp2_with (refine gload _ rfl _ rfl x Xb (by kernel_rfl) ?_)
    refine (has_ret AD CD (without l0 l1) x _ SD).mono ?_
    rintro e w9 ⟨rfl, k9⟩
    rw [HD.out]
    have s0' := s0.below k9
    have s1' := s1.below k9
    have SB' := SB.below k9
    have SC' := SC.below k9
    have SD' := SD.below k9
    have Xb' := IdG.Box.on Xb k9
    have kb' := kb.trans (k9.mono kb.size)
    clear s0 s1 SB SC SD Xb kb k9
    have s0 := s0'
    have s1 := s1'
    have SB := SB'
    have SC := SC'
    have SD := SD'
    have Xb := Xb'
    have kb := kb'
    clear s0' s1' SB' SC' SD' Xb' kb'
    go_wp2_with fail
    refine (rises_ret AB CB (both l0 l1) _ SB).mono ?_
    rintro e w10 ⟨rfl, k10⟩
    rw [rB.out]
    have s0' := s0.below k10
    have s1' := s1.below k10
    have SB' := SB.below k10
    have SC' := SC.below k10
    have SD' := SD.below k10
    have Xb' := IdG.Box.on Xb k10
    have kb' := kb.trans (k10.mono kb.size)
    clear s0 s1 SB SC SD Xb kb k10
    have s0 := s0'
    have s1 := s1'
    have SB := SB'
    have SC := SC'
    have SD := SD'
    have Xb := Xb'
    have kb := kb'
    clear s0' s1' SB' SC' SD' Xb' kb'
    go_wp2_with fail
    refine (rises_ret AC CC (common l0 l1) _ SC).mono ?_
    rintro e w11 ⟨rfl, k11⟩
    rw [rC.out]
    have s0' := s0.below k11
    have s1' := s1.below k11
    have SB' := SB.below k11
    have SC' := SC.below k11
    have SD' := SD.below k11
    have Xb' := IdG.Box.on Xb k11
    have kb' := kb.trans (k11.mono kb.size)
    clear s0 s1 SB SC SD Xb kb k11
    have s0 := s0'
    have s1 := s1'
    have SB := SB'
    have SC := SC'
    have SD := SD'
    have Xb := Xb'
    have kb := kb'
    clear s0' s1' SB' SC' SD' Xb' kb'
    go_wp2_with fail
    refine (rises_ret AD CD (without l0 l1) _ SD).mono ?_
    rintro e w12 ⟨rfl, k12⟩
    rw [rD.out]
    have s0' := s0.below k12
    have s1' := s1.below k12
    have SB' := SB.below k12
    have SC' := SC.below k12
    have SD' := SD.below k12
    have Xb' := IdG.Box.on Xb k12
    have kb' := kb.trans (k12.mono kb.size)
    clear s0 s1 SB SC SD Xb kb k12
    have s0 := s0'
    have s1 := s1'
    have SB := SB'
    have SC := SC'
    have SD := SD'
    have Xb := Xb'
    have kb := kb'
    clear s0' s1' SB' SC' SD' Xb' kb'
    go_wp2_with fail
    refine (sort_ret a1 c1 l1 _ s1 (by omega)).mono ?_
    rintro e w13 h13
    obtain ⟨AE, CE, rfl, SE, k13⟩ := IdG.NewI.s h13
    clear h13
    have s0' := s0.below k13
    have s1' := s1.below k13
    have SB' := SB.below k13
    have SC' := SC.below k13
    have SD' := SD.below k13
    have Xb' := IdG.Box.on Xb k13
    have kb' := kb.trans (k13.mono kb.size)
    clear s0 s1 SB SC SD Xb kb k13
    have s0 := s0'
    have s1 := s1'
    have SB := SB'
    have SC := SC'
    have SD := SD'
    have Xb := Xb'
    have kb := kb'
    clear s0' s1' SB' SC' SD' Xb' kb'
    have i1 : (((both l0 l1).length : Int) == (IdM.sort l1).length + (without l0 l1).length) = true := by have := b1.out; simp; omega
    go_wp2_with fail
    refine (sort_ret a0 c0 l0 _ s0 (by omega)).mono ?_
    rintro e w14 h14
    obtain ⟨AG, CG, rfl, SG, k14⟩ := IdG.NewI.s h14
    clear h14
    have s0' := s0.below k14
    have s1' := s1.below k14
    have SB' := SB.below k14
    have SC' := SC.below k14
    have SD' := SD.below k14
    have SE' := SE.below k14
    have Xb' := IdG.Box.on Xb k14
    have kb' := kb.trans (k14.mono kb.size)
    clear s0 s1 SB SC SD SE Xb kb k14
    have s0 := s0'
    have s1 := s1'
    have SB := SB'
    have SC := SC'
    have SD := SD'
    have SE := SE'
    have Xb := Xb'
    have kb := kb'
    clear s0' s1' SB' SC' SD' SE' Xb' kb'
    have i2 : (((IdM.sort l0).length : Int) == (common l0 l1).length + (without l0 l1).length) = true := by have := b2.out; simp; omega
    go_wp2_with fail
    go_ret
    exact ⟨rfl, kb⟩
  · go_wp2_with (refine gload _ rfl _ rfl x Xb (by kernel_rfl) ?_)
    refine (has_ret AC CC (common l0 l1) x _ SC).mono ?_
    rintro e w8 ⟨rfl, k8⟩
    rw [HC.out]
    have s0' := s0.below k8
    have s1' := s1.below k8
    have SB' := SB.below k8
    have SC' := SC.below k8
    have SD' := SD.below k8
    have Xb' := IdG.Box.on Xb k8
    have kb' := kb.trans (k8.mono kb.size)
    clear s0 s1 SB SC SD Xb kb k8
    have s0 := s0'
    have s1 := s1'
    have SB := SB'
    have SC := SC'
    have SD := SD'
    have Xb := Xb'
    have kb := kb'
    clear s0' s1' SB' SC' SD' Xb' kb'
    go_wp2_with (refine gload _ rfl _ rfl x Xb (by kernel_rfl) ?_)
    refine (has_ret AD CD (without l0 l1) x _ SD).mono ?_
    rintro e w9 ⟨rfl, k9⟩
    rw [HD.out]
    have s0' := s0.below k9
    have s1' := s1.below k9
    have SB' := SB.below k9
    have SC' := SC.below k9
    have SD' := SD.below k9
    have Xb' := IdG.Box.on Xb k9
    have kb' := kb.trans (k9.mono kb.size)
    clear s0 s1 SB SC SD Xb kb k9
    have s0 := s0'
    have s1 := s1'
    have SB := SB'
    have SC := SC'
    have SD := SD'
    have Xb := Xb'
    have kb := kb'
    clear s0' s1' SB' SC' SD' Xb' kb'
    go_wp2_with fail
    refine (rises_ret AB CB (both l0 l1) _ SB).mono ?_
    rintro e w10 ⟨rfl, k10⟩
    rw [rB.out]
    have s0' := s0.below k10
    have s1' := s1.below k10
    have SB' := SB.below k10
    have SC' := SC.below k10
    have SD' := SD.below k10
    have Xb' := IdG.Box.on Xb k10
    have kb' := kb.trans (k10.mono kb.size)
    clear s0 s1 SB SC SD Xb kb k10
    have s0 := s0'
    have s1 := s1'
    have SB := SB'
    have SC := SC'
    have SD := SD'
    have Xb := Xb'
    have kb := kb'
    clear s0' s1' SB' SC' SD' Xb' kb'
    go_wp2_with fail
    refine (rises_ret AC CC (common l0 l1) _ SC).mono ?_
    rintro e w11 ⟨rfl, k11⟩
    rw [rC.out]
    have s0' := s0.below k11
    have s1' := s1.below k11
    have SB' := SB.below k11
    have SC' := SC.below k11
    have SD' := SD.below k11
    have Xb' := IdG.Box.on Xb k11
    have kb' := kb.trans (k11.mono kb.size)
    clear s0 s1 SB SC SD Xb kb k11
    have s0 := s0'
    have s1 := s1'
    have SB := SB'
    have SC := SC'
    have SD := SD'
    have Xb := Xb'
    have kb := kb'
    clear s0' s1' SB' SC' SD' Xb' kb'
    go_wp2_with fail
    refine (rises_ret AD CD (without l0 l1) _ SD).mono ?_
    rintro e w12 ⟨rfl, k12⟩
    rw [rD.out]
    have s0' := s0.below k12
    have s1' := s1.below k12
    have SB' := SB.below k12
    have SC' := SC.below k12
    have SD' := SD.below k12
    have Xb' := IdG.Box.on Xb k12
    have kb' := kb.trans (k12.mono kb.size)
    clear s0 s1 SB SC SD Xb kb k12
    have s0 := s0'
    have s1 := s1'
    have SB := SB'
    have SC := SC'
    have SD := SD'
    have Xb := Xb'
    have kb := kb'
    clear s0' s1' SB' SC' SD' Xb' kb'
    go_wp2_with fail
    refine (sort_ret a1 c1 l1 _ s1 (by omega)).mono ?_
    rintro e w13 h13
    obtain ⟨AE, CE, rfl, SE, k13⟩ := IdG.NewI.s h13
    clear h13
    have s0' := s0.below k13
    have s1' := s1.below k13
    have SB' := SB.below k13
    have SC' := SC.below k13
    have SD' := SD.below k13
    have Xb' := IdG.Box.on Xb k13
    have kb' := kb.trans (k13.mono kb.size)
    clear s0 s1 SB SC SD Xb kb k13
    have s0 := s0'
    have s1 := s1'
    have SB := SB'
    have SC := SC'
    have SD := SD'
    have Xb := Xb'
    have kb := kb'
    clear s0' s1' SB' SC' SD' Xb' kb'
    have i1 : (((both l0 l1).length : Int) == (IdM.sort l1).length + (without l0 l1).length) = true := by have := b1.out; simp; omega
    go_wp2_with fail
    refine (sort_ret a0 c0 l0 _ s0 (by omega)).mono ?_
    rintro e w14 h14
    obtain ⟨AG, CG, rfl, SG, k14⟩ := IdG.NewI.s h14
    clear h14
    have s0' := s0.below k14
    have s1' := s1.below k14
    have SB' := SB.below k14
    have SC' := SC.below k14
    have SD' := SD.below k14
    have SE' := SE.below k14
    have Xb' := IdG.Box.on Xb k14
    have kb' := kb.trans (k14.mono kb.size)
    clear s0 s1 SB SC SD SE Xb kb k14
    have s0 := s0'
    have s1 := s1'
    have SB := SB'
    have SC := SC'
    have SD := SD'
    have SE := SE'
    have Xb := Xb'
    have kb := kb'
    clear s0' s1' SB' SC' SD' SE' Xb' kb'
    have i2 : (((IdM.sort l0).length : Int) == (common l0 l1).length + (without l0 l1).length) = true := by have := b2.out; simp; omega
    go_wp2_with fail
    go_ret
    exact ⟨rfl, kb⟩

theorem own : ownKnob Try.prog.godebug = none := by kernel_rfl
theorem laidOut : laidOutB Try.prog = true := by kernel_rfl
set_option linter.unusedVariables false in
set_option maxRecDepth 100000 in
theorem lifted (os : Os) (started : os.Started) (H : Type) (enc : TypeId × Value → H) :
    ReturnsInHanded {} Try.checked os 5 .any (Rows.idsSetsSpec.pre6 enc Try.prog Try.f5 Rows.idsSetsRow.domain false) (Rows.idsSetsSpec.post enc Try.prog Try.f5 false true false false) := by
  refine returnsInHanded_of_change (C := Try.checked) own started (by kernel_rfl) Try.func5
    (ChangeSpec.witness6 (enc := enc) (C := Try.checked) false ⟨#[], #[.slice none 0 0, .slice none 0 0, .agg #[.int .u8 0, .int .u8 0, .int .u8 0, .int .u8 0, .int .u8 0, .int .u8 0, .int .u8 0, .int .u8 0, .int .u8 0, .int .u8 0, .int .u8 0, .int .u8 0, .int .u8 0, .int .u8 0, .int .u8 0, .int .u8 0, .int .u8 0, .int .u8 0, .int .u8 0, .int .u8 0, .int .u8 0, .int .u8 0, .int .u8 0, .int .u8 0, .int .u8 0, .int .u8 0, .int .u8 0, .int .u8 0, .int .u8 0, .int .u8 0, .int .u8 0, .int .u8 0]], []⟩ 8 (by kernel_rfl) (by kernel_rfl) (by kernel_rfl) (by kernel_rfl)) ?_
  intro W base args ds gs before hval0 hW hcnd _
  have hval : ∀ (j : Nat) t v, Try.f5.params[j]? = some t → args[j]? = some v → Value.okWide Try.prog W .any base t v := hval0
  have hW' := hW
  obtain ⟨p, q, hA0, hV, rfl, hfz, hnd⟩ := hW
  have hA : DataW.TrodAll enc Try.prog W 0 (fun _ => true) true Try.f5.params.toList args.toList ds p := hA0
  rw [Try.params5] at hA hval
  obtain ⟨v0, vs0, d0, ds0, p0, q0, hargs, rfl, rfl, h0, r0⟩ := trodAll_cons hA
  obtain ⟨v1, vs1, d1, ds1, p1, q1, rfl, rfl, rfl, h1, r1⟩ := trodAll_cons r0
  obtain ⟨v2, vs2, d2, ds2, p2, q2, rfl, rfl, rfl, h2, r2⟩ := trodAll_cons r1
  obtain ⟨rfl, rfl, rfl⟩ := trodAll_nil r2
  obtain rfl : args = #[v0, v1, v2] := by cases args; simp_all
  obtain ⟨rfl, rfl⟩ := trodVars_none hV
  have k0 := h0
  have lt0 : ∀ x ∈ p0, x.block < W.heap.size := by obtain ⟨m, hm⟩ := k0; exact DataW.trod_lt m _ _ _ hm
  obtain ⟨a0, cap0, l0, rfl, w0⟩ := OpenI.open_ids Try.underlying22 Try.underlying24 Try.underlying5 (by kernel_rfl) (by kernel_rfl) (hval 0 22 v0 rfl rfl) h0
  have k1 := h1
  have lt1 : ∀ x ∈ p1, x.block < W.heap.size := by obtain ⟨m, hm⟩ := k1; exact DataW.trod_lt m _ _ _ hm
  obtain ⟨a1, cap1, l1, rfl, w1⟩ := OpenI.open_ids Try.underlying22 Try.underlying24 Try.underlying5 (by kernel_rfl) (by kernel_rfl) (hval 1 22 v1 rfl rfl) h1
  have k2 := h2
  have lt2 : ∀ x ∈ p2, x.block < W.heap.size := by obtain ⟨m, hm⟩ := k2; exact DataW.trod_lt m _ _ _ hm
  obtain ⟨a2, rfl⟩ := OpenI.open_id Try.underlying24 Try.underlying5 (by kernel_rfl) (by kernel_rfl) (hval 2 24 v2 rfl rfl) h2
  clear hA0 hval0
  refine (walk a0 cap0 l0 a1 cap1 l1 a2 W w0 w1).mono fun e W' ⟨he, bel⟩ => ?_
  subst he
  exact ⟨_, rfl, _, _, _, [], _, [], hW', trodAll_mk1 (shut_bool Try.underlying4 _), (trodAll_cons_mk (Below.trod laidOut (by kernel_rfl) (of_decide_eq_true (by kernel_rfl)) k0 bel lt0) (trodAll_cons_mk (Below.trod laidOut (by kernel_rfl) (of_decide_eq_true (by kernel_rfl)) k1 bel lt1) (trodAll_cons_mk (Below.trod laidOut (by kernel_rfl) (of_decide_eq_true (by kernel_rfl)) k2 bel lt2) trodAll_mk0))), rfl, bel.frame _, fun h => by cases h⟩

theorem over : Rows.idsSetsRow.holds Try.pinned (OpenSpec.ofChange Rows.idsSetsSpec) :=
  OpenClaim.holds_of_wide 5 Try.f5 rfl rfl rfl rfl rfl rfl rfl ⟨rfl, rfl, rfl, rfl, rfl⟩ rfl rfl rfl rfl rfl (by kernel_rfl) Try.func5 (by kernel_rfl)
    (of_decide_eq_true (by kernel_rfl)) (by unfold Func.isWrapper; first | (rw [if_pos (by decide +kernel)]; kernel_rfl) | (rw [if_neg (by decide +kernel)]; exact ⟨rfl, rfl⟩))
    (fun os started H enc _ => lifted os started H enc)

theorem proved : Rows.IdsSetsSaid := over
end Go.Proofs.Ytbggegpbcgcknaa.idsSets
