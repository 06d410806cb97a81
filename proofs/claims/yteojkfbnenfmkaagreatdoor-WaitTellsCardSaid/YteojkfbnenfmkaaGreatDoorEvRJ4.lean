/- What the document's Event of package state returns: a contract. | What the document's Key of package ops returns: a contract. | What the document's May of package ops returns: a contract. | What Less (of ids, and of the document's answers) and order return: contracts. -/
import Derived.Test.YteojkfbnenfmkaaGreatDoorRowFJ7
import Derived.Test.YteojkfbnenfmkaaGreatDoorIdMJ3
import Derived.Test.YteojkfbnenfmkaaGreatDoorCmSJ3
import Derived.Test.YteojkfbnenfmkaaGreatDoorOpsC
import Derived.Test.YteojkfbnenfmkaaGreatDoorArrEqJ2
namespace Go.Proofs.YteojkfbnenfmkaaGreatDoor.StR
set_option maxRecDepth 100000
open Go Go.RowKit Byt StM StW

set_option maxHeartbeats 4000000 in
theorem event_ret (v : Ev) (w : World) : Calls Tryz.prog 47 #[.agg (ec v)] w fun e w' => e = .returned (.bool (eventB v.node v.seq)) ∧ Below w.heap.size w w' := by
  have R : Cel.Box EE (w.alloc (.cells (ec v) 24)) w.heap.size v := Cel.Box.new w v _
  have kb := below_alloc w (.cells (ec v) 24)
  obtain ⟨c0, c1⟩ := ev_cells R
  clear R
  obtain ⟨r, hr⟩ : ∃ r, eventB v.node v.seq = r := ⟨_, rfl⟩
  have hn : r = eventB v.node v.seq := hr.symm
  rw [hr]
  unfold eventB at hn
  clear hr
  obtain ⟨n, hnn⟩ : ∃ n, v.node = n := ⟨_, rfl⟩
  obtain ⟨s, hs⟩ : ∃ s, v.seq = s := ⟨_, rfl⟩
  rw [hnn] at c0 hn
  rw [hs] at c1 hn
  clear hnn hs
  have HN := aside hn
  clear hn
  have hw : ¬ 0 ≤ n ∨ (0 ≤ n ∧ (¬ n < 8 ∨ (n < 8 ∧ (¬ 1 ≤ s ∨ 1 ≤ s)))) := by omega
  rcases hw with p2 | ⟨p2, p3 | ⟨p3, p4 | p4⟩⟩
  · have HR : Hid (r = false) := aside (by rw [HN.out]; simp; omega)
    clear HN
    go_enter Tryz.func47, Tryz.ntmps47
    go_wp2
    go_ret
    exact ⟨StW.ret_bool HR.out.symm, kb⟩
  · have HR : Hid (r = false) := aside (by rw [HN.out]; simp; omega)
    clear HN
    go_enter Tryz.func47, Tryz.ntmps47
    go_wp2
    go_ret
    exact ⟨StW.ret_bool HR.out.symm, kb⟩
  · have HR : Hid (r = false) := aside (by rw [HN.out]; simp; omega)
    clear HN
    go_enter Tryz.func47, Tryz.ntmps47
    go_wp2
    go_ret
    exact ⟨StW.ret_bool HR.out.symm, kb⟩
  · have HR : Hid (r = decide (s ≤ 1048576)) := aside (by rw [HN.out]; simp [p2, p3, p4])
    clear HN
    go_enter Tryz.func47, Tryz.ntmps47
    go_wp2
    go_ret
    exact ⟨StW.ret_bool HR.out.symm, kb⟩
end Go.Proofs.YteojkfbnenfmkaaGreatDoor.StR
namespace Go.Proofs.YteojkfbnenfmkaaGreatDoor.OpsR
set_option maxRecDepth 100000
open Go Go.RowKit Byt OpsM OpsK

set_option maxHeartbeats 2000000 in
theorem key_any (s : ByteArray) (hs : s.size ≤ maxLen) (w : World) :
    Calls Tryz.prog 67 #[.string s] w fun e w' => e = .returned (.bool (keyL (bytesL s))) ∧ w = w' := by
  unfold maxLen at hs
  have hl := bytesL_length s
  have HL := aside hl
  clear hl
  go_enter Tryz.func67, Tryz.ntmps67
  go_wp2
  go_loop [3] (fun i => ∃ k : Nat, k ≤ s.size ∧ i = .int .i64 k ∧ Hid (((bytesL s).take k).all signB = true)) (fun i => s.size - (intOf i).toNat)
  case atStart => exact ⟨0, Nat.zero_le _, rfl, aside (by simp)⟩
  case round =>
    obtain ⟨k, hk, rfl, HA⟩ := hrel
    by_cases hlt : k < s.size
    · have hb := byte_at s k hlt
      have hB : B (s[k].toNat : Int) := by have := s[k].toNat_lt; unfold B; omega
      have hp := parts hB
      have hB0 : 0 ≤ (s[k].toNat : Int) := by omega
      rcases hp with ⟨h1, hs⟩ | ⟨h1, h2, hs⟩ | ⟨h1, h2, hs⟩ | ⟨h1, h2, hs⟩ | ⟨h1, hs⟩
      · rw [← hb] at hs
        have HS := aside hs
        clear hs hb hB
        go_wp2
        go_ret
        exact ⟨ret_bool (keyL_no (by rw [HL.out]; exact hlt) HS.out).symm, rfl⟩
      · rw [← hb] at hs
        have HS := aside hs
        clear hs hb hB
        have d57 : decide ((s[k].toNat : Int) ≤ 57) = true := by simp; omega
        go_wp2
        go_round
        case rel => exact ⟨k + 1, by omega, by go_num, aside (by rw [all_take _ _ (by rw [HL.out]; exact hlt), HA.out, HS.out]; rfl)⟩
        case measure => simp [intOf]; omega
      · rw [← hb] at hs
        have HS := aside hs
        clear hs hb hB
        have d57 : decide ((s[k].toNat : Int) ≤ 57) = false := by simp; omega
        go_wp2
        go_ret
        exact ⟨ret_bool (keyL_no (by rw [HL.out]; exact hlt) HS.out).symm, rfl⟩
      · rw [← hb] at hs
        have HS := aside hs
        clear hs hb hB
        have d122 : decide ((s[k].toNat : Int) ≤ 122) = true := by simp; omega
        go_wp2
        go_round
        case rel => exact ⟨k + 1, by omega, by go_num, aside (by rw [all_take _ _ (by rw [HL.out]; exact hlt), HA.out, HS.out]; rfl)⟩
        case measure => simp [intOf]; omega
      · rw [← hb] at hs
        have HS := aside hs
        clear hs hb hB
        have d122 : decide ((s[k].toNat : Int) ≤ 122) = false := by simp; omega
        have d57 : decide ((s[k].toNat : Int) ≤ 57) = false := by simp; omega
        go_wp2
        go_ret
        exact ⟨ret_bool (keyL_no (by rw [HL.out]; exact hlt) HS.out).symm, rfl⟩
    · have hall := HA.out
      rw [List.take_of_length_le (by rw [HL.out]; omega)] at hall
      by_cases h1 : s.size < 1
      · have HR := aside (keyL_out (l := bytesL s) (by rw [HL.out]; omega))
        clear hall
        go_wp2
        go_ret
        exact ⟨ret_bool HR.out.symm, rfl⟩
      · by_cases h8 : 8 < s.size
        · have HR := aside (keyL_out (l := bytesL s) (by rw [HL.out]; omega))
          clear hall
          go_wp2
          go_ret
          refine ⟨ret_bool ?_, rfl⟩
          rw [HR.out]
          simp
          omega
        · have HR := aside (keyL_all (l := bytesL s) (by rw [HL.out]; omega) hall)
          clear hall
          go_wp2
          go_ret
          refine ⟨ret_bool ?_, rfl⟩
          rw [HR.out]
          simp
          omega
theorem key (s : ByteArray) (hs : s.size ≤ 1099511627776) (w : World) :
    Calls Tryz.prog 67 #[.string s] w fun e w' => e = .returned (.bool (keyL (bytesL s))) ∧ w = w' := key_any s (by unfold maxLen; omega) w
end Go.Proofs.YteojkfbnenfmkaaGreatDoor.OpsR
namespace Go.Proofs.YteojkfbnenfmkaaGreatDoor.OpsR
set_option maxRecDepth 100000
open Go Go.RowKit Go.Sort Byt OpsM OpsK OpsW OpsC

set_option maxRecDepth 100000 in
set_option maxHeartbeats 8000000 in
theorem may_no (o : Opn) (w : World) (hf : Fit o) (h1 : o.key.size ≤ 1099511627776) (h2 : o.elem.size ≤ 1099511627776) (hb : keyL (bytesL o.key) = false) :
    Calls Tryz.prog 48 #[.agg (opc o)] w fun e w' => e = .returned (.bool (mayO o)) ∧ Below w.heap.size w w' := by
  have O1 := OpAt.new w o 27
  have c0 := O1.kind
  have c1 := O1.key
  have c2 := O1.elem
  have c3 := O1.n
  have ck := key o.key h1
  have ce := key o.elem h2
  obtain ⟨n1, n2⟩ := hf.n
  obtain ⟨m1, m2⟩ := hf.kind
  rw [hb] at ck
  have HR := aside (mayO_key hb)
  obtain ⟨r, hr⟩ : ∃ r, mayO o = r := ⟨_, rfl⟩
  rw [hr] at HR ⊢
  clear hr hb h1 h2 hf
  clear m1 m2 n1 n2
  go_enter Tryz.func48, Tryz.ntmps48
  go_wp2_with (first | (refine (ck _).mono ?_; rintro e w' ⟨rfl, rfl⟩; clear ck) | (refine (ce _).mono ?_; rintro e w' ⟨rfl, rfl⟩; clear ce))
  go_ret
  exact ⟨ret_bool HR.out.symm, below_alloc _ _⟩
set_option maxRecDepth 100000 in
set_option maxHeartbeats 8000000 in
theorem may0 (o : Opn) (w : World) (hf : Fit o) (h1 : o.key.size ≤ 1099511627776) (h2 : o.elem.size ≤ 1099511627776) (hb : keyL (bytesL o.key) = true) (hk : o.kind = 0) :
    Calls Tryz.prog 48 #[.agg (opc o)] w fun e w' => e = .returned (.bool (mayO o)) ∧ Below w.heap.size w w' := by
  have O1 := OpAt.new w o 27
  have c0 := O1.kind
  have c1 := O1.key
  have c2 := O1.elem
  have c3 := O1.n
  have ck := key o.key h1
  have ce := key o.elem h2
  obtain ⟨n1, n2⟩ := hf.n
  obtain ⟨m1, m2⟩ := hf.kind
  rw [hb] at ck
  have hm := (mayO_rest hb).trans (restB0 hk)
  rw [hk] at c0
  clear hb h1 h2 hf hk m1 m2
  obtain ⟨r, hr⟩ : ∃ r, mayO o = r := ⟨_, rfl⟩
  obtain ⟨be, hbe⟩ : ∃ b, keyL (bytesL o.elem) = b := ⟨_, rfl⟩
  rw [hbe] at ce
  rw [hr] at hm ⊢
  clear hr hbe
  obtain ⟨n, hn⟩ : ∃ n, o.n = n := ⟨_, rfl⟩
  rw [hn] at c3 hm n1 n2
  clear hn
  by_cases ha : n < -1048576
  · have HR := aside (hm.trans (stepB_no (by omega)))
    clear hm
    go_enter Tryz.func48, Tryz.ntmps48
    go_wp2_with (first | (refine (ck _).mono ?_; rintro e w' ⟨rfl, rfl⟩; clear ck) | (refine (ce _).mono ?_; rintro e w' ⟨rfl, rfl⟩; clear ce))
    go_ret
    exact ⟨ret_bool HR.out.symm, below_alloc _ _⟩
  · by_cases hb : 1048576 < n
    · have HR := aside (hm.trans (stepB_no (by omega)))
      clear hm
      go_enter Tryz.func48, Tryz.ntmps48
      go_wp2_with (first | (refine (ck _).mono ?_; rintro e w' ⟨rfl, rfl⟩; clear ck) | (refine (ce _).mono ?_; rintro e w' ⟨rfl, rfl⟩; clear ce))
      go_ret
      exact ⟨ret_bool HR.out.symm, below_alloc _ _⟩
    · by_cases h0 : n = 0
      · subst h0
        have HR := aside (hm.trans (stepB_no (by omega)))
        clear hm
        go_enter Tryz.func48, Tryz.ntmps48
        go_wp2_with (first | (refine (ck _).mono ?_; rintro e w' ⟨rfl, rfl⟩; clear ck) | (refine (ce _).mono ?_; rintro e w' ⟨rfl, rfl⟩; clear ce))
        go_ret
        exact ⟨ret_bool HR.out.symm, below_alloc _ _⟩
      · have t0 : (n != 0) = true := by simpa using h0
        by_cases he : bytesL o.elem = []
        · have HR := aside (hm.trans (stepB_iff.2 ⟨by omega, by omega, h0, he⟩))
          have e1 := empty_yes he
          have e3 : o.elem.toList.isEmpty = true := by rw [e1]; rfl
          clear he h0 hm
          go_enter Tryz.func48, Tryz.ntmps48
          go_wp2_with (first | (refine (ck _).mono ?_; rintro e w' ⟨rfl, rfl⟩; clear ck) | (refine (ce _).mono ?_; rintro e w' ⟨rfl, rfl⟩; clear ce))
          go_ret
          exact ⟨ret_bool HR.out.symm, below_alloc _ _⟩
        · have HR := aside (hm.trans (stepB_no (fun q => he q.2.2.2)))
          have e1 := empty_no he
          have e3 : o.elem.toList.isEmpty = false := by simpa using e1
          clear he h0 hm
          go_enter Tryz.func48, Tryz.ntmps48
          go_wp2_with (first | (refine (ck _).mono ?_; rintro e w' ⟨rfl, rfl⟩; clear ck) | (refine (ce _).mono ?_; rintro e w' ⟨rfl, rfl⟩; clear ce))
          go_ret
          exact ⟨ret_bool HR.out.symm, below_alloc _ _⟩
set_option maxRecDepth 100000 in
set_option maxHeartbeats 8000000 in
theorem may1 (o : Opn) (w : World) (hf : Fit o) (h1 : o.key.size ≤ 1099511627776) (h2 : o.elem.size ≤ 1099511627776) (hb : keyL (bytesL o.key) = true) (hk : o.kind = 1 ∨ o.kind = 2 ∨ o.kind = 3) :
    Calls Tryz.prog 48 #[.agg (opc o)] w fun e w' => e = .returned (.bool (mayO o)) ∧ Below w.heap.size w w' := by
  have O1 := OpAt.new w o 27
  have c0 := O1.kind
  have c1 := O1.key
  have c2 := O1.elem
  have c3 := O1.n
  have ck := key o.key h1
  have ce := key o.elem h2
  obtain ⟨n1, n2⟩ := hf.n
  obtain ⟨m1, m2⟩ := hf.kind
  rw [hb] at ck
  have hm := (mayO_rest hb).trans (restB1 hk)
  obtain ⟨r, hr⟩ : ∃ r, mayO o = r := ⟨_, rfl⟩
  obtain ⟨be, hbe⟩ : ∃ b, keyL (bytesL o.elem) = b := ⟨_, rfl⟩
  rw [hbe] at ce
  rw [hr] at hm ⊢
  obtain ⟨n, hn⟩ : ∃ n, o.n = n := ⟨_, rfl⟩
  have hm2 : r = (be && decide (n = 0)) := by rw [hm]; unfold elemB; rw [hbe, hn]
  rw [hn] at c3 n1 n2
  have HR := aside hm2
  clear hb h1 h2 hf hr hbe hm hm2 hn m1 m2
  rcases hk with hk | hk | hk
  all_goals
    rw [hk] at c0
    clear hk
    cases be with
    | false =>
      have HR : Hid (r = false) := HR.out
      go_enter Tryz.func48, Tryz.ntmps48
      go_wp2_with (first | (refine (ck _).mono ?_; rintro e w' ⟨rfl, rfl⟩; clear ck) | (refine (ce _).mono ?_; rintro e w' ⟨rfl, rfl⟩; clear ce))
      go_ret
      exact ⟨ret_bool HR.out.symm, below_alloc _ _⟩
    | true =>
      by_cases h0 : n = 0
      · have t0 : (n == 0) = true := by simpa using h0
        have HR : Hid (r = true) := aside (by rw [HR.out, h0]; rfl)
        clear h0
        go_enter Tryz.func48, Tryz.ntmps48
        go_wp2_with (first | (refine (ck _).mono ?_; rintro e w' ⟨rfl, rfl⟩; clear ck) | (refine (ce _).mono ?_; rintro e w' ⟨rfl, rfl⟩; clear ce))
        go_ret
        exact ⟨ret_bool HR.out.symm, below_alloc _ _⟩
      · have t0 : (n == 0) = false := by simpa using h0
        have HR : Hid (r = false) := aside (by rw [HR.out]; simpa using h0)
        clear h0
        go_enter Tryz.func48, Tryz.ntmps48
        go_wp2_with (first | (refine (ck _).mono ?_; rintro e w' ⟨rfl, rfl⟩; clear ck) | (refine (ce _).mono ?_; rintro e w' ⟨rfl, rfl⟩; clear ce))
        go_ret
        exact ⟨ret_bool HR.out.symm, below_alloc _ _⟩
set_option maxRecDepth 100000 in
set_option maxHeartbeats 8000000 in
theorem mayN (o : Opn) (w : World) (hf : Fit o) (h1 : o.key.size ≤ 1099511627776) (h2 : o.elem.size ≤ 1099511627776) (hb : keyL (bytesL o.key) = true) (hk : o.kind < 0 ∨ 3 < o.kind) :
    Calls Tryz.prog 48 #[.agg (opc o)] w fun e w' => e = .returned (.bool (mayO o)) ∧ Below w.heap.size w w' := by
  have O1 := OpAt.new w o 27
  have c0 := O1.kind
  have c1 := O1.key
  have c2 := O1.elem
  have c3 := O1.n
  have ck := key o.key h1
  have ce := key o.elem h2
  obtain ⟨n1, n2⟩ := hf.n
  obtain ⟨m1, m2⟩ := hf.kind
  rw [hb] at ck
  have hm := (mayO_rest hb).trans (restBN hk)
  obtain ⟨r, hr⟩ : ∃ r, mayO o = r := ⟨_, rfl⟩
  rw [hr] at hm ⊢
  have HR := aside hm
  obtain ⟨k, hk'⟩ : ∃ k, o.kind = k := ⟨_, rfl⟩
  rw [hk'] at c0 hk
  have t0 : (k == 0) = false := by simp; omega
  have t1 : (k == 1) = false := by simp; omega
  have t2 : (k == 2) = false := by simp; omega
  have t3 : (k == 3) = false := by simp; omega
  clear hb h1 h2 hf hr hm hk hk' m1 m2 n1 n2
  go_enter Tryz.func48, Tryz.ntmps48
  go_wp2_with (first | (refine (ck _).mono ?_; rintro e w' ⟨rfl, rfl⟩; clear ck) | (refine (ce _).mono ?_; rintro e w' ⟨rfl, rfl⟩; clear ce))
  go_ret
  exact ⟨ret_bool HR.out.symm, below_alloc _ _⟩
/-- What the document's May returns. -/
theorem may (o : Opn) (w : World) (hf : Fit o) (h1 : o.key.size ≤ 1099511627776) (h2 : o.elem.size ≤ 1099511627776) :
    Calls Tryz.prog 48 #[.agg (opc o)] w fun e w' => e = .returned (.bool (mayO o)) ∧ Below w.heap.size w w' := by
  cases hb : keyL (bytesL o.key) with
  | false => exact may_no o w hf h1 h2 hb
  | true =>
    by_cases h0 : o.kind = 0
    · exact may0 o w hf h1 h2 hb h0
    · by_cases h3 : o.kind = 1 ∨ o.kind = 2 ∨ o.kind = 3
      · exact may1 o w hf h1 h2 hb h3
      · exact mayN o w hf h1 h2 hb (by omega)
end Go.Proofs.YteojkfbnenfmkaaGreatDoor.OpsR
namespace Go.Proofs.YteojkfbnenfmkaaGreatDoor.IdC
set_option maxRecDepth 100000
open Go Go.Sort Go.RowKit IdM Byt IdW

set_option maxHeartbeats 1000000 in
theorem less_ret (x y : Idn) (w : World) : Calls Tryz.prog 85 #[.agg (cs x), .agg (cs y)] w fun e w' => e = .returned (.bool (less x y)) ∧ Grew w w' := by
  have s1 := cs_size x
  have s2 := cs_size y
  have B1 : Box ((w.alloc (.cells (cs x) 43)).alloc (.cells (cs y) 43)) w.heap.size x := (Box.new w x _).alloc _
  have B2 : Box ((w.alloc (.cells (cs x) 43)).alloc (.cells (cs y) 43)) (w.heap.size + 1) y := by
    have := Box.new (w.alloc (.cells (cs x) 43)) y 43
    simpa using this
  have G : Grew w ((w.alloc (.cells (cs x) 43)).alloc (.cells (cs y) 43)) := ((Grew.refl w).alloc _).alloc _
  obtain ⟨r, hr0⟩ : ∃ r, less x y = r := ⟨_, rfl⟩
  rw [hr0]
  have hr := aside hr0
  clear hr0
  go_enter Tryz.func85, Tryz.ntmps85
  go_wp2_with fail
  go_loopw [6] (fun i wr => ∃ k : Nat, k ≤ 32 ∧ i = .int .i64 k ∧ Hid (∀ j, j < k → x.1.getD j 0 = y.1.getD j 0) ∧ Box wr w.heap.size x ∧ Box wr (w.heap.size + 1) y ∧ Grew w wr) (fun i _ => 32 - (intOf i).toNat)
  case atStart => exact ⟨0, Nat.zero_le _, rfl, aside (fun j hj => absurd hj (Nat.not_lt_zero j)), B1, B2, G⟩
  case round =>
    clear B1 B2 G
    obtain ⟨k, hk, rfl, he, B1, B2, G⟩ := hrel
    by_cases hlt : k < 32
    · have c1 := B1.cell k hlt
      have c2 := B2.cell k hlt
      obtain ⟨a, ha⟩ : ∃ a, x.1.getD k 0 = a := ⟨_, rfl⟩
      obtain ⟨b, hb⟩ : ∃ b, y.1.getD k 0 = b := ⟨_, rfl⟩
      rw [ha] at c1
      rw [hb] at c2
      have HA := aside ha
      have HB := aside hb
      clear ha hb
      have p0 : (k : Int) < 32 := by omega
      have o0 : 0 ≤ (k : Int) := by omega
      have m0 : ((k : Int)).toNat = k := by omega
      by_cases hab : a = b
      · subst hab
        go_wp2
        go_quiet (fail)
        go_wp2
        go_roundw
        case rel =>
          refine ⟨k + 1, by omega, by go_num, aside (fun j hj => ?_), B1.drewN _, B2.drewN _, G.drewN _⟩
          by_cases hjk : j = k
          · subst hjk
            rw [HA.out, HB.out]
          · exact he.out j (by omega)
        case measure => simp [intOf]; omega
      · have hne : (a != b) = true := by simpa using hab
        have hl : less x y = decide (a < b) := by
          rw [less_at k hlt he.out (by rw [HA.out, HB.out]; exact hab), HA.out, HB.out]
        rw [hr.out] at hl
        go_wp2
        go_quiet (fail)
        go_wp2
        go_quiet (fail)
        go_wp2
        go_ret
        exact ⟨by rw [hl]; rfl, (G.drewN _).drewN _⟩
    · have hk' : k = 32 := by omega
      have hxy : x = y := Idn_ext_at (fun i hi => he.out i (by omega))
      have hl : less x y = false := by rw [hxy]; exact less_irrefl _
      rw [hr.out] at hl
      go_wp2
      go_ret
      exact ⟨by rw [hl]; rfl, G⟩

set_option maxHeartbeats 1000000 in
theorem rless_ret (x y : Idn) (w : World) : Calls Tryz.prog 66 #[.agg (cs x), .agg (cs y)] w fun e w' => e = .returned (.bool (less x y)) ∧ Grew w w' := by
  have s1 := cs_size x
  have s2 := cs_size y
  have B1 : Box ((w.alloc (.cells (cs x) 43)).alloc (.cells (cs y) 43)) w.heap.size x := (Box.new w x _).alloc _
  have B2 : Box ((w.alloc (.cells (cs x) 43)).alloc (.cells (cs y) 43)) (w.heap.size + 1) y := by
    have := Box.new (w.alloc (.cells (cs x) 43)) y 43
    simpa using this
  have G : Grew w ((w.alloc (.cells (cs x) 43)).alloc (.cells (cs y) 43)) := ((Grew.refl w).alloc _).alloc _
  obtain ⟨r, hr0⟩ : ∃ r, less x y = r := ⟨_, rfl⟩
  rw [hr0]
  have hr := aside hr0
  clear hr0
  go_enter Tryz.func66, Tryz.ntmps66
  go_wp2_with fail
  go_loopw [5] (fun i wr => ∃ k : Nat, k ≤ 32 ∧ i = .int .i64 k ∧ Hid (∀ j, j < k → x.1.getD j 0 = y.1.getD j 0) ∧ Box wr w.heap.size x ∧ Box wr (w.heap.size + 1) y ∧ Grew w wr) (fun i _ => 32 - (intOf i).toNat)
  case atStart => exact ⟨0, Nat.zero_le _, rfl, aside (fun j hj => absurd hj (Nat.not_lt_zero j)), B1, B2, G⟩
  case round =>
    clear B1 B2 G
    obtain ⟨k, hk, rfl, he, B1, B2, G⟩ := hrel
    by_cases hlt : k < 32
    · have c1 := B1.cell k hlt
      have c2 := B2.cell k hlt
      obtain ⟨a, ha⟩ : ∃ a, x.1.getD k 0 = a := ⟨_, rfl⟩
      obtain ⟨b, hb⟩ : ∃ b, y.1.getD k 0 = b := ⟨_, rfl⟩
      rw [ha] at c1
      rw [hb] at c2
      have HA := aside ha
      have HB := aside hb
      clear ha hb
      have p0 : (k : Int) < 32 := by omega
      have o0 : 0 ≤ (k : Int) := by omega
      have m0 : ((k : Int)).toNat = k := by omega
      by_cases hab : a = b
      · subst hab
        go_wp2
        go_quiet (fail)
        go_wp2
        go_roundw
        case rel =>
          refine ⟨k + 1, by omega, by go_num, aside (fun j hj => ?_), B1.drewN _, B2.drewN _, G.drewN _⟩
          by_cases hjk : j = k
          · subst hjk
            rw [HA.out, HB.out]
          · exact he.out j (by omega)
        case measure => simp [intOf]; omega
      · have hne : (a != b) = true := by simpa using hab
        have hl : less x y = decide (a < b) := by
          rw [less_at k hlt he.out (by rw [HA.out, HB.out]; exact hab), HA.out, HB.out]
        rw [hr.out] at hl
        go_wp2
        go_quiet (fail)
        go_wp2
        go_quiet (fail)
        go_wp2
        go_ret
        exact ⟨by rw [hl]; rfl, (G.drewN _).drewN _⟩
    · have hk' : k = 32 := by omega
      have hxy : x = y := Idn_ext_at (fun i hi => he.out i (by omega))
      have hl : less x y = false := by rw [hxy]; exact less_irrefl _
      rw [hr.out] at hl
      go_wp2
      go_ret
      exact ⟨by rw [hl]; rfl, G⟩

set_option maxHeartbeats 1000000 in
theorem order_ret (x y : Idn) (w : World) : Calls Tryz.prog 71 #[.agg (cs x), .agg (cs y)] w fun e w' => e = .returned (.int .i64 (cf x y)) ∧ Grew w w' := by
  have B1 : Box ((w.alloc (.cells (cs x) 43)).alloc (.cells (cs y) 43)) w.heap.size x := (Box.new w x _).alloc _
  have B2 : Box ((w.alloc (.cells (cs x) 43)).alloc (.cells (cs y) 43)) (w.heap.size + 1) y := by
    have := Box.new (w.alloc (.cells (cs x) 43)) y 43
    simpa using this
  have G : Grew w ((w.alloc (.cells (cs x) 43)).alloc (.cells (cs y) 43)) := ((Grew.refl w).alloc _).alloc _
  have heq := fun W => equal W 9998 x y
  by_cases hxy : x = y
  · subst hxy
    have hc : cf x x = 0 := by simp [cf]
    simp only [decide_true] at heq
    rw [hc]
    go_enter Tryz.func71, Tryz.ntmps71
    go_wp2_with (first | (refine wpList_load_box rfl _ rfl _ rfl _ B1 ?_) | (refine wpList_load_box rfl _ rfl _ rfl _ B2 ?_))
    go_ret
    exact ⟨rfl, G⟩
  · simp only [hxy, decide_false] at heq
    cases hl : less x y with
    | true =>
      have hc : cf x y = -1 := by simp [cf, hxy, hl]
      rw [hc]
      go_enter Tryz.func71, Tryz.ntmps71
      go_wp2_with (first | (refine wpList_load_box rfl _ rfl _ rfl _ B1 ?_) | (refine wpList_load_box rfl _ rfl _ rfl _ B2 ?_))
      refine (less_ret x y _).mono ?_
      rintro e w1 ⟨rfl, h1⟩
      rw [hl]
      go_wp2
      go_ret
      exact ⟨rfl, G.trans h1⟩
    | false =>
      have hc : cf x y = 1 := by simp [cf, hxy, hl]
      rw [hc]
      go_enter Tryz.func71, Tryz.ntmps71
      go_wp2_with (first | (refine wpList_load_box rfl _ rfl _ rfl _ B1 ?_) | (refine wpList_load_box rfl _ rfl _ rfl _ B2 ?_))
      refine (less_ret x y _).mono ?_
      rintro e w1 ⟨rfl, h1⟩
      rw [hl]
      go_wp2
      go_ret
      exact ⟨rfl, G.trans h1⟩
end Go.Proofs.YteojkfbnenfmkaaGreatDoor.IdC
