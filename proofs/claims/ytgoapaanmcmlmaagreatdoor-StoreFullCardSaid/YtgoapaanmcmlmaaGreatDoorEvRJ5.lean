/- What the document's Event of package state returns: a contract. | What the document's Key of package ops returns: a contract. | What the document's May of package ops returns: a contract. | What Less (of ids, and of the document's answers) and order return: contracts. | What Has, Rises and Same (of ids, and of the document's answers) return: contracts. -/
import Derived.Test.YtgoapaanmcmlmaaGreatDoorRowFJ7
import Derived.Test.YtgoapaanmcmlmaaGreatDoorOpsMJ4
import Derived.Test.YtgoapaanmcmlmaaGreatDoorArrEqJ4
import Derived.Test.YtgoapaanmcmlmaaGreatDoorOpsWJ2
namespace Go.Proofs.YtgoapaanmcmlmaaGreatDoor.StR
set_option maxRecDepth 100000
open Go Go.RowKit Byt StM StW
set_option maxHeartbeats 4000000 in
theorem event_ret (v : Ev) (w : World) : Calls Tryz.prog 88 #[.agg (ec v)] w fun e w' => e = .returned (.bool (eventB v.node v.seq)) ∧ Below w.heap.size w w' := by
 have R : Cel.Box EE (w.alloc (.cells (ec v) 24)) w.heap.size v := Cel.Box.new w v _
 have kb := below_alloc w (.cells (ec v) 24)
 obtain ⟨c0, c1⟩ := ev_cells R
 clear R
 obtain ⟨r, hr⟩ : ∃ r, eventB v.node v.seq = r := ⟨_, rfl⟩
 have hn : r = eventB v.node v.seq := hr.symm
 rw [hr]
 unfold eventB at hn
 clear hr
 obtain ⟨n, hnn⟩ : ∃ n, v.node = n := ⟨_, rfl⟩
 obtain ⟨s, hs⟩ : ∃ s, v.seq = s := ⟨_, rfl⟩
 rw [hnn] at c0 hn
 rw [hs] at c1 hn
 clear hnn hs
 have HN := aside hn
 clear hn
 have hw : ¬ 0 ≤ n ∨ (0 ≤ n ∧ (¬ n < 8 ∨ (n < 8 ∧ (¬ 1 ≤ s ∨ 1 ≤ s)))) := by omega
 rcases hw with p2 | ⟨p2, p3 | ⟨p3, p4 | p4⟩⟩
 · have HR : Hid (r = false) := aside (by rw [HN.out]; simp; omega)
   clear HN
   go_enter Tryz.func88, Tryz.ntmps88
   go_wp2
   go_ret
   exact ⟨StW.ret_bool HR.out.symm, kb⟩
 · have HR : Hid (r = false) := aside (by rw [HN.out]; simp; omega)
   clear HN
   go_enter Tryz.func88, Tryz.ntmps88
   go_wp2
   go_ret
   exact ⟨StW.ret_bool HR.out.symm, kb⟩
 · have HR : Hid (r = false) := aside (by rw [HN.out]; simp; omega)
   clear HN
   go_enter Tryz.func88, Tryz.ntmps88
   go_wp2
   go_ret
   exact ⟨StW.ret_bool HR.out.symm, kb⟩
 · have HR : Hid (r = decide (s ≤ 1048576)) := aside (by rw [HN.out]; simp [p2, p3, p4])
   clear HN
   go_enter Tryz.func88, Tryz.ntmps88
   go_wp2
   go_ret
   exact ⟨StW.ret_bool HR.out.symm, kb⟩
end Go.Proofs.YtgoapaanmcmlmaaGreatDoor.StR
namespace Go.Proofs.YtgoapaanmcmlmaaGreatDoor.OpsR
set_option maxRecDepth 100000
open Go Go.RowKit Byt OpsM OpsK
set_option maxHeartbeats 2000000 in
theorem key_any (s : ByteArray) (hs : s.size ≤ maxLen) (w : World) :
   Calls Tryz.prog 114 #[.string s] w fun e w' => e = .returned (.bool (keyL (bytesL s))) ∧ w = w' := by
 unfold maxLen at hs
 have hl := bytesL_length s
 have HL := aside hl
 clear hl
 go_enter Tryz.func114, Tryz.ntmps114
 go_wp2
 go_loop [3] (fun i => ∃ k : Nat, k ≤ s.size ∧ i = .int .i64 k ∧ Hid (((bytesL s).take k).all signB = true)) (fun i => s.size - (intOf i).toNat)
 case atStart => exact ⟨0, Nat.zero_le _, rfl, aside (by simp)⟩
 case round =>
   obtain ⟨k, hk, rfl, HA⟩ := hrel
   by_cases hlt : k < s.size
   · have hb := byte_at s k hlt
     have hB : B (s[k].toNat : Int) := by have := s[k].toNat_lt; unfold B; omega
     have hp := parts hB
     have hB0 : 0 ≤ (s[k].toNat : Int) := by omega
     rcases hp with ⟨h1, hs⟩ | ⟨h1, h2, hs⟩ | ⟨h1, h2, hs⟩ | ⟨h1, h2, hs⟩ | ⟨h1, hs⟩
     · rw [← hb] at hs
       have HS := aside hs
       clear hs hb hB
       go_wp2
       go_ret
       exact ⟨ret_bool (keyL_no (by rw [HL.out]; exact hlt) HS.out).symm, rfl⟩
     · rw [← hb] at hs
       have HS := aside hs
       clear hs hb hB
       have d57 : decide ((s[k].toNat : Int) ≤ 57) = true := by simp; omega
       go_wp2
       go_round
       case rel => exact ⟨k + 1, by omega, by go_num, aside (by rw [all_take _ _ (by rw [HL.out]; exact hlt), HA.out, HS.out]; rfl)⟩
       case measure => simp [intOf]; omega
     · rw [← hb] at hs
       have HS := aside hs
       clear hs hb hB
       have d57 : decide ((s[k].toNat : Int) ≤ 57) = false := by simp; omega
       go_wp2
       go_ret
       exact ⟨ret_bool (keyL_no (by rw [HL.out]; exact hlt) HS.out).symm, rfl⟩
     · rw [← hb] at hs
       have HS := aside hs
       clear hs hb hB
       have d122 : decide ((s[k].toNat : Int) ≤ 122) = true := by simp; omega
       go_wp2
       go_round
       case rel => exact ⟨k + 1, by omega, by go_num, aside (by rw [all_take _ _ (by rw [HL.out]; exact hlt), HA.out, HS.out]; rfl)⟩
       case measure => simp [intOf]; omega
     · rw [← hb] at hs
       have HS := aside hs
       clear hs hb hB
       have d122 : decide ((s[k].toNat : Int) ≤ 122) = false := by simp; omega
       have d57 : decide ((s[k].toNat : Int) ≤ 57) = false := by simp; omega
       go_wp2
       go_ret
       exact ⟨ret_bool (keyL_no (by rw [HL.out]; exact hlt) HS.out).symm, rfl⟩
   · have hall := HA.out
     rw [List.take_of_length_le (by rw [HL.out]; omega)] at hall
     by_cases h1 : s.size < 1
     · have HR := aside (keyL_out (l := bytesL s) (by rw [HL.out]; omega))
       clear hall
       go_wp2
       go_ret
       exact ⟨ret_bool HR.out.symm, rfl⟩
     · by_cases h8 : 8 < s.size
       · have HR := aside (keyL_out (l := bytesL s) (by rw [HL.out]; omega))
         clear hall
         go_wp2
         go_ret
         refine ⟨ret_bool ?_, rfl⟩
         rw [HR.out]
         simp
         omega
       · have HR := aside (keyL_all (l := bytesL s) (by rw [HL.out]; omega) hall)
         clear hall
         go_wp2
         go_ret
         refine ⟨ret_bool ?_, rfl⟩
         rw [HR.out]
         simp
         omega
theorem key (s : ByteArray) (hs : s.size ≤ 1099511627776) (w : World) :
   Calls Tryz.prog 114 #[.string s] w fun e w' => e = .returned (.bool (keyL (bytesL s))) ∧ w = w' := key_any s (by unfold maxLen; omega) w
end Go.Proofs.YtgoapaanmcmlmaaGreatDoor.OpsR
namespace Go.Proofs.YtgoapaanmcmlmaaGreatDoor.OpsR
set_option maxRecDepth 100000
open Go Go.RowKit Go.Sort Byt OpsM OpsK OpsW OpsC
set_option maxRecDepth 100000 in
set_option maxHeartbeats 8000000 in
theorem may_no (o : Opn) (w : World) (hf : Fit o) (h1 : o.key.size ≤ 1099511627776) (h2 : o.elem.size ≤ 1099511627776) (hb : keyL (bytesL o.key) = false) :
   Calls Tryz.prog 89 #[.agg (opc o)] w fun e w' => e = .returned (.bool (mayO o)) ∧ Below w.heap.size w w' := by
 have O1 := OpAt.new w o 27
 have c0 := O1.kind
 have c1 := O1.key
 have c2 := O1.elem
 have c3 := O1.n
 have ck := key o.key h1
 have ce := key o.elem h2
 obtain ⟨n1, n2⟩ := hf.n
 obtain ⟨m1, m2⟩ := hf.kind
 rw [hb] at ck
 have HR := aside (mayO_key hb)
 obtain ⟨r, hr⟩ : ∃ r, mayO o = r := ⟨_, rfl⟩
 rw [hr] at HR ⊢
 clear hr hb h1 h2 hf
 clear m1 m2 n1 n2
 go_enter Tryz.func89, Tryz.ntmps89
 go_wp2_with (first | (refine (ck _).mono ?_; rintro e w' ⟨rfl, rfl⟩; clear ck) | (refine (ce _).mono ?_; rintro e w' ⟨rfl, rfl⟩; clear ce))
 go_ret
 exact ⟨ret_bool HR.out.symm, below_alloc _ _⟩
set_option maxRecDepth 100000 in
set_option maxHeartbeats 8000000 in
theorem may0 (o : Opn) (w : World) (hf : Fit o) (h1 : o.key.size ≤ 1099511627776) (h2 : o.elem.size ≤ 1099511627776) (hb : keyL (bytesL o.key) = true) (hk : o.kind = 0) :
   Calls Tryz.prog 89 #[.agg (opc o)] w fun e w' => e = .returned (.bool (mayO o)) ∧ Below w.heap.size w w' := by
 have O1 := OpAt.new w o 27
 have c0 := O1.kind
 have c1 := O1.key
 have c2 := O1.elem
 have c3 := O1.n
 have ck := key o.key h1
 have ce := key o.elem h2
 obtain ⟨n1, n2⟩ := hf.n
 obtain ⟨m1, m2⟩ := hf.kind
 rw [hb] at ck
 have hm := (mayO_rest hb).trans (restB0 hk)
 rw [hk] at c0
 clear hb h1 h2 hf hk m1 m2
 obtain ⟨r, hr⟩ : ∃ r, mayO o = r := ⟨_, rfl⟩
 obtain ⟨be, hbe⟩ : ∃ b, keyL (bytesL o.elem) = b := ⟨_, rfl⟩
 rw [hbe] at ce
 rw [hr] at hm ⊢
 clear hr hbe
 obtain ⟨n, hn⟩ : ∃ n, o.n = n := ⟨_, rfl⟩
 rw [hn] at c3 hm n1 n2
 clear hn
 by_cases ha : n < -1048576
 · have HR := aside (hm.trans (stepB_no (by omega)))
   clear hm
   go_enter Tryz.func89, Tryz.ntmps89
   go_wp2_with (first | (refine (ck _).mono ?_; rintro e w' ⟨rfl, rfl⟩; clear ck) | (refine (ce _).mono ?_; rintro e w' ⟨rfl, rfl⟩; clear ce))
   go_ret
   exact ⟨ret_bool HR.out.symm, below_alloc _ _⟩
 · by_cases hb : 1048576 < n
   · have HR := aside (hm.trans (stepB_no (by omega)))
     clear hm
     go_enter Tryz.func89, Tryz.ntmps89
     go_wp2_with (first | (refine (ck _).mono ?_; rintro e w' ⟨rfl, rfl⟩; clear ck) | (refine (ce _).mono ?_; rintro e w' ⟨rfl, rfl⟩; clear ce))
     go_ret
     exact ⟨ret_bool HR.out.symm, below_alloc _ _⟩
   · by_cases h0 : n = 0
     · subst h0
       have HR := aside (hm.trans (stepB_no (by omega)))
       clear hm
       go_enter Tryz.func89, Tryz.ntmps89
       go_wp2_with (first | (refine (ck _).mono ?_; rintro e w' ⟨rfl, rfl⟩; clear ck) | (refine (ce _).mono ?_; rintro e w' ⟨rfl, rfl⟩; clear ce))
       go_ret
       exact ⟨ret_bool HR.out.symm, below_alloc _ _⟩
     · have t0 : (n != 0) = true := by simpa using h0
       by_cases he : bytesL o.elem = []
       · have HR := aside (hm.trans (stepB_iff.2 ⟨by omega, by omega, h0, he⟩))
         have e1 := empty_yes he
         have e3 : o.elem.toList.isEmpty = true := by rw [e1]; rfl
         clear he h0 hm
         go_enter Tryz.func89, Tryz.ntmps89
         go_wp2_with (first | (refine (ck _).mono ?_; rintro e w' ⟨rfl, rfl⟩; clear ck) | (refine (ce _).mono ?_; rintro e w' ⟨rfl, rfl⟩; clear ce))
         go_ret
         exact ⟨ret_bool HR.out.symm, below_alloc _ _⟩
       · have HR := aside (hm.trans (stepB_no (fun q => he q.2.2.2)))
         have e1 := empty_no he
         have e3 : o.elem.toList.isEmpty = false := by simpa using e1
         clear he h0 hm
         go_enter Tryz.func89, Tryz.ntmps89
         go_wp2_with (first | (refine (ck _).mono ?_; rintro e w' ⟨rfl, rfl⟩; clear ck) | (refine (ce _).mono ?_; rintro e w' ⟨rfl, rfl⟩; clear ce))
         go_ret
         exact ⟨ret_bool HR.out.symm, below_alloc _ _⟩
set_option maxRecDepth 100000 in
set_option maxHeartbeats 8000000 in
theorem may1 (o : Opn) (w : World) (hf : Fit o) (h1 : o.key.size ≤ 1099511627776) (h2 : o.elem.size ≤ 1099511627776) (hb : keyL (bytesL o.key) = true) (hk : o.kind = 1 ∨ o.kind = 2 ∨ o.kind = 3) :
   Calls Tryz.prog 89 #[.agg (opc o)] w fun e w' => e = .returned (.bool (mayO o)) ∧ Below w.heap.size w w' := by
 have O1 := OpAt.new w o 27
 have c0 := O1.kind
 have c1 := O1.key
 have c2 := O1.elem
 have c3 := O1.n
 have ck := key o.key h1
 have ce := key o.elem h2
 obtain ⟨n1, n2⟩ := hf.n
 obtain ⟨m1, m2⟩ := hf.kind
 rw [hb] at ck
 have hm := (mayO_rest hb).trans (restB1 hk)
 obtain ⟨r, hr⟩ : ∃ r, mayO o = r := ⟨_, rfl⟩
 obtain ⟨be, hbe⟩ : ∃ b, keyL (bytesL o.elem) = b := ⟨_, rfl⟩
 rw [hbe] at ce
 rw [hr] at hm ⊢
 obtain ⟨n, hn⟩ : ∃ n, o.n = n := ⟨_, rfl⟩
 have hm2 : r = (be && decide (n = 0)) := by rw [hm]; unfold elemB; rw [hbe, hn]
 rw [hn] at c3 n1 n2
 have HR := aside hm2
 clear hb h1 h2 hf hr hbe hm hm2 hn m1 m2
 rcases hk with hk | hk | hk
 all_goals
   rw [hk] at c0
   clear hk
   cases be with
   | false =>
     have HR : Hid (r = false) := HR.out
     go_enter Tryz.func89, Tryz.ntmps89
     go_wp2_with (first | (refine (ck _).mono ?_; rintro e w' ⟨rfl, rfl⟩; clear ck) | (refine (ce _).mono ?_; rintro e w' ⟨rfl, rfl⟩; clear ce))
     go_ret
     exact ⟨ret_bool HR.out.symm, below_alloc _ _⟩
   | true =>
     by_cases h0 : n = 0
     · have t0 : (n == 0) = true := by simpa using h0
       have HR : Hid (r = true) := aside (by rw [HR.out, h0]; rfl)
       clear h0
       go_enter Tryz.func89, Tryz.ntmps89
       go_wp2_with (first | (refine (ck _).mono ?_; rintro e w' ⟨rfl, rfl⟩; clear ck) | (refine (ce _).mono ?_; rintro e w' ⟨rfl, rfl⟩; clear ce))
       go_ret
       exact ⟨ret_bool HR.out.symm, below_alloc _ _⟩
     · have t0 : (n == 0) = false := by simpa using h0
       have HR : Hid (r = false) := aside (by rw [HR.out]; simpa using h0)
       clear h0
       go_enter Tryz.func89, Tryz.ntmps89
       go_wp2_with (first | (refine (ck _).mono ?_; rintro e w' ⟨rfl, rfl⟩; clear ck) | (refine (ce _).mono ?_; rintro e w' ⟨rfl, rfl⟩; clear ce))
       go_ret
       exact ⟨ret_bool HR.out.symm, below_alloc _ _⟩
set_option maxRecDepth 100000 in
set_option maxHeartbeats 8000000 in
theorem mayN (o : Opn) (w : World) (hf : Fit o) (h1 : o.key.size ≤ 1099511627776) (h2 : o.elem.size ≤ 1099511627776) (hb : keyL (bytesL o.key) = true) (hk : o.kind < 0 ∨ 3 < o.kind) :
   Calls Tryz.prog 89 #[.agg (opc o)] w fun e w' => e = .returned (.bool (mayO o)) ∧ Below w.heap.size w w' := by
 have O1 := OpAt.new w o 27
 have c0 := O1.kind
 have c1 := O1.key
 have c2 := O1.elem
 have c3 := O1.n
 have ck := key o.key h1
 have ce := key o.elem h2
 obtain ⟨n1, n2⟩ := hf.n
 obtain ⟨m1, m2⟩ := hf.kind
 rw [hb] at ck
 have hm := (mayO_rest hb).trans (restBN hk)
 obtain ⟨r, hr⟩ : ∃ r, mayO o = r := ⟨_, rfl⟩
 rw [hr] at hm ⊢
 have HR := aside hm
 obtain ⟨k, hk'⟩ : ∃ k, o.kind = k := ⟨_, rfl⟩
 rw [hk'] at c0 hk
 have t0 : (k == 0) = false := by simp; omega
 have t1 : (k == 1) = false := by simp; omega
 have t2 : (k == 2) = false := by simp; omega
 have t3 : (k == 3) = false := by simp; omega
 clear hb h1 h2 hf hr hm hk hk' m1 m2 n1 n2
 go_enter Tryz.func89, Tryz.ntmps89
 go_wp2_with (first | (refine (ck _).mono ?_; rintro e w' ⟨rfl, rfl⟩; clear ck) | (refine (ce _).mono ?_; rintro e w' ⟨rfl, rfl⟩; clear ce))
 go_ret
 exact ⟨ret_bool HR.out.symm, below_alloc _ _⟩
theorem may (o : Opn) (w : World) (hf : Fit o) (h1 : o.key.size ≤ 1099511627776) (h2 : o.elem.size ≤ 1099511627776) :
   Calls Tryz.prog 89 #[.agg (opc o)] w fun e w' => e = .returned (.bool (mayO o)) ∧ Below w.heap.size w w' := by
 cases hb : keyL (bytesL o.key) with
 | false => exact may_no o w hf h1 h2 hb
 | true =>
   by_cases h0 : o.kind = 0
   · exact may0 o w hf h1 h2 hb h0
   · by_cases h3 : o.kind = 1 ∨ o.kind = 2 ∨ o.kind = 3
     · exact may1 o w hf h1 h2 hb h3
     · exact mayN o w hf h1 h2 hb (by omega)
end Go.Proofs.YtgoapaanmcmlmaaGreatDoor.OpsR
namespace Go.Proofs.YtgoapaanmcmlmaaGreatDoor.IdC
set_option maxRecDepth 100000
open Go Go.Sort Go.RowKit IdM Byt IdW
set_option maxHeartbeats 1000000 in
theorem less_ret (x y : Idn) (w : World) : Calls Tryz.prog 78 #[.agg (cs x), .agg (cs y)] w fun e w' => e = .returned (.bool (less x y)) ∧ Grew w w' := by
 have s1 := cs_size x
 have s2 := cs_size y
 have B1 : Box ((w.alloc (.cells (cs x) 75)).alloc (.cells (cs y) 75)) w.heap.size x := (Box.new w x _).alloc _
 have B2 : Box ((w.alloc (.cells (cs x) 75)).alloc (.cells (cs y) 75)) (w.heap.size + 1) y := by
   have := Box.new (w.alloc (.cells (cs x) 75)) y 75
   simpa using this
 have G : Grew w ((w.alloc (.cells (cs x) 75)).alloc (.cells (cs y) 75)) := ((Grew.refl w).alloc _).alloc _
 obtain ⟨r, hr0⟩ : ∃ r, less x y = r := ⟨_, rfl⟩
 rw [hr0]
 have hr := aside hr0
 clear hr0
 go_enter Tryz.func78, Tryz.ntmps78
 go_wp2_with fail
 go_loopw [6] (fun i wr => ∃ k : Nat, k ≤ 32 ∧ i = .int .i64 k ∧ Hid (∀ j, j < k → x.1.getD j 0 = y.1.getD j 0) ∧ Box wr w.heap.size x ∧ Box wr (w.heap.size + 1) y ∧ Grew w wr) (fun i _ => 32 - (intOf i).toNat)
 case atStart => exact ⟨0, Nat.zero_le _, rfl, aside (fun j hj => absurd hj (Nat.not_lt_zero j)), B1, B2, G⟩
 case round =>
   clear B1 B2 G
   obtain ⟨k, hk, rfl, he, B1, B2, G⟩ := hrel
   by_cases hlt : k < 32
   · have c1 := B1.cell k hlt
     have c2 := B2.cell k hlt
     obtain ⟨a, ha⟩ : ∃ a, x.1.getD k 0 = a := ⟨_, rfl⟩
     obtain ⟨b, hb⟩ : ∃ b, y.1.getD k 0 = b := ⟨_, rfl⟩
     rw [ha] at c1
     rw [hb] at c2
     have HA := aside ha
     have HB := aside hb
     clear ha hb
     have p0 : (k : Int) < 32 := by omega
     have o0 : 0 ≤ (k : Int) := by omega
     have m0 : ((k : Int)).toNat = k := by omega
     by_cases hab : a = b
     · subst hab
       go_wp2
       go_quiet (fail)
       go_wp2
       go_roundw
       case rel =>
         refine ⟨k + 1, by omega, by go_num, aside (fun j hj => ?_), B1.drewN _, B2.drewN _, G.drewN _⟩
         by_cases hjk : j = k
         · subst hjk
           rw [HA.out, HB.out]
         · exact he.out j (by omega)
       case measure => simp [intOf]; omega
     · have hne : (a != b) = true := by simpa using hab
       have hl : less x y = decide (a < b) := by
         rw [less_at k hlt he.out (by rw [HA.out, HB.out]; exact hab), HA.out, HB.out]
       rw [hr.out] at hl
       go_wp2
       go_quiet (fail)
       go_wp2
       go_quiet (fail)
       go_wp2
       go_ret
       exact ⟨by rw [hl]; rfl, (G.drewN _).drewN _⟩
   · have hk' : k = 32 := by omega
     have hxy : x = y := Idn_ext_at (fun i hi => he.out i (by omega))
     have hl : less x y = false := by rw [hxy]; exact less_irrefl _
     rw [hr.out] at hl
     go_wp2
     go_ret
     exact ⟨by rw [hl]; rfl, G⟩
set_option maxHeartbeats 1000000 in
theorem rless_ret (x y : Idn) (w : World) : Calls Tryz.prog 113 #[.agg (cs x), .agg (cs y)] w fun e w' => e = .returned (.bool (less x y)) ∧ Grew w w' := by
 have s1 := cs_size x
 have s2 := cs_size y
 have B1 : Box ((w.alloc (.cells (cs x) 75)).alloc (.cells (cs y) 75)) w.heap.size x := (Box.new w x _).alloc _
 have B2 : Box ((w.alloc (.cells (cs x) 75)).alloc (.cells (cs y) 75)) (w.heap.size + 1) y := by
   have := Box.new (w.alloc (.cells (cs x) 75)) y 75
   simpa using this
 have G : Grew w ((w.alloc (.cells (cs x) 75)).alloc (.cells (cs y) 75)) := ((Grew.refl w).alloc _).alloc _
 obtain ⟨r, hr0⟩ : ∃ r, less x y = r := ⟨_, rfl⟩
 rw [hr0]
 have hr := aside hr0
 clear hr0
 go_enter Tryz.func113, Tryz.ntmps113
 go_wp2_with fail
 go_loopw [5] (fun i wr => ∃ k : Nat, k ≤ 32 ∧ i = .int .i64 k ∧ Hid (∀ j, j < k → x.1.getD j 0 = y.1.getD j 0) ∧ Box wr w.heap.size x ∧ Box wr (w.heap.size + 1) y ∧ Grew w wr) (fun i _ => 32 - (intOf i).toNat)
 case atStart => exact ⟨0, Nat.zero_le _, rfl, aside (fun j hj => absurd hj (Nat.not_lt_zero j)), B1, B2, G⟩
 case round =>
   clear B1 B2 G
   obtain ⟨k, hk, rfl, he, B1, B2, G⟩ := hrel
   by_cases hlt : k < 32
   · have c1 := B1.cell k hlt
     have c2 := B2.cell k hlt
     obtain ⟨a, ha⟩ : ∃ a, x.1.getD k 0 = a := ⟨_, rfl⟩
     obtain ⟨b, hb⟩ : ∃ b, y.1.getD k 0 = b := ⟨_, rfl⟩
     rw [ha] at c1
     rw [hb] at c2
     have HA := aside ha
     have HB := aside hb
     clear ha hb
     have p0 : (k : Int) < 32 := by omega
     have o0 : 0 ≤ (k : Int) := by omega
     have m0 : ((k : Int)).toNat = k := by omega
     by_cases hab : a = b
     · subst hab
       go_wp2
       go_quiet (fail)
       go_wp2
       go_roundw
       case rel =>
         refine ⟨k + 1, by omega, by go_num, aside (fun j hj => ?_), B1.drewN _, B2.drewN _, G.drewN _⟩
         by_cases hjk : j = k
         · subst hjk
           rw [HA.out, HB.out]
         · exact he.out j (by omega)
       case measure => simp [intOf]; omega
     · have hne : (a != b) = true := by simpa using hab
       have hl : less x y = decide (a < b) := by
         rw [less_at k hlt he.out (by rw [HA.out, HB.out]; exact hab), HA.out, HB.out]
       rw [hr.out] at hl
       go_wp2
       go_quiet (fail)
       go_wp2
       go_quiet (fail)
       go_wp2
       go_ret
       exact ⟨by rw [hl]; rfl, (G.drewN _).drewN _⟩
   · have hk' : k = 32 := by omega
     have hxy : x = y := Idn_ext_at (fun i hi => he.out i (by omega))
     have hl : less x y = false := by rw [hxy]; exact less_irrefl _
     rw [hr.out] at hl
     go_wp2
     go_ret
     exact ⟨by rw [hl]; rfl, G⟩
end Go.Proofs.YtgoapaanmcmlmaaGreatDoor.IdC
namespace Go.Proofs.YtgoapaanmcmlmaaGreatDoor.IdV
set_option maxRecDepth 100000
open Go Go.Sort Go.RowKit IdM Byt IdW IdC
theorem wpQuiet_load_id {ops : Array Oper} {C : World → Prop} {Q : Act → Prop} {a : Act} {o : Oper} {rest : List Oper} (hgd : o.guard = none) (x : Operand) (ho : o.op = .load 75 x)
   (b off : Nat) (hx : a.eval x = .pointer (some ⟨b, off, none⟩)) (y : Idn) (hc : ∀ w, C w → w.rangeAt b off (bv y.1)) (h : wpQuiet Tryz.prog ops C Q rest (a.put o.dst (.agg (cs y)))) : wpQuiet Tryz.prog ops C Q (o :: rest) a := by
 refine BigFrame.wpQuiet_want (by simp [Region.wanted, hgd]) (fun K hK => ⟨.agg (cs y), fun w hw => ?_, hK _ h⟩)
 have q := load_mid (hc w hw)
 unfold Oper.quietAt execOp
 simp only [ho, hx, Sem.run_bind, q, Result.andThen_ok, Sem.run_pure]
 exact ⟨rfl, rfl⟩
theorem reads_id {l : List Oper} {i : Nat} {o : Oper} {r : List (Nat × Bool)} {a : Act} {w : World} {Q : Exit → Act → World → Prop} (hn : Grow.nth l i = some o) (hgd : o.guard = none) (x : Operand) (ho : o.op = .load 75 x)
   (b off : Nat) (hx : a.eval x = .pointer (some ⟨b, off, none⟩)) (y : Idn) (hc : w.rangeAt b off (bv y.1)) (h : Grow.Seq Tryz.prog l.toArray Q r (a.put o.dst (.agg (cs y))) w) : Grow.Seq Tryz.prog l.toArray Q ((i, true) :: r) a w :=
 Grow.reads hn (by unfold Grow.plain; rw [ho]) (wpQuiet_load_id hgd x ho b off hx y (fun _ ⟨p, e⟩ => by rw [e]; exact range_below hc (below_regrown w p.d p.os)) (wpQuiet_nil h))
set_option maxHeartbeats 1000000 in
theorem rises_ret (A : Option Addr) (cap : Nat) (l : List Idn) (w : World) (S : SlI w A cap l) :
   Calls Tryz.prog 107 #[.slice A l.length cap] w fun e w' => e = .returned (.bool (risesB l)) ∧ Below w.heap.size w w' := by
 have hcap := S.1
 have hmax : l.length ≤ 9223372036854775807 := by have := S.2.1; unfold maxLen at this; omega
 obtain ⟨r, hr0⟩ : ∃ r, risesB l = r := ⟨_, rfl⟩
 rw [hr0]
 have hr := aside hr0
 clear hr0
 go_enter Tryz.func107, Tryz.ntmps107
 go_wp2_with fail
 go_loopw [3] (fun i wr => ∃ k : Nat, 1 ≤ k ∧ (k ≤ l.length ∨ k = 1) ∧ i = .int .i64 k ∧ Hid (∀ j, j + 1 < k → less (l.getD j nought) (l.getD (j + 1) nought) = true) ∧ Below w.heap.size w wr) (fun i _ => l.length + 1 - (intOf i).toNat)
 case atStart => exact ⟨1, Nat.le_refl _, .inr rfl, rfl, aside (fun j hj => absurd hj (by omega)), Below.refl _ _⟩
 case round =>
   obtain ⟨k, hk1, hk, rfl, he, kb⟩ := hrel
   by_cases hlt : k < l.length
   · obtain ⟨b, off, rfl, hbw, hrg⟩ := S.plain (by omega)
     have ra := range_below (hrg (k - 1) (by omega)) kb
     have rb := range_below (hrg k hlt) kb
     obtain ⟨x, hx⟩ : ∃ x, l.getD (k - 1) nought = x := ⟨_, rfl⟩
     obtain ⟨y, hy⟩ : ∃ y, l.getD k nought = y := ⟨_, rfl⟩
     rw [hx] at ra
     rw [hy] at rb
     have HX := aside hx
     have HY := aside hy
     have p0 : (k : Int) < l.length := by omega
     have m0 : ((k : Int)).toNat = k := by omega
     have p1 : (k : Int) - 1 < l.length := by omega
     have o1 : 0 ≤ (k : Int) - 1 := by omega
     have m1 : ((k : Int) - 1).toNat = k - 1 := by omega
     clear hrg S hx hy
     cases hl : less x y with
     | true =>
       go_wp2
       refine Grow.region [(0, true), (1, true), (2, true), (3, true), (4, true), (5, true), (6, true), (7, true), (8, true), (9, false), (10, true)] (by kernel_rfl) (by kernel_rfl) rfl (by kernel_rfl) (by intro c a d v w h; cases d <;> exact h) ?_
       have ra' : wr.drew.rangeAt b (off + (k - 1) * 32) (bv x.1) := ra
       have rb' : wr.drew.rangeAt b (off + k * 32) (bv y.1) := rb
       have kd := below_drew1 kb
       generalize wr.drew = W at ra' rb' kd ⊢
       repeat (first | (refine reads_id rfl rfl _ rfl _ _ rfl x ra' ?_; simp only [Act.put, List.setIfInBounds_toArray, List.set_cons_succ, List.set_cons_zero]) | (refine reads_id rfl rfl _ rfl _ _ rfl y rb' ?_; simp only [Act.put, List.setIfInBounds_toArray, List.set_cons_succ, List.set_cons_zero]) | (refine Grow.reads rfl rfl ?_; go_big_quiet_step (fail); refine wpQuiet_nil ?_))
       refine Grow.acts rfl ?_
       go_wp2_with fail
       refine (less_ret x y W).mono ?_
       rintro e w1 ⟨rfl, g1⟩
       rw [hl]
       go_wp2_with fail
       refine ⟨g1.below, ?_⟩
       refine Grow.reads rfl rfl ?_
       go_big_quiet_step (fail)
       refine wpQuiet_nil ?_
       refine Grow.ends ?_
       go_wp2
       go_roundw
       case rel =>
         refine ⟨k + 1, by omega, .inl (by omega), by go_num, aside (fun j hj => ?_), kd.trans (g1.below.mono kd.size)⟩
         by_cases hjk : j + 1 = k
         · subst hjk
           rw [Nat.add_sub_cancel] at HX
           rw [HX.out, HY.out]
           exact hl
         · exact he.out j (by omega)
       case measure => simp [intOf]; omega
     | false =>
       have hrf : r = false := by
         rw [← hr.out]
         unfold risesB
         rw [List.all_eq_false]
         refine ⟨k - 1, by simp; omega, ?_⟩
         rw [Nat.sub_add_cancel hk1, HX.out, HY.out, hl]
         simp
       go_wp2
       refine Grow.region [(0, true), (1, true), (2, true), (3, true), (4, true), (5, true), (6, true), (7, true), (8, true), (9, false), (10, true)] (by kernel_rfl) (by kernel_rfl) rfl (by kernel_rfl) (by intro c a d v w h; cases d <;> exact h) ?_
       have ra' : wr.drew.rangeAt b (off + (k - 1) * 32) (bv x.1) := ra
       have rb' : wr.drew.rangeAt b (off + k * 32) (bv y.1) := rb
       have kd := below_drew1 kb
       generalize wr.drew = W at ra' rb' kd ⊢
       repeat (first | (refine reads_id rfl rfl _ rfl _ _ rfl x ra' ?_; simp only [Act.put, List.setIfInBounds_toArray, List.set_cons_succ, List.set_cons_zero]) | (refine reads_id rfl rfl _ rfl _ _ rfl y rb' ?_; simp only [Act.put, List.setIfInBounds_toArray, List.set_cons_succ, List.set_cons_zero]) | (refine Grow.reads rfl rfl ?_; go_big_quiet_step (fail); refine wpQuiet_nil ?_))
       refine Grow.acts rfl ?_
       go_wp2_with fail
       refine (less_ret x y W).mono ?_
       rintro e w1 ⟨rfl, g1⟩
       rw [hl]
       go_wp2_with fail
       refine ⟨g1.below, ?_⟩
       refine Grow.reads rfl rfl ?_
       go_big_quiet_step (fail)
       refine wpQuiet_nil ?_
       refine Grow.ends ?_
       go_wp2
       go_ret
       exact ⟨by rw [hrf]; rfl, kd.trans (g1.below.mono kd.size)⟩
   · have hrt : r = true := by
       rw [← hr.out]
       unfold risesB
       rw [List.all_eq_true]
       intro i hi
       exact he.out i (by simp at hi; omega)
     go_wp2
     go_ret
     exact ⟨by rw [hrt]; rfl, kb⟩
set_option maxHeartbeats 1000000 in
theorem rrises_ret (A : Option Addr) (cap : Nat) (l : List Idn) (w : World) (S : SlI w A cap l) :
   Calls Tryz.prog 87 #[.slice A l.length cap] w fun e w' => e = .returned (.bool (risesB l)) ∧ Below w.heap.size w w' := by
 have hcap := S.1
 have hmax : l.length ≤ 9223372036854775807 := by have := S.2.1; unfold maxLen at this; omega
 obtain ⟨r, hr0⟩ : ∃ r, risesB l = r := ⟨_, rfl⟩
 rw [hr0]
 have hr := aside hr0
 clear hr0
 go_enter Tryz.func87, Tryz.ntmps87
 go_wp2_with fail
 go_loopw [3] (fun i wr => ∃ k : Nat, 1 ≤ k ∧ (k ≤ l.length ∨ k = 1) ∧ i = .int .i64 k ∧ Hid (∀ j, j + 1 < k → less (l.getD j nought) (l.getD (j + 1) nought) = true) ∧ Below w.heap.size w wr) (fun i _ => l.length + 1 - (intOf i).toNat)
 case atStart => exact ⟨1, Nat.le_refl _, .inr rfl, rfl, aside (fun j hj => absurd hj (by omega)), Below.refl _ _⟩
 case round =>
   obtain ⟨k, hk1, hk, rfl, he, kb⟩ := hrel
   by_cases hlt : k < l.length
   · obtain ⟨b, off, rfl, hbw, hrg⟩ := S.plain (by omega)
     have ra := range_below (hrg (k - 1) (by omega)) kb
     have rb := range_below (hrg k hlt) kb
     obtain ⟨x, hx⟩ : ∃ x, l.getD (k - 1) nought = x := ⟨_, rfl⟩
     obtain ⟨y, hy⟩ : ∃ y, l.getD k nought = y := ⟨_, rfl⟩
     rw [hx] at ra
     rw [hy] at rb
     have HX := aside hx
     have HY := aside hy
     have p0 : (k : Int) < l.length := by omega
     have m0 : ((k : Int)).toNat = k := by omega
     have p1 : (k : Int) - 1 < l.length := by omega
     have o1 : 0 ≤ (k : Int) - 1 := by omega
     have m1 : ((k : Int) - 1).toNat = k - 1 := by omega
     clear hrg S hx hy
     cases hl : less x y with
     | true =>
       go_wp2
       refine Grow.region [(0, true), (1, true), (2, true), (3, true), (4, true), (5, true), (6, true), (7, true), (8, true), (9, false), (10, true)] (by kernel_rfl) (by kernel_rfl) rfl (by kernel_rfl) (by intro c a d v w h; cases d <;> exact h) ?_
       have ra' : wr.drew.rangeAt b (off + (k - 1) * 32) (bv x.1) := ra
       have rb' : wr.drew.rangeAt b (off + k * 32) (bv y.1) := rb
       have kd := below_drew1 kb
       generalize wr.drew = W at ra' rb' kd ⊢
       repeat (first | (refine reads_id rfl rfl _ rfl _ _ rfl x ra' ?_; simp only [Act.put, List.setIfInBounds_toArray, List.set_cons_succ, List.set_cons_zero]) | (refine reads_id rfl rfl _ rfl _ _ rfl y rb' ?_; simp only [Act.put, List.setIfInBounds_toArray, List.set_cons_succ, List.set_cons_zero]) | (refine Grow.reads rfl rfl ?_; go_big_quiet_step (fail); refine wpQuiet_nil ?_))
       refine Grow.acts rfl ?_
       go_wp2_with fail
       refine (rless_ret x y W).mono ?_
       rintro e w1 ⟨rfl, g1⟩
       rw [hl]
       go_wp2_with fail
       refine ⟨g1.below, ?_⟩
       refine Grow.reads rfl rfl ?_
       go_big_quiet_step (fail)
       refine wpQuiet_nil ?_
       refine Grow.ends ?_
       go_wp2
       go_roundw
       case rel =>
         refine ⟨k + 1, by omega, .inl (by omega), by go_num, aside (fun j hj => ?_), kd.trans (g1.below.mono kd.size)⟩
         by_cases hjk : j + 1 = k
         · subst hjk
           rw [Nat.add_sub_cancel] at HX
           rw [HX.out, HY.out]
           exact hl
         · exact he.out j (by omega)
       case measure => simp [intOf]; omega
     | false =>
       have hrf : r = false := by
         rw [← hr.out]
         unfold risesB
         rw [List.all_eq_false]
         refine ⟨k - 1, by simp; omega, ?_⟩
         rw [Nat.sub_add_cancel hk1, HX.out, HY.out, hl]
         simp
       go_wp2
       refine Grow.region [(0, true), (1, true), (2, true), (3, true), (4, true), (5, true), (6, true), (7, true), (8, true), (9, false), (10, true)] (by kernel_rfl) (by kernel_rfl) rfl (by kernel_rfl) (by intro c a d v w h; cases d <;> exact h) ?_
       have ra' : wr.drew.rangeAt b (off + (k - 1) * 32) (bv x.1) := ra
       have rb' : wr.drew.rangeAt b (off + k * 32) (bv y.1) := rb
       have kd := below_drew1 kb
       generalize wr.drew = W at ra' rb' kd ⊢
       repeat (first | (refine reads_id rfl rfl _ rfl _ _ rfl x ra' ?_; simp only [Act.put, List.setIfInBounds_toArray, List.set_cons_succ, List.set_cons_zero]) | (refine reads_id rfl rfl _ rfl _ _ rfl y rb' ?_; simp only [Act.put, List.setIfInBounds_toArray, List.set_cons_succ, List.set_cons_zero]) | (refine Grow.reads rfl rfl ?_; go_big_quiet_step (fail); refine wpQuiet_nil ?_))
       refine Grow.acts rfl ?_
       go_wp2_with fail
       refine (rless_ret x y W).mono ?_
       rintro e w1 ⟨rfl, g1⟩
       rw [hl]
       go_wp2_with fail
       refine ⟨g1.below, ?_⟩
       refine Grow.reads rfl rfl ?_
       go_big_quiet_step (fail)
       refine wpQuiet_nil ?_
       refine Grow.ends ?_
       go_wp2
       go_ret
       exact ⟨by rw [hrf]; rfl, kd.trans (g1.below.mono kd.size)⟩
   · have hrt : r = true := by
       rw [← hr.out]
       unfold risesB
       rw [List.all_eq_true]
       intro i hi
       exact he.out i (by simp at hi; omega)
     go_wp2
     go_ret
     exact ⟨by rw [hrt]; rfl, kb⟩
set_option maxHeartbeats 1000000 in
theorem same_ret (A A' : Option Addr) (cap cap' : Nat) (l l' : List Idn) (w : World) (S : SlI w A cap l) (S' : SlI w A' cap' l') :
   Calls Tryz.prog 70 #[.slice A l.length cap, .slice A' l'.length cap'] w fun e w' => e = .returned (.bool (decide (l = l'))) ∧ Below w.heap.size w w' := by
 have hmax : l.length ≤ 9223372036854775807 := by have := S.1; have := S.2.1; unfold maxLen at this; omega
 have hmax' : l'.length ≤ 9223372036854775807 := by have := S'.1; have := S'.2.1; unfold maxLen at this; omega
 obtain ⟨r, hr0⟩ : ∃ r, decide (l = l') = r := ⟨_, rfl⟩
 rw [hr0]
 have hr := aside hr0
 clear hr0
 by_cases hlen : l.length = l'.length
 · have hl0 : ((l.length : Int) != l'.length) = false := by simp [hlen]
   go_enter Tryz.func70, Tryz.ntmps70
   go_wp2_with fail
   go_loopw [5] (fun i wr => ∃ k : Nat, k ≤ l.length ∧ i = .int .i64 k ∧ Hid (∀ j, j < k → l.getD j nought = l'.getD j nought) ∧ Below w.heap.size w wr) (fun i _ => l.length - (intOf i).toNat)
   case atStart => exact ⟨0, Nat.zero_le _, rfl, aside (fun j hj => absurd hj (Nat.not_lt_zero j)), Below.refl _ _⟩
   case round =>
     obtain ⟨k, hk, rfl, he, kb⟩ := hrel
     by_cases hlt : k < l.length
     · obtain ⟨b, off, rfl, hbw, hrg⟩ := S.plain (by omega)
       obtain ⟨b', off', rfl, hbw', hrg'⟩ := S'.plain (by omega)
       have ra := range_below (hrg k hlt) kb
       have rb := range_below (hrg' k (by omega)) kb
       obtain ⟨x, hx⟩ : ∃ x, l.getD k nought = x := ⟨_, rfl⟩
       obtain ⟨y, hy⟩ : ∃ y, l'.getD k nought = y := ⟨_, rfl⟩
       rw [hx] at ra
       rw [hy] at rb
       have HX := aside hx
       have HY := aside hy
       have p0 : (k : Int) < l.length := by omega
       have p1 : (k : Int) < l'.length := by omega
       have m0 : ((k : Int)).toNat = k := by omega
       clear hrg hrg' S S' hx hy hl0
       have heq := fun W => equal W 9998 x y
       by_cases hxy : x = y
       · simp only [hxy, decide_true] at heq
         subst hxy
         go_wp2
         refine wp_region_quiet_lit (by kernel_rfl) (by kernel_rfl) ?_
         repeat (first | (refine wpQuiet_load_id rfl _ rfl _ _ rfl x (fun _ ⟨_, e⟩ => by rw [e]; exact ra) ?_; simp only [Act.put, List.setIfInBounds_toArray, List.set_cons_succ, List.set_cons_zero]) | (refine wpQuiet_load_id rfl _ rfl _ _ rfl x (fun _ ⟨_, e⟩ => by rw [e]; exact rb) ?_; simp only [Act.put, List.setIfInBounds_toArray, List.set_cons_succ, List.set_cons_zero]) | go_big_quiet_step (fail))
         refine wpQuiet_nil ?_
         rintro _ ⟨nq, rfl⟩
         go_wp2
         go_roundw
         case rel =>
           refine ⟨k + 1, by omega, by go_num, aside (fun j hj => ?_), below_drew kb _⟩
           by_cases hjk : j = k
           · subst hjk
             rw [HX.out, HY.out]
           · exact he.out j (by omega)
         case measure => simp [intOf]; omega
       · simp only [hxy, decide_false] at heq
         have hrf : r = false := by
           rw [← hr.out]
           refine decide_eq_false (fun e => hxy ?_)
           rw [← HX.out, ← HY.out, e]
         go_wp2
         refine wp_region_quiet_lit (by kernel_rfl) (by kernel_rfl) ?_
         repeat (first | (refine wpQuiet_load_id rfl _ rfl _ _ rfl x (fun _ ⟨_, e⟩ => by rw [e]; exact ra) ?_; simp only [Act.put, List.setIfInBounds_toArray, List.set_cons_succ, List.set_cons_zero]) | (refine wpQuiet_load_id rfl _ rfl _ _ rfl y (fun _ ⟨_, e⟩ => by rw [e]; exact rb) ?_; simp only [Act.put, List.setIfInBounds_toArray, List.set_cons_succ, List.set_cons_zero]) | go_big_quiet_step (fail))
         refine wpQuiet_nil ?_
         rintro _ ⟨nq, rfl⟩
         go_wp2
         go_ret
         exact ⟨by rw [hrf]; rfl, below_drew kb _⟩
     · have hrt : r = true := by
         rw [← hr.out]
         refine decide_eq_true (List.ext_getElem hlen (fun i h1 h2 => ?_))
         have := he.out i (by omega)
         rw [List.getD_eq_getElem?_getD, List.getD_eq_getElem?_getD, List.getElem?_eq_getElem h1, List.getElem?_eq_getElem h2] at this
         exact this
       go_wp2
       go_ret
       exact ⟨by rw [hrt]; rfl, kb⟩
 · have hl0 : ((l.length : Int) != l'.length) = true := by simp; omega
   have hrf : r = false := by
     rw [← hr.out]
     exact decide_eq_false (fun e => hlen (by rw [e]))
   go_enter Tryz.func70, Tryz.ntmps70
   go_wp2
   go_ret
   exact ⟨by rw [hrf]; rfl, Below.refl _ _⟩
end Go.Proofs.YtgoapaanmcmlmaaGreatDoor.IdV
