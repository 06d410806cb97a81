/- What Less (of ids, and of the document's answers) and order return: contracts. -/
import Derived.Test.YtbggegpbcgcknaaIdW
namespace Go.Proofs.Ytbggegpbcgcknaa.IdC
open Go Go.Sort Go.RowKit IdM Byt IdW

set_option maxHeartbeats 1000000 in
theorem less_ret (x y : Idn) (w : World) : Calls Try.prog 24 #[.agg (cs x), .agg (cs y)] w fun e w' => e = .returned (.bool (less x y)) ∧ Grew w w' := by
  have s1 := cs_size x
  have s2 := cs_size y
  have B1 : Box ((w.alloc (.cells (cs x) 24)).alloc (.cells (cs y) 24)) w.heap.size x := (Box.new w x _).alloc _
  have B2 : Box ((w.alloc (.cells (cs x) 24)).alloc (.cells (cs y) 24)) (w.heap.size + 1) y := by
    have := Box.new (w.alloc (.cells (cs x) 24)) y 24
    simpa using this
  have G : Grew w ((w.alloc (.cells (cs x) 24)).alloc (.cells (cs y) 24)) := ((Grew.refl w).alloc _).alloc _
  obtain ⟨r, hr0⟩ : ∃ r, less x y = r := ⟨_, rfl⟩
  rw [hr0]
  have hr := aside hr0
  clear hr0
  go_enter Try.func24, Try.ntmps24
  go_wp2_with fail
  go_loopw [6] (fun i wr => ∃ k : Nat, k ≤ 32 ∧ i = .int .i64 k ∧ Hid (∀ j, j < k → x.1.getD j 0 = y.1.getD j 0) ∧ Box wr w.heap.size x ∧ Box wr (w.heap.size + 1) y ∧ Grew w wr) (fun i _ => 32 - (intOf i).toNat)
  case atStart => exact ⟨0, Nat.zero_le _, rfl, aside (fun j hj => absurd hj (Nat.not_lt_zero j)), B1, B2, G⟩
  case round =>
    clear B1 B2 G
    obtain ⟨k, hk, rfl, he, B1, B2, G⟩ := hrel
    by_cases hlt : k < 32
    · have c1 := B1.cell k hlt
      have c2 := B2.cell k hlt
      obtain ⟨a, ha⟩ : ∃ a, x.1.getD k 0 = a := ⟨_, rfl⟩
      obtain ⟨b, hb⟩ : ∃ b, y.1.getD k 0 = b := ⟨_, rfl⟩
      rw [ha] at c1
      rw [hb] at c2
      have HA := aside ha
      have HB := aside hb
      clear ha hb
      have p0 : (k : Int) < 32 := by omega
      have o0 : 0 ≤ (k : Int) := by omega
      have m0 : ((k : Int)).toNat = k := by omega
      by_cases hab : a = b
      · subst hab
        go_wp2
        go_quiet (fail)
        go_wp2
        go_roundw
        case rel =>
          refine ⟨k + 1, by omega, by go_num, aside (fun j hj => ?_), B1.drewN _, B2.drewN _, G.drewN _⟩
          by_cases hjk : j = k
          · subst hjk
            rw [HA.out, HB.out]
          · exact he.out j (by omega)
        case measure => simp [intOf]; omega
      · have hne : (a != b) = true := by simpa using hab
        have hl : less x y = decide (a < b) := by
          rw [less_at k hlt he.out (by rw [HA.out, HB.out]; exact hab), HA.out, HB.out]
        rw [hr.out] at hl
        go_wp2
        go_quiet (fail)
        go_wp2
        go_quiet (fail)
        go_wp2
        go_ret
        exact ⟨by rw [hl]; rfl, (G.drewN _).drewN _⟩
    · have hk' : k = 32 := by omega
      have hxy : x = y := Idn_ext_at (fun i hi => he.out i (by omega))
      have hl : less x y = false := by rw [hxy]; exact less_irrefl _
      rw [hr.out] at hl
      go_wp2
      go_ret
      exact ⟨by rw [hl]; rfl, G⟩

set_option maxHeartbeats 1000000 in
theorem rless_ret (x y : Idn) (w : World) : Calls Try.prog 21 #[.agg (cs x), .agg (cs y)] w fun e w' => e = .returned (.bool (less x y)) ∧ Grew w w' := by
  have s1 := cs_size x
  have s2 := cs_size y
  have B1 : Box ((w.alloc (.cells (cs x) 24)).alloc (.cells (cs y) 24)) w.heap.size x := (Box.new w x _).alloc _
  have B2 : Box ((w.alloc (.cells (cs x) 24)).alloc (.cells (cs y) 24)) (w.heap.size + 1) y := by
    have := Box.new (w.alloc (.cells (cs x) 24)) y 24
    simpa using this
  have G : Grew w ((w.alloc (.cells (cs x) 24)).alloc (.cells (cs y) 24)) := ((Grew.refl w).alloc _).alloc _
  obtain ⟨r, hr0⟩ : ∃ r, less x y = r := ⟨_, rfl⟩
  rw [hr0]
  have hr := aside hr0
  clear hr0
  go_enter Try.func21, Try.ntmps21
  go_wp2_with fail
  go_loopw [5] (fun i wr => ∃ k : Nat, k ≤ 32 ∧ i = .int .i64 k ∧ Hid (∀ j, j < k → x.1.getD j 0 = y.1.getD j 0) ∧ Box wr w.heap.size x ∧ Box wr (w.heap.size + 1) y ∧ Grew w wr) (fun i _ => 32 - (intOf i).toNat)
  case atStart => exact ⟨0, Nat.zero_le _, rfl, aside (fun j hj => absurd hj (Nat.not_lt_zero j)), B1, B2, G⟩
  case round =>
    clear B1 B2 G
    obtain ⟨k, hk, rfl, he, B1, B2, G⟩ := hrel
    by_cases hlt : k < 32
    · have c1 := B1.cell k hlt
      have c2 := B2.cell k hlt
      obtain ⟨a, ha⟩ : ∃ a, x.1.getD k 0 = a := ⟨_, rfl⟩
      obtain ⟨b, hb⟩ : ∃ b, y.1.getD k 0 = b := ⟨_, rfl⟩
      rw [ha] at c1
      rw [hb] at c2
      have HA := aside ha
      have HB := aside hb
      clear ha hb
      have p0 : (k : Int) < 32 := by omega
      have o0 : 0 ≤ (k : Int) := by omega
      have m0 : ((k : Int)).toNat = k := by omega
      by_cases hab : a = b
      · subst hab
        go_wp2
        go_quiet (fail)
        go_wp2
        go_roundw
        case rel =>
          refine ⟨k + 1, by omega, by go_num, aside (fun j hj => ?_), B1.drewN _, B2.drewN _, G.drewN _⟩
          by_cases hjk : j = k
          · subst hjk
            rw [HA.out, HB.out]
          · exact he.out j (by omega)
        case measure => simp [intOf]; omega
      · have hne : (a != b) = true := by simpa using hab
        have hl : less x y = decide (a < b) := by
          rw [less_at k hlt he.out (by rw [HA.out, HB.out]; exact hab), HA.out, HB.out]
        rw [hr.out] at hl
        go_wp2
        go_quiet (fail)
        go_wp2
        go_quiet (fail)
        go_wp2
        go_ret
        exact ⟨by rw [hl]; rfl, (G.drewN _).drewN _⟩
    · have hk' : k = 32 := by omega
      have hxy : x = y := Idn_ext_at (fun i hi => he.out i (by omega))
      have hl : less x y = false := by rw [hxy]; exact less_irrefl _
      rw [hr.out] at hl
      go_wp2
      go_ret
      exact ⟨by rw [hl]; rfl, G⟩

set_option maxHeartbeats 1000000 in
theorem order_ret (x y : Idn) (w : World) : Calls Try.prog 35 #[.agg (cs x), .agg (cs y)] w fun e w' => e = .returned (.int .i64 (cf x y)) ∧ Grew w w' := by
  have B1 : Box ((w.alloc (.cells (cs x) 24)).alloc (.cells (cs y) 24)) w.heap.size x := (Box.new w x _).alloc _
  have B2 : Box ((w.alloc (.cells (cs x) 24)).alloc (.cells (cs y) 24)) (w.heap.size + 1) y := by
    have := Box.new (w.alloc (.cells (cs x) 24)) y 24
    simpa using this
  have G : Grew w ((w.alloc (.cells (cs x) 24)).alloc (.cells (cs y) 24)) := ((Grew.refl w).alloc _).alloc _
  have heq := fun W => equal W 9998 x y
  by_cases hxy : x = y
  · subst hxy
    have hc : cf x x = 0 := by simp [cf]
    simp only [decide_true] at heq
    rw [hc]
    go_enter Try.func35, Try.ntmps35
    go_wp2_with (first | (refine wpList_load_box rfl _ rfl _ rfl _ B1 ?_) | (refine wpList_load_box rfl _ rfl _ rfl _ B2 ?_))
    go_ret
    exact ⟨rfl, G⟩
  · simp only [hxy, decide_false] at heq
    cases hl : less x y with
    | true =>
      have hc : cf x y = -1 := by simp [cf, hxy, hl]
      rw [hc]
      go_enter Try.func35, Try.ntmps35
      go_wp2_with (first | (refine wpList_load_box rfl _ rfl _ rfl _ B1 ?_) | (refine wpList_load_box rfl _ rfl _ rfl _ B2 ?_))
      refine (less_ret x y _).mono ?_
      rintro e w1 ⟨rfl, h1⟩
      rw [hl]
      go_wp2
      go_ret
      exact ⟨rfl, G.trans h1⟩
    | false =>
      have hc : cf x y = 1 := by simp [cf, hxy, hl]
      rw [hc]
      go_enter Try.func35, Try.ntmps35
      go_wp2_with (first | (refine wpList_load_box rfl _ rfl _ rfl _ B1 ?_) | (refine wpList_load_box rfl _ rfl _ rfl _ B2 ?_))
      refine (less_ret x y _).mono ?_
      rintro e w1 ⟨rfl, h1⟩
      rw [hl]
      go_wp2
      go_ret
      exact ⟨rfl, G.trans h1⟩
end Go.Proofs.Ytbggegpbcgcknaa.IdC
