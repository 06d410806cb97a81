/- What Has, Rises and Same (of ids, and of the document's answers) return: contracts. -/
import Derived.Test.YteojkfbnenfmkaaDoorEvWJ7
namespace Go.Proofs.YteojkfbnenfmkaaDoor.IdV
set_option maxRecDepth 100000
open Go Go.Sort Go.RowKit IdM Byt IdW IdC

/-- A load of one id among operations that only read. -/
theorem wpQuiet_load_id {ops : Array Oper} {C : World → Prop} {Q : Act → Prop} {a : Act} {o : Oper} {rest : List Oper} (hgd : o.guard = none) (x : Operand) (ho : o.op = .load 42 x)
    (b off : Nat) (hx : a.eval x = .pointer (some ⟨b, off, none⟩)) (y : Idn) (hc : ∀ w, C w → w.rangeAt b off (bv y.1)) (h : wpQuiet Tryd.prog ops C Q rest (a.put o.dst (.agg (cs y)))) : wpQuiet Tryd.prog ops C Q (o :: rest) a := by
  refine BigFrame.wpQuiet_want (by simp [Region.wanted, hgd]) (fun K hK => ⟨.agg (cs y), fun w hw => ?_, hK _ h⟩)
  have q := load_mid (hc w hw)
  unfold Oper.quietAt execOp
  simp only [ho, hx, Sem.run_bind, q, Result.andThen_ok, Sem.run_pure]
  exact ⟨rfl, rfl⟩
/-- .. inside a region that grows. -/
theorem reads_id {l : List Oper} {i : Nat} {o : Oper} {r : List (Nat × Bool)} {a : Act} {w : World} {Q : Exit → Act → World → Prop} (hn : Grow.nth l i = some o) (hgd : o.guard = none) (x : Operand) (ho : o.op = .load 42 x)
    (b off : Nat) (hx : a.eval x = .pointer (some ⟨b, off, none⟩)) (y : Idn) (hc : w.rangeAt b off (bv y.1)) (h : Grow.Seq Tryd.prog l.toArray Q r (a.put o.dst (.agg (cs y))) w) : Grow.Seq Tryd.prog l.toArray Q ((i, true) :: r) a w :=
  Grow.reads hn (by unfold Grow.plain; rw [ho]) (wpQuiet_load_id hgd x ho b off hx y (fun _ ⟨p, e⟩ => by rw [e]; exact range_below hc (below_regrown w p.d p.os)) (wpQuiet_nil h))
theorem mem_iff_get {l : List Idn} {x : Idn} : x ∈ l ↔ ∃ i, i < l.length ∧ l.getD i nought = x := by
  constructor
  · intro h
    obtain ⟨i, hi, e⟩ := List.getElem_of_mem h
    exact ⟨i, hi, by rw [List.getD_eq_getElem?_getD, List.getElem?_eq_getElem hi]; exact e⟩
  · rintro ⟨i, hi, rfl⟩
    rw [List.getD_eq_getElem?_getD, List.getElem?_eq_getElem hi]
    exact List.getElem_mem hi

set_option maxHeartbeats 1000000 in
theorem has_ret (A : Option Addr) (cap : Nat) (l : List Idn) (x : Idn) (w : World) (S : SlI w A cap l) :
    Calls Tryd.prog 20 #[.slice A l.length cap, .agg (cs x)] w fun e w' => e = .returned (.bool (decide (x ∈ l))) ∧ Below w.heap.size w w' := by
  have hcap := S.1
  have hmax : l.length ≤ 9223372036854775807 := by have := S.2.1; unfold maxLen at this; omega
  obtain ⟨r, hr0⟩ : ∃ r, decide (x ∈ l) = r := ⟨_, rfl⟩
  rw [hr0]
  have hr := aside hr0
  clear hr0
  have B1 : Box (w.alloc (.cells (cs x) 42)) w.heap.size x := Box.new w x _
  go_enter Tryd.func20, Tryd.ntmps20
  go_wp2_with fail
  go_loopw [9] (fun i wr => ∃ k : Nat, k ≤ l.length ∧ i = .int .i64 k ∧ Hid (∀ j, j < k → l.getD j nought ≠ x) ∧ Box wr w.heap.size x ∧ Below w.heap.size w wr) (fun i _ => l.length - (intOf i).toNat)
  case atStart => exact ⟨0, Nat.zero_le _, rfl, aside (fun j hj => absurd hj (Nat.not_lt_zero j)), B1, (Below.refl _ _).alloc (Nat.le_refl _) _⟩
  case round =>
    clear B1
    obtain ⟨k, hk, rfl, he, B1, kb⟩ := hrel
    by_cases hlt : k < l.length
    · obtain ⟨b, off, rfl, hbw, hrg⟩ := S.plain (by omega)
      have hr1 := range_below (hrg k hlt) kb
      obtain ⟨y, hy⟩ : ∃ y, l.getD k nought = y := ⟨_, rfl⟩
      rw [hy] at hr1
      have HY := aside hy
      have p0 : (k : Int) < l.length := by omega
      have m0 : ((k : Int)).toNat = k := by omega
      clear hrg S hy
      have heq := fun W => equal W 9998 y x
      by_cases hyx : y = x
      · have hl : r = true := by rw [← hr.out]; exact decide_eq_true (mem_iff_get.2 ⟨k, hlt, HY.out.trans hyx⟩)
        simp only [hyx, decide_true] at heq
        subst hyx
        go_wp2_with (first | (refine wpList_load_id rfl _ rfl _ _ rfl y hr1 ?_) | (refine wpList_store_new rfl _ _ rfl _ _ y _ rfl _ rfl (by simp) rfl rfl ?_) | (refine wpList_load_box rfl _ rfl _ rfl y (Box.new wr y _) ?_) | (refine wpList_load_box rfl _ rfl _ rfl y (B1.alloc _) ?_))
        go_ret
        exact ⟨by rw [hl]; rfl, kb.alloc kb.size _⟩
      · simp only [hyx, decide_false] at heq
        go_wp2_with (first | (refine wpList_load_id rfl _ rfl _ _ rfl y hr1 ?_) | (refine wpList_store_new rfl _ _ rfl _ _ y _ rfl _ rfl (by simp) rfl rfl ?_) | (refine wpList_load_box rfl _ rfl _ rfl y (Box.new wr y _) ?_) | (refine wpList_load_box rfl _ rfl _ rfl x (B1.alloc _) ?_))
        go_roundw
        case rel =>
          refine ⟨k + 1, by omega, by go_num, aside (fun j hj => ?_), B1.alloc _, kb.alloc kb.size _⟩
          by_cases hjk : j = k
          · subst hjk
            rw [HY.out]
            exact hyx
          · exact he.out j (by omega)
        case measure => simp [intOf]; omega
    · have hl : r = false := by
        rw [← hr.out]
        refine decide_eq_false (fun hm => ?_)
        obtain ⟨i, hi, e⟩ := mem_iff_get.1 hm
        exact he.out i (by omega) e
      go_wp2
      go_ret
      exact ⟨by rw [hl]; rfl, kb⟩


set_option maxHeartbeats 1000000 in
theorem rises_ret (A : Option Addr) (cap : Nat) (l : List Idn) (w : World) (S : SlI w A cap l) :
    Calls Tryd.prog 21 #[.slice A l.length cap] w fun e w' => e = .returned (.bool (risesB l)) ∧ Below w.heap.size w w' := by
  have hcap := S.1
  have hmax : l.length ≤ 9223372036854775807 := by have := S.2.1; unfold maxLen at this; omega
  obtain ⟨r, hr0⟩ : ∃ r, risesB l = r := ⟨_, rfl⟩
  rw [hr0]
  have hr := aside hr0
  clear hr0
  go_enter Tryd.func21, Tryd.ntmps21
  go_wp2_with fail
  go_loopw [3] (fun i wr => ∃ k : Nat, 1 ≤ k ∧ (k ≤ l.length ∨ k = 1) ∧ i = .int .i64 k ∧ Hid (∀ j, j + 1 < k → less (l.getD j nought) (l.getD (j + 1) nought) = true) ∧ Below w.heap.size w wr) (fun i _ => l.length + 1 - (intOf i).toNat)
  case atStart => exact ⟨1, Nat.le_refl _, .inr rfl, rfl, aside (fun j hj => absurd hj (by omega)), Below.refl _ _⟩
  case round =>
    obtain ⟨k, hk1, hk, rfl, he, kb⟩ := hrel
    by_cases hlt : k < l.length
    · obtain ⟨b, off, rfl, hbw, hrg⟩ := S.plain (by omega)
      have ra := range_below (hrg (k - 1) (by omega)) kb
      have rb := range_below (hrg k hlt) kb
      obtain ⟨x, hx⟩ : ∃ x, l.getD (k - 1) nought = x := ⟨_, rfl⟩
      obtain ⟨y, hy⟩ : ∃ y, l.getD k nought = y := ⟨_, rfl⟩
      rw [hx] at ra
      rw [hy] at rb
      have HX := aside hx
      have HY := aside hy
      have p0 : (k : Int) < l.length := by omega
      have m0 : ((k : Int)).toNat = k := by omega
      have p1 : (k : Int) - 1 < l.length := by omega
      have o1 : 0 ≤ (k : Int) - 1 := by omega
      have m1 : ((k : Int) - 1).toNat = k - 1 := by omega
      clear hrg S hx hy
      cases hl : less x y with
      | true =>
        go_wp2
        refine Grow.region [(0, true), (1, true), (2, true), (3, true), (4, true), (5, true), (6, true), (7, true), (8, true), (9, false), (10, true)] (by kernel_rfl) (by kernel_rfl) rfl (by kernel_rfl) (by intro c a d v w h; cases d <;> exact h) ?_
        have ra' : wr.drew.rangeAt b (off + (k - 1) * 32) (bv x.1) := ra
        have rb' : wr.drew.rangeAt b (off + k * 32) (bv y.1) := rb
        have kd := below_drew1 kb
        generalize wr.drew = W at ra' rb' kd ⊢
        repeat (first | (refine reads_id rfl rfl _ rfl _ _ rfl x ra' ?_; simp only [Act.put, List.setIfInBounds_toArray, List.set_cons_succ, List.set_cons_zero]) | (refine reads_id rfl rfl _ rfl _ _ rfl y rb' ?_; simp only [Act.put, List.setIfInBounds_toArray, List.set_cons_succ, List.set_cons_zero]) | (refine Grow.reads rfl rfl ?_; go_big_quiet_step (fail); refine wpQuiet_nil ?_))
        refine Grow.acts rfl ?_
        go_wp2_with fail
        refine (less_ret x y W).mono ?_
        rintro e w1 ⟨rfl, g1⟩
        rw [hl]
        go_wp2_with fail
        refine ⟨g1.below, ?_⟩
        refine Grow.reads rfl rfl ?_
        go_big_quiet_step (fail)
        refine wpQuiet_nil ?_
        refine Grow.ends ?_
        go_wp2
        go_roundw
        case rel =>
          refine ⟨k + 1, by omega, .inl (by omega), by go_num, aside (fun j hj => ?_), kd.trans (g1.below.mono kd.size)⟩
          by_cases hjk : j + 1 = k
          · subst hjk
            rw [Nat.add_sub_cancel] at HX
            rw [HX.out, HY.out]
            exact hl
          · exact he.out j (by omega)
        case measure => simp [intOf]; omega
      | false =>
        have hrf : r = false := by
          rw [← hr.out]
          unfold risesB
          rw [List.all_eq_false]
          refine ⟨k - 1, by simp; omega, ?_⟩
          rw [Nat.sub_add_cancel hk1, HX.out, HY.out, hl]
          simp
        go_wp2
        refine Grow.region [(0, true), (1, true), (2, true), (3, true), (4, true), (5, true), (6, true), (7, true), (8, true), (9, false), (10, true)] (by kernel_rfl) (by kernel_rfl) rfl (by kernel_rfl) (by intro c a d v w h; cases d <;> exact h) ?_
        have ra' : wr.drew.rangeAt b (off + (k - 1) * 32) (bv x.1) := ra
        have rb' : wr.drew.rangeAt b (off + k * 32) (bv y.1) := rb
        have kd := below_drew1 kb
        generalize wr.drew = W at ra' rb' kd ⊢
        repeat (first | (refine reads_id rfl rfl _ rfl _ _ rfl x ra' ?_; simp only [Act.put, List.setIfInBounds_toArray, List.set_cons_succ, List.set_cons_zero]) | (refine reads_id rfl rfl _ rfl _ _ rfl y rb' ?_; simp only [Act.put, List.setIfInBounds_toArray, List.set_cons_succ, List.set_cons_zero]) | (refine Grow.reads rfl rfl ?_; go_big_quiet_step (fail); refine wpQuiet_nil ?_))
        refine Grow.acts rfl ?_
        go_wp2_with fail
        refine (less_ret x y W).mono ?_
        rintro e w1 ⟨rfl, g1⟩
        rw [hl]
        go_wp2_with fail
        refine ⟨g1.below, ?_⟩
        refine Grow.reads rfl rfl ?_
        go_big_quiet_step (fail)
        refine wpQuiet_nil ?_
        refine Grow.ends ?_
        go_wp2
        go_ret
        exact ⟨by rw [hrf]; rfl, kd.trans (g1.below.mono kd.size)⟩
    · have hrt : r = true := by
        rw [← hr.out]
        unfold risesB
        rw [List.all_eq_true]
        intro i hi
        exact he.out i (by simp at hi; omega)
      go_wp2
      go_ret
      exact ⟨by rw [hrt]; rfl, kb⟩


set_option maxHeartbeats 1000000 in
theorem same_ret (A A' : Option Addr) (cap cap' : Nat) (l l' : List Idn) (w : World) (S : SlI w A cap l) (S' : SlI w A' cap' l') :
    Calls Tryd.prog 49 #[.slice A l.length cap, .slice A' l'.length cap'] w fun e w' => e = .returned (.bool (decide (l = l'))) ∧ Below w.heap.size w w' := by
  have hmax : l.length ≤ 9223372036854775807 := by have := S.1; have := S.2.1; unfold maxLen at this; omega
  have hmax' : l'.length ≤ 9223372036854775807 := by have := S'.1; have := S'.2.1; unfold maxLen at this; omega
  obtain ⟨r, hr0⟩ : ∃ r, decide (l = l') = r := ⟨_, rfl⟩
  rw [hr0]
  have hr := aside hr0
  clear hr0
  by_cases hlen : l.length = l'.length
  · have hl0 : ((l.length : Int) != l'.length) = false := by simp [hlen]
    go_enter Tryd.func49, Tryd.ntmps49
    go_wp2_with fail
    go_loopw [5] (fun i wr => ∃ k : Nat, k ≤ l.length ∧ i = .int .i64 k ∧ Hid (∀ j, j < k → l.getD j nought = l'.getD j nought) ∧ Below w.heap.size w wr) (fun i _ => l.length - (intOf i).toNat)
    case atStart => exact ⟨0, Nat.zero_le _, rfl, aside (fun j hj => absurd hj (Nat.not_lt_zero j)), Below.refl _ _⟩
    case round =>
      obtain ⟨k, hk, rfl, he, kb⟩ := hrel
      by_cases hlt : k < l.length
      · obtain ⟨b, off, rfl, hbw, hrg⟩ := S.plain (by omega)
        obtain ⟨b', off', rfl, hbw', hrg'⟩ := S'.plain (by omega)
        have ra := range_below (hrg k hlt) kb
        have rb := range_below (hrg' k (by omega)) kb
        obtain ⟨x, hx⟩ : ∃ x, l.getD k nought = x := ⟨_, rfl⟩
        obtain ⟨y, hy⟩ : ∃ y, l'.getD k nought = y := ⟨_, rfl⟩
        rw [hx] at ra
        rw [hy] at rb
        have HX := aside hx
        have HY := aside hy
        have p0 : (k : Int) < l.length := by omega
        have p1 : (k : Int) < l'.length := by omega
        have m0 : ((k : Int)).toNat = k := by omega
        clear hrg hrg' S S' hx hy hl0
        have heq := fun W => equal W 9998 x y
        by_cases hxy : x = y
        · simp only [hxy, decide_true] at heq
          subst hxy
          go_wp2
          refine wp_region_quiet_lit (by kernel_rfl) (by kernel_rfl) ?_
          repeat (first | (refine wpQuiet_load_id rfl _ rfl _ _ rfl x (fun _ ⟨_, e⟩ => by rw [e]; exact ra) ?_; simp only [Act.put, List.setIfInBounds_toArray, List.set_cons_succ, List.set_cons_zero]) | (refine wpQuiet_load_id rfl _ rfl _ _ rfl x (fun _ ⟨_, e⟩ => by rw [e]; exact rb) ?_; simp only [Act.put, List.setIfInBounds_toArray, List.set_cons_succ, List.set_cons_zero]) | go_big_quiet_step (fail))
          refine wpQuiet_nil ?_
          rintro _ ⟨nq, rfl⟩
          go_wp2
          go_roundw
          case rel =>
            refine ⟨k + 1, by omega, by go_num, aside (fun j hj => ?_), below_drew kb _⟩
            by_cases hjk : j = k
            · subst hjk
              rw [HX.out, HY.out]
            · exact he.out j (by omega)
          case measure => simp [intOf]; omega
        · simp only [hxy, decide_false] at heq
          have hrf : r = false := by
            rw [← hr.out]
            refine decide_eq_false (fun e => hxy ?_)
            rw [← HX.out, ← HY.out, e]
          go_wp2
          refine wp_region_quiet_lit (by kernel_rfl) (by kernel_rfl) ?_
          repeat (first | (refine wpQuiet_load_id rfl _ rfl _ _ rfl x (fun _ ⟨_, e⟩ => by rw [e]; exact ra) ?_; simp only [Act.put, List.setIfInBounds_toArray, List.set_cons_succ, List.set_cons_zero]) | (refine wpQuiet_load_id rfl _ rfl _ _ rfl y (fun _ ⟨_, e⟩ => by rw [e]; exact rb) ?_; simp only [Act.put, List.setIfInBounds_toArray, List.set_cons_succ, List.set_cons_zero]) | go_big_quiet_step (fail))
          refine wpQuiet_nil ?_
          rintro _ ⟨nq, rfl⟩
          go_wp2
          go_ret
          exact ⟨by rw [hrf]; rfl, below_drew kb _⟩
      · have hrt : r = true := by
          rw [← hr.out]
          refine decide_eq_true (List.ext_getElem hlen (fun i h1 h2 => ?_))
          have := he.out i (by omega)
          rw [List.getD_eq_getElem?_getD, List.getD_eq_getElem?_getD, List.getElem?_eq_getElem h1, List.getElem?_eq_getElem h2] at this
          exact this
        go_wp2
        go_ret
        exact ⟨by rw [hrt]; rfl, kb⟩
  · have hl0 : ((l.length : Int) != l'.length) = true := by simp; omega
    have hrf : r = false := by
      rw [← hr.out]
      exact decide_eq_false (fun e => hlen (by rw [e]))
    go_enter Tryd.func49, Tryd.ntmps49
    go_wp2
    go_ret
    exact ⟨by rw [hrf]; rfl, Below.refl _ _⟩
end Go.Proofs.YteojkfbnenfmkaaDoor.IdV
