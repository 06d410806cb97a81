/- What the project's place, merge, event, May, Merge and Same of package commit return: contracts. -/
import Derived.Test.YteojkfbnenfmkaaDoorCmRJ6
import Derived.Test.YteojkfbnenfmkaaDoorOpsC
namespace Go.Proofs.YteojkfbnenfmkaaDoor.CmV
set_option maxRecDepth 100000
open Go Go.RowKit Byt IdM IdW OpsM OpsW CmM StW CmW

/-- What a function that tells whether something is so answers. -/
def Tells (b : Bool) (w : World) (e : Ending) (w' : World) : Prop := e = .returned (.bool b) ∧ Below w.heap.size w w'
set_option maxHeartbeats 4000000 in
theorem event_ret (n s : Int) (w : World) : Calls Tryd.prog 29 #[.agg #[.int .i64 n, .int .i64 s]] w (Tells (StM.eventB n s) w) := by
  have R : Cel.Box EE (w.alloc (.cells (ec ⟨n, s⟩) 24)) w.heap.size (⟨n, s⟩ : Ev) := Cel.Box.new w (⟨n, s⟩ : Ev) _
  have kb := StW.below_alloc w (.cells (ec ⟨n, s⟩) 24)
  obtain ⟨c0, c1⟩ := ev_cells R
  clear R
  obtain ⟨r, hr⟩ : ∃ r, StM.eventB n s = r := ⟨_, rfl⟩
  have hn : r = StM.eventB n s := hr.symm
  rw [hr]
  unfold StM.eventB at hn
  clear hr
  have HN := aside hn
  clear hn
  have hw : ¬ 0 ≤ n ∨ (0 ≤ n ∧ (¬ n < 8 ∨ (n < 8 ∧ (¬ 1 ≤ s ∨ (1 ≤ s ∧ (¬ s ≤ 1048576 ∨ s ≤ 1048576)))))) := by omega
  rcases hw with p2 | ⟨p2, p3 | ⟨p3, p4 | ⟨p4, p5 | p5⟩⟩⟩
  all_goals
    go_enter Tryd.func29, Tryd.ntmps29
    go_wp2
    go_ret
    exact ⟨StW.ret_bool (by rw [HN.out]; simp; omega), kb⟩
set_option maxRecDepth 100000 in
set_option maxHeartbeats 8000000 in
theorem merge_in (v : Cv) (w : World) : Calls Tryd.prog 28 #[.agg (cc v)] w (Tells (mergeB v.c) w) := by
  have R : Cel.Box CE (w.alloc (.cells (cc v) 29)) w.heap.size v := Cel.Box.new w v _
  have kb := StW.below_alloc w (.cells (cc v) 29)
  have qe := fun W => equal_ev 9998 W v.c.node v.c.seq (-1) 0
  have qo := fun W => equal_nought W v.c.op
  have d3 := cell_ps R
  obtain ⟨x, hx⟩ : ∃ x, sameE v.c.node v.c.seq (-1) 0 = x := ⟨_, rfl⟩
  obtain ⟨z, hz⟩ : ∃ z, noughtO v.c.op = z := ⟨_, rfl⟩
  obtain ⟨n, hn⟩ : ∃ n, v.c.ps.length = n := ⟨_, rfl⟩
  have HR : Hid (mergeB v.c = (x && (z && decide (2 ≤ (n : Int))))) := aside (by
    unfold mergeB
    rw [hz, hn, ← hx]
    unfold sameE
    rw [show decide (2 ≤ (n : Int)) = decide (2 ≤ n) by rw [Bool.eq_iff_iff]; simp; omega]
    simp only [Bool.and_assoc])
  rw [hx] at qe
  rw [hz] at qo
  rw [hn] at d3
  clear hx hz hn
  have hxz : x = false ∨ x = true ∧ z = false ∨ x = true ∧ z = true := by cases x <;> cases z <;> simp
  unfold Tells
  rcases hxz with rfl | ⟨rfl, rfl⟩ | ⟨rfl, rfl⟩
  all_goals
    go_enter Tryd.func28, Tryd.ntmps28
    go_wp2_with (first | go_skip | (refine gkev _ rfl _ rfl v R rfl ?_) | (refine gkop _ rfl _ rfl v R rfl ?_))
    go_ret
    exact ⟨StW.ret_bool (by rw [HR.out]; rfl), kb⟩
theorem line_is {c : Com} {n : Nat} {r x y : Bool} (hn : c.ps.length = n) (hr : risesB c.ps = r) (hx : (c.gen == 1) = x) (hy : ((n : Int) == 0) = y) :
    lineB c = (decide (1 ≤ c.gen) && (decide (c.gen ≤ 1048576) && (decide ((n : Int) ≤ 8) && (r && (x == y))))) := by
  subst hn hr hx hy
  unfold lineB
  rw [show decide ((c.ps.length : Int) ≤ 8) = decide (c.ps.length ≤ 8) by rw [Bool.eq_iff_iff]; simp; omega, show ((c.ps.length : Int) == 0) = decide (c.ps.length = 0) by rw [Bool.eq_iff_iff]; simp]
  rfl
set_option maxRecDepth 100000 in
set_option maxHeartbeats 8000000 in
theorem place_ret (v : Cv) (w : World) (S : In w v) : Calls Tryd.prog 27 #[.agg (cc v)] w (Tells (lineB v.c) w) := by
  have R : Cel.Box CE (w.alloc (.cells (cc v) 29)) w.heap.size v := Cel.Box.new w v _
  have kb := StW.below_alloc w (.cells (cc v) 29)
  have S0 := S.below kb
  have q0 := fun W T => IdV.rises_ret v.a v.k v.c.ps W T
  obtain ⟨r, hr⟩ : ∃ r, risesB v.c.ps = r := ⟨_, rfl⟩
  obtain ⟨n, hn⟩ : ∃ n, v.c.ps.length = n := ⟨_, rfl⟩
  obtain ⟨x, hx⟩ : ∃ x, (v.c.gen == 1) = x := ⟨_, rfl⟩
  obtain ⟨y, hy⟩ : ∃ y, ((n : Int) == 0) = y := ⟨_, rfl⟩
  have HR := aside (line_is hn hr hx hy)
  have HN := aside hn
  have d1 := cell_gen R
  have d3 := cell_ps R
  rw [hn] at d3 q0
  rw [hr] at q0
  obtain ⟨g, hg⟩ : ∃ g, v.c.gen = g := ⟨_, rfl⟩
  have HG := aside hg
  rw [hg] at d1 hx HR
  clear hr S hn hg
  unfold Tells
  have hw : g < 1 ∨ (1 ≤ g ∧ (1048576 < g ∨ (g ≤ 1048576 ∧ (8 < (n : Int) ∨ (n : Int) ≤ 8)))) := by omega
  rcases hw with p | ⟨p1, p | ⟨p2, p | p⟩⟩
  case inr.inr.inr =>
    go_enter Tryd.func27, Tryd.ntmps27
    go_wp2_with (first | go_skip)
    refine (q0 _ S0).mono ?_
    rintro e w1 ⟨rfl, k1⟩
    have R1 := R.below k1
    have b1 := kb.trans (k1.mono kb.size)
    clear q0 d1 d3 R S0 k1 kb
    have d1 := cell_gen R1
    have d3 := cell_ps R1
    rw [HN.out] at d3
    rw [HG.out] at d1
    have hw : r = false ∨ r = true ∧ x = false ∧ y = false ∨ r = true ∧ x = false ∧ y = true ∨ r = true ∧ x = true ∧ y = false ∨ r = true ∧ x = true ∧ y = true := by cases r <;> cases x <;> cases y <;> simp
    rcases hw with rfl | ⟨rfl, rfl, rfl⟩ | ⟨rfl, rfl, rfl⟩ | ⟨rfl, rfl, rfl⟩ | ⟨rfl, rfl, rfl⟩
    all_goals
      go_wp2_with (first | go_skip)
      go_ret
      exact ⟨StW.ret_bool (by rw [HR.out]; simp; try omega), b1⟩
  all_goals
    go_enter Tryd.func27, Tryd.ntmps27
    go_wp2_with (first | go_skip)
    go_ret
    exact ⟨StW.ret_bool (by rw [HR.out]; simp; omega), kb⟩
set_option maxRecDepth 100000 in
set_option maxHeartbeats 8000000 in
theorem may_ret (v : Cv) (w : World) (S : In w v) (hf : Fit v.c) : Calls Tryd.prog 13 #[.agg (cc v)] w (Tells (mayK v.c) w) := by
  have R : Cel.Box CE (w.alloc (.cells (cc v) 29)) w.heap.size v := Cel.Box.new w v _
  have kb := StW.below_alloc w (.cells (cc v) 29)
  have S0 := S.below kb
  have q1 := fun W T => place_ret v W T
  have q2 := fun W => merge_in v W
  have q3 := fun W => event_ret v.c.node v.c.seq W
  have q4 := fun W => OpsC.may v.c.op W hf.op
  obtain ⟨z1, h1⟩ : ∃ z, lineB v.c = z := ⟨_, rfl⟩
  obtain ⟨z2, h2⟩ : ∃ z, mergeB v.c = z := ⟨_, rfl⟩
  obtain ⟨z3, h3⟩ : ∃ z, StM.eventB v.c.node v.c.seq = z := ⟨_, rfl⟩
  obtain ⟨z4, h4⟩ : ∃ z, mayO v.c.op = z := ⟨_, rfl⟩
  have HR : Hid (mayK v.c = (z1 && (z2 || (z3 && z4)))) := aside (by unfold mayK; rw [h1, h2, h3, h4])
  rw [h1] at q1
  rw [h2] at q2
  rw [h3] at q3
  rw [h4] at q4
  clear h1 h2 h3 h4 S hf
  unfold Tells at q1 q2 q3 ⊢
  go_enter Tryd.func13, Tryd.ntmps13
  go_wp2_with (first | go_skip | (refine gload _ rfl _ rfl v R rfl ?_))
  refine (q1 _ S0).mono ?_
  rintro e w1 ⟨rfl, k1⟩
  have R1 := R.below k1
  have b1 := kb.trans (k1.mono kb.size)
  clear q1 R S0 k1 kb
  cases z1 with
  | false =>
    go_wp2_with (first | go_skip)
    go_ret
    exact ⟨StW.ret_bool (by rw [HR.out]; rfl), b1⟩
  | true =>
    go_wp2_with (first | go_skip | (refine gload _ rfl _ rfl v R1 rfl ?_))
    refine (q2 _).mono ?_
    rintro e w2 ⟨rfl, k2⟩
    have R2 := R1.below k2
    have b2 := b1.trans (k2.mono b1.size)
    clear q2 R1 k2 b1
    cases z2 with
    | true =>
      go_wp2_with (first | go_skip)
      go_ret
      exact ⟨StW.ret_bool (by rw [HR.out]; rfl), b2⟩
    | false =>
      go_wp2_with (first | go_skip | (refine gkev _ rfl _ rfl v R2 rfl ?_))
      refine (q3 _).mono ?_
      rintro e w3 ⟨rfl, k3⟩
      have R3 := R2.below k3
      have b3 := b2.trans (k3.mono b2.size)
      clear q3 R2 k3 b2
      cases z3 with
      | false =>
        go_wp2_with (first | go_skip)
        go_ret
        exact ⟨StW.ret_bool (by rw [HR.out]; rfl), b3⟩
      | true =>
        go_wp2_with (first | go_skip | (refine gkop _ rfl _ rfl v R3 rfl ?_))
        refine (q4 _).mono ?_
        rintro e w4 ⟨rfl, k4⟩
        have b4 := b3.trans (k4.mono b3.size)
        go_wp2_with (first | go_skip)
        go_ret
        exact ⟨StW.ret_bool (by rw [HR.out]; rfl), b4⟩
set_option maxRecDepth 100000 in
set_option maxHeartbeats 8000000 in
theorem merge_ret (v : Cv) (w : World) (S : In w v) : Calls Tryd.prog 14 #[.agg (cc v)] w (Tells (isM v.c) w) := by
  have R : Cel.Box CE (w.alloc (.cells (cc v) 29)) w.heap.size v := Cel.Box.new w v _
  have kb := StW.below_alloc w (.cells (cc v) 29)
  have S0 := S.below kb
  have q1 := fun W T => place_ret v W T
  have q2 := fun W => merge_in v W
  have hm : isM v.c = (lineB v.c && mergeB v.c) := by rw [Bool.eq_iff_iff, isM_iff, Bool.and_eq_true]
  obtain ⟨z1, h1⟩ : ∃ z, lineB v.c = z := ⟨_, rfl⟩
  obtain ⟨z2, h2⟩ : ∃ z, mergeB v.c = z := ⟨_, rfl⟩
  rw [h1, h2] at hm
  have HR := aside hm
  rw [h1] at q1
  rw [h2] at q2
  clear h1 h2 S hm
  unfold Tells at q1 q2 ⊢
  go_enter Tryd.func14, Tryd.ntmps14
  go_wp2_with (first | go_skip | (refine gload _ rfl _ rfl v R rfl ?_))
  refine (q1 _ S0).mono ?_
  rintro e w1 ⟨rfl, k1⟩
  have R1 := R.below k1
  have b1 := kb.trans (k1.mono kb.size)
  clear q1 R S0 k1 kb
  cases z1 with
  | false =>
    go_wp2_with (first | go_skip)
    go_ret
    exact ⟨StW.ret_bool (by rw [HR.out]; rfl), b1⟩
  | true =>
    go_wp2_with (first | go_skip | (refine gload _ rfl _ rfl v R1 rfl ?_))
    refine (q2 _).mono ?_
    rintro e w2 ⟨rfl, k2⟩
    have b2 := b1.trans (k2.mono b1.size)
    go_wp2_with (first | go_skip)
    go_ret
    exact ⟨StW.ret_bool (by rw [HR.out]; rfl), b2⟩
set_option maxRecDepth 100000 in
set_option maxHeartbeats 4000000 in
/-- What slices.Equal returns of two lists of ids. -/
theorem equal_ids (A A' : Option Addr) (cap cap' : Nat) (l l' : List Idn) (w : World) (S : SlI w A cap l) (S' : SlI w A' cap' l') :
    Calls Tryd.prog 26 #[.slice A l.length cap, .slice A' l'.length cap'] w (Tells (decide (l = l')) w) := by
  have hmax : l.length ≤ 9223372036854775807 := by have := S.1; have := S.2.1; unfold maxLen at this; omega
  have hmax' : l'.length ≤ 9223372036854775807 := by have := S'.1; have := S'.2.1; unfold maxLen at this; omega
  obtain ⟨r, hr0⟩ : ∃ r, decide (l = l') = r := ⟨_, rfl⟩
  rw [hr0]
  unfold Tells
  have hr := aside hr0
  clear hr0
  by_cases hlen : l.length = l'.length
  · have hl0 : ((l.length : Int) != l'.length) = false := by simp [hlen]
    go_enter Tryd.func26, Tryd.ntmps26
    go_wp2_with fail
    go_loopw [13] (fun i wr => ∃ k : Nat, k ≤ l.length ∧ i = .int .i64 k ∧ Hid (∀ j, j < k → l.getD j nought = l'.getD j nought) ∧ Below w.heap.size w wr) (fun i _ => l.length - (intOf i).toNat)
    case atStart => exact ⟨0, Nat.zero_le _, rfl, aside (fun j hj => absurd hj (Nat.not_lt_zero j)), Below.refl _ _⟩
    case round =>
      obtain ⟨k, hk, rfl, he, kb⟩ := hrel
      by_cases hlt : k < l.length
      · obtain ⟨b, off, rfl, hbw, hrg⟩ := S.plain (by omega)
        obtain ⟨b', off', rfl, hbw', hrg'⟩ := S'.plain (by omega)
        have ra := IdW.range_below (hrg k hlt) kb
        have rb := IdW.range_below (hrg' k (by omega)) kb
        obtain ⟨x, hx⟩ : ∃ x, l.getD k nought = x := ⟨_, rfl⟩
        obtain ⟨y, hy⟩ : ∃ y, l'.getD k nought = y := ⟨_, rfl⟩
        rw [hx] at ra
        rw [hy] at rb
        have HX := aside hx
        have HY := aside hy
        have p0 : (k : Int) < l.length := by omega
        have p1 : (k : Int) < l'.length := by omega
        have m0 : ((k : Int)).toNat = k := by omega
        clear hrg hrg' S S' hx hy hl0
        have heq := fun W => IdW.equal W 9998 x y
        by_cases hxy : x = y
        · simp only [hxy, decide_true] at heq
          subst hxy
          go_wp2
          refine wp_region_quiet_lit (by kernel_rfl) (by kernel_rfl) ?_
          repeat (first | (refine IdV.wpQuiet_load_id rfl _ rfl _ _ rfl x (fun _ ⟨_, e⟩ => by rw [e]; exact ra) ?_; simp only [Act.put, List.setIfInBounds_toArray, List.set_cons_succ, List.set_cons_zero]) | (refine IdV.wpQuiet_load_id rfl _ rfl _ _ rfl x (fun _ ⟨_, e⟩ => by rw [e]; exact rb) ?_; simp only [Act.put, List.setIfInBounds_toArray, List.set_cons_succ, List.set_cons_zero]) | go_big_quiet_step (fail))
          refine wpQuiet_nil ?_
          rintro _ ⟨nq, rfl⟩
          go_wp2
          go_roundw
          case rel =>
            refine ⟨k + 1, by omega, by go_num, aside (fun j hj => ?_), below_drew kb _⟩
            by_cases hjk : j = k
            · subst hjk
              rw [HX.out, HY.out]
            · exact he.out j (by omega)
          case measure => simp [intOf]; omega
        · simp only [hxy, decide_false] at heq
          have hrf : r = false := by
            rw [← hr.out]
            refine decide_eq_false (fun e => hxy ?_)
            rw [← HX.out, ← HY.out, e]
          go_wp2
          refine wp_region_quiet_lit (by kernel_rfl) (by kernel_rfl) ?_
          repeat (first | (refine IdV.wpQuiet_load_id rfl _ rfl _ _ rfl x (fun _ ⟨_, e⟩ => by rw [e]; exact ra) ?_; simp only [Act.put, List.setIfInBounds_toArray, List.set_cons_succ, List.set_cons_zero]) | (refine IdV.wpQuiet_load_id rfl _ rfl _ _ rfl y (fun _ ⟨_, e⟩ => by rw [e]; exact rb) ?_; simp only [Act.put, List.setIfInBounds_toArray, List.set_cons_succ, List.set_cons_zero]) | go_big_quiet_step (fail))
          refine wpQuiet_nil ?_
          rintro _ ⟨nq, rfl⟩
          go_wp2
          go_ret
          exact ⟨by rw [hrf]; rfl, below_drew kb _⟩
      · have hrt : r = true := by
          rw [← hr.out]
          refine decide_eq_true (List.ext_getElem hlen (fun i h1 h2 => ?_))
          have := he.out i (by omega)
          rw [List.getD_eq_getElem?_getD, List.getD_eq_getElem?_getD, List.getElem?_eq_getElem h1, List.getElem?_eq_getElem h2] at this
          exact this
        go_wp2
        go_ret
        exact ⟨by rw [hrt]; rfl, kb⟩
  · have hl0 : ((l.length : Int) != l'.length) = true := by simp; omega
    have hrf : r = false := by
      rw [← hr.out]
      exact decide_eq_false (fun e => hlen (by rw [e]))
    go_enter Tryd.func26, Tryd.ntmps26
    go_wp2
    go_ret
    exact ⟨by rw [hrf]; rfl, Below.refl _ _⟩
set_option maxRecDepth 100000 in
set_option maxHeartbeats 8000000 in
theorem same_ret (u v : Cv) (w : World) (S : In w u) (T : In w v) :
    Calls Tryd.prog 12 #[.agg (cc u), .agg (cc v)] w (Tells (CmR.sameK u.c v.c) w) := by
  have R : Cel.Box CE ((w.alloc (.cells (cc u) 29)).alloc (.cells (cc v) 29)) w.heap.size u := (Cel.Box.new (E := CE) w u 29).alloc _
  have Q : Cel.Box CE ((w.alloc (.cells (cc u) 29)).alloc (.cells (cc v) 29)) (w.heap.size + 1) v := by
    have z : (w.alloc (.cells (cc u) 29)).heap.size = w.heap.size + 1 := by simp
    rw [← z]
    exact Cel.Box.new _ v _
  have kb : Below w.heap.size w ((w.alloc (.cells (cc u) 29)).alloc (.cells (cc v) 29)) := ((Below.refl _ _).alloc (Nat.le_refl _) _).alloc (by simp) _
  have S0 := S.below kb
  have T0 := T.below kb
  have c0 := cell_ps R
  have d0 := cell_ps Q
  have c2 := cell_gen R
  have d2 := cell_gen Q
  have q0 := fun W S T => equal_ids u.a v.a u.k v.k u.c.ps v.c.ps W S T
  have q1 := fun W => equal_ev 9998 W u.c.node u.c.seq v.c.node v.c.seq
  have q2 := fun W => OpsE.equal W u.c.op v.c.op
  obtain ⟨x, hx⟩ : ∃ x, decide (u.c.ps = v.c.ps) = x := ⟨_, rfl⟩
  obtain ⟨y, hy⟩ : ∃ y, sameE u.c.node u.c.seq v.c.node v.c.seq = y := ⟨_, rfl⟩
  obtain ⟨z, hz⟩ : ∃ z, OpsE.sameB u.c.op v.c.op = z := ⟨_, rfl⟩
  obtain ⟨b, hb⟩ : ∃ b, (u.c.gen == v.c.gen) = b := ⟨_, rfl⟩
  have HR : Hid (CmR.sameK u.c v.c = (y && (b && (x && z)))) := aside (by
    unfold CmR.sameK
    rw [hx, hy, hz, ← hb, show (u.c.gen == v.c.gen) = decide (u.c.gen = v.c.gen) from rfl]
    cases x <;> cases y <;> cases z <;> simp)
  simp only [hx] at q0
  rw [hy] at q1
  rw [hz] at q2
  clear S T hx hy hz
  unfold Tells at q0 ⊢
  go_enter Tryd.func12, Tryd.ntmps12
  have hw : y = false ∨ y = true ∧ b = false ∨ y = true ∧ b = true := by cases y <;> cases b <;> simp
  rcases hw with rfl | ⟨rfl, rfl⟩ | ⟨rfl, rfl⟩
  case inr.inr =>
    go_wp2_with (first | go_skip | (refine gkev _ rfl _ rfl u R rfl ?_) | (refine gkev _ rfl _ rfl v Q rfl ?_))
    refine (q0 _ S0 T0).mono ?_
    rintro e w1 ⟨rfl, k1⟩
    have R1 := R.below k1
    have Q1 := Q.below k1
    have b1 := kb.trans (k1.mono kb.size)
    clear q0 c0 d0 R Q S0 T0 k1 kb c2 d2
    cases x
    all_goals
      go_wp2_with (first | go_skip | (refine gkop _ rfl _ rfl u R1 rfl ?_) | (refine gkop _ rfl _ rfl v Q1 rfl ?_))
      go_ret
      exact ⟨StW.ret_bool (by rw [HR.out]; rfl), b1⟩
  all_goals
    go_wp2_with (first | go_skip | (refine gkev _ rfl _ rfl u R rfl ?_) | (refine gkev _ rfl _ rfl v Q rfl ?_))
    go_ret
    exact ⟨StW.ret_bool (by rw [HR.out]; rfl), kb⟩
end Go.Proofs.YteojkfbnenfmkaaDoor.CmV
