/- What the document's May, Merge and Same of package commit return: contracts. -/
import Derived.Test.YteojkfbnenfmkaaGreatDoorRowFJ7
import Derived.Test.YteojkfbnenfmkaaGreatDoorEvRJ4
import Derived.Test.YteojkfbnenfmkaaGreatDoorIdV
namespace Go.Proofs.YteojkfbnenfmkaaGreatDoor.CmR
set_option maxRecDepth 100000
open Go Go.RowKit Byt IdM IdW OpsM OpsW CmM StW CmW

/-- A commit that came in, as the document's functions ask for it. -/
structure Okay (c : Com) : Prop where
  fit : Fit c
  key : c.op.key.size ≤ 1099511627776
  elem : c.op.elem.size ≤ 1099511627776
theorem line_no {c : Com} {n : Nat} {r x y : Bool} (h : lineB c = false) (hn : c.ps.length = n) (hr : risesB c.ps = r) (hx : (c.gen == 1) = x) (hy : ((n : Int) == 0) = y) :
    c.gen < 1 ∨ (1 ≤ c.gen ∧ (1048576 < c.gen ∨ (c.gen ≤ 1048576 ∧ (8 < (n : Int) ∨ ((n : Int) ≤ 8 ∧ (r = false ∨ (r = true ∧ (x = true ∧ y = false ∨ x = false ∧ y = true))))))))  := by
  subst hn hr hx hy
  have h' : ¬ (1 ≤ c.gen ∧ c.gen ≤ 1048576 ∧ c.ps.length ≤ 8 ∧ risesB c.ps = true ∧ (c.gen = 1 ↔ c.ps.length = 0)) := by
    rw [← lineB_iff, h]; simp
  cases hr : risesB c.ps with
  | false => rw [hr] at h'; simp; omega
  | true =>
    rw [hr] at h'
    by_cases h1 : c.gen = 1 <;> by_cases h2 : c.ps.length = 0
    all_goals
      have e2 : ((c.ps.length : Int) == 0) = decide (c.ps.length = 0) := by
        rw [Bool.eq_iff_iff]; simp
      rw [e2]
      simp [h1, h2] at h' ⊢
      try omega
theorem line_yes {c : Com} {n : Nat} {x y : Bool} (h : lineB c = true) (hn : c.ps.length = n) (hx : (c.gen == 1) = x) (hy : ((n : Int) == 0) = y) :
    1 ≤ c.gen ∧ c.gen ≤ 1048576 ∧ (n : Int) ≤ 8 ∧ risesB c.ps = true ∧ (x = true ∧ y = true ∨ x = false ∧ y = false) := by
  subst hn hx hy
  obtain ⟨h1, h2, h3, h4, h5⟩ := lineB_iff.1 h
  refine ⟨h1, h2, by omega, h4, ?_⟩
  have e2 : ((c.ps.length : Int) == 0) = decide (c.ps.length = 0) := by
    rw [Bool.eq_iff_iff]; simp
  rw [e2]
  by_cases g1 : c.gen = 1 <;> by_cases g2 : c.ps.length = 0 <;> simp [g1, g2] at h5 ⊢
set_option maxRecDepth 100000 in
set_option maxHeartbeats 8000000 in
theorem may_none (v : Cv) (w : World) (S : In w v) (h : lineB v.c = false) :
    Calls Tryz.prog 24 #[.agg (cc v)] w fun e w' => e = .returned (.bool (mayK v.c)) ∧ Below w.heap.size w w' := by
  have R : Cel.Box CE (w.alloc (.cells (cc v) 29)) w.heap.size v := Cel.Box.new w v _
  have kb := StW.below_alloc w (.cells (cc v) 29)
  have S0 := S.below kb
  have HR : Hid (mayK v.c = false) := aside (by unfold mayK; rw [h]; rfl)
  have q0 := fun W T => IdV.rrises_ret v.a v.k v.c.ps W T
  obtain ⟨r, hr⟩ : ∃ r, risesB v.c.ps = r := ⟨_, rfl⟩
  obtain ⟨n, hn⟩ : ∃ n, v.c.ps.length = n := ⟨_, rfl⟩
  obtain ⟨x, hx⟩ : ∃ x, (v.c.gen == 1) = x := ⟨_, rfl⟩
  obtain ⟨y, hy⟩ : ∃ y, ((n : Int) == 0) = y := ⟨_, rfl⟩
  have hw := line_no h hn hr hx hy
  have HN := aside hn
  have c3 := cell_ps R
  rw [hn] at c3 q0
  rw [hr] at q0
  clear hr h
  clear S hn
  go_enter Tryz.func24, Tryz.ntmps24
  go_wp2_with fail
  refine (q0 _ S0).mono ?_
  rintro e w1 ⟨rfl, k1⟩
  have R1 := R.below k1
  have b1 := kb.trans (k1.mono kb.size)
  clear q0 c3 R S0 k1 kb
  have d0 := cell_node R1
  have d1 := cell_seq R1
  have d2 := cell_gen R1
  have d3 := cell_ps R1
  rw [HN.out] at d3
  obtain ⟨g, hg⟩ : ∃ g, v.c.gen = g := ⟨_, rfl⟩
  rw [hg] at d2 hx hw
  clear hg
  rcases hw with p | ⟨p1, p | ⟨p2, p | ⟨p3, rfl | ⟨rfl, ⟨rfl, rfl⟩ | ⟨rfl, rfl⟩⟩⟩⟩⟩
  all_goals
    clear HN
    go_wp2_with (first | go_skip)
    go_ret
    exact ⟨StW.ret_bool HR.out.symm, b1⟩
set_option maxRecDepth 100000 in
set_option maxHeartbeats 8000000 in
theorem may_merge (v : Cv) (w : World) (S : In w v) (h : lineB v.c = true) (hm : v.c.node = -1) :
    Calls Tryz.prog 24 #[.agg (cc v)] w fun e w' => e = .returned (.bool (mayK v.c)) ∧ Below w.heap.size w w' := by
  have R : Cel.Box CE (w.alloc (.cells (cc v) 29)) w.heap.size v := Cel.Box.new w v _
  have kb := StW.below_alloc w (.cells (cc v) 29)
  have S0 := S.below kb
  have HR : Hid (mayK v.c = (decide (v.c.seq = 0) && (noughtO v.c.op && decide (2 ≤ v.c.ps.length)))) := aside (by
    unfold mayK mergeB StM.eventB
    rw [h, hm]
    simp)
  have heq : ∀ W : World, (Op.equalIn 10000 27 (.agg (opc v.c.op)) (.agg #[.int .i64 0, .string ⟨#[]⟩, .string ⟨#[]⟩, .int .i64 0])).run Tryz.prog W = .ok (noughtO v.c.op) W := fun W => equal_nought W v.c.op
  obtain ⟨z, hz⟩ : ∃ z, noughtO v.c.op = z := ⟨_, rfl⟩
  rw [hz] at heq HR
  have q0 := fun W T => IdV.rrises_ret v.a v.k v.c.ps W T
  obtain ⟨r, hr⟩ : ∃ r, risesB v.c.ps = r := ⟨_, rfl⟩
  obtain ⟨n, hn⟩ : ∃ n, v.c.ps.length = n := ⟨_, rfl⟩
  obtain ⟨x, hx⟩ : ∃ x, (v.c.gen == 1) = x := ⟨_, rfl⟩
  obtain ⟨y, hy⟩ : ∃ y, ((n : Int) == 0) = y := ⟨_, rfl⟩
  obtain ⟨g1, g2, g3, g4, g5⟩ := line_yes h hn hx hy
  rw [hn] at HR
  have HN := aside hn
  have c3 := cell_ps R
  rw [hn] at c3 q0
  rw [hr] at q0
  rw [g4] at hr
  subst hr
  clear h g4
  clear S hn
  go_enter Tryz.func24, Tryz.ntmps24
  go_wp2_with fail
  refine (q0 _ S0).mono ?_
  rintro e w1 ⟨rfl, k1⟩
  have R1 := R.below k1
  have b1 := kb.trans (k1.mono kb.size)
  clear q0 c3 R S0 k1 kb
  have d0 := cell_node R1
  have d1 := cell_seq R1
  have d2 := cell_gen R1
  have d3 := cell_ps R1
  rw [HN.out] at d3
  rw [hm] at d0
  obtain ⟨g, hg⟩ : ∃ g, v.c.gen = g := ⟨_, rfl⟩
  rw [hg] at d2 hx g1 g2
  obtain ⟨s, hs⟩ : ∃ s, v.c.seq = s := ⟨_, rfl⟩
  rw [hs] at d1 HR
  obtain ⟨b, hb⟩ : ∃ b, (s == 0) = b := ⟨_, rfl⟩
  have HR2 : Hid (mayK v.c = (b && (z && decide (2 ≤ (n : Int))))) := aside (by
    rw [HR.out, ← hb, show (s == 0) = decide (s = 0) by rw [Bool.eq_iff_iff]; simp, show decide (2 ≤ (n : Int)) = decide (2 ≤ n) by rw [Bool.eq_iff_iff]; simp; omega])
  clear hg hm hs hz HR HN
  have hbz : b = false ∨ b = true ∧ z = false ∨ b = true ∧ z = true := by cases b <;> cases z <;> simp
  rcases g5 with ⟨rfl, rfl⟩ | ⟨rfl, rfl⟩
  all_goals
    rcases hbz with rfl | ⟨rfl, rfl⟩ | ⟨rfl, rfl⟩
    all_goals
      go_wp2_with (first | go_skip | (refine gkop _ rfl _ rfl v R1 rfl ?_))
      go_ret
      exact ⟨StW.ret_bool (by rw [HR2.out]; rfl), b1⟩
set_option maxRecDepth 100000 in
set_option maxHeartbeats 8000000 in
theorem may_op (v : Cv) (w : World) (S : In w v) (ho : Okay v.c) (h : lineB v.c = true) (hm : v.c.node ≠ -1) :
    Calls Tryz.prog 24 #[.agg (cc v)] w fun e w' => e = .returned (.bool (mayK v.c)) ∧ Below w.heap.size w w' := by
  have R : Cel.Box CE (w.alloc (.cells (cc v) 29)) w.heap.size v := Cel.Box.new w v _
  have kb := StW.below_alloc w (.cells (cc v) 29)
  have S0 := S.below kb
  have HR : Hid (mayK v.c = (StM.eventB v.c.node v.c.seq && mayO v.c.op)) := aside (by
    unfold mayK mergeB
    rw [h]
    simp [hm])
  have q1 := fun W => StR.event_ret ⟨v.c.node, v.c.seq⟩ W
  have q2 := fun W => OpsR.may v.c.op W ho.fit.op ho.key ho.elem
  obtain ⟨z1, hz1⟩ : ∃ z, StM.eventB v.c.node v.c.seq = z := ⟨_, rfl⟩
  obtain ⟨z2, hz2⟩ : ∃ z, mayO v.c.op = z := ⟨_, rfl⟩
  rw [hz1, hz2] at HR
  simp only [hz1] at q1
  rw [hz2] at q2
  clear hz1 hz2 ho
  have q0 := fun W T => IdV.rrises_ret v.a v.k v.c.ps W T
  obtain ⟨r, hr⟩ : ∃ r, risesB v.c.ps = r := ⟨_, rfl⟩
  obtain ⟨n, hn⟩ : ∃ n, v.c.ps.length = n := ⟨_, rfl⟩
  obtain ⟨x, hx⟩ : ∃ x, (v.c.gen == 1) = x := ⟨_, rfl⟩
  obtain ⟨y, hy⟩ : ∃ y, ((n : Int) == 0) = y := ⟨_, rfl⟩
  obtain ⟨g1, g2, g3, g4, g5⟩ := line_yes h hn hx hy
  have HN := aside hn
  have c3 := cell_ps R
  rw [hn] at c3 q0
  rw [hr] at q0
  rw [g4] at hr
  subst hr
  clear h g4
  clear S hn
  go_enter Tryz.func24, Tryz.ntmps24
  go_wp2_with fail
  refine (q0 _ S0).mono ?_
  rintro e w1 ⟨rfl, k1⟩
  have R1 := R.below k1
  have b1 := kb.trans (k1.mono kb.size)
  clear q0 c3 R S0 k1 kb
  have d0 := cell_node R1
  have d1 := cell_seq R1
  have d2 := cell_gen R1
  have d3 := cell_ps R1
  rw [HN.out] at d3
  obtain ⟨g, hg⟩ : ∃ g, v.c.gen = g := ⟨_, rfl⟩
  rw [hg] at d2 hx g1 g2
  have hne : (v.c.node == -1) = false := by simpa using hm
  clear hg hm HN
  rcases g5 with ⟨rfl, rfl⟩ | ⟨rfl, rfl⟩
  all_goals
    go_wp2_with (first | go_skip | (refine wpList_load_kev rfl _ rfl _ rfl v R1 ?_))
    refine (q1 _).mono ?_
    rintro e w2 ⟨rfl, k2⟩
    have R2 := R1.below k2
    have b2 := b1.trans (k2.mono b1.size)
    go_wp2_with (first | go_skip | (refine wpList_load_kop rfl _ rfl _ rfl v R2 ?_))
    refine (q2 _).mono ?_
    rintro e w3 ⟨rfl, k3⟩
    have b3 := b2.trans (k3.mono b2.size)
    clear d0 d1 d2 d3 R1 b1 k2 R2 b2 k3
    cases z1
    all_goals
      go_wp2_with (first | go_skip)
      go_ret
      exact ⟨StW.ret_bool (by rw [HR.out]; rfl), b3⟩
theorem may_ret (v : Cv) (w : World) (S : In w v) (ho : Okay v.c) :
    Calls Tryz.prog 24 #[.agg (cc v)] w fun e w' => e = .returned (.bool (mayK v.c)) ∧ Below w.heap.size w w' := by
  cases h : lineB v.c with
  | false => exact may_none v w S h
  | true =>
    by_cases hm : v.c.node = -1
    · exact may_merge v w S h hm
    · exact may_op v w S ho h hm
set_option maxRecDepth 100000 in
set_option maxHeartbeats 8000000 in
theorem merge_ret (v : Cv) (w : World) (S : In w v) (ho : Okay v.c) :
    Calls Tryz.prog 25 #[.agg (cc v)] w fun e w' => e = .returned (.bool (isM v.c)) ∧ Below w.heap.size w w' := by
  have R : Cel.Box CE (w.alloc (.cells (cc v) 29)) w.heap.size v := Cel.Box.new w v _
  have kb := StW.below_alloc w (.cells (cc v) 29)
  have S0 := S.below kb
  have q0 := fun W T => may_ret v W T ho
  have HR : Hid (isM v.c = (mayK v.c && decide (v.c.node = -1))) := aside rfl
  obtain ⟨z, hz⟩ : ∃ z, mayK v.c = z := ⟨_, rfl⟩
  rw [hz] at HR
  simp only [hz] at q0
  clear S ho hz
  go_enter Tryz.func25, Tryz.ntmps25
  go_wp2_with (first | go_skip | (refine Cel.wpList_load_box CE rfl _ rfl _ rfl v R ?_))
  refine (q0 _ S0).mono ?_
  rintro e w1 ⟨rfl, k1⟩
  have R1 := R.below k1
  have b1 := kb.trans (k1.mono kb.size)
  clear q0 R S0 k1 kb
  have d0 := cell_node R1
  obtain ⟨b, hb⟩ : ∃ b, (v.c.node == -1) = b := ⟨_, rfl⟩
  have HR2 : Hid (isM v.c = (z && b)) := aside (by rw [HR.out, ← hb]; congr 1)
  clear HR
  cases z
  all_goals
    go_wp2_with (first | go_skip)
    go_ret
    exact ⟨StW.ret_bool (by rw [HR2.out]; rfl), b1⟩
/-- Are two commits the same? -/
def sameK (a b : Com) : Bool := decide (a.ps = b.ps) && (sameE a.node a.seq b.node b.seq && (decide (a.gen = b.gen) && OpsE.sameB a.op b.op))
theorem sameK_iff {a b : Com} : sameK a b = true ↔ a = b := by
  unfold sameK
  rw [Bool.and_eq_true, Bool.and_eq_true, Bool.and_eq_true, decide_eq_true_eq, decide_eq_true_eq, sameE_iff, OpsE.sameB_iff]
  exact ⟨fun h => Com_ext h.2.1.1 h.2.1.2 h.2.2.1 h.1 h.2.2.2, fun h => by rw [h]; exact ⟨rfl, ⟨rfl, rfl⟩, rfl, rfl⟩⟩
set_option maxRecDepth 100000 in
set_option maxHeartbeats 8000000 in
theorem same_ret (u v : Cv) (w : World) (S : In w u) (T : In w v) :
    Calls Tryz.prog 12 #[.agg (cc u), .agg (cc v)] w fun e w' => e = .returned (.bool (sameK u.c v.c)) ∧ Below w.heap.size w w' := by
  have R : Cel.Box CE ((w.alloc (.cells (cc u) 29)).alloc (.cells (cc v) 29)) w.heap.size u := (Cel.Box.new (E := CE) w u 29).alloc _
  have Q : Cel.Box CE ((w.alloc (.cells (cc u) 29)).alloc (.cells (cc v) 29)) (w.heap.size + 1) v := by
    have z : (w.alloc (.cells (cc u) 29)).heap.size = w.heap.size + 1 := by simp
    rw [← z]
    exact Cel.Box.new _ v _
  have kb : Below w.heap.size w ((w.alloc (.cells (cc u) 29)).alloc (.cells (cc v) 29)) := ((Below.refl _ _).alloc (Nat.le_refl _) _).alloc (by simp) _
  have S0 := S.below kb
  have T0 := T.below kb
  have c0 := cell_ps R
  have d0 := cell_ps Q
  have q0 := fun W S T => IdV.same_ret u.a v.a u.k v.k u.c.ps v.c.ps W S T
  have q1 := fun W => equal_ev 9998 W u.c.node u.c.seq v.c.node v.c.seq
  have q2 := fun W => OpsE.equal W u.c.op v.c.op
  obtain ⟨x, hx⟩ : ∃ x, decide (u.c.ps = v.c.ps) = x := ⟨_, rfl⟩
  obtain ⟨y, hy⟩ : ∃ y, sameE u.c.node u.c.seq v.c.node v.c.seq = y := ⟨_, rfl⟩
  obtain ⟨z, hz⟩ : ∃ z, OpsE.sameB u.c.op v.c.op = z := ⟨_, rfl⟩
  obtain ⟨b, hb⟩ : ∃ b, (u.c.gen == v.c.gen) = b := ⟨_, rfl⟩
  have HR : Hid (sameK u.c v.c = (x && (y && (b && z)))) := aside (by
    unfold sameK
    rw [hx, hy, hz, ← hb]
    congr 3)
  simp only [hx] at q0
  rw [hy] at q1
  rw [hz] at q2
  clear S T hx hy hz
  go_enter Tryz.func12, Tryz.ntmps12
  go_wp2_with fail
  refine (q0 _ S0 T0).mono ?_
  rintro e w1 ⟨rfl, k1⟩
  have R1 := R.below k1
  have Q1 := Q.below k1
  have b1 := kb.trans (k1.mono kb.size)
  clear q0 c0 d0 R Q S0 T0 k1 kb
  have c2 := cell_gen R1
  have d2 := cell_gen Q1
  have hxy : x = false ∨ x = true ∧ y = false ∨ x = true ∧ y = true ∧ b = false ∨ x = true ∧ y = true ∧ b = true := by cases x <;> cases y <;> cases b <;> simp
  rcases hxy with rfl | ⟨rfl, rfl⟩ | ⟨rfl, rfl, rfl⟩ | ⟨rfl, rfl, rfl⟩
  all_goals
    go_wp2_with (first | go_skip | (refine gkev _ rfl _ rfl u R1 rfl ?_) | (refine gkev _ rfl _ rfl v Q1 rfl ?_) | (refine gkop _ rfl _ rfl u R1 rfl ?_) | (refine gkop _ rfl _ rfl v Q1 rfl ?_))
    go_ret
    exact ⟨StW.ret_bool (by rw [HR.out]; rfl), b1⟩
end Go.Proofs.YteojkfbnenfmkaaGreatDoor.CmR
