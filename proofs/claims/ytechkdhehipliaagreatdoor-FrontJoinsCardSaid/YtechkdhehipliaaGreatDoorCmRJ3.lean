/- What the document's May, Merge and Same of package commit return: contracts. | A region that draws its order: what reads no memory is taken first, and of the rest every order is walked, as a tree. No condition. | What walks of Get of package commit lean on. No condition. -/
import Derived.Test.YtechkdhehipliaaGreatDoorRowFJ7
import Derived.Test.YtechkdhehipliaaGreatDoorEvRJ4
import Derived.Test.YtechkdhehipliaaGreatDoorIdV
import Derived.Test.YtechkdhehipliaaGreatDoorEncMJ7
import Derived.Test.YtechkdhehipliaaGreatDoorRefEJ5
namespace Go.Proofs.YtechkdhehipliaaGreatDoor.CmR
set_option maxRecDepth 100000
open Go Go.RowKit Byt IdM IdW OpsM OpsW CmM StW CmW

/-- A commit that came in, as the document's functions ask for it. -/
structure Okay (c : Com) : Prop where
  fit : Fit c
  key : c.op.key.size ≤ 1099511627776
  elem : c.op.elem.size ≤ 1099511627776
theorem line_no {c : Com} {n : Nat} {r x y : Bool} (h : lineB c = false) (hn : c.ps.length = n) (hr : risesB c.ps = r) (hx : (c.gen == 1) = x) (hy : ((n : Int) == 0) = y) :
    c.gen < 1 ∨ (1 ≤ c.gen ∧ (1048576 < c.gen ∨ (c.gen ≤ 1048576 ∧ (8 < (n : Int) ∨ ((n : Int) ≤ 8 ∧ (r = false ∨ (r = true ∧ (x = true ∧ y = false ∨ x = false ∧ y = true))))))))  := by
  subst hn hr hx hy
  have h' : ¬ (1 ≤ c.gen ∧ c.gen ≤ 1048576 ∧ c.ps.length ≤ 8 ∧ risesB c.ps = true ∧ (c.gen = 1 ↔ c.ps.length = 0)) := by
    rw [← lineB_iff, h]; simp
  cases hr : risesB c.ps with
  | false => rw [hr] at h'; simp; omega
  | true =>
    rw [hr] at h'
    by_cases h1 : c.gen = 1 <;> by_cases h2 : c.ps.length = 0
    all_goals
      have e2 : ((c.ps.length : Int) == 0) = decide (c.ps.length = 0) := by
        rw [Bool.eq_iff_iff]; simp
      rw [e2]
      simp [h1, h2] at h' ⊢
      try omega
theorem line_yes {c : Com} {n : Nat} {x y : Bool} (h : lineB c = true) (hn : c.ps.length = n) (hx : (c.gen == 1) = x) (hy : ((n : Int) == 0) = y) :
    1 ≤ c.gen ∧ c.gen ≤ 1048576 ∧ (n : Int) ≤ 8 ∧ risesB c.ps = true ∧ (x = true ∧ y = true ∨ x = false ∧ y = false) := by
  subst hn hx hy
  obtain ⟨h1, h2, h3, h4, h5⟩ := lineB_iff.1 h
  refine ⟨h1, h2, by omega, h4, ?_⟩
  have e2 : ((c.ps.length : Int) == 0) = decide (c.ps.length = 0) := by
    rw [Bool.eq_iff_iff]; simp
  rw [e2]
  by_cases g1 : c.gen = 1 <;> by_cases g2 : c.ps.length = 0 <;> simp [g1, g2] at h5 ⊢
set_option maxRecDepth 100000 in
set_option maxHeartbeats 8000000 in
theorem may_none (v : Cv) (w : World) (S : In w v) (h : lineB v.c = false) :
    Calls Tryz.prog 71 #[.agg (cc v)] w fun e w' => e = .returned (.bool (mayK v.c)) ∧ Below w.heap.size w w' := by
  have R : Cel.Box CE (w.alloc (.cells (cc v) 38)) w.heap.size v := Cel.Box.new w v _
  have kb := StW.below_alloc w (.cells (cc v) 38)
  have S0 := S.below kb
  have HR : Hid (mayK v.c = false) := aside (by unfold mayK; rw [h]; rfl)
  have q0 := fun W T => IdV.rrises_ret v.a v.k v.c.ps W T
  obtain ⟨r, hr⟩ : ∃ r, risesB v.c.ps = r := ⟨_, rfl⟩
  obtain ⟨n, hn⟩ : ∃ n, v.c.ps.length = n := ⟨_, rfl⟩
  obtain ⟨x, hx⟩ : ∃ x, (v.c.gen == 1) = x := ⟨_, rfl⟩
  obtain ⟨y, hy⟩ : ∃ y, ((n : Int) == 0) = y := ⟨_, rfl⟩
  have hw := line_no h hn hr hx hy
  have HN := aside hn
  have c3 := cell_ps R
  rw [hn] at c3 q0
  rw [hr] at q0
  clear hr h
  clear S hn
  go_enter Tryz.func71, Tryz.ntmps71
  go_wp2_with fail
  refine (q0 _ S0).mono ?_
  rintro e w1 ⟨rfl, k1⟩
  have R1 := R.below k1
  have b1 := kb.trans (k1.mono kb.size)
  clear q0 c3 R S0 k1 kb
  have d0 := cell_node R1
  have d1 := cell_seq R1
  have d2 := cell_gen R1
  have d3 := cell_ps R1
  rw [HN.out] at d3
  obtain ⟨g, hg⟩ : ∃ g, v.c.gen = g := ⟨_, rfl⟩
  rw [hg] at d2 hx hw
  clear hg
  rcases hw with p | ⟨p1, p | ⟨p2, p | ⟨p3, rfl | ⟨rfl, ⟨rfl, rfl⟩ | ⟨rfl, rfl⟩⟩⟩⟩⟩
  all_goals
    clear HN
    go_wp2_with (first | go_skip)
    go_ret
    exact ⟨StW.ret_bool HR.out.symm, b1⟩
set_option maxRecDepth 100000 in
set_option maxHeartbeats 8000000 in
theorem may_merge (v : Cv) (w : World) (S : In w v) (h : lineB v.c = true) (hm : v.c.node = -1) :
    Calls Tryz.prog 71 #[.agg (cc v)] w fun e w' => e = .returned (.bool (mayK v.c)) ∧ Below w.heap.size w w' := by
  have R : Cel.Box CE (w.alloc (.cells (cc v) 38)) w.heap.size v := Cel.Box.new w v _
  have kb := StW.below_alloc w (.cells (cc v) 38)
  have S0 := S.below kb
  have HR : Hid (mayK v.c = (decide (v.c.seq = 0) && (noughtO v.c.op && decide (2 ≤ v.c.ps.length)))) := aside (by
    unfold mayK mergeB StM.eventB
    rw [h, hm]
    simp)
  have heq : ∀ W : World, (Op.equalIn 10000 36 (.agg (opc v.c.op)) (.agg #[.int .i64 0, .string ⟨#[]⟩, .string ⟨#[]⟩, .int .i64 0])).run Tryz.prog W = .ok (noughtO v.c.op) W := fun W => equal_nought W v.c.op
  obtain ⟨z, hz⟩ : ∃ z, noughtO v.c.op = z := ⟨_, rfl⟩
  rw [hz] at heq HR
  have q0 := fun W T => IdV.rrises_ret v.a v.k v.c.ps W T
  obtain ⟨r, hr⟩ : ∃ r, risesB v.c.ps = r := ⟨_, rfl⟩
  obtain ⟨n, hn⟩ : ∃ n, v.c.ps.length = n := ⟨_, rfl⟩
  obtain ⟨x, hx⟩ : ∃ x, (v.c.gen == 1) = x := ⟨_, rfl⟩
  obtain ⟨y, hy⟩ : ∃ y, ((n : Int) == 0) = y := ⟨_, rfl⟩
  obtain ⟨g1, g2, g3, g4, g5⟩ := line_yes h hn hx hy
  rw [hn] at HR
  have HN := aside hn
  have c3 := cell_ps R
  rw [hn] at c3 q0
  rw [hr] at q0
  rw [g4] at hr
  subst hr
  clear h g4
  clear S hn
  go_enter Tryz.func71, Tryz.ntmps71
  go_wp2_with fail
  refine (q0 _ S0).mono ?_
  rintro e w1 ⟨rfl, k1⟩
  have R1 := R.below k1
  have b1 := kb.trans (k1.mono kb.size)
  clear q0 c3 R S0 k1 kb
  have d0 := cell_node R1
  have d1 := cell_seq R1
  have d2 := cell_gen R1
  have d3 := cell_ps R1
  rw [HN.out] at d3
  rw [hm] at d0
  obtain ⟨g, hg⟩ : ∃ g, v.c.gen = g := ⟨_, rfl⟩
  rw [hg] at d2 hx g1 g2
  obtain ⟨s, hs⟩ : ∃ s, v.c.seq = s := ⟨_, rfl⟩
  rw [hs] at d1 HR
  obtain ⟨b, hb⟩ : ∃ b, (s == 0) = b := ⟨_, rfl⟩
  have HR2 : Hid (mayK v.c = (b && (z && decide (2 ≤ (n : Int))))) := aside (by
    rw [HR.out, ← hb, show (s == 0) = decide (s = 0) by rw [Bool.eq_iff_iff]; simp, show decide (2 ≤ (n : Int)) = decide (2 ≤ n) by rw [Bool.eq_iff_iff]; simp; omega])
  clear hg hm hs hz HR HN
  have hbz : b = false ∨ b = true ∧ z = false ∨ b = true ∧ z = true := by cases b <;> cases z <;> simp
  rcases g5 with ⟨rfl, rfl⟩ | ⟨rfl, rfl⟩
  all_goals
    rcases hbz with rfl | ⟨rfl, rfl⟩ | ⟨rfl, rfl⟩
    all_goals
      go_wp2_with (first | go_skip | (refine gkop _ rfl _ rfl v R1 rfl ?_))
      go_ret
      exact ⟨StW.ret_bool (by rw [HR2.out]; rfl), b1⟩
set_option maxRecDepth 100000 in
set_option maxHeartbeats 8000000 in
theorem may_op (v : Cv) (w : World) (S : In w v) (ho : Okay v.c) (h : lineB v.c = true) (hm : v.c.node ≠ -1) :
    Calls Tryz.prog 71 #[.agg (cc v)] w fun e w' => e = .returned (.bool (mayK v.c)) ∧ Below w.heap.size w w' := by
  have R : Cel.Box CE (w.alloc (.cells (cc v) 38)) w.heap.size v := Cel.Box.new w v _
  have kb := StW.below_alloc w (.cells (cc v) 38)
  have S0 := S.below kb
  have HR : Hid (mayK v.c = (StM.eventB v.c.node v.c.seq && mayO v.c.op)) := aside (by
    unfold mayK mergeB
    rw [h]
    simp [hm])
  have q1 := fun W => StR.event_ret ⟨v.c.node, v.c.seq⟩ W
  have q2 := fun W => OpsR.may v.c.op W ho.fit.op ho.key ho.elem
  obtain ⟨z1, hz1⟩ : ∃ z, StM.eventB v.c.node v.c.seq = z := ⟨_, rfl⟩
  obtain ⟨z2, hz2⟩ : ∃ z, mayO v.c.op = z := ⟨_, rfl⟩
  rw [hz1, hz2] at HR
  simp only [hz1] at q1
  rw [hz2] at q2
  clear hz1 hz2 ho
  have q0 := fun W T => IdV.rrises_ret v.a v.k v.c.ps W T
  obtain ⟨r, hr⟩ : ∃ r, risesB v.c.ps = r := ⟨_, rfl⟩
  obtain ⟨n, hn⟩ : ∃ n, v.c.ps.length = n := ⟨_, rfl⟩
  obtain ⟨x, hx⟩ : ∃ x, (v.c.gen == 1) = x := ⟨_, rfl⟩
  obtain ⟨y, hy⟩ : ∃ y, ((n : Int) == 0) = y := ⟨_, rfl⟩
  obtain ⟨g1, g2, g3, g4, g5⟩ := line_yes h hn hx hy
  have HN := aside hn
  have c3 := cell_ps R
  rw [hn] at c3 q0
  rw [hr] at q0
  rw [g4] at hr
  subst hr
  clear h g4
  clear S hn
  go_enter Tryz.func71, Tryz.ntmps71
  go_wp2_with fail
  refine (q0 _ S0).mono ?_
  rintro e w1 ⟨rfl, k1⟩
  have R1 := R.below k1
  have b1 := kb.trans (k1.mono kb.size)
  clear q0 c3 R S0 k1 kb
  have d0 := cell_node R1
  have d1 := cell_seq R1
  have d2 := cell_gen R1
  have d3 := cell_ps R1
  rw [HN.out] at d3
  obtain ⟨g, hg⟩ : ∃ g, v.c.gen = g := ⟨_, rfl⟩
  rw [hg] at d2 hx g1 g2
  have hne : (v.c.node == -1) = false := by simpa using hm
  clear hg hm HN
  rcases g5 with ⟨rfl, rfl⟩ | ⟨rfl, rfl⟩
  all_goals
    go_wp2_with (first | go_skip | (refine wpList_load_kev rfl _ rfl _ rfl v R1 ?_))
    refine (q1 _).mono ?_
    rintro e w2 ⟨rfl, k2⟩
    have R2 := R1.below k2
    have b2 := b1.trans (k2.mono b1.size)
    go_wp2_with (first | go_skip | (refine wpList_load_kop rfl _ rfl _ rfl v R2 ?_))
    refine (q2 _).mono ?_
    rintro e w3 ⟨rfl, k3⟩
    have b3 := b2.trans (k3.mono b2.size)
    clear d0 d1 d2 d3 R1 b1 k2 R2 b2 k3
    cases z1
    all_goals
      go_wp2_with (first | go_skip)
      go_ret
      exact ⟨StW.ret_bool (by rw [HR.out]; rfl), b3⟩
theorem may_ret (v : Cv) (w : World) (S : In w v) (ho : Okay v.c) :
    Calls Tryz.prog 71 #[.agg (cc v)] w fun e w' => e = .returned (.bool (mayK v.c)) ∧ Below w.heap.size w w' := by
  cases h : lineB v.c with
  | false => exact may_none v w S h
  | true =>
    by_cases hm : v.c.node = -1
    · exact may_merge v w S h hm
    · exact may_op v w S ho h hm
set_option maxRecDepth 100000 in
set_option maxHeartbeats 8000000 in
theorem merge_ret (v : Cv) (w : World) (S : In w v) (ho : Okay v.c) :
    Calls Tryz.prog 53 #[.agg (cc v)] w fun e w' => e = .returned (.bool (isM v.c)) ∧ Below w.heap.size w w' := by
  have R : Cel.Box CE (w.alloc (.cells (cc v) 38)) w.heap.size v := Cel.Box.new w v _
  have kb := StW.below_alloc w (.cells (cc v) 38)
  have S0 := S.below kb
  have q0 := fun W T => may_ret v W T ho
  have HR : Hid (isM v.c = (mayK v.c && decide (v.c.node = -1))) := aside rfl
  obtain ⟨z, hz⟩ : ∃ z, mayK v.c = z := ⟨_, rfl⟩
  rw [hz] at HR
  simp only [hz] at q0
  clear S ho hz
  go_enter Tryz.func53, Tryz.ntmps53
  go_wp2_with (first | go_skip | (refine Cel.wpList_load_box CE rfl _ rfl _ rfl v R ?_))
  refine (q0 _ S0).mono ?_
  rintro e w1 ⟨rfl, k1⟩
  have R1 := R.below k1
  have b1 := kb.trans (k1.mono kb.size)
  clear q0 R S0 k1 kb
  have d0 := cell_node R1
  obtain ⟨b, hb⟩ : ∃ b, (v.c.node == -1) = b := ⟨_, rfl⟩
  have HR2 : Hid (isM v.c = (z && b)) := aside (by rw [HR.out, ← hb]; congr 1)
  clear HR
  cases z
  all_goals
    go_wp2_with (first | go_skip)
    go_ret
    exact ⟨StW.ret_bool (by rw [HR2.out]; rfl), b1⟩
/-- Are two commits the same? -/
def sameK (a b : Com) : Bool := decide (a.ps = b.ps) && (sameE a.node a.seq b.node b.seq && (decide (a.gen = b.gen) && OpsE.sameB a.op b.op))
theorem sameK_iff {a b : Com} : sameK a b = true ↔ a = b := by
  unfold sameK
  rw [Bool.and_eq_true, Bool.and_eq_true, Bool.and_eq_true, decide_eq_true_eq, decide_eq_true_eq, sameE_iff, OpsE.sameB_iff]
  exact ⟨fun h => Com_ext h.2.1.1 h.2.1.2 h.2.2.1 h.1 h.2.2.2, fun h => by rw [h]; exact ⟨rfl, ⟨rfl, rfl⟩, rfl, rfl⟩⟩
theorem sameK_self (a : Com) : sameK a a = true := sameK_iff.2 rfl
set_option maxRecDepth 100000 in
set_option maxHeartbeats 8000000 in
theorem same_ret (u v : Cv) (w : World) (S : In w u) (T : In w v) :
    Calls Tryz.prog 28 #[.agg (cc u), .agg (cc v)] w fun e w' => e = .returned (.bool (sameK u.c v.c)) ∧ Below w.heap.size w w' := by
  have R : Cel.Box CE ((w.alloc (.cells (cc u) 38)).alloc (.cells (cc v) 38)) w.heap.size u := (Cel.Box.new (E := CE) w u 38).alloc _
  have Q : Cel.Box CE ((w.alloc (.cells (cc u) 38)).alloc (.cells (cc v) 38)) (w.heap.size + 1) v := by
    have z : (w.alloc (.cells (cc u) 38)).heap.size = w.heap.size + 1 := by simp
    rw [← z]
    exact Cel.Box.new _ v _
  have kb : Below w.heap.size w ((w.alloc (.cells (cc u) 38)).alloc (.cells (cc v) 38)) := ((Below.refl _ _).alloc (Nat.le_refl _) _).alloc (by simp) _
  have S0 := S.below kb
  have T0 := T.below kb
  have c0 := cell_ps R
  have d0 := cell_ps Q
  have q0 := fun W S T => IdV.same_ret u.a v.a u.k v.k u.c.ps v.c.ps W S T
  have q1 := fun W => equal_ev 9998 W u.c.node u.c.seq v.c.node v.c.seq
  have q2 := fun W => OpsE.equal W u.c.op v.c.op
  obtain ⟨x, hx⟩ : ∃ x, decide (u.c.ps = v.c.ps) = x := ⟨_, rfl⟩
  obtain ⟨y, hy⟩ : ∃ y, sameE u.c.node u.c.seq v.c.node v.c.seq = y := ⟨_, rfl⟩
  obtain ⟨z, hz⟩ : ∃ z, OpsE.sameB u.c.op v.c.op = z := ⟨_, rfl⟩
  obtain ⟨b, hb⟩ : ∃ b, (u.c.gen == v.c.gen) = b := ⟨_, rfl⟩
  have HR : Hid (sameK u.c v.c = (x && (y && (b && z)))) := aside (by
    unfold sameK
    rw [hx, hy, hz, ← hb]
    congr 3)
  simp only [hx] at q0
  rw [hy] at q1
  rw [hz] at q2
  clear S T hx hy hz
  go_enter Tryz.func28, Tryz.ntmps28
  go_wp2_with fail
  refine (q0 _ S0 T0).mono ?_
  rintro e w1 ⟨rfl, k1⟩
  have R1 := R.below k1
  have Q1 := Q.below k1
  have b1 := kb.trans (k1.mono kb.size)
  clear q0 c0 d0 R Q S0 T0 k1 kb
  have c2 := cell_gen R1
  have d2 := cell_gen Q1
  have hxy : x = false ∨ x = true ∧ y = false ∨ x = true ∧ y = true ∧ b = false ∨ x = true ∧ y = true ∧ b = true := by cases x <;> cases y <;> cases b <;> simp
  rcases hxy with rfl | ⟨rfl, rfl⟩ | ⟨rfl, rfl, rfl⟩ | ⟨rfl, rfl, rfl⟩
  all_goals
    go_wp2_with (first | go_skip | (refine gkev _ rfl _ rfl u R1 rfl ?_) | (refine gkev _ rfl _ rfl v Q1 rfl ?_) | (refine gkop _ rfl _ rfl u R1 rfl ?_) | (refine gkop _ rfl _ rfl v Q1 rfl ?_))
    go_ret
    exact ⟨StW.ret_bool (by rw [HR.out]; rfl), b1⟩
end Go.Proofs.YtechkdhehipliaaGreatDoor.CmR
namespace Go.Proofs.YtechkdhehipliaaGreatDoor.Forks
set_option maxRecDepth 100000
open Go Go.Sort Go.RowKit

/-- The orders that are walked. -/
inductive Tree where
  | ends : Tree
  | free (i : Nat) (t : Tree) : Tree
  | act (i : Nat) (t : Tree) : Tree
  | two (i : Nat) (t : Tree) (j : Nat) (u : Tree) : Tree
def Tree.size : Tree → Nat
  | .ends => 0
  | .free _ t => t.size + 1
  | .act _ t => t.size + 1
  | .two _ t _ _ => t.size + 1

section
variable {P : Program} {ops : Array Oper} {Q : Exit → Act → World → Prop} {md : Region.Mode}

def treeB (md : Region.Mode) (ops : Array Oper) : Tree → Array Bool → Bool
  | .ends, listed => (Region.ready md ops listed).isEmpty
  | .free i t, listed => (Region.ready md ops listed).contains i && (Region.free md ops listed i && treeB md ops t (listed.setIfInBounds i true))
  | .act i t, listed => Region.ready md ops listed == [i] && treeB md ops t (listed.setIfInBounds i true)
  | .two i t j u, listed => Region.ready md ops listed == [i, j] && (t.size == u.size && (treeB md ops t (listed.setIfInBounds i true) && treeB md ops u (listed.setIfInBounds j true)))

/-- One operation that is carried out. -/
def One (P : Program) (ops : Array Oper) (Q : Exit → Act → World → Prop) (i : Nat) (K : Act → World → Prop) (a : Act) (w : World) : Prop := ∃ o, ops[i]? = some o ∧ wpList P ops (Exit.then K Q) [o] a w
/-- What is asked of each operation, in these orders. -/
def Seq (P : Program) (ops : Array Oper) (Q : Exit → Act → World → Prop) : Tree → Act → World → Prop
  | .ends, a, w => Q .normal a w
  | .free i t, a, w => ∃ o, ops[i]? = some o ∧ ∃ v, Yields P ops o v a ∧ Seq P ops Q t (a.put o.dst v) w
  | .act i t, a, w => One P ops Q i (Seq P ops Q t) a w
  | .two i t j u, a, w => One P ops Q i (Seq P ops Q t) a w ∧ One P ops Q j (Seq P ops Q u) a w

theorem One.op {i : Nat} {K K' : Act → World → Prop} {a : Act} {w : World} (h : One P ops Q i K a w) (on : ∀ a' w', K a' w' → K' a' w') : wpOp P ops Q i K' a w := by
  obtain ⟨o, ho, h⟩ := h
  have on' : ∀ a' w', wpList P ops (Exit.then K Q) [] a' w' → K' a' w' := by
    intro a' w' hh
    unfold wpList at hh
    exact on _ _ hh
  unfold wpOp
  simp only [ho]
  unfold wpList at h
  split
  · rename_i hw
    rw [if_pos hw] at h
    rcases h with h | ⟨h, a', w', hl⟩
    · refine .inl ?_
      unfold Oper.wp at h ⊢
      generalize (execOp a.eval o).run P w = x at h ⊢
      cases x with
      | ok n u =>
        cases n <;> simp only [Oper.upon] at h ⊢
        case enter f args =>
          refine Calls.mono h fun e w'' he => ?_
          cases e with
          | returned v => exact on' _ _ he
          | panicked c => exact he
          | outgrown => exact he
        case row row args => exact Rows.mono h fun v w'' he => on' _ _ he
        all_goals exact on' _ _ h
      | halt x u => cases x <;> simp only [Oper.upon] at h ⊢; exact h
    · exact .inr ⟨h, a', w', hl⟩
  · rename_i hw
    rw [if_neg hw] at h
    unfold wpList at h
    exact on _ _ h

theorem seq_any (hs : Region.noSelect ops = true) (hQ : ∀ c a d v w, Q (.panic c) (a.put d v) w → Q (.panic c) a w) : ∀ (t : Tree) (listed : Array Bool) (a : Act) (w : World),
    treeB md ops t listed = true → Seq P ops Q t a w → wpAny P md ops Q t.size listed a w
  | .ends, listed, a, w, hB, h => ⟨by simpa [treeB] using hB, h⟩
  | .free i t, listed, a, w, hB, ⟨o, ho, v, hy, h⟩ => by
    simp only [treeB, Bool.and_eq_true] at hB
    obtain ⟨h1, h2, h3⟩ := hB
    exact wpAny_take ho hs h2 h1 (fun c a w => hQ c a o.dst v w) hy (seq_any hs hQ t _ _ _ h3 h)
  | .act i t, listed, a, w, hB, h => by
    simp only [treeB, Bool.and_eq_true, beq_iff_eq] at hB
    obtain ⟨h1, h3⟩ := hB
    refine ⟨fun h0 => (by rw [h1] at h0; cases h0), fun j hj => ?_⟩
    rw [h1] at hj
    obtain rfl : j = i := by simpa using hj
    exact One.op h (fun a' w' hh => seq_any hs hQ t _ _ _ h3 hh)
  | .two i t j u, listed, a, w, hB, ⟨h, h'⟩ => by
    simp only [treeB, Bool.and_eq_true, beq_iff_eq] at hB
    obtain ⟨h1, h2, h3, h4⟩ := hB
    refine ⟨fun h0 => (by rw [h1] at h0; cases h0), fun k hk => ?_⟩
    rw [h1] at hk
    rcases List.mem_cons.1 hk with rfl | hk
    · exact One.op h (fun a' w' hh => seq_any hs hQ t _ _ _ h3 hh)
    · obtain rfl : k = j := by simpa using hk
      refine One.op h' (fun a' w' hh => ?_)
      rw [h2]
      exact seq_any hs hQ u _ _ _ h4 hh

/-- These orders serve every order. -/
theorem region {id : Nat} {a : Act} {w : World} {l : List Oper} (t : Tree) (hm : P.follows .mixedOrders = true) (hs : Region.noSelect l.toArray = true)
    (hl : t.size = l.toArray.size) (hB : treeB .any l.toArray t (Array.replicate l.toArray.size false) = true) (hQ : ∀ c a d v w, Q (.panic c) (a.put d v) w → Q (.panic c) a w)
    (h : Seq P l.toArray Q t a w.drew) : (Code.region id l.toArray true).wp P Q a w := by
  refine wp_region_any hm ?_
  have := seq_any (md := .any) hs hQ t (Array.replicate l.toArray.size false) a w.drew hB h
  rw [hl] at this
  exact this
/-- One operation that reads no memory. -/
theorem reads {l : List Oper} {i : Nat} {o : Oper} {t : Tree} {a : Act} {w : World} (hn : Grow.nth l i = some o) (hp : Grow.plain o = true)
    (h : wpQuiet P l.toArray (fun w' => ∃ u : World, w' = u) (fun a' => Seq P l.toArray Q t a' w) [o] a) : Seq P l.toArray Q (.free i t) a w := by
  have ho := (Grow.nth_at l i).trans hn
  unfold wpQuiet at h
  split at h
  · rename_i hw
    obtain ⟨v, h1, h2⟩ := h
    refine ⟨o, ho, v, .inl ⟨hw, fun u => ?_⟩, h2⟩
    have q := h1 u ⟨u, rfl⟩
    unfold Oper.quietAt at q
    cases hx : (execOp a.eval o).run P u with
    | ok n u' =>
      obtain ⟨x, rfl⟩ := Grow.plain_value hp hx
      rw [hx] at q
      obtain ⟨rfl, rfl⟩ := q
      rfl
    | halt x u' => rw [hx] at q; exact q.elim
  · rename_i hw
    exact ⟨o, ho, undef, .inr ⟨by simpa using hw, rfl⟩, h⟩
/-- A nil check of what is not nil. -/
theorem checks {l : List Oper} {i : Nat} {o : Oper} {t : Tree} {a : Act} {w : World} (hn : Grow.nth l i = some o) (hgd : o.guard = none) (x : Operand) (ho : o.op = .nilCheck x) (p : Addr) (hx : a.eval x = .pointer (some p))
    (h : Seq P l.toArray Q t (a.put o.dst (.pointer (some p))) w) : Seq P l.toArray Q (.free i t) a w := by
  refine ⟨o, (Grow.nth_at l i).trans hn, .pointer (some p), .inl ⟨by simp [Region.wanted, hgd], fun u => ?_⟩, h⟩
  unfold execOp
  simp only [ho, hx]
  rfl
/-- What follows an operation. -/
def On (P : Program) (ops : Array Oper) (Q : Exit → Act → World → Prop) (t : Tree) (a' : Act) (w' : World) : Prop := Seq P ops Q t a' w'
theorem acts {l : List Oper} {i : Nat} {o : Oper} {t : Tree} {a : Act} {w : World} (hn : Grow.nth l i = some o)
    (h : wpList P l.toArray (Exit.then (On P l.toArray Q t) Q) [o] a w) : Seq P l.toArray Q (.act i t) a w := ⟨o, (Grow.nth_at l i).trans hn, h⟩
theorem forks {l : List Oper} {i j : Nat} {o p : Oper} {t u : Tree} {a : Act} {w : World} (hn : Grow.nth l i = some o) (hm : Grow.nth l j = some p)
    (h : wpList P l.toArray (Exit.then (On P l.toArray Q t) Q) [o] a w) (h' : wpList P l.toArray (Exit.then (On P l.toArray Q u) Q) [p] a w) : Seq P l.toArray Q (.two i t j u) a w :=
  ⟨⟨o, (Grow.nth_at l i).trans hn, h⟩, ⟨p, (Grow.nth_at l j).trans hm, h'⟩⟩
theorem on {t : Tree} {a : Act} {w : World} (h : Seq P ops Q t a w) : On P ops Q t a w := h
theorem ends {a : Act} {w : World} (h : Q .normal a w) : Seq P ops Q .ends a w := h
end
end Go.Proofs.YtechkdhehipliaaGreatDoor.Forks
namespace Go.Proofs.YtechkdhehipliaaGreatDoor.CmG
set_option maxRecDepth 100000
open Go Go.Sort Go.RowKit Byt EncM EncC IdM IdW IdB OpsM OpsW CmM StW CmW CmR CmD

theorem nums_four {bs l1 l2 l3 l4 : List Int} {a b g n ka kb kg kn : Nat} (h1 : getL bs = (a, ka)) (e1 : bs.drop ka = l1) (h2 : getL l1 = (b, kb)) (e2 : l1.drop kb = l2) (h3 : getL l2 = (g, kg)) (e3 : l2.drop kg = l3) (h4 : getL l3 = (n, kn)) (e4 : l3.drop kn = l4) :
    nums 4 bs = if ka = 0 ∨ kb = 0 ∨ kg = 0 ∨ kn = 0 then none else some ([a, b, g, n], l4) := by
  simp only [nums, h1, e1, h2, e2, h3, e3, h4, e4]
  by_cases c1 : ka = 0 <;> by_cases c2 : kb = 0 <;> by_cases c3 : kg = 0 <;> by_cases c4 : kn = 0 <;> simp [c1, c2, c3, c4]
theorem idsL_snoc : ∀ (k : Nat) {s r : List Int} {ps : List Idn}, (∀ x ∈ s, B x) → idsL k s = some (ps, r) → 32 ≤ r.length → idsL (k + 1) s = some (ps ++ [headI r], r.drop 32)
  | 0, s, r, ps, hb, h, hr => by
    simp only [idsL, Option.some.injEq, Prod.mk.injEq] at h
    obtain ⟨rfl, rfl⟩ := h
    have hc : 32 ≤ s.length ∧ ∀ x ∈ s.take 32, 0 ≤ x ∧ x ≤ 255 := ⟨hr, fun x hx => hb x (List.mem_of_mem_take hx)⟩
    rw [idsL, dif_pos hc]
    simp only [idsL, List.nil_append, headI, dif_pos hc]
  | k + 1, s, r, ps, hb, h, hr => by
    rw [idsL] at h
    split at h
    · rename_i hc
      cases hq : idsL k (s.drop 32) with
      | none => rw [hq] at h; cases h
      | some q =>
        obtain ⟨l1, r1⟩ := q
        rw [hq] at h
        simp only [Option.some.injEq, Prod.mk.injEq] at h
        obtain ⟨rfl, rfl⟩ := h
        rw [idsL, dif_pos hc, idsL_snoc k (fun x hx => hb x (List.mem_of_mem_drop hx)) hq hr]
        rfl
    · cases h
theorem idsL_stop : ∀ (k n : Nat) {s r : List Int} {ps : List Idn}, idsL k s = some (ps, r) → r.length < 32 → k < n → idsL n s = none
  | 0, n + 1, s, r, ps, h, hr, _ => by
    simp only [idsL, Option.some.injEq, Prod.mk.injEq] at h
    obtain ⟨rfl, rfl⟩ := h
    rw [idsL, dif_neg (by omega)]
  | k + 1, n + 1, s, r, ps, h, hr, hk => by
    rw [idsL] at h
    split at h
    · rename_i hc
      cases hq : idsL k (s.drop 32) with
      | none => rw [hq] at h; cases h
      | some q =>
        obtain ⟨l1, r1⟩ := q
        rw [hq] at h
        simp only [Option.some.injEq, Prod.mk.injEq] at h
        obtain ⟨rfl, rfl⟩ := h
        rw [idsL, dif_pos hc, idsL_stop k n hq hr (by omega)]
    · cases h
theorem idsL_len (k : Nat) {s r : List Int} {ps : List Idn} (h : idsL k s = some (ps, r)) : ps.length = k ∧ 32 * k + r.length = s.length := by
  obtain ⟨h1, h2⟩ := idsL_back k h
  refine ⟨h1, ?_⟩
  rw [h2, List.length_append, flatL_len, h1]
/-- What a function that gets a commit answers. -/
def GetOut (q : Option (Com × List Int)) (w : World) (e : Ending) (w' : World) : Prop :=
  Below w.heap.size w w' ∧ match q with
    | none => e = .returned (.tuple #[.agg (cc noV), .slice none 0 0, .int .i64 2])
    | some (c, r) => ∃ v A k, e = .returned (.tuple #[.agg (cc v), .slice A r.length k, .int .i64 0]) ∧ v.c = c ∧ In w' v ∧ Sl w' A k r
theorem GetOut.none {q : Option (Com × List Int)} {w w' : World} {e : Ending} (hq : q = none) (h : e = .returned (.tuple #[.agg (cc noV), .slice none 0 0, .int .i64 2])) (hb : Below w.heap.size w w') : GetOut q w e w' := by subst hq; exact ⟨hb, h⟩
theorem GetOut.some {q : Option (Com × List Int)} {w w' : World} {e : Ending} {c : Com} {r : List Int} (hq : q = some (c, r)) (v : Cv) (A : Option Addr) (k : Nat) (h : e = .returned (.tuple #[.agg (cc v), .slice A r.length k, .int .i64 0])) (hv : v.c = c) (hi : In w' v) (hS : Sl w' A k r) (hb : Below w.heap.size w w') : GetOut q w e w' := by
  subst hq
  exact ⟨hb, v, A, k, h, hv, hi, hS⟩
theorem wrap_asI {n : Nat} (h : n < 18446744073709551616) : IntKind.i64.wrap (n : Int) = asI n := by
  rw [IntKind.wrap_i64]
  unfold asI
  split <;> omega
/-- The parents' row lies in another block than a box, by what the cells hold. -/
theorem row_far {α : Type} {E : Cel.Cel α} {w : World} {base g n : Nat} {v : Value} {ps : List Idn} {x : α} (O : w.ownsRow base 42 32 v n (bv (flat ps))) (hv : v = .slice none 0 0 ∨ 0 < ps.length) (h : Cel.Box E w g x) (hno : NoU8 w g) : v.ownBlock = none ∨ v.ownBlock ≠ some g := by
  rcases hv with rfl | hp
  · exact .inl rfl
  · right
    rcases O.2 with ⟨rfl, h0⟩ | ⟨q, cap, cur, rfl, hb, hq, h1, h2, h3, h4⟩
    · have := O.1
      rw [bv_length, flat_length, h0] at this
      omega
    · intro e
      simp only [Value.ownBlock, Option.some.injEq] at e
      subst e
      have h32 : 0 < (flat ps).length := by rw [flat_length]; omega
      have hn : 0 < n * 32 := by have := O.1; rw [bv_length] at this; omega
      have hcell : w.cell? ⟨q, 0, Option.none⟩ = some (.int .u8 ((flat ps).getD 0 0)) := by
        rw [O.cellAt 0 hn, bv_at _ h32]
      have := hno 0 _ hcell
      cases this
theorem far_ne {a b : Nat} (h : a ≠ b) : some a ≠ some b := fun e => h (Option.some.inj e)
/-- What a round of the loop over ids keeps. -/
structure Inv (f4 : Bool) (na nb ng : Int) (n : Nat) (l4 : List Int) (k : Nat) (rd : Rd) (cv : Cv) : Prop where
  com : cv.c = ⟨na, nb, ng, cv.c.ps, noO⟩
  nil : (Value.slice cv.a cv.c.ps.length cv.k = .slice none 0 0) ∨ 0 < cv.c.ps.length
  len : cv.c.ps.length ≤ l4.length + 1
  on : rd.bad = false → f4 = false ∧ idsL k l4 = some (cv.c.ps, rd.l)
  off : rd.bad = true → f4 = true ∨ idsL n l4 = none
theorem inv_start {f4 : Bool} {na nb ng : Int} {n : Nat} {l4 : List Int} {rd : Rd} (h1 : rd.l = l4) (h2 : rd.bad = f4) : Inv f4 na nb ng n l4 0 rd ⟨none, 0, ⟨na, nb, ng, [], noO⟩⟩ :=
  ⟨rfl, .inl rfl, Nat.zero_le _, fun h => ⟨by rw [← h2]; exact h, by rw [h1]; rfl⟩, fun h => .inl (by rw [← h2]; exact h)⟩
theorem inv_next {f4 : Bool} {na nb ng : Int} {n : Nat} {l4 : List Int} {k : Nat} {rd r' : Rd} {cv : Cv} (h : Inv f4 na nb ng n l4 k rd cv) (hb : rd.bad = false) (hB : ∀ x ∈ l4, B x) (hk : k < n) (h1 : r'.l = restI rd.l) (h2 : r'.bad = decide (rd.l.length < 32)) (A : Option Addr) (c : Nat) :
    Inv f4 na nb ng n l4 (k + 1) r' ⟨A, c, { cv.c with ps := cv.c.ps ++ [headI rd.l] }⟩ := by
  obtain ⟨o1, o2⟩ := h.on hb
  obtain ⟨l1, l2⟩ := idsL_len k o2
  refine ⟨?_, .inr (by simp), by simp only [List.length_append, List.length_singleton]; omega, fun hf => ⟨o1, ?_⟩, fun hf => .inr ?_⟩
  · have := h.com
    generalize cv.c = d at this ⊢
    rw [this]
  · rw [h2, decide_eq_false_iff_not] at hf
    rw [h1, restI, if_pos (by omega)]
    exact idsL_snoc k hB o2 (by omega)
  · rw [h2, decide_eq_true_eq] at hf
    exact idsL_stop k n o2 hf hk
theorem ne_of {o : Option Nat} {g : Nat} (h : o = none ∨ o ≠ some g) : some g ≠ o := by
  rcases h with h | h
  · rw [h]; simp
  · exact fun e => h e.symm
theorem fit_no : OpsC.Fit noO := ⟨by unfold I64 noO; simp, by unfold I64 noO; simp, Nat.zero_le _, Nat.zero_le _⟩
/-- An id stored into a box that was just made: the world behind it under a name of its own. -/
theorem wpList_store_id {ops : Array Oper} {rest : List Oper} {o : Oper} {a : Act} {w : World} {Q : Exit → Act → World → Prop} (hgd : o.guard = none) (x y : Operand) (ho : o.op = .store 42 x y)
    (w0 : World) (old : Idn) (t : TypeId) (hw : w = w0.alloc (.cells (cs old) t)) (z : Idn) (g : Nat) (hx : a.eval x = .pointer (some ⟨g, 0, none⟩)) (hg : g = w0.heap.size) (hy : a.eval y = .agg (cs z))
    (h : ∀ w1, IdW.Box w1 w0.heap.size z → Below w0.heap.size w0 w1 → w1.heap.size = w0.heap.size + 1 → wpList Tryz.prog ops Q rest (a.put o.dst undef) w1) : wpList Tryz.prog ops Q (o :: rest) a w := by
  subst hw
  subst hg
  refine wpList_store_row hgd 42 x y ho w0.heap.size (cs z) hx hy t (cs old) (heap_alloc_new w0 _) (info_cs z) (by rw [cs_size, cs_size]) (cs_one z) ?_
  rw [World.setRow_alloc_new]
  exact h _ (IdW.Box.new w0 z t) ((Below.refl _ _).alloc (Nat.le_refl _) _) (by simp)
theorem results_com {fn : Func} {p q r : Tmp} (h : fn.results = #[.cell p 38, .tmp q, .tmp r]) (tmps : Array Value) (w : World) (g : Nat) (v : Cv) (x y : Value)
    (hp : tmps.getD p undef = .pointer (some ⟨g, 0, none⟩)) (hq : tmps.getD q undef = x) (hr : tmps.getD r undef = y) (hg : Cel.Box CE w g v) : (results fn tmps).run Tryz.prog w = .ok (.tuple #[.agg (cc v), x, y]) w := by
  obtain ⟨t, ht⟩ := hg
  have hp' : tmps[p]?.getD undef = .pointer (some ⟨g, 0, none⟩) := by simpa using hp
  have hq' : tmps[q]?.getD undef = x := by simpa using hq
  have hr' : tmps[r]?.getD undef = y := by simpa using hr
  have hl := run_loadVar_row w g t 38 (CE.enc v).toArray (0, 0) _ ht CE.under CE.row (CE.size' v)
  simp [results, h, hp', hq', hr', asAddr, hl]
  rfl
theorem mayO_short {o : Opn} (h : mayO o = true) : o.key.size ≤ 8 ∧ o.elem.size ≤ 8 := by
  obtain ⟨hk, hr⟩ := mayO_kind h
  have h1 := keyL_len hk
  rw [bytesL_length] at h1
  refine ⟨by omega, ?_⟩
  rcases hr with ⟨_, hs⟩ | ⟨_, he⟩
  · have := (stepB_iff.1 hs).2.2.2
    have h2 : o.elem.size = 0 := by rw [← bytesL_length, this]; rfl
    omega
  · have h2 := keyL_len (elemB_iff.1 he).1
    rw [bytesL_length] at h2
    omega
theorem in_of_row {w : World} {base : Nat} {cv : Cv} (h : w.ownsRow base 42 32 (.slice cv.a cv.c.ps.length cv.k) cv.c.ps.length (bv (flat cv.c.ps))) : In w cv := by
  obtain ⟨A, c, e, S⟩ := SlI.own h
  injection e with e1 _ e3
  unfold In
  rw [e1, e3]
  exact S
/-- An operation stored into a box that was just made: the world behind it under a name of its own. -/
theorem wpList_store_opn {ops : Array Oper} {rest : List Oper} {o : Oper} {a : Act} {w : World} {Q : Exit → Act → World → Prop} (hgd : o.guard = none) (x y : Operand) (ho : o.op = .store 36 x y)
    (w0 : World) (old : Array Value) (t : TypeId) (hw : w = w0.alloc (.cells old t)) (z : Opn) (g : Nat) (hx : a.eval x = .pointer (some ⟨g, 0, none⟩)) (hg : g = w0.heap.size) (hy : a.eval y = .agg (opc z)) (hs : old.size = 4)
    (h : ∀ w1, OpAt w1 w0.heap.size z → Below w0.heap.size w0 w1 → w1.heap.size = w0.heap.size + 1 → wpList Tryz.prog ops Q rest (a.put o.dst undef) w1) : wpList Tryz.prog ops Q (o :: rest) a w := by
  subst hw
  subst hg
  refine wpList_store_row hgd 36 x y ho w0.heap.size (opc z) hx hy t old (heap_alloc_new w0 _) (info_opc z) (by rw [hs]; rfl) (opc_one z) ?_
  rw [World.setRow_alloc_new]
  exact h _ (OpAt.new w0 z t) ((Below.refl _ _).alloc (Nat.le_refl _) _) (by simp)
theorem okay_op {c : Com} {na nb ng : Int} {o : Opn} (h : c = ⟨na, nb, ng, c.ps, noO⟩) (h1 : I64 na) (h2 : I64 nb) (h3 : I64 ng) (hm : mayO o = true) : Okay { c with op := o } := by
  have hs := mayO_short hm
  generalize c.ps = l at h
  subst h
  exact ⟨⟨h1, h2, h3, OpsE.mayO_fit hm⟩, by show o.key.size ≤ _; omega, by show o.elem.size ≤ _; omega⟩
def tree : Forks.Tree := .free 1 (.free 2 (.free 3 (.two 0 (.act 4 (.act 5 (.act 6 (.free 7 (.free 8 .ends))))) 4 (.two 0 (.act 5 (.act 6 (.free 7 (.free 8 .ends)))) 5 (.act 0 (.act 6 (.free 7 (.free 8 .ends))))))))
theorem okay_no {na nb ng : Int} {ps : List Idn} (h1 : I64 na) (h2 : I64 nb) (h3 : I64 ng) : Okay ⟨na, nb, ng, ps, noO⟩ :=
  ⟨⟨h1, h2, h3, fit_no⟩, Nat.zero_le _, Nat.zero_le _⟩
theorem info_i : (Tryz.prog.info? 3).map (·.size) = some 1 := by kernel_rfl
theorem info_p : (Tryz.prog.info? 23).map (·.size) = some 1 := by kernel_rfl
theorem nums_flag {bs l1 l2 l3 l4 : List Int} {a b g n ka kb kg kn : Nat} {f1 f2 f3 f4 : Bool} (h1 : getL bs = (a, ka)) (e1 : bs.drop ka = l1) (h2 : getL l1 = (b, kb)) (e2 : l1.drop kb = l2) (h3 : getL l2 = (g, kg)) (e3 : l2.drop kg = l3) (h4 : getL l3 = (n, kn)) (e4 : l3.drop kn = l4)
    (hf1 : (false || decide (ka = 0)) = f1) (hf2 : (f1 || decide (kb = 0)) = f2) (hf3 : (f2 || decide (kg = 0)) = f3) (hf4 : (f3 || decide (kn = 0)) = f4) : getK bs = if f4 = true then none else tailK a b g n l4 := by
  unfold getK
  rw [nums_four h1 e1 h2 e2 h3 e3 h4 e4]
  subst hf1 hf2 hf3 hf4
  by_cases c1 : ka = 0 <;> by_cases c2 : kb = 0 <;> by_cases c3 : kg = 0 <;> by_cases c4 : kn = 0 <;> simp [c1, c2, c3, c4]
end Go.Proofs.YtechkdhehipliaaGreatDoor.CmG
