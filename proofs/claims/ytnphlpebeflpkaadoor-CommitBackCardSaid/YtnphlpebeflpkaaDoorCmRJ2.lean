/- What the document's May, Merge and Same of package commit return: contracts. | As Grow, where only what lies below a given block stays as it was: a region that draws its order, whose calls and appends wait for one another, and whose other operations read no memory. No condition. -/
import Derived.Test.YtnphlpebeflpkaaDoorEvWJ3
import Derived.Test.YtnphlpebeflpkaaDoorEvRJ4
import Derived.Test.YtnphlpebeflpkaaDoorIdV
import Derived.Test.YtnphlpebeflpkaaDoorBytRJ2
namespace Go.Proofs.YtnphlpebeflpkaaDoor.CmR
set_option maxRecDepth 100000
open Go Go.RowKit Byt IdM IdW OpsM OpsW CmM StW CmW

/-- A commit that came in, as the document's functions ask for it. -/
structure Okay (c : Com) : Prop where
  fit : Fit c
  key : c.op.key.size ≤ 1099511627776
  elem : c.op.elem.size ≤ 1099511627776
theorem line_no {c : Com} {n : Nat} {r x y : Bool} (h : lineB c = false) (hn : c.ps.length = n) (hr : risesB c.ps = r) (hx : (c.gen == 1) = x) (hy : ((n : Int) == 0) = y) :
    c.gen < 1 ∨ (1 ≤ c.gen ∧ (1048576 < c.gen ∨ (c.gen ≤ 1048576 ∧ (8 < (n : Int) ∨ ((n : Int) ≤ 8 ∧ (r = false ∨ (r = true ∧ (x = true ∧ y = false ∨ x = false ∧ y = true))))))))  := by
  subst hn hr hx hy
  have h' : ¬ (1 ≤ c.gen ∧ c.gen ≤ 1048576 ∧ c.ps.length ≤ 8 ∧ risesB c.ps = true ∧ (c.gen = 1 ↔ c.ps.length = 0)) := by
    rw [← lineB_iff, h]; simp
  cases hr : risesB c.ps with
  | false => rw [hr] at h'; simp; omega
  | true =>
    rw [hr] at h'
    by_cases h1 : c.gen = 1 <;> by_cases h2 : c.ps.length = 0
    all_goals
      have e2 : ((c.ps.length : Int) == 0) = decide (c.ps.length = 0) := by
        rw [Bool.eq_iff_iff]; simp
      rw [e2]
      simp [h1, h2] at h' ⊢
      try omega
theorem line_yes {c : Com} {n : Nat} {x y : Bool} (h : lineB c = true) (hn : c.ps.length = n) (hx : (c.gen == 1) = x) (hy : ((n : Int) == 0) = y) :
    1 ≤ c.gen ∧ c.gen ≤ 1048576 ∧ (n : Int) ≤ 8 ∧ risesB c.ps = true ∧ (x = true ∧ y = true ∨ x = false ∧ y = false) := by
  subst hn hx hy
  obtain ⟨h1, h2, h3, h4, h5⟩ := lineB_iff.1 h
  refine ⟨h1, h2, by omega, h4, ?_⟩
  have e2 : ((c.ps.length : Int) == 0) = decide (c.ps.length = 0) := by
    rw [Bool.eq_iff_iff]; simp
  rw [e2]
  by_cases g1 : c.gen = 1 <;> by_cases g2 : c.ps.length = 0 <;> simp [g1, g2] at h5 ⊢
set_option maxRecDepth 100000 in
set_option maxHeartbeats 8000000 in
theorem may_none (v : Cv) (w : World) (S : In w v) (h : lineB v.c = false) :
    Calls Tryd.prog 15 #[.agg (cc v)] w fun e w' => e = .returned (.bool (mayK v.c)) ∧ Below w.heap.size w w' := by
  have R : Cel.Box CE (w.alloc (.cells (cc v) 28)) w.heap.size v := Cel.Box.new w v _
  have kb := StW.below_alloc w (.cells (cc v) 28)
  have S0 := S.below kb
  have HR : Hid (mayK v.c = false) := aside (by unfold mayK; rw [h]; rfl)
  have q0 := fun W T => IdV.rrises_ret v.a v.k v.c.ps W T
  obtain ⟨r, hr⟩ : ∃ r, risesB v.c.ps = r := ⟨_, rfl⟩
  obtain ⟨n, hn⟩ : ∃ n, v.c.ps.length = n := ⟨_, rfl⟩
  obtain ⟨x, hx⟩ : ∃ x, (v.c.gen == 1) = x := ⟨_, rfl⟩
  obtain ⟨y, hy⟩ : ∃ y, ((n : Int) == 0) = y := ⟨_, rfl⟩
  have hw := line_no h hn hr hx hy
  have HN := aside hn
  have c3 := cell_ps R
  rw [hn] at c3 q0
  rw [hr] at q0
  clear hr h
  clear S hn
  go_enter Tryd.func15, Tryd.ntmps15
  go_wp2_with fail
  refine (q0 _ S0).mono ?_
  rintro e w1 ⟨rfl, k1⟩
  have R1 := R.below k1
  have b1 := kb.trans (k1.mono kb.size)
  clear q0 c3 R S0 k1 kb
  have d0 := cell_node R1
  have d1 := cell_seq R1
  have d2 := cell_gen R1
  have d3 := cell_ps R1
  rw [HN.out] at d3
  obtain ⟨g, hg⟩ : ∃ g, v.c.gen = g := ⟨_, rfl⟩
  rw [hg] at d2 hx hw
  clear hg
  rcases hw with p | ⟨p1, p | ⟨p2, p | ⟨p3, rfl | ⟨rfl, ⟨rfl, rfl⟩ | ⟨rfl, rfl⟩⟩⟩⟩⟩
  all_goals
    clear HN
    go_wp2_with (first | go_skip)
    go_ret
    exact ⟨StW.ret_bool HR.out.symm, b1⟩
set_option maxRecDepth 100000 in
set_option maxHeartbeats 8000000 in
theorem may_merge (v : Cv) (w : World) (S : In w v) (h : lineB v.c = true) (hm : v.c.node = -1) :
    Calls Tryd.prog 15 #[.agg (cc v)] w fun e w' => e = .returned (.bool (mayK v.c)) ∧ Below w.heap.size w w' := by
  have R : Cel.Box CE (w.alloc (.cells (cc v) 28)) w.heap.size v := Cel.Box.new w v _
  have kb := StW.below_alloc w (.cells (cc v) 28)
  have S0 := S.below kb
  have HR : Hid (mayK v.c = (decide (v.c.seq = 0) && (noughtO v.c.op && decide (2 ≤ v.c.ps.length)))) := aside (by
    unfold mayK mergeB StM.eventB
    rw [h, hm]
    simp)
  have heq : ∀ W : World, (Op.equalIn 10000 26 (.agg (opc v.c.op)) (.agg #[.int .i64 0, .string ⟨#[]⟩, .string ⟨#[]⟩, .int .i64 0])).run Tryd.prog W = .ok (noughtO v.c.op) W := fun W => equal_nought W v.c.op
  obtain ⟨z, hz⟩ : ∃ z, noughtO v.c.op = z := ⟨_, rfl⟩
  rw [hz] at heq HR
  have q0 := fun W T => IdV.rrises_ret v.a v.k v.c.ps W T
  obtain ⟨r, hr⟩ : ∃ r, risesB v.c.ps = r := ⟨_, rfl⟩
  obtain ⟨n, hn⟩ : ∃ n, v.c.ps.length = n := ⟨_, rfl⟩
  obtain ⟨x, hx⟩ : ∃ x, (v.c.gen == 1) = x := ⟨_, rfl⟩
  obtain ⟨y, hy⟩ : ∃ y, ((n : Int) == 0) = y := ⟨_, rfl⟩
  obtain ⟨g1, g2, g3, g4, g5⟩ := line_yes h hn hx hy
  rw [hn] at HR
  have HN := aside hn
  have c3 := cell_ps R
  rw [hn] at c3 q0
  rw [hr] at q0
  rw [g4] at hr
  subst hr
  clear h g4
  clear S hn
  go_enter Tryd.func15, Tryd.ntmps15
  go_wp2_with fail
  refine (q0 _ S0).mono ?_
  rintro e w1 ⟨rfl, k1⟩
  have R1 := R.below k1
  have b1 := kb.trans (k1.mono kb.size)
  clear q0 c3 R S0 k1 kb
  have d0 := cell_node R1
  have d1 := cell_seq R1
  have d2 := cell_gen R1
  have d3 := cell_ps R1
  rw [HN.out] at d3
  rw [hm] at d0
  obtain ⟨g, hg⟩ : ∃ g, v.c.gen = g := ⟨_, rfl⟩
  rw [hg] at d2 hx g1 g2
  obtain ⟨s, hs⟩ : ∃ s, v.c.seq = s := ⟨_, rfl⟩
  rw [hs] at d1 HR
  obtain ⟨b, hb⟩ : ∃ b, (s == 0) = b := ⟨_, rfl⟩
  have HR2 : Hid (mayK v.c = (b && (z && decide (2 ≤ (n : Int))))) := aside (by
    rw [HR.out, ← hb, show (s == 0) = decide (s = 0) by rw [Bool.eq_iff_iff]; simp, show decide (2 ≤ (n : Int)) = decide (2 ≤ n) by rw [Bool.eq_iff_iff]; simp; omega])
  clear hg hm hs hz HR HN
  have hbz : b = false ∨ b = true ∧ z = false ∨ b = true ∧ z = true := by cases b <;> cases z <;> simp
  rcases g5 with ⟨rfl, rfl⟩ | ⟨rfl, rfl⟩
  all_goals
    rcases hbz with rfl | ⟨rfl, rfl⟩ | ⟨rfl, rfl⟩
    all_goals
      go_wp2_with (first | go_skip | (refine gkop _ rfl _ rfl v R1 rfl ?_))
      go_ret
      exact ⟨StW.ret_bool (by rw [HR2.out]; rfl), b1⟩
set_option maxRecDepth 100000 in
set_option maxHeartbeats 8000000 in
theorem may_op (v : Cv) (w : World) (S : In w v) (ho : Okay v.c) (h : lineB v.c = true) (hm : v.c.node ≠ -1) :
    Calls Tryd.prog 15 #[.agg (cc v)] w fun e w' => e = .returned (.bool (mayK v.c)) ∧ Below w.heap.size w w' := by
  have R : Cel.Box CE (w.alloc (.cells (cc v) 28)) w.heap.size v := Cel.Box.new w v _
  have kb := StW.below_alloc w (.cells (cc v) 28)
  have S0 := S.below kb
  have HR : Hid (mayK v.c = (StM.eventB v.c.node v.c.seq && mayO v.c.op)) := aside (by
    unfold mayK mergeB
    rw [h]
    simp [hm])
  have q1 := fun W => StR.event_ret ⟨v.c.node, v.c.seq⟩ W
  have q2 := fun W => OpsR.may v.c.op W ho.fit.op ho.key ho.elem
  obtain ⟨z1, hz1⟩ : ∃ z, StM.eventB v.c.node v.c.seq = z := ⟨_, rfl⟩
  obtain ⟨z2, hz2⟩ : ∃ z, mayO v.c.op = z := ⟨_, rfl⟩
  rw [hz1, hz2] at HR
  simp only [hz1] at q1
  rw [hz2] at q2
  clear hz1 hz2 ho
  have q0 := fun W T => IdV.rrises_ret v.a v.k v.c.ps W T
  obtain ⟨r, hr⟩ : ∃ r, risesB v.c.ps = r := ⟨_, rfl⟩
  obtain ⟨n, hn⟩ : ∃ n, v.c.ps.length = n := ⟨_, rfl⟩
  obtain ⟨x, hx⟩ : ∃ x, (v.c.gen == 1) = x := ⟨_, rfl⟩
  obtain ⟨y, hy⟩ : ∃ y, ((n : Int) == 0) = y := ⟨_, rfl⟩
  obtain ⟨g1, g2, g3, g4, g5⟩ := line_yes h hn hx hy
  have HN := aside hn
  have c3 := cell_ps R
  rw [hn] at c3 q0
  rw [hr] at q0
  rw [g4] at hr
  subst hr
  clear h g4
  clear S hn
  go_enter Tryd.func15, Tryd.ntmps15
  go_wp2_with fail
  refine (q0 _ S0).mono ?_
  rintro e w1 ⟨rfl, k1⟩
  have R1 := R.below k1
  have b1 := kb.trans (k1.mono kb.size)
  clear q0 c3 R S0 k1 kb
  have d0 := cell_node R1
  have d1 := cell_seq R1
  have d2 := cell_gen R1
  have d3 := cell_ps R1
  rw [HN.out] at d3
  obtain ⟨g, hg⟩ : ∃ g, v.c.gen = g := ⟨_, rfl⟩
  rw [hg] at d2 hx g1 g2
  have hne : (v.c.node == -1) = false := by simpa using hm
  clear hg hm HN
  rcases g5 with ⟨rfl, rfl⟩ | ⟨rfl, rfl⟩
  all_goals
    go_wp2_with (first | go_skip | (refine wpList_load_kev rfl _ rfl _ rfl v R1 ?_))
    refine (q1 _).mono ?_
    rintro e w2 ⟨rfl, k2⟩
    have R2 := R1.below k2
    have b2 := b1.trans (k2.mono b1.size)
    go_wp2_with (first | go_skip | (refine wpList_load_kop rfl _ rfl _ rfl v R2 ?_))
    refine (q2 _).mono ?_
    rintro e w3 ⟨rfl, k3⟩
    have b3 := b2.trans (k3.mono b2.size)
    clear d0 d1 d2 d3 R1 b1 k2 R2 b2 k3
    cases z1
    all_goals
      go_wp2_with (first | go_skip)
      go_ret
      exact ⟨StW.ret_bool (by rw [HR.out]; rfl), b3⟩
theorem may_ret (v : Cv) (w : World) (S : In w v) (ho : Okay v.c) :
    Calls Tryd.prog 15 #[.agg (cc v)] w fun e w' => e = .returned (.bool (mayK v.c)) ∧ Below w.heap.size w w' := by
  cases h : lineB v.c with
  | false => exact may_none v w S h
  | true =>
    by_cases hm : v.c.node = -1
    · exact may_merge v w S h hm
    · exact may_op v w S ho h hm
set_option maxRecDepth 100000 in
set_option maxHeartbeats 8000000 in
theorem merge_ret (v : Cv) (w : World) (S : In w v) (ho : Okay v.c) :
    Calls Tryd.prog 16 #[.agg (cc v)] w fun e w' => e = .returned (.bool (isM v.c)) ∧ Below w.heap.size w w' := by
  have R : Cel.Box CE (w.alloc (.cells (cc v) 28)) w.heap.size v := Cel.Box.new w v _
  have kb := StW.below_alloc w (.cells (cc v) 28)
  have S0 := S.below kb
  have q0 := fun W T => may_ret v W T ho
  have HR : Hid (isM v.c = (mayK v.c && decide (v.c.node = -1))) := aside rfl
  obtain ⟨z, hz⟩ : ∃ z, mayK v.c = z := ⟨_, rfl⟩
  rw [hz] at HR
  simp only [hz] at q0
  clear S ho hz
  go_enter Tryd.func16, Tryd.ntmps16
  go_wp2_with (first | go_skip | (refine Cel.wpList_load_box CE rfl _ rfl _ rfl v R ?_))
  refine (q0 _ S0).mono ?_
  rintro e w1 ⟨rfl, k1⟩
  have R1 := R.below k1
  have b1 := kb.trans (k1.mono kb.size)
  clear q0 R S0 k1 kb
  have d0 := cell_node R1
  obtain ⟨b, hb⟩ : ∃ b, (v.c.node == -1) = b := ⟨_, rfl⟩
  have HR2 : Hid (isM v.c = (z && b)) := aside (by rw [HR.out, ← hb]; congr 1)
  clear HR
  cases z
  all_goals
    go_wp2_with (first | go_skip)
    go_ret
    exact ⟨StW.ret_bool (by rw [HR2.out]; rfl), b1⟩
/-- Are two commits the same? -/
def sameK (a b : Com) : Bool := decide (a.ps = b.ps) && (sameE a.node a.seq b.node b.seq && (decide (a.gen = b.gen) && OpsE.sameB a.op b.op))
theorem sameK_iff {a b : Com} : sameK a b = true ↔ a = b := by
  unfold sameK
  rw [Bool.and_eq_true, Bool.and_eq_true, Bool.and_eq_true, decide_eq_true_eq, decide_eq_true_eq, sameE_iff, OpsE.sameB_iff]
  exact ⟨fun h => Com_ext h.2.1.1 h.2.1.2 h.2.2.1 h.1 h.2.2.2, fun h => by rw [h]; exact ⟨rfl, ⟨rfl, rfl⟩, rfl, rfl⟩⟩
theorem sameK_self (a : Com) : sameK a a = true := sameK_iff.2 rfl
set_option maxRecDepth 100000 in
set_option maxHeartbeats 8000000 in
theorem same_ret (u v : Cv) (w : World) (S : In w u) (T : In w v) :
    Calls Tryd.prog 17 #[.agg (cc u), .agg (cc v)] w fun e w' => e = .returned (.bool (sameK u.c v.c)) ∧ Below w.heap.size w w' := by
  have R : Cel.Box CE ((w.alloc (.cells (cc u) 28)).alloc (.cells (cc v) 28)) w.heap.size u := (Cel.Box.new (E := CE) w u 28).alloc _
  have Q : Cel.Box CE ((w.alloc (.cells (cc u) 28)).alloc (.cells (cc v) 28)) (w.heap.size + 1) v := by
    have z : (w.alloc (.cells (cc u) 28)).heap.size = w.heap.size + 1 := by simp
    rw [← z]
    exact Cel.Box.new _ v _
  have kb : Below w.heap.size w ((w.alloc (.cells (cc u) 28)).alloc (.cells (cc v) 28)) := ((Below.refl _ _).alloc (Nat.le_refl _) _).alloc (by simp) _
  have S0 := S.below kb
  have T0 := T.below kb
  have c0 := cell_ps R
  have d0 := cell_ps Q
  have q0 := fun W S T => IdV.same_ret u.a v.a u.k v.k u.c.ps v.c.ps W S T
  have q1 := fun W => equal_ev 9998 W u.c.node u.c.seq v.c.node v.c.seq
  have q2 := fun W => OpsE.equal W u.c.op v.c.op
  obtain ⟨x, hx⟩ : ∃ x, decide (u.c.ps = v.c.ps) = x := ⟨_, rfl⟩
  obtain ⟨y, hy⟩ : ∃ y, sameE u.c.node u.c.seq v.c.node v.c.seq = y := ⟨_, rfl⟩
  obtain ⟨z, hz⟩ : ∃ z, OpsE.sameB u.c.op v.c.op = z := ⟨_, rfl⟩
  obtain ⟨b, hb⟩ : ∃ b, (u.c.gen == v.c.gen) = b := ⟨_, rfl⟩
  have HR : Hid (sameK u.c v.c = (x && (y && (b && z)))) := aside (by
    unfold sameK
    rw [hx, hy, hz, ← hb]
    congr 3)
  simp only [hx] at q0
  rw [hy] at q1
  rw [hz] at q2
  clear S T hx hy hz
  go_enter Tryd.func17, Tryd.ntmps17
  go_wp2_with fail
  refine (q0 _ S0 T0).mono ?_
  rintro e w1 ⟨rfl, k1⟩
  have R1 := R.below k1
  have Q1 := Q.below k1
  have b1 := kb.trans (k1.mono kb.size)
  clear q0 c0 d0 R Q S0 T0 k1 kb
  have c2 := cell_gen R1
  have d2 := cell_gen Q1
  have hxy : x = false ∨ x = true ∧ y = false ∨ x = true ∧ y = true ∧ b = false ∨ x = true ∧ y = true ∧ b = true := by cases x <;> cases y <;> cases b <;> simp
  rcases hxy with rfl | ⟨rfl, rfl⟩ | ⟨rfl, rfl, rfl⟩ | ⟨rfl, rfl, rfl⟩
  all_goals
    go_wp2_with (first | go_skip | (refine gkev _ rfl _ rfl u R1 rfl ?_) | (refine gkev _ rfl _ rfl v Q1 rfl ?_) | (refine gkop _ rfl _ rfl u R1 rfl ?_) | (refine gkop _ rfl _ rfl v Q1 rfl ?_))
    go_ret
    exact ⟨StW.ret_bool (by rw [HR.out]; rfl), b1⟩
end Go.Proofs.YtnphlpebeflpkaaDoor.CmR
namespace Go.Proofs.YtnphlpebeflpkaaDoor.GrowB
set_option maxRecDepth 100000
open Go Go.Sort Go.RowKit

section
variable {P : Program} {ops : Array Oper} {Q : Exit → Act → World → Prop} {md : Region.Mode} {B : Nat}

/-- Whatever order is picked from here on, and each operation leaves all that was there as it was. -/
def M (B : Nat) (P : Program) (md : Region.Mode) (ops : Array Oper) (Q : Exit → Act → World → Prop) : Nat → Array Bool → Act → World → Prop
  | 0, listed, a, w => Region.ready md ops listed = [] ∧ Q .normal a w
  | fuel + 1, listed, a, w => (Region.ready md ops listed = [] → Q .normal a w) ∧
    ∀ i ∈ Region.ready md ops listed, wpOp P ops Q i (fun a' w' => Below B w w' ∧ M B P md ops Q fuel (listed.setIfInBounds i true) a' w') a w
theorem M.any : ∀ (fuel : Nat) (listed : Array Bool) (a : Act) (w : World), M B P md ops Q fuel listed a w → wpAny P md ops Q fuel listed a w
  | 0, _, _, _, h => h
  | fuel + 1, _, _, _, h => ⟨h.1, fun i hi => wpOp_mono (fun a' w' h' => M.any fuel _ a' w' h'.2) (h.2 i hi)⟩

/-- What reads in all worlds that grew from w reads in all that grew from one of these. -/
theorem later {o : Oper} {v : Value} {a : Act} {w w' : World} (h : YieldsIf P ops (Below B w) o v a) (hb : Below B w w') : YieldsIf P ops (Below B w') o v a :=
  h.imp (fun ⟨h1, h2⟩ => ⟨h1, fun u hu => h2 u (hb.trans hu)⟩) id

/-- An operation that only reads may come first. -/
theorem M.first {i : Nat} {oi : Oper} {v : Value} (hi : ops[i]? = some oi) (hs : Region.noSelect ops = true)
    (hQ : ∀ c a w, Q (.panic c) (a.put oi.dst v) w → Q (.panic c) a w) (fuel : Nat) :
    ∀ (listed : Array Bool) (a : Act) (w : World),
      (∀ j oj, ops[j]? = some oj → j ≠ i → listed.getD j true = false → (∀ e ∈ oj.after, Region.binds md e = true → e.on ≠ i) → oi.apart ops oj = true) →
      i ∈ Region.ready md ops listed → YieldsIf P ops (Below B w) oi v a →
      M B P md ops Q fuel (listed.setIfInBounds i true) (a.put oi.dst v) w → M B P md ops Q (fuel + 1) listed a w := by
  have sel := fun (j : Nat) (o : Oper) (cs : Array SelectCase) (b : Bool) (h : ops[j]? = some o) => Region.noSelect_spec hs j o cs b h
  induction fuel with
  | zero =>
    intro listed a w _ hr hy H
    refine ⟨fun h0 => absurd hr (by rw [h0]; simp), fun j hj => ?_⟩
    by_cases e : j = i
    · subst e
      exact hy.wpOp hi (Below.refl _ _) ⟨Below.refl _ _, H⟩
    · exact absurd (ready_mono hj e) (by rw [H.1]; simp)
  | succ fuel ih =>
    intro listed a w hf hr hy H
    refine ⟨fun h0 => absurd hr (by rw [h0]; simp), fun j hj => ?_⟩
    by_cases e : j = i
    · subst e
      exact hy.wpOp hi (Below.refl _ _) ⟨Below.refl _ _, H⟩
    · have hstep := H.2 j (ready_mono hj e)
      obtain ⟨hun, oj, hoj, hall⟩ := mem_ready.1 hj
      have hno : ∀ x ∈ oj.after, Region.binds md x = true → x.on ≠ i := by
        intro x hx hb hxi
        have p1 := hall x hx hb
        have p0 := (mem_ready.1 hr).1
        rw [hxi] at p1
        by_cases hlt : i < listed.size
        · simp [hlt] at p0 p1
          rw [p0] at p1
          cases p1
        · simp [Array.getElem?_eq_none (Nat.le_of_not_lt hlt)] at p1
      refine wpOp_mono (fun a' w' h3 => ⟨h3.2.1, ?_⟩) (wpOp_putIf hoj (hf j oj hoj e hun hno) (fun cs b => sel i oi cs b hi) (fun cs b => sel j oj cs b hoj) hQ hy hstep)
      obtain ⟨y1, y2, y3⟩ := h3
      refine ih (listed.setIfInBounds j true) a' w' (fun k ok hk hki hku hkn => hf k ok hk hki ?_ hkn) (ready_mono hr (fun h => e h.symm)) (later y1 y2) ?_
      · by_cases ejk : j = k
        · subst ejk; exact hun
        · rwa [getD_set_ne true ejk] at hku
      · rw [Array.setIfInBounds_comm _ _ e]
        exact y3

/-- What is asked of each operation, in that order. -/
def Seq (B : Nat) (P : Program) (ops : Array Oper) (Q : Exit → Act → World → Prop) : List (Nat × Bool) → Act → World → Prop
  | [], a, w => Q .normal a w
  | (i, true) :: r, a, w => ∃ o, ops[i]? = some o ∧ ∃ v, YieldsIf P ops (Below B w) o v a ∧ Seq B P ops Q r (a.put o.dst v) w
  | (i, false) :: r, a, w => ∃ o, ops[i]? = some o ∧ wpList P ops (Exit.then (fun a' w' => Below B w w' ∧ Seq B P ops Q r a' w') Q) [o] a w

theorem seq_M (hs : Region.noSelect ops = true) (hQ : ∀ c a d v w, Q (.panic c) (a.put d v) w → Q (.panic c) a w) : ∀ (l : List (Nat × Bool)) (listed : Array Bool) (a : Act) (w : World),
    Grow.orderB md ops l listed = true → Seq B P ops Q l a w → M B P md ops Q l.length listed a w
  | [], listed, a, w, hB, h => ⟨by simpa [Grow.orderB] using hB, h⟩
  | (i, true) :: r, listed, a, w, hB, ⟨o, ho, v, hy, h⟩ => by
    simp only [Grow.orderB, Bool.and_eq_true] at hB
    obtain ⟨⟨⟨h1, h2⟩, _⟩, h4⟩ := hB
    exact M.first ho hs (fun c a w => hQ c a o.dst v w) r.length listed a w (Region.free_spec ho h2) (by simpa using h1) hy (seq_M hs hQ r _ _ _ h4 h)
  | (i, false) :: r, listed, a, w, hB, ⟨o, ho, h⟩ => by
    simp only [Grow.orderB, Bool.and_eq_true, beq_iff_eq] at hB
    obtain ⟨h1, h4⟩ := hB
    refine ⟨fun h0 => (by rw [h1] at h0; cases h0), fun j hj => ?_⟩
    rw [h1] at hj
    obtain rfl : j = i := by simpa using hj
    unfold wpOp
    simp only [ho]
    unfold wpList at h
    split
    · rename_i hw
      rw [if_pos hw] at h
      rcases h with h | ⟨h, a', w', hl⟩
      · refine .inl ?_
        unfold Oper.wp at h ⊢
        generalize (execOp a.eval o).run P w = x at h ⊢
        have on : ∀ a' w', wpList P ops (Exit.then (fun a' w' => Below B w w' ∧ Seq B P ops Q r a' w') Q) [] a' w' → Below B w w' ∧ M B P md ops Q r.length (listed.setIfInBounds j true) a' w' := by
          intro a' w' hh
          unfold wpList at hh
          exact ⟨hh.1, seq_M hs hQ r _ _ _ h4 hh.2⟩
        cases x with
        | ok n u =>
          cases n <;> simp only [Oper.upon] at h ⊢
          case enter f args =>
            refine Calls.mono h fun e w'' he => ?_
            cases e with
            | returned v => exact on _ _ he
            | panicked c => exact he
            | outgrown => exact he
          case row row args => exact Rows.mono h fun v w'' he => on _ _ he
          all_goals exact on _ _ h
        | halt x u => cases x <;> simp only [Oper.upon] at h ⊢; exact h
      · exact .inr ⟨h, a', w', hl⟩
    · rename_i hw
      rw [if_neg hw] at h
      unfold wpList at h
      exact ⟨h.1, seq_M hs hQ r _ _ _ h4 h.2⟩

/-- One order serves every order. -/
theorem region (B : Nat) {id : Nat} {a : Act} {w : World} {l : List Oper} (order : List (Nat × Bool)) (hm : P.follows .mixedOrders = true) (hs : Region.noSelect l.toArray = true)
    (hl : order.length = l.toArray.size) (hB : Grow.orderB .any l.toArray order (Array.replicate l.toArray.size false) = true) (hQ : ∀ c a d v w, Q (.panic c) (a.put d v) w → Q (.panic c) a w)
    (h : Seq B P l.toArray Q order a w.drew) : (Code.region id l.toArray true).wp P Q a w := by
  refine wp_region_any hm (M.any (B := B) _ _ _ _ ?_)
  have := seq_M (md := .any) hs hQ order (Array.replicate l.toArray.size false) a w.drew hB h
  rw [hl] at this
  exact this

/-- One operation that reads no memory: in every world it yields one and the same. -/
theorem reads {l : List Oper} {i : Nat} {o : Oper} {r : List (Nat × Bool)} {a : Act} {w : World} (hn : Grow.nth l i = some o) (hp : Grow.plain o = true)
    (h : wpQuiet P l.toArray (fun w' => ∃ u : World, w' = u) (fun a' => Seq B P l.toArray Q r a' w) [o] a) : Seq B P l.toArray Q ((i, true) :: r) a w := by
  have ho := (Grow.nth_at l i).trans hn
  unfold wpQuiet at h
  split at h
  · rename_i hw
    obtain ⟨v, h1, h2⟩ := h
    refine ⟨o, ho, v, .inl ⟨hw, fun u hu => ?_⟩, h2⟩
    have q := h1 u ⟨u, rfl⟩
    unfold Oper.quietAt at q
    cases hx : (execOp a.eval o).run P u with
    | ok n u' =>
      obtain ⟨x, rfl⟩ := Grow.plain_value hp hx
      rw [hx] at q
      obtain ⟨rfl, rfl⟩ := q
      rfl
    | halt x u' => rw [hx] at q; exact q.elim
  · rename_i hw
    exact ⟨o, ho, undef, .inr ⟨by simpa using hw, rfl⟩, h⟩
/-- A world in which what lies below B is as in w. -/
structure UpTo (B : Nat) (w : World) where
  u : World
  h : Below B w u
instance (B : Nat) (w : World) : Inhabited (UpTo B w) := ⟨⟨w, Below.refl _ _⟩⟩
/-- One operation that reads what lies below B alone. -/
theorem reads_below {l : List Oper} {i : Nat} {o : Oper} {r : List (Nat × Bool)} {a : Act} {w : World} (hn : Grow.nth l i = some o) (hp : Grow.plain o = true)
    (h : wpQuiet P l.toArray (fun w' => ∃ p : UpTo B w, w' = p.u) (fun a' => Seq B P l.toArray Q r a' w) [o] a) : Seq B P l.toArray Q ((i, true) :: r) a w := by
  have ho := (Grow.nth_at l i).trans hn
  unfold wpQuiet at h
  split at h
  · rename_i hw
    obtain ⟨v, h1, h2⟩ := h
    refine ⟨o, ho, v, .inl ⟨hw, fun u hu => ?_⟩, h2⟩
    have q := h1 u ⟨⟨u, hu⟩, rfl⟩
    unfold Oper.quietAt at q
    cases hx : (execOp a.eval o).run P u with
    | ok n u' =>
      obtain ⟨x, rfl⟩ := Grow.plain_value hp hx
      rw [hx] at q
      obtain ⟨rfl, rfl⟩ := q
      rfl
    | halt x u' => rw [hx] at q; exact q.elim
  · rename_i hw
    exact ⟨o, ho, undef, .inr ⟨by simpa using hw, rfl⟩, h⟩
/-- What follows a call. -/
def On (B : Nat) (P : Program) (ops : Array Oper) (Q : Exit → Act → World → Prop) (r : List (Nat × Bool)) (w : World) (a' : Act) (w' : World) : Prop := Below B w w' ∧ Seq B P ops Q r a' w'
/-- One operation that acts: a call. -/
theorem acts {l : List Oper} {i : Nat} {o : Oper} {r : List (Nat × Bool)} {a : Act} {w : World} (hn : Grow.nth l i = some o)
    (h : wpList P l.toArray (Exit.then (On B P l.toArray Q r w) Q) [o] a w) : Seq B P l.toArray Q ((i, false) :: r) a w := ⟨o, (Grow.nth_at l i).trans hn, h⟩
theorem ends {a : Act} {w : World} (h : Q .normal a w) : Seq B P ops Q [] a w := h
end
end Go.Proofs.YtnphlpebeflpkaaDoor.GrowB
