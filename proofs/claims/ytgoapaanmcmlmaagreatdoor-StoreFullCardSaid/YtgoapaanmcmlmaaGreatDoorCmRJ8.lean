/- What the document's May, Merge and Same of package commit return: contracts. | What the laws on commits ask for: few parents, and short texts: a contract. | What functions on commits answer, in one form for both ways. No condition. | One struct read whole inside a region that draws its order, whatever its fields. No condition. | One struct read whole inside a region that draws its order, guarded or not, whatever its fields. No condition. | How a reading gives a slice of structs that came in. No condition. | How a reading gives an id, and a slice of ids, that came in. | How a reading gives an operation that came in. -/
import Derived.Test.YtgoapaanmcmlmaaGreatDoorRowFJ7
import Derived.Test.YtgoapaanmcmlmaaGreatDoorEvRJ5
import Derived.Test.YtgoapaanmcmlmaaGreatDoorArrEqJ4
import Derived.Test.YtgoapaanmcmlmaaGreatDoorRowSJ3
import Derived.Test.YtgoapaanmcmlmaaGreatDoorEncGJ6
import Derived.ProofKit
import Derived.OpenShut
import Derived.WideShapes
import Derived.Test.YtgoapaanmcmlmaaGreatDoorOpsWJ2
import Derived.Lib.SmallJoins
namespace Go.Proofs.YtgoapaanmcmlmaaGreatDoor.CmR
set_option maxRecDepth 100000
open Go Go.RowKit Byt IdM IdW OpsM OpsW CmM StW CmW
structure Okay (c : Com) : Prop where
 fit : Fit c
 key : c.op.key.size ≤ 1099511627776
 elem : c.op.elem.size ≤ 1099511627776
theorem line_no {c : Com} {n : Nat} {r x y : Bool} (h : lineB c = false) (hn : c.ps.length = n) (hr : risesB c.ps = r) (hx : (c.gen == 1) = x) (hy : ((n : Int) == 0) = y) :
   c.gen < 1 ∨ (1 ≤ c.gen ∧ (1048576 < c.gen ∨ (c.gen ≤ 1048576 ∧ (8 < (n : Int) ∨ ((n : Int) ≤ 8 ∧ (r = false ∨ (r = true ∧ (x = true ∧ y = false ∨ x = false ∧ y = true))))))))  := by
 subst hn hr hx hy
 have h' : ¬ (1 ≤ c.gen ∧ c.gen ≤ 1048576 ∧ c.ps.length ≤ 8 ∧ risesB c.ps = true ∧ (c.gen = 1 ↔ c.ps.length = 0)) := by
   rw [← lineB_iff, h]; simp
 cases hr : risesB c.ps with
 | false => rw [hr] at h'; simp; omega
 | true =>
   rw [hr] at h'
   by_cases h1 : c.gen = 1 <;> by_cases h2 : c.ps.length = 0
   all_goals
     have e2 : ((c.ps.length : Int) == 0) = decide (c.ps.length = 0) := by
       rw [Bool.eq_iff_iff]; simp
     rw [e2]
     simp [h1, h2] at h' ⊢
     try omega
theorem line_yes {c : Com} {n : Nat} {x y : Bool} (h : lineB c = true) (hn : c.ps.length = n) (hx : (c.gen == 1) = x) (hy : ((n : Int) == 0) = y) :
   1 ≤ c.gen ∧ c.gen ≤ 1048576 ∧ (n : Int) ≤ 8 ∧ risesB c.ps = true ∧ (x = true ∧ y = true ∨ x = false ∧ y = false) := by
 subst hn hx hy
 obtain ⟨h1, h2, h3, h4, h5⟩ := lineB_iff.1 h
 refine ⟨h1, h2, by omega, h4, ?_⟩
 have e2 : ((c.ps.length : Int) == 0) = decide (c.ps.length = 0) := by
   rw [Bool.eq_iff_iff]; simp
 rw [e2]
 by_cases g1 : c.gen = 1 <;> by_cases g2 : c.ps.length = 0 <;> simp [g1, g2] at h5 ⊢
set_option maxRecDepth 100000 in
set_option maxHeartbeats 8000000 in
theorem may_none (v : Cv) (w : World) (S : In w v) (h : lineB v.c = false) :
   Calls Tryz.prog 48 #[.agg (cc v)] w fun e w' => e = .returned (.bool (mayK v.c)) ∧ Below w.heap.size w w' := by
 have R : Cel.Box CE (w.alloc (.cells (cc v) 29)) w.heap.size v := Cel.Box.new w v _
 have kb := StW.below_alloc w (.cells (cc v) 29)
 have S0 := S.below kb
 have HR : Hid (mayK v.c = false) := aside (by unfold mayK; rw [h]; rfl)
 have q0 := fun W T => IdV.rrises_ret v.a v.k v.c.ps W T
 obtain ⟨r, hr⟩ : ∃ r, risesB v.c.ps = r := ⟨_, rfl⟩
 obtain ⟨n, hn⟩ : ∃ n, v.c.ps.length = n := ⟨_, rfl⟩
 obtain ⟨x, hx⟩ : ∃ x, (v.c.gen == 1) = x := ⟨_, rfl⟩
 obtain ⟨y, hy⟩ : ∃ y, ((n : Int) == 0) = y := ⟨_, rfl⟩
 have hw := line_no h hn hr hx hy
 have HN := aside hn
 have c3 := cell_ps R
 rw [hn] at c3 q0
 rw [hr] at q0
 clear hr h
 clear S hn
 go_enter Tryz.func48, Tryz.ntmps48
 go_wp2_with fail
 refine (q0 _ S0).mono ?_
 rintro e w1 ⟨rfl, k1⟩
 have R1 := R.below k1
 have b1 := kb.trans (k1.mono kb.size)
 clear q0 c3 R S0 k1 kb
 have d0 := cell_node R1
 have d1 := cell_seq R1
 have d2 := cell_gen R1
 have d3 := cell_ps R1
 rw [HN.out] at d3
 obtain ⟨g, hg⟩ : ∃ g, v.c.gen = g := ⟨_, rfl⟩
 rw [hg] at d2 hx hw
 clear hg
 rcases hw with p | ⟨p1, p | ⟨p2, p | ⟨p3, rfl | ⟨rfl, ⟨rfl, rfl⟩ | ⟨rfl, rfl⟩⟩⟩⟩⟩
 all_goals
   clear HN
   go_wp2_with (first | go_skip)
   go_ret
   exact ⟨StW.ret_bool HR.out.symm, b1⟩
set_option maxRecDepth 100000 in
set_option maxHeartbeats 8000000 in
theorem may_merge (v : Cv) (w : World) (S : In w v) (h : lineB v.c = true) (hm : v.c.node = -1) :
   Calls Tryz.prog 48 #[.agg (cc v)] w fun e w' => e = .returned (.bool (mayK v.c)) ∧ Below w.heap.size w w' := by
 have R : Cel.Box CE (w.alloc (.cells (cc v) 29)) w.heap.size v := Cel.Box.new w v _
 have kb := StW.below_alloc w (.cells (cc v) 29)
 have S0 := S.below kb
 have HR : Hid (mayK v.c = (decide (v.c.seq = 0) && (noughtO v.c.op && decide (2 ≤ v.c.ps.length)))) := aside (by
   unfold mayK mergeB StM.eventB
   rw [h, hm]
   simp)
 have heq : ∀ W : World, (Op.equalIn 10000 27 (.agg (opc v.c.op)) (.agg #[.int .i64 0, .string ⟨#[]⟩, .string ⟨#[]⟩, .int .i64 0])).run Tryz.prog W = .ok (noughtO v.c.op) W := fun W => equal_nought W v.c.op
 obtain ⟨z, hz⟩ : ∃ z, noughtO v.c.op = z := ⟨_, rfl⟩
 rw [hz] at heq HR
 have q0 := fun W T => IdV.rrises_ret v.a v.k v.c.ps W T
 obtain ⟨r, hr⟩ : ∃ r, risesB v.c.ps = r := ⟨_, rfl⟩
 obtain ⟨n, hn⟩ : ∃ n, v.c.ps.length = n := ⟨_, rfl⟩
 obtain ⟨x, hx⟩ : ∃ x, (v.c.gen == 1) = x := ⟨_, rfl⟩
 obtain ⟨y, hy⟩ : ∃ y, ((n : Int) == 0) = y := ⟨_, rfl⟩
 obtain ⟨g1, g2, g3, g4, g5⟩ := line_yes h hn hx hy
 rw [hn] at HR
 have HN := aside hn
 have c3 := cell_ps R
 rw [hn] at c3 q0
 rw [hr] at q0
 rw [g4] at hr
 subst hr
 clear h g4
 clear S hn
 go_enter Tryz.func48, Tryz.ntmps48
 go_wp2_with fail
 refine (q0 _ S0).mono ?_
 rintro e w1 ⟨rfl, k1⟩
 have R1 := R.below k1
 have b1 := kb.trans (k1.mono kb.size)
 clear q0 c3 R S0 k1 kb
 have d0 := cell_node R1
 have d1 := cell_seq R1
 have d2 := cell_gen R1
 have d3 := cell_ps R1
 rw [HN.out] at d3
 rw [hm] at d0
 obtain ⟨g, hg⟩ : ∃ g, v.c.gen = g := ⟨_, rfl⟩
 rw [hg] at d2 hx g1 g2
 obtain ⟨s, hs⟩ : ∃ s, v.c.seq = s := ⟨_, rfl⟩
 rw [hs] at d1 HR
 obtain ⟨b, hb⟩ : ∃ b, (s == 0) = b := ⟨_, rfl⟩
 have HR2 : Hid (mayK v.c = (b && (z && decide (2 ≤ (n : Int))))) := aside (by
   rw [HR.out, ← hb, show (s == 0) = decide (s = 0) by rw [Bool.eq_iff_iff]; simp, show decide (2 ≤ (n : Int)) = decide (2 ≤ n) by rw [Bool.eq_iff_iff]; simp; omega])
 clear hg hm hs hz HR HN
 have hbz : b = false ∨ b = true ∧ z = false ∨ b = true ∧ z = true := by cases b <;> cases z <;> simp
 rcases g5 with ⟨rfl, rfl⟩ | ⟨rfl, rfl⟩
 all_goals
   rcases hbz with rfl | ⟨rfl, rfl⟩ | ⟨rfl, rfl⟩
   all_goals
     go_wp2_with (first | go_skip | (refine gkop _ rfl _ rfl v R1 rfl ?_))
     go_ret
     exact ⟨StW.ret_bool (by rw [HR2.out]; rfl), b1⟩
set_option maxRecDepth 100000 in
set_option maxHeartbeats 8000000 in
theorem may_op (v : Cv) (w : World) (S : In w v) (ho : Okay v.c) (h : lineB v.c = true) (hm : v.c.node ≠ -1) :
   Calls Tryz.prog 48 #[.agg (cc v)] w fun e w' => e = .returned (.bool (mayK v.c)) ∧ Below w.heap.size w w' := by
 have R : Cel.Box CE (w.alloc (.cells (cc v) 29)) w.heap.size v := Cel.Box.new w v _
 have kb := StW.below_alloc w (.cells (cc v) 29)
 have S0 := S.below kb
 have HR : Hid (mayK v.c = (StM.eventB v.c.node v.c.seq && mayO v.c.op)) := aside (by
   unfold mayK mergeB
   rw [h]
   simp [hm])
 have q1 := fun W => StR.event_ret ⟨v.c.node, v.c.seq⟩ W
 have q2 := fun W => OpsR.may v.c.op W ho.fit.op ho.key ho.elem
 obtain ⟨z1, hz1⟩ : ∃ z, StM.eventB v.c.node v.c.seq = z := ⟨_, rfl⟩
 obtain ⟨z2, hz2⟩ : ∃ z, mayO v.c.op = z := ⟨_, rfl⟩
 rw [hz1, hz2] at HR
 simp only [hz1] at q1
 rw [hz2] at q2
 clear hz1 hz2 ho
 have q0 := fun W T => IdV.rrises_ret v.a v.k v.c.ps W T
 obtain ⟨r, hr⟩ : ∃ r, risesB v.c.ps = r := ⟨_, rfl⟩
 obtain ⟨n, hn⟩ : ∃ n, v.c.ps.length = n := ⟨_, rfl⟩
 obtain ⟨x, hx⟩ : ∃ x, (v.c.gen == 1) = x := ⟨_, rfl⟩
 obtain ⟨y, hy⟩ : ∃ y, ((n : Int) == 0) = y := ⟨_, rfl⟩
 obtain ⟨g1, g2, g3, g4, g5⟩ := line_yes h hn hx hy
 have HN := aside hn
 have c3 := cell_ps R
 rw [hn] at c3 q0
 rw [hr] at q0
 rw [g4] at hr
 subst hr
 clear h g4
 clear S hn
 go_enter Tryz.func48, Tryz.ntmps48
 go_wp2_with fail
 refine (q0 _ S0).mono ?_
 rintro e w1 ⟨rfl, k1⟩
 have R1 := R.below k1
 have b1 := kb.trans (k1.mono kb.size)
 clear q0 c3 R S0 k1 kb
 have d0 := cell_node R1
 have d1 := cell_seq R1
 have d2 := cell_gen R1
 have d3 := cell_ps R1
 rw [HN.out] at d3
 obtain ⟨g, hg⟩ : ∃ g, v.c.gen = g := ⟨_, rfl⟩
 rw [hg] at d2 hx g1 g2
 have hne : (v.c.node == -1) = false := by simpa using hm
 clear hg hm HN
 rcases g5 with ⟨rfl, rfl⟩ | ⟨rfl, rfl⟩
 all_goals
   go_wp2_with (first | go_skip | (refine wpList_load_kev rfl _ rfl _ rfl v R1 ?_))
   refine (q1 _).mono ?_
   rintro e w2 ⟨rfl, k2⟩
   have R2 := R1.below k2
   have b2 := b1.trans (k2.mono b1.size)
   go_wp2_with (first | go_skip | (refine wpList_load_kop rfl _ rfl _ rfl v R2 ?_))
   refine (q2 _).mono ?_
   rintro e w3 ⟨rfl, k3⟩
   have b3 := b2.trans (k3.mono b2.size)
   clear d0 d1 d2 d3 R1 b1 k2 R2 b2 k3
   cases z1
   all_goals
     go_wp2_with (first | go_skip)
     go_ret
     exact ⟨StW.ret_bool (by rw [HR.out]; rfl), b3⟩
theorem may_ret (v : Cv) (w : World) (S : In w v) (ho : Okay v.c) :
   Calls Tryz.prog 48 #[.agg (cc v)] w fun e w' => e = .returned (.bool (mayK v.c)) ∧ Below w.heap.size w w' := by
 cases h : lineB v.c with
 | false => exact may_none v w S h
 | true =>
   by_cases hm : v.c.node = -1
   · exact may_merge v w S h hm
   · exact may_op v w S ho h hm
set_option maxRecDepth 100000 in
set_option maxHeartbeats 8000000 in
theorem merge_ret (v : Cv) (w : World) (S : In w v) (ho : Okay v.c) :
   Calls Tryz.prog 66 #[.agg (cc v)] w fun e w' => e = .returned (.bool (isM v.c)) ∧ Below w.heap.size w w' := by
 have R : Cel.Box CE (w.alloc (.cells (cc v) 29)) w.heap.size v := Cel.Box.new w v _
 have kb := StW.below_alloc w (.cells (cc v) 29)
 have S0 := S.below kb
 have q0 := fun W T => may_ret v W T ho
 have HR : Hid (isM v.c = (mayK v.c && decide (v.c.node = -1))) := aside rfl
 obtain ⟨z, hz⟩ : ∃ z, mayK v.c = z := ⟨_, rfl⟩
 rw [hz] at HR
 simp only [hz] at q0
 clear S ho hz
 go_enter Tryz.func66, Tryz.ntmps66
 go_wp2_with (first | go_skip | (refine Cel.wpList_load_box CE rfl _ rfl _ rfl v R ?_))
 refine (q0 _ S0).mono ?_
 rintro e w1 ⟨rfl, k1⟩
 have R1 := R.below k1
 have b1 := kb.trans (k1.mono kb.size)
 clear q0 R S0 k1 kb
 have d0 := cell_node R1
 obtain ⟨b, hb⟩ : ∃ b, (v.c.node == -1) = b := ⟨_, rfl⟩
 have HR2 : Hid (isM v.c = (z && b)) := aside (by rw [HR.out, ← hb]; congr 1)
 clear HR
 cases z
 all_goals
   go_wp2_with (first | go_skip)
   go_ret
   exact ⟨StW.ret_bool (by rw [HR2.out]; rfl), b1⟩
def sameK (a b : Com) : Bool := decide (a.ps = b.ps) && (sameE a.node a.seq b.node b.seq && (decide (a.gen = b.gen) && OpsE.sameB a.op b.op))
theorem sameK_iff {a b : Com} : sameK a b = true ↔ a = b := by
 unfold sameK
 rw [Bool.and_eq_true, Bool.and_eq_true, Bool.and_eq_true, decide_eq_true_eq, decide_eq_true_eq, sameE_iff, OpsE.sameB_iff]
 exact ⟨fun h => Com_ext h.2.1.1 h.2.1.2 h.2.2.1 h.1 h.2.2.2, fun h => by rw [h]; exact ⟨rfl, ⟨rfl, rfl⟩, rfl, rfl⟩⟩
set_option maxRecDepth 100000 in
set_option maxHeartbeats 8000000 in
theorem same_ret (u v : Cv) (w : World) (S : In w u) (T : In w v) :
   Calls Tryz.prog 35 #[.agg (cc u), .agg (cc v)] w fun e w' => e = .returned (.bool (sameK u.c v.c)) ∧ Below w.heap.size w w' := by
 have R : Cel.Box CE ((w.alloc (.cells (cc u) 29)).alloc (.cells (cc v) 29)) w.heap.size u := (Cel.Box.new (E := CE) w u 29).alloc _
 have Q : Cel.Box CE ((w.alloc (.cells (cc u) 29)).alloc (.cells (cc v) 29)) (w.heap.size + 1) v := by
   have z : (w.alloc (.cells (cc u) 29)).heap.size = w.heap.size + 1 := by simp
   rw [← z]
   exact Cel.Box.new _ v _
 have kb : Below w.heap.size w ((w.alloc (.cells (cc u) 29)).alloc (.cells (cc v) 29)) := ((Below.refl _ _).alloc (Nat.le_refl _) _).alloc (by simp) _
 have S0 := S.below kb
 have T0 := T.below kb
 have c0 := cell_ps R
 have d0 := cell_ps Q
 have q0 := fun W S T => IdV.same_ret u.a v.a u.k v.k u.c.ps v.c.ps W S T
 have q1 := fun W => equal_ev 9998 W u.c.node u.c.seq v.c.node v.c.seq
 have q2 := fun W => OpsE.equal W u.c.op v.c.op
 obtain ⟨x, hx⟩ : ∃ x, decide (u.c.ps = v.c.ps) = x := ⟨_, rfl⟩
 obtain ⟨y, hy⟩ : ∃ y, sameE u.c.node u.c.seq v.c.node v.c.seq = y := ⟨_, rfl⟩
 obtain ⟨z, hz⟩ : ∃ z, OpsE.sameB u.c.op v.c.op = z := ⟨_, rfl⟩
 obtain ⟨b, hb⟩ : ∃ b, (u.c.gen == v.c.gen) = b := ⟨_, rfl⟩
 have HR : Hid (sameK u.c v.c = (x && (y && (b && z)))) := aside (by
   unfold sameK
   rw [hx, hy, hz, ← hb]
   congr 3)
 simp only [hx] at q0
 rw [hy] at q1
 rw [hz] at q2
 clear S T hx hy hz
 go_enter Tryz.func35, Tryz.ntmps35
 go_wp2_with fail
 refine (q0 _ S0 T0).mono ?_
 rintro e w1 ⟨rfl, k1⟩
 have R1 := R.below k1
 have Q1 := Q.below k1
 have b1 := kb.trans (k1.mono kb.size)
 clear q0 c0 d0 R Q S0 T0 k1 kb
 have c2 := cell_gen R1
 have d2 := cell_gen Q1
 have hxy : x = false ∨ x = true ∧ y = false ∨ x = true ∧ y = true ∧ b = false ∨ x = true ∧ y = true ∧ b = true := by cases x <;> cases y <;> cases b <;> simp
 rcases hxy with rfl | ⟨rfl, rfl⟩ | ⟨rfl, rfl, rfl⟩ | ⟨rfl, rfl, rfl⟩
 all_goals
   go_wp2_with (first | go_skip | (refine gkev _ rfl _ rfl u R1 rfl ?_) | (refine gkev _ rfl _ rfl v Q1 rfl ?_) | (refine gkop _ rfl _ rfl u R1 rfl ?_) | (refine gkop _ rfl _ rfl v Q1 rfl ?_))
   go_ret
   exact ⟨StW.ret_bool (by rw [HR.out]; rfl), b1⟩
end Go.Proofs.YtgoapaanmcmlmaaGreatDoor.CmR
namespace Go.Proofs.YtgoapaanmcmlmaaGreatDoor.CmX
set_option maxRecDepth 100000
open Go Go.RowKit Byt IdM IdW OpsM OpsW CmM StW CmW
def fewK (c : Com) : Bool := decide (c.ps.length ≤ 20) && (decide (c.op.key.size ≤ 100) && decide (c.op.elem.size ≤ 100))
theorem fewK_iff {c : Com} : fewK c = true ↔ c.ps.length ≤ 20 ∧ c.op.key.size ≤ 100 ∧ c.op.elem.size ≤ 100 := by
 unfold fewK
 simp only [Bool.and_eq_true, decide_eq_true_eq]
theorem okay {c : Com} (h : fewK c = true) (hf : Fit c) : CmR.Okay c := by
 obtain ⟨h1, h2, h3⟩ := fewK_iff.1 h
 exact ⟨hf, by omega, by omega⟩
set_option maxRecDepth 100000 in
set_option maxHeartbeats 4000000 in
theorem few_ret (v : Cv) (w : World) : Calls Tryz.prog 9 #[.agg (cc v)] w fun e w' => e = .returned (.bool (fewK v.c)) ∧ Below w.heap.size w w' := by
 have R : Cel.Box CE (w.alloc (.cells (cc v) 29)) w.heap.size v := Cel.Box.new w v _
 have kb := StW.below_alloc w (.cells (cc v) 29)
 have c3 := cell_ps R
 have c5 := cell_key R
 have c6 := cell_elem R
 obtain ⟨n, hn⟩ : ∃ n, v.c.ps.length = n := ⟨_, rfl⟩
 have hw : ¬ (n : Int) ≤ 20 ∨ ((n : Int) ≤ 20 ∧ (¬ (v.c.op.key.size : Int) ≤ 100 ∨ ((v.c.op.key.size : Int) ≤ 100 ∧ (¬ (v.c.op.elem.size : Int) ≤ 100 ∨ (v.c.op.elem.size : Int) ≤ 100)))) := by omega
 obtain ⟨r, hr⟩ : ∃ r, fewK v.c = r := ⟨_, rfl⟩
 have HR : Hid (r = (decide (n ≤ 20) && (decide (v.c.op.key.size ≤ 100) && decide (v.c.op.elem.size ≤ 100)))) := aside (by rw [← hr, ← hn]; rfl)
 rw [hr]
 rw [hn] at c3
 clear hn hr R
 rcases hw with p | ⟨p1, p | ⟨p2, p | p⟩⟩
 all_goals
   go_enter Tryz.func9, Tryz.ntmps9
   go_wp2_with (first | go_skip)
   go_ret
   exact ⟨StW.ret_bool (by rw [HR.out]; simp; omega), kb⟩
end Go.Proofs.YtgoapaanmcmlmaaGreatDoor.CmX
namespace Go.Proofs.YtgoapaanmcmlmaaGreatDoor.CmY
set_option maxRecDepth 100000
open Go Go.Sort Go.RowKit Byt IdM IdW OpsM OpsW CmM StW CmW
def hashK (c : Com) : Idn := CmS.sumI (putK c)
theorem gid {ops : Array Oper} {rest : List Oper} {o : Oper} {a : Act} {w : World} {Q : Exit → Act → World → Prop} (x : Operand) (ho : o.op = .load 75 x)
   (b off : Nat) (hx : a.eval x = .pointer (some ⟨b, off, none⟩)) (y : Idn) (hc : w.rangeAt b off (bv y.1)) (hw : Region.wanted o (yielded ops a.tmps) = true) (h : wpList Tryz.prog ops Q rest (a.put o.dst (.agg (cs y))) w) : wpList Tryz.prog ops Q (o :: rest) a w :=
 RowC.unguard hw (wpList_load_id rfl x ho b off hx y hc h)
def putB (c : Com) : List Int := if mayK c = true then putK c else []
def putN (c : Com) : Int := if mayK c = true then 0 else 1
def PutOut (c : Com) (w : World) (e : Ending) (w' : World) : Prop :=
 ∃ A cap, e = .returned (.tuple #[.slice A (putB c).length cap, .int .i64 (putN c)]) ∧ Sl w' A cap (putB c) ∧ Below w.heap.size w w'
def hashI (c : Com) : Idn := if mayK c = true then hashK c else nought
def HashOut (c : Com) (w : World) (e : Ending) (w' : World) : Prop :=
 e = .returned (.tuple #[.agg (cs (hashI c)), .int .i64 (putN c)]) ∧ Below w.heap.size w w'
def gotC (q : Option (Com × List Int)) : Com := (q.map (·.1)).getD noK
def gotR (q : Option (Com × List Int)) : List Int := (q.map (·.2)).getD []
def gotN (q : Option (Com × List Int)) : Int := if q.isSome = true then 0 else 2
def GetAll (q : Option (Com × List Int)) (w : World) (e : Ending) (w' : World) : Prop :=
 ∃ v A k, e = .returned (.tuple #[.agg (cc v), .slice A (gotR q).length k, .int .i64 (gotN q)]) ∧ v.c = gotC q ∧ In w' v ∧ Sl w' A k (gotR q) ∧ Below w.heap.size w w'
theorem putB_yes {c : Com} (h : mayK c = true) : putB c = putK c ∧ putN c = 0 ∧ hashI c = hashK c := by
 unfold putB putN hashI
 rw [if_pos h, if_pos h, if_pos h]
 exact ⟨rfl, rfl, rfl⟩
theorem putB_no {c : Com} (h : mayK c = false) : putB c = [] ∧ putN c = 1 ∧ hashI c = nought := by
 have h' : ¬ mayK c = true := by rw [h]; simp
 unfold putB putN hashI
 rw [if_neg h', if_neg h', if_neg h']
 exact ⟨rfl, rfl, rfl⟩
theorem putB_len (c : Com) : (putB c).length ≤ 400 := by
 cases h : mayK c with
 | false => rw [(putB_no h).1]; simp
 | true => rw [(putB_yes h).1]; exact putK_len h
end Go.Proofs.YtgoapaanmcmlmaaGreatDoor.CmY
namespace Go.Proofs.YtgoapaanmcmlmaaGreatDoor.RowG
set_option maxRecDepth 100000
open Go Go.RowKit Byt RowS RowB
variable {α : Type}
theorem range_load (E : Enc α) {w : World} {b off : Nat} {y : α} (h : w.rangeAt b off (E.enc y)) : (Instr.loadAt E.T (.pointer (some ⟨b, off, none⟩))).run Tryz.prog w = .ok (.agg (E.enc y).toArray) w :=
 run_loadAt_mid w b off E.T (E.enc y) _ h E.under E.row (E.size y)
end Go.Proofs.YtgoapaanmcmlmaaGreatDoor.RowG
namespace Go.Proofs.YtgoapaanmcmlmaaGreatDoor.RowK
set_option maxRecDepth 100000
open Go Go.Sort Go.RowKit Byt RowS RowB RowG
variable {α : Type}
theorem quiet_row (E : Enc α) {a : Act} {o : Oper} {K : Act → Prop} {w : World} (x : Operand) (ho : o.op = .load E.T x)
   (b off : Nat) (hx : a.eval x = .pointer (some ⟨b, off, none⟩)) (y : α) (hc : w.rangeAt b off (E.enc y)) (hk : K (a.put o.dst (.agg (E.enc y).toArray))) : o.quiet Tryz.prog a (fun w' => ∃ p : Regrown, w' = grow (redrawn w p.d) p.os) K := by
 refine ⟨.agg (E.enc y).toArray, fun u hu => ?_, hk⟩
 obtain ⟨p, rfl⟩ := hu
 have q := range_load E (range_below hc (below_regrown w p.d p.os))
 unfold Oper.quietAt execOp
 simp only [ho, hx, Sem.run_bind, q, Result.andThen_ok, Sem.run_pure]
 exact ⟨rfl, rfl⟩
end Go.Proofs.YtgoapaanmcmlmaaGreatDoor.RowK
namespace Go.Proofs.YtgoapaanmcmlmaaGreatDoor.OpenR
set_option maxRecDepth 100000
open Go Go.ChangeShapes Go.WideShapes Go.ChangeAt Go.RowKit Byt RowS
section
variable {H : Type} {enc : TypeId × Value → H} {W : World} {base : Nat} {α : Type}
theorem list_of {p : Nat → α → Prop} : ∀ n : Nat, (∀ i, i < n → ∃ x, p i x) → ∃ l : List α, l.length = n ∧ ∀ i x, l[i]? = some x → p i x
 | 0, _ => ⟨[], rfl, fun i x hx => by simp at hx⟩
 | n + 1, h => by
   obtain ⟨l, hl, hp⟩ := list_of n (fun i hi => h i (by omega))
   obtain ⟨x, hx⟩ := h n (by omega)
   refine ⟨l ++ [x], by simp [hl], fun i y hy => ?_⟩
   by_cases hin : i < n
   · rw [List.getElem?_append_left (by omega)] at hy
     exact hp i y hy
   · rw [List.getElem?_append_right (by omega), hl] at hy
     have hi : i - n = 0 := by
       have := (List.getElem?_eq_some_iff.1 hy).1
       simpa using this
     rw [hi] at hy
     obtain rfl : x = y := by simpa using hy
     rw [show i = n by omega]
     exact hx
theorem flat_split (E : Enc α) {l : List α} {i : Nat} {v : Value} (h : (flat E l)[i]? = some v) : ∃ m j x, i = m * E.k + j ∧ l[m]? = some x ∧ (E.enc x)[j]? = some v := by
 have hi := (List.getElem?_eq_some_iff.1 h).1
 rw [flat_length] at hi
 have hp := E.pos
 have hm : i / E.k < l.length := (Nat.div_lt_iff_lt_mul hp).2 hi
 have hx : l[i / E.k]? = some l[i / E.k] := List.getElem?_eq_getElem hm
 have hj : i % E.k < (E.enc l[i / E.k]).length := by rw [E.len]; exact Nat.mod_lt _ hp
 have hv : (E.enc l[i / E.k])[i % E.k]? = some ((E.enc l[i / E.k])[i % E.k]'hj) := List.getElem?_eq_getElem hj
 have e : i = i / E.k * E.k + i % E.k := by rw [Nat.mul_comm]; exact (Nat.div_add_mod i E.k).symm
 have := flat_at E l _ _ _ _ hx hv
 rw [← e, h] at this
 exact ⟨_, _, _, e, hx, by rw [hv]; exact this.symm⟩
set_option maxRecDepth 100000 in
theorem open_rows (E : Enc α) {good : α → Prop} (hC : Tryz.prog.cellsOf E.T = E.k)
   (hread : ∀ (fuel : Nat) (cs : List Value) (y : DataW H × List MemPlace), DataW.trod enc Tryz.prog W 0 (fun _ => true) true fuel E.T cs = some y → ∃ x, cs = E.enc x ∧ good x) {v : Value} {d : DataW H} {p : List MemPlace}
   (hval : Value.okWide Tryz.prog W .any base E.S v) (h : DataW.Trod enc Tryz.prog W 0 (fun _ => true) true E.S v d p) : ∃ A cap l, v = .slice A (List.length l) cap ∧ SlR E W A cap l ∧ ∀ x ∈ l, good x := by
 obtain ⟨a, len, cap, rfl⟩ := okWide_slice E.slice hval
 obtain ⟨fuel, hf⟩ := h
 rcases DataW.trod_slice E.slice hf with ⟨hcs, _⟩ | ⟨x, len', cap', elems, rest, n, _, hcs, _, _, hl, hm, hel, hcell, _, _⟩
 · simp [Value.cells] at hcs
   obtain ⟨rfl, rfl, rfl⟩ := hcs
   exact ⟨none, 0, [], rfl, SlR.nil E W, by simp⟩
 · simp [Value.cells] at hcs
   obtain ⟨rfl, rfl, rfl⟩ := hcs
   rw [hC] at hcell
   have key : ∀ i, i < len → ∃ y : α, good y ∧ ∀ j u, (E.enc y)[j]? = some u → W.cell? (x.add (i * E.k + j)) = some u := by
     intro i hi
     have hi1 := hcell i hi
     rw [List.getElem?_eq_getElem (by omega)] at hi1
     rw [Option.bind_eq_some_iff] at hi1
     obtain ⟨cl, hcl, htr⟩ := hi1
     obtain ⟨y, rfl, hy⟩ := hread _ _ _ htr
     refine ⟨y, hy, fun j u hj => ?_⟩
     obtain ⟨_, _, hg⟩ := World.cells?_some hcl
     have hjl := (List.getElem?_eq_some_iff.1 hj).1
     rw [E.len] at hjl
     have := hg j hjl
     rw [Addr.add_add, hj] at this
     exact this
   obtain ⟨l, hll, hp⟩ := list_of len key
   refine ⟨some x, cap, l, by rw [hll], ⟨by omega, hm, .inr ⟨x, rfl, fun i u hu => ?_⟩⟩, fun y hy => ?_⟩
   · obtain ⟨m, j, y, rfl, hy, hj⟩ := flat_split E hu
     exact (hp m y hy).2 j u hj
   · obtain ⟨i, hi⟩ := List.mem_iff_getElem?.1 hy
     exact (hp i y hi).1
end
end Go.Proofs.YtgoapaanmcmlmaaGreatDoor.OpenR
namespace Go.Proofs.YtgoapaanmcmlmaaGreatDoor.OpenI
set_option maxRecDepth 100000
open Go Go.ChangeShapes Go.WideShapes Go.ChangeAt Go.RowKit IdM Byt IdW
section
variable {H : Type} {enc : TypeId × Value → H} {P : Program} {t e : TypeId} {W : World} {base : Nat}
theorem cells_id (ht : P.underlying t = some (.array 32 e)) (he : P.underlying e = some (.int .u8)) (hc : P.cellsOf e = 1) (hC : P.cellsOf t = 32) {sp : Nat → Bool} {hd : Bool} {fuel : Nat} {l : List Value} {x : DataW H × List MemPlace}
   (hf : DataW.trod enc P W base sp hd fuel t l = some x) : ∃ y : Idn, l = bv y.1 := by
 obtain ⟨xs, m, _, _, hlen, hn, hel⟩ := DataW.trod_array ht hf
 rw [hC] at hlen
 have key : ∀ i, i < 32 → ∃ n : Int, l[i]? = some (.int .u8 n) ∧ 0 ≤ n ∧ n ≤ 255 := by
   intro i hi
   have hi1 := hel i hi
   rw [List.getElem?_eq_getElem (by omega)] at hi1
   obtain ⟨n, e1, _, hw⟩ := DataW.trod_int he hi1
   have hb := B_of_wf hw
   unfold B at hb
   refine ⟨n, ?_, hb⟩
   rw [hc, Nat.mul_one] at e1
   have e3 := congrArg (fun l => l[0]?) e1
   simpa using e3
 have hl : (List.map (fun i => (l[i]?).elim 0 fun v => match v with | .int _ n => n | _ => 0) (List.range 32)).length = 32 := by simp
 refine ⟨⟨List.map (fun i => (l[i]?).elim 0 fun v => match v with | .int _ n => n | _ => 0) (List.range 32), hl, fun n hn => ?_⟩, ?_⟩
 · simp only [List.mem_map, List.mem_range] at hn
   obtain ⟨i, hi, rfl⟩ := hn
   obtain ⟨n, e, hb⟩ := key i hi
   rw [e]
   exact hb
 · apply List.ext_getElem?
   intro i
   by_cases hi : i < 32
   · obtain ⟨n, e, _⟩ := key i hi
     rw [e, bv_at _ (by simpa using hi)]
     simp [List.getD_eq_getElem?_getD, hi, e]
   · rw [List.getElem?_eq_none (by omega), List.getElem?_eq_none (by rw [bv_length]; simp; omega)]
theorem list_of {p : Nat → Idn → Prop} : ∀ n : Nat, (∀ i, i < n → ∃ x, p i x) → ∃ l : List Idn, l.length = n ∧ ∀ i, i < n → p i (l.getD i nought)
 | 0, _ => ⟨[], rfl, fun i hi => absurd hi (Nat.not_lt_zero i)⟩
 | n + 1, h => by
   obtain ⟨l, hl, hp⟩ := list_of n (fun i hi => h i (by omega))
   obtain ⟨x, hx⟩ := h n (by omega)
   refine ⟨l ++ [x], by simp [hl], fun i hi => ?_⟩
   rw [List.getD_eq_getElem?_getD]
   by_cases hin : i < n
   · rw [List.getElem?_append_left (by omega), ← List.getD_eq_getElem?_getD]
     exact hp i hin
   · have : i = n := by omega
     subst this
     rw [List.getElem?_append_right (by omega), hl, Nat.sub_self]
     exact hx
end
end Go.Proofs.YtgoapaanmcmlmaaGreatDoor.OpenI
namespace Go.Proofs.YtgoapaanmcmlmaaGreatDoor.OpenO
set_option maxRecDepth 100000
open Go Go.Deep Go.Joins Go.ChangeShapes Go.WideShapes Go.ChangeAt Go.RowKit Byt OpsM OpsW OpsC
theorem i64_of {n : Int} (h : (Lit.int .i64 n).wf = true) : I64 n := by
 unfold I64
 simpa [Lit.wf, IntKind.min, IntKind.max, IntKind.bits, IntKind.signed] using h
end Go.Proofs.YtgoapaanmcmlmaaGreatDoor.OpenO
