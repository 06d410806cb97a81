/- One id in a box: stored, built, handed back beside a value. No condition. | The document's reader of package commit: in memory, and what its Num and ID return: contracts. | What the document's Event of package state returns: a contract. | What the document's Key of package ops returns: a contract. | What the document's May of package ops returns: a contract. | What Less (of ids, and of the document's answers) and order return: contracts. | What Has, Rises and Same (of ids, and of the document's answers) return: contracts. -/
import Derived.Test.YtgmdhaepiclkcaaGreatDoorRowFJ10
import Derived.Test.YtgmdhaepiclkcaaGreatDoorIdMJ4
import Derived.Test.YtgmdhaepiclkcaaGreatDoorIdWJ3
import Derived.Test.YtgmdhaepiclkcaaGreatDoorOpsCJ2
namespace Go.Proofs.YtgmdhaepiclkcaaGreatDoor.IdJ
set_option maxRecDepth 100000
open Go Go.RowKit IdM Byt IdW IdB
theorem Box.put {w : World} {g : Nat} {x y : Idn} (h : Box w g x) (i : Nat) (v : Value) (e : (cs x).setIfInBounds i v = cs y) : Box (w.setCell ⟨g, i, none⟩ v) g y := by
 obtain ⟨t, ht⟩ := h
 exact ⟨t, by rw [heap_setCell_same w g i (cs x) t v ht, e]⟩
theorem Box.row {w : World} {g : Nat} {x : Idn} (h : Box w g x) (y : Idn) : Box (w.setRow g (cs y)) g y := by
 obtain ⟨t, ht⟩ := h
 exact ⟨t, setRow_heap w g (cs x) (cs y) t (0, 0) ht⟩
theorem below_row {B g : Nat} {w0 w : World} (hb : Below B w0 w) (hg : B ≤ g) (c : Array Value) : Below B w0 (w.setRow g c) :=
 hb.trans ⟨rfl, rfl, rfl, by simp [World.setRow], fun k hk => setRow_other w g k c (by omega)⟩
theorem wpList_store_box {ops : Array Oper} {rest : List Oper} {o : Oper} {a : Act} {w : World} {Q : Exit → Act → World → Prop} (hgd : o.guard = none) (x y : Operand) (ho : o.op = .store 56 x y)
   (g : Nat) (hx : a.eval x = .pointer (some ⟨g, 0, none⟩)) (old z : Idn) (hb : Box w g old) (hy : a.eval y = .agg (cs z))
   (h : wpList Tryz.prog ops Q rest (a.put o.dst undef) (w.setRow g (cs z))) : wpList Tryz.prog ops Q (o :: rest) a w := by
 obtain ⟨t, ht⟩ := hb
 exact wpList_store_row hgd 56 x y ho g (cs z) hx hy t (cs old) ht (info_cs z) (by rw [cs_size, cs_size]) (cs_one z) h
theorem build0 (w : World) : (Instr.build 56 #[]).run Tryz.prog w = .ok (.agg (cs nought)) w := Go.run_build w 56 _ _ (by kernel_rfl)
theorem wpList_build0 {ops : Array Oper} {rest : List Oper} {o : Oper} {a : Act} {w : World} {Q : Exit → Act → World → Prop} (hgd : o.guard = none) (ho : o.op = .build 56 #[])
   (h : wpList Tryz.prog ops Q rest (a.put o.dst (.agg (cs nought))) w) : wpList Tryz.prog ops Q (o :: rest) a w := by
 refine wpList_plain hgd fun K hK => ?_
 unfold Oper.wp execOp
 simp only [ho, List.map_toArray, List.map_nil, Sem.run_bind, build0, Result.andThen_ok, Sem.run_pure]
 exact hK _ _ h
theorem wpList_alloc_id {ops : Array Oper} {rest : List Oper} {o : Oper} {a : Act} {w : World} {Q : Exit → Act → World → Prop} (hgd : o.guard = none) (ho : o.op = .alloc 56)
   (h : wpList Tryz.prog ops Q rest (a.put o.dst (.pointer (some ⟨w.heap.size, 0, none⟩))) (w.alloc (.cells (cs nought) 56))) : wpList Tryz.prog ops Q (o :: rest) a w := by
 refine wpList_plain hgd fun K hK => ?_
 have zv := zero_v w
 unfold Oper.wp execOp
 simp only [ho, Instr.alloc, newVar, newRow, Sem.run_bind, zv, Result.andThen_ok, Sem.run_pure, Value.cells]
 exact hK _ _ h
theorem results_box {fn : Func} {p q : Tmp} (h : fn.results = #[.cell p 56, .tmp q]) (tmps : Array Value) (w : World) (g : Nat) (x : Idn) (v : Value)
   (hp : tmps.getD p undef = .pointer (some ⟨g, 0, none⟩)) (hq : tmps.getD q undef = v) (hg : Box w g x) : (results fn tmps).run Tryz.prog w = .ok (.tuple #[.agg (cs x), v]) w := by
 obtain ⟨t, ht⟩ := hg
 have hp' : tmps[p]?.getD undef = .pointer (some ⟨g, 0, none⟩) := by simpa using hp
 have hq' : tmps[q]?.getD undef = v := by simpa using hq
 simp [results, h, hp', hq', asAddr, run_loadVar_row w g t 56 (cs x) (0, 0) _ ht Tryz.underlying56 rfl (info_cs x)]
end Go.Proofs.YtgmdhaepiclkcaaGreatDoor.IdJ
namespace Go.Proofs.YtgmdhaepiclkcaaGreatDoor.CmD
set_option maxRecDepth 100000
open Go Go.Sort Go.RowKit Byt EncM EncC IdM IdW IdB OpsM CmM StW CmW
def isU8 : Value → Bool
 | .int .u8 _ => true
 | _ => false
def NoU8 (w : World) (g : Nat) : Prop := ∀ j v, w.cell? ⟨g, j, none⟩ = some v → isU8 v = false
theorem far_cell {w w' : World} {g : Nat} {x : Addr} {n : Int} (h : w.cell? x = some (.int .u8 n)) (hn : NoU8 w g) (hg : w.grownBy w' (some g)) : w'.cell? x = some (.int .u8 n) := by
 have hlt := block_lt_of_cell h
 have hne : some x.block ≠ some g := by
   intro e
   injection e with e
   have hs := World.cell?_spot h
   have : x = ⟨g, x.off, none⟩ := by
     cases x with
     | mk b o s =>
       simp only at e hs
       rw [e, hs]
   rw [this] at h
   have := hn _ _ h
   cases this
 unfold World.cell? at h ⊢
 rw [hg.block _ hlt hne]
 exact h
theorem sli_far {w w' : World} {g cap : Nat} {A : Option Addr} {l : List Idn} (h : SlI w A cap l) (hn : NoU8 w g) (hg : w.grownBy w' (some g)) : SlI w' A cap l := by
 obtain ⟨h1, h2, h5⟩ := h
 refine ⟨h1, h2, ?_⟩
 rcases h5 with h5 | ⟨x, rfl, hc⟩
 · exact .inl h5
 · exact .inr ⟨x, rfl, fun i hi => far_cell (hc i hi) hn hg⟩
theorem no_cm {w : World} {g : Nat} {c : Cv} (h : Cel.Box CE w g c) : NoU8 w g := by
 intro j v hv
 obtain ⟨t, ht⟩ := h
 rw [cell_of_row w g j _ t (0, 0) ht, List.getElem?_toArray] at hv
 match j, hv with
 | 0, hv => simp [CE] at hv; rw [← hv]; rfl
 | 1, hv => simp [CE] at hv; rw [← hv]; rfl
 | 2, hv => simp [CE] at hv; rw [← hv]; rfl
 | 3, hv => simp [CE] at hv; rw [← hv]; rfl
 | 4, hv => simp [CE] at hv; rw [← hv]; rfl
 | 5, hv => simp [CE] at hv; rw [← hv]; rfl
 | 6, hv => simp [CE] at hv; rw [← hv]; rfl
 | 7, hv => simp [CE] at hv; rw [← hv]; rfl
 | j + 8, hv => simp [CE] at hv
structure Turned (g : Nat) (w w' : World) : Prop where
 grown : w.grownBy w' (some g)
 below : ∀ B, B ≤ g → Below B w w'
theorem Turned.trans {g : Nat} {w w1 w2 : World} (h : Turned g w w1) (k : Turned g w1 w2) : Turned g w w2 := ⟨h.grown.trans k.grown, fun B hB => (h.below B hB).trans (k.below B hB)⟩
end Go.Proofs.YtgmdhaepiclkcaaGreatDoor.CmD
namespace Go.Proofs.YtgmdhaepiclkcaaGreatDoor.StR
set_option maxRecDepth 100000
open Go Go.RowKit Byt StM StW
end Go.Proofs.YtgmdhaepiclkcaaGreatDoor.StR
namespace Go.Proofs.YtgmdhaepiclkcaaGreatDoor.OpsR
set_option maxRecDepth 100000
open Go Go.RowKit Byt OpsM OpsK
end Go.Proofs.YtgmdhaepiclkcaaGreatDoor.OpsR
namespace Go.Proofs.YtgmdhaepiclkcaaGreatDoor.OpsR
set_option maxRecDepth 100000
open Go Go.RowKit Go.Sort Byt OpsM OpsK OpsW OpsC
end Go.Proofs.YtgmdhaepiclkcaaGreatDoor.OpsR
namespace Go.Proofs.YtgmdhaepiclkcaaGreatDoor.IdC
set_option maxRecDepth 100000
open Go Go.Sort Go.RowKit IdM Byt IdW
set_option maxHeartbeats 1000000 in
theorem less_ret (x y : Idn) (w : World) : Calls Tryz.prog 118 #[.agg (cs x), .agg (cs y)] w fun e w' => e = .returned (.bool (less x y)) ∧ Grew w w' := by
 have s1 := cs_size x
 have s2 := cs_size y
 have B1 : Box ((w.alloc (.cells (cs x) 56)).alloc (.cells (cs y) 56)) w.heap.size x := (Box.new w x _).alloc _
 have B2 : Box ((w.alloc (.cells (cs x) 56)).alloc (.cells (cs y) 56)) (w.heap.size + 1) y := by
   have := Box.new (w.alloc (.cells (cs x) 56)) y 56
   simpa using this
 have G : Grew w ((w.alloc (.cells (cs x) 56)).alloc (.cells (cs y) 56)) := ((Grew.refl w).alloc _).alloc _
 obtain ⟨r, hr0⟩ : ∃ r, less x y = r := ⟨_, rfl⟩
 rw [hr0]
 have hr := aside hr0
 clear hr0
 go_enter Tryz.func118, Tryz.ntmps118
 go_wp2_with fail
 go_loopw [6] (fun i wr => ∃ k : Nat, k ≤ 32 ∧ i = .int .i64 k ∧ Hid (∀ j, j < k → x.1.getD j 0 = y.1.getD j 0) ∧ Box wr w.heap.size x ∧ Box wr (w.heap.size + 1) y ∧ Grew w wr) (fun i _ => 32 - (intOf i).toNat)
 case atStart => exact ⟨0, Nat.zero_le _, rfl, aside (fun j hj => absurd hj (Nat.not_lt_zero j)), B1, B2, G⟩
 case round =>
   clear B1 B2 G
   obtain ⟨k, hk, rfl, he, B1, B2, G⟩ := hrel
   by_cases hlt : k < 32
   · have c1 := B1.cell k hlt
     have c2 := B2.cell k hlt
     obtain ⟨a, ha⟩ : ∃ a, x.1.getD k 0 = a := ⟨_, rfl⟩
     obtain ⟨b, hb⟩ : ∃ b, y.1.getD k 0 = b := ⟨_, rfl⟩
     rw [ha] at c1
     rw [hb] at c2
     have HA := aside ha
     have HB := aside hb
     clear ha hb
     have p0 : (k : Int) < 32 := by omega
     have o0 : 0 ≤ (k : Int) := by omega
     have m0 : ((k : Int)).toNat = k := by omega
     by_cases hab : a = b
     · subst hab
       go_wp2
       go_quiet (fail)
       go_wp2
       go_roundw
       case rel =>
         refine ⟨k + 1, by omega, by go_num, aside (fun j hj => ?_), B1.drewN _, B2.drewN _, G.drewN _⟩
         by_cases hjk : j = k
         · subst hjk
           rw [HA.out, HB.out]
         · exact he.out j (by omega)
       case measure => simp [intOf]; omega
     · have hne : (a != b) = true := by simpa using hab
       have hl : less x y = decide (a < b) := by
         rw [less_at k hlt he.out (by rw [HA.out, HB.out]; exact hab), HA.out, HB.out]
       rw [hr.out] at hl
       go_wp2
       go_quiet (fail)
       go_wp2
       go_quiet (fail)
       go_wp2
       go_ret
       exact ⟨by rw [hl]; rfl, (G.drewN _).drewN _⟩
   · have hk' : k = 32 := by omega
     have hxy : x = y := Idn_ext_at (fun i hi => he.out i (by omega))
     have hl : less x y = false := by rw [hxy]; exact less_irrefl _
     rw [hr.out] at hl
     go_wp2
     go_ret
     exact ⟨by rw [hl]; rfl, G⟩
set_option maxHeartbeats 1000000 in
theorem order_ret (x y : Idn) (w : World) : Calls Tryz.prog 137 #[.agg (cs x), .agg (cs y)] w fun e w' => e = .returned (.int .i64 (cf x y)) ∧ Grew w w' := by
 have B1 : Box ((w.alloc (.cells (cs x) 56)).alloc (.cells (cs y) 56)) w.heap.size x := (Box.new w x _).alloc _
 have B2 : Box ((w.alloc (.cells (cs x) 56)).alloc (.cells (cs y) 56)) (w.heap.size + 1) y := by
   have := Box.new (w.alloc (.cells (cs x) 56)) y 56
   simpa using this
 have G : Grew w ((w.alloc (.cells (cs x) 56)).alloc (.cells (cs y) 56)) := ((Grew.refl w).alloc _).alloc _
 have heq := fun W => equal W 9998 x y
 by_cases hxy : x = y
 · subst hxy
   have hc : cf x x = 0 := by simp [cf]
   simp only [decide_true] at heq
   rw [hc]
   go_enter Tryz.func137, Tryz.ntmps137
   go_wp2_with (first | (refine wpList_load_box rfl _ rfl _ rfl _ B1 ?_) | (refine wpList_load_box rfl _ rfl _ rfl _ B2 ?_))
   go_ret
   exact ⟨rfl, G⟩
 · simp only [hxy, decide_false] at heq
   cases hl : less x y with
   | true =>
     have hc : cf x y = -1 := by simp [cf, hxy, hl]
     rw [hc]
     go_enter Tryz.func137, Tryz.ntmps137
     go_wp2_with (first | (refine wpList_load_box rfl _ rfl _ rfl _ B1 ?_) | (refine wpList_load_box rfl _ rfl _ rfl _ B2 ?_))
     refine (less_ret x y _).mono ?_
     rintro e w1 ⟨rfl, h1⟩
     rw [hl]
     go_wp2
     go_ret
     exact ⟨rfl, G.trans h1⟩
   | false =>
     have hc : cf x y = 1 := by simp [cf, hxy, hl]
     rw [hc]
     go_enter Tryz.func137, Tryz.ntmps137
     go_wp2_with (first | (refine wpList_load_box rfl _ rfl _ rfl _ B1 ?_) | (refine wpList_load_box rfl _ rfl _ rfl _ B2 ?_))
     refine (less_ret x y _).mono ?_
     rintro e w1 ⟨rfl, h1⟩
     rw [hl]
     go_wp2
     go_ret
     exact ⟨rfl, G.trans h1⟩
end Go.Proofs.YtgmdhaepiclkcaaGreatDoor.IdC
namespace Go.Proofs.YtgmdhaepiclkcaaGreatDoor.IdV
set_option maxRecDepth 100000
open Go Go.Sort Go.RowKit IdM Byt IdW IdC
theorem wpQuiet_load_id {ops : Array Oper} {C : World → Prop} {Q : Act → Prop} {a : Act} {o : Oper} {rest : List Oper} (hgd : o.guard = none) (x : Operand) (ho : o.op = .load 56 x)
   (b off : Nat) (hx : a.eval x = .pointer (some ⟨b, off, none⟩)) (y : Idn) (hc : ∀ w, C w → w.rangeAt b off (bv y.1)) (h : wpQuiet Tryz.prog ops C Q rest (a.put o.dst (.agg (cs y)))) : wpQuiet Tryz.prog ops C Q (o :: rest) a := by
 refine BigFrame.wpQuiet_want (by simp [Region.wanted, hgd]) (fun K hK => ⟨.agg (cs y), fun w hw => ?_, hK _ h⟩)
 have q := load_mid (hc w hw)
 unfold Oper.quietAt execOp
 simp only [ho, hx, Sem.run_bind, q, Result.andThen_ok, Sem.run_pure]
 exact ⟨rfl, rfl⟩
theorem reads_id {l : List Oper} {i : Nat} {o : Oper} {r : List (Nat × Bool)} {a : Act} {w : World} {Q : Exit → Act → World → Prop} (hn : Grow.nth l i = some o) (hgd : o.guard = none) (x : Operand) (ho : o.op = .load 56 x)
   (b off : Nat) (hx : a.eval x = .pointer (some ⟨b, off, none⟩)) (y : Idn) (hc : w.rangeAt b off (bv y.1)) (h : Grow.Seq Tryz.prog l.toArray Q r (a.put o.dst (.agg (cs y))) w) : Grow.Seq Tryz.prog l.toArray Q ((i, true) :: r) a w :=
 Grow.reads hn (by unfold Grow.plain; rw [ho]) (wpQuiet_load_id hgd x ho b off hx y (fun _ ⟨p, e⟩ => by rw [e]; exact range_below hc (below_regrown w p.d p.os)) (wpQuiet_nil h))
theorem mem_iff_get {l : List Idn} {x : Idn} : x ∈ l ↔ ∃ i, i < l.length ∧ l.getD i nought = x := by
 constructor
 · intro h
   obtain ⟨i, hi, e⟩ := List.getElem_of_mem h
   exact ⟨i, hi, by rw [List.getD_eq_getElem?_getD, List.getElem?_eq_getElem hi]; exact e⟩
 · rintro ⟨i, hi, rfl⟩
   rw [List.getD_eq_getElem?_getD, List.getElem?_eq_getElem hi]
   exact List.getElem_mem hi
set_option maxHeartbeats 1000000 in
theorem rhas_ret (A : Option Addr) (cap : Nat) (l : List Idn) (x : Idn) (w : World) (S : SlI w A cap l) :
   Calls Tryz.prog 87 #[.slice A l.length cap, .agg (cs x)] w fun e w' => e = .returned (.bool (decide (x ∈ l))) ∧ Below w.heap.size w w' := by
 have hcap := S.1
 have hmax : l.length ≤ 9223372036854775807 := by have := S.2.1; unfold maxLen at this; omega
 obtain ⟨r, hr0⟩ : ∃ r, decide (x ∈ l) = r := ⟨_, rfl⟩
 rw [hr0]
 have hr := aside hr0
 clear hr0
 have B1 : Box (w.alloc (.cells (cs x) 56)) w.heap.size x := Box.new w x _
 go_enter Tryz.func87, Tryz.ntmps87
 go_wp2_with fail
 go_loopw [5] (fun i wr => ∃ k : Nat, k ≤ l.length ∧ i = .int .i64 k ∧ Hid (∀ j, j < k → l.getD j nought ≠ x) ∧ Box wr w.heap.size x ∧ Below w.heap.size w wr) (fun i _ => l.length - (intOf i).toNat)
 case atStart => exact ⟨0, Nat.zero_le _, rfl, aside (fun j hj => absurd hj (Nat.not_lt_zero j)), B1, (Below.refl _ _).alloc (Nat.le_refl _) _⟩
 case round =>
   clear B1
   obtain ⟨k, hk, rfl, he, B1, kb⟩ := hrel
   by_cases hlt : k < l.length
   · obtain ⟨b, off, rfl, hbw, hrg⟩ := S.plain (by omega)
     have hr1 := range_below (hrg k hlt) kb
     obtain ⟨y, hy⟩ : ∃ y, l.getD k nought = y := ⟨_, rfl⟩
     rw [hy] at hr1
     have HY := aside hy
     have p0 : (k : Int) < l.length := by omega
     have m0 : ((k : Int)).toNat = k := by omega
     clear hrg S hy
     have heq := fun W => equal W 9998 y x
     by_cases hyx : y = x
     · have hl : r = true := by rw [← hr.out]; exact decide_eq_true (mem_iff_get.2 ⟨k, hlt, HY.out.trans hyx⟩)
       simp only [hyx, decide_true] at heq
       subst hyx
       go_wp2
       refine wp_region_quiet_lit (by kernel_rfl) (by kernel_rfl) ?_
       repeat (first | (refine wpQuiet_load_id rfl _ rfl _ _ rfl y (fun _ ⟨_, e⟩ => by rw [e]; exact hr1) ?_; simp only [Act.put, List.setIfInBounds_toArray, List.set_cons_succ, List.set_cons_zero]) | (refine wpQuiet_load_id rfl _ rfl _ _ rfl y (fun _ ⟨_, e⟩ => by rw [e]; exact B1.range) ?_; simp only [Act.put, List.setIfInBounds_toArray, List.set_cons_succ, List.set_cons_zero]) | go_big_quiet_step (fail))
       refine wpQuiet_nil ?_
       rintro _ ⟨nq, rfl⟩
       go_wp2
       go_ret
       exact ⟨by rw [hl]; rfl, below_drew kb _⟩
     · simp only [hyx, decide_false] at heq
       go_wp2
       refine wp_region_quiet_lit (by kernel_rfl) (by kernel_rfl) ?_
       repeat (first | (refine wpQuiet_load_id rfl _ rfl _ _ rfl y (fun _ ⟨_, e⟩ => by rw [e]; exact hr1) ?_; simp only [Act.put, List.setIfInBounds_toArray, List.set_cons_succ, List.set_cons_zero]) | (refine wpQuiet_load_id rfl _ rfl _ _ rfl x (fun _ ⟨_, e⟩ => by rw [e]; exact B1.range) ?_; simp only [Act.put, List.setIfInBounds_toArray, List.set_cons_succ, List.set_cons_zero]) | go_big_quiet_step (fail))
       refine wpQuiet_nil ?_
       rintro _ ⟨nq, rfl⟩
       go_wp2
       go_roundw
       case rel =>
         refine ⟨k + 1, by omega, by go_num, aside (fun j hj => ?_), B1.drewN _, below_drew kb _⟩
         by_cases hjk : j = k
         · subst hjk
           rw [HY.out]
           exact hyx
         · exact he.out j (by omega)
       case measure => simp [intOf]; omega
   · have hl : r = false := by
       rw [← hr.out]
       refine decide_eq_false (fun hm => ?_)
       obtain ⟨i, hi, e⟩ := mem_iff_get.1 hm
       exact he.out i (by omega) e
     go_wp2
     go_ret
     exact ⟨by rw [hl]; rfl, kb⟩
set_option maxHeartbeats 1000000 in
theorem rises_ret (A : Option Addr) (cap : Nat) (l : List Idn) (w : World) (S : SlI w A cap l) :
   Calls Tryz.prog 170 #[.slice A l.length cap] w fun e w' => e = .returned (.bool (risesB l)) ∧ Below w.heap.size w w' := by
 have hcap := S.1
 have hmax : l.length ≤ 9223372036854775807 := by have := S.2.1; unfold maxLen at this; omega
 obtain ⟨r, hr0⟩ : ∃ r, risesB l = r := ⟨_, rfl⟩
 rw [hr0]
 have hr := aside hr0
 clear hr0
 go_enter Tryz.func170, Tryz.ntmps170
 go_wp2_with fail
 go_loopw [3] (fun i wr => ∃ k : Nat, 1 ≤ k ∧ (k ≤ l.length ∨ k = 1) ∧ i = .int .i64 k ∧ Hid (∀ j, j + 1 < k → less (l.getD j nought) (l.getD (j + 1) nought) = true) ∧ Below w.heap.size w wr) (fun i _ => l.length + 1 - (intOf i).toNat)
 case atStart => exact ⟨1, Nat.le_refl _, .inr rfl, rfl, aside (fun j hj => absurd hj (by omega)), Below.refl _ _⟩
 case round =>
   obtain ⟨k, hk1, hk, rfl, he, kb⟩ := hrel
   by_cases hlt : k < l.length
   · obtain ⟨b, off, rfl, hbw, hrg⟩ := S.plain (by omega)
     have ra := range_below (hrg (k - 1) (by omega)) kb
     have rb := range_below (hrg k hlt) kb
     obtain ⟨x, hx⟩ : ∃ x, l.getD (k - 1) nought = x := ⟨_, rfl⟩
     obtain ⟨y, hy⟩ : ∃ y, l.getD k nought = y := ⟨_, rfl⟩
     rw [hx] at ra
     rw [hy] at rb
     have HX := aside hx
     have HY := aside hy
     have p0 : (k : Int) < l.length := by omega
     have m0 : ((k : Int)).toNat = k := by omega
     have p1 : (k : Int) - 1 < l.length := by omega
     have o1 : 0 ≤ (k : Int) - 1 := by omega
     have m1 : ((k : Int) - 1).toNat = k - 1 := by omega
     clear hrg S hx hy
     cases hl : less x y with
     | true =>
       go_wp2
       refine Grow.region [(0, true), (1, true), (2, true), (3, true), (4, true), (5, true), (6, true), (7, true), (8, true), (9, false), (10, true)] (by kernel_rfl) (by kernel_rfl) rfl (by kernel_rfl) (by intro c a d v w h; cases d <;> exact h) ?_
       have ra' : wr.drew.rangeAt b (off + (k - 1) * 32) (bv x.1) := ra
       have rb' : wr.drew.rangeAt b (off + k * 32) (bv y.1) := rb
       have kd := below_drew1 kb
       generalize wr.drew = W at ra' rb' kd ⊢
       repeat (first | (refine reads_id rfl rfl _ rfl _ _ rfl x ra' ?_; simp only [Act.put, List.setIfInBounds_toArray, List.set_cons_succ, List.set_cons_zero]) | (refine reads_id rfl rfl _ rfl _ _ rfl y rb' ?_; simp only [Act.put, List.setIfInBounds_toArray, List.set_cons_succ, List.set_cons_zero]) | (refine Grow.reads rfl rfl ?_; go_big_quiet_step (fail); refine wpQuiet_nil ?_))
       refine Grow.acts rfl ?_
       go_wp2_with fail
       refine (less_ret x y W).mono ?_
       rintro e w1 ⟨rfl, g1⟩
       rw [hl]
       go_wp2_with fail
       refine ⟨g1.below, ?_⟩
       refine Grow.reads rfl rfl ?_
       go_big_quiet_step (fail)
       refine wpQuiet_nil ?_
       refine Grow.ends ?_
       go_wp2
       go_roundw
       case rel =>
         refine ⟨k + 1, by omega, .inl (by omega), by go_num, aside (fun j hj => ?_), kd.trans (g1.below.mono kd.size)⟩
         by_cases hjk : j + 1 = k
         · subst hjk
           rw [Nat.add_sub_cancel] at HX
           rw [HX.out, HY.out]
           exact hl
         · exact he.out j (by omega)
       case measure => simp [intOf]; omega
     | false =>
       have hrf : r = false := by
         rw [← hr.out]
         unfold risesB
         rw [List.all_eq_false]
         refine ⟨k - 1, by simp; omega, ?_⟩
         rw [Nat.sub_add_cancel hk1, HX.out, HY.out, hl]
         simp
       go_wp2
       refine Grow.region [(0, true), (1, true), (2, true), (3, true), (4, true), (5, true), (6, true), (7, true), (8, true), (9, false), (10, true)] (by kernel_rfl) (by kernel_rfl) rfl (by kernel_rfl) (by intro c a d v w h; cases d <;> exact h) ?_
       have ra' : wr.drew.rangeAt b (off + (k - 1) * 32) (bv x.1) := ra
       have rb' : wr.drew.rangeAt b (off + k * 32) (bv y.1) := rb
       have kd := below_drew1 kb
       generalize wr.drew = W at ra' rb' kd ⊢
       repeat (first | (refine reads_id rfl rfl _ rfl _ _ rfl x ra' ?_; simp only [Act.put, List.setIfInBounds_toArray, List.set_cons_succ, List.set_cons_zero]) | (refine reads_id rfl rfl _ rfl _ _ rfl y rb' ?_; simp only [Act.put, List.setIfInBounds_toArray, List.set_cons_succ, List.set_cons_zero]) | (refine Grow.reads rfl rfl ?_; go_big_quiet_step (fail); refine wpQuiet_nil ?_))
       refine Grow.acts rfl ?_
       go_wp2_with fail
       refine (less_ret x y W).mono ?_
       rintro e w1 ⟨rfl, g1⟩
       rw [hl]
       go_wp2_with fail
       refine ⟨g1.below, ?_⟩
       refine Grow.reads rfl rfl ?_
       go_big_quiet_step (fail)
       refine wpQuiet_nil ?_
       refine Grow.ends ?_
       go_wp2
       go_ret
       exact ⟨by rw [hrf]; rfl, kd.trans (g1.below.mono kd.size)⟩
   · have hrt : r = true := by
       rw [← hr.out]
       unfold risesB
       rw [List.all_eq_true]
       intro i hi
       exact he.out i (by simp at hi; omega)
     go_wp2
     go_ret
     exact ⟨by rw [hrt]; rfl, kb⟩
end Go.Proofs.YtgmdhaepiclkcaaGreatDoor.IdV
