/- Ids, and lists of ids, in memory: what a walk reads, makes and appends to. No condition. -/
import Derived.Test.YteojkfbnenfmkaaDoorIdM
import Derived.Test.YteojkfbnenfmkaaDoorRowInJ3
import Derived.Test.YteojkfbnenfmkaaDoorGrow
import Derived.Test.YteojkfbnenfmkaaDoorShaHJ10
import Derived.Deep.MidRow
import Derived.Deep.WholeRow
import Derived.Laws.MakeOwn
import Derived.Laws.Tables
import Derived.OpenShut
import Derived.Lib.AppendIntMem
namespace Go.Proofs.YteojkfbnenfmkaaDoor.IdW
set_option maxRecDepth 100000
open Go Go.Sort Go.RowKit Go.Lib IdM Byt

/-- An id's cells. -/
def cs (x : Idn) : Array Value := (bv x.1).toArray
theorem cs_size (x : Idn) : (cs x).size = 32 := by simp [cs, bv_length, Idn_len x]
theorem cs_toList (x : Idn) : (cs x).toList = bv x.1 := rfl
theorem cs_one (x : Idn) : (cs x).all (·.oneCell') = true := by
  rw [Array.all_eq_true_iff_forall_mem]
  intro v hv
  exact bv_one x.1 v (by simpa [cs] using hv)
theorem cs_at (x : Idn) (i : Nat) (hi : i < 32) : (cs x)[i]? = some (.int .u8 (x.1.getD i 0)) := by
  rw [cs, List.getElem?_toArray, bv_at _ (by rw [Idn_len x]; exact hi)]
theorem bv_inj {a b : List Int} (h : bv a = bv b) : a = b := by
  have e : ∀ l : List Int, (bv l).map (fun v => match v with | .int _ n => n | _ => 0) = l := by
    intro l
    simp only [bv, List.map_map]
    conv => rhs; rw [← List.map_id l]
    rfl
  rw [← e a, ← e b, h]
theorem cs_inj {x y : Idn} (h : cs x = cs y) : x = y := by
  apply Idn_ext
  apply bv_inj
  unfold cs at h
  simpa using h
theorem idB (x : Idn) : ∀ n ∈ x.1, B n := x.2.2
/-- The cells of a list of ids. -/
def flat (l : List Idn) : List Int := l.flatMap fun x => x.1
theorem flat_cons (x : Idn) (l : List Idn) : flat (x :: l) = x.1 ++ flat l := rfl
theorem flat_append (a b : List Idn) : flat (a ++ b) = flat a ++ flat b := by simp [flat]
theorem flat_one (x : Idn) : flat [x] = x.1 := by simp [flat]
theorem flat_length : ∀ l : List Idn, (flat l).length = l.length * 32
  | [] => rfl
  | x :: l => by rw [flat_cons, List.length_append, Idn_len x, flat_length l, List.length_cons]; omega
theorem flat_at : ∀ (l : List Idn) (i j : Nat), i < l.length → j < 32 → (flat l).getD (i * 32 + j) 0 = (l.getD i nought).1.getD j 0
  | [], _, _, hi, _ => by simp at hi
  | x :: l, 0, j, _, hj => by
    rw [flat_cons, List.getD_eq_getElem?_getD, List.getElem?_append_left (by rw [Idn_len x]; omega), List.getD_cons_zero, List.getD_eq_getElem?_getD]
    simp
  | x :: l, i + 1, j, hi, hj => by
    rw [flat_cons, List.getD_eq_getElem?_getD, List.getElem?_append_right (by rw [Idn_len x]; omega), Idn_len x, show (i + 1) * 32 + j - 32 = i * 32 + j by omega, ← List.getD_eq_getElem?_getD, flat_at l i j (by simpa using hi) hj, List.getD_cons_succ]
theorem flat_take : ∀ (l : List Idn) (n : Nat), flat (l.take n) = (flat l).take (n * 32)
  | [], n => by simp [flat]
  | x :: l, 0 => by simp [flat]
  | x :: l, n + 1 => by
    rw [List.take_succ_cons, flat_cons, flat_cons, flat_take l n, List.take_append, Idn_len x, show (n + 1) * 32 - 32 = n * 32 by omega, List.take_of_length_le (l := x.1) (by rw [Idn_len x]; omega)]
theorem flat_drop : ∀ (l : List Idn) (n : Nat), flat (l.drop n) = (flat l).drop (n * 32)
  | [], n => by simp [flat]
  | x :: l, 0 => by simp
  | x :: l, n + 1 => by
    rw [List.drop_succ_cons, flat_cons, flat_drop l n, List.drop_append, Idn_len x, show (n + 1) * 32 - 32 = n * 32 by omega, List.drop_of_length_le (l := x.1) (by rw [Idn_len x]; omega), List.nil_append]

theorem info_id : (Tryd.prog.info? 42).map (·.size) = some 32 := by kernel_rfl
theorem info_cs (x : Idn) : (Tryd.prog.info? 42).map (·.size) = some (cs x).size := by rw [cs_size]; exact info_id
theorem info_bv (x : Idn) : (Tryd.prog.info? 42).map (·.size) = some (bv x.1).length := by rw [bv_length, Idn_len x]; exact info_id
theorem zero_id : (Tryd.prog.info? 42).map (fun i => (i.zero, i.size, i.bytes)) = some (some (.agg (cs nought)), 32, 32) := by kernel_rfl

/-- The slice with address A, as long as l, and with room for cap, has the ids l. -/
def SlI (w : World) (A : Option Addr) (cap : Nat) (l : List Idn) : Prop :=
  l.length ≤ cap ∧ cap ≤ maxLen ∧ ((A = none ∧ l = [] ∧ cap = 0) ∨ ∃ x, A = some x ∧ ∀ i, i < (flat l).length → w.cell? (x.add i) = some (.int .u8 ((flat l).getD i 0)))
theorem SlI.nil (w : World) : SlI w none 0 [] := ⟨Nat.le_refl _, Nat.zero_le _, .inl ⟨rfl, rfl, rfl⟩⟩
theorem SlI.below {w w' : World} {A : Option Addr} {cap : Nat} {l : List Idn} (h : SlI w A cap l) (hb : Below w.heap.size w w') : SlI w' A cap l := by
  obtain ⟨h1, h2, h5⟩ := h
  refine ⟨h1, h2, ?_⟩
  rcases h5 with h5 | ⟨x, rfl, hc⟩
  · exact .inl h5
  · refine .inr ⟨x, rfl, fun i hi => ?_⟩
    have hcell := hc i hi
    exact (hb.cell (block_lt_of_cell hcell)).trans hcell
/-- Where there is an id, the slice lies at a plain address. -/
theorem SlI.plain {w : World} {A : Option Addr} {cap : Nat} {l : List Idn} (h : SlI w A cap l) (hp : 0 < l.length) :
    ∃ b off, A = some ⟨b, off, none⟩ ∧ b < w.heap.size ∧ ∀ i, i < l.length → w.rangeAt b (off + i * 32) (bv (l.getD i nought).1) := by
  obtain ⟨h1, h2, h5⟩ := h
  rcases h5 with ⟨_, rfl, _⟩ | ⟨x, rfl, hc⟩
  · simp at hp
  · have hp' : 0 < (flat l).length := by rw [flat_length]; omega
    obtain ⟨b, off, rfl, hcell⟩ := ints_at hc hp'
    refine ⟨b, off, rfl, block_lt_of_cell (hcell 0 hp'), fun i hi j v hv => ?_⟩
    have hj : j < 32 := by
      have := (List.getElem?_eq_some_iff.1 hv).1
      rw [bv_length, Idn_len] at this
      exact this
    rw [bv_at _ (by rw [Idn_len]; exact hj)] at hv
    rw [Nat.add_assoc, hcell (i * 32 + j) (by rw [flat_length]; omega), flat_at l i j hi hj, hv]
theorem SlI.own {w : World} {base n : Nat} {v : Value} {l : List Idn} (h : w.ownsRow base 42 32 v n (bv (flat l))) : ∃ A cap, v = .slice A l.length cap ∧ SlI w A cap l := by
  have hn : l.length = n := by have := h.1; rw [bv_length, flat_length] at this; omega
  rcases h.2 with ⟨rfl, rfl⟩ | ⟨g, cap, cur, rfl, hbg, hg, h1, h2, h3, h4⟩
  · have : l = [] := List.eq_nil_of_length_eq_zero hn
    subst this
    exact ⟨none, 0, rfl, SlI.nil w⟩
  · refine ⟨some ⟨g, 0, none⟩, cap, by rw [hn], by omega, h2, .inr ⟨_, rfl, fun i hi => ?_⟩⟩
    have hi' := hi
    rw [flat_length] at hi'
    rw [Addr.add_lit, Nat.zero_add, h.cellAt i (by omega), bv_at _ hi]
/-- A load of one id out of a slice, and out of a box. -/
theorem load_mid {w : World} {b o : Nat} {x : Idn} (h : w.rangeAt b o (bv x.1)) : (Instr.loadAt 42 (.pointer (some ⟨b, o, none⟩))).run Tryd.prog w = .ok (.agg (cs x)) w :=
  run_loadAt_mid w b o 42 (bv x.1) _ h Tryd.underlying42 rfl (info_bv x)
theorem range_below {w w' : World} {b o : Nat} {x : Idn} (h : w.rangeAt b o (bv x.1)) (hb : Below w.heap.size w w') : w'.rangeAt b o (bv x.1) := fun j v hv => by
  have hc := h j v hv
  exact (hb.cell (block_lt_of_cell hc)).trans hc
/-- A block that holds one id. -/
def Box (w : World) (g : Nat) (x : Idn) : Prop := ∃ t, w.heap[g]? = some (.cells (cs x) t (0, 0))
theorem Box.lt {w : World} {g : Nat} {x : Idn} (h : Box w g x) : g < w.heap.size := by
  obtain ⟨t, ht⟩ := h
  exact (Array.getElem?_eq_some_iff.1 ht).1
theorem Box.below {w w' : World} {g B : Nat} {x : Idn} (h : Box w g x) (hb : Below B w w') (hg : g < B) : Box w' g x := by
  obtain ⟨t, ht⟩ := h
  exact ⟨t, by rw [hb.block g hg, ht]⟩
theorem Box.range {w : World} {g : Nat} {x : Idn} (h : Box w g x) : w.rangeAt g 0 (bv x.1) := fun j v hv => by
  obtain ⟨t, ht⟩ := h
  rw [Nat.zero_add, cell_of_row w g j _ t (0, 0) ht, cs, List.getElem?_toArray]
  exact hv
theorem Box.cell {w : World} {g : Nat} {x : Idn} (h : Box w g x) (i : Nat) (hi : i < 32) : w.cell? ⟨g, i, none⟩ = some (.int .u8 (x.1.getD i 0)) := by
  have := h.range i _ (bv_at x.1 (i := i) (by rw [Idn_len x]; exact hi))
  rwa [Nat.zero_add] at this
theorem Box.new (w : World) (x : Idn) (t : TypeId) : Box (w.alloc (.cells (cs x) t)) w.heap.size x := ⟨t, heap_alloc_new w _⟩
theorem Box.alloc {w : World} {g : Nat} {x : Idn} (h : Box w g x) (o : Obj) : Box (w.alloc o) g x := h.below ((Below.refl _ _).alloc (Nat.le_refl _) _) h.lt
theorem Box.drewN {w : World} {g : Nat} {x : Idn} (h : Box w g x) (n : Nat) : Box (w.drewN n) g x := h
/-- A load of one id, as the walk meets it. -/
theorem wpList_load_id {ops : Array Oper} {rest : List Oper} {o : Oper} {a : Act} {w : World} {Q : Exit → Act → World → Prop} (hgd : o.guard = none) (x : Operand) (ho : o.op = .load 42 x)
    (b off : Nat) (hx : a.eval x = .pointer (some ⟨b, off, none⟩)) (y : Idn) (hc : w.rangeAt b off (bv y.1)) (h : wpList Tryd.prog ops Q rest (a.put o.dst (.agg (cs y))) w) : wpList Tryd.prog ops Q (o :: rest) a w :=
  wpList_load_mid hgd 42 x ho b off hx (bv y.1) _ hc Tryd.underlying42 rfl (info_bv y) h
theorem wpList_load_box {ops : Array Oper} {rest : List Oper} {o : Oper} {a : Act} {w : World} {Q : Exit → Act → World → Prop} (hgd : o.guard = none) (x : Operand) (ho : o.op = .load 42 x)
    (g : Nat) (hx : a.eval x = .pointer (some ⟨g, 0, none⟩)) (y : Idn) (hb : Box w g y) (h : wpList Tryd.prog ops Q rest (a.put o.dst (.agg (cs y))) w) : wpList Tryd.prog ops Q (o :: rest) a w :=
  wpList_load_id hgd x ho g 0 hx y hb.range h
/-- An id stored into a block that was just made. -/
theorem wpList_store_new {ops : Array Oper} {rest : List Oper} {o : Oper} {a : Act} {w : World} {Q : Exit → Act → World → Prop} (hgd : o.guard = none) (x y : Operand) (ho : o.op = .store 42 x y)
    (w0 : World) (old : Array Value) (z : Idn) (t : TypeId) (hw : w = w0.alloc (.cells old t)) (g : Nat) (hx : a.eval x = .pointer (some ⟨g, 0, none⟩)) (hg : g = w0.heap.size) (hy : a.eval y = .agg (cs z)) (hs : old.size = 32)
    (h : wpList Tryd.prog ops Q rest (a.put o.dst undef) (w0.alloc (.cells (cs z) t))) : wpList Tryd.prog ops Q (o :: rest) a w := by
  subst hw
  subst hg
  refine wpList_store_row hgd 42 x y ho w0.heap.size (cs z) hx hy t old (heap_alloc_new w0 _) (info_cs z) (by rw [cs_size, hs]) (cs_one z) ?_
  rw [World.setRow_alloc_new]
  exact h
/-- Two ids compared. -/
theorem equal (w : World) (d : Nat) (x y : Idn) : (Op.equalIn (d + 2) 42 (.agg (cs x)) (.agg (cs y))).run Tryd.prog w = .ok (decide (x = y)) w := by
  obtain ⟨i, hi, _, _, _⟩ := info_parts zero_u8
  rw [ArrEq.equal_ints w d Tryd.underlying42 Tryd.underlying5 hi (by kernel_rfl) (cs x) (cs y) (fun i => x.1.getD i 0) (fun i => y.1.getD i 0) (fun i hi => ⟨cs_at x i hi, cs_at y i hi⟩)]
  congr 1
  rw [Bool.eq_iff_iff, List.all_eq_true, decide_eq_true_eq]
  constructor
  · intro h
    exact Idn_ext_at (fun i hi => by simpa using h i (by simpa using hi))
  · rintro rfl i _
    simp

/-- A new slice has these ids, and all that was there is as it was. -/
def NewI (l : List Idn) (w : World) (e : Ending) (w' : World) : Prop :=
  ∃ v, e = .returned v ∧ w'.ownsRow w.heap.size 42 32 v l.length (bv (flat l)) ∧ Below w.heap.size w w'
theorem zs : ((.agg (cs nought) : Value).cells).size = 32 := by simp [Value.cells, cs_size]
/-- 'append' of a slice of ids. -/
theorem wpList_append_ids {w : World} {ops : Array Oper} {rest : List Oper} {o : Oper} {a : Act} {Q : Exit → Act → World → Prop} (hgd : o.guard = none) (s x : Operand)
    (ho : o.op = .call { callee := .builtin .append, args := #[s, x], argTypes := #[25, 25] })
    (base : Nat) (v : Value) (n : Nat) (xs : List Idn) (hs : a.eval s = v) (hown : w.ownsRow base 42 32 v n (bv (flat xs)))
    (A : Option Addr) (m c : Nat) (l : List Idn) (hx : a.eval x = .slice A m c) (hm : l.length = m) (hr : SlI w A c l)
    (h63 : n + m ≤ 2000000000000) (hbase : base ≤ w.heap.size)
    (h : ∀ v' w', w'.ownsRow base 42 32 v' (n + m) (bv (flat (xs ++ l))) → w.grownBy w' v.ownBlock → wpList Tryd.prog ops Q rest (a.put o.dst v') w') : wpList Tryd.prog ops Q (o :: rest) a w := by
  obtain ⟨i, hi, z0, z1, z2⟩ := info_parts zero_id
  subst hm
  obtain ⟨h1, h2, h5⟩ := hr
  rcases h5 with ⟨rfl, rfl, rfl⟩ | ⟨ad, rfl, hc⟩
  · refine wpList_append_own_none hgd s x 25 ho base 42 i 32 Tryd.underlying25 hi v n (bv (flat xs)) hs hown hx (h v w ?_ (grown_of_below (Below.refl _ _) _))
    simpa using hown
  · refine wpList_append_own w hgd s x 25 ho base 42 i (.agg (cs nought)) 32 32 Tryd.underlying25 hi z0 z1 z2 zs (by decide) v n (bv (flat xs)) hs hown ad l.length c (bv (flat l)) hx (by rw [bv_length, flat_length]) (fun j u hu => ?_) (bv_one _) (by unfold maxLen; omega) (by omega) hbase (fun v' w' a1 a2 _ => h v' w' (by rw [flat_append, bv_append]; exact a1) a2)
    have hj : j < (flat l).length := by
      have := (List.getElem?_eq_some_iff.1 hu).1
      simpa [bv] using this
    rw [bv_at _ hj] at hu
    rw [hc j hj, ← hu]
/-- A slice that was just made of one id. -/
theorem SlI.new1 (w : World) (x : Idn) (t : TypeId) : SlI (w.alloc (.cells (cs x) t)) (some ⟨w.heap.size, 0, none⟩) 1 [x] := by
  refine ⟨Nat.le_refl _, by unfold maxLen; omega, .inr ⟨_, rfl, fun i hi => ?_⟩⟩
  rw [flat_one] at hi ⊢
  rw [Addr.add_lit, Nat.zero_add]
  exact (Box.new w x t).cell i (by rw [Idn_len x] at hi; exact hi)

/-- Draws and new blocks alone. -/
def Grew (w w' : World) : Prop := ∃ q os, w' = grow (w.drewN q) os
theorem Grew.refl (w : World) : Grew w w := ⟨0, #[], by rw [grow_empty]; rfl⟩
theorem Grew.alloc {w w' : World} (h : Grew w w') (o : Obj) : Grew w (w'.alloc o) := by
  obtain ⟨q, os, rfl⟩ := h
  exact ⟨q, os ++ #[o], by rw [alloc_eq_grow, grow_grow]⟩
theorem drewN_grow (w : World) (os : Array Obj) (n : Nat) : (grow w os).drewN n = grow (w.drewN n) os := rfl
theorem drewN_drewN (w : World) (m n : Nat) : (w.drewN m).drewN n = w.drewN (m + n) := by unfold World.drewN; simp [Nat.add_assoc]
theorem Grew.drewN {w w' : World} (h : Grew w w') (n : Nat) : Grew w (w'.drewN n) := by
  obtain ⟨q, os, rfl⟩ := h
  exact ⟨q + n, os, by rw [drewN_grow, drewN_drewN]⟩
theorem Grew.trans {w w' w'' : World} (h : Grew w w') (h' : Grew w' w'') : Grew w w'' := by
  obtain ⟨q, os, rfl⟩ := h'
  obtain ⟨p, os', e⟩ := h.drewN q
  exact ⟨p, os' ++ os, by rw [e, grow_grow]⟩
theorem Grew.below {w w' : World} (h : Grew w w') : Below w.heap.size w w' := by
  obtain ⟨q, os, rfl⟩ := h
  exact below_grow w.heap.size w (Nat.le_refl _) q os
end Go.Proofs.YteojkfbnenfmkaaDoor.IdW
