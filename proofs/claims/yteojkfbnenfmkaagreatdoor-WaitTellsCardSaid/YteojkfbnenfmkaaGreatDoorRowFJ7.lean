/- One field of a struct stored, whatever its fields. No condition. | One struct stored whole into a row of the call's own; one cell stored where a block holds one. No condition. | Some cells of a struct, one behind the other, stored at once, whatever its fields. No condition. | One struct in a block of its own, whatever its fields, also where the program has no slice of such: made, stored, read. No condition. | Events in memory. No condition. | Two operations compared; whether an operation's texts are short. No condition. | Commits in memory: what a walk reads, makes and stores. No condition. -/
import Derived.Test.YteojkfbnenfmkaaGreatDoorRowC
import Derived.Test.YteojkfbnenfmkaaGreatDoorRowSJ2
import Derived.Test.YteojkfbnenfmkaaGreatDoorGrowJ5
import Derived.Test.YteojkfbnenfmkaaGreatDoorOpsC
import Derived.Test.YteojkfbnenfmkaaGreatDoorIdMJ3
import Derived.Test.YteojkfbnenfmkaaGreatDoorArrEqJ2
namespace Go.Proofs.YteojkfbnenfmkaaGreatDoor.RowF
set_option maxRecDepth 100000
open Go Go.RowKit Byt RowS RowB

theorem run_store_one {w : World} {g j : Nat} {T : TypeId} {v : Value} {c : Array Value} {t : TypeId} (ht : w.heap[g]? = some (.cells c t (0, 0))) (hj : j < c.size) (hi : (Tryz.prog.info? T).map (·.size) = some 1) (hv : v.cells = #[v]) (h1 : v.oneCell' = true) :
    (Instr.storeAt T (.pointer (some ⟨g, j, none⟩)) v).run Tryz.prog w = .ok () (w.setCell ⟨g, j, none⟩ v) := by
  have hth : w.there g j [v].length := fun i hi => by
    have : i = 0 := by simpa using hi
    subst this
    refine ⟨?_, ?_⟩
    · rw [Nat.add_zero, cell_of_row w g j _ t (0, 0) ht, Array.getElem?_eq_getElem hj]
      rfl
    · simp [World.frozen?, ht]
  have := run_storeCells_cells (P := Tryz.prog) g j [v] 0 w (fun i hi => by simpa using (hth i hi).1) (fun i hi => by simpa using (hth i hi).2) (fun u hu => by simp only [List.mem_singleton] at hu; subst hu; exact h1)
  cases hq : Tryz.prog.info? T with
  | none => simp [hq] at hi
  | some i =>
    have hs : i.size = 1 := by simpa [hq] using hi
    simp only [Nat.add_zero] at this
    simp only [Instr.storeAt, Instr.sureAddr, Sem.run_bind, Sem.run_pure, Result.andThen_ok]
    simp [storeVar, sizeOf, typeInfo, hq, hv, hs, this]
    try rfl
variable {α : Type} (E : Enc α)
end Go.Proofs.YteojkfbnenfmkaaGreatDoor.RowF
namespace Go.Proofs.YteojkfbnenfmkaaGreatDoor.RowH
set_option maxRecDepth 100000
open Go Go.RowKit Byt RowS RowB

/-- Values written one behind the other into a list. -/
def setL : List Value → Nat → List Value → List Value
  | xs, _, [] => xs
  | xs, o, v :: vs => setL (xs.set o v) (o + 1) vs
theorem setL_mid : ∀ (vs A B C : List Value), B.length = vs.length → setL (A ++ B ++ C) A.length vs = A ++ vs ++ C
  | [], A, B, C, h => by
    have : B = [] := List.eq_nil_of_length_eq_zero (by simpa using h)
    subst this
    simp [setL]
  | v :: vs, A, [], C, h => by simp at h
  | v :: vs, A, b :: B, C, h => by
    have e : (A ++ b :: B ++ C).set A.length v = (A ++ [v]) ++ B ++ C := by simp
    have l : (A ++ [v]).length = A.length + 1 := by simp
    rw [setL, e, ← l, setL_mid vs (A ++ [v]) B C (by simpa using h)]
    simp
theorem stored_all {base size g n cap : Nat} {e : TypeId} : ∀ (vs : List Value) (o : Nat) (xs : List Value) (w : World), w.ownsRow base e size (.slice (some ⟨g, 0, none⟩) n cap) n xs →
    (w.setCells g o vs).ownsRow base e size (.slice (some ⟨g, 0, none⟩) n cap) n (setL xs o vs) ∧ w.grownBy (w.setCells g o vs) (some g)
  | [], o, xs, w, h => ⟨h, grown_of_below (Below.refl _ _) _⟩
  | v :: vs, o, xs, w, h => by
    obtain ⟨h1, g1⟩ := h.stored o v
    obtain ⟨h2, g2⟩ := stored_all vs (o + 1) (xs.set o v) _ h1
    exact ⟨h2, g1.trans g2⟩
variable {α : Type} (E : Enc α)
theorem own_range {E : Enc α} {w : World} {base g n cap : Nat} {l : List α} (h : w.ownsRow base E.T E.k (.slice (some ⟨g, 0, none⟩) n cap) n (flat E l)) {i : Nat} {x : α} (hx : l[i]? = some x) : w.rangeAt g (i * E.k) (E.enc x) := fun j v hv => by
  have := h.cells rfl _ _ (flat_at E l i j x v hx hv)
  rw [Addr.add_lit, Nat.zero_add] at this
  exact this
/-- One cell stored into a block that holds one. -/
theorem wpList_store_cell {ops : Array Oper} {rest : List Oper} {o : Oper} {a : Act} {w : World} {Q : Exit → Act → World → Prop} (hgd : o.guard = none) (hd : o.dst = none) (T : TypeId) (x y : Operand) (ho : o.op = .store T x y) (hi : (Tryz.prog.info? T).map (·.size) = some 1)
    (g : Nat) (hx : a.eval x = .pointer (some ⟨g, 0, none⟩)) (old : Value) (t : TypeId) (hc : w.heap[g]? = some (.cells #[old] t (0, 0))) (v : Value) (hy : a.eval y = v) (hv : v.cells = #[v]) (h1 : v.oneCell' = true)
    (h : ∀ w', w'.heap[g]? = some (.cells #[v] t (0, 0)) → w.grownBy w' (some g) → wpList Tryz.prog ops Q rest a w') : wpList Tryz.prog ops Q (o :: rest) a w := by
  refine wpList_plain hgd fun K hK => ?_
  have hrun := RowF.run_store_one (T := T) hc (j := 0) (by simp) hi hv h1
  unfold Oper.wp execOp
  simp only [ho, hx, hy, Sem.run_bind, hrun, Result.andThen_ok, Sem.run_pure]
  refine hK _ _ ?_
  rw [hd]
  refine h _ ?_ ⟨rfl, rfl, rfl, by simp [World.setCell], fun k _ hk => ?_⟩
  · simp only [World.setCell]
    rw [Array.getElem?_modify, if_pos rfl, hc]
    simp
  · simp only [World.setCell]
    rw [Array.getElem?_modify, if_neg (fun e => hk (by rw [← e]))]
/-- The one cell of such a block. -/
theorem cell_of_one {w : World} {g : Nat} {v : Value} {t : TypeId} (h : w.heap[g]? = some (.cells #[v] t (0, 0))) : w.cell? ⟨g, 0, none⟩ = some v := by
  rw [cell_of_row w g 0 _ t (0, 0) h]
  rfl
end Go.Proofs.YteojkfbnenfmkaaGreatDoor.RowH
namespace Go.Proofs.YteojkfbnenfmkaaGreatDoor.RowJ
set_option maxRecDepth 100000
open Go Go.RowKit Byt RowS RowB RowH

variable {α : Type} (E : Enc α)
end Go.Proofs.YteojkfbnenfmkaaGreatDoor.RowJ
namespace Go.Proofs.YteojkfbnenfmkaaGreatDoor.Cel
set_option maxRecDepth 100000
open Go Go.Sort Go.RowKit Byt RowS RowB RowH RowJ

/-- How a struct lies in memory: its type, and the cells of each value. -/
structure Cel (α : Type) where
  T : TypeId
  k : Nat
  bytes : Nat
  d : TypeDesc
  enc : α → List Value
  zero : α
  len : ∀ x, (enc x).length = k
  one : ∀ x, ∀ v ∈ enc x, v.oneCell' = true
  pos : 0 < k
  info : (Tryz.prog.info? T).map (fun i => (i.zero, i.size, i.bytes)) = some (some (.agg (enc zero).toArray), k, bytes)
  under : Tryz.prog.underlying T = some d
  row : d.isRow = true
variable {α : Type} {E : Cel α}
theorem Cel.size (E : Cel α) (x : α) : (Tryz.prog.info? E.T).map (·.size) = some (E.enc x).length := by
  have h := E.info
  cases hq : Tryz.prog.info? E.T with
  | none => rw [hq] at h; cases h
  | some i =>
    rw [hq] at h
    simp only [Option.map_some, Option.some.injEq, Prod.mk.injEq] at h
    simp [h.2.1, E.len]
theorem Cel.size' (E : Cel α) (x : α) : (Tryz.prog.info? E.T).map (·.size) = some (E.enc x).toArray.size := by rw [List.size_toArray]; exact E.size x
theorem Cel.all (E : Cel α) (x : α) : (E.enc x).toArray.all (·.oneCell') = true := Array.all_eq_true_iff_forall_mem.2 (fun v hv => E.one x v (by simpa using hv))
/-- Block g holds the struct x. -/
def Box (E : Cel α) (w : World) (g : Nat) (x : α) : Prop := ∃ t, w.heap[g]? = some (.cells (E.enc x).toArray t (0, 0))
theorem Box.lt {w : World} {g : Nat} {x : α} (h : Box E w g x) : g < w.heap.size := by
  obtain ⟨t, ht⟩ := h
  exact (Array.getElem?_eq_some_iff.1 ht).1
theorem Box.block {w w' : World} {g B : Nat} {x : α} (h : Box E w g x) (hb : Below B w w') (hg : g < B) : Box E w' g x := by
  obtain ⟨t, ht⟩ := h
  exact ⟨t, by rw [hb.block g hg, ht]⟩
theorem Box.below {w w' : World} {g : Nat} {x : α} (h : Box E w g x) (hb : Below w.heap.size w w') : Box E w' g x := h.block hb h.lt
theorem Box.new (w : World) (x : α) (t : TypeId) : Box E (w.alloc (.cells (E.enc x).toArray t)) w.heap.size x := ⟨t, heap_alloc_new w _⟩
theorem Box.alloc {w : World} {g : Nat} {x : α} (h : Box E w g x) (o : Obj) : Box E (w.alloc o) g x := h.below ((Below.refl _ _).alloc (Nat.le_refl _) _)
theorem Box.kept {w w' : World} {g : Nat} {row : Option Nat} {x : α} (h : Box E w g x) (hg : w.grownBy w' row) (hne : some g ≠ row) : Box E w' g x := by
  obtain ⟨t, ht⟩ := h
  exact ⟨t, by rw [hg.block g (Array.getElem?_eq_some_iff.1 ht).1 hne, ht]⟩
theorem Box.range {w : World} {g : Nat} {x : α} (h : Box E w g x) : w.rangeAt g 0 (E.enc x) := fun j v hv => by
  obtain ⟨t, ht⟩ := h
  rw [Nat.zero_add, cell_of_row w g j _ t (0, 0) ht, List.getElem?_toArray]
  exact hv
theorem Box.cell {w : World} {g : Nat} {x : α} (h : Box E w g x) {j : Nat} {v : Value} (hv : (E.enc x)[j]? = some v) : w.cell? ⟨g, j, none⟩ = some v := by
  have := h.range j v hv
  rwa [Nat.zero_add] at this
/-- A struct loaded whole out of its block. -/
theorem wpList_load_box {ops : Array Oper} {rest : List Oper} {o : Oper} {a : Act} {w : World} {Q : Exit → Act → World → Prop} (E : Cel α) (hgd : o.guard = none) (x : Operand) (ho : o.op = .load E.T x)
    (g : Nat) (hx : a.eval x = .pointer (some ⟨g, 0, none⟩)) (y : α) (hb : Box E w g y) (h : wpList Tryz.prog ops Q rest (a.put o.dst (.agg (E.enc y).toArray)) w) : wpList Tryz.prog ops Q (o :: rest) a w :=
  wpList_load_mid hgd E.T x ho g 0 hx (E.enc y) _ hb.range E.under E.row (E.size y) h
/-- A struct stored whole into a block that was just made: the world behind it under a name of its own. -/
theorem wpList_store_new {ops : Array Oper} {rest : List Oper} {o : Oper} {a : Act} {w : World} {Q : Exit → Act → World → Prop} (E : Cel α) (hgd : o.guard = none) (x y : Operand) (ho : o.op = .store E.T x y)
    (w0 : World) (old : Array Value) (t : TypeId) (hw : w = w0.alloc (.cells old t)) (z : α) (g : Nat) (hx : a.eval x = .pointer (some ⟨g, 0, none⟩)) (hg : g = w0.heap.size) (hy : a.eval y = .agg (E.enc z).toArray) (hs : old.size = E.k)
    (h : ∀ w1, Box E w1 w0.heap.size z → Below w0.heap.size w0 w1 → w0.grownBy w1 none → w1.heap.size = w0.heap.size + 1 → wpList Tryz.prog ops Q rest (a.put o.dst undef) w1) : wpList Tryz.prog ops Q (o :: rest) a w := by
  subst hw
  subst hg
  refine wpList_store_row hgd E.T x y ho w0.heap.size (E.enc z).toArray hx hy t old (heap_alloc_new w0 _) (E.size' z) (by simp [E.len, hs]) (E.all z) ?_
  rw [World.setRow_alloc_new]
  exact h _ (Box.new w0 z t) ((Below.refl _ _).alloc (Nat.le_refl _) _) (World.grownBy_alloc w0 _ none) (by simp)
/-- A struct stored whole where one lies. -/
theorem wpList_store_box {ops : Array Oper} {rest : List Oper} {o : Oper} {a : Act} {w : World} {Q : Exit → Act → World → Prop} (E : Cel α) (hgd : o.guard = none) (x y : Operand) (ho : o.op = .store E.T x y)
    (g : Nat) (hx : a.eval x = .pointer (some ⟨g, 0, none⟩)) (old : α) (hb : Box E w g old) (z : α) (hy : a.eval y = .agg (E.enc z).toArray)
    (h : ∀ w1, Box E w1 g z → (∀ B, B ≤ g → Below B w w1) → w.grownBy w1 (some g) → w1.heap.size = w.heap.size → wpList Tryz.prog ops Q rest (a.put o.dst undef) w1) : wpList Tryz.prog ops Q (o :: rest) a w := by
  obtain ⟨t, ht⟩ := hb
  refine wpList_store_row hgd E.T x y ho g (E.enc z).toArray hx hy t (E.enc old).toArray ht (E.size' z) (by simp [E.len]) (E.all z) ?_
  refine h _ ⟨t, setRow_heap w g _ _ t (0, 0) ht⟩ (fun B hB => below_set w hB _) ⟨rfl, rfl, rfl, by simp [World.setRow], fun j _ hj => ?_⟩ (by simp [World.setRow])
  simp only [World.setRow]
  rw [Array.getElem?_modify, if_neg (fun e => hj (by rw [e]))]
theorem range_load (E : Cel α) {w : World} {b off : Nat} {y : α} (h : w.rangeAt b off (E.enc y)) : (Instr.loadAt E.T (.pointer (some ⟨b, off, none⟩))).run Tryz.prog w = .ok (.agg (E.enc y).toArray) w :=
  run_loadAt_mid w b off E.T (E.enc y) _ h E.under E.row (E.size y)
/-- A struct read whole in a region that draws its order. -/
theorem quiet_row (E : Cel α) {a : Act} {o : Oper} {K : Act → Prop} {w : World} (x : Operand) (ho : o.op = .load E.T x)
    (b off : Nat) (hx : a.eval x = .pointer (some ⟨b, off, none⟩)) (y : α) (hc : w.rangeAt b off (E.enc y)) (hk : K (a.put o.dst (.agg (E.enc y).toArray))) : o.quiet Tryz.prog a (fun w' => ∃ p : Regrown, w' = grow (redrawn w p.d) p.os) K := by
  refine ⟨.agg (E.enc y).toArray, fun u hu => ?_, hk⟩
  obtain ⟨p, rfl⟩ := hu
  have q := range_load E (range_below hc (below_regrown w p.d p.os))
  unfold Oper.quietAt execOp
  simp only [ho, hx, Sem.run_bind, q, Result.andThen_ok, Sem.run_pure]
  exact ⟨rfl, rfl⟩
end Go.Proofs.YteojkfbnenfmkaaGreatDoor.Cel
namespace Go.Proofs.YteojkfbnenfmkaaGreatDoor.StW
set_option maxRecDepth 100000
open Go Go.RowKit Byt

/-- An event. -/
structure Ev where
  node : Int
  seq : Int
def ec (e : Ev) : Array Value := #[.int .i64 e.node, .int .i64 e.seq]
def EE : Cel.Cel Ev where
  T := 24
  k := 2
  bytes := 16
  d := _
  enc e := [.int .i64 e.node, .int .i64 e.seq]
  zero := ⟨0, 0⟩
  len _ := rfl
  one c v hv := by
    simp only [List.mem_cons, List.not_mem_nil, or_false] at hv
    rcases hv with rfl | rfl <;> rfl
  pos := by omega
  info := by kernel_rfl
  under := Tryz.underlying24
  row := rfl
theorem ev_cells {w : World} {g : Nat} {e : Ev} (h : Cel.Box EE w g e) : w.cell? ⟨g, 0, none⟩ = some (.int .i64 e.node) ∧ w.cell? ⟨g, 1, none⟩ = some (.int .i64 e.seq) :=
  ⟨h.cell (j := 0) rfl, h.cell (j := 1) rfl⟩
theorem below_alloc (w : World) (o : Obj) : Below w.heap.size w (w.alloc o) := (Below.refl _ _).alloc (Nat.le_refl _) _
theorem ret_bool {a b : Bool} (h : a = b) : Ending.returned (.bool a) = .returned (.bool b) := by rw [h]
end Go.Proofs.YteojkfbnenfmkaaGreatDoor.StW
namespace Go.Proofs.YteojkfbnenfmkaaGreatDoor.OpsE
set_option maxRecDepth 100000
open Go Go.RowKit Go.Sort Byt OpsM OpsK OpsW OpsC

/-- Are two operations the same? -/
def sameB (x y : Opn) : Bool := decide (x.kind = y.kind) && (decide (x.key.toList = y.key.toList) && (decide (x.elem.toList = y.elem.toList) && decide (x.n = y.n)))
theorem sameB_iff {x y : Opn} : sameB x y = true ↔ x = y := by
  unfold sameB
  simp only [Bool.and_eq_true, decide_eq_true_eq]
  constructor
  · rintro ⟨h1, h2, h3, h4⟩
    cases x; cases y
    simp only at h1 h2 h3 h4
    rw [toList_inj] at h2 h3
    subst h1 h2 h3 h4
    rfl
  · rintro rfl; exact ⟨rfl, rfl, rfl, rfl⟩
theorem equal (w : World) (x y : Opn) : (Op.equalIn 10000 27 (.agg (opc x)) (.agg (opc y))).run Tryz.prog w = .ok (sameB x y) w := by
  have hS : Tryz.prog.underlying 27 = some (.struct (Tryz.prog.fieldsOf 27)) := by kernel_rfl
  rw [show (10000 : Nat) = 9999 + 1 from rfl, run_equalIn_agg w 9999 27 _ _ hS (by kernel_rfl)]
  simp only [Program.fieldsOf, Tryz.underlying27, opc]
  go_simp
  unfold sameB
  split
  · split
    · split
      · split <;> simp_all
      · simp_all
    · simp_all
  · simp_all


end Go.Proofs.YteojkfbnenfmkaaGreatDoor.OpsE
namespace Go.Proofs.YteojkfbnenfmkaaGreatDoor.CmW
set_option maxRecDepth 100000
open Go Go.Sort Go.RowKit Byt IdM IdW OpsM OpsW CmM StW

/-- A commit whose parents lie in a slice. -/
structure Cv where
  a : Option Addr
  k : Nat
  c : Com
def noV : Cv := ⟨none, 0, noK⟩
/-- A commit's cells. -/
def cc (v : Cv) : Array Value := #[.int .i64 v.c.node, .int .i64 v.c.seq, .int .i64 v.c.gen, .slice v.a v.c.ps.length v.k, .int .i64 v.c.op.kind, .string v.c.op.key, .string v.c.op.elem, .int .i64 v.c.op.n]
def CE : Cel.Cel Cv where
  T := 29
  k := 8
  bytes := 96
  d := _
  enc v := [.int .i64 v.c.node, .int .i64 v.c.seq, .int .i64 v.c.gen, .slice v.a v.c.ps.length v.k, .int .i64 v.c.op.kind, .string v.c.op.key, .string v.c.op.elem, .int .i64 v.c.op.n]
  zero := noV
  len _ := rfl
  one c v hv := by
    simp only [List.mem_cons, List.not_mem_nil, or_false] at hv
    rcases hv with rfl | rfl | rfl | rfl | rfl | rfl | rfl | rfl <;> rfl
  pos := by omega
  info := by kernel_rfl
  under := Tryz.underlying29
  row := rfl
/-- The slice holds the parents. -/
def In (w : World) (v : Cv) : Prop := SlI w v.a v.k v.c.ps
theorem In.below {w w' : World} {v : Cv} (h : In w v) (hb : Below w.heap.size w w') : In w' v := SlI.below h hb
theorem In.none (w : World) : In w noV := SlI.nil w
/-- A commit that is made of numbers of 64 bits, and of texts that a machine has room for. -/
structure Fit (c : Com) : Prop where
  node : I64 c.node
  seq : I64 c.seq
  gen : I64 c.gen
  op : OpsC.Fit c.op
section
variable {w : World} {g : Nat} {v : Cv}
theorem cell_node (h : Cel.Box CE w g v) : w.cell? ⟨g, 0, none⟩ = some (.int .i64 v.c.node) := h.cell (j := 0) rfl
theorem cell_seq (h : Cel.Box CE w g v) : w.cell? ⟨g, 1, none⟩ = some (.int .i64 v.c.seq) := h.cell (j := 1) rfl
theorem cell_gen (h : Cel.Box CE w g v) : w.cell? ⟨g, 2, none⟩ = some (.int .i64 v.c.gen) := h.cell (j := 2) rfl
theorem cell_ps (h : Cel.Box CE w g v) : w.cell? ⟨g, 3, none⟩ = some (.slice v.a v.c.ps.length v.k) := h.cell (j := 3) rfl
theorem cell_kind (h : Cel.Box CE w g v) : w.cell? ⟨g, 4, none⟩ = some (.int .i64 v.c.op.kind) := h.cell (j := 4) rfl
theorem cell_key (h : Cel.Box CE w g v) : w.cell? ⟨g, 5, none⟩ = some (.string v.c.op.key) := h.cell (j := 5) rfl
theorem cell_elem (h : Cel.Box CE w g v) : w.cell? ⟨g, 6, none⟩ = some (.string v.c.op.elem) := h.cell (j := 6) rfl
theorem cell_n (h : Cel.Box CE w g v) : w.cell? ⟨g, 7, none⟩ = some (.int .i64 v.c.op.n) := h.cell (j := 7) rfl
theorem range_ev (h : Cel.Box CE w g v) : w.rangeAt g 0 (EE.enc ⟨v.c.node, v.c.seq⟩) := fun j u hu => by
  rw [Nat.zero_add]
  match j, hu with
  | 0, hu => exact (Option.some.inj hu) ▸ cell_node h
  | 1, hu => exact (Option.some.inj hu) ▸ cell_seq h
  | j + 2, hu => simp [EE] at hu
theorem range_op (h : Cel.Box CE w g v) : w.rangeAt g 4 (opc v.c.op).toList := fun j u hu => by
  match j, hu with
  | 0, hu => exact (Option.some.inj hu) ▸ cell_kind h
  | 1, hu => exact (Option.some.inj hu) ▸ cell_key h
  | 2, hu => exact (Option.some.inj hu) ▸ cell_elem h
  | 3, hu => exact (Option.some.inj hu) ▸ cell_n h
  | j + 4, hu => simp [opc] at hu
end
section
variable {ops : Array Oper} {rest : List Oper} {o : Oper} {a : Act} {w : World} {Q : Exit → Act → World → Prop}
/-- Its event, and its operation, loaded whole out of a commit's block; also where that is guarded, and wanted. -/
theorem wpList_load_kev (hgd : o.guard = none) (x : Operand) (ho : o.op = .load 24 x)
    (g : Nat) (hx : a.eval x = .pointer (some ⟨g, 0, none⟩)) (v : Cv) (hb : Cel.Box CE w g v) (h : wpList Tryz.prog ops Q rest (a.put o.dst (.agg #[.int .i64 v.c.node, .int .i64 v.c.seq])) w) : wpList Tryz.prog ops Q (o :: rest) a w :=
  wpList_load_mid hgd EE.T x ho g 0 hx (EE.enc ⟨v.c.node, v.c.seq⟩) _ (range_ev hb) EE.under EE.row (EE.size _) h
theorem wpList_load_kop (hgd : o.guard = none) (x : Operand) (ho : o.op = .load 27 x)
    (g : Nat) (hx : a.eval x = .pointer (some ⟨g, 4, none⟩)) (v : Cv) (hb : Cel.Box CE w g v) (h : wpList Tryz.prog ops Q rest (a.put o.dst (.agg (opc v.c.op))) w) : wpList Tryz.prog ops Q (o :: rest) a w :=
  wpList_load_mid hgd 27 x ho g 4 hx (opc v.c.op).toList _ (range_op hb) Tryz.underlying27 rfl (info_opl v.c.op) h
theorem gkev (x : Operand) (ho : o.op = .load 24 x)
    (g : Nat) (hx : a.eval x = .pointer (some ⟨g, 0, none⟩)) (v : Cv) (hb : Cel.Box CE w g v) (hw : Region.wanted o (yielded ops a.tmps) = true) (h : wpList Tryz.prog ops Q rest (a.put o.dst (.agg #[.int .i64 v.c.node, .int .i64 v.c.seq])) w) : wpList Tryz.prog ops Q (o :: rest) a w :=
  RowC.unguard hw (wpList_load_kev rfl x ho g hx v hb h)
theorem gkop (x : Operand) (ho : o.op = .load 27 x)
    (g : Nat) (hx : a.eval x = .pointer (some ⟨g, 4, none⟩)) (v : Cv) (hb : Cel.Box CE w g v) (hw : Region.wanted o (yielded ops a.tmps) = true) (h : wpList Tryz.prog ops Q rest (a.put o.dst (.agg (opc v.c.op))) w) : wpList Tryz.prog ops Q (o :: rest) a w :=
  RowC.unguard hw (wpList_load_kop rfl x ho g hx v hb h)
theorem gload (x : Operand) (ho : o.op = .load 29 x)
    (g : Nat) (hx : a.eval x = .pointer (some ⟨g, 0, none⟩)) (v : Cv) (hb : Cel.Box CE w g v) (hw : Region.wanted o (yielded ops a.tmps) = true) (h : wpList Tryz.prog ops Q rest (a.put o.dst (.agg (cc v))) w) : wpList Tryz.prog ops Q (o :: rest) a w :=
  RowC.unguard hw (Cel.wpList_load_box CE rfl x ho g hx v hb h)
end
/-- Two events, two operations, compared. -/
def sameE (a b m n : Int) : Bool := decide (a = m) && decide (b = n)
theorem equal_ev (d : Nat) (w : World) (a b m n : Int) : (Op.equalIn (d + 1 + 1) 24 (.agg #[.int .i64 a, .int .i64 b]) (.agg #[.int .i64 m, .int .i64 n])).run Tryz.prog w = .ok (sameE a b m n) w := by
  have hE : Tryz.prog.underlying 24 = some (.struct (Tryz.prog.fieldsOf 24)) := by kernel_rfl
  rw [run_equalIn_agg w (d + 1) 24 _ _ hE (by kernel_rfl)]
  simp only [Program.fieldsOf, Tryz.underlying24]
  unfold sameE
  go_simp
  by_cases h1 : a = m <;> by_cases h2 : b = n <;> simp [h1, h2]
theorem sameE_iff {a b m n : Int} : sameE a b m n = true ↔ a = m ∧ b = n := by
  unfold sameE
  simp only [Bool.and_eq_true, decide_eq_true_eq]
theorem equal_nought (w : World) (o : Opn) : (Op.equalIn 10000 27 (.agg (opc o)) (.agg #[.int .i64 0, .string ⟨#[]⟩, .string ⟨#[]⟩, .int .i64 0])).run Tryz.prog w = .ok (noughtO o) w := by
  have e0 : OpsE.sameB o noO = noughtO o := by
    rw [Bool.eq_iff_iff, OpsE.sameB_iff, noughtO_iff]
  rw [← e0]
  exact OpsE.equal w o noO
end Go.Proofs.YteojkfbnenfmkaaGreatDoor.CmW
