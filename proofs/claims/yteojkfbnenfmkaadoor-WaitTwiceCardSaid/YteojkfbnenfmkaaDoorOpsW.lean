/- Operations, and tables of functions by kinds, in memory: what a walk reads and makes. No condition. -/
import Derived.Test.YteojkfbnenfmkaaDoorEncEJ4
import Derived.Test.YteojkfbnenfmkaaDoorGrow
import Derived.Maps.OwnOps
import Derived.Deep.MidRow
import Derived.Deep.WholeRow
import Derived.Laws.Tables
import Derived.OpenShut
namespace Go.Proofs.YteojkfbnenfmkaaDoor.OpsW
set_option maxRecDepth 100000
open Go Go.Sort Go.RowKit Go.Maps Go.ChangeMaps Byt OpsM

/-- An operation's cells. -/
def opc (o : Opn) : Array Value := #[.int .i64 o.kind, .string o.key, .string o.elem, .int .i64 o.n]
theorem info_op : (Tryd.prog.info? 27).map (·.size) = some 4 := by kernel_rfl
theorem info_opl (o : Opn) : (Tryd.prog.info? 27).map (·.size) = some (opc o).toList.length := info_op
/-- A block that holds one operation. -/
def OpAt (w : World) (g : Nat) (o : Opn) : Prop := ∃ t, w.heap[g]? = some (.cells (opc o) t (0, 0))
theorem OpAt.lt {w : World} {g : Nat} {o : Opn} (h : OpAt w g o) : g < w.heap.size := by
  obtain ⟨t, ht⟩ := h
  exact (Array.getElem?_eq_some_iff.1 ht).1
theorem OpAt.block {w w' : World} {g B : Nat} {o : Opn} (h : OpAt w g o) (hb : Below B w w') (hg : g < B) : OpAt w' g o := by
  obtain ⟨t, ht⟩ := h
  exact ⟨t, by rw [hb.block g hg, ht]⟩
theorem OpAt.below {w w' : World} {g : Nat} {o : Opn} (h : OpAt w g o) (hb : Below w.heap.size w w') : OpAt w' g o := h.block hb h.lt
theorem OpAt.new (w : World) (o : Opn) (t : TypeId) : OpAt (w.alloc (.cells (opc o) t)) w.heap.size o := ⟨t, heap_alloc_new w _⟩
theorem OpAt.alloc {w : World} {g : Nat} {o : Opn} (h : OpAt w g o) (x : Obj) : OpAt (w.alloc x) g o := h.below ((Below.refl _ _).alloc (Nat.le_refl _) _)
theorem OpAt.range {w : World} {g : Nat} {o : Opn} (h : OpAt w g o) : w.rangeAt g 0 (opc o).toList := fun j v hv => by
  obtain ⟨t, ht⟩ := h
  rw [Nat.zero_add, cell_of_row w g j _ t (0, 0) ht]
  rw [Array.getElem?_toList] at hv
  exact hv
theorem OpAt.kind {w : World} {g : Nat} {o : Opn} (h : OpAt w g o) : w.cell? ⟨g, 0, none⟩ = some (.int .i64 o.kind) := h.range 0 _ rfl
theorem OpAt.key {w : World} {g : Nat} {o : Opn} (h : OpAt w g o) : w.cell? ⟨g, 1, none⟩ = some (.string o.key) := h.range 1 _ rfl
theorem OpAt.elem {w : World} {g : Nat} {o : Opn} (h : OpAt w g o) : w.cell? ⟨g, 2, none⟩ = some (.string o.elem) := h.range 2 _ rfl
theorem OpAt.n {w : World} {g : Nat} {o : Opn} (h : OpAt w g o) : w.cell? ⟨g, 3, none⟩ = some (.int .i64 o.n) := h.range 3 _ rfl
theorem OpAt.load {w : World} {g : Nat} {o : Opn} (h : OpAt w g o) : (Instr.loadAt 27 (.pointer (some ⟨g, 0, none⟩))).run Tryd.prog w = .ok (.agg (opc o)) w :=
  run_loadAt_mid w g 0 27 (opc o).toList _ h.range Tryd.underlying27 rfl (info_opl o)
/-- A load of a whole operation, as the walk meets it; .. inside a region that only reads; .. inside one that grows. -/
theorem wpList_load_op {ops : Array Oper} {rest : List Oper} {o : Oper} {a : Act} {w : World} {Q : Exit → Act → World → Prop} (hgd : o.guard = none) (x : Operand) (ho : o.op = .load 27 x)
    (g : Nat) (hx : a.eval x = .pointer (some ⟨g, 0, none⟩)) (y : Opn) (hc : OpAt w g y) (h : wpList Tryd.prog ops Q rest (a.put o.dst (.agg (opc y))) w) : wpList Tryd.prog ops Q (o :: rest) a w :=
  wpList_load_mid hgd 27 x ho g 0 hx (opc y).toList _ hc.range Tryd.underlying27 rfl (info_opl y) h
theorem wpQuiet_load_op {ops : Array Oper} {C : World → Prop} {Q : Act → Prop} {a : Act} {o : Oper} {rest : List Oper} (hgd : o.guard = none) (x : Operand) (ho : o.op = .load 27 x)
    (g : Nat) (hx : a.eval x = .pointer (some ⟨g, 0, none⟩)) (y : Opn) (hc : ∀ w, C w → OpAt w g y) (h : wpQuiet Tryd.prog ops C Q rest (a.put o.dst (.agg (opc y)))) : wpQuiet Tryd.prog ops C Q (o :: rest) a := by
  refine BigFrame.wpQuiet_want (by simp [Region.wanted, hgd]) (fun K hK => ⟨.agg (opc y), fun w hw => ?_, hK _ h⟩)
  have q := (hc w hw).load
  unfold Oper.quietAt execOp
  simp only [ho, hx, Sem.run_bind, q, Result.andThen_ok, Sem.run_pure]
  exact ⟨rfl, rfl⟩
theorem reads_op {l : List Oper} {i : Nat} {o : Oper} {r : List (Nat × Bool)} {a : Act} {w : World} {Q : Exit → Act → World → Prop} (hn : Grow.nth l i = some o) (hgd : o.guard = none) (x : Operand) (ho : o.op = .load 27 x)
    (g : Nat) (hx : a.eval x = .pointer (some ⟨g, 0, none⟩)) (y : Opn) (hc : OpAt w g y) (h : Grow.Seq Tryd.prog l.toArray Q r (a.put o.dst (.agg (opc y))) w) : Grow.Seq Tryd.prog l.toArray Q ((i, true) :: r) a w :=
  Grow.reads hn (by unfold Grow.plain; rw [ho]) (wpQuiet_load_op hgd x ho g hx y (fun _ ⟨p, e⟩ => by rw [e]; exact hc.below (below_regrown w p.d p.os)) (wpQuiet_nil h))

/-- A block that holds one value. -/
def One (w : World) (g : Nat) (v : Value) : Prop := ∃ t, w.heap[g]? = some (.cells #[v] t (0, 0))
theorem One.block {w w' : World} {g B : Nat} {v : Value} (h : One w g v) (hb : Below B w w') (hg : g < B) : One w' g v := by
  obtain ⟨t, ht⟩ := h
  exact ⟨t, by rw [hb.block g hg, ht]⟩
theorem One.cell {w : World} {g : Nat} {v : Value} (h : One w g v) : w.cell? ⟨g, 0, none⟩ = some v := by
  obtain ⟨t, ht⟩ := h
  rw [cell_of_row w g 0 _ t (0, 0) ht]
  rfl
/-- Noughts. -/
def noOp : Opn := ⟨0, ⟨#[]⟩, ⟨#[]⟩, 0⟩
/-- A table of functions by kinds: one of Inc, one of the others. -/
def T4 (f g : Value) : Array MapEntry := #[⟨.int .i64 0, f, 0⟩, ⟨.int .i64 1, g, 1⟩, ⟨.int .i64 2, g, 2⟩, ⟨.int .i64 3, g, 3⟩]
def TabAt (w : World) (m : Nat) (f g : Value) : Prop := w.heap[m]? = some (.map (T4 f g) 4)
theorem TabAt.lt {w : World} {m : Nat} {f g : Value} (h : TabAt w m f g) : m < w.heap.size := (Array.getElem?_eq_some_iff.1 h).1
theorem TabAt.below {w w' : World} {m : Nat} {f g : Value} (h : TabAt w m f g) (hb : Below w.heap.size w w') : TabAt w' m f g := (hb.block m h.lt).trans h
theorem lawI : Keyed Tryd.prog 3 := int_keyed Tryd.underlying3
theorem wf_i64 {k : Int} (h : I64 k) : (Lit.int .i64 k).wf = true := by
  unfold I64 at h
  simp [Lit.wf, IntKind.min, IntKind.max, IntKind.bits, IntKind.signed]
  omega
theorem keyI {k : Int} (h : I64 k) : keyOf Tryd.prog 3 (.int .i64 k) = some (.int .i64 k) := keyOf_int_mk Tryd.underlying3 (wf_i64 h)
theorem find0 (w : World) (f g : Value) : (Instr.findKey 3 (.int .i64 0) (T4 f g).toList).run Tryd.prog w = .ok (some (0, f)) w := by
  simp [Instr.findKey, run_underlying Tryd.underlying3, Instr.findNow, Instr.sameNow, T4, Result.andThen]
theorem find1 (w : World) (f g : Value) {k : Int} (h : k = 1 ∨ k = 2 ∨ k = 3) : ∃ i, (Instr.findKey 3 (.int .i64 k) (T4 f g).toList).run Tryd.prog w = .ok (some (i, g)) w := by
  rcases h with rfl | rfl | rfl
  · exact ⟨1, by simp [Instr.findKey, run_underlying Tryd.underlying3, Instr.findNow, Instr.sameNow, T4, Result.andThen]⟩
  · exact ⟨2, by simp [Instr.findKey, run_underlying Tryd.underlying3, Instr.findNow, Instr.sameNow, T4, Result.andThen]⟩
  · exact ⟨3, by simp [Instr.findKey, run_underlying Tryd.underlying3, Instr.findNow, Instr.sameNow, T4, Result.andThen]⟩
theorem findN (w : World) (f g : Value) {k : Int} (h : k < 0 ∨ 3 < k) : (Instr.findKey 3 (.int .i64 k) (T4 f g).toList).run Tryd.prog w = .ok none w := by
  have h0 : (k == 0) = false := by simp; omega
  have h1 : (k == 1) = false := by simp; omega
  have h2 : (k == 2) = false := by simp; omega
  have h3 : (k == 3) = false := by simp; omega
  simp [Instr.findKey, run_underlying Tryd.underlying3, Instr.findNow, Instr.sameNow, T4, Result.andThen, h0, h1, h2, h3]
theorem OpAt.kind_in {w : World} {g : Nat} {o : Opn} (h : OpAt w g o) : ∀ d os, (grow (redrawn w d) os).cell? ⟨g, 0, none⟩ = some (.int .i64 o.kind) := fun d os => (h.below (below_regrown _ d os)).kind
theorem made (T : TypeId) (w : World) : (Instr.makeMap T none).run Tryd.prog w = .ok (.map (some w.heap.size)) (w.alloc (.map #[] 0)) := by
  simp [Instr.makeMap, go_sem]
section
variable {w : World} {m : Nat} {f g : Value} {T e : TypeId} (hT : Tryd.prog.underlying T = some (.map 3 e))
include hT
theorem look0 (c : Bool) (h : TabAt w m f g) : (Instr.lookup T (.map (some m)) (.int .i64 0) c).run Tryd.prog w = .ok (if c then .tuple #[f, .bool true] else f) w := by
  simp [Instr.lookup, run_underlying hT, MapKept.run_getObj_map h, lawI.check w _ (keyI (k := 0) (by unfold I64; omega)), find0, Result.andThen]
theorem look1 (c : Bool) {k : Int} (hk : k = 1 ∨ k = 2 ∨ k = 3) (h : TabAt w m f g) : (Instr.lookup T (.map (some m)) (.int .i64 k) c).run Tryd.prog w = .ok (if c then .tuple #[g, .bool true] else g) w := by
  obtain ⟨i, hi⟩ := find1 w f g hk
  simp [Instr.lookup, run_underlying hT, MapKept.run_getObj_map h, lawI.check w _ (keyI (k := k) (by unfold I64; omega)), hi, Result.andThen]
theorem lookN (c : Bool) {k : Int} (hI : I64 k) (hk : k < 0 ∨ 3 < k) {z : Value} (hz : (zeroValue e).run Tryd.prog w = .ok z w) (h : TabAt w m f g) : (Instr.lookup T (.map (some m)) (.int .i64 k) c).run Tryd.prog w = .ok (if c then .tuple #[z, .bool false] else z) w := by
  simp [Instr.lookup, run_underlying hT, MapKept.run_getObj_map h, lawI.check w _ (keyI hI), findN w f g hk, hz, Result.andThen]
theorem look0_in (c : Bool) (h : TabAt w m f g) : ∀ d os, (Instr.lookup T (.map (some m)) (.int .i64 0) c).run Tryd.prog (grow (redrawn w d) os) = .ok (if c then .tuple #[f, .bool true] else f) (grow (redrawn w d) os) := fun d os => look0 hT c (h.below (below_regrown _ d os))
theorem look1_in (c : Bool) {k : Int} (hk : k = 1 ∨ k = 2 ∨ k = 3) (h : TabAt w m f g) : ∀ d os, (Instr.lookup T (.map (some m)) (.int .i64 k) c).run Tryd.prog (grow (redrawn w d) os) = .ok (if c then .tuple #[g, .bool true] else g) (grow (redrawn w d) os) := fun d os => look1 hT c hk (h.below (below_regrown _ d os))
theorem lookN_in (c : Bool) {k : Int} (hI : I64 k) (hk : k < 0 ∨ 3 < k) {z : Value} (hz : ∀ u : World, (zeroValue e).run Tryd.prog u = .ok z u) (h : TabAt w m f g) : ∀ d os, (Instr.lookup T (.map (some m)) (.int .i64 k) c).run Tryd.prog (grow (redrawn w d) os) = .ok (if c then .tuple #[z, .bool false] else z) (grow (redrawn w d) os) := fun d os => lookN hT c hI hk (hz _) (h.below (below_regrown _ d os))
/-- An entry put into a map that was just made. -/
theorem wpList_entry {ops : Array Oper} {rest : List Oper} {o : Oper} {a : Act} {w : World} {Q : Exit → Act → World → Prop} (hgd : o.guard = none) (hd : o.dst = none) (x k v : Operand) (ho : o.op = .insert T x k v)
    (w0 : World) (es : Array MapEntry) (n : Nat) (hw : w = w0.alloc (.map es n)) (m : Nat) (hx : a.eval x = .map (some m)) (hm0 : m = w0.heap.size) (i : Int) (hI : I64 i) (hk : a.eval k = .int .i64 i) (hes : Instr.findNow (.int .i64) (.int .i64 i) es.toList 0 = some none) (y : Value) (hv : a.eval v = y)
    (h : wpList Tryd.prog ops Q rest a (w0.alloc (.map (es.push ⟨.int .i64 i, y, n⟩) (n + 1)))) : wpList Tryd.prog ops Q (o :: rest) a w := by
  subst hw
  subst hm0
  refine wpList_plain hgd fun K hK => ?_
  have hm : (w0.alloc (.map es n)).heap[w0.heap.size]? = some (.map es n) := heap_alloc_new w0 _
  have hs : setBlock (w0.alloc (.map es n)) w0.heap.size (.map (es.push ⟨.int .i64 i, y, n⟩) (n + 1)) = w0.alloc (.map (es.push ⟨.int .i64 i, y, n⟩) (n + 1)) := by
    have e : (w0.heap.push (.map es n)).setIfInBounds w0.heap.size (.map (es.push ⟨.int .i64 i, y, n⟩) (n + 1)) = w0.heap.push (.map (es.push ⟨.int .i64 i, y, n⟩) (n + 1)) := by
      apply Array.ext_getElem?
      intro j
      simp only [Array.getElem?_setIfInBounds, Array.getElem?_push, Array.size_push]
      by_cases hj : w0.heap.size = j
      · subst hj; simp
      · rw [if_neg hj, if_neg (fun e => hj e.symm), if_neg (fun e => hj e.symm)]
    show ({ w0 with heap := _ } : World) = { w0 with heap := _ }
    exact congrArg (fun h => ({ w0 with heap := h } : World)) e
  have hf : (Instr.findKey 3 (.int .i64 i) es.toList).run Tryd.prog (w0.alloc (.map es n)) = .ok none (w0.alloc (.map es n)) := by
    simp [Instr.findKey, run_underlying Tryd.underlying3, hes, Result.andThen]
  have hrun : (Instr.mapUpdate T (.map (some w0.heap.size)) (.int .i64 i) y).run Tryd.prog (w0.alloc (.map es n)) = .ok () (w0.alloc (.map (es.push ⟨.int .i64 i, y, n⟩) (n + 1))) := by
    rw [← hs]
    simp [Instr.mapUpdate, run_underlying hT, MapKept.run_getObj_map hm, lawI.check _ _ (keyI hI), hf, MapKept.run_setObj_map _ hm, Result.andThen, setBlock]
  unfold Oper.wp execOp
  simp only [ho, hx, hk, hv, Sem.run_bind, hrun, Result.andThen_ok, Sem.run_pure]
  refine hK _ _ ?_
  rw [hd]
  exact h
end
end Go.Proofs.YteojkfbnenfmkaaDoor.OpsW
