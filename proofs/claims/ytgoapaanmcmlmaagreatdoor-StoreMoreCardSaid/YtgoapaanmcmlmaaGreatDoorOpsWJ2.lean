/- Operations, and tables of functions by kinds, in memory: what a walk reads and makes. No condition. | What ops.mays and its functions, and ops.May, return: contracts. -/
import Derived.Test.YtgoapaanmcmlmaaGreatDoorOpsMJ4
import Derived.Test.YtgoapaanmcmlmaaGreatDoorEncGJ6
import Derived.Maps.OwnOps
import Derived.Deep.MidRow
import Derived.Deep.WholeRow
import Derived.Laws.Tables
import Derived.OpenShut
import Derived.Test.YtgoapaanmcmlmaaGreatDoorArrEqJ4
namespace Go.Proofs.YtgoapaanmcmlmaaGreatDoor.OpsW
set_option maxRecDepth 100000
open Go Go.Sort Go.RowKit Go.Maps Go.ChangeMaps Byt OpsM
def opc (o : Opn) : Array Value := #[.int .i64 o.kind, .string o.key, .string o.elem, .int .i64 o.n]
theorem opc_size (o : Opn) : (opc o).size = 4 := rfl
theorem info_op : (Tryz.prog.info? 27).map (·.size) = some 4 := by kernel_rfl
theorem info_opc (o : Opn) : (Tryz.prog.info? 27).map (·.size) = some (opc o).size := info_op
theorem info_opl (o : Opn) : (Tryz.prog.info? 27).map (·.size) = some (opc o).toList.length := info_op
def OpAt (w : World) (g : Nat) (o : Opn) : Prop := ∃ t, w.heap[g]? = some (.cells (opc o) t (0, 0))
theorem OpAt.lt {w : World} {g : Nat} {o : Opn} (h : OpAt w g o) : g < w.heap.size := by
 obtain ⟨t, ht⟩ := h
 exact (Array.getElem?_eq_some_iff.1 ht).1
theorem OpAt.block {w w' : World} {g B : Nat} {o : Opn} (h : OpAt w g o) (hb : Below B w w') (hg : g < B) : OpAt w' g o := by
 obtain ⟨t, ht⟩ := h
 exact ⟨t, by rw [hb.block g hg, ht]⟩
theorem OpAt.below {w w' : World} {g : Nat} {o : Opn} (h : OpAt w g o) (hb : Below w.heap.size w w') : OpAt w' g o := h.block hb h.lt
theorem OpAt.new (w : World) (o : Opn) (t : TypeId) : OpAt (w.alloc (.cells (opc o) t)) w.heap.size o := ⟨t, heap_alloc_new w _⟩
theorem OpAt.alloc {w : World} {g : Nat} {o : Opn} (h : OpAt w g o) (x : Obj) : OpAt (w.alloc x) g o := h.below ((Below.refl _ _).alloc (Nat.le_refl _) _)
theorem OpAt.range {w : World} {g : Nat} {o : Opn} (h : OpAt w g o) : w.rangeAt g 0 (opc o).toList := fun j v hv => by
 obtain ⟨t, ht⟩ := h
 rw [Nat.zero_add, cell_of_row w g j _ t (0, 0) ht]
 rw [Array.getElem?_toList] at hv
 exact hv
theorem OpAt.kind {w : World} {g : Nat} {o : Opn} (h : OpAt w g o) : w.cell? ⟨g, 0, none⟩ = some (.int .i64 o.kind) := h.range 0 _ rfl
theorem OpAt.key {w : World} {g : Nat} {o : Opn} (h : OpAt w g o) : w.cell? ⟨g, 1, none⟩ = some (.string o.key) := h.range 1 _ rfl
theorem OpAt.elem {w : World} {g : Nat} {o : Opn} (h : OpAt w g o) : w.cell? ⟨g, 2, none⟩ = some (.string o.elem) := h.range 2 _ rfl
theorem OpAt.n {w : World} {g : Nat} {o : Opn} (h : OpAt w g o) : w.cell? ⟨g, 3, none⟩ = some (.int .i64 o.n) := h.range 3 _ rfl
theorem OpAt.load {w : World} {g : Nat} {o : Opn} (h : OpAt w g o) : (Instr.loadAt 27 (.pointer (some ⟨g, 0, none⟩))).run Tryz.prog w = .ok (.agg (opc o)) w :=
 run_loadAt_mid w g 0 27 (opc o).toList _ h.range Tryz.underlying27 rfl (info_opl o)
theorem wpList_load_op {ops : Array Oper} {rest : List Oper} {o : Oper} {a : Act} {w : World} {Q : Exit → Act → World → Prop} (hgd : o.guard = none) (x : Operand) (ho : o.op = .load 27 x)
   (g : Nat) (hx : a.eval x = .pointer (some ⟨g, 0, none⟩)) (y : Opn) (hc : OpAt w g y) (h : wpList Tryz.prog ops Q rest (a.put o.dst (.agg (opc y))) w) : wpList Tryz.prog ops Q (o :: rest) a w :=
 wpList_load_mid hgd 27 x ho g 0 hx (opc y).toList _ hc.range Tryz.underlying27 rfl (info_opl y) h
theorem wpQuiet_load_op {ops : Array Oper} {C : World → Prop} {Q : Act → Prop} {a : Act} {o : Oper} {rest : List Oper} (hgd : o.guard = none) (x : Operand) (ho : o.op = .load 27 x)
   (g : Nat) (hx : a.eval x = .pointer (some ⟨g, 0, none⟩)) (y : Opn) (hc : ∀ w, C w → OpAt w g y) (h : wpQuiet Tryz.prog ops C Q rest (a.put o.dst (.agg (opc y)))) : wpQuiet Tryz.prog ops C Q (o :: rest) a := by
 refine BigFrame.wpQuiet_want (by simp [Region.wanted, hgd]) (fun K hK => ⟨.agg (opc y), fun w hw => ?_, hK _ h⟩)
 have q := (hc w hw).load
 unfold Oper.quietAt execOp
 simp only [ho, hx, Sem.run_bind, q, Result.andThen_ok, Sem.run_pure]
 exact ⟨rfl, rfl⟩
theorem reads_op {l : List Oper} {i : Nat} {o : Oper} {r : List (Nat × Bool)} {a : Act} {w : World} {Q : Exit → Act → World → Prop} (hn : Grow.nth l i = some o) (hgd : o.guard = none) (x : Operand) (ho : o.op = .load 27 x)
   (g : Nat) (hx : a.eval x = .pointer (some ⟨g, 0, none⟩)) (y : Opn) (hc : OpAt w g y) (h : Grow.Seq Tryz.prog l.toArray Q r (a.put o.dst (.agg (opc y))) w) : Grow.Seq Tryz.prog l.toArray Q ((i, true) :: r) a w :=
 Grow.reads hn (by unfold Grow.plain; rw [ho]) (wpQuiet_load_op hgd x ho g hx y (fun _ ⟨p, e⟩ => by rw [e]; exact hc.below (below_regrown w p.d p.os)) (wpQuiet_nil h))
theorem set_below {B g : Nat} (w : World) (hBg : B ≤ g) (cs : Array Value) : Below B w (w.setRow g cs) :=
 ⟨rfl, rfl, rfl, by simp [World.setRow], fun k hk => by simp only [World.setRow]; rw [Array.getElem?_modify, if_neg (by omega)]⟩
theorem set_other {g j : Nat} (w : World) (hj : j ≠ g) (cs : Array Value) : (w.setRow g cs).heap[j]? = w.heap[j]? := by
 simp only [World.setRow]
 rw [Array.getElem?_modify, if_neg (fun e => hj e.symm)]
theorem opc_one (o : Opn) : (opc o).all (·.oneCell') = true := by
 rw [Array.all_eq_true_iff_forall_mem]
 intro v hv
 simp only [opc, List.mem_toArray, List.mem_cons, List.not_mem_nil, or_false] at hv
 rcases hv with rfl | rfl | rfl | rfl <;> rfl
theorem wpList_store_op {ops : Array Oper} {rest : List Oper} {o : Oper} {a : Act} {w : World} {Q : Exit → Act → World → Prop} (hgd : o.guard = none) (hd : o.dst = none) (x y : Operand) (ho : o.op = .store 27 x y)
   (g : Nat) (hx : a.eval x = .pointer (some ⟨g, 0, none⟩)) (old : Opn) (hc : OpAt w g old) (z : Opn) (hy : a.eval y = .agg (opc z))
   (h : ∀ w', OpAt w' g z → (∀ B, B ≤ g → Below B w w') → w.grownBy w' (some g) → wpList Tryz.prog ops Q rest a w') : wpList Tryz.prog ops Q (o :: rest) a w := by
 obtain ⟨t, ht⟩ := hc
 refine wpList_store_row hgd 27 x y ho g (opc z) hx hy t (opc old) ht (info_opc z) rfl (opc_one z) ?_
 rw [hd]
 exact h _ ⟨t, setRow_heap w g _ _ t (0, 0) ht⟩ (fun B hB => set_below w hB _) ⟨rfl, rfl, rfl, by simp [World.setRow], fun j _ hj => set_other w (fun e => hj (by rw [e])) _⟩
def One (w : World) (g : Nat) (v : Value) : Prop := ∃ t, w.heap[g]? = some (.cells #[v] t (0, 0))
theorem One.lt {w : World} {g : Nat} {v : Value} (h : One w g v) : g < w.heap.size := by
 obtain ⟨t, ht⟩ := h
 exact (Array.getElem?_eq_some_iff.1 ht).1
theorem One.block {w w' : World} {g B : Nat} {v : Value} (h : One w g v) (hb : Below B w w') (hg : g < B) : One w' g v := by
 obtain ⟨t, ht⟩ := h
 exact ⟨t, by rw [hb.block g hg, ht]⟩
theorem One.below {w w' : World} {g : Nat} {v : Value} (h : One w g v) (hb : Below w.heap.size w w') : One w' g v := h.block hb h.lt
theorem One.new (w : World) (v : Value) (t : TypeId) : One (w.alloc (.cells #[v] t)) w.heap.size v := ⟨t, heap_alloc_new w _⟩
theorem One.cell {w : World} {g : Nat} {v : Value} (h : One w g v) : w.cell? ⟨g, 0, none⟩ = some v := by
 obtain ⟨t, ht⟩ := h
 rw [cell_of_row w g 0 _ t (0, 0) ht]
 rfl
theorem below_alloc (w : World) (o : Obj) : Below w.heap.size w (w.alloc o) := (Below.refl _ _).alloc (Nat.le_refl _) _
theorem OpAt.kept {w w' : World} {g r : Nat} {o : Opn} (h : OpAt w g o) (hg : w.grownBy w' (some r)) (hne : g ≠ r) : OpAt w' g o := by
 obtain ⟨t, ht⟩ := h
 exact ⟨t, by rw [hg.block g (Array.getElem?_eq_some_iff.1 ht).1 (by simpa using hne), ht]⟩
theorem owns_kept {w w' : World} {base r n size : Nat} {e : TypeId} {v : Value} {xs : List Value} (h : w.ownsRow base e size v n xs) (hg : w.grownBy w' (some r)) (hr : r < base) : w'.ownsRow base e size v n xs :=
 h.kept hg (by
   cases hv : v.ownBlock with
   | none => exact .inl rfl
   | some k => exact .inr (fun e => by have := (h.lt k hv).1; injection e with e; omega))
theorem opc_u8 (o : Opn) (n : Int) : ∀ j : Nat, (opc o)[j]? ≠ some (.int .u8 n)
 | 0 => by simp [opc]
 | 1 => by simp [opc]
 | 2 => by simp [opc]
 | 3 => by simp [opc]
 | j + 4 => by simp [opc]
theorem Sl.kept {w w' : World} {A : Option Addr} {cap r : Nat} {l : List Int} {o : Opn} (h : Sl w A cap l) (hO : OpAt w r o) (hg : w.grownBy w' (some r)) : Sl w' A cap l := by
 obtain ⟨h1, h2, h4, h5⟩ := h
 obtain ⟨t, ht⟩ := hO
 refine ⟨h1, h2, h4, ?_⟩
 rcases h5 with h5 | ⟨x, rfl, hc⟩
 · exact .inl h5
 · refine .inr ⟨x, rfl, fun i hi => ?_⟩
   have hcell := hc i hi
   by_cases hb : (x.add i).block = r
   · exfalso
     unfold World.cell? at hcell
     rw [hb, ht] at hcell
     simp only at hcell
     split at hcell
     · cases hcell
     · exact opc_u8 o _ _ hcell
   · rw [World.cell?_of_block (hg.block _ (block_lt_of_cell hcell) (by simpa using hb))]
     exact hcell
def noOp : Opn := ⟨0, ⟨#[]⟩, ⟨#[]⟩, 0⟩
def T4 (f g : Value) : Array MapEntry := #[⟨.int .i64 0, f, 0⟩, ⟨.int .i64 1, g, 1⟩, ⟨.int .i64 2, g, 2⟩, ⟨.int .i64 3, g, 3⟩]
def TabAt (w : World) (m : Nat) (f g : Value) : Prop := w.heap[m]? = some (.map (T4 f g) 4)
theorem TabAt.lt {w : World} {m : Nat} {f g : Value} (h : TabAt w m f g) : m < w.heap.size := (Array.getElem?_eq_some_iff.1 h).1
theorem TabAt.below {w w' : World} {m : Nat} {f g : Value} (h : TabAt w m f g) (hb : Below w.heap.size w w') : TabAt w' m f g := (hb.block m h.lt).trans h
theorem lawI : Keyed Tryz.prog 3 := int_keyed Tryz.underlying3
theorem wf_i64 {k : Int} (h : I64 k) : (Lit.int .i64 k).wf = true := by
 unfold I64 at h
 simp [Lit.wf, IntKind.min, IntKind.max, IntKind.bits, IntKind.signed]
 omega
theorem keyI {k : Int} (h : I64 k) : keyOf Tryz.prog 3 (.int .i64 k) = some (.int .i64 k) := keyOf_int_mk Tryz.underlying3 (wf_i64 h)
theorem find0 (w : World) (f g : Value) : (Instr.findKey 3 (.int .i64 0) (T4 f g).toList).run Tryz.prog w = .ok (some (0, f)) w := by
 simp [Instr.findKey, run_underlying Tryz.underlying3, Instr.findNow, Instr.sameNow, T4, Result.andThen]
theorem find1 (w : World) (f g : Value) {k : Int} (h : k = 1 ∨ k = 2 ∨ k = 3) : ∃ i, (Instr.findKey 3 (.int .i64 k) (T4 f g).toList).run Tryz.prog w = .ok (some (i, g)) w := by
 rcases h with rfl | rfl | rfl
 · exact ⟨1, by simp [Instr.findKey, run_underlying Tryz.underlying3, Instr.findNow, Instr.sameNow, T4, Result.andThen]⟩
 · exact ⟨2, by simp [Instr.findKey, run_underlying Tryz.underlying3, Instr.findNow, Instr.sameNow, T4, Result.andThen]⟩
 · exact ⟨3, by simp [Instr.findKey, run_underlying Tryz.underlying3, Instr.findNow, Instr.sameNow, T4, Result.andThen]⟩
theorem findN (w : World) (f g : Value) {k : Int} (h : k < 0 ∨ 3 < k) : (Instr.findKey 3 (.int .i64 k) (T4 f g).toList).run Tryz.prog w = .ok none w := by
 have h0 : (k == 0) = false := by simp; omega
 have h1 : (k == 1) = false := by simp; omega
 have h2 : (k == 2) = false := by simp; omega
 have h3 : (k == 3) = false := by simp; omega
 simp [Instr.findKey, run_underlying Tryz.underlying3, Instr.findNow, Instr.sameNow, T4, Result.andThen, h0, h1, h2, h3]
theorem OpAt.kind_in {w : World} {g : Nat} {o : Opn} (h : OpAt w g o) : ∀ d os, (grow (redrawn w d) os).cell? ⟨g, 0, none⟩ = some (.int .i64 o.kind) := fun d os => (h.below (below_regrown _ d os)).kind
theorem made (T : TypeId) (w : World) : (Instr.makeMap T none).run Tryz.prog w = .ok (.map (some w.heap.size)) (w.alloc (.map #[] 0)) := by
 simp [Instr.makeMap, go_sem]
section
variable {w : World} {m : Nat} {f g : Value} {T e : TypeId} (hT : Tryz.prog.underlying T = some (.map 3 e))
include hT
theorem look0 (c : Bool) (h : TabAt w m f g) : (Instr.lookup T (.map (some m)) (.int .i64 0) c).run Tryz.prog w = .ok (if c then .tuple #[f, .bool true] else f) w := by
 simp [Instr.lookup, run_underlying hT, MapKept.run_getObj_map h, lawI.check w _ (keyI (k := 0) (by unfold I64; omega)), find0, Result.andThen]
theorem look1 (c : Bool) {k : Int} (hk : k = 1 ∨ k = 2 ∨ k = 3) (h : TabAt w m f g) : (Instr.lookup T (.map (some m)) (.int .i64 k) c).run Tryz.prog w = .ok (if c then .tuple #[g, .bool true] else g) w := by
 obtain ⟨i, hi⟩ := find1 w f g hk
 simp [Instr.lookup, run_underlying hT, MapKept.run_getObj_map h, lawI.check w _ (keyI (k := k) (by unfold I64; omega)), hi, Result.andThen]
theorem lookN (c : Bool) {k : Int} (hI : I64 k) (hk : k < 0 ∨ 3 < k) {z : Value} (hz : (zeroValue e).run Tryz.prog w = .ok z w) (h : TabAt w m f g) : (Instr.lookup T (.map (some m)) (.int .i64 k) c).run Tryz.prog w = .ok (if c then .tuple #[z, .bool false] else z) w := by
 simp [Instr.lookup, run_underlying hT, MapKept.run_getObj_map h, lawI.check w _ (keyI hI), findN w f g hk, hz, Result.andThen]
theorem look0_in (c : Bool) (h : TabAt w m f g) : ∀ d os, (Instr.lookup T (.map (some m)) (.int .i64 0) c).run Tryz.prog (grow (redrawn w d) os) = .ok (if c then .tuple #[f, .bool true] else f) (grow (redrawn w d) os) := fun d os => look0 hT c (h.below (below_regrown _ d os))
theorem look1_in (c : Bool) {k : Int} (hk : k = 1 ∨ k = 2 ∨ k = 3) (h : TabAt w m f g) : ∀ d os, (Instr.lookup T (.map (some m)) (.int .i64 k) c).run Tryz.prog (grow (redrawn w d) os) = .ok (if c then .tuple #[g, .bool true] else g) (grow (redrawn w d) os) := fun d os => look1 hT c hk (h.below (below_regrown _ d os))
theorem lookN_in (c : Bool) {k : Int} (hI : I64 k) (hk : k < 0 ∨ 3 < k) {z : Value} (hz : ∀ u : World, (zeroValue e).run Tryz.prog u = .ok z u) (h : TabAt w m f g) : ∀ d os, (Instr.lookup T (.map (some m)) (.int .i64 k) c).run Tryz.prog (grow (redrawn w d) os) = .ok (if c then .tuple #[z, .bool false] else z) (grow (redrawn w d) os) := fun d os => lookN hT c hI hk (hz _) (h.below (below_regrown _ d os))
theorem wpList_entry {ops : Array Oper} {rest : List Oper} {o : Oper} {a : Act} {w : World} {Q : Exit → Act → World → Prop} (hgd : o.guard = none) (hd : o.dst = none) (x k v : Operand) (ho : o.op = .insert T x k v)
   (w0 : World) (es : Array MapEntry) (n : Nat) (hw : w = w0.alloc (.map es n)) (m : Nat) (hx : a.eval x = .map (some m)) (hm0 : m = w0.heap.size) (i : Int) (hI : I64 i) (hk : a.eval k = .int .i64 i) (hes : Instr.findNow (.int .i64) (.int .i64 i) es.toList 0 = some none) (y : Value) (hv : a.eval v = y)
   (h : wpList Tryz.prog ops Q rest a (w0.alloc (.map (es.push ⟨.int .i64 i, y, n⟩) (n + 1)))) : wpList Tryz.prog ops Q (o :: rest) a w := by
 subst hw
 subst hm0
 refine wpList_plain hgd fun K hK => ?_
 have hm : (w0.alloc (.map es n)).heap[w0.heap.size]? = some (.map es n) := heap_alloc_new w0 _
 have hs : setBlock (w0.alloc (.map es n)) w0.heap.size (.map (es.push ⟨.int .i64 i, y, n⟩) (n + 1)) = w0.alloc (.map (es.push ⟨.int .i64 i, y, n⟩) (n + 1)) := by
   have e : (w0.heap.push (.map es n)).setIfInBounds w0.heap.size (.map (es.push ⟨.int .i64 i, y, n⟩) (n + 1)) = w0.heap.push (.map (es.push ⟨.int .i64 i, y, n⟩) (n + 1)) := by
     apply Array.ext_getElem?
     intro j
     simp only [Array.getElem?_setIfInBounds, Array.getElem?_push, Array.size_push]
     by_cases hj : w0.heap.size = j
     · subst hj; simp
     · rw [if_neg hj, if_neg (fun e => hj e.symm), if_neg (fun e => hj e.symm)]
   show ({ w0 with heap := _ } : World) = { w0 with heap := _ }
   exact congrArg (fun h => ({ w0 with heap := h } : World)) e
 have hf : (Instr.findKey 3 (.int .i64 i) es.toList).run Tryz.prog (w0.alloc (.map es n)) = .ok none (w0.alloc (.map es n)) := by
   simp [Instr.findKey, run_underlying Tryz.underlying3, hes, Result.andThen]
 have hrun : (Instr.mapUpdate T (.map (some w0.heap.size)) (.int .i64 i) y).run Tryz.prog (w0.alloc (.map es n)) = .ok () (w0.alloc (.map (es.push ⟨.int .i64 i, y, n⟩) (n + 1))) := by
   rw [← hs]
   simp [Instr.mapUpdate, run_underlying hT, MapKept.run_getObj_map hm, lawI.check _ _ (keyI hI), hf, MapKept.run_setObj_map _ hm, Result.andThen, setBlock]
 unfold Oper.wp execOp
 simp only [ho, hx, hk, hv, Sem.run_bind, hrun, Result.andThen_ok, Sem.run_pure]
 refine hK _ _ ?_
 rw [hd]
 exact h
end
end Go.Proofs.YtgoapaanmcmlmaaGreatDoor.OpsW
namespace Go.Proofs.YtgoapaanmcmlmaaGreatDoor.OpsC
set_option maxRecDepth 100000
open Go Go.RowKit Go.Sort Byt OpsM OpsK OpsW
theorem empty_yes {s : ByteArray} (h : bytesL s = []) : s.toList = [] := by
 rw [empty_of h, ByteArray.toList_eq]
theorem empty_no {s : ByteArray} (h : bytesL s ≠ []) : ¬ s.toList = [] := by
 intro e
 apply h
 rw [ByteArray.toList_eq] at e
 unfold bytesL
 rw [e]
 rfl
theorem stepB_no {n : Int} {e : ByteArray} (h : ¬ (-1048576 ≤ n ∧ n ≤ 1048576 ∧ n ≠ 0 ∧ bytesL e = [])) : stepB n e = false := by
 rw [← stepB_iff] at h
 simpa using h
theorem elemB_no {n : Int} {e : ByteArray} (h : ¬ (keyL (bytesL e) = true ∧ n = 0)) : elemB n e = false := by
 rw [← elemB_iff] at h
 simpa using h
set_option maxHeartbeats 1000000 in
theorem mays1 (g : Nat) (o : Opn) (w : World) (h : OpAt w g o) (hn : I64 o.n) :
   Calls Tryz.prog 142 #[.pointer (some ⟨g, 0, none⟩)] w fun e w' => e = .returned (.bool (stepB o.n o.elem)) ∧ w = w' := by
 have c2 := h.elem
 have c3 := h.n
 obtain ⟨n, hn'⟩ : ∃ n, o.n = n := ⟨_, rfl⟩
 obtain ⟨s, hs'⟩ : ∃ s, o.elem = s := ⟨_, rfl⟩
 rw [hn'] at c3 hn ⊢
 rw [hs'] at c2 ⊢
 unfold I64 at hn
 obtain ⟨n1, n2⟩ := hn
 clear hn' hs' h
 by_cases ha : n < -1048576
 · have HR := aside (stepB_no (n := n) (e := s) (by omega))
   go_enter Tryz.func142, Tryz.ntmps142
   go_wp2
   go_ret
   exact ⟨ret_bool HR.out.symm, rfl⟩
 · by_cases hb : 1048576 < n
   · have HR := aside (stepB_no (n := n) (e := s) (by omega))
     go_enter Tryz.func142, Tryz.ntmps142
     go_wp2
     go_ret
     exact ⟨ret_bool HR.out.symm, rfl⟩
   · by_cases h0 : n = 0
     · subst h0
       have HR := aside (stepB_no (n := 0) (e := s) (by omega))
       go_enter Tryz.func142, Tryz.ntmps142
       go_wp2
       go_ret
       exact ⟨ret_bool HR.out.symm, rfl⟩
     · by_cases he : bytesL s = []
       · have HR := aside (stepB_iff (n := n) (e := s) |>.2 ⟨by omega, by omega, h0, he⟩)
         have e1 := empty_yes he
         have e3 : s.toList.isEmpty = true := by rw [e1]; rfl
         have t0 : (n != 0) = true := by simpa using h0
         clear he h0
         go_enter Tryz.func142, Tryz.ntmps142
         go_wp2
         go_ret
         exact ⟨ret_bool HR.out.symm, rfl⟩
       · have HR := aside (stepB_no (n := n) (e := s) (fun q => he q.2.2.2))
         have e1 := empty_no he
         have e3 : s.toList.isEmpty = false := by simpa using e1
         have t0 : (n != 0) = true := by simpa using h0
         clear he h0
         go_enter Tryz.func142, Tryz.ntmps142
         go_wp2
         go_ret
         exact ⟨ret_bool HR.out.symm, rfl⟩
set_option maxHeartbeats 1000000 in
theorem mays2 (g : Nat) (o : Opn) (w : World) (h : OpAt w g o) (hs : o.elem.size ≤ maxLen) :
   Calls Tryz.prog 143 #[.pointer (some ⟨g, 0, none⟩)] w fun e w' => e = .returned (.bool (elemB o.n o.elem)) ∧ w = w' := by
 have c2 := h.elem
 have c3 := h.n
 obtain ⟨n, hn'⟩ : ∃ n, o.n = n := ⟨_, rfl⟩
 obtain ⟨s, hs'⟩ : ∃ s, o.elem = s := ⟨_, rfl⟩
 rw [hn'] at c3 ⊢
 rw [hs'] at c2 hs ⊢
 have hk := key s hs
 clear hn' hs' h
 cases hb : keyL (bytesL s) with
 | false =>
   have HR := aside (elemB_no (n := n) (e := s) (by rw [hb]; simp))
   rw [hb] at hk
   clear hb
   go_enter Tryz.func143, Tryz.ntmps143
   go_wp2_with (refine (hk _).mono ?_; rintro e w' ⟨rfl, rfl⟩)
   go_ret
   exact ⟨ret_bool HR.out.symm, rfl⟩
 | true =>
   rw [hb] at hk
   by_cases h0 : n = 0
   · have HR := aside (elemB_iff (n := n) (e := s) |>.2 ⟨hb, h0⟩)
     have t0 : (n == 0) = true := by simpa using h0
     clear hb h0
     go_enter Tryz.func143, Tryz.ntmps143
     go_wp2_with (refine (hk _).mono ?_; rintro e w' ⟨rfl, rfl⟩)
     go_ret
     exact ⟨ret_bool HR.out.symm, rfl⟩
   · have HR := aside (elemB_no (n := n) (e := s) (fun q => h0 q.2))
     have t0 : (n == 0) = false := by simpa using h0
     clear hb h0
     go_enter Tryz.func143, Tryz.ntmps143
     go_wp2_with (refine (hk _).mono ?_; rintro e w' ⟨rfl, rfl⟩)
     go_ret
     exact ⟨ret_bool HR.out.symm, rfl⟩
theorem tab_new (w : World) (f g : Value) : TabAt (w.alloc (.map (((((#[] : Array MapEntry).push ⟨.int .i64 0, f, 0⟩).push ⟨.int .i64 1, g, 1⟩).push ⟨.int .i64 2, g, 2⟩).push ⟨.int .i64 3, g, 3⟩) 4)) w.heap.size f g := heap_alloc_new w _
def Tab (F G : Nat) (o : Opn) (w : World) (e : Ending) (w' : World) : Prop :=
 ∃ b m, e = .returned (.map (some m)) ∧ OpAt w' b o ∧ TabAt w' m (.func (.func F) #[] #[.pointer (some ⟨b, 0, none⟩)]) (.func (.func G) #[] #[.pointer (some ⟨b, 0, none⟩)]) ∧ Below w.heap.size w w'
set_option maxHeartbeats 1000000 in
theorem mays (o : Opn) (w : World) :
   Calls Tryz.prog 108 #[.agg (opc o)] w (Tab 142 143 o w) := by
 have O1 := OpAt.new w o 27
 have hmm := made 144
 go_enter Tryz.func108, Tryz.ntmps108
 go_wp2_with (refine wpList_entry Tryz.underlying144 rfl rfl _ _ _ rfl _ _ _ rfl _ rfl (by simp) _ (by unfold I64; omega) rfl rfl _ rfl ?_)
 go_ret
 have hz : (w.alloc (.cells (opc o) 27)).heap.size = w.heap.size + 1 := by simp
 have ht := tab_new (w.alloc (.cells (opc o) 27)) (.func (.func 142) #[] #[.pointer (some ⟨w.heap.size, 0, none⟩)]) (.func (.func 143) #[] #[.pointer (some ⟨w.heap.size, 0, none⟩)])
 rw [hz] at ht
 exact ⟨w.heap.size, w.heap.size + 1, rfl, O1.alloc _, ht, ((Below.refl _ _).alloc (Nat.le_refl _) _).alloc (by simp) _⟩
theorem zero_may (w : World) : (zeroValue 30).run Tryz.prog w = .ok .nilFunc w := by kernel_rfl
theorem mayO_key {o : Opn} (h : keyL (bytesL o.key) = false) : mayO o = false := by unfold mayO; rw [h]; rfl
theorem mayO_rest {o : Opn} (h : keyL (bytesL o.key) = true) : mayO o = restB o := by unfold mayO; rw [h]; rfl
theorem restB0 {o : Opn} (h : o.kind = 0) : restB o = stepB o.n o.elem := by unfold restB; rw [if_pos h]
theorem restB1 {o : Opn} (h : o.kind = 1 ∨ o.kind = 2 ∨ o.kind = 3) : restB o = elemB o.n o.elem := by unfold restB; rw [if_neg (by omega), if_pos h]
theorem restBN {o : Opn} (h : o.kind < 0 ∨ 3 < o.kind) : restB o = false := by unfold restB; rw [if_neg (by omega), if_neg (by omega)]
structure Fit (o : Opn) : Prop where
 kind : I64 o.kind
 n : I64 o.n
 key : o.key.size ≤ maxLen
 elem : o.elem.size ≤ maxLen
set_option maxRecDepth 100000 in
set_option maxHeartbeats 4000000 in
theorem may0 (o : Opn) (w : World) (hf : Fit o) (hk : o.kind = 0) (b : Bool) (hb : keyL (bytesL o.key) = b) :
   Calls Tryz.prog 82 #[.agg (opc o)] w fun e w' => e = .returned (.bool (mayO o)) ∧ Below w.heap.size w w' := by
 have O1 := OpAt.new w o 27
 have ck := key o.key hf.key
 rw [hb] at ck
 have cf := fun g W h => mays1 g o W h hf.n
 obtain ⟨r, hr⟩ : ∃ r, mayO o = r := ⟨_, rfl⟩
 rw [hr]
 have HR := aside hr
 have HB := aside hb
 have HK := aside hk
 clear hr hb hk
 go_enter Tryz.func82, Tryz.ntmps82
 go_wp2_with fail
 refine Grow.region [(0, true), (2, true), (3, true), (1, false), (4, true), (5, true), (6, true), (7, true), (8, true), (9, true)] (by kernel_rfl) (by kernel_rfl) rfl (by kernel_rfl) (by intro c a d v w h; cases d <;> exact h) ?_
 have kd : Below w.heap.size w (w.alloc (.cells (opc o) 27)).drew := below_drew1 ((Below.refl _ _).alloc (Nat.le_refl _) _)
 have O2 : OpAt (w.alloc (.cells (opc o) 27)).drew w.heap.size o := O1
 obtain ⟨W1, hW1⟩ : ∃ W, (w.alloc (.cells (opc o) 27)).drew = W := ⟨_, rfl⟩
 rw [hW1] at kd O2 ⊢
 clear hW1 O1
 have q0 := O2.kind_in
 repeat (first | (refine reads_op rfl rfl _ rfl _ rfl o O2 ?_; simp only [Act.put, List.setIfInBounds_toArray, List.set_cons_succ, List.set_cons_zero]) | (refine Grow.reads rfl rfl ?_; go_big_quiet_step (fail); refine wpQuiet_nil ?_))
 clear q0
 refine Grow.acts rfl ?_
 go_wp2_with fail
 refine (mays o W1).mono ?_
 rintro e w2 ⟨g, m, rfl, Og, Tm, h2⟩
 have O3 := O2.below h2
 have k2 := kd.trans (h2.mono kd.size)
 clear kd O2
 go_wp2_with fail
 refine ⟨h2, ?_⟩
 clear h2
 have hl := look0_in Tryz.underlying144 true Tm
 rw [← HK.out] at hl
 repeat (refine Grow.reads rfl rfl ?_; go_big_quiet_step (fail); refine wpQuiet_nil ?_)
 clear hl
 refine Grow.ends ?_
 have c1 := O3.key
 cases b with
 | false =>
   go_wp2_with fail
   refine (ck _).mono ?_
   rintro e w3 ⟨rfl, rfl⟩
   clear ck
   go_wp2_with fail
   go_ret
   exact ⟨ret_bool (HR.out.symm.trans (mayO_key HB.out)).symm, k2⟩
 | true =>
   go_wp2_with fail
   refine (ck _).mono ?_
   rintro e w3 ⟨rfl, rfl⟩
   clear ck
   go_wp2_with fail
   refine (cf _ _ Og).mono ?_
   rintro e w3 ⟨rfl, rfl⟩
   clear cf
   go_wp2_with fail
   go_ret
   exact ⟨ret_bool (HR.out.symm.trans ((mayO_rest HB.out).trans (restB0 HK.out))).symm, k2⟩
set_option maxRecDepth 100000 in
set_option maxHeartbeats 4000000 in
theorem may1 (o : Opn) (w : World) (hf : Fit o) (hk : o.kind = 1 ∨ o.kind = 2 ∨ o.kind = 3) (b : Bool) (hb : keyL (bytesL o.key) = b) :
   Calls Tryz.prog 82 #[.agg (opc o)] w fun e w' => e = .returned (.bool (mayO o)) ∧ Below w.heap.size w w' := by
 have O1 := OpAt.new w o 27
 have ck := key o.key hf.key
 rw [hb] at ck
 have cf := fun g W h => mays2 g o W h hf.elem
 obtain ⟨r, hr⟩ : ∃ r, mayO o = r := ⟨_, rfl⟩
 rw [hr]
 have HR := aside hr
 have HB := aside hb
 have HK := aside hk
 clear hr hb hk
 go_enter Tryz.func82, Tryz.ntmps82
 go_wp2_with fail
 refine Grow.region [(0, true), (2, true), (3, true), (1, false), (4, true), (5, true), (6, true), (7, true), (8, true), (9, true)] (by kernel_rfl) (by kernel_rfl) rfl (by kernel_rfl) (by intro c a d v w h; cases d <;> exact h) ?_
 have kd : Below w.heap.size w (w.alloc (.cells (opc o) 27)).drew := below_drew1 ((Below.refl _ _).alloc (Nat.le_refl _) _)
 have O2 : OpAt (w.alloc (.cells (opc o) 27)).drew w.heap.size o := O1
 obtain ⟨W1, hW1⟩ : ∃ W, (w.alloc (.cells (opc o) 27)).drew = W := ⟨_, rfl⟩
 rw [hW1] at kd O2 ⊢
 clear hW1 O1
 have q0 := O2.kind_in
 repeat (first | (refine reads_op rfl rfl _ rfl _ rfl o O2 ?_; simp only [Act.put, List.setIfInBounds_toArray, List.set_cons_succ, List.set_cons_zero]) | (refine Grow.reads rfl rfl ?_; go_big_quiet_step (fail); refine wpQuiet_nil ?_))
 clear q0
 refine Grow.acts rfl ?_
 go_wp2_with fail
 refine (mays o W1).mono ?_
 rintro e w2 ⟨g, m, rfl, Og, Tm, h2⟩
 have O3 := O2.below h2
 have k2 := kd.trans (h2.mono kd.size)
 clear kd O2
 go_wp2_with fail
 refine ⟨h2, ?_⟩
 clear h2
 have hl := look1_in Tryz.underlying144 true HK.out Tm
 repeat (refine Grow.reads rfl rfl ?_; go_big_quiet_step (fail); refine wpQuiet_nil ?_)
 clear hl
 refine Grow.ends ?_
 have c1 := O3.key
 cases b with
 | false =>
   go_wp2_with fail
   refine (ck _).mono ?_
   rintro e w3 ⟨rfl, rfl⟩
   clear ck
   go_wp2_with fail
   go_ret
   exact ⟨ret_bool (HR.out.symm.trans (mayO_key HB.out)).symm, k2⟩
 | true =>
   go_wp2_with fail
   refine (ck _).mono ?_
   rintro e w3 ⟨rfl, rfl⟩
   clear ck
   go_wp2_with fail
   refine (cf _ _ Og).mono ?_
   rintro e w3 ⟨rfl, rfl⟩
   clear cf
   go_wp2_with fail
   go_ret
   exact ⟨ret_bool (HR.out.symm.trans ((mayO_rest HB.out).trans (restB1 HK.out))).symm, k2⟩
set_option maxRecDepth 100000 in
set_option maxHeartbeats 4000000 in
theorem mayN (o : Opn) (w : World) (hf : Fit o) (hk : o.kind < 0 ∨ 3 < o.kind) (b : Bool) (hb : keyL (bytesL o.key) = b) :
   Calls Tryz.prog 82 #[.agg (opc o)] w fun e w' => e = .returned (.bool (mayO o)) ∧ Below w.heap.size w w' := by
 have O1 := OpAt.new w o 27
 have ck := key o.key hf.key
 rw [hb] at ck
 obtain ⟨r, hr⟩ : ∃ r, mayO o = r := ⟨_, rfl⟩
 rw [hr]
 have HR := aside hr
 have HB := aside hb
 have HK := aside hk
 clear hr hb hk
 go_enter Tryz.func82, Tryz.ntmps82
 go_wp2_with fail
 refine Grow.region [(0, true), (2, true), (3, true), (1, false), (4, true), (5, true), (6, true), (7, true), (8, true), (9, true)] (by kernel_rfl) (by kernel_rfl) rfl (by kernel_rfl) (by intro c a d v w h; cases d <;> exact h) ?_
 have kd : Below w.heap.size w (w.alloc (.cells (opc o) 27)).drew := below_drew1 ((Below.refl _ _).alloc (Nat.le_refl _) _)
 have O2 : OpAt (w.alloc (.cells (opc o) 27)).drew w.heap.size o := O1
 obtain ⟨W1, hW1⟩ : ∃ W, (w.alloc (.cells (opc o) 27)).drew = W := ⟨_, rfl⟩
 rw [hW1] at kd O2 ⊢
 clear hW1 O1
 have q0 := O2.kind_in
 repeat (first | (refine reads_op rfl rfl _ rfl _ rfl o O2 ?_; simp only [Act.put, List.setIfInBounds_toArray, List.set_cons_succ, List.set_cons_zero]) | (refine Grow.reads rfl rfl ?_; go_big_quiet_step (fail); refine wpQuiet_nil ?_))
 clear q0
 refine Grow.acts rfl ?_
 go_wp2_with fail
 refine (mays o W1).mono ?_
 rintro e w2 ⟨g, m, rfl, Og, Tm, h2⟩
 have O3 := O2.below h2
 have k2 := kd.trans (h2.mono kd.size)
 clear kd O2
 go_wp2_with fail
 refine ⟨h2, ?_⟩
 clear h2
 have hl := lookN_in Tryz.underlying144 true hf.kind HK.out zero_may Tm
 repeat (refine Grow.reads rfl rfl ?_; go_big_quiet_step (fail); refine wpQuiet_nil ?_)
 clear hl
 refine Grow.ends ?_
 have c1 := O3.key
 clear ck
 go_wp2_with fail
 go_ret
 refine ⟨ret_bool (HR.out.symm.trans ?_).symm, k2⟩
 cases b with
 | false => exact mayO_key HB.out
 | true => rw [mayO_rest HB.out, restBN HK.out]
theorem may (o : Opn) (w : World) (hf : Fit o) :
   Calls Tryz.prog 82 #[.agg (opc o)] w fun e w' => e = .returned (.bool (mayO o)) ∧ Below w.heap.size w w' := by
 by_cases h0 : o.kind = 0
 · exact may0 o w hf h0 _ rfl
 · by_cases h1 : o.kind = 1 ∨ o.kind = 2 ∨ o.kind = 3
   · exact may1 o w hf h1 _ rfl
   · exact mayN o w hf (by omega) _ rfl
end Go.Proofs.YtgoapaanmcmlmaaGreatDoor.OpsC
