/- What rot.Long, rot.Word, and the document's answers to these, return: contracts. | The contracts of rot.Right, rot.Pick and rot.Most once more, at numbers that are given otherwise than as words. | The contracts of Four and Long once more, with the bytes named. | Small facts on worlds that every walk uses: what lies below a block stays so through draws; a block known whole, and what a store makes of it. -/
import Derived.Test.YteojkfbnenfmkaaDoorRotMJ4
import Derived.Deep.QuietTactic
import Derived.BigQuiet
import Derived.StillTailTactics
import Derived.Laws.Tables
import Derived.Deep.WholeRow
import Derived.Laws.MakeOwn
namespace Go.Proofs.YteojkfbnenfmkaaDoor.RotD
set_option maxRecDepth 100000
open Go.RowKit RotM RotC

theorem two_u {a b : Int} {c : Bool} (h : a = b) : Ending.returned (.tuple #[.int .u32 a, .bool c]) = .returned (.tuple #[.int .u32 b, .bool c]) := by rw [h]
theorem agg8 {b0 b1 b2 b3 b4 b5 b6 b7 c0 c1 c2 c3 c4 c5 c6 c7 : Int} (h0 : b0 = c0) (h1 : b1 = c1) (h2 : b2 = c2) (h3 : b3 = c3) (h4 : b4 = c4) (h5 : b5 = c5) (h6 : b6 = c6) (h7 : b7 = c7) :
    Ending.returned (.agg #[.int .u8 b0, .int .u8 b1, .int .u8 b2, .int .u8 b3, .int .u8 b4, .int .u8 b5, .int .u8 b6, .int .u8 b7]) = .returned (.agg #[.int .u8 c0, .int .u8 c1, .int .u8 c2, .int .u8 c3, .int .u8 c4, .int .u8 c5, .int .u8 c6, .int .u8 c7]) := by
  subst h0 h1 h2 h3 h4 h5 h6 h7; rfl
set_option maxHeartbeats 1000000 in
theorem long (a : Int) (ha : 0 ≤ a ∧ a ≤ 18446744073709551615) (w : World) :
    Calls Tryd.prog 68 #[.int .u64 a] w fun e w' => e = .returned (.agg (longV a)) ∧ Below w.heap.size w w' := by
  go_enter Tryd.func68, Tryd.ntmps68
  go_wp2
  go_returns
  refine ⟨agg8 ?_ ?_ ?_ ?_ ?_ ?_ ?_ ?_, ?_⟩
  all_goals first | omega | go_grown
/-- No word: a place below 0, or fewer than four bytes from there on. -/
theorem word_no (A : Option Addr) (len cap : Nat) (at_ : Int) (hl : len ≤ 100) (ha : -9223372036854775808 ≤ at_ ∧ at_ ≤ 9223372036854775807) (h : at_ < 0 ∨ (len : Int) - 4 < at_) (w : World) :
    Calls Tryd.prog 84 #[.slice A len cap, .int .i64 at_] w fun e w' => e = .returned (.tuple #[.int .u32 0, .bool false]) ∧ w = w' := by
  by_cases h0 : at_ < 0
  · go_enter Tryd.func84, Tryd.ntmps84
    go_wp2
    go_ret2
    exact ⟨rfl, rfl⟩
  · have h1 : (len : Int) - at_ < 4 := by omega
    go_enter Tryd.func84, Tryd.ntmps84
    go_wp2
    go_ret2
    exact ⟨rfl, rfl⟩
/-- The number of four bytes, the highest one first. -/
def four4 (b0 b1 b2 b3 : Int) : Int := 16777216 * b0 + 65536 * b1 + 256 * b2 + b3
set_option maxHeartbeats 1000000 in
theorem word_yes (b off len cap k : Nat) (b0 b1 b2 b3 : Int) (hl : len ≤ 100) (hc : len ≤ cap) (hk : k + 4 ≤ len) (w : World)
    (c0 : w.cell? ⟨b, off + k, none⟩ = some (.int .u8 b0)) (c1 : w.cell? ⟨b, off + (k + 1), none⟩ = some (.int .u8 b1)) (c2 : w.cell? ⟨b, off + (k + 2), none⟩ = some (.int .u8 b2)) (c3 : w.cell? ⟨b, off + (k + 3), none⟩ = some (.int .u8 b3))
    (r0 : 0 ≤ b0 ∧ b0 ≤ 255) (r1 : 0 ≤ b1 ∧ b1 ≤ 255) (r2 : 0 ≤ b2 ∧ b2 ≤ 255) (r3 : 0 ≤ b3 ∧ b3 ≤ 255) :
    Calls Tryd.prog 84 #[.slice (some ⟨b, off, none⟩) len cap, .int .i64 (k : Int)] w fun e w' => e = .returned (.tuple #[.int .u32 (four4 b0 b1 b2 b3), .bool true]) ∧ Below w.heap.size w w' := by
  have d1 : w.cell? ⟨b, off + k + 1, none⟩ = some (.int .u8 b1) := c1
  have d2 : w.cell? ⟨b, off + k + 2, none⟩ = some (.int .u8 b2) := c2
  have d3 : w.cell? ⟨b, off + k + 3, none⟩ = some (.int .u8 b3) := c3
  clear c1 c2 c3
  have harr : ∀ (x : Addr) (c : Nat) (w : World), Sem.run Tryd.prog (Instr.arrayAt 107 (.slice (some x) 4 c)) w = .ok (.pointer (some x)) w := fun x c w => by simp [Instr.arrayAt, run_underlying Tryd.underlying107]
  go_enter Tryd.func84, Tryd.ntmps84
  go_wp2
  go_ret2
  exact ⟨two_u (or_four b0 b1 b2 b3 r0 r1 r2 r3), by go_grown⟩
end Go.Proofs.YteojkfbnenfmkaaDoor.RotD
namespace Go.Proofs.YteojkfbnenfmkaaDoor.RotF
set_option maxRecDepth 100000
open Go.RowKit RotM RotN

/-- A fact laid aside, so that the walk does not rewrite by it. -/
theorem aside {p : Prop} (h : p) : Hid p := h

end Go.Proofs.YteojkfbnenfmkaaDoor.RotF
namespace Go.Proofs.YteojkfbnenfmkaaDoor.RotG
set_option maxRecDepth 100000
open Go.RowKit RotM RotC RotD RotN

/-- A byte. -/
def B (b : Int) : Prop := 0 ≤ b ∧ b ≤ 255
theorem four4_range {b0 b1 b2 b3 : Int} (r0 : B b0) (r1 : B b1) (r2 : B b2) (r3 : B b3) : 0 ≤ four4 b0 b1 b2 b3 ∧ four4 b0 b1 b2 b3 ≤ 4294967295 := by
  unfold B at r0 r1 r2 r3
  unfold four4
  omega
/-- Block g of the world is just these cells. -/
def At (w : World) (g : Nat) (cs : Array Value) : Prop := ∃ t, w.heap[g]? = some (.cells cs t (0, 0))
theorem At.lt {w : World} {g : Nat} {cs : Array Value} (h : At w g cs) : g < w.heap.size := by
  obtain ⟨t, ht⟩ := h
  exact (Array.getElem?_eq_some_iff.1 ht).1
theorem At.new (w : World) (cs : Array Value) (t : TypeId) : At (w.alloc (.cells cs t)) w.heap.size cs := ⟨t, heap_alloc_new w _⟩
theorem At.alloc {w : World} {g : Nat} {cs : Array Value} (h : At w g cs) (o : Obj) : At (w.alloc o) g cs := by
  have hl := h.lt
  obtain ⟨t, ht⟩ := h
  exact ⟨t, (Below.heap_alloc w o g hl).trans ht⟩
theorem At.below {w w' : World} {k g : Nat} {cs : Array Value} (h : At w g cs) (hb : Below k w w') (hg : g < k) : At w' g cs := by
  obtain ⟨t, ht⟩ := h
  exact ⟨t, (hb.block g hg).trans ht⟩
theorem At.cell {w : World} {g : Nat} {cs : Array Value} (h : At w g cs) (i : Nat) : w.cell? ⟨g, i, none⟩ = cs[i]? := by
  obtain ⟨t, ht⟩ := h
  exact cell_of_row w g i cs t (0, 0) ht
end Go.Proofs.YteojkfbnenfmkaaDoor.RotG
namespace Go.Proofs.YteojkfbnenfmkaaDoor.RotG
set_option maxRecDepth 100000
open Go.RowKit

theorem At.drewN {w : World} {g : Nat} {cs : Array Value} (h : At w g cs) (n : Nat) : At (w.drewN n) g cs := h
theorem At.drew {w : World} {g : Nat} {cs : Array Value} (h : At w g cs) : At w.drew g cs := h
theorem At.old2 (w : World) (cs : Array Value) (t : TypeId) (o : Obj) : At ((w.alloc (.cells cs t)).alloc o) w.heap.size cs := ⟨t, heap_alloc2_old w _ o⟩
theorem At.new2 (w : World) (cs : Array Value) (t : TypeId) (o : Obj) : At ((w.alloc o).alloc (.cells cs t)) (w.heap.size + 1) cs := ⟨t, heap_alloc2_new w o _⟩
theorem At.frozen {w : World} {g : Nat} {cs : Array Value} (h : At w g cs) (i : Nat) : w.frozen? ⟨g, i, none⟩ = false := by
  obtain ⟨t, ht⟩ := h
  exact frozen_of_row w g i cs t ht
theorem At.set {w : World} {g : Nat} {cs : Array Value} (h : At w g cs) (i : Nat) (v : Value) : At (w.setCell ⟨g, i, none⟩ v) g (cs.setIfInBounds i v) := by
  obtain ⟨t, ht⟩ := h
  exact ⟨t, heap_setCell_same w g i cs t v ht⟩
theorem At.set_other {w : World} {g : Nat} {cs : Array Value} (h : At w g cs) {a : Addr} (ha : g ≠ a.block) (v : Value) : At (w.setCell a v) g cs := by
  obtain ⟨t, ht⟩ := h
  exact ⟨t, (heap_setCell_other w a g v ha).trans ht⟩
theorem At.row {w : World} {g : Nat} {cs : Array Value} (h : At w g cs) (ds : Array Value) : At (w.setRow g ds) g ds := by
  obtain ⟨t, ht⟩ := h
  exact ⟨t, setRow_heap w g cs ds t (0, 0) ht⟩
theorem At.row_other {w : World} {g k : Nat} {cs : Array Value} (h : At w g cs) (hk : g ≠ k) (ds : Array Value) : At (w.setRow k ds) g cs := by
  obtain ⟨t, ht⟩ := h
  exact ⟨t, (setRow_other w k g ds hk).trans ht⟩
end Go.Proofs.YteojkfbnenfmkaaDoor.RotG
namespace Go.Proofs.YteojkfbnenfmkaaDoor.Small
open Go.RowKit RotG

theorem below_drew {k : Nat} {w w' : World} (h : Below k w w') (n : Nat) : Below k w (w'.drewN n) := ⟨h.os, h.tape, h.output, h.size, h.block⟩
theorem below_drew1 {k : Nat} {w w' : World} (h : Below k w w') : Below k w w'.drew := ⟨h.os, h.tape, h.output, h.size, h.block⟩
theorem below_row {B g : Nat} {w0 w : World} (hb : Below B w0 w) (hg : B ≤ g) (cs : Array Value) : Below B w0 (w.setRow g cs) :=
  hb.trans ⟨rfl, rfl, rfl, by simp [World.setRow], fun k hk => setRow_other w g k cs (by omega)⟩


/-- A whole array loaded out of, and stored into, a block known whole. -/
theorem wpList_load_at {P : Program} {ops : Array Oper} {rest : List Oper} {o : Oper} {a : Act} {w : World} {Q : Exit → Act → World → Prop} (hgd : o.guard = none) (ty : TypeId) (x : Operand) (ho : o.op = .load ty x)
    (g : Nat) (hx : a.eval x = .pointer (some ⟨g, 0, none⟩)) (cs : Array Value) (d : TypeDesc) (hg : At w g cs)
    (hu : P.underlying ty = some d) (hd : (match d with | .struct _ | .array _ _ => true | _ => false) = true) (hi : (P.info? ty).map (·.size) = some cs.size)
    (h : wpList P ops Q rest (a.put o.dst (.agg cs)) w) : wpList P ops Q (o :: rest) a w := by
  obtain ⟨t, ht⟩ := hg
  exact wpList_load_row hgd ty x ho g hx t cs (0, 0) d ht hu hd hi h
theorem wpList_store_at {P : Program} {ops : Array Oper} {rest : List Oper} {o : Oper} {a : Act} {w : World} {Q : Exit → Act → World → Prop} (hgd : o.guard = none) (ty : TypeId) (x y : Operand) (ho : o.op = .store ty x y)
    (g : Nat) (cells : Array Value) (hx : a.eval x = .pointer (some ⟨g, 0, none⟩)) (hy : a.eval y = .agg cells)
    (old : Array Value) (hg : At w g old) (hi : (P.info? ty).map (·.size) = some cells.size)
    (hold : old.size = cells.size) (h1 : cells.all (·.oneCell') = true)
    (h : wpList P ops Q rest (a.put o.dst undef) (w.setRow g cells)) : wpList P ops Q (o :: rest) a w := by
  obtain ⟨t, ht⟩ := hg
  exact wpList_store_row hgd ty x y ho g cells hx hy t old ht hi hold h1 h
/-- A whole array stored into the block that was made last. -/
theorem wpList_store_last {P : Program} {ops : Array Oper} {rest : List Oper} {o : Oper} {a : Act} {w : World} {Q : Exit → Act → World → Prop} (hgd : o.guard = none) (ty : TypeId) (x y : Operand) (ho : o.op = .store ty x y)
    (w0 : World) (old cells : Array Value) (t : TypeId) (hw : w = w0.alloc (.cells old t)) (g : Nat) (hx : a.eval x = .pointer (some ⟨g, 0, none⟩)) (hg : g = w0.heap.size) (hy : a.eval y = .agg cells)
    (hi : (P.info? ty).map (·.size) = some cells.size) (hold : old.size = cells.size) (h1 : cells.all (·.oneCell') = true)
    (h : wpList P ops Q rest (a.put o.dst undef) (w0.alloc (.cells cells t))) : wpList P ops Q (o :: rest) a w := by
  subst hw
  subst hg
  refine wpList_store_row hgd ty x y ho w0.heap.size cells hx hy t old (heap_alloc_new w0 _) hi hold h1 ?_
  rw [World.setRow_alloc_new]
  exact h

/-- A whole array loaded inside a region that draws its order, ahead of its tail. -/
theorem wpStill_load_row {P : Program} {ops : Array Oper} {w : World} {Q : Act → Prop} {a : Act} {o : Oper} {rest : List Oper} (hgd : o.guard = none) (ty : TypeId) (x : Operand) (ho : o.op = .load ty x)
    (g : Nat) (hx : a.eval x = .pointer (some ⟨g, 0, none⟩)) (t : TypeId) (cs : Array Value) (fr : Nat × Nat) (d : TypeDesc) (hg : w.heap[g]? = some (.cells cs t fr))
    (hu : P.underlying ty = some d) (hd : (match d with | .struct _ | .array _ _ => true | _ => false) = true) (hi : (P.info? ty).map (·.size) = some cs.size)
    (h : wpStill P ops w Q rest (a.put o.dst (.agg cs))) : wpStill P ops w Q (o :: rest) a := by
  refine wpStill_step (fun K hK => ?_)
  have hw : Region.wanted o (yielded ops a.tmps) = true := by simp [Region.wanted, hgd]
  rw [if_pos hw]
  unfold Oper.still execOp
  simp only [ho, hx, Instr.loadAt, Instr.sureAddr, Sem.run_bind, Sem.run_pure, Result.andThen_ok, run_loadVar_row w g t ty cs fr d hg hu hd hi]
  exact ⟨rfl, hK _ h⟩
theorem wpStill_load_at {P : Program} {ops : Array Oper} {w : World} {Q : Act → Prop} {a : Act} {o : Oper} {rest : List Oper} (hgd : o.guard = none) (ty : TypeId) (x : Operand) (ho : o.op = .load ty x)
    (g : Nat) (hx : a.eval x = .pointer (some ⟨g, 0, none⟩)) (cs : Array Value) (d : TypeDesc) (hg : At w g cs)
    (hu : P.underlying ty = some d) (hd : (match d with | .struct _ | .array _ _ => true | _ => false) = true) (hi : (P.info? ty).map (·.size) = some cs.size)
    (h : wpStill P ops w Q rest (a.put o.dst (.agg cs))) : wpStill P ops w Q (o :: rest) a := by
  obtain ⟨t, ht⟩ := hg
  exact wpStill_load_row hgd ty x ho g hx t cs (0, 0) d ht hu hd hi h
/-- A result that is a whole array out of a block; and one with a second result beside it. -/
theorem results_at {P : Program} {fn : Func} {p : Tmp} {ty : TypeId} (h : fn.results = #[.cell p ty]) (tmps : Array Value) (w : World) (g : Nat) (cs : Array Value) (d : TypeDesc)
    (hp : tmps.getD p undef = .pointer (some ⟨g, 0, none⟩)) (hg : At w g cs)
    (hu : P.underlying ty = some d) (hd : (match d with | .struct _ | .array _ _ => true | _ => false) = true) (hi : (P.info? ty).map (·.size) = some cs.size) :
    (results fn tmps).run P w = .ok (.agg cs) w := by
  obtain ⟨t, ht⟩ := hg
  exact results_cell_row h tmps w g t cs (0, 0) d hp ht hu hd hi
theorem results_at_tmp {P : Program} {fn : Func} {p q : Tmp} {ty : TypeId} (h : fn.results = #[.cell p ty, .tmp q]) (tmps : Array Value) (w : World) (g : Nat) (cs : Array Value) (d : TypeDesc) (v : Value)
    (hp : tmps.getD p undef = .pointer (some ⟨g, 0, none⟩)) (hq : tmps.getD q undef = v) (hg : At w g cs)
    (hu : P.underlying ty = some d) (hd : (match d with | .struct _ | .array _ _ => true | _ => false) = true) (hi : (P.info? ty).map (·.size) = some cs.size) :
    (results fn tmps).run P w = .ok (.tuple #[.agg cs, v]) w := by
  obtain ⟨t, ht⟩ := hg
  have hp' : tmps[p]?.getD undef = .pointer (some ⟨g, 0, none⟩) := by simpa using hp
  have hq' : tmps[q]?.getD undef = v := by simpa using hq
  simp [results, h, hp', hq', asAddr, run_loadVar_row w g t ty cs (0, 0) d ht hu hd hi]
/-- make([]T, n) of a type of one cell: n noughts in a new block. -/
theorem made_replicate (z : Value) (n : Nat) : madeCells #[z] n = (List.replicate n z).toArray := by
  apply Array.ext_getElem?
  intro i
  by_cases h : i < n
  · simp [madeCells, h, Nat.mod_one]
  · simp [madeCells, h]
theorem wpList_make_at {P : Program} {ops : Array Oper} {rest : List Oper} {o : Oper} {a : Act} {w : World} {Q : Exit → Act → World → Prop} (hgd : o.guard = none) (ty : TypeId) (x y : Operand) (ho : o.op = .makeSlice ty x y)
    (e : TypeId) (z : Value) (hu : P.underlying ty = some (.slice e)) (hz : (P.info? e).map (fun i => (i.zero, i.size, i.bytes)) = some (some z, 1, 1)) (hz1 : z.cells = #[z])
    (N : Int) (hx : a.eval x = .int .i64 N) (hy : a.eval y = .int .i64 N) (n : Nat) (hN : N = n) (hn : n ≤ 281474976710656)
    (h : wpList P ops Q rest (a.put o.dst (.slice (some ⟨w.heap.size, 0, none⟩) n n)) (w.alloc (.cells (List.replicate n z).toArray e))) : wpList P ops Q (o :: rest) a w := by
  refine wpList_plain hgd fun K hK => ?_
  subst hN
  cases hq : P.info? e with
  | none => simp [hq] at hz
  | some i =>
    simp [hq] at hz
    obtain ⟨z0, z1, z2⟩ := hz
    have hrun := run_make (P := P) w ty e i z hu hq z0 .i64 .i64 n n (by omega) (by omega) (by rw [z2]; omega) (by omega)
    rw [hz1, z1, Nat.mul_one, Int.toNat_natCast, made_replicate] at hrun
    unfold Oper.wp
    simp [execOp, ho, hx, hy, hrun, Result.andThen]
    exact hK _ _ h
end Go.Proofs.YteojkfbnenfmkaaDoor.Small
