/- Events in memory. No condition. | Two operations compared; whether an operation's texts are short. No condition. | Commits in memory: what a walk reads, makes and stores. No condition. -/
import Derived.Test.YtnphlpebeflpkaaDoorRowFJ4
import Derived.Test.YtnphlpebeflpkaaDoorOpsC
import Derived.Test.YtnphlpebeflpkaaDoorCmM
import Derived.Test.YtnphlpebeflpkaaDoorArrEqJ2
import Derived.Test.YtnphlpebeflpkaaDoorRowC
namespace Go.Proofs.YtnphlpebeflpkaaDoor.StW
set_option maxRecDepth 100000
open Go Go.RowKit Byt

/-- An event. -/
structure Ev where
  node : Int
  seq : Int
def ec (e : Ev) : Array Value := #[.int .i64 e.node, .int .i64 e.seq]
def EE : Cel.Cel Ev where
  T := 23
  k := 2
  bytes := 16
  d := _
  enc e := [.int .i64 e.node, .int .i64 e.seq]
  zero := ⟨0, 0⟩
  len _ := rfl
  one c v hv := by
    simp only [List.mem_cons, List.not_mem_nil, or_false] at hv
    rcases hv with rfl | rfl <;> rfl
  pos := by omega
  info := by kernel_rfl
  under := Tryd.underlying23
  row := rfl
theorem ev_cells {w : World} {g : Nat} {e : Ev} (h : Cel.Box EE w g e) : w.cell? ⟨g, 0, none⟩ = some (.int .i64 e.node) ∧ w.cell? ⟨g, 1, none⟩ = some (.int .i64 e.seq) :=
  ⟨h.cell (j := 0) rfl, h.cell (j := 1) rfl⟩
/-- An event loaded whole, its cells written out. -/
theorem wpList_load_ev {ops : Array Oper} {rest : List Oper} {o : Oper} {a : Act} {w : World} {Q : Exit → Act → World → Prop} (hgd : o.guard = none) (x : Operand) (ho : o.op = .load 23 x)
    (g : Nat) (hx : a.eval x = .pointer (some ⟨g, 0, none⟩)) (e : Ev) (hb : Cel.Box EE w g e) (h : wpList Tryd.prog ops Q rest (a.put o.dst (.agg #[.int .i64 e.node, .int .i64 e.seq])) w) : wpList Tryd.prog ops Q (o :: rest) a w :=
  Cel.wpList_load_box EE hgd x ho g hx e hb h
theorem below_alloc (w : World) (o : Obj) : Below w.heap.size w (w.alloc o) := (Below.refl _ _).alloc (Nat.le_refl _) _
theorem ret_bool {a b : Bool} (h : a = b) : Ending.returned (.bool a) = .returned (.bool b) := by rw [h]
theorem ret_val {a b : Value} (h : a = b) : Ending.returned a = .returned b := by rw [h]
end Go.Proofs.YtnphlpebeflpkaaDoor.StW
namespace Go.Proofs.YtnphlpebeflpkaaDoor.OpsE
set_option maxRecDepth 100000
open Go Go.RowKit Go.Sort Byt OpsM OpsK OpsW OpsC

/-- Are two operations the same? -/
def sameB (x y : Opn) : Bool := decide (x.kind = y.kind) && (decide (x.key.toList = y.key.toList) && (decide (x.elem.toList = y.elem.toList) && decide (x.n = y.n)))
theorem sameB_iff {x y : Opn} : sameB x y = true ↔ x = y := by
  unfold sameB
  simp only [Bool.and_eq_true, decide_eq_true_eq]
  constructor
  · rintro ⟨h1, h2, h3, h4⟩
    cases x; cases y
    simp only at h1 h2 h3 h4
    rw [toList_inj] at h2 h3
    subst h1 h2 h3 h4
    rfl
  · rintro rfl; exact ⟨rfl, rfl, rfl, rfl⟩
theorem sameB_self (x : Opn) : sameB x x = true := sameB_iff.2 rfl
theorem equal (w : World) (x y : Opn) : (Op.equalIn 10000 26 (.agg (opc x)) (.agg (opc y))).run Tryd.prog w = .ok (sameB x y) w := by
  have hS : Tryd.prog.underlying 26 = some (.struct (Tryd.prog.fieldsOf 26)) := by kernel_rfl
  rw [show (10000 : Nat) = 9999 + 1 from rfl, run_equalIn_agg w 9999 26 _ _ hS (by kernel_rfl)]
  simp only [Program.fieldsOf, Tryd.underlying26, opc]
  go_simp
  unfold sameB
  split
  · split
    · split
      · split <;> simp_all
      · simp_all
    · simp_all
  · simp_all
theorem equal_yes (x : Opn) : ∀ W : World, (Op.equalIn 10000 26 (.agg (opc x)) (.agg (opc x))).run Tryd.prog W = .ok true W := fun W => by rw [equal, sameB_self]

def shortB (o : Opn) : Bool := decide (o.key.size ≤ 100) && decide (o.elem.size ≤ 100)

/-- One that may be is one that a walk may meet. -/
theorem mayO_fit {o : Opn} (h : mayO o = true) : Fit o := by
  obtain ⟨hk, hr⟩ := mayO_kind h
  have h1 := keyL_len hk
  have h2 := bytesL_length o.key
  have h3 := bytesL_length o.elem
  rcases hr with ⟨h0, hs⟩ | ⟨h0, he⟩
  · rw [stepB_iff] at hs
    obtain ⟨a, b, _, d⟩ := hs
    rw [d] at h3
    simp at h3
    exact ⟨by unfold I64; omega, by unfold I64; omega, by unfold maxLen; omega, by unfold maxLen; omega⟩
  · rw [elemB_iff] at he
    have := keyL_len he.1
    exact ⟨by unfold I64; omega, by unfold I64; omega, by unfold maxLen; omega, by unfold maxLen; omega⟩
/-- A guarded operation that is wanted, as one without a guard. -/
theorem unguard {P : Program} {ops : Array Oper} {rest : List Oper} {o : Oper} {a : Act} {w : World} {Q : Exit → Act → World → Prop} (hw : Region.wanted o (yielded ops a.tmps) = true)
    (h : wpList P ops Q ({ o with guard := none } :: rest) a w) : wpList P ops Q (o :: rest) a w := by
  unfold wpList at h ⊢
  rw [if_pos hw]
  rw [if_pos (by simp [Region.wanted])] at h
  exact h
end Go.Proofs.YtnphlpebeflpkaaDoor.OpsE
namespace Go.Proofs.YtnphlpebeflpkaaDoor.CmW
set_option maxRecDepth 100000
open Go Go.Sort Go.RowKit Byt IdM IdW OpsM OpsW CmM StW

/-- A commit whose parents lie in a slice. -/
structure Cv where
  a : Option Addr
  k : Nat
  c : Com
def noV : Cv := ⟨none, 0, noK⟩
/-- A commit's cells. -/
def cc (v : Cv) : Array Value := #[.int .i64 v.c.node, .int .i64 v.c.seq, .int .i64 v.c.gen, .slice v.a v.c.ps.length v.k, .int .i64 v.c.op.kind, .string v.c.op.key, .string v.c.op.elem, .int .i64 v.c.op.n]
def CE : Cel.Cel Cv where
  T := 28
  k := 8
  bytes := 96
  d := _
  enc v := [.int .i64 v.c.node, .int .i64 v.c.seq, .int .i64 v.c.gen, .slice v.a v.c.ps.length v.k, .int .i64 v.c.op.kind, .string v.c.op.key, .string v.c.op.elem, .int .i64 v.c.op.n]
  zero := noV
  len _ := rfl
  one c v hv := by
    simp only [List.mem_cons, List.not_mem_nil, or_false] at hv
    rcases hv with rfl | rfl | rfl | rfl | rfl | rfl | rfl | rfl <;> rfl
  pos := by omega
  info := by kernel_rfl
  under := Tryd.underlying28
  row := rfl
/-- The slice holds the parents. -/
def In (w : World) (v : Cv) : Prop := SlI w v.a v.k v.c.ps
theorem In.below {w w' : World} {v : Cv} (h : In w v) (hb : Below w.heap.size w w') : In w' v := SlI.below h hb
theorem In.none (w : World) : In w noV := SlI.nil w
/-- A commit that is made of numbers of 64 bits, and of texts that a machine has room for. -/
structure Fit (c : Com) : Prop where
  node : I64 c.node
  seq : I64 c.seq
  gen : I64 c.gen
  op : OpsC.Fit c.op
section
variable {w : World} {g : Nat} {v : Cv}
theorem cell_node (h : Cel.Box CE w g v) : w.cell? ⟨g, 0, none⟩ = some (.int .i64 v.c.node) := h.cell (j := 0) rfl
theorem cell_seq (h : Cel.Box CE w g v) : w.cell? ⟨g, 1, none⟩ = some (.int .i64 v.c.seq) := h.cell (j := 1) rfl
theorem cell_gen (h : Cel.Box CE w g v) : w.cell? ⟨g, 2, none⟩ = some (.int .i64 v.c.gen) := h.cell (j := 2) rfl
theorem cell_ps (h : Cel.Box CE w g v) : w.cell? ⟨g, 3, none⟩ = some (.slice v.a v.c.ps.length v.k) := h.cell (j := 3) rfl
theorem cell_kind (h : Cel.Box CE w g v) : w.cell? ⟨g, 4, none⟩ = some (.int .i64 v.c.op.kind) := h.cell (j := 4) rfl
theorem cell_key (h : Cel.Box CE w g v) : w.cell? ⟨g, 5, none⟩ = some (.string v.c.op.key) := h.cell (j := 5) rfl
theorem cell_elem (h : Cel.Box CE w g v) : w.cell? ⟨g, 6, none⟩ = some (.string v.c.op.elem) := h.cell (j := 6) rfl
theorem cell_n (h : Cel.Box CE w g v) : w.cell? ⟨g, 7, none⟩ = some (.int .i64 v.c.op.n) := h.cell (j := 7) rfl
theorem range_ev (h : Cel.Box CE w g v) : w.rangeAt g 0 (EE.enc ⟨v.c.node, v.c.seq⟩) := fun j u hu => by
  rw [Nat.zero_add]
  match j, hu with
  | 0, hu => exact (Option.some.inj hu) ▸ cell_node h
  | 1, hu => exact (Option.some.inj hu) ▸ cell_seq h
  | j + 2, hu => simp [EE] at hu
theorem range_op (h : Cel.Box CE w g v) : w.rangeAt g 4 (opc v.c.op).toList := fun j u hu => by
  match j, hu with
  | 0, hu => exact (Option.some.inj hu) ▸ cell_kind h
  | 1, hu => exact (Option.some.inj hu) ▸ cell_key h
  | 2, hu => exact (Option.some.inj hu) ▸ cell_elem h
  | 3, hu => exact (Option.some.inj hu) ▸ cell_n h
  | j + 4, hu => simp [opc] at hu
end
section
variable {ops : Array Oper} {rest : List Oper} {o : Oper} {a : Act} {w : World} {Q : Exit → Act → World → Prop}
/-- Its event, and its operation, loaded whole out of a commit's block; also where that is guarded, and wanted. -/
theorem wpList_load_kev (hgd : o.guard = none) (x : Operand) (ho : o.op = .load 23 x)
    (g : Nat) (hx : a.eval x = .pointer (some ⟨g, 0, none⟩)) (v : Cv) (hb : Cel.Box CE w g v) (h : wpList Tryd.prog ops Q rest (a.put o.dst (.agg #[.int .i64 v.c.node, .int .i64 v.c.seq])) w) : wpList Tryd.prog ops Q (o :: rest) a w :=
  wpList_load_mid hgd EE.T x ho g 0 hx (EE.enc ⟨v.c.node, v.c.seq⟩) _ (range_ev hb) EE.under EE.row (EE.size _) h
theorem wpList_load_kop (hgd : o.guard = none) (x : Operand) (ho : o.op = .load 26 x)
    (g : Nat) (hx : a.eval x = .pointer (some ⟨g, 4, none⟩)) (v : Cv) (hb : Cel.Box CE w g v) (h : wpList Tryd.prog ops Q rest (a.put o.dst (.agg (opc v.c.op))) w) : wpList Tryd.prog ops Q (o :: rest) a w :=
  wpList_load_mid hgd 26 x ho g 4 hx (opc v.c.op).toList _ (range_op hb) Tryd.underlying26 rfl (info_opl v.c.op) h
theorem gkev (x : Operand) (ho : o.op = .load 23 x)
    (g : Nat) (hx : a.eval x = .pointer (some ⟨g, 0, none⟩)) (v : Cv) (hb : Cel.Box CE w g v) (hw : Region.wanted o (yielded ops a.tmps) = true) (h : wpList Tryd.prog ops Q rest (a.put o.dst (.agg #[.int .i64 v.c.node, .int .i64 v.c.seq])) w) : wpList Tryd.prog ops Q (o :: rest) a w :=
  RowC.unguard hw (wpList_load_kev rfl x ho g hx v hb h)
theorem gkop (x : Operand) (ho : o.op = .load 26 x)
    (g : Nat) (hx : a.eval x = .pointer (some ⟨g, 4, none⟩)) (v : Cv) (hb : Cel.Box CE w g v) (hw : Region.wanted o (yielded ops a.tmps) = true) (h : wpList Tryd.prog ops Q rest (a.put o.dst (.agg (opc v.c.op))) w) : wpList Tryd.prog ops Q (o :: rest) a w :=
  RowC.unguard hw (wpList_load_kop rfl x ho g hx v hb h)
theorem gload (x : Operand) (ho : o.op = .load 28 x)
    (g : Nat) (hx : a.eval x = .pointer (some ⟨g, 0, none⟩)) (v : Cv) (hb : Cel.Box CE w g v) (hw : Region.wanted o (yielded ops a.tmps) = true) (h : wpList Tryd.prog ops Q rest (a.put o.dst (.agg (cc v))) w) : wpList Tryd.prog ops Q (o :: rest) a w :=
  RowC.unguard hw (Cel.wpList_load_box CE rfl x ho g hx v hb h)
end
/-- Two events, two operations, compared. -/
def sameE (a b m n : Int) : Bool := decide (a = m) && decide (b = n)
theorem equal_ev (d : Nat) (w : World) (a b m n : Int) : (Op.equalIn (d + 1 + 1) 23 (.agg #[.int .i64 a, .int .i64 b]) (.agg #[.int .i64 m, .int .i64 n])).run Tryd.prog w = .ok (sameE a b m n) w := by
  have hE : Tryd.prog.underlying 23 = some (.struct (Tryd.prog.fieldsOf 23)) := by kernel_rfl
  rw [run_equalIn_agg w (d + 1) 23 _ _ hE (by kernel_rfl)]
  simp only [Program.fieldsOf, Tryd.underlying23]
  unfold sameE
  go_simp
  by_cases h1 : a = m <;> by_cases h2 : b = n <;> simp [h1, h2]
theorem sameE_iff {a b m n : Int} : sameE a b m n = true ↔ a = m ∧ b = n := by
  unfold sameE
  simp only [Bool.and_eq_true, decide_eq_true_eq]
theorem equal_nought (w : World) (o : Opn) : (Op.equalIn 10000 26 (.agg (opc o)) (.agg #[.int .i64 0, .string ⟨#[]⟩, .string ⟨#[]⟩, .int .i64 0])).run Tryd.prog w = .ok (noughtO o) w := by
  have e0 : OpsE.sameB o noO = noughtO o := by
    rw [Bool.eq_iff_iff, OpsE.sameB_iff, noughtO_iff]
  rw [← e0]
  exact OpsE.equal w o noO
/-- A commit, and an error's number, are handed back. -/
def NewK (c : Com) (n : Int) (w : World) (e : Ending) (w' : World) : Prop := ∃ v, e = .returned (.tuple #[.agg (cc v), .int .i64 n]) ∧ v.c = c ∧ In w' v ∧ Below w.heap.size w w'
end Go.Proofs.YtnphlpebeflpkaaDoor.CmW
