/- Events in memory. No condition. | Two operations compared; whether an operation's texts are short. No condition. | Commits in memory: what a walk reads, makes and stores. No condition. | What the document's Event of package state returns: a contract. | What the document's Key of package ops returns: a contract. | What the document's May of package ops returns: a contract. | What Less (of ids, and of the document's answers) and order return: contracts. -/
import Derived.Test.YteojkfbnenfmkaaDoorRowFJ4
import Derived.Test.YteojkfbnenfmkaaDoorOpsC
import Derived.Test.YteojkfbnenfmkaaDoorEvMJ2
import Derived.Test.YteojkfbnenfmkaaDoorIdW
import Derived.Test.YteojkfbnenfmkaaDoorRowBJ2
import Derived.Test.YteojkfbnenfmkaaDoorCmSJ2
namespace Go.Proofs.YteojkfbnenfmkaaDoor.StW
set_option maxRecDepth 100000
open Go Go.RowKit Byt

/-- An event. -/
structure Ev where
  node : Int
  seq : Int
def ec (e : Ev) : Array Value := #[.int .i64 e.node, .int .i64 e.seq]
def EE : Cel.Cel Ev where
  T := 24
  k := 2
  bytes := 16
  d := _
  enc e := [.int .i64 e.node, .int .i64 e.seq]
  zero := ⟨0, 0⟩
  len _ := rfl
  one c v hv := by
    simp only [List.mem_cons, List.not_mem_nil, or_false] at hv
    rcases hv with rfl | rfl <;> rfl
  pos := by omega
  info := by kernel_rfl
  under := Tryd.underlying24
  row := rfl
theorem ev_cells {w : World} {g : Nat} {e : Ev} (h : Cel.Box EE w g e) : w.cell? ⟨g, 0, none⟩ = some (.int .i64 e.node) ∧ w.cell? ⟨g, 1, none⟩ = some (.int .i64 e.seq) :=
  ⟨h.cell (j := 0) rfl, h.cell (j := 1) rfl⟩
theorem below_alloc (w : World) (o : Obj) : Below w.heap.size w (w.alloc o) := (Below.refl _ _).alloc (Nat.le_refl _) _
theorem ret_bool {a b : Bool} (h : a = b) : Ending.returned (.bool a) = .returned (.bool b) := by rw [h]
end Go.Proofs.YteojkfbnenfmkaaDoor.StW
namespace Go.Proofs.YteojkfbnenfmkaaDoor.OpsE
set_option maxRecDepth 100000
open Go Go.RowKit Go.Sort Byt OpsM OpsK OpsW OpsC

/-- Are two operations the same? -/
def sameB (x y : Opn) : Bool := decide (x.kind = y.kind) && (decide (x.key.toList = y.key.toList) && (decide (x.elem.toList = y.elem.toList) && decide (x.n = y.n)))
theorem sameB_iff {x y : Opn} : sameB x y = true ↔ x = y := by
  unfold sameB
  simp only [Bool.and_eq_true, decide_eq_true_eq]
  constructor
  · rintro ⟨h1, h2, h3, h4⟩
    cases x; cases y
    simp only at h1 h2 h3 h4
    rw [toList_inj] at h2 h3
    subst h1 h2 h3 h4
    rfl
  · rintro rfl; exact ⟨rfl, rfl, rfl, rfl⟩
theorem equal (w : World) (x y : Opn) : (Op.equalIn 10000 27 (.agg (opc x)) (.agg (opc y))).run Tryd.prog w = .ok (sameB x y) w := by
  have hS : Tryd.prog.underlying 27 = some (.struct (Tryd.prog.fieldsOf 27)) := by kernel_rfl
  rw [show (10000 : Nat) = 9999 + 1 from rfl, run_equalIn_agg w 9999 27 _ _ hS (by kernel_rfl)]
  simp only [Program.fieldsOf, Tryd.underlying27, opc]
  go_simp
  unfold sameB
  split
  · split
    · split
      · split <;> simp_all
      · simp_all
    · simp_all
  · simp_all


end Go.Proofs.YteojkfbnenfmkaaDoor.OpsE
namespace Go.Proofs.YteojkfbnenfmkaaDoor.CmW
set_option maxRecDepth 100000
open Go Go.Sort Go.RowKit Byt IdM IdW OpsM OpsW CmM StW

/-- A commit whose parents lie in a slice. -/
structure Cv where
  a : Option Addr
  k : Nat
  c : Com
def noV : Cv := ⟨none, 0, noK⟩
/-- A commit's cells. -/
def cc (v : Cv) : Array Value := #[.int .i64 v.c.node, .int .i64 v.c.seq, .int .i64 v.c.gen, .slice v.a v.c.ps.length v.k, .int .i64 v.c.op.kind, .string v.c.op.key, .string v.c.op.elem, .int .i64 v.c.op.n]
def CE : Cel.Cel Cv where
  T := 29
  k := 8
  bytes := 96
  d := _
  enc v := [.int .i64 v.c.node, .int .i64 v.c.seq, .int .i64 v.c.gen, .slice v.a v.c.ps.length v.k, .int .i64 v.c.op.kind, .string v.c.op.key, .string v.c.op.elem, .int .i64 v.c.op.n]
  zero := noV
  len _ := rfl
  one c v hv := by
    simp only [List.mem_cons, List.not_mem_nil, or_false] at hv
    rcases hv with rfl | rfl | rfl | rfl | rfl | rfl | rfl | rfl <;> rfl
  pos := by omega
  info := by kernel_rfl
  under := Tryd.underlying29
  row := rfl
/-- The slice holds the parents. -/
def In (w : World) (v : Cv) : Prop := SlI w v.a v.k v.c.ps
theorem In.below {w w' : World} {v : Cv} (h : In w v) (hb : Below w.heap.size w w') : In w' v := SlI.below h hb
theorem In.none (w : World) : In w noV := SlI.nil w
/-- A commit that is made of numbers of 64 bits, and of texts that a machine has room for. -/
structure Fit (c : Com) : Prop where
  node : I64 c.node
  seq : I64 c.seq
  gen : I64 c.gen
  op : OpsC.Fit c.op
section
variable {w : World} {g : Nat} {v : Cv}
theorem cell_node (h : Cel.Box CE w g v) : w.cell? ⟨g, 0, none⟩ = some (.int .i64 v.c.node) := h.cell (j := 0) rfl
theorem cell_seq (h : Cel.Box CE w g v) : w.cell? ⟨g, 1, none⟩ = some (.int .i64 v.c.seq) := h.cell (j := 1) rfl
theorem cell_gen (h : Cel.Box CE w g v) : w.cell? ⟨g, 2, none⟩ = some (.int .i64 v.c.gen) := h.cell (j := 2) rfl
theorem cell_ps (h : Cel.Box CE w g v) : w.cell? ⟨g, 3, none⟩ = some (.slice v.a v.c.ps.length v.k) := h.cell (j := 3) rfl
theorem cell_kind (h : Cel.Box CE w g v) : w.cell? ⟨g, 4, none⟩ = some (.int .i64 v.c.op.kind) := h.cell (j := 4) rfl
theorem cell_key (h : Cel.Box CE w g v) : w.cell? ⟨g, 5, none⟩ = some (.string v.c.op.key) := h.cell (j := 5) rfl
theorem cell_elem (h : Cel.Box CE w g v) : w.cell? ⟨g, 6, none⟩ = some (.string v.c.op.elem) := h.cell (j := 6) rfl
theorem cell_n (h : Cel.Box CE w g v) : w.cell? ⟨g, 7, none⟩ = some (.int .i64 v.c.op.n) := h.cell (j := 7) rfl
theorem range_ev (h : Cel.Box CE w g v) : w.rangeAt g 0 (EE.enc ⟨v.c.node, v.c.seq⟩) := fun j u hu => by
  rw [Nat.zero_add]
  match j, hu with
  | 0, hu => exact (Option.some.inj hu) ▸ cell_node h
  | 1, hu => exact (Option.some.inj hu) ▸ cell_seq h
  | j + 2, hu => simp [EE] at hu
theorem range_op (h : Cel.Box CE w g v) : w.rangeAt g 4 (opc v.c.op).toList := fun j u hu => by
  match j, hu with
  | 0, hu => exact (Option.some.inj hu) ▸ cell_kind h
  | 1, hu => exact (Option.some.inj hu) ▸ cell_key h
  | 2, hu => exact (Option.some.inj hu) ▸ cell_elem h
  | 3, hu => exact (Option.some.inj hu) ▸ cell_n h
  | j + 4, hu => simp [opc] at hu
end
section
variable {ops : Array Oper} {rest : List Oper} {o : Oper} {a : Act} {w : World} {Q : Exit → Act → World → Prop}
/-- Its event, and its operation, loaded whole out of a commit's block; also where that is guarded, and wanted. -/
theorem wpList_load_kev (hgd : o.guard = none) (x : Operand) (ho : o.op = .load 24 x)
    (g : Nat) (hx : a.eval x = .pointer (some ⟨g, 0, none⟩)) (v : Cv) (hb : Cel.Box CE w g v) (h : wpList Tryd.prog ops Q rest (a.put o.dst (.agg #[.int .i64 v.c.node, .int .i64 v.c.seq])) w) : wpList Tryd.prog ops Q (o :: rest) a w :=
  wpList_load_mid hgd EE.T x ho g 0 hx (EE.enc ⟨v.c.node, v.c.seq⟩) _ (range_ev hb) EE.under EE.row (EE.size _) h
theorem wpList_load_kop (hgd : o.guard = none) (x : Operand) (ho : o.op = .load 27 x)
    (g : Nat) (hx : a.eval x = .pointer (some ⟨g, 4, none⟩)) (v : Cv) (hb : Cel.Box CE w g v) (h : wpList Tryd.prog ops Q rest (a.put o.dst (.agg (opc v.c.op))) w) : wpList Tryd.prog ops Q (o :: rest) a w :=
  wpList_load_mid hgd 27 x ho g 4 hx (opc v.c.op).toList _ (range_op hb) Tryd.underlying27 rfl (info_opl v.c.op) h
theorem gkev (x : Operand) (ho : o.op = .load 24 x)
    (g : Nat) (hx : a.eval x = .pointer (some ⟨g, 0, none⟩)) (v : Cv) (hb : Cel.Box CE w g v) (hw : Region.wanted o (yielded ops a.tmps) = true) (h : wpList Tryd.prog ops Q rest (a.put o.dst (.agg #[.int .i64 v.c.node, .int .i64 v.c.seq])) w) : wpList Tryd.prog ops Q (o :: rest) a w :=
  RowC.unguard hw (wpList_load_kev rfl x ho g hx v hb h)
theorem gkop (x : Operand) (ho : o.op = .load 27 x)
    (g : Nat) (hx : a.eval x = .pointer (some ⟨g, 4, none⟩)) (v : Cv) (hb : Cel.Box CE w g v) (hw : Region.wanted o (yielded ops a.tmps) = true) (h : wpList Tryd.prog ops Q rest (a.put o.dst (.agg (opc v.c.op))) w) : wpList Tryd.prog ops Q (o :: rest) a w :=
  RowC.unguard hw (wpList_load_kop rfl x ho g hx v hb h)
theorem gload (x : Operand) (ho : o.op = .load 29 x)
    (g : Nat) (hx : a.eval x = .pointer (some ⟨g, 0, none⟩)) (v : Cv) (hb : Cel.Box CE w g v) (hw : Region.wanted o (yielded ops a.tmps) = true) (h : wpList Tryd.prog ops Q rest (a.put o.dst (.agg (cc v))) w) : wpList Tryd.prog ops Q (o :: rest) a w :=
  RowC.unguard hw (Cel.wpList_load_box CE rfl x ho g hx v hb h)
end
/-- Two events, two operations, compared. -/
def sameE (a b m n : Int) : Bool := decide (a = m) && decide (b = n)
theorem equal_ev (d : Nat) (w : World) (a b m n : Int) : (Op.equalIn (d + 1 + 1) 24 (.agg #[.int .i64 a, .int .i64 b]) (.agg #[.int .i64 m, .int .i64 n])).run Tryd.prog w = .ok (sameE a b m n) w := by
  have hE : Tryd.prog.underlying 24 = some (.struct (Tryd.prog.fieldsOf 24)) := by kernel_rfl
  rw [run_equalIn_agg w (d + 1) 24 _ _ hE (by kernel_rfl)]
  simp only [Program.fieldsOf, Tryd.underlying24]
  unfold sameE
  go_simp
  by_cases h1 : a = m <;> by_cases h2 : b = n <;> simp [h1, h2]
theorem sameE_iff {a b m n : Int} : sameE a b m n = true ↔ a = m ∧ b = n := by
  unfold sameE
  simp only [Bool.and_eq_true, decide_eq_true_eq]
theorem equal_nought (w : World) (o : Opn) : (Op.equalIn 10000 27 (.agg (opc o)) (.agg #[.int .i64 0, .string ⟨#[]⟩, .string ⟨#[]⟩, .int .i64 0])).run Tryd.prog w = .ok (noughtO o) w := by
  have e0 : OpsE.sameB o noO = noughtO o := by
    rw [Bool.eq_iff_iff, OpsE.sameB_iff, noughtO_iff]
  rw [← e0]
  exact OpsE.equal w o noO
end Go.Proofs.YteojkfbnenfmkaaDoor.CmW
namespace Go.Proofs.YteojkfbnenfmkaaDoor.StR
set_option maxRecDepth 100000
open Go Go.RowKit Byt StM StW

end Go.Proofs.YteojkfbnenfmkaaDoor.StR
namespace Go.Proofs.YteojkfbnenfmkaaDoor.OpsR
set_option maxRecDepth 100000
open Go Go.RowKit Byt OpsM OpsK

end Go.Proofs.YteojkfbnenfmkaaDoor.OpsR
namespace Go.Proofs.YteojkfbnenfmkaaDoor.OpsR
set_option maxRecDepth 100000
open Go Go.RowKit Go.Sort Byt OpsM OpsK OpsW OpsC

end Go.Proofs.YteojkfbnenfmkaaDoor.OpsR
namespace Go.Proofs.YteojkfbnenfmkaaDoor.IdC
set_option maxRecDepth 100000
open Go Go.Sort Go.RowKit IdM Byt IdW

set_option maxHeartbeats 1000000 in
theorem less_ret (x y : Idn) (w : World) : Calls Tryd.prog 43 #[.agg (cs x), .agg (cs y)] w fun e w' => e = .returned (.bool (less x y)) ∧ Grew w w' := by
  have s1 := cs_size x
  have s2 := cs_size y
  have B1 : Box ((w.alloc (.cells (cs x) 42)).alloc (.cells (cs y) 42)) w.heap.size x := (Box.new w x _).alloc _
  have B2 : Box ((w.alloc (.cells (cs x) 42)).alloc (.cells (cs y) 42)) (w.heap.size + 1) y := by
    have := Box.new (w.alloc (.cells (cs x) 42)) y 42
    simpa using this
  have G : Grew w ((w.alloc (.cells (cs x) 42)).alloc (.cells (cs y) 42)) := ((Grew.refl w).alloc _).alloc _
  obtain ⟨r, hr0⟩ : ∃ r, less x y = r := ⟨_, rfl⟩
  rw [hr0]
  have hr := aside hr0
  clear hr0
  go_enter Tryd.func43, Tryd.ntmps43
  go_wp2_with fail
  go_loopw [6] (fun i wr => ∃ k : Nat, k ≤ 32 ∧ i = .int .i64 k ∧ Hid (∀ j, j < k → x.1.getD j 0 = y.1.getD j 0) ∧ Box wr w.heap.size x ∧ Box wr (w.heap.size + 1) y ∧ Grew w wr) (fun i _ => 32 - (intOf i).toNat)
  case atStart => exact ⟨0, Nat.zero_le _, rfl, aside (fun j hj => absurd hj (Nat.not_lt_zero j)), B1, B2, G⟩
  case round =>
    clear B1 B2 G
    obtain ⟨k, hk, rfl, he, B1, B2, G⟩ := hrel
    by_cases hlt : k < 32
    · have c1 := B1.cell k hlt
      have c2 := B2.cell k hlt
      obtain ⟨a, ha⟩ : ∃ a, x.1.getD k 0 = a := ⟨_, rfl⟩
      obtain ⟨b, hb⟩ : ∃ b, y.1.getD k 0 = b := ⟨_, rfl⟩
      rw [ha] at c1
      rw [hb] at c2
      have HA := aside ha
      have HB := aside hb
      clear ha hb
      have p0 : (k : Int) < 32 := by omega
      have o0 : 0 ≤ (k : Int) := by omega
      have m0 : ((k : Int)).toNat = k := by omega
      by_cases hab : a = b
      · subst hab
        go_wp2
        go_quiet (fail)
        go_wp2
        go_roundw
        case rel =>
          refine ⟨k + 1, by omega, by go_num, aside (fun j hj => ?_), B1.drewN _, B2.drewN _, G.drewN _⟩
          by_cases hjk : j = k
          · subst hjk
            rw [HA.out, HB.out]
          · exact he.out j (by omega)
        case measure => simp [intOf]; omega
      · have hne : (a != b) = true := by simpa using hab
        have hl : less x y = decide (a < b) := by
          rw [less_at k hlt he.out (by rw [HA.out, HB.out]; exact hab), HA.out, HB.out]
        rw [hr.out] at hl
        go_wp2
        go_quiet (fail)
        go_wp2
        go_quiet (fail)
        go_wp2
        go_ret
        exact ⟨by rw [hl]; rfl, (G.drewN _).drewN _⟩
    · have hk' : k = 32 := by omega
      have hxy : x = y := Idn_ext_at (fun i hi => he.out i (by omega))
      have hl : less x y = false := by rw [hxy]; exact less_irrefl _
      rw [hr.out] at hl
      go_wp2
      go_ret
      exact ⟨by rw [hl]; rfl, G⟩


set_option maxHeartbeats 1000000 in
theorem order_ret (x y : Idn) (w : World) : Calls Tryd.prog 52 #[.agg (cs x), .agg (cs y)] w fun e w' => e = .returned (.int .i64 (cf x y)) ∧ Grew w w' := by
  have B1 : Box ((w.alloc (.cells (cs x) 42)).alloc (.cells (cs y) 42)) w.heap.size x := (Box.new w x _).alloc _
  have B2 : Box ((w.alloc (.cells (cs x) 42)).alloc (.cells (cs y) 42)) (w.heap.size + 1) y := by
    have := Box.new (w.alloc (.cells (cs x) 42)) y 42
    simpa using this
  have G : Grew w ((w.alloc (.cells (cs x) 42)).alloc (.cells (cs y) 42)) := ((Grew.refl w).alloc _).alloc _
  have heq := fun W => equal W 9998 x y
  by_cases hxy : x = y
  · subst hxy
    have hc : cf x x = 0 := by simp [cf]
    simp only [decide_true] at heq
    rw [hc]
    go_enter Tryd.func52, Tryd.ntmps52
    go_wp2_with (first | (refine wpList_load_box rfl _ rfl _ rfl _ B1 ?_) | (refine wpList_load_box rfl _ rfl _ rfl _ B2 ?_))
    go_ret
    exact ⟨rfl, G⟩
  · simp only [hxy, decide_false] at heq
    cases hl : less x y with
    | true =>
      have hc : cf x y = -1 := by simp [cf, hxy, hl]
      rw [hc]
      go_enter Tryd.func52, Tryd.ntmps52
      go_wp2_with (first | (refine wpList_load_box rfl _ rfl _ rfl _ B1 ?_) | (refine wpList_load_box rfl _ rfl _ rfl _ B2 ?_))
      refine (less_ret x y _).mono ?_
      rintro e w1 ⟨rfl, h1⟩
      rw [hl]
      go_wp2
      go_ret
      exact ⟨rfl, G.trans h1⟩
    | false =>
      have hc : cf x y = 1 := by simp [cf, hxy, hl]
      rw [hc]
      go_enter Tryd.func52, Tryd.ntmps52
      go_wp2_with (first | (refine wpList_load_box rfl _ rfl _ rfl _ B1 ?_) | (refine wpList_load_box rfl _ rfl _ rfl _ B2 ?_))
      refine (less_ret x y _).mono ?_
      rintro e w1 ⟨rfl, h1⟩
      rw [hl]
      go_wp2
      go_ret
      exact ⟨rfl, G.trans h1⟩
end Go.Proofs.YteojkfbnenfmkaaDoor.IdC
