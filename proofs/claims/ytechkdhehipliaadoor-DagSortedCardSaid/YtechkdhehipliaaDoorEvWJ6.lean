/- Events in memory. No condition. | Two operations compared; whether an operation's texts are short. No condition. | Commits in memory: what a walk reads, makes and stores. No condition. | What the document's answer's Num, Fold, Unfold and Text of package enc return: contracts. | What the document's answer's Get of package enc returns: a contract. | Slices of ids written out in the program's text. No condition. -/
import Derived.Test.YtechkdhehipliaaDoorRowFJ4
import Derived.Test.YtechkdhehipliaaDoorOpsC
import Derived.Test.YtechkdhehipliaaDoorCmM
import Derived.Test.YtechkdhehipliaaDoorArrEqJ2
import Derived.Test.YtechkdhehipliaaDoorRowC
import Derived.Test.YtechkdhehipliaaDoorEncMJ6
namespace Go.Proofs.YtechkdhehipliaaDoor.StW
set_option maxRecDepth 100000
open Go Go.RowKit Byt

/-- An event. -/
structure Ev where
  node : Int
  seq : Int
def ec (e : Ev) : Array Value := #[.int .i64 e.node, .int .i64 e.seq]
def EE : Cel.Cel Ev where
  T := 28
  k := 2
  bytes := 16
  d := _
  enc e := [.int .i64 e.node, .int .i64 e.seq]
  zero := ⟨0, 0⟩
  len _ := rfl
  one c v hv := by
    simp only [List.mem_cons, List.not_mem_nil, or_false] at hv
    rcases hv with rfl | rfl <;> rfl
  pos := by omega
  info := by kernel_rfl
  under := Tryd.underlying28
  row := rfl
theorem ev_cells {w : World} {g : Nat} {e : Ev} (h : Cel.Box EE w g e) : w.cell? ⟨g, 0, none⟩ = some (.int .i64 e.node) ∧ w.cell? ⟨g, 1, none⟩ = some (.int .i64 e.seq) :=
  ⟨h.cell (j := 0) rfl, h.cell (j := 1) rfl⟩
/-- An event loaded whole, its cells written out. -/
theorem wpList_load_ev {ops : Array Oper} {rest : List Oper} {o : Oper} {a : Act} {w : World} {Q : Exit → Act → World → Prop} (hgd : o.guard = none) (x : Operand) (ho : o.op = .load 28 x)
    (g : Nat) (hx : a.eval x = .pointer (some ⟨g, 0, none⟩)) (e : Ev) (hb : Cel.Box EE w g e) (h : wpList Tryd.prog ops Q rest (a.put o.dst (.agg #[.int .i64 e.node, .int .i64 e.seq])) w) : wpList Tryd.prog ops Q (o :: rest) a w :=
  Cel.wpList_load_box EE hgd x ho g hx e hb h
theorem below_alloc (w : World) (o : Obj) : Below w.heap.size w (w.alloc o) := (Below.refl _ _).alloc (Nat.le_refl _) _
theorem ret_bool {a b : Bool} (h : a = b) : Ending.returned (.bool a) = .returned (.bool b) := by rw [h]
theorem ret_val {a b : Value} (h : a = b) : Ending.returned a = .returned b := by rw [h]
end Go.Proofs.YtechkdhehipliaaDoor.StW
namespace Go.Proofs.YtechkdhehipliaaDoor.OpsE
set_option maxRecDepth 100000
open Go Go.RowKit Go.Sort Byt OpsM OpsK OpsW OpsC

/-- Are two operations the same? -/
def sameB (x y : Opn) : Bool := decide (x.kind = y.kind) && (decide (x.key.toList = y.key.toList) && (decide (x.elem.toList = y.elem.toList) && decide (x.n = y.n)))
theorem sameB_iff {x y : Opn} : sameB x y = true ↔ x = y := by
  unfold sameB
  simp only [Bool.and_eq_true, decide_eq_true_eq]
  constructor
  · rintro ⟨h1, h2, h3, h4⟩
    cases x; cases y
    simp only at h1 h2 h3 h4
    rw [toList_inj] at h2 h3
    subst h1 h2 h3 h4
    rfl
  · rintro rfl; exact ⟨rfl, rfl, rfl, rfl⟩
theorem sameB_self (x : Opn) : sameB x x = true := sameB_iff.2 rfl
theorem equal (w : World) (x y : Opn) : (Op.equalIn 10000 31 (.agg (opc x)) (.agg (opc y))).run Tryd.prog w = .ok (sameB x y) w := by
  have hS : Tryd.prog.underlying 31 = some (.struct (Tryd.prog.fieldsOf 31)) := by kernel_rfl
  rw [show (10000 : Nat) = 9999 + 1 from rfl, run_equalIn_agg w 9999 31 _ _ hS (by kernel_rfl)]
  simp only [Program.fieldsOf, Tryd.underlying31, opc]
  go_simp
  unfold sameB
  split
  · split
    · split
      · split <;> simp_all
      · simp_all
    · simp_all
  · simp_all
theorem equal_yes (x : Opn) : ∀ W : World, (Op.equalIn 10000 31 (.agg (opc x)) (.agg (opc x))).run Tryd.prog W = .ok true W := fun W => by rw [equal, sameB_self]

def shortB (o : Opn) : Bool := decide (o.key.size ≤ 100) && decide (o.elem.size ≤ 100)

/-- One that may be is one that a walk may meet. -/
theorem mayO_fit {o : Opn} (h : mayO o = true) : Fit o := by
  obtain ⟨hk, hr⟩ := mayO_kind h
  have h1 := keyL_len hk
  have h2 := bytesL_length o.key
  have h3 := bytesL_length o.elem
  rcases hr with ⟨h0, hs⟩ | ⟨h0, he⟩
  · rw [stepB_iff] at hs
    obtain ⟨a, b, _, d⟩ := hs
    rw [d] at h3
    simp at h3
    exact ⟨by unfold I64; omega, by unfold I64; omega, by unfold maxLen; omega, by unfold maxLen; omega⟩
  · rw [elemB_iff] at he
    have := keyL_len he.1
    exact ⟨by unfold I64; omega, by unfold I64; omega, by unfold maxLen; omega, by unfold maxLen; omega⟩
/-- A guarded operation that is wanted, as one without a guard. -/
theorem unguard {P : Program} {ops : Array Oper} {rest : List Oper} {o : Oper} {a : Act} {w : World} {Q : Exit → Act → World → Prop} (hw : Region.wanted o (yielded ops a.tmps) = true)
    (h : wpList P ops Q ({ o with guard := none } :: rest) a w) : wpList P ops Q (o :: rest) a w := by
  unfold wpList at h ⊢
  rw [if_pos hw]
  rw [if_pos (by simp [Region.wanted])] at h
  exact h
end Go.Proofs.YtechkdhehipliaaDoor.OpsE
namespace Go.Proofs.YtechkdhehipliaaDoor.CmW
set_option maxRecDepth 100000
open Go Go.Sort Go.RowKit Byt IdM IdW OpsM OpsW CmM StW

/-- A commit whose parents lie in a slice. -/
structure Cv where
  a : Option Addr
  k : Nat
  c : Com
def noV : Cv := ⟨none, 0, noK⟩
/-- A commit's cells. -/
def cc (v : Cv) : Array Value := #[.int .i64 v.c.node, .int .i64 v.c.seq, .int .i64 v.c.gen, .slice v.a v.c.ps.length v.k, .int .i64 v.c.op.kind, .string v.c.op.key, .string v.c.op.elem, .int .i64 v.c.op.n]
def CE : Cel.Cel Cv where
  T := 33
  k := 8
  bytes := 96
  d := _
  enc v := [.int .i64 v.c.node, .int .i64 v.c.seq, .int .i64 v.c.gen, .slice v.a v.c.ps.length v.k, .int .i64 v.c.op.kind, .string v.c.op.key, .string v.c.op.elem, .int .i64 v.c.op.n]
  zero := noV
  len _ := rfl
  one c v hv := by
    simp only [List.mem_cons, List.not_mem_nil, or_false] at hv
    rcases hv with rfl | rfl | rfl | rfl | rfl | rfl | rfl | rfl <;> rfl
  pos := by omega
  info := by kernel_rfl
  under := Tryd.underlying33
  row := rfl
/-- The slice holds the parents. -/
def In (w : World) (v : Cv) : Prop := SlI w v.a v.k v.c.ps
theorem In.below {w w' : World} {v : Cv} (h : In w v) (hb : Below w.heap.size w w') : In w' v := SlI.below h hb
theorem In.none (w : World) : In w noV := SlI.nil w
/-- A commit that is made of numbers of 64 bits, and of texts that a machine has room for. -/
structure Fit (c : Com) : Prop where
  node : I64 c.node
  seq : I64 c.seq
  gen : I64 c.gen
  op : OpsC.Fit c.op
section
variable {w : World} {g : Nat} {v : Cv}
theorem cell_node (h : Cel.Box CE w g v) : w.cell? ⟨g, 0, none⟩ = some (.int .i64 v.c.node) := h.cell (j := 0) rfl
theorem cell_seq (h : Cel.Box CE w g v) : w.cell? ⟨g, 1, none⟩ = some (.int .i64 v.c.seq) := h.cell (j := 1) rfl
theorem cell_gen (h : Cel.Box CE w g v) : w.cell? ⟨g, 2, none⟩ = some (.int .i64 v.c.gen) := h.cell (j := 2) rfl
theorem cell_ps (h : Cel.Box CE w g v) : w.cell? ⟨g, 3, none⟩ = some (.slice v.a v.c.ps.length v.k) := h.cell (j := 3) rfl
theorem cell_kind (h : Cel.Box CE w g v) : w.cell? ⟨g, 4, none⟩ = some (.int .i64 v.c.op.kind) := h.cell (j := 4) rfl
theorem cell_key (h : Cel.Box CE w g v) : w.cell? ⟨g, 5, none⟩ = some (.string v.c.op.key) := h.cell (j := 5) rfl
theorem cell_elem (h : Cel.Box CE w g v) : w.cell? ⟨g, 6, none⟩ = some (.string v.c.op.elem) := h.cell (j := 6) rfl
theorem cell_n (h : Cel.Box CE w g v) : w.cell? ⟨g, 7, none⟩ = some (.int .i64 v.c.op.n) := h.cell (j := 7) rfl
theorem range_ev (h : Cel.Box CE w g v) : w.rangeAt g 0 (EE.enc ⟨v.c.node, v.c.seq⟩) := fun j u hu => by
  rw [Nat.zero_add]
  match j, hu with
  | 0, hu => exact (Option.some.inj hu) ▸ cell_node h
  | 1, hu => exact (Option.some.inj hu) ▸ cell_seq h
  | j + 2, hu => simp [EE] at hu
theorem range_op (h : Cel.Box CE w g v) : w.rangeAt g 4 (opc v.c.op).toList := fun j u hu => by
  match j, hu with
  | 0, hu => exact (Option.some.inj hu) ▸ cell_kind h
  | 1, hu => exact (Option.some.inj hu) ▸ cell_key h
  | 2, hu => exact (Option.some.inj hu) ▸ cell_elem h
  | 3, hu => exact (Option.some.inj hu) ▸ cell_n h
  | j + 4, hu => simp [opc] at hu
end
section
variable {ops : Array Oper} {rest : List Oper} {o : Oper} {a : Act} {w : World} {Q : Exit → Act → World → Prop}
/-- Its event, and its operation, loaded whole out of a commit's block; also where that is guarded, and wanted. -/
theorem wpList_load_kev (hgd : o.guard = none) (x : Operand) (ho : o.op = .load 28 x)
    (g : Nat) (hx : a.eval x = .pointer (some ⟨g, 0, none⟩)) (v : Cv) (hb : Cel.Box CE w g v) (h : wpList Tryd.prog ops Q rest (a.put o.dst (.agg #[.int .i64 v.c.node, .int .i64 v.c.seq])) w) : wpList Tryd.prog ops Q (o :: rest) a w :=
  wpList_load_mid hgd EE.T x ho g 0 hx (EE.enc ⟨v.c.node, v.c.seq⟩) _ (range_ev hb) EE.under EE.row (EE.size _) h
theorem wpList_load_kop (hgd : o.guard = none) (x : Operand) (ho : o.op = .load 31 x)
    (g : Nat) (hx : a.eval x = .pointer (some ⟨g, 4, none⟩)) (v : Cv) (hb : Cel.Box CE w g v) (h : wpList Tryd.prog ops Q rest (a.put o.dst (.agg (opc v.c.op))) w) : wpList Tryd.prog ops Q (o :: rest) a w :=
  wpList_load_mid hgd 31 x ho g 4 hx (opc v.c.op).toList _ (range_op hb) Tryd.underlying31 rfl (info_opl v.c.op) h
theorem gkev (x : Operand) (ho : o.op = .load 28 x)
    (g : Nat) (hx : a.eval x = .pointer (some ⟨g, 0, none⟩)) (v : Cv) (hb : Cel.Box CE w g v) (hw : Region.wanted o (yielded ops a.tmps) = true) (h : wpList Tryd.prog ops Q rest (a.put o.dst (.agg #[.int .i64 v.c.node, .int .i64 v.c.seq])) w) : wpList Tryd.prog ops Q (o :: rest) a w :=
  RowC.unguard hw (wpList_load_kev rfl x ho g hx v hb h)
theorem gkop (x : Operand) (ho : o.op = .load 31 x)
    (g : Nat) (hx : a.eval x = .pointer (some ⟨g, 4, none⟩)) (v : Cv) (hb : Cel.Box CE w g v) (hw : Region.wanted o (yielded ops a.tmps) = true) (h : wpList Tryd.prog ops Q rest (a.put o.dst (.agg (opc v.c.op))) w) : wpList Tryd.prog ops Q (o :: rest) a w :=
  RowC.unguard hw (wpList_load_kop rfl x ho g hx v hb h)
theorem gload (x : Operand) (ho : o.op = .load 33 x)
    (g : Nat) (hx : a.eval x = .pointer (some ⟨g, 0, none⟩)) (v : Cv) (hb : Cel.Box CE w g v) (hw : Region.wanted o (yielded ops a.tmps) = true) (h : wpList Tryd.prog ops Q rest (a.put o.dst (.agg (cc v))) w) : wpList Tryd.prog ops Q (o :: rest) a w :=
  RowC.unguard hw (Cel.wpList_load_box CE rfl x ho g hx v hb h)
end
/-- Two events, two operations, compared. -/
def sameE (a b m n : Int) : Bool := decide (a = m) && decide (b = n)
theorem equal_ev (d : Nat) (w : World) (a b m n : Int) : (Op.equalIn (d + 1 + 1) 28 (.agg #[.int .i64 a, .int .i64 b]) (.agg #[.int .i64 m, .int .i64 n])).run Tryd.prog w = .ok (sameE a b m n) w := by
  have hE : Tryd.prog.underlying 28 = some (.struct (Tryd.prog.fieldsOf 28)) := by kernel_rfl
  rw [run_equalIn_agg w (d + 1) 28 _ _ hE (by kernel_rfl)]
  simp only [Program.fieldsOf, Tryd.underlying28]
  unfold sameE
  go_simp
  by_cases h1 : a = m <;> by_cases h2 : b = n <;> simp [h1, h2]
theorem sameE_iff {a b m n : Int} : sameE a b m n = true ↔ a = m ∧ b = n := by
  unfold sameE
  simp only [Bool.and_eq_true, decide_eq_true_eq]
theorem equal_nought (w : World) (o : Opn) : (Op.equalIn 10000 31 (.agg (opc o)) (.agg #[.int .i64 0, .string ⟨#[]⟩, .string ⟨#[]⟩, .int .i64 0])).run Tryd.prog w = .ok (noughtO o) w := by
  have e0 : OpsE.sameB o noO = noughtO o := by
    rw [Bool.eq_iff_iff, OpsE.sameB_iff, noughtO_iff]
  rw [← e0]
  exact OpsE.equal w o noO
/-- A commit, and an error's number, are handed back. -/
def NewK (c : Com) (n : Int) (w : World) (e : Ending) (w' : World) : Prop := ∃ v, e = .returned (.tuple #[.agg (cc v), .int .i64 n]) ∧ v.c = c ∧ In w' v ∧ Below w.heap.size w w'
end Go.Proofs.YtechkdhehipliaaDoor.CmW
namespace Go.Proofs.YtechkdhehipliaaDoor.RefE
set_option maxRecDepth 100000
open Go.RowKit Byt EncM EncC



end Go.Proofs.YtechkdhehipliaaDoor.RefE
namespace Go.Proofs.YtechkdhehipliaaDoor.RefF
set_option maxRecDepth 100000
open Go.RowKit Byt BytR EncM EncC RefE

/-- Ahead of byte i: what those ahead of it are together, and the place's worth; behind the tenth byte there is no number. -/
def GInv (bs : List Int) (i n p : Nat) : Prop :=
  (i ≤ 9 ∧ p = 2 ^ (7 * i) ∧ n < 2 ^ (7 * i) ∧ getL bs = getG i n (bs.drop i)) ∨ (i = 10 ∧ getL bs = (0, 0))
theorem ginv_start (bs : List Int) : GInv bs 0 0 1 := .inl ⟨by omega, rfl, by simp, rfl⟩
theorem pw_le (i : Nat) (h : i ≤ 9) : 2 ^ (7 * i) ≤ 9223372036854775808 := by
  have : 2 ^ (7 * i) ≤ 2 ^ 63 := Nat.pow_le_pow_right (by omega) (by omega)
  omega
theorem drop_cons {bs : List Int} {i : Nat} (h : i < bs.length) : bs.drop i = bs[i]?.getD 0 :: bs.drop (i + 1) := by
  rw [List.drop_eq_getElem_cons h, List.getElem?_eq_getElem h]
  rfl
/-- One byte more that is not the last one. -/
theorem ginv_more {bs : List Int} {i n p : Nat} {y : Int} (h : GInv bs i n p) (hi : i < bs.length) (hi2 : i < 10) (hy : bs[i]?.getD 0 = y) (hy1 : 128 ≤ y) :
    GInv bs (i + 1) ((n + p * (y % 128).toNat) % 18446744073709551616) (p * 128 % 18446744073709551616) := by
  rcases h with ⟨h1, rfl, h3, h4⟩ | ⟨h1, _⟩
  · rw [drop_cons hi, hy] at h4
    simp only [getG] at h4
    rw [if_neg (by omega), if_neg (by omega : ¬ y < 128)] at h4
    have hd : (y % 128).toNat ≤ 127 := by omega
    have hle : (y % 128).toNat * 2 ^ (7 * i) ≤ 127 * 2 ^ (7 * i) := Nat.mul_le_mul_right _ hd
    have hs := pw_succ i
    by_cases h9 : i = 9
    · refine .inr ⟨by omega, ?_⟩
      rw [h4]
      split
      · rfl
      · subst h9
        cases hq : bs.drop (9 + 1) with
        | nil => rfl
        | cons b r => simp [getG]
    · have hp := pw_le (i + 1) (by omega)
      rw [if_neg (by omega)] at h4
      refine .inl ⟨by omega, ?_, ?_, ?_⟩
      · rw [Nat.mod_eq_of_lt (by omega)]; omega
      · rw [Nat.mul_comm (2 ^ (7 * i)), Nat.mod_eq_of_lt (by omega)]; omega
      · rw [Nat.mul_comm (2 ^ (7 * i)), Nat.mod_eq_of_lt (by omega)]; exact h4
  · omega
/-- The last byte: the number is told just if it is put as these bytes. -/
theorem ginv_last {bs : List Int} (hb : ∀ x ∈ bs, B x) {i n p : Nat} {y : Int} (h : GInv bs i n p) (hi : i < bs.length) (hi2 : i < 10) (hy : bs[i]?.getD 0 = y) (hy1 : y < 128) :
    getL bs = if numL ((n + p * (y % 128).toNat) % 18446744073709551616) = bs.take (i + 1) then ((n + p * (y % 128).toNat) % 18446744073709551616, i + 1) else (0, 0) := by
  rcases h with ⟨h1, rfl, h3, h4⟩ | ⟨h1, _⟩
  · obtain ⟨m, hm⟩ : ∃ m, (n + 2 ^ (7 * i) * (y % 128).toNat) % 18446744073709551616 = m := ⟨_, rfl⟩
    have hm2 : m < 18446744073709551616 := by omega
    rw [hm]
    split
    · rename_i he
      have q := getL_num m (bs.drop (i + 1)) hm2
      rw [he, List.take_append_drop, List.length_take, Nat.min_eq_left (by omega)] at q
      exact q
    · rename_i he
      by_cases hz : (getL bs).2 = 0
      · exact getL_zero hz
      · exfalso
        apply he
        obtain ⟨q1, _, _, _, q5⟩ := getL_back hb (N := (getL bs).1) (k := (getL bs).2) rfl hz
        rw [drop_cons hi, hy] at h4
        simp only [getG] at h4
        rw [if_neg (by omega)] at h4
        by_cases hov : 18446744073709551616 ≤ n + (y % 128).toNat * 2 ^ (7 * i)
        · rw [if_pos hov] at h4; rw [h4] at hz; exact absurd rfl hz
        · rw [if_neg hov, if_pos hy1] at h4
          by_cases hz2 : (y % 128).toNat = 0 ∧ 0 < i
          · rw [if_pos hz2] at h4; rw [h4] at hz; exact absurd rfl hz
          · rw [if_neg hz2] at h4
            rw [h4] at q5
            have e : n + (y % 128).toNat * 2 ^ (7 * i) = m := by rw [← hm, Nat.mul_comm (2 ^ (7 * i)), Nat.mod_eq_of_lt (by omega)]
            simp only [e] at q5
            exact q5.symm
  · omega
/-- Behind all bytes there is no number. -/
theorem ginv_end {bs : List Int} {i n p : Nat} (h : GInv bs i n p) (hi : bs.length ≤ i ∨ 10 ≤ i) : getL bs = (0, 0) := by
  rcases h with ⟨h1, _, _, h4⟩ | ⟨_, h⟩
  · rw [h4, List.drop_eq_nil_of_le (by omega)]
    rfl
  · exact h
theorem numL_B (n : Nat) : ∀ x ∈ numL n, B x := numL_range n

end Go.Proofs.YtechkdhehipliaaDoor.RefF
namespace Go.Proofs.YtechkdhehipliaaDoor.IdB
set_option maxRecDepth 100000
open Go Go.RowKit IdM Byt IdW

theorem fold_at : ∀ (l : List Value) (s k : Nat) (base : Array Value) (i : Nat),
    ((l.zipIdx s).foldl (fun cs (x : Value × Nat) => cs.setIfInBounds (k + x.2) x.1) base)[i]? = if k + s ≤ i ∧ i < k + s + l.length ∧ i < base.size then l[i - (k + s)]? else base[i]?
  | [], s, k, base, i => by
    rw [List.zipIdx_nil, List.foldl_nil, if_neg (by simp; omega)]
  | v :: l, s, k, base, i => by
    rw [List.zipIdx_cons, List.foldl_cons, fold_at l (s + 1) k _ i]
    simp only [Array.size_setIfInBounds, List.length_cons, Array.getElem?_setIfInBounds]
    by_cases h1 : k + (s + 1) ≤ i ∧ i < k + (s + 1) + l.length ∧ i < base.size
    · rw [if_pos h1, if_pos (by omega), show i - (k + s) = (i - (k + (s + 1))) + 1 by omega, List.getElem?_cons_succ]
    · rw [if_neg h1]
      by_cases h2 : k + s = i
      · subst h2
        by_cases h3 : k + s < base.size
        · rw [if_pos rfl, if_pos h3, if_pos (by omega), Nat.sub_self, List.getElem?_cons_zero]
        · rw [if_pos rfl, if_neg h3, if_neg (by omega), Array.getElem?_eq_none (by omega)]
      · rw [if_neg h2, if_neg (by omega)]
theorem put_cells (pre olds : List Idn) (o y : Idn) (k : Nat) (hk : pre.length = k) :
    (cs y).zipIdx.foldl (fun c (x : Value × Nat) => c.setIfInBounds (k * 32 + x.2) x.1) (bv (flat (pre ++ o :: olds))).toArray = (bv (flat (pre ++ y :: olds))).toArray := by
  subst hk
  have e : (cs y).zipIdx.foldl (fun c (x : Value × Nat) => c.setIfInBounds (pre.length * 32 + x.2) x.1) (bv (flat (pre ++ o :: olds))).toArray = ((bv y.1).zipIdx 0).foldl (fun c (x : Value × Nat) => c.setIfInBounds (pre.length * 32 + x.2) x.1) (bv (flat (pre ++ o :: olds))).toArray := by
    rw [← Array.foldl_toList]
    simp [cs]
  rw [e]
  apply Array.ext_getElem?
  intro i
  rw [fold_at]
  simp only [Nat.add_zero, bv_length, Idn_len, List.getElem?_toArray, List.size_toArray, flat_length]
  have L : ∀ z : Idn, (bv (flat (pre ++ z :: olds))) = bv (flat pre) ++ (bv z.1 ++ bv (flat olds)) := fun z => by rw [flat_append, flat_cons, bv_append, bv_append]
  have lp : (bv (flat pre)).length = pre.length * 32 := by rw [bv_length, flat_length]
  have lz : ∀ z : Idn, (bv z.1).length = 32 := fun z => by rw [bv_length, Idn_len]
  simp only [List.length_append, List.length_cons]
  rw [L, L]
  by_cases h1 : i < pre.length * 32
  · rw [if_neg (by omega), List.getElem?_append_left (by omega), List.getElem?_append_left (by omega)]
  · by_cases h2 : i < pre.length * 32 + 32
    · rw [if_pos (by omega), List.getElem?_append_right (by omega), lp, List.getElem?_append_left (by rw [lz]; omega)]
    · have key : ∀ z : Idn, (bv (flat pre) ++ (bv z.1 ++ bv (flat olds)))[i]? = (bv (flat olds))[i - pre.length * 32 - 32]? := fun z => by
        rw [List.getElem?_append_right (by omega), lp, List.getElem?_append_right (by rw [lz]; omega), lz]
      rw [if_neg (by omega), key, key]
theorem fill_ids : ∀ (ys pre olds : List Idn) (k : Nat), pre.length = k → olds.length = ys.length →
    Instr.fill (fun i => some (i * 32, 32)) (bv (flat (pre ++ olds))).toArray ((ys.zipIdx k).map fun (x : Idn × Nat) => (x.2, .agg (cs x.1))) = some (bv (flat (pre ++ ys))).toArray
  | [], pre, olds, k, _, ho => by
    have : olds = [] := List.eq_nil_of_length_eq_zero (by simpa using ho)
    subst this
    rfl
  | y :: ys, pre, [], k, _, ho => by simp at ho
  | y :: ys, pre, o :: olds, k, hk, ho => by
    have ih := fill_ids ys (pre ++ [y]) olds (k + 1) (by simp [hk]) (by simpa using ho)
    rw [List.append_assoc, List.append_assoc, List.singleton_append, List.singleton_append] at ih
    rw [List.zipIdx_cons, List.map_cons]
    have hc : ¬ ((decide ((Value.agg (cs y)).cells.size ≠ 32) || decide (k * 32 + (Value.agg (cs y)).cells.size > (bv (flat (pre ++ o :: olds))).toArray.size)) = true) := by
      simp only [Value.cells, cs_size, List.size_toArray, bv_length, flat_length, List.length_append, List.length_cons]
      simp
      omega
    have e := put_cells pre olds o y k hk
    show (if ((decide ((Value.agg (cs y)).cells.size ≠ 32) || decide (k * 32 + (Value.agg (cs y)).cells.size > (bv (flat (pre ++ o :: olds))).toArray.size)) = true) then none else Instr.fill (fun i => some (i * 32, 32)) ((cs y).zipIdx.foldl (fun c (x : Value × Nat) => c.setIfInBounds (k * 32 + x.2) x.1) (bv (flat (pre ++ o :: olds))).toArray) ((ys.zipIdx (k + 1)).map fun (x : Idn × Nat) => (x.2, .agg (cs x.1)))) = _
    rw [if_neg hc, e]
    exact ih
theorem zeros (z : Idn) (n : Nat) : (Array.range (n * 32)).map (fun i => (cs z)[i % (cs z).size]!) = (bv (flat (List.replicate n z))).toArray := by
  apply Array.ext_getElem?
  intro i
  have e : (bv (flat (List.replicate n z))).toArray[i]? = (bv (flat (List.replicate n z)))[i]? := by simp
  rw [e]
  by_cases hi : i < n * 32
  · have hm : i % 32 < 32 := by omega
    have f := flat_at (List.replicate n z) (i / 32) (i % 32) (by simp; omega) hm
    rw [show i / 32 * 32 + i % 32 = i by omega] at f
    rw [bv_at _ (by rw [flat_length]; simpa using hi), f]
    have q : (List.replicate n z).getD (i / 32) nought = z := by
      rw [List.getD_eq_getElem?_getD, List.getElem?_replicate, if_pos (by omega)]
      rfl
    rw [q]
    simp only [Array.getElem?_map, Array.getElem?_range, if_pos hi, Option.map_some, cs_size]
    rw [Array.getElem!_eq_getD, Array.getD_eq_getD_getElem?, cs_at z _ hm]
    rfl
  · rw [Array.getElem?_eq_none (by simp; omega), List.getElem?_eq_none (by rw [bv_length, flat_length]; simp; omega)]
theorem zero_v (w : World) : (zeroValue 43).run Tryd.prog w = .ok (.agg (cs nought)) w := by
  obtain ⟨i, hi, z0, z1, _⟩ := info_parts zero_id
  simp [zeroValue, typeInfo, hi, z0]
theorem size_v (w : World) : (sizeOf 43).run Tryd.prog w = .ok 32 w := by
  obtain ⟨i, hi, z0, z1, _⟩ := info_parts zero_id
  simp [sizeOf, typeInfo, hi, z1]
theorem run_build (w : World) (ys : List Idn) (h0 : 0 < ys.length) (h1 : ys.length ≤ 100) :
    (Instr.buildSlice 29 ys.length (ys.zipIdx.map fun (x : Idn × Nat) => (x.2, .agg (cs x.1))).toArray).run Tryd.prog w = .ok (.slice (some ⟨w.heap.size, 0, none⟩) ys.length ys.length) (w.alloc (.cells (bv (flat ys)).toArray 43)) := by
  have n1 : ¬ ys.length * 32 > 2 ^ 24 := by omega
  have n2 : ¬ ys.length * 32 = 0 := by omega
  have f := fill_ids ys [] (List.replicate ys.length nought) 0 rfl (by simp)
  rw [List.nil_append, List.nil_append] at f
  have zr := zeros nought ys.length
  have zv := zero_v
  have sv := size_v
  generalize nought = z at f zr zv
  unfold Instr.buildSlice
  simp only [Sem.run_bind, run_underlying Tryd.underlying29, Result.andThen_ok, sv, n1, n2, if_false, Sem.run_pure, zv, Value.cells, zr, f, newRow]
  rfl
/-- One id, and three. -/
theorem run_build1 (w : World) (y : Idn) : (Instr.buildSlice 29 1 #[(0, .agg (cs y))]).run Tryd.prog w = .ok (.slice (some ⟨w.heap.size, 0, none⟩) 1 1) (w.alloc (.cells (cs y) 43)) := by
  have := run_build w [y] (by simp) (by simp)
  rw [flat_one] at this
  exact this
theorem run_build3 (w : World) (x y z : Idn) : (Instr.buildSlice 29 3 #[(0, .agg (cs x)), (1, .agg (cs y)), (2, .agg (cs z))]).run Tryd.prog w = .ok (.slice (some ⟨w.heap.size, 0, none⟩) 3 3) (w.alloc (.cells (bv (flat [x, y, z])).toArray 43)) :=
  run_build w [x, y, z] (by simp) (by simp)
theorem wpList_build1 {w : World} {ops : Array Oper} {rest : List Oper} {o : Oper} {a : Act} {Q : Exit → Act → World → Prop} (hgd : o.guard = none) (x : Operand) (ho : o.op = .buildSlice 29 1 #[(0, x)])
    (y : Idn) (hx : a.eval x = .agg (cs y)) (h : wpList Tryd.prog ops Q rest (a.put o.dst (.slice (some ⟨w.heap.size, 0, none⟩) 1 1)) (w.alloc (.cells (cs y) 43))) : wpList Tryd.prog ops Q (o :: rest) a w := by
  refine wpList_plain hgd fun K hK => ?_
  unfold Oper.wp execOp
  simp only [ho, List.map_toArray, List.map_cons, List.map_nil, hx, Sem.run_bind, run_build1, Result.andThen_ok, Sem.run_pure]
  exact hK _ _ h
end Go.Proofs.YtechkdhehipliaaDoor.IdB
