/- Events in memory. No condition. | Counts in memory. No condition. | Registers in memory. No condition. -/
import Derived.Test.YtnjdkjkihbgkaaaGreatRowFJ4
import Derived.Test.YtnjdkjkihbgkaaaGreatCtrM
import Derived.Test.YtnjdkjkihbgkaaaGreatStNJ2
import Derived.Laws.Cover1
import Derived.Test.YtnjdkjkihbgkaaaGreatRegL
namespace Go.Proofs.YtnjdkjkihbgkaaaGreat.StW
set_option maxRecDepth 100000
open Go Go.RowKit Byt

/-- An event. -/
structure Ev where
  node : Int
  seq : Int
def ec (e : Ev) : Array Value := #[.int .i64 e.node, .int .i64 e.seq]
def EE : Cel.Cel Ev where
  T := 30
  k := 2
  bytes := 16
  d := _
  enc e := [.int .i64 e.node, .int .i64 e.seq]
  zero := ⟨0, 0⟩
  len _ := rfl
  one c v hv := by
    simp only [List.mem_cons, List.not_mem_nil, or_false] at hv
    rcases hv with rfl | rfl <;> rfl
  pos := by omega
  info := by kernel_rfl
  under := Tryz.underlying30
  row := rfl
theorem ev_cells {w : World} {g : Nat} {e : Ev} (h : Cel.Box EE w g e) : w.cell? ⟨g, 0, none⟩ = some (.int .i64 e.node) ∧ w.cell? ⟨g, 1, none⟩ = some (.int .i64 e.seq) :=
  ⟨h.cell (j := 0) rfl, h.cell (j := 1) rfl⟩
/-- An event loaded whole, its cells written out. -/
theorem wpList_load_ev {ops : Array Oper} {rest : List Oper} {o : Oper} {a : Act} {w : World} {Q : Exit → Act → World → Prop} (hgd : o.guard = none) (x : Operand) (ho : o.op = .load 30 x)
    (g : Nat) (hx : a.eval x = .pointer (some ⟨g, 0, none⟩)) (e : Ev) (hb : Cel.Box EE w g e) (h : wpList Tryz.prog ops Q rest (a.put o.dst (.agg #[.int .i64 e.node, .int .i64 e.seq])) w) : wpList Tryz.prog ops Q (o :: rest) a w :=
  Cel.wpList_load_box EE hgd x ho g hx e hb h
theorem below_alloc (w : World) (o : Obj) : Below w.heap.size w (w.alloc o) := (Below.refl _ _).alloc (Nat.le_refl _) _
theorem ret_bool {a b : Bool} (h : a = b) : Ending.returned (.bool a) = .returned (.bool b) := by rw [h]
theorem ret_val {a b : Value} (h : a = b) : Ending.returned a = .returned b := by rw [h]
end Go.Proofs.YtnjdkjkihbgkaaaGreat.StW
namespace Go.Proofs.YtnjdkjkihbgkaaaGreat.CtrW
set_option maxRecDepth 100000
open Go Go.RowKit Byt OpsM Rise CtrM RowS

def E : Enc Cn where
  T := 75
  S := 22
  k := 2
  bytes := 24
  d := _
  enc c := [.string c.key, .int .i64 c.n]
  zero := ⟨⟨#[]⟩, 0⟩
  len _ := rfl
  one c v hv := by
    simp only [List.mem_cons, List.not_mem_nil, or_false] at hv
    rcases hv with rfl | rfl <;> rfl
  pos := by omega
  small := by omega
  info := by kernel_rfl
  slice := Tryz.underlying22
  under := Tryz.underlying75
  row := rfl
/-- The cells of one count, as the walk asks for them. -/
theorem cells {w : World} {b o : Nat} {c : Cn} (h : w.rangeAt b o (E.enc c)) : w.cell? ⟨b, o, none⟩ = some (.string c.key) ∧ w.cell? ⟨b, o + 1, none⟩ = some (.int .i64 c.n) :=
  ⟨h 0 _ rfl, h 1 _ rfl⟩
theorem plain {w : World} {A : Option Addr} {cap : Nat} {l : List Cn} (h : SlR E w A cap l) (hp : 0 < l.length) :
    ∃ b off, A = some ⟨b, off, none⟩ ∧ b < w.heap.size ∧ ∀ i x, l[i]? = some x → w.rangeAt b (off + i * 2) (E.enc x) := h.plain hp
/-- Numbers that may be in memory. -/
def Fits (l : List Cn) : Prop := ∀ c ∈ l, c.key.size ≤ 1099511627776 ∧ -9223372036854775808 ≤ c.n ∧ c.n ≤ 9223372036854775807
theorem getD_drop {l : List Cn} {i : Nat} {x : Cn} (h : l[i]? = some x) : l.drop i = x :: l.drop (i + 1) := by
  obtain ⟨hi, rfl⟩ := List.getElem?_eq_some_iff.1 h
  exact List.drop_eq_getElem_cons hi
theorem str_yes {a b : ByteArray} (h : a = b) : (a.toList == b.toList) = true := by rw [h]; simp
theorem str_no {a b : ByteArray} (h : a ≠ b) : (a.toList == b.toList) = false := by
  rw [beq_eq_false_iff_ne]
  exact fun e => h (Rise.toList_inj e)
/-- One text not above another one, as the walk asks. -/
theorem leq_no {a b : ByteArray} (h : ltS b a = true) : (Op.bytesLess a.toList b.toList || a.toList == b.toList) = false := by
  have h1 : Op.bytesLess a.toList b.toList = false := strictS.asymm h
  rw [h1, str_no (fun e => strictS.ne h e.symm)]
  rfl
theorem leq_yes {a b : ByteArray} (h : ltS b a = false) : (Op.bytesLess a.toList b.toList || a.toList == b.toList) = true := by
  cases hl : Op.bytesLess a.toList b.toList with
  | true => rfl
  | false =>
    rw [str_yes (strictS.tri a b hl h)]
    rfl
end Go.Proofs.YtnjdkjkihbgkaaaGreat.CtrW
namespace Go.Proofs.YtnjdkjkihbgkaaaGreat.RegW
set_option maxRecDepth 100000
open Go Go.RowKit Byt OpsM Rise RegM RowS

def E : Enc Rg where
  T := 43
  S := 23
  k := 5
  bytes := 56
  d := _
  enc c := [.string c.key, .string c.elem, .int .i64 c.gen, .int .i64 c.node, .int .i64 c.seq]
  zero := ⟨⟨#[]⟩, ⟨#[]⟩, 0, 0, 0⟩
  len _ := rfl
  one c v hv := by
    simp only [List.mem_cons, List.not_mem_nil, or_false] at hv
    rcases hv with rfl | rfl | rfl | rfl | rfl <;> rfl
  pos := by omega
  small := by omega
  info := by kernel_rfl
  slice := Tryz.underlying23
  under := Tryz.underlying43
  row := rfl
/-- A register's cells; none's. -/
def rc (c : Rg) : Array Value := #[.string c.key, .string c.elem, .int .i64 c.gen, .int .i64 c.node, .int .i64 c.seq]
def noR : Rg := ⟨⟨#[]⟩, ⟨#[]⟩, 0, 0, 0⟩
theorem rc_size (c : Rg) : (rc c).size = 5 := rfl
theorem info_rc (c : Rg) : (Tryz.prog.info? 43).map (·.size) = some (rc c).size := E.size' c
theorem info_rl (c : Rg) : (Tryz.prog.info? 43).map (·.size) = some (rc c).toList.length := E.size c
theorem rc_one (c : Rg) : (rc c).all (·.oneCell') = true := E.all c
/-- A block that holds one register. -/
def RgAt (w : World) (g : Nat) (c : Rg) : Prop := ∃ t, w.heap[g]? = some (.cells (rc c) t (0, 0))
theorem RgAt.lt {w : World} {g : Nat} {c : Rg} (h : RgAt w g c) : g < w.heap.size := by
  obtain ⟨t, ht⟩ := h
  exact (Array.getElem?_eq_some_iff.1 ht).1
theorem RgAt.block {w w' : World} {g B : Nat} {c : Rg} (h : RgAt w g c) (hb : Below B w w') (hg : g < B) : RgAt w' g c := by
  obtain ⟨t, ht⟩ := h
  exact ⟨t, by rw [hb.block g hg, ht]⟩
theorem RgAt.below {w w' : World} {g : Nat} {c : Rg} (h : RgAt w g c) (hb : Below w.heap.size w w') : RgAt w' g c := h.block hb h.lt
theorem RgAt.new (w : World) (c : Rg) (t : TypeId) : RgAt (w.alloc (.cells (rc c) t)) w.heap.size c := ⟨t, heap_alloc_new w _⟩
theorem RgAt.alloc {w : World} {g : Nat} {c : Rg} (h : RgAt w g c) (x : Obj) : RgAt (w.alloc x) g c := h.below ((Below.refl _ _).alloc (Nat.le_refl _) _)
theorem RgAt.range {w : World} {g : Nat} {c : Rg} (h : RgAt w g c) : w.rangeAt g 0 (E.enc c) := fun j v hv => by
  obtain ⟨t, ht⟩ := h
  rw [Nat.zero_add, cell_of_row w g j _ t (0, 0) ht, ← Array.getElem?_toList]
  exact hv
theorem RgAt.cells {w : World} {g : Nat} {c : Rg} (h : RgAt w g c) : w.cell? ⟨g, 0, none⟩ = some (.string c.key) ∧ w.cell? ⟨g, 1, none⟩ = some (.string c.elem) ∧ w.cell? ⟨g, 2, none⟩ = some (.int .i64 c.gen) ∧ w.cell? ⟨g, 3, none⟩ = some (.int .i64 c.node) ∧ w.cell? ⟨g, 4, none⟩ = some (.int .i64 c.seq) :=
  ⟨h.range 0 _ rfl, h.range 1 _ rfl, h.range 2 _ rfl, h.range 3 _ rfl, h.range 4 _ rfl⟩
/-- Its Ev alone: two cells at the third. -/
def ec (c : Rg) : List Value := [.int .i64 c.node, .int .i64 c.seq]
theorem ev_range {w : World} {b o : Nat} {c : Rg} (h : w.rangeAt b o (E.enc c)) : w.rangeAt b (o + 3) (ec c) := fun j v hv => by
  match j, hv with
  | 0, hv => exact h 3 v hv
  | 1, hv => exact h 4 v hv
/-- A load of one register out of a slice. -/
theorem wpList_load_reg {ops : Array Oper} {rest : List Oper} {o : Oper} {a : Act} {w : World} {Q : Exit → Act → World → Prop} (hgd : o.guard = none) (x : Operand) (ho : o.op = .load 43 x)
    (b off : Nat) (hx : a.eval x = .pointer (some ⟨b, off, none⟩)) (y : Rg) (hc : w.rangeAt b off (E.enc y)) (h : wpList Tryz.prog ops Q rest (a.put o.dst (.agg (rc y))) w) : wpList Tryz.prog ops Q (o :: rest) a w :=
  wpList_load_mid hgd 43 x ho b off hx (E.enc y) _ hc E.under E.row (E.size y) h
/-- The cells of one register, as the walk asks for them. -/
theorem cells {w : World} {b o : Nat} {c : Rg} (h : w.rangeAt b o (E.enc c)) : w.cell? ⟨b, o, none⟩ = some (.string c.key) ∧ w.cell? ⟨b, o + 1, none⟩ = some (.string c.elem) ∧ w.cell? ⟨b, o + 2, none⟩ = some (.int .i64 c.gen) ∧ w.cell? ⟨b, o + 3, none⟩ = some (.int .i64 c.node) ∧ w.cell? ⟨b, o + 4, none⟩ = some (.int .i64 c.seq) :=
  ⟨h 0 _ rfl, h 1 _ rfl, h 2 _ rfl, h 3 _ rfl, h 4 _ rfl⟩
theorem plain {w : World} {A : Option Addr} {cap : Nat} {l : List Rg} (h : SlR E w A cap l) (hp : 0 < l.length) :
    ∃ b off, A = some ⟨b, off, none⟩ ∧ b < w.heap.size ∧ ∀ i x, l[i]? = some x → w.rangeAt b (off + i * 5) (E.enc x) := h.plain hp
def In64 (x : Int) : Prop := -9223372036854775808 ≤ x ∧ x ≤ 9223372036854775807
theorem set_below {B g : Nat} (w : World) (hBg : B ≤ g) (cs : Array Value) : Below B w (w.setRow g cs) :=
  ⟨rfl, rfl, rfl, by simp [World.setRow], fun k hk => by simp only [World.setRow]; rw [Array.getElem?_modify, if_neg (by omega)]⟩
theorem set_other {g j : Nat} (w : World) (hj : j ≠ g) (cs : Array Value) : (w.setRow g cs).heap[j]? = w.heap[j]? := by
  simp only [World.setRow]
  rw [Array.getElem?_modify, if_neg (fun e => hj e.symm)]
/-- A register stored where one lies. -/
theorem wpList_store_reg {ops : Array Oper} {rest : List Oper} {o : Oper} {a : Act} {w : World} {Q : Exit → Act → World → Prop} (hgd : o.guard = none) (hd : o.dst = none) (x y : Operand) (ho : o.op = .store 43 x y)
    (g : Nat) (hx : a.eval x = .pointer (some ⟨g, 0, none⟩)) (old : Rg) (hc : RgAt w g old) (z : Rg) (hy : a.eval y = .agg (rc z))
    (h : ∀ w', RgAt w' g z → (∀ B, B ≤ g → Below B w w') → w.grownBy w' (some g) → wpList Tryz.prog ops Q rest a w') : wpList Tryz.prog ops Q (o :: rest) a w := by
  obtain ⟨t, ht⟩ := hc
  refine wpList_store_row hgd 43 x y ho g (rc z) hx hy t (rc old) ht (info_rc z) rfl (rc_one z) ?_
  rw [hd]
  exact h _ ⟨t, setRow_heap w g _ _ t (0, 0) ht⟩ (fun B hB => set_below w hB _) ⟨rfl, rfl, rfl, by simp [World.setRow], fun j _ hj => set_other w (fun e => hj (by rw [e])) _⟩
theorem below_alloc (w : World) (o : Obj) : Below w.heap.size w (w.alloc o) := (Below.refl _ _).alloc (Nat.le_refl _) _
/-- What may be in memory. -/
structure Fit (c : Rg) : Prop where
  key : c.key.size ≤ 1099511627776
  elem : c.elem.size ≤ 1099511627776
  gen : In64 c.gen
  node : In64 c.node
  seq : In64 c.seq
def Fits (l : List Rg) : Prop := ∀ c ∈ l, Fit c
theorem getD_drop {l : List Rg} {i : Nat} {x : Rg} (h : l[i]? = some x) : l.drop i = x :: l.drop (i + 1) := by
  obtain ⟨hi, rfl⟩ := List.getElem?_eq_some_iff.1 h
  exact List.drop_eq_getElem_cons hi
theorem str_yes {a b : ByteArray} (h : a = b) : (a.toList == b.toList) = true := by rw [h]; simp
theorem str_no {a b : ByteArray} (h : a ≠ b) : (a.toList == b.toList) = false := by
  rw [beq_eq_false_iff_ne]
  exact fun e => h (Rise.toList_inj e)
/-- One text above another one, as the walk asks. -/
theorem above (a b : ByteArray) : (!Op.bytesLess a.toList b.toList && !(a.toList == b.toList)) = ltS b a := by
  cases h : ltS b a with
  | true =>
    rw [show Op.bytesLess a.toList b.toList = false from strictS.asymm h, str_no (fun e => strictS.ne h e.symm)]
    rfl
  | false =>
    cases h2 : Op.bytesLess a.toList b.toList with
    | true => rfl
    | false =>
      rw [str_yes (strictS.tri a b h2 h)]
      rfl
end Go.Proofs.YtnjdkjkihbgkaaaGreat.RegW
