/- One struct in a block of its own, whatever its fields, also where the program has no slice of such: made, stored, read. No condition. | Counts in memory. No condition. | Registers in memory. No condition. -/
import Derived.Test.YtnjdkjkihbgkaaaGreatRowFJ3
import Derived.Test.YtnjdkjkihbgkaaaGreatGrowJ4
import Derived.Test.YtnjdkjkihbgkaaaGreatCtrM
import Derived.Test.YtnjdkjkihbgkaaaGreatStNJ2
import Derived.Laws.Cover1
import Derived.Test.YtnjdkjkihbgkaaaGreatRegL
namespace Go.Proofs.YtnjdkjkihbgkaaaGreat.Cel
set_option maxRecDepth 100000
open Go Go.Sort Go.RowKit Byt RowS RowB RowH RowJ

/-- How a struct lies in memory: its type, and the cells of each value. -/
structure Cel (α : Type) where
  T : TypeId
  k : Nat
  bytes : Nat
  d : TypeDesc
  enc : α → List Value
  zero : α
  len : ∀ x, (enc x).length = k
  one : ∀ x, ∀ v ∈ enc x, v.oneCell' = true
  pos : 0 < k
  info : (Tryz.prog.info? T).map (fun i => (i.zero, i.size, i.bytes)) = some (some (.agg (enc zero).toArray), k, bytes)
  under : Tryz.prog.underlying T = some d
  row : d.isRow = true
variable {α : Type} {E : Cel α}
theorem Cel.size (E : Cel α) (x : α) : (Tryz.prog.info? E.T).map (·.size) = some (E.enc x).length := by
  have h := E.info
  cases hq : Tryz.prog.info? E.T with
  | none => rw [hq] at h; cases h
  | some i =>
    rw [hq] at h
    simp only [Option.map_some, Option.some.injEq, Prod.mk.injEq] at h
    simp [h.2.1, E.len]
theorem Cel.size' (E : Cel α) (x : α) : (Tryz.prog.info? E.T).map (·.size) = some (E.enc x).toArray.size := by rw [List.size_toArray]; exact E.size x
theorem Cel.all (E : Cel α) (x : α) : (E.enc x).toArray.all (·.oneCell') = true := Array.all_eq_true_iff_forall_mem.2 (fun v hv => E.one x v (by simpa using hv))
/-- Block g holds the struct x. -/
def Box (E : Cel α) (w : World) (g : Nat) (x : α) : Prop := ∃ t, w.heap[g]? = some (.cells (E.enc x).toArray t (0, 0))
theorem Box.lt {w : World} {g : Nat} {x : α} (h : Box E w g x) : g < w.heap.size := by
  obtain ⟨t, ht⟩ := h
  exact (Array.getElem?_eq_some_iff.1 ht).1
theorem Box.block {w w' : World} {g B : Nat} {x : α} (h : Box E w g x) (hb : Below B w w') (hg : g < B) : Box E w' g x := by
  obtain ⟨t, ht⟩ := h
  exact ⟨t, by rw [hb.block g hg, ht]⟩
theorem Box.below {w w' : World} {g : Nat} {x : α} (h : Box E w g x) (hb : Below w.heap.size w w') : Box E w' g x := h.block hb h.lt
theorem Box.new (w : World) (x : α) (t : TypeId) : Box E (w.alloc (.cells (E.enc x).toArray t)) w.heap.size x := ⟨t, heap_alloc_new w _⟩
theorem Box.alloc {w : World} {g : Nat} {x : α} (h : Box E w g x) (o : Obj) : Box E (w.alloc o) g x := h.below ((Below.refl _ _).alloc (Nat.le_refl _) _)
theorem Box.kept {w w' : World} {g : Nat} {row : Option Nat} {x : α} (h : Box E w g x) (hg : w.grownBy w' row) (hne : some g ≠ row) : Box E w' g x := by
  obtain ⟨t, ht⟩ := h
  exact ⟨t, by rw [hg.block g (Array.getElem?_eq_some_iff.1 ht).1 hne, ht]⟩
theorem Box.range {w : World} {g : Nat} {x : α} (h : Box E w g x) : w.rangeAt g 0 (E.enc x) := fun j v hv => by
  obtain ⟨t, ht⟩ := h
  rw [Nat.zero_add, cell_of_row w g j _ t (0, 0) ht, List.getElem?_toArray]
  exact hv
theorem Box.cell {w : World} {g : Nat} {x : α} (h : Box E w g x) {j : Nat} {v : Value} (hv : (E.enc x)[j]? = some v) : w.cell? ⟨g, j, none⟩ = some v := by
  have := h.range j v hv
  rwa [Nat.zero_add] at this
/-- A struct loaded whole out of its block. -/
theorem wpList_load_box {ops : Array Oper} {rest : List Oper} {o : Oper} {a : Act} {w : World} {Q : Exit → Act → World → Prop} (E : Cel α) (hgd : o.guard = none) (x : Operand) (ho : o.op = .load E.T x)
    (g : Nat) (hx : a.eval x = .pointer (some ⟨g, 0, none⟩)) (y : α) (hb : Box E w g y) (h : wpList Tryz.prog ops Q rest (a.put o.dst (.agg (E.enc y).toArray)) w) : wpList Tryz.prog ops Q (o :: rest) a w :=
  wpList_load_mid hgd E.T x ho g 0 hx (E.enc y) _ hb.range E.under E.row (E.size y) h
/-- A struct stored whole into a block that was just made: the world behind it under a name of its own. -/
theorem wpList_store_new {ops : Array Oper} {rest : List Oper} {o : Oper} {a : Act} {w : World} {Q : Exit → Act → World → Prop} (E : Cel α) (hgd : o.guard = none) (x y : Operand) (ho : o.op = .store E.T x y)
    (w0 : World) (old : Array Value) (t : TypeId) (hw : w = w0.alloc (.cells old t)) (z : α) (g : Nat) (hx : a.eval x = .pointer (some ⟨g, 0, none⟩)) (hg : g = w0.heap.size) (hy : a.eval y = .agg (E.enc z).toArray) (hs : old.size = E.k)
    (h : ∀ w1, Box E w1 w0.heap.size z → Below w0.heap.size w0 w1 → w0.grownBy w1 none → w1.heap.size = w0.heap.size + 1 → wpList Tryz.prog ops Q rest (a.put o.dst undef) w1) : wpList Tryz.prog ops Q (o :: rest) a w := by
  subst hw
  subst hg
  refine wpList_store_row hgd E.T x y ho w0.heap.size (E.enc z).toArray hx hy t old (heap_alloc_new w0 _) (E.size' z) (by simp [E.len, hs]) (E.all z) ?_
  rw [World.setRow_alloc_new]
  exact h _ (Box.new w0 z t) ((Below.refl _ _).alloc (Nat.le_refl _) _) (World.grownBy_alloc w0 _ none) (by simp)
/-- A struct stored whole where one lies. -/
theorem wpList_store_box {ops : Array Oper} {rest : List Oper} {o : Oper} {a : Act} {w : World} {Q : Exit → Act → World → Prop} (E : Cel α) (hgd : o.guard = none) (x y : Operand) (ho : o.op = .store E.T x y)
    (g : Nat) (hx : a.eval x = .pointer (some ⟨g, 0, none⟩)) (old : α) (hb : Box E w g old) (z : α) (hy : a.eval y = .agg (E.enc z).toArray)
    (h : ∀ w1, Box E w1 g z → (∀ B, B ≤ g → Below B w w1) → w.grownBy w1 (some g) → w1.heap.size = w.heap.size → wpList Tryz.prog ops Q rest (a.put o.dst undef) w1) : wpList Tryz.prog ops Q (o :: rest) a w := by
  obtain ⟨t, ht⟩ := hb
  refine wpList_store_row hgd E.T x y ho g (E.enc z).toArray hx hy t (E.enc old).toArray ht (E.size' z) (by simp [E.len]) (E.all z) ?_
  refine h _ ⟨t, setRow_heap w g _ _ t (0, 0) ht⟩ (fun B hB => below_set w hB _) ⟨rfl, rfl, rfl, by simp [World.setRow], fun j _ hj => ?_⟩ (by simp [World.setRow])
  simp only [World.setRow]
  rw [Array.getElem?_modify, if_neg (fun e => hj (by rw [e]))]
/-- A store of one field, as the walk meets it. -/
theorem wpList_store_field {ops : Array Oper} {rest : List Oper} {o : Oper} {a : Act} {w : World} {Q : Exit → Act → World → Prop} (E : Cel α) (hgd : o.guard = none) (hd : o.dst = none) (T : TypeId) (x y : Operand) (ho : o.op = .store T x y) (hi : (Tryz.prog.info? T).map (·.size) = some 1)
    (g j : Nat) (hx : a.eval x = .pointer (some ⟨g, j, none⟩)) (hj : j < E.k) (old : α) (hc : Box E w g old) (new : α) (v : Value) (hy : a.eval y = v) (hv : v.cells = #[v]) (h1 : v.oneCell' = true) (hset : (E.enc old).set j v = E.enc new)
    (h : ∀ w', Box E w' g new → (∀ B, B ≤ g → Below B w w') → w.grownBy w' (some g) → w'.heap.size = w.heap.size → wpList Tryz.prog ops Q rest a w') : wpList Tryz.prog ops Q (o :: rest) a w := by
  obtain ⟨t, ht⟩ := hc
  refine wpList_plain hgd fun K hK => ?_
  have hrun := RowF.run_store_one (T := T) ht (by simp [E.len]; exact hj) hi hv h1
  unfold Oper.wp execOp
  simp only [ho, hx, hy, Sem.run_bind, hrun, Result.andThen_ok, Sem.run_pure]
  refine hK _ _ ?_
  rw [hd]
  refine h _ ⟨t, ?_⟩ (fun B hB => (Below.refl B w).setCell (p := ⟨g, j, none⟩) hB v) ⟨rfl, rfl, rfl, by simp [World.setCell], fun k _ hk => ?_⟩ (by simp [World.setCell])
  · simp only [World.setCell]
    rw [Array.getElem?_modify, if_pos rfl, ht]
    simp [hset]
  · simp only [World.setCell]
    rw [Array.getElem?_modify, if_neg (fun e => hk (by rw [← e]))]
/-- A store of some fields, as the walk meets it. -/
theorem wpList_store_part {ops : Array Oper} {rest : List Oper} {o : Oper} {a : Act} {w : World} {Q : Exit → Act → World → Prop} (E : Cel α) (hgd : o.guard = none) (hd : o.dst = none) (T : TypeId) (x y : Operand) (ho : o.op = .store T x y)
    (g j : Nat) (hx : a.eval x = .pointer (some ⟨g, j, none⟩)) (old : α) (hc : Box E w g old) (new : α) (cs : Array Value) (hi : (Tryz.prog.info? T).map (·.size) = some cs.size) (hy : a.eval y = .agg cs) (h1 : cs.all (·.oneCell') = true) (hj : j + cs.size ≤ E.k) (hset : setL (E.enc old) j cs.toList = E.enc new)
    (h : ∀ w', Box E w' g new → (∀ B, B ≤ g → Below B w w') → w.grownBy w' (some g) → w'.heap.size = w.heap.size → wpList Tryz.prog ops Q rest a w') : wpList Tryz.prog ops Q (o :: rest) a w := by
  obtain ⟨t, ht⟩ := hc
  have hth : w.there g j cs.size := fun i hi => by
    refine ⟨?_, by simp [World.frozen?, ht]⟩
    rw [cell_of_row w g (j + i) _ t (0, 0) ht, List.getElem?_toArray, List.getElem?_eq_getElem (by rw [E.len]; omega)]
    rfl
  refine wpList_store_mid hgd T x y ho g j cs hx hy hth hi h1 ?_
  rw [hd]
  obtain ⟨r1, r2, r3⟩ := setCells_rest cs.toList j w g
  exact h _ ⟨t, by rw [← hset]; exact setCells_block cs.toList j _ w g t ht⟩ r1 r2 r3
theorem range_load (E : Cel α) {w : World} {b off : Nat} {y : α} (h : w.rangeAt b off (E.enc y)) : (Instr.loadAt E.T (.pointer (some ⟨b, off, none⟩))).run Tryz.prog w = .ok (.agg (E.enc y).toArray) w :=
  run_loadAt_mid w b off E.T (E.enc y) _ h E.under E.row (E.size y)
/-- A struct read whole in a region that draws its order. -/
theorem quiet_row (E : Cel α) {a : Act} {o : Oper} {K : Act → Prop} {w : World} (x : Operand) (ho : o.op = .load E.T x)
    (b off : Nat) (hx : a.eval x = .pointer (some ⟨b, off, none⟩)) (y : α) (hc : w.rangeAt b off (E.enc y)) (hk : K (a.put o.dst (.agg (E.enc y).toArray))) : o.quiet Tryz.prog a (fun w' => ∃ p : Regrown, w' = grow (redrawn w p.d) p.os) K := by
  refine ⟨.agg (E.enc y).toArray, fun u hu => ?_, hk⟩
  obtain ⟨p, rfl⟩ := hu
  have q := range_load E (range_below hc (below_regrown w p.d p.os))
  unfold Oper.quietAt execOp
  simp only [ho, hx, Sem.run_bind, q, Result.andThen_ok, Sem.run_pure]
  exact ⟨rfl, rfl⟩
end Go.Proofs.YtnjdkjkihbgkaaaGreat.Cel
namespace Go.Proofs.YtnjdkjkihbgkaaaGreat.CtrW
set_option maxRecDepth 100000
open Go Go.RowKit Byt OpsM Rise CtrM RowS

def E : Enc Cn where
  T := 75
  S := 22
  k := 2
  bytes := 24
  d := _
  enc c := [.string c.key, .int .i64 c.n]
  zero := ⟨⟨#[]⟩, 0⟩
  len _ := rfl
  one c v hv := by
    simp only [List.mem_cons, List.not_mem_nil, or_false] at hv
    rcases hv with rfl | rfl <;> rfl
  pos := by omega
  small := by omega
  info := by kernel_rfl
  slice := Tryz.underlying22
  under := Tryz.underlying75
  row := rfl
/-- The cells of one count, as the walk asks for them. -/
theorem cells {w : World} {b o : Nat} {c : Cn} (h : w.rangeAt b o (E.enc c)) : w.cell? ⟨b, o, none⟩ = some (.string c.key) ∧ w.cell? ⟨b, o + 1, none⟩ = some (.int .i64 c.n) :=
  ⟨h 0 _ rfl, h 1 _ rfl⟩
theorem plain {w : World} {A : Option Addr} {cap : Nat} {l : List Cn} (h : SlR E w A cap l) (hp : 0 < l.length) :
    ∃ b off, A = some ⟨b, off, none⟩ ∧ b < w.heap.size ∧ ∀ i x, l[i]? = some x → w.rangeAt b (off + i * 2) (E.enc x) := h.plain hp
/-- Numbers that may be in memory. -/
def Fits (l : List Cn) : Prop := ∀ c ∈ l, c.key.size ≤ 1099511627776 ∧ -9223372036854775808 ≤ c.n ∧ c.n ≤ 9223372036854775807
theorem getD_drop {l : List Cn} {i : Nat} {x : Cn} (h : l[i]? = some x) : l.drop i = x :: l.drop (i + 1) := by
  obtain ⟨hi, rfl⟩ := List.getElem?_eq_some_iff.1 h
  exact List.drop_eq_getElem_cons hi
theorem str_yes {a b : ByteArray} (h : a = b) : (a.toList == b.toList) = true := by rw [h]; simp
theorem str_no {a b : ByteArray} (h : a ≠ b) : (a.toList == b.toList) = false := by
  rw [beq_eq_false_iff_ne]
  exact fun e => h (Rise.toList_inj e)
/-- One text not above another one, as the walk asks. -/
theorem leq_no {a b : ByteArray} (h : ltS b a = true) : (Op.bytesLess a.toList b.toList || a.toList == b.toList) = false := by
  have h1 : Op.bytesLess a.toList b.toList = false := strictS.asymm h
  rw [h1, str_no (fun e => strictS.ne h e.symm)]
  rfl
theorem leq_yes {a b : ByteArray} (h : ltS b a = false) : (Op.bytesLess a.toList b.toList || a.toList == b.toList) = true := by
  cases hl : Op.bytesLess a.toList b.toList with
  | true => rfl
  | false =>
    rw [str_yes (strictS.tri a b hl h)]
    rfl
end Go.Proofs.YtnjdkjkihbgkaaaGreat.CtrW
namespace Go.Proofs.YtnjdkjkihbgkaaaGreat.RegW
set_option maxRecDepth 100000
open Go Go.RowKit Byt OpsM Rise RegM RowS

def E : Enc Rg where
  T := 43
  S := 23
  k := 5
  bytes := 56
  d := _
  enc c := [.string c.key, .string c.elem, .int .i64 c.gen, .int .i64 c.node, .int .i64 c.seq]
  zero := ⟨⟨#[]⟩, ⟨#[]⟩, 0, 0, 0⟩
  len _ := rfl
  one c v hv := by
    simp only [List.mem_cons, List.not_mem_nil, or_false] at hv
    rcases hv with rfl | rfl | rfl | rfl | rfl <;> rfl
  pos := by omega
  small := by omega
  info := by kernel_rfl
  slice := Tryz.underlying23
  under := Tryz.underlying43
  row := rfl
/-- A register's cells; none's. -/
def rc (c : Rg) : Array Value := #[.string c.key, .string c.elem, .int .i64 c.gen, .int .i64 c.node, .int .i64 c.seq]
def noR : Rg := ⟨⟨#[]⟩, ⟨#[]⟩, 0, 0, 0⟩
theorem rc_size (c : Rg) : (rc c).size = 5 := rfl
theorem info_rc (c : Rg) : (Tryz.prog.info? 43).map (·.size) = some (rc c).size := E.size' c
theorem info_rl (c : Rg) : (Tryz.prog.info? 43).map (·.size) = some (rc c).toList.length := E.size c
theorem rc_one (c : Rg) : (rc c).all (·.oneCell') = true := E.all c
/-- A block that holds one register. -/
def RgAt (w : World) (g : Nat) (c : Rg) : Prop := ∃ t, w.heap[g]? = some (.cells (rc c) t (0, 0))
theorem RgAt.lt {w : World} {g : Nat} {c : Rg} (h : RgAt w g c) : g < w.heap.size := by
  obtain ⟨t, ht⟩ := h
  exact (Array.getElem?_eq_some_iff.1 ht).1
theorem RgAt.block {w w' : World} {g B : Nat} {c : Rg} (h : RgAt w g c) (hb : Below B w w') (hg : g < B) : RgAt w' g c := by
  obtain ⟨t, ht⟩ := h
  exact ⟨t, by rw [hb.block g hg, ht]⟩
theorem RgAt.below {w w' : World} {g : Nat} {c : Rg} (h : RgAt w g c) (hb : Below w.heap.size w w') : RgAt w' g c := h.block hb h.lt
theorem RgAt.new (w : World) (c : Rg) (t : TypeId) : RgAt (w.alloc (.cells (rc c) t)) w.heap.size c := ⟨t, heap_alloc_new w _⟩
theorem RgAt.alloc {w : World} {g : Nat} {c : Rg} (h : RgAt w g c) (x : Obj) : RgAt (w.alloc x) g c := h.below ((Below.refl _ _).alloc (Nat.le_refl _) _)
theorem RgAt.range {w : World} {g : Nat} {c : Rg} (h : RgAt w g c) : w.rangeAt g 0 (E.enc c) := fun j v hv => by
  obtain ⟨t, ht⟩ := h
  rw [Nat.zero_add, cell_of_row w g j _ t (0, 0) ht, ← Array.getElem?_toList]
  exact hv
theorem RgAt.cells {w : World} {g : Nat} {c : Rg} (h : RgAt w g c) : w.cell? ⟨g, 0, none⟩ = some (.string c.key) ∧ w.cell? ⟨g, 1, none⟩ = some (.string c.elem) ∧ w.cell? ⟨g, 2, none⟩ = some (.int .i64 c.gen) ∧ w.cell? ⟨g, 3, none⟩ = some (.int .i64 c.node) ∧ w.cell? ⟨g, 4, none⟩ = some (.int .i64 c.seq) :=
  ⟨h.range 0 _ rfl, h.range 1 _ rfl, h.range 2 _ rfl, h.range 3 _ rfl, h.range 4 _ rfl⟩
/-- Its Ev alone: two cells at the third. -/
def ec (c : Rg) : List Value := [.int .i64 c.node, .int .i64 c.seq]
theorem ev_range {w : World} {b o : Nat} {c : Rg} (h : w.rangeAt b o (E.enc c)) : w.rangeAt b (o + 3) (ec c) := fun j v hv => by
  match j, hv with
  | 0, hv => exact h 3 v hv
  | 1, hv => exact h 4 v hv
/-- A load of one register out of a slice. -/
theorem wpList_load_reg {ops : Array Oper} {rest : List Oper} {o : Oper} {a : Act} {w : World} {Q : Exit → Act → World → Prop} (hgd : o.guard = none) (x : Operand) (ho : o.op = .load 43 x)
    (b off : Nat) (hx : a.eval x = .pointer (some ⟨b, off, none⟩)) (y : Rg) (hc : w.rangeAt b off (E.enc y)) (h : wpList Tryz.prog ops Q rest (a.put o.dst (.agg (rc y))) w) : wpList Tryz.prog ops Q (o :: rest) a w :=
  wpList_load_mid hgd 43 x ho b off hx (E.enc y) _ hc E.under E.row (E.size y) h
/-- The cells of one register, as the walk asks for them. -/
theorem cells {w : World} {b o : Nat} {c : Rg} (h : w.rangeAt b o (E.enc c)) : w.cell? ⟨b, o, none⟩ = some (.string c.key) ∧ w.cell? ⟨b, o + 1, none⟩ = some (.string c.elem) ∧ w.cell? ⟨b, o + 2, none⟩ = some (.int .i64 c.gen) ∧ w.cell? ⟨b, o + 3, none⟩ = some (.int .i64 c.node) ∧ w.cell? ⟨b, o + 4, none⟩ = some (.int .i64 c.seq) :=
  ⟨h 0 _ rfl, h 1 _ rfl, h 2 _ rfl, h 3 _ rfl, h 4 _ rfl⟩
theorem plain {w : World} {A : Option Addr} {cap : Nat} {l : List Rg} (h : SlR E w A cap l) (hp : 0 < l.length) :
    ∃ b off, A = some ⟨b, off, none⟩ ∧ b < w.heap.size ∧ ∀ i x, l[i]? = some x → w.rangeAt b (off + i * 5) (E.enc x) := h.plain hp
def In64 (x : Int) : Prop := -9223372036854775808 ≤ x ∧ x ≤ 9223372036854775807
theorem set_below {B g : Nat} (w : World) (hBg : B ≤ g) (cs : Array Value) : Below B w (w.setRow g cs) :=
  ⟨rfl, rfl, rfl, by simp [World.setRow], fun k hk => by simp only [World.setRow]; rw [Array.getElem?_modify, if_neg (by omega)]⟩
theorem set_other {g j : Nat} (w : World) (hj : j ≠ g) (cs : Array Value) : (w.setRow g cs).heap[j]? = w.heap[j]? := by
  simp only [World.setRow]
  rw [Array.getElem?_modify, if_neg (fun e => hj e.symm)]
/-- A register stored where one lies. -/
theorem wpList_store_reg {ops : Array Oper} {rest : List Oper} {o : Oper} {a : Act} {w : World} {Q : Exit → Act → World → Prop} (hgd : o.guard = none) (hd : o.dst = none) (x y : Operand) (ho : o.op = .store 43 x y)
    (g : Nat) (hx : a.eval x = .pointer (some ⟨g, 0, none⟩)) (old : Rg) (hc : RgAt w g old) (z : Rg) (hy : a.eval y = .agg (rc z))
    (h : ∀ w', RgAt w' g z → (∀ B, B ≤ g → Below B w w') → w.grownBy w' (some g) → wpList Tryz.prog ops Q rest a w') : wpList Tryz.prog ops Q (o :: rest) a w := by
  obtain ⟨t, ht⟩ := hc
  refine wpList_store_row hgd 43 x y ho g (rc z) hx hy t (rc old) ht (info_rc z) rfl (rc_one z) ?_
  rw [hd]
  exact h _ ⟨t, setRow_heap w g _ _ t (0, 0) ht⟩ (fun B hB => set_below w hB _) ⟨rfl, rfl, rfl, by simp [World.setRow], fun j _ hj => set_other w (fun e => hj (by rw [e])) _⟩
theorem below_alloc (w : World) (o : Obj) : Below w.heap.size w (w.alloc o) := (Below.refl _ _).alloc (Nat.le_refl _) _
/-- What may be in memory. -/
structure Fit (c : Rg) : Prop where
  key : c.key.size ≤ 1099511627776
  elem : c.elem.size ≤ 1099511627776
  gen : In64 c.gen
  node : In64 c.node
  seq : In64 c.seq
def Fits (l : List Rg) : Prop := ∀ c ∈ l, Fit c
theorem getD_drop {l : List Rg} {i : Nat} {x : Rg} (h : l[i]? = some x) : l.drop i = x :: l.drop (i + 1) := by
  obtain ⟨hi, rfl⟩ := List.getElem?_eq_some_iff.1 h
  exact List.drop_eq_getElem_cons hi
theorem str_yes {a b : ByteArray} (h : a = b) : (a.toList == b.toList) = true := by rw [h]; simp
theorem str_no {a b : ByteArray} (h : a ≠ b) : (a.toList == b.toList) = false := by
  rw [beq_eq_false_iff_ne]
  exact fun e => h (Rise.toList_inj e)
/-- One text above another one, as the walk asks. -/
theorem above (a b : ByteArray) : (!Op.bytesLess a.toList b.toList && !(a.toList == b.toList)) = ltS b a := by
  cases h : ltS b a with
  | true =>
    rw [show Op.bytesLess a.toList b.toList = false from strictS.asymm h, str_no (fun e => strictS.ne h e.symm)]
    rfl
  | false =>
    cases h2 : Op.bytesLess a.toList b.toList with
    | true => rfl
    | false =>
      rw [str_yes (strictS.tri a b h2 h)]
      rfl
end Go.Proofs.YtnjdkjkihbgkaaaGreat.RegW
