/- One struct read whole inside a region that draws its order, whatever its fields. No condition. | Pairs in memory. No condition. | States, and events, in memory. No condition. -/
import Derived.Test.YtnjdkjkihbgkaaaRowBJ2
import Derived.Test.YtnjdkjkihbgkaaaGrow
import Derived.Test.YtnjdkjkihbgkaaaPairN
import Derived.Laws.Cover1
import Derived.Test.YtnjdkjkihbgkaaaStNJ2
import Derived.Test.YtnjdkjkihbgkaaaCelJ3
namespace Go.Proofs.Ytnjdkjkihbgkaaa.RowG
set_option maxRecDepth 100000
open Go Go.RowKit Byt RowS RowB

variable {α : Type}
theorem range_load (E : Enc α) {w : World} {b off : Nat} {y : α} (h : w.rangeAt b off (E.enc y)) : (Instr.loadAt E.T (.pointer (some ⟨b, off, none⟩))).run Try.prog w = .ok (.agg (E.enc y).toArray) w :=
  run_loadAt_mid w b off E.T (E.enc y) _ h E.under E.row (E.size y)
theorem wpQuiet_load_row (E : Enc α) {ops : Array Oper} {C : World → Prop} {Q : Act → Prop} {a : Act} {o : Oper} {rest : List Oper} (hgd : o.guard = none) (x : Operand) (ho : o.op = .load E.T x)
    (b off : Nat) (hx : a.eval x = .pointer (some ⟨b, off, none⟩)) (y : α) (hc : ∀ w, C w → w.rangeAt b off (E.enc y)) (h : wpQuiet Try.prog ops C Q rest (a.put o.dst (.agg (E.enc y).toArray))) : wpQuiet Try.prog ops C Q (o :: rest) a := by
  refine BigFrame.wpQuiet_want (by simp [Region.wanted, hgd]) (fun K hK => ⟨.agg (E.enc y).toArray, fun w hw => ?_, hK _ h⟩)
  have q := range_load E (hc w hw)
  unfold Oper.quietAt execOp
  simp only [ho, hx, Sem.run_bind, q, Result.andThen_ok, Sem.run_pure]
  exact ⟨rfl, rfl⟩
theorem reads_row (E : Enc α) {l : List Oper} {i : Nat} {o : Oper} {r : List (Nat × Bool)} {a : Act} {w : World} {Q : Exit → Act → World → Prop} (hn : Grow.nth l i = some o) (hgd : o.guard = none) (x : Operand) (ho : o.op = .load E.T x)
    (b off : Nat) (hx : a.eval x = .pointer (some ⟨b, off, none⟩)) (y : α) (hc : w.rangeAt b off (E.enc y)) (h : Grow.Seq Try.prog l.toArray Q r (a.put o.dst (.agg (E.enc y).toArray)) w) : Grow.Seq Try.prog l.toArray Q ((i, true) :: r) a w :=
  Grow.reads hn (by unfold Grow.plain; rw [ho]) (wpQuiet_load_row E hgd x ho b off hx y (fun _ ⟨p, e⟩ => by rw [e]; exact range_below hc (below_regrown w p.d p.os)) (wpQuiet_nil h))
end Go.Proofs.Ytnjdkjkihbgkaaa.RowG
namespace Go.Proofs.Ytnjdkjkihbgkaaa.PairW
set_option maxRecDepth 100000
open Go Go.RowKit Byt OpsM Rise PairM RowS RowB

def E : Enc Pr where
  T := 41
  S := 24
  k := 4
  bytes := 48
  d := _
  enc c := [.string c.key, .string c.elem, .int .i64 c.node, .int .i64 c.seq]
  zero := ⟨⟨#[]⟩, ⟨#[]⟩, 0, 0⟩
  len _ := rfl
  one c v hv := by
    simp only [List.mem_cons, List.not_mem_nil, or_false] at hv
    rcases hv with rfl | rfl | rfl | rfl <;> rfl
  pos := by omega
  small := by omega
  info := by kernel_rfl
  slice := Try.underlying24
  under := Try.underlying41
  row := rfl
/-- A pair's cells. -/
def pc (c : Pr) : Array Value := #[.string c.key, .string c.elem, .int .i64 c.node, .int .i64 c.seq]
theorem box_cells {w : World} {g : Nat} {c : Pr} (h : Box E w g c) : w.cell? ⟨g, 0, none⟩ = some (.string c.key) ∧ w.cell? ⟨g, 1, none⟩ = some (.string c.elem) ∧ w.cell? ⟨g, 2, none⟩ = some (.int .i64 c.node) ∧ w.cell? ⟨g, 3, none⟩ = some (.int .i64 c.seq) :=
  ⟨h.cell (j := 0) rfl, h.cell (j := 1) rfl, h.cell (j := 2) rfl, h.cell (j := 3) rfl⟩
theorem cells {w : World} {b o : Nat} {c : Pr} (h : w.rangeAt b o (E.enc c)) : w.cell? ⟨b, o, none⟩ = some (.string c.key) ∧ w.cell? ⟨b, o + 1, none⟩ = some (.string c.elem) ∧ w.cell? ⟨b, o + 2, none⟩ = some (.int .i64 c.node) ∧ w.cell? ⟨b, o + 3, none⟩ = some (.int .i64 c.seq) :=
  ⟨h 0 _ rfl, h 1 _ rfl, h 2 _ rfl, h 3 _ rfl⟩
theorem plain {w : World} {A : Option Addr} {cap : Nat} {l : List Pr} (h : SlR E w A cap l) (hp : 0 < l.length) :
    ∃ b off, A = some ⟨b, off, none⟩ ∧ b < w.heap.size ∧ ∀ i x, l[i]? = some x → w.rangeAt b (off + i * 4) (E.enc x) := h.plain hp
def In64 (x : Int) : Prop := -9223372036854775808 ≤ x ∧ x ≤ 9223372036854775807
/-- What may be in memory. -/
structure Fit (c : Pr) : Prop where
  key : c.key.size ≤ 1099511627776
  elem : c.elem.size ≤ 1099511627776
  node : In64 c.node
  seq : In64 c.seq
def Fits (l : List Pr) : Prop := ∀ c ∈ l, Fit c
theorem getD_drop {l : List Pr} {i : Nat} {x : Pr} (h : l[i]? = some x) : l.drop i = x :: l.drop (i + 1) := by
  obtain ⟨hi, rfl⟩ := List.getElem?_eq_some_iff.1 h
  exact List.drop_eq_getElem_cons hi
theorem str_yes {a b : ByteArray} (h : a = b) : (a.toList == b.toList) = true := by rw [h]; simp
theorem str_no {a b : ByteArray} (h : a ≠ b) : (a.toList == b.toList) = false := by
  rw [beq_eq_false_iff_ne]
  exact fun e => h (Rise.toList_inj e)
theorem bne_yes {a b : ByteArray} (h : a = b) : (a.toList != b.toList) = false := by rw [bne, str_yes h]; rfl
theorem bne_no {a b : ByteArray} (h : a ≠ b) : (a.toList != b.toList) = true := by rw [bne, str_no h]; rfl
theorem below_alloc (w : World) (o : Obj) : Below w.heap.size w (w.alloc o) := (Below.refl _ _).alloc (Nat.le_refl _) _
end Go.Proofs.Ytnjdkjkihbgkaaa.PairW
namespace Go.Proofs.Ytnjdkjkihbgkaaa.StW
set_option maxRecDepth 100000
open Go Go.RowKit Byt OpsM Rise RowS StM

/-- A state that lies in three slices. -/
structure Sv where
  a0 : Option Addr
  k0 : Nat
  a1 : Option Addr
  k1 : Nat
  a2 : Option Addr
  k2 : Nat
  s : St
def noV : Sv := ⟨none, 0, none, 0, none, 0, noS⟩
/-- A state's cells. -/
def sc (v : Sv) : Array Value := #[.slice v.a0 v.s.c.length v.k0, .slice v.a1 v.s.r.length v.k1, .slice v.a2 v.s.p.length v.k2]
def SE : Cel.Cel Sv where
  T := 26
  k := 3
  bytes := 72
  d := _
  enc v := [.slice v.a0 v.s.c.length v.k0, .slice v.a1 v.s.r.length v.k1, .slice v.a2 v.s.p.length v.k2]
  zero := noV
  len _ := rfl
  one c v hv := by
    simp only [List.mem_cons, List.not_mem_nil, or_false] at hv
    rcases hv with rfl | rfl | rfl <;> rfl
  pos := by omega
  info := by kernel_rfl
  under := Try.underlying26
  row := rfl
/-- An event. -/
structure Ev where
  node : Int
  seq : Int
def ec (e : Ev) : Array Value := #[.int .i64 e.node, .int .i64 e.seq]
def EE : Cel.Cel Ev where
  T := 39
  k := 2
  bytes := 16
  d := _
  enc e := [.int .i64 e.node, .int .i64 e.seq]
  zero := ⟨0, 0⟩
  len _ := rfl
  one c v hv := by
    simp only [List.mem_cons, List.not_mem_nil, or_false] at hv
    rcases hv with rfl | rfl <;> rfl
  pos := by omega
  info := by kernel_rfl
  under := Try.underlying39
  row := rfl
/-- The three slices hold the state. -/
structure In (w : World) (v : Sv) : Prop where
  c : SlR CtrW.E w v.a0 v.k0 v.s.c
  r : SlR RegW.E w v.a1 v.k1 v.s.r
  p : SlR PairW.E w v.a2 v.k2 v.s.p
theorem In.below {w w' : World} {v : Sv} (h : In w v) (hb : Below w.heap.size w w') : In w' v := ⟨h.c.below hb, h.r.below hb, h.p.below hb⟩
theorem In.none (w : World) : In w noV := ⟨SlR.nil _ w, SlR.nil _ w, SlR.nil _ w⟩
structure Fits (s : St) : Prop where
  c : CtrW.Fits s.c
  r : RegW.Fits s.r
  p : PairW.Fits s.p
/-- Lists that are no longer than this. -/
structure Len (n : Nat) (s : St) : Prop where
  c : s.c.length ≤ n
  r : s.r.length ≤ n
  p : s.p.length ≤ n
theorem Len.le {n m : Nat} {s : St} (h : Len n s) (hm : n ≤ m) : Len m s := ⟨by have := h.c; omega, by have := h.r; omega, by have := h.p; omega⟩
theorem box_cells {w : World} {g : Nat} {v : Sv} (h : Cel.Box SE w g v) : w.cell? ⟨g, 0, none⟩ = some (.slice v.a0 v.s.c.length v.k0) ∧ w.cell? ⟨g, 1, none⟩ = some (.slice v.a1 v.s.r.length v.k1) ∧ w.cell? ⟨g, 2, none⟩ = some (.slice v.a2 v.s.p.length v.k2) :=
  ⟨h.cell (j := 0) rfl, h.cell (j := 1) rfl, h.cell (j := 2) rfl⟩
theorem ev_cells {w : World} {g : Nat} {e : Ev} (h : Cel.Box EE w g e) : w.cell? ⟨g, 0, none⟩ = some (.int .i64 e.node) ∧ w.cell? ⟨g, 1, none⟩ = some (.int .i64 e.seq) :=
  ⟨h.cell (j := 0) rfl, h.cell (j := 1) rfl⟩
/-- An event loaded whole, its cells written out. -/
theorem wpList_load_ev {ops : Array Oper} {rest : List Oper} {o : Oper} {a : Act} {w : World} {Q : Exit → Act → World → Prop} (hgd : o.guard = none) (x : Operand) (ho : o.op = .load 39 x)
    (g : Nat) (hx : a.eval x = .pointer (some ⟨g, 0, none⟩)) (e : Ev) (hb : Cel.Box EE w g e) (h : wpList Try.prog ops Q rest (a.put o.dst (.agg #[.int .i64 e.node, .int .i64 e.seq])) w) : wpList Try.prog ops Q (o :: rest) a w :=
  Cel.wpList_load_box EE hgd x ho g hx e hb h
theorem below_alloc (w : World) (o : Obj) : Below w.heap.size w (w.alloc o) := (Below.refl _ _).alloc (Nat.le_refl _) _
theorem ret_bool {a b : Bool} (h : a = b) : Ending.returned (.bool a) = .returned (.bool b) := by rw [h]
theorem ret_val {a b : Value} (h : a = b) : Ending.returned a = .returned b := by rw [h]
/-- A state, and an error's number, are handed back, and all that was there is as it was. -/
def New (o : Option St) (w : World) (e : Ending) (w' : World) : Prop := ∃ v, e = .returned (.tuple #[.agg (sc v), .int .i64 (if o.isSome then 0 else 1)]) ∧ v.s = o.getD noS ∧ In w' v ∧ Below w.heap.size w w'

/-- A value that is no slice. -/
def noSl : Value → Bool
  | .slice _ _ _ => false
  | _ => true
theorem box_sl {w : World} {g j : Nat} {v : Sv} {x : Value} (h : Cel.Box SE w g v) (hc : w.cell? ⟨g, j, none⟩ = some x) : noSl x = false := by
  obtain ⟨t, ht⟩ := h
  rw [cell_of_row w g j _ t (0, 0) ht, List.getElem?_toArray] at hc
  match j, hc with
  | 0, hc => simp [SE] at hc; rw [← hc]; rfl
  | 1, hc => simp [SE] at hc; rw [← hc]; rfl
  | 2, hc => simp [SE] at hc; rw [← hc]; rfl
  | j + 3, hc => simp [SE] at hc
/-- A slice lies in another block than a state's box, by what the cells hold: it stays while the box is written. -/
theorem kept_box {α : Type} {E : Enc α} (hE : ∀ x, ∀ v ∈ E.enc x, noSl v = true) {w w' : World} {A : Option Addr} {cap g : Nat} {l : List α} {v : Sv} (h : SlR E w A cap l) (hb : Cel.Box SE w g v) (hg : w.grownBy w' (some g)) : SlR E w' A cap l := by
  obtain ⟨h1, h2, h5⟩ := h
  refine ⟨h1, h2, ?_⟩
  rcases h5 with h5 | ⟨x, rfl, hc⟩
  · exact .inl h5
  · refine .inr ⟨x, rfl, fun i u hu => ?_⟩
    have hcell := hc i u hu
    have hlt := block_lt_of_cell hcell
    have hne : some (x.add i).block ≠ some g := by
      intro e
      injection e with e
      have hsp := World.cell?_spot hcell
      have hu2 : noSl u = true := by
        have hm := List.mem_of_getElem? hu
        unfold flat at hm
        rw [List.mem_flatMap] at hm
        obtain ⟨y, _, hy⟩ := hm
        exact hE y u hy
      have hb2 : noSl u = false := by
        have : (x.add i) = ⟨g, (x.add i).off, none⟩ := by
          cases hx : x.add i with
          | mk b o s =>
            rw [hx] at e hsp
            simp only at e hsp
            rw [e, hsp]
        rw [this] at hcell
        exact box_sl hb hcell
      rw [hu2] at hb2
      cases hb2
    unfold World.cell? at hcell ⊢
    rw [hg.block _ hlt hne]
    exact hcell
theorem noC (x : CtrM.Cn) : ∀ v ∈ CtrW.E.enc x, noSl v = true := by
  intro v hv
  simp only [CtrW.E, List.mem_cons, List.not_mem_nil, or_false] at hv
  rcases hv with rfl | rfl <;> rfl
theorem noR (x : RegM.Rg) : ∀ v ∈ RegW.E.enc x, noSl v = true := by
  intro v hv
  simp only [RegW.E, List.mem_cons, List.not_mem_nil, or_false] at hv
  rcases hv with rfl | rfl | rfl | rfl | rfl <;> rfl
theorem noP (x : PairM.Pr) : ∀ v ∈ PairW.E.enc x, noSl v = true := by
  intro v hv
  simp only [PairW.E, List.mem_cons, List.not_mem_nil, or_false] at hv
  rcases hv with rfl | rfl | rfl | rfl <;> rfl
theorem In.kept {w w' : World} {g : Nat} {u v : Sv} (h : In w u) (hb : Cel.Box SE w g v) (hg : w.grownBy w' (some g)) : In w' u := ⟨kept_box noC h.c hb hg, kept_box noR h.r hb hg, kept_box noP h.p hb hg⟩
end Go.Proofs.Ytnjdkjkihbgkaaa.StW
