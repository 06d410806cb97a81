/- What a walk is told of a slice of integers that came in, and how a reading gives it. | Bytes as numbers and as strings, and worlds that grow: what needs no slice of bytes. No condition. | Bytes: slices that a walk reads, cuts and appends to. No condition. -/
import Derived.WalkKit
import Derived.ProofKit
import Derived.OpenShut
import Derived.Test.YteojkfbnenfmkaaDoorRows
import Derived.Handy
import Derived.StillTailTactics
import Derived.Laws.AppendOwn
import Derived.Laws.AppendOwnNone
import Derived.Laws.IdiomStrings
import Derived.DataElems
import Derived.Lib.AppendStr
import Derived.OwnWalk
import Derived.Deep.QuietTactic
import Derived.BigQuiet
import Derived.BigRegion
import Derived.IntWalk
namespace Go.Proofs.YteojkfbnenfmkaaDoor.RowIn
set_option maxRecDepth 100000
open Go.ChangeShapes Go.WideShapes Go.ChangeAt Go.RowKit



theorem block_add (x : Addr) (i : Nat) : (x.add i).block = x.block := by unfold Addr.add; split <;> rfl


/-- As much of that as is asked of a slice whose room beyond its elements nothing is told of. -/
def RowL (k : IntKind) (w : World) (a : Option Addr) (len cap : Nat) (zs : List Int) : Prop :=
  len ≤ cap ∧ cap ≤ maxLen ∧ (len ≤ zs.length ∧ zs.length ≤ cap) ∧ (∀ n ∈ zs, (Lit.int k n).wf = true) ∧
  ((a = none ∧ len = 0 ∧ cap = 0) ∨ ∃ x, a = some x ∧ ∀ i, i < zs.length → w.cell? (x.add i) = some (.int k (zs.getD i 0)))
theorem RowL.below {k : IntKind} {w w' : World} {a : Option Addr} {len cap : Nat} {zs : List Int} (h : RowL k w a len cap zs) (hb : Below w.heap.size w w') : RowL k w' a len cap zs := by
  obtain ⟨h1, h2, h3, h4, h5⟩ := h
  refine ⟨h1, h2, h3, h4, ?_⟩
  rcases h5 with h5 | ⟨x, rfl, hc⟩
  · exact .inl h5
  · refine .inr ⟨x, rfl, fun i hi => ?_⟩
    have hcell := hc i hi
    exact (hb.cell (block_lt_of_cell hcell)).trans hcell
end Go.Proofs.YteojkfbnenfmkaaDoor.RowIn
namespace Go.Proofs.YteojkfbnenfmkaaDoor.Byt
set_option maxRecDepth 100000
open Go.RowKit

/-- A fact laid aside, so that the walk does not rewrite by it. -/
theorem aside {p : Prop} (h : p) : Hid p := h
/-- A byte. -/
def B (b : Int) : Prop := 0 ≤ b ∧ b ≤ 255
theorem B_of_wf {n : Int} (h : (Lit.int .u8 n).wf = true) : B n := by
  unfold B
  simpa [Lit.wf, IntKind.min, IntKind.max, IntKind.bits, IntKind.signed] using h

/-- Numbers as cells of bytes. -/
def bv (l : List Int) : List Value := l.map (Value.int .u8)
theorem bv_length (l : List Int) : (bv l).length = l.length := by simp [bv]
theorem bv_append (a b : List Int) : bv (a ++ b) = bv a ++ bv b := by simp [bv]
theorem bv_one (l : List Int) : ∀ v ∈ bv l, v.oneCell' = true := by
  intro v hv
  simp only [bv, List.mem_map] at hv
  obtain ⟨n, _, rfl⟩ := hv
  rfl
theorem bv_at (l : List Int) {i : Nat} (h : i < l.length) : (bv l)[i]? = some (.int .u8 (l.getD i 0)) := by
  simp [bv, h]

/-- The string of some bytes, and the bytes of a string. -/
def strOf (l : List Int) : ByteArray := ⟨(l.map fun n => UInt8.ofNat n.toNat).toArray⟩
def bytesL (s : ByteArray) : List Int := s.data.toList.map fun b => (b.toNat : Int)
theorem bytesL_length (s : ByteArray) : (bytesL s).length = s.size := by
  unfold bytesL
  rw [List.length_map, Array.length_toList]
  rfl
theorem bytesL_B (s : ByteArray) : ∀ x ∈ bytesL s, B x := by
  intro x hx
  simp only [bytesL, List.mem_map] at hx
  obtain ⟨b, _, rfl⟩ := hx
  have := b.toNat_lt
  unfold B
  omega
theorem strCells_bv (s : ByteArray) : Lib.strCells s = bv (bytesL s) := by
  simp [Lib.strCells, bv, bytesL]
theorem strOf_bytesL (s : ByteArray) : strOf (bytesL s) = s := by
  unfold strOf bytesL
  have e : (List.map (fun n : Int => UInt8.ofNat n.toNat) (List.map (fun b : UInt8 => (b.toNat : Int)) s.data.toList)) = s.data.toList := by
    rw [List.map_map]
    conv => rhs; rw [← List.map_id s.data.toList]
    apply List.map_congr_left
    intro b _
    simp
  rw [e]
theorem toList_inj {s t : ByteArray} : s.toList = t.toList ↔ s = t := by
  rw [ByteArray.toList_eq, ByteArray.toList_eq]
  constructor
  · intro h
    cases s; cases t
    congr 1
    exact Array.ext' h
  · intro h; rw [h]
theorem below_drewN (w : World) (n : Nat) : Below w.heap.size w (w.drewN n) := ⟨rfl, rfl, rfl, Nat.le_refl _, fun _ _ => rfl⟩
theorem grown_of_below {w w' : World} (hb : Below w.heap.size w w') (row : Option Nat) : w.grownBy w' row := ⟨hb.os, hb.tape, hb.output, hb.size, fun i hi _ => hb.block i hi⟩
theorem owns_below {w w' : World} {base : Nat} {e : TypeId} {size : Nat} {v : Value} {n : Nat} {xs : List Value} (h : w.ownsRow base e size v n xs) (hb : Below w.heap.size w w') : w'.ownsRow base e size v n xs :=
  h.kept (grown_of_below hb none) (by cases hv : v.ownBlock <;> simp)
theorem below_grown {B : Nat} {w0 w w' : World} {row : Option Nat} (hb : Below B w0 w) (hB : B ≤ w.heap.size) (hg : w.grownBy w' row) (hr : ∀ k, row = some k → B ≤ k) : Below B w0 w' :=
  hb.trans ⟨hg.os, hg.tape, hg.output, hg.size, fun k hk => hg.block k (by omega) (fun e => by have := hr k e.symm; omega)⟩
theorem below_drew {k : Nat} {w w' : World} (h : Below k w w') (n : Nat) : Below k w (w'.drewN n) := ⟨h.os, h.tape, h.output, h.size, h.block⟩
theorem below_drew1 {k : Nat} {w w' : World} (h : Below k w w') : Below k w w'.drew := ⟨h.os, h.tape, h.output, h.size, h.block⟩
theorem owns_less {w : World} {base base' : Nat} {e : TypeId} {size : Nat} {v : Value} {n : Nat} {xs : List Value} (h : w.ownsRow base e size v n xs) (hb : base' ≤ base) : w.ownsRow base' e size v n xs := by
  refine ⟨h.1, h.2.imp id ?_⟩
  rintro ⟨g, cap, cur, h1, h2, h3⟩
  exact ⟨g, cap, cur, h1, Nat.le_trans hb h2, h3⟩
end Go.Proofs.YteojkfbnenfmkaaDoor.Byt
namespace Go.Proofs.YteojkfbnenfmkaaDoor.Byt
set_option maxRecDepth 100000
open Go.RowKit

theorem info_u8 : (Tryd.prog.info? 5).map (·.size) = some 1 := by kernel_rfl
theorem zero_u8 : (Tryd.prog.info? 5).map (fun i => (i.zero, i.size, i.bytes)) = some (some (.int .u8 0), 1, 1) := by kernel_rfl

/-- The slice with address A, as long as l, and with room for cap, has the bytes l. -/
def Sl (w : World) (A : Option Addr) (cap : Nat) (l : List Int) : Prop :=
  l.length ≤ cap ∧ cap ≤ maxLen ∧ (∀ x ∈ l, B x) ∧ ((A = none ∧ l = [] ∧ cap = 0) ∨ ∃ x, A = some x ∧ ∀ i, i < l.length → w.cell? (x.add i) = some (.int .u8 (l.getD i 0)))
theorem Sl.bytes {w : World} {A : Option Addr} {cap : Nat} {l : List Int} (h : Sl w A cap l) : ∀ x ∈ l, B x := h.2.2.1
theorem Sl.nil (w : World) : Sl w none 0 [] := ⟨Nat.le_refl _, Nat.zero_le _, by simp, .inl ⟨rfl, rfl, rfl⟩⟩
theorem Sl.below {w w' : World} {A : Option Addr} {cap : Nat} {l : List Int} (h : Sl w A cap l) (hb : Below w.heap.size w w') : Sl w' A cap l := by
  obtain ⟨h1, h2, h4, h5⟩ := h
  refine ⟨h1, h2, h4, ?_⟩
  rcases h5 with h5 | ⟨x, rfl, hc⟩
  · exact .inl h5
  · refine .inr ⟨x, rfl, fun i hi => ?_⟩
    have hcell := hc i hi
    exact (hb.cell (block_lt_of_cell hcell)).trans hcell
theorem Sl.drewN {w : World} {A : Option Addr} {cap : Nat} {l : List Int} (h : Sl w A cap l) (n : Nat) : Sl (w.drewN n) A cap l := h.below (below_drewN w n)
theorem Sl.own {w : World} {base n : Nat} {v : Value} {l : List Int} (h : w.ownsRow base 5 1 v n (bv l)) (hb : ∀ x ∈ l, B x) : ∃ A cap, v = .slice A l.length cap ∧ Sl w A cap l := by
  have hn : l.length = n := by have := h.1; rw [bv_length] at this; omega
  rcases h.2 with ⟨rfl, rfl⟩ | ⟨g, cap, cur, rfl, hbg, hg, h1, h2, h3, h4⟩
  · have : l = [] := List.eq_nil_of_length_eq_zero hn
    subst this
    exact ⟨none, 0, rfl, Sl.nil w⟩
  · refine ⟨some ⟨g, 0, none⟩, cap, by rw [hn], by omega, h2, hb, .inr ⟨_, rfl, fun i hi => ?_⟩⟩
    rw [Addr.add_lit, Nat.zero_add, h.cellAt i (by omega), bv_at _ hi]

/-- A part of a slice. -/
theorem Sl.part {w : World} {A : Option Addr} {cap : Nat} {l : List Int} (h : Sl w A cap l) (i j : Nat) (hij : i ≤ j) (hj : j ≤ l.length) :
    ∃ A' cap', sliced A i j cap 1 = .slice A' (j - i) cap' ∧ Sl w A' cap' ((l.drop i).take (j - i)) ∧ ((l.drop i).take (j - i)).length = j - i := by
  have hb := h.bytes
  obtain ⟨h1, h2, h4, h5⟩ := h
  have hl : ((l.drop i).take (j - i)).length = j - i := by simp; omega
  have hB : ∀ x ∈ (l.drop i).take (j - i), B x := fun x hx => hb x (List.mem_of_mem_drop (List.mem_of_mem_take hx))
  rcases h5 with ⟨rfl, rfl, rfl⟩ | ⟨x, rfl, hc⟩
  · simp at hj
    obtain rfl : j = 0 := hj
    obtain rfl : i = 0 := by omega
    exact ⟨none, 0, by simp [sliced], by simpa using Sl.nil w, hl⟩
  · by_cases hci : cap = i
    · refine ⟨some x, cap - i, by simp [sliced, hci], ⟨by rw [hl]; omega, by omega, hB, .inr ⟨x, rfl, fun k hk => ?_⟩⟩, hl⟩
      omega
    · refine ⟨some (x.add i), cap - i, by simp [sliced, hci], ⟨by rw [hl]; omega, by omega, hB, .inr ⟨_, rfl, fun k hk => ?_⟩⟩, hl⟩
      rw [hl] at hk
      rw [Addr.add_add, hc (i + k) (by omega)]
      congr 2
      rw [List.getD_eq_getElem?_getD, List.getD_eq_getElem?_getD, List.getElem?_take, if_pos (by omega), List.getElem?_drop]


theorem elem_u8 : Tryd.prog.elem 66 = 5 := by kernel_rfl
theorem under_u8 : Tryd.prog.underlying 66 = some (.slice (Tryd.prog.elem 66)) := by kernel_rfl
theorem size_u8 (w : World) : (sizeOf (Tryd.prog.elem 66)).run Tryd.prog w = .ok 1 w := by
  rw [elem_u8]
  have h := info_u8
  cases hq : Tryd.prog.info? 5 with
  | none => rw [hq] at h; cases h
  | some i =>
    rw [hq] at h
    simp at h
    simp [sizeOf, typeInfo, hq, h]
theorem run_part_h (w : World) (A : Option Addr) (len cap : Nat) (k : IntKind) (j : Nat) (hj : j ≤ cap) :
    (Instr.sliceAt 66 (.slice A len cap) none (some (.int k j)) none).run Tryd.prog w = .ok (sliced A 0 j cap 1) w := by
  rw [run_sliceAt_slice w _ _ _ _ _ under_u8, run_slice_h w _ A len cap under_u8 k j (by omega) (by omega), size_u8]
  simp [Result.andThen]
theorem run_part_l (w : World) (A : Option Addr) (len cap : Nat) (k : IntKind) (i : Nat) (hi : i ≤ len) :
    (Instr.sliceAt 66 (.slice A len cap) (some (.int k i)) none none).run Tryd.prog w = .ok (sliced A i len cap 1) w := by
  rw [run_sliceAt_slice w _ _ _ _ _ under_u8, run_slice_l w _ A len cap under_u8 k i (by omega) (by omega), size_u8]
  simp [Result.andThen]

/-- A new slice has these bytes, and all that was there is as it was. -/
def New (l : List Int) (w : World) (e : Ending) (w' : World) : Prop :=
  ∃ v, e = .returned v ∧ w'.ownsRow w.heap.size 5 1 v l.length (bv l) ∧ Below w.heap.size w w'

/-- 'append' of a slice of bytes. -/
theorem wpList_append_sl {P : Program} {w : World} {ops : Array Oper} {rest : List Oper} {o : Oper} {a : Act} {Q : Exit → Act → World → Prop} (hgd : o.guard = none) (s x : Operand) (t : TypeId)
    (ho : o.op = .call { callee := .builtin .append, args := #[s, x], argTypes := #[t, t] })
    (base : Nat) (e : TypeId) (ht : P.underlying t = some (.slice e)) (hz : (P.info? e).map (fun i => (i.zero, i.size, i.bytes)) = some (some (.int .u8 0), 1, 1))
    (v : Value) (n : Nat) (xs : List Int) (hs : a.eval s = v) (hown : w.ownsRow base e 1 v n (bv xs))
    (A : Option Addr) (m c : Nat) (l : List Int) (hx : a.eval x = .slice A m c) (hm : l.length = m) (hr : Sl w A c l)
    (h63 : n + m ≤ 1099511627900) (hbase : base ≤ w.heap.size)
    (h : ∀ v' w', w'.ownsRow base e 1 v' (n + m) (bv (xs ++ l)) → w.grownBy w' v.ownBlock → wpList P ops Q rest (a.put o.dst v') w') : wpList P ops Q (o :: rest) a w := by
  obtain ⟨i, hi, z0, z1, z2⟩ := info_parts hz
  subst hm
  obtain ⟨h1, h2, h4, h5⟩ := hr
  rcases h5 with ⟨rfl, rfl, rfl⟩ | ⟨ad, rfl, hc⟩
  · refine wpList_append_own_none hgd s x t ho base e i 1 ht hi v n (bv xs) hs hown hx (h v w ?_ (grown_of_below (Below.refl _ _) _))
    simpa using hown
  · refine wpList_append_own w hgd s x t ho base e i (.int .u8 0) 1 1 ht hi z0 z1 z2 rfl (by decide) v n (bv xs) hs hown ad l.length c (bv l) hx (by rw [bv_length]; omega) (fun j u hu => ?_) (bv_one _) (by unfold maxLen; omega) (by omega) hbase (fun v' w' a1 a2 _ => h v' w' (by rw [bv_append]; exact a1) a2)
    have hj : j < l.length := by
      have := (List.getElem?_eq_some_iff.1 hu).1
      simpa [bv] using this
    rw [bv_at _ hj] at hu
    rw [hc j hj, ← hu]
/-- 'append' of a string. -/
theorem wpList_append_str {P : Program} {w : World} {ops : Array Oper} {rest : List Oper} {o : Oper} {a : Act} {Q : Exit → Act → World → Prop} (hgd : o.guard = none) (s x : Operand) (t u : TypeId)
    (ho : o.op = .call { callee := .builtin .append, args := #[s, x], argTypes := #[t, u] })
    (base : Nat) (e : TypeId) (ht : P.underlying t = some (.slice e)) (hu : P.underlying u = some .string) (hz : (P.info? e).map (fun i => (i.zero, i.size, i.bytes)) = some (some (.int .u8 0), 1, 1))
    (v : Value) (n : Nat) (xs : List Int) (hs : a.eval s = v) (hown : w.ownsRow base e 1 v n (bv xs)) (S : ByteArray) (hx : a.eval x = .string S)
    (h63 : n + S.size ≤ 1099511627900) (hbase : base ≤ w.heap.size)
    (h : ∀ v' w', w'.ownsRow base e 1 v' (n + S.size) (bv (xs ++ bytesL S)) → w.grownBy w' v.ownBlock → wpList P ops Q rest (a.put o.dst v') w') : wpList P ops Q (o :: rest) a w := by
  obtain ⟨i, hi, z0, z1, z2⟩ := info_parts hz
  refine Lib.wpList_append_own_string w hgd s x t u ho base e i ht hu hi z0 z1 z2 v n (bv xs) hs hown S hx (by unfold maxLen; omega) (by omega) hbase (fun v' w' a1 a2 _ => h v' w' ?_ a2)
  rw [bv_append, ← strCells_bv]
  exact a1
/-- A slice that was just made of a few bytes. -/
theorem Sl.new1 (w : World) (x : Int) (t : TypeId) (hx : B x) : Sl (w.alloc (.cells #[.int .u8 x] t)) (some ⟨w.heap.size, 0, none⟩) 1 [x] := by
  refine ⟨Nat.le_refl _, by unfold maxLen; omega, by simpa using hx, .inr ⟨_, rfl, fun i hi => ?_⟩⟩
  have : i = 0 := by simpa using hi
  subst this
  rw [Addr.add_lit]
  exact cell_of_row _ _ _ _ t (0, 0) (heap_alloc_new w _)
end Go.Proofs.YteojkfbnenfmkaaDoor.Byt
