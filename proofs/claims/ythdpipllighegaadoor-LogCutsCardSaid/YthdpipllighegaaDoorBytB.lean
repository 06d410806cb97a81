/- Bytes as numbers and as strings, and worlds that grow: what needs no slice of bytes. No condition. -/
import Derived.Test.YthdpipllighegaaDoorRows
import Derived.Test.YthdpipllighegaaDoorRowIn
import Derived.Handy
import Derived.StillTailTactics
import Derived.Laws.AppendOwn
import Derived.Laws.AppendOwnNone
import Derived.Laws.IdiomStrings
import Derived.DataElems
import Derived.Lib.AppendStr
import Derived.OwnWalk
import Derived.Deep.QuietTactic
import Derived.BigQuiet
import Derived.BigRegion
import Derived.IntWalk
namespace Go.Proofs.YthdpipllighegaaDoor.Byt
set_option maxRecDepth 100000
open Go.RowKit

/-- A fact laid aside, so that the walk does not rewrite by it. -/
theorem aside {p : Prop} (h : p) : Hid p := h
/-- A byte. -/
def B (b : Int) : Prop := 0 ≤ b ∧ b ≤ 255
theorem B_of_wf {n : Int} (h : (Lit.int .u8 n).wf = true) : B n := by
  unfold B
  simpa [Lit.wf, IntKind.min, IntKind.max, IntKind.bits, IntKind.signed] using h

/-- Numbers as cells of bytes. -/
def bv (l : List Int) : List Value := l.map (Value.int .u8)
theorem bv_length (l : List Int) : (bv l).length = l.length := by simp [bv]
theorem bv_append (a b : List Int) : bv (a ++ b) = bv a ++ bv b := by simp [bv]
theorem bv_one (l : List Int) : ∀ v ∈ bv l, v.oneCell' = true := by
  intro v hv
  simp only [bv, List.mem_map] at hv
  obtain ⟨n, _, rfl⟩ := hv
  rfl
theorem bv_at (l : List Int) {i : Nat} (h : i < l.length) : (bv l)[i]? = some (.int .u8 (l.getD i 0)) := by
  simp [bv, h]

/-- The string of some bytes, and the bytes of a string. -/
def strOf (l : List Int) : ByteArray := ⟨(l.map fun n => UInt8.ofNat n.toNat).toArray⟩
def bytesL (s : ByteArray) : List Int := s.data.toList.map fun b => (b.toNat : Int)
theorem bytesL_length (s : ByteArray) : (bytesL s).length = s.size := by
  unfold bytesL
  rw [List.length_map, Array.length_toList]
  rfl
theorem bytesL_B (s : ByteArray) : ∀ x ∈ bytesL s, B x := by
  intro x hx
  simp only [bytesL, List.mem_map] at hx
  obtain ⟨b, _, rfl⟩ := hx
  have := b.toNat_lt
  unfold B
  omega
theorem strCells_bv (s : ByteArray) : Lib.strCells s = bv (bytesL s) := by
  simp [Lib.strCells, bv, bytesL]
theorem strOf_bytesL (s : ByteArray) : strOf (bytesL s) = s := by
  unfold strOf bytesL
  have e : (List.map (fun n : Int => UInt8.ofNat n.toNat) (List.map (fun b : UInt8 => (b.toNat : Int)) s.data.toList)) = s.data.toList := by
    rw [List.map_map]
    conv => rhs; rw [← List.map_id s.data.toList]
    apply List.map_congr_left
    intro b _
    simp
  rw [e]
theorem bytesL_strOf {l : List Int} (h : ∀ x ∈ l, B x) : bytesL (strOf l) = l := by
  unfold strOf bytesL
  simp only [List.map_map]
  conv => rhs; rw [← List.map_id l]
  apply List.map_congr_left
  intro x hx
  have := h x hx
  unfold B at this
  simp
  omega
theorem bytesL_inj {s t : ByteArray} (h : bytesL s = bytesL t) : s = t := by rw [← strOf_bytesL s, ← strOf_bytesL t, h]
theorem strOf_inj {a b : List Int} (ha : ∀ x ∈ a, B x) (hb : ∀ x ∈ b, B x) (h : strOf a = strOf b) : a = b := by
  rw [← bytesL_strOf ha, ← bytesL_strOf hb, h]
theorem toList_inj {s t : ByteArray} : s.toList = t.toList ↔ s = t := by
  rw [ByteArray.toList_eq, ByteArray.toList_eq]
  constructor
  · intro h
    cases s; cases t
    congr 1
    exact Array.ext' h
  · intro h; rw [h]
/-- Strings are compared as the lists of their bytes. -/
theorem str_beq (s t : ByteArray) : (s.toList == t.toList) = decide (bytesL s = bytesL t) := by
  rw [Bool.eq_iff_iff, beq_iff_eq, decide_eq_true_eq, toList_inj]
  exact ⟨fun h => by rw [h], bytesL_inj⟩
theorem strOf_beq {a b : List Int} (ha : ∀ x ∈ a, B x) (hb : ∀ x ∈ b, B x) : ((strOf a).toList == (strOf b).toList) = decide (a = b) := by
  rw [str_beq, bytesL_strOf ha, bytesL_strOf hb]
theorem strOf_bne {a b : List Int} (ha : ∀ x ∈ a, B x) (hb : ∀ x ∈ b, B x) : ((strOf a).toList != (strOf b).toList) = !decide (a = b) := by
  rw [bne, strOf_beq ha hb]
theorem below_drewN (w : World) (n : Nat) : Below w.heap.size w (w.drewN n) := ⟨rfl, rfl, rfl, Nat.le_refl _, fun _ _ => rfl⟩
theorem grown_of_below {w w' : World} (hb : Below w.heap.size w w') (row : Option Nat) : w.grownBy w' row := ⟨hb.os, hb.tape, hb.output, hb.size, fun i hi _ => hb.block i hi⟩
theorem owns_below {w w' : World} {base : Nat} {e : TypeId} {size : Nat} {v : Value} {n : Nat} {xs : List Value} (h : w.ownsRow base e size v n xs) (hb : Below w.heap.size w w') : w'.ownsRow base e size v n xs :=
  h.kept (grown_of_below hb none) (by cases hv : v.ownBlock <;> simp)
theorem below_grown {B : Nat} {w0 w w' : World} {row : Option Nat} (hb : Below B w0 w) (hB : B ≤ w.heap.size) (hg : w.grownBy w' row) (hr : ∀ k, row = some k → B ≤ k) : Below B w0 w' :=
  hb.trans ⟨hg.os, hg.tape, hg.output, hg.size, fun k hk => hg.block k (by omega) (fun e => by have := hr k e.symm; omega)⟩
theorem below_drew {k : Nat} {w w' : World} (h : Below k w w') (n : Nat) : Below k w (w'.drewN n) := ⟨h.os, h.tape, h.output, h.size, h.block⟩
theorem below_drew1 {k : Nat} {w w' : World} (h : Below k w w') : Below k w w'.drew := ⟨h.os, h.tape, h.output, h.size, h.block⟩
theorem owns_less {w : World} {base base' : Nat} {e : TypeId} {size : Nat} {v : Value} {n : Nat} {xs : List Value} (h : w.ownsRow base e size v n xs) (hb : base' ≤ base) : w.ownsRow base' e size v n xs := by
  refine ⟨h.1, h.2.imp id ?_⟩
  rintro ⟨g, cap, cur, h1, h2, h3⟩
  exact ⟨g, cap, cur, h1, Nat.le_trans hb h2, h3⟩
end Go.Proofs.YthdpipllighegaaDoor.Byt
