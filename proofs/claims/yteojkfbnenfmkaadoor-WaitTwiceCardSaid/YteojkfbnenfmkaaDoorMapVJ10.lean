/- Maps whose keys are ids, of values of whatever kind. No condition. | Clocks and views in memory; what the project's has, and, copied of package dag return. No condition. | What the project's together of package dag returns: a contract. | What the project's order of package dag, and the function that it sorts by, return: contracts. | Slices of ints in memory: read, cut, appended to; and what is put in at its place. No condition. | A contract of the library's, laid at this program: slices.SortFunc at numbers. | What the project's order of package dag returns: a contract. | As Grow, where the last operation may write what was there: it waits for all others. No condition. | What the project's known of package dag returns: a contract. | What the document's Find of package dag returns: a contract. -/
import Derived.Test.YteojkfbnenfmkaaDoorIdK
import Derived.Maps.OwnSet
import Derived.Test.YteojkfbnenfmkaaDoorDgEJ3
import Derived.Test.YteojkfbnenfmkaaDoorIdBJ5
import Derived.Test.YteojkfbnenfmkaaDoorCmFJ2
import Derived.Test.YteojkfbnenfmkaaDoorDgKJ8
import Derived.Test.YteojkfbnenfmkaaDoorRefEJ10
import Derived.BigRegion
import Derived.Test.YteojkfbnenfmkaaDoorCmA
import Derived.Test.YteojkfbnenfmkaaDoorEvWJ7
import Derived.Shelf.SlLaysF
import Derived.Test.YteojkfbnenfmkaaDoorProg
import Derived.Test.YteojkfbnenfmkaaDoorRotDJ4
import Derived.Shelf.SlSortCmp.NoneTotal
import Derived.Test.YteojkfbnenfmkaaDoorDgR
namespace Go.Proofs.YteojkfbnenfmkaaDoor.MapV
set_option maxRecDepth 100000
open Go Go.RowKit Go.Maps IdM Byt IdW IdK

/-- A value is told as itself. -/
def R (v : Value) : Option (DataW Value × List MemPlace) := some (.held v, [])
/-- The map in block b, of at most n entries, has these values. -/
def ValD (D : DataW Value) (f : Idn → Option Value) : Prop := (∀ x, Maps.has D (key x) = (f x).isSome) ∧ ∀ x v, f x = some v → ∀ z, D.atKey (key x) z = .held v
def ValIn (w : World) (b n : Nat) (f : Idn → Option Value) : Prop := ∃ D : DataW Value, w.ownsMap Tryd.prog 42 R b n D ∧ ValD D f
theorem ValIn.kept {w w' : World} {b n : Nat} {f : Idn → Option Value} {row : Option Nat} (h : ValIn w b n f) (hg : w.grownBy w' row) (hne : some b ≠ row) : ValIn w' b n f := by
  obtain ⟨D, hD, hs⟩ := h
  exact ⟨D, hD.kept hg hne, hs⟩
theorem ValIn.alloc {w : World} {b n : Nat} {f : Idn → Option Value} (h : ValIn w b n f) (o : Obj) : ValIn (w.alloc o) b n f := h.kept (World.grownBy_alloc w o none) (by simp)
theorem ValIn.mono {w : World} {b n m : Nat} {f : Idn → Option Value} (h : ValIn w b n f) (hm : n ≤ m) : ValIn w b m f := by
  obtain ⟨D, hD, hs⟩ := h
  exact ⟨D, hD.mono hm, hs⟩
section
variable {T e : TypeId} (hT : Tryd.prog.underlying T = some (.map 42 e)) {zv : Value} (hz : ∀ w : World, (zeroValue e).run Tryd.prog w = .ok zv w)
include hT
section
variable (w : World) {ops : Array Oper} {rest : List Oper} {o : Oper} {a : Act} {Q : Exit → Act → World → Prop}
end
end
end Go.Proofs.YteojkfbnenfmkaaDoor.MapV
namespace Go.Proofs.YteojkfbnenfmkaaDoor.DgY
set_option maxRecDepth 100000
open Go Go.Sort Go.RowKit Byt IdM IdW OpsM OpsW CmM StW CmW CmX CmY DgM DgW DgX

section
variable {ops : Array Oper} {rest : List Oper} {o : Oper} {a : Act} {w : World} {Q : Exit → Act → World → Prop}
end
end Go.Proofs.YteojkfbnenfmkaaDoor.DgY
namespace Go.Proofs.YteojkfbnenfmkaaDoor.DhT
set_option maxRecDepth 100000
open Go Go.Sort Go.RowKit Byt IdM IdW OpsM OpsW CmM StW CmW CmX CmY DgM DgW DgX DgY
open Classical

section
variable {ops : Array Oper} {rest : List Oper} {o : Oper} {a : Act} {w : World} {Q : Exit → Act → World → Prop}
end
end Go.Proofs.YteojkfbnenfmkaaDoor.DhT
namespace Go.Proofs.YteojkfbnenfmkaaDoor.DhO
set_option maxRecDepth 100000
open Go Go.Sort Go.RowKit Byt IdM IdW OpsM OpsW CmM StW CmW CmX CmY DgM DgW

end Go.Proofs.YteojkfbnenfmkaaDoor.DhO
namespace Go.Proofs.YteojkfbnenfmkaaDoor.DgI
set_option maxRecDepth 100000
open Go Go.Sort Go.RowKit Byt IdM IdW OpsM OpsW CmM StW CmW

def nv (l : List Nat) : List Value := l.map fun (n : Nat) => Value.int .i64 n
theorem nv_length (l : List Nat) : (nv l).length = l.length := List.length_map ..
/-- The slice with address A, as long as l, and with room for cap, has the values l. -/
def SlN (w : World) (A : Option Addr) (cap : Nat) (l : List Nat) : Prop :=
  l.length ≤ cap ∧ cap ≤ maxLen ∧ ((A = none ∧ l = [] ∧ cap = 0) ∨ ∃ x, A = some x ∧ ∀ i v, (nv l)[i]? = some v → w.cell? (x.add i) = some v)
theorem SlN.nil (w : World) : SlN w none 0 [] := ⟨Nat.le_refl _, Nat.zero_le _, .inl ⟨rfl, rfl, rfl⟩⟩
theorem SlN.part {w : World} {A : Option Addr} {cap : Nat} {l : List Nat} (h : SlN w A cap l) (i j : Nat) (hij : i ≤ j) (hj : j ≤ l.length) :
    ∃ A' cap', sliced A i j cap 1 = .slice A' (j - i) cap' ∧ SlN w A' cap' ((l.drop i).take (j - i)) ∧ ((l.drop i).take (j - i)).length = j - i := by
  obtain ⟨h1, h2, h5⟩ := h
  have hl : ((l.drop i).take (j - i)).length = j - i := by simp; omega
  rcases h5 with ⟨rfl, rfl, rfl⟩ | ⟨x, rfl, hc⟩
  · simp at hj
    obtain rfl : j = 0 := hj
    obtain rfl : i = 0 := by omega
    exact ⟨none, 0, by simp [sliced], by simpa using SlN.nil w, hl⟩
  · by_cases hci : cap = i
    · refine ⟨some x, cap - i, by simp [sliced, hci], ⟨by rw [hl]; omega, by omega, .inr ⟨x, rfl, fun m v hv => ?_⟩⟩, hl⟩
      have := (List.getElem?_eq_some_iff.1 hv).1
      rw [nv_length, hl] at this
      omega
    · refine ⟨some (x.add (i * 1)), cap - i, by simp [sliced, hci], ⟨by rw [hl]; omega, by omega, .inr ⟨_, rfl, fun m v hv => ?_⟩⟩, hl⟩
      rw [Addr.add_add]
      apply hc
      have hm := (List.getElem?_eq_some_iff.1 hv).1
      rw [nv_length, hl] at hm
      unfold nv at hv ⊢
      rw [List.getElem?_map, List.getElem?_take, if_pos (by omega), List.getElem?_drop] at hv
      rw [List.getElem?_map, Nat.mul_one]
      exact hv
end Go.Proofs.YteojkfbnenfmkaaDoor.DgI
namespace Go.Proofs
set_option maxRecDepth 100000
open Go.Shelf
end Go.Proofs
namespace Go.Proofs.YteojkfbnenfmkaaDoor.DhP
set_option maxRecDepth 100000
open Go Go.Shelf Go.Sort Go.RowKit Go.Lib Byt IdM IdW OpsM OpsW CmM StW CmW CmX CmY DgM DgW DgI DhO

section
variable {ops : Array Oper} {rest : List Oper} {o : Oper} {a : Act} {w : World} {Q : Exit → Act → World → Prop}
end
end Go.Proofs.YteojkfbnenfmkaaDoor.DhP
namespace Go.Proofs.YteojkfbnenfmkaaDoor.GrowL
set_option maxRecDepth 100000
open Go Go.Sort Go.RowKit

section
variable {P : Program} {ops : Array Oper} {Q : Exit → Act → World → Prop} {md : Region.Mode}


/-- Whatever order is picked from here on, and each operation but L leaves all that was there as it was. -/
def M (L : Nat) (P : Program) (md : Region.Mode) (ops : Array Oper) (Q : Exit → Act → World → Prop) : Nat → Array Bool → Act → World → Prop
  | 0, listed, a, w => Region.ready md ops listed = [] ∧ Q .normal a w
  | fuel + 1, listed, a, w => (Region.ready md ops listed = [] → Q .normal a w) ∧
    ∀ i ∈ Region.ready md ops listed, wpOp P ops Q i (fun a' w' => (i ≠ L → Below w.heap.size w w') ∧ M L P md ops Q fuel (listed.setIfInBounds i true) a' w') a w
theorem M.any {L : Nat} : ∀ (fuel : Nat) (listed : Array Bool) (a : Act) (w : World), M L P md ops Q fuel listed a w → wpAny P md ops Q fuel listed a w
  | 0, _, _, _, h => h
  | fuel + 1, _, _, _, h => ⟨h.1, fun i hi => wpOp_mono (fun a' w' h' => M.any fuel _ a' w' h'.2) (h.2 i hi)⟩






end
end Go.Proofs.YteojkfbnenfmkaaDoor.GrowL
namespace Go.Proofs.YteojkfbnenfmkaaDoor.DhK
set_option maxRecDepth 100000
open Go Go.Sort Go.RowKit Byt IdM IdW OpsM OpsW CmM StW CmW CmX CmY CmA DgM DgW DgX DgY DgI DhO DhP DhT
open Classical

section
variable {H : Com → Idn}
end
end Go.Proofs.YteojkfbnenfmkaaDoor.DhK
namespace Go.Proofs.YteojkfbnenfmkaaDoor.DgG
set_option maxRecDepth 100000
open Go Go.Sort Go.RowKit Byt IdM IdW OpsM OpsW CmM StW CmW CmX CmY DgM DgN DgW DgR

theorem fit_noK : CmW.Fit noK := ⟨by unfold I64; decide, by unfold I64; decide, by unfold I64; decide, by constructor <;> first | (unfold I64; decide) | decide⟩
end Go.Proofs.YteojkfbnenfmkaaDoor.DgG
