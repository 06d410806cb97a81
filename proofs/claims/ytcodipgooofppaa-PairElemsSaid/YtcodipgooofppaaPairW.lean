/- Pairs in memory. No condition. -/
import Derived.Test.YtcodipgooofppaaPairN
import Derived.Test.YtcodipgooofppaaRowG
import Derived.Laws.Cover1
namespace Go.Proofs.Ytcodipgooofppaa.PairW
open Go Go.RowKit Byt OpsM Rise PairM RowS RowB

def E : Enc Pr where
  T := 26
  S := 22
  k := 4
  bytes := 48
  d := _
  enc c := [.string c.key, .string c.elem, .int .i64 c.node, .int .i64 c.seq]
  zero := ⟨⟨#[]⟩, ⟨#[]⟩, 0, 0⟩
  len _ := rfl
  one c v hv := by
    simp only [List.mem_cons, List.not_mem_nil, or_false] at hv
    rcases hv with rfl | rfl | rfl | rfl <;> rfl
  pos := by omega
  small := by omega
  info := by kernel_rfl
  slice := Try.underlying22
  under := Try.underlying26
  row := rfl
/-- A pair's cells. -/
def pc (c : Pr) : Array Value := #[.string c.key, .string c.elem, .int .i64 c.node, .int .i64 c.seq]
theorem box_cells {w : World} {g : Nat} {c : Pr} (h : Box E w g c) : w.cell? ⟨g, 0, none⟩ = some (.string c.key) ∧ w.cell? ⟨g, 1, none⟩ = some (.string c.elem) ∧ w.cell? ⟨g, 2, none⟩ = some (.int .i64 c.node) ∧ w.cell? ⟨g, 3, none⟩ = some (.int .i64 c.seq) :=
  ⟨h.cell (j := 0) rfl, h.cell (j := 1) rfl, h.cell (j := 2) rfl, h.cell (j := 3) rfl⟩
theorem cells {w : World} {b o : Nat} {c : Pr} (h : w.rangeAt b o (E.enc c)) : w.cell? ⟨b, o, none⟩ = some (.string c.key) ∧ w.cell? ⟨b, o + 1, none⟩ = some (.string c.elem) ∧ w.cell? ⟨b, o + 2, none⟩ = some (.int .i64 c.node) ∧ w.cell? ⟨b, o + 3, none⟩ = some (.int .i64 c.seq) :=
  ⟨h 0 _ rfl, h 1 _ rfl, h 2 _ rfl, h 3 _ rfl⟩
theorem plain {w : World} {A : Option Addr} {cap : Nat} {l : List Pr} (h : SlR E w A cap l) (hp : 0 < l.length) :
    ∃ b off, A = some ⟨b, off, none⟩ ∧ b < w.heap.size ∧ ∀ i x, l[i]? = some x → w.rangeAt b (off + i * 4) (E.enc x) := h.plain hp
def In64 (x : Int) : Prop := -9223372036854775808 ≤ x ∧ x ≤ 9223372036854775807
/-- What may be in memory. -/
structure Fit (c : Pr) : Prop where
  key : c.key.size ≤ 1099511627776
  elem : c.elem.size ≤ 1099511627776
  node : In64 c.node
  seq : In64 c.seq
def Fits (l : List Pr) : Prop := ∀ c ∈ l, Fit c
theorem getD_drop {l : List Pr} {i : Nat} {x : Pr} (h : l[i]? = some x) : l.drop i = x :: l.drop (i + 1) := by
  obtain ⟨hi, rfl⟩ := List.getElem?_eq_some_iff.1 h
  exact List.drop_eq_getElem_cons hi
theorem str_yes {a b : ByteArray} (h : a = b) : (a.toList == b.toList) = true := by rw [h]; simp
theorem str_no {a b : ByteArray} (h : a ≠ b) : (a.toList == b.toList) = false := by
  rw [beq_eq_false_iff_ne]
  exact fun e => h (Rise.toList_inj e)
theorem bne_yes {a b : ByteArray} (h : a = b) : (a.toList != b.toList) = false := by rw [bne, str_yes h]; rfl
theorem bne_no {a b : ByteArray} (h : a ≠ b) : (a.toList != b.toList) = true := by rw [bne, str_no h]; rfl
theorem below_alloc (w : World) (o : Obj) : Below w.heap.size w (w.alloc o) := (Below.refl _ _).alloc (Nat.le_refl _) _
end Go.Proofs.Ytcodipgooofppaa.PairW
