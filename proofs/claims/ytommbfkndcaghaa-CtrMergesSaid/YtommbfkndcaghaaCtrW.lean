/- Counts in memory. No condition. -/
import Derived.Test.YtommbfkndcaghaaCtrM
import Derived.Test.YtommbfkndcaghaaRowS
import Derived.Laws.Cover1
namespace Go.Proofs.Ytommbfkndcaghaa.CtrW
open Go Go.RowKit Byt OpsM Rise CtrM RowS

def E : Enc Cn where
  T := 36
  S := 22
  k := 2
  bytes := 24
  d := _
  enc c := [.string c.key, .int .i64 c.n]
  zero := ⟨⟨#[]⟩, 0⟩
  len _ := rfl
  one c v hv := by
    simp only [List.mem_cons, List.not_mem_nil, or_false] at hv
    rcases hv with rfl | rfl <;> rfl
  pos := by omega
  small := by omega
  info := by kernel_rfl
  slice := Try.underlying22
  under := Try.underlying36
  row := rfl
/-- The cells of one count, as the walk asks for them. -/
theorem cells {w : World} {b o : Nat} {c : Cn} (h : w.rangeAt b o (E.enc c)) : w.cell? ⟨b, o, none⟩ = some (.string c.key) ∧ w.cell? ⟨b, o + 1, none⟩ = some (.int .i64 c.n) :=
  ⟨h 0 _ rfl, h 1 _ rfl⟩
theorem plain {w : World} {A : Option Addr} {cap : Nat} {l : List Cn} (h : SlR E w A cap l) (hp : 0 < l.length) :
    ∃ b off, A = some ⟨b, off, none⟩ ∧ b < w.heap.size ∧ ∀ i x, l[i]? = some x → w.rangeAt b (off + i * 2) (E.enc x) := h.plain hp
/-- Numbers that may be in memory. -/
def Fits (l : List Cn) : Prop := ∀ c ∈ l, c.key.size ≤ 1099511627776 ∧ -9223372036854775808 ≤ c.n ∧ c.n ≤ 9223372036854775807
theorem getD_drop {l : List Cn} {i : Nat} {x : Cn} (h : l[i]? = some x) : l.drop i = x :: l.drop (i + 1) := by
  obtain ⟨hi, rfl⟩ := List.getElem?_eq_some_iff.1 h
  exact List.drop_eq_getElem_cons hi
theorem str_yes {a b : ByteArray} (h : a = b) : (a.toList == b.toList) = true := by rw [h]; simp
theorem str_no {a b : ByteArray} (h : a ≠ b) : (a.toList == b.toList) = false := by
  rw [beq_eq_false_iff_ne]
  exact fun e => h (Rise.toList_inj e)
/-- One text not above another one, as the walk asks. -/
theorem leq_no {a b : ByteArray} (h : ltS b a = true) : (Op.bytesLess a.toList b.toList || a.toList == b.toList) = false := by
  have h1 : Op.bytesLess a.toList b.toList = false := strictS.asymm h
  rw [h1, str_no (fun e => strictS.ne h e.symm)]
  rfl
theorem leq_yes {a b : ByteArray} (h : ltS b a = false) : (Op.bytesLess a.toList b.toList || a.toList == b.toList) = true := by
  cases hl : Op.bytesLess a.toList b.toList with
  | true => rfl
  | false =>
    rw [str_yes (strictS.tri a b hl h)]
    rfl
end Go.Proofs.Ytommbfkndcaghaa.CtrW
