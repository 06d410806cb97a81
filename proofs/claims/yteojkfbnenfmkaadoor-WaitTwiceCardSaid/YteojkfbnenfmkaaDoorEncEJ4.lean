/- What enc.Cut returns: a contract. | Plain facts on texts in bytes: what is put is cut off again. No condition. | Which texts may be keys: plain facts. No condition. | Plain facts on operations: which may be, what they are in bytes, and the one that bytes begin with. No condition. -/
import Derived.Test.YteojkfbnenfmkaaDoorEncMJ6
import Derived.Test.YteojkfbnenfmkaaDoorGrow
import Derived.WalkKit
namespace Go.Proofs.YteojkfbnenfmkaaDoor.EncE
set_option maxRecDepth 100000
open Go.RowKit Go.Sort Byt BytR EncM EncC EncG

/-- The text that bytes begin with, of at most so many bytes, and what stands behind. -/
def cutL (bs : List Int) (most : Int) : Option (List Int × List Int) :=
  if (getL bs).2 = 0 ∨ most < 0 ∨ most < (getL bs).1 ∨ bs.length - (getL bs).2 < (getL bs).1 then none
  else some ((bs.drop (getL bs).2).take (getL bs).1, (bs.drop (getL bs).2).drop (getL bs).1)

end Go.Proofs.YteojkfbnenfmkaaDoor.EncE
namespace Go.Proofs.YteojkfbnenfmkaaDoor.EncT
set_option maxRecDepth 100000
open Byt EncM EncC EncE

theorem textL_length (a : List Int) (h : a.length ≤ 1099511627776) : (textL a).length ≤ a.length + 10 := by
  unfold textL
  have := numL_ten (n := a.length) (by omega)
  rw [List.length_append]
  omega
theorem textL_B {a : List Int} (h : ∀ x ∈ a, B x) : ∀ x ∈ textL a, B x := by
  intro x hx
  rcases List.mem_append.1 hx with hx | hx
  · exact numL_range _ x hx
  · exact h x hx
/-- A text is cut off, whatever stands behind, unless it is longer than what is asked for. -/
theorem cut_text (a r : List Int) (most : Int) (h : a.length ≤ 1099511627776) : cutL (textL a ++ r) most = if (a.length : Int) ≤ most then some (a, r) else none := by
  have g := getL_num a.length (a ++ r) (by omega)
  have e : textL a ++ r = numL a.length ++ (a ++ r) := by unfold textL; rw [List.append_assoc]
  have hp := numL_pos a.length
  unfold cutL
  rw [e, g]
  have hd : (numL a.length ++ (a ++ r)).drop (numL a.length).length = a ++ r := List.drop_left
  simp only [hd, List.length_append]
  by_cases hm : (a.length : Int) ≤ most
  · rw [if_pos hm, if_neg (by omega), List.take_left, List.drop_left]
  · rw [if_neg hm, if_pos (by omega)]
end Go.Proofs.YteojkfbnenfmkaaDoor.EncT
namespace Go.Proofs.YteojkfbnenfmkaaDoor.OpsM
set_option maxRecDepth 100000

/-- May a byte stand in a key? May a text be one? -/
def signB (x : Int) : Bool := (decide (97 ≤ x) && decide (x ≤ 122)) || (decide (48 ≤ x) && decide (x ≤ 57))
def keyL (l : List Int) : Bool := decide (1 ≤ l.length) && decide (l.length ≤ 8) && l.all signB
theorem keyL_len {l : List Int} (h : keyL l = true) : 1 ≤ l.length ∧ l.length ≤ 8 := by
  unfold keyL at h
  simp only [Bool.and_eq_true, decide_eq_true_eq] at h
  exact h.1
end Go.Proofs.YteojkfbnenfmkaaDoor.OpsM
namespace Go.Proofs.YteojkfbnenfmkaaDoor.OpsM
set_option maxRecDepth 100000
open Byt EncM EncC EncE EncT

/-- An operation. -/
structure Opn where
  kind : Int
  key : ByteArray
  elem : ByteArray
  n : Int
/-- A number of 64 bits, of either sign. -/
def I64 (n : Int) : Prop := -9223372036854775808 ≤ n ∧ n ≤ 9223372036854775807
/-- What an operation has beside its key, of an Inc, and of the others. -/
def stepB (n : Int) (e : ByteArray) : Bool := decide (-1048576 ≤ n) && decide (n ≤ 1048576) && decide (n ≠ 0) && decide (bytesL e = [])
def elemB (n : Int) (e : ByteArray) : Bool := keyL (bytesL e) && decide (n = 0)
def restB (o : Opn) : Bool := if o.kind = 0 then stepB o.n o.elem else if o.kind = 1 ∨ o.kind = 2 ∨ o.kind = 3 then elemB o.n o.elem else false
def mayO (o : Opn) : Bool := keyL (bytesL o.key) && restB o
theorem restB_kind {o : Opn} (h : restB o = true) : o.kind = 0 ∧ stepB o.n o.elem = true ∨ (o.kind = 1 ∨ o.kind = 2 ∨ o.kind = 3) ∧ elemB o.n o.elem = true := by
  unfold restB at h
  split at h
  · exact .inl ⟨‹_›, h⟩
  · split at h
    · exact .inr ⟨‹_›, h⟩
    · cases h
theorem mayO_kind {o : Opn} (h : mayO o = true) : keyL (bytesL o.key) = true ∧ (o.kind = 0 ∧ stepB o.n o.elem = true ∨ (o.kind = 1 ∨ o.kind = 2 ∨ o.kind = 3) ∧ elemB o.n o.elem = true) := by
  unfold mayO at h
  rw [Bool.and_eq_true] at h
  exact ⟨h.1, restB_kind h.2⟩
theorem stepB_iff {n : Int} {e : ByteArray} : stepB n e = true ↔ -1048576 ≤ n ∧ n ≤ 1048576 ∧ n ≠ 0 ∧ bytesL e = [] := by
  unfold stepB
  simp only [Bool.and_eq_true, decide_eq_true_eq]
  constructor
  · rintro ⟨⟨⟨a, b⟩, c⟩, d⟩; exact ⟨a, b, c, d⟩
  · rintro ⟨a, b, c, d⟩; exact ⟨⟨⟨a, b⟩, c⟩, d⟩
theorem elemB_iff {n : Int} {e : ByteArray} : elemB n e = true ↔ keyL (bytesL e) = true ∧ n = 0 := by
  unfold elemB
  simp only [Bool.and_eq_true, decide_eq_true_eq]
/-- An operation in bytes. -/
def tailL (o : Opn) : List Int := if o.kind = 0 then numL (foldI o.n).toNat else textL (bytesL o.elem)
def putL (o : Opn) : List Int := numL o.kind.toNat ++ textL (bytesL o.key) ++ tailL o
/-- What stands behind a kind and a key. -/
def tailG (k : Nat) (key r : List Int) : Option (Opn × List Int) :=
  if k = 0 then (if (getL r).2 = 0 then none else some (⟨0, strOf key, ⟨#[]⟩, unfoldI ((getL r).1 : Nat)⟩, r.drop (getL r).2))
  else match cutL r 8 with
    | none => none
    | some (e, r2) => some (⟨k, strOf key, strOf e, 0⟩, r2)
/-- One that may be. -/
def keep (p : Option (Opn × List Int)) : Option (Opn × List Int) :=
  match p with
  | none => none
  | some (o, r) => if mayO o = true then some (o, r) else none
def getO (bs : List Int) : Option (Opn × List Int) :=
  if (getL bs).2 = 0 ∨ 4 ≤ (getL bs).1 then none
  else match cutL (bs.drop (getL bs).2) 8 with
    | none => none
    | some (key, r) => keep (tailG (getL bs).1 key r)

theorem empty_of {e : ByteArray} (h : bytesL e = []) : e = ⟨#[]⟩ := by rw [← strOf_bytesL e, h]; rfl
theorem unfold_fold {k : Int} (_h : I64 k) : unfoldI (foldI k) = k := by
  unfold unfoldI foldI
  by_cases h0 : 0 ≤ k
  · rw [if_pos h0, if_pos (by omega)]; omega
  · rw [if_neg h0, if_neg (by omega)]; omega
theorem foldI_bd {k : Int} (h : I64 k) : 0 ≤ foldI k ∧ foldI k ≤ 18446744073709551615 := by
  unfold I64 at h
  unfold foldI
  split <;> omega

/-- What is put is got, whatever stands behind. -/
theorem get_put {o : Opn} (h : mayO o = true) (r : List Int) : getO (putL o ++ r) = some (o, r) := by
  obtain ⟨hk, hr⟩ := mayO_kind h
  have hkl := keyL_len hk
  have hkind : o.kind.toNat < 4 := by rcases hr with ⟨h0, _⟩ | ⟨h0, _⟩ <;> omega
  have e : putL o ++ r = numL o.kind.toNat ++ (textL (bytesL o.key) ++ (tailL o ++ r)) := by unfold putL; simp only [List.append_assoc]
  have g := getL_num o.kind.toNat (textL (bytesL o.key) ++ (tailL o ++ r)) (by omega)
  have hp := numL_pos o.kind.toNat
  unfold getO
  rw [e, g]
  simp only [List.drop_left]
  rw [if_neg (by omega), cut_text _ _ _ (by omega), if_pos (by omega)]
  have ht : tailG o.kind.toNat (bytesL o.key) (tailL o ++ r) = some (o, r) := by
    unfold tailG tailL
    rcases hr with ⟨h0, hs⟩ | ⟨h0, he⟩
    · rw [stepB_iff] at hs
      obtain ⟨h1, h2, h3, h4⟩ := hs
      have hI : I64 o.n := by unfold I64; omega
      have hf := foldI_bd hI
      have g2 := getL_num (foldI o.n).toNat r (by omega)
      have hp2 := numL_pos (foldI o.n).toNat
      rw [if_pos h0, if_pos (by omega), g2]
      simp only [List.drop_left]
      rw [if_neg (by omega)]
      have hu : unfoldI (((foldI o.n).toNat : Nat) : Int) = o.n := by
        rw [show (((foldI o.n).toNat : Nat) : Int) = foldI o.n by omega, unfold_fold hI]
      rw [hu, strOf_bytesL]
      have := empty_of h4
      cases o
      simp only at h0 this ⊢
      rw [h0, this]
    · rw [elemB_iff] at he
      obtain ⟨h1, h2⟩ := he
      have := keyL_len h1
      rw [if_neg (by omega), if_neg (by omega), cut_text _ _ _ (by omega), if_pos (by omega)]
      simp only [strOf_bytesL]
      have hk2 : ((o.kind.toNat : Nat) : Int) = o.kind := by omega
      rw [hk2]
      cases o
      simp only at h2 ⊢
      rw [h2]
  simp only [ht, keep, h, if_true]
theorem putL_B (o : Opn) : ∀ x ∈ putL o, B x := by
  intro x hx
  unfold putL tailL at hx
  rcases List.mem_append.1 hx with hx | hx
  · rcases List.mem_append.1 hx with hx | hx
    · exact numL_range _ x hx
    · exact textL_B (bytesL_B _) x hx
  · split at hx
    · exact numL_range _ x hx
    · exact textL_B (bytesL_B _) x hx
theorem putL_len {o : Opn} (h : mayO o = true) : (putL o).length ≤ 60 := by
  obtain ⟨hk, hr⟩ := mayO_kind h
  have hkl := keyL_len hk
  have h1 := numL_ten (n := o.kind.toNat) (by rcases hr with ⟨h0, _⟩ | ⟨h0, _⟩ <;> omega)
  have h2 := textL_length (bytesL o.key) (by omega)
  have h3 : (tailL o).length ≤ 20 := by
    unfold tailL
    split
    · rcases hr with ⟨h0, hs⟩ | ⟨h0, _⟩
      · rw [stepB_iff] at hs
        have := foldI_bd (k := o.n) (by unfold I64; omega)
        have := numL_ten (n := (foldI o.n).toNat) (by omega)
        omega
      · omega
    · rcases hr with ⟨h0, hs⟩ | ⟨h0, he⟩
      · omega
      · rw [elemB_iff] at he
        have := keyL_len he.1
        have := textL_length (bytesL o.elem) (by omega)
        omega
  unfold putL
  simp only [List.length_append]
  omega
end Go.Proofs.YteojkfbnenfmkaaDoor.OpsM
