/- What enc.Cut returns: a contract. | Plain facts on texts in bytes: what is put is cut off again. No condition. | Plain facts on operations: which may be, what they are in bytes, and the one that bytes begin with. No condition. | Which events may be. No condition. | Plain facts on states: which may be, behind an operation, merged. No condition. -/
import Derived.Test.YtnjdkjkihbgkaaaGreatEncMJ6
import Derived.Test.YtnjdkjkihbgkaaaGreatGrow
import Derived.Test.YtnjdkjkihbgkaaaGreatKeyMJ4
import Derived.WalkKit
import Derived.Test.YtnjdkjkihbgkaaaGreatCtrLJ2
import Derived.Test.YtnjdkjkihbgkaaaGreatRegL
import Derived.Test.YtnjdkjkihbgkaaaGreatPairNJ2
namespace Go.Proofs.YtnjdkjkihbgkaaaGreat.EncE
set_option maxRecDepth 100000
open Go.RowKit Go.Sort Byt BytR EncM EncC EncG

/-- The text that bytes begin with, of at most so many bytes, and what stands behind. -/
def cutL (bs : List Int) (most : Int) : Option (List Int × List Int) :=
  if (getL bs).2 = 0 ∨ most < 0 ∨ most < (getL bs).1 ∨ bs.length - (getL bs).2 < (getL bs).1 then none
  else some ((bs.drop (getL bs).2).take (getL bs).1, (bs.drop (getL bs).2).drop (getL bs).1)
/-- What a function that cuts answers. -/
def CutOut (bs : List Int) (most : Int) (w : World) (e : Ending) (w' : World) : Prop :=
  Below w.heap.size w w' ∧ match cutL bs most with
    | none => e = .returned (.tuple #[.string ⟨#[]⟩, .slice none 0 0, .bool false])
    | some (a, r) => ∃ v, e = .returned (.tuple #[.string (strOf a), v, .bool true]) ∧ w'.ownsRow w.heap.size 5 1 v r.length (bv r)
theorem cut_none (bs : List Int) (most : Int) (w w' : World) (e : Ending) (h : (getL bs).2 = 0 ∨ most < 0 ∨ most < (getL bs).1 ∨ bs.length - (getL bs).2 < (getL bs).1) (hb : Below w.heap.size w w') (he : e = .returned (.tuple #[.string ⟨#[]⟩, .slice none 0 0, .bool false])) : CutOut bs most w e w' := by
  refine ⟨hb, ?_⟩
  unfold cutL
  rw [if_pos h]
  exact he
theorem cut_some (bs : List Int) (most : Int) (w w' : World) (e : Ending) (v : Value) (h : ¬ ((getL bs).2 = 0 ∨ most < 0 ∨ most < (getL bs).1 ∨ bs.length - (getL bs).2 < (getL bs).1)) (hb : Below w.heap.size w w') (he : e = .returned (.tuple #[.string (strOf ((bs.drop (getL bs).2).take (getL bs).1)), v, .bool true]))
    (ho : w'.ownsRow w.heap.size 5 1 v ((bs.drop (getL bs).2).drop (getL bs).1).length (bv ((bs.drop (getL bs).2).drop (getL bs).1))) : CutOut bs most w e w' := by
  refine ⟨hb, ?_⟩
  unfold cutL
  rw [if_neg h]
  exact ⟨v, he, ho⟩

end Go.Proofs.YtnjdkjkihbgkaaaGreat.EncE
namespace Go.Proofs.YtnjdkjkihbgkaaaGreat.EncT
set_option maxRecDepth 100000
open Byt EncM EncC EncE

theorem textL_length (a : List Int) (h : a.length ≤ 1099511627776) : (textL a).length ≤ a.length + 10 := by
  unfold textL
  have := numL_ten (n := a.length) (by omega)
  rw [List.length_append]
  omega
theorem textL_B {a : List Int} (h : ∀ x ∈ a, B x) : ∀ x ∈ textL a, B x := by
  intro x hx
  rcases List.mem_append.1 hx with hx | hx
  · exact numL_range _ x hx
  · exact h x hx
/-- A text is cut off, whatever stands behind, unless it is longer than what is asked for. -/
theorem cut_text (a r : List Int) (most : Int) (h : a.length ≤ 1099511627776) : cutL (textL a ++ r) most = if (a.length : Int) ≤ most then some (a, r) else none := by
  have g := getL_num a.length (a ++ r) (by omega)
  have e : textL a ++ r = numL a.length ++ (a ++ r) := by unfold textL; rw [List.append_assoc]
  have hp := numL_pos a.length
  unfold cutL
  rw [e, g]
  have hd : (numL a.length ++ (a ++ r)).drop (numL a.length).length = a ++ r := List.drop_left
  simp only [hd, List.length_append]
  by_cases hm : (a.length : Int) ≤ most
  · rw [if_pos hm, if_neg (by omega), List.take_left, List.drop_left]
  · rw [if_neg hm, if_pos (by omega)]
theorem cut_text0 (a : List Int) (most : Int) (h : a.length ≤ 1099511627776) : cutL (textL a) most = if (a.length : Int) ≤ most then some (a, []) else none := by
  have := cut_text a [] most h
  rwa [List.append_nil] at this
theorem textL_inj {a b : List Int} (ha : a.length ≤ 1099511627776) (hb : b.length ≤ 1099511627776) (h : textL a = textL b) : a = b := by
  have h1 := cut_text0 a 1099511627776 ha
  have h2 := cut_text0 b 1099511627776 hb
  rw [if_pos (by omega)] at h1 h2
  rw [h, h2] at h1
  have := Option.some.inj h1
  exact (Prod.mk.inj this).1.symm
end Go.Proofs.YtnjdkjkihbgkaaaGreat.EncT
namespace Go.Proofs.YtnjdkjkihbgkaaaGreat.OpsM
set_option maxRecDepth 100000
open Byt EncM EncC EncE EncT

/-- An operation. -/
structure Opn where
  kind : Int
  key : ByteArray
  elem : ByteArray
  n : Int
/-- A number of 64 bits, of either sign. -/
def I64 (n : Int) : Prop := -9223372036854775808 ≤ n ∧ n ≤ 9223372036854775807
/-- What an operation has beside its key, of an Inc, and of the others. -/
def stepB (n : Int) (e : ByteArray) : Bool := decide (-1048576 ≤ n) && decide (n ≤ 1048576) && decide (n ≠ 0) && decide (bytesL e = [])
def elemB (n : Int) (e : ByteArray) : Bool := keyL (bytesL e) && decide (n = 0)
def restB (o : Opn) : Bool := if o.kind = 0 then stepB o.n o.elem else if o.kind = 1 ∨ o.kind = 2 ∨ o.kind = 3 then elemB o.n o.elem else false
def mayO (o : Opn) : Bool := keyL (bytesL o.key) && restB o
theorem restB_kind {o : Opn} (h : restB o = true) : o.kind = 0 ∧ stepB o.n o.elem = true ∨ (o.kind = 1 ∨ o.kind = 2 ∨ o.kind = 3) ∧ elemB o.n o.elem = true := by
  unfold restB at h
  split at h
  · exact .inl ⟨‹_›, h⟩
  · split at h
    · exact .inr ⟨‹_›, h⟩
    · cases h
theorem mayO_kind {o : Opn} (h : mayO o = true) : keyL (bytesL o.key) = true ∧ (o.kind = 0 ∧ stepB o.n o.elem = true ∨ (o.kind = 1 ∨ o.kind = 2 ∨ o.kind = 3) ∧ elemB o.n o.elem = true) := by
  unfold mayO at h
  rw [Bool.and_eq_true] at h
  exact ⟨h.1, restB_kind h.2⟩
theorem stepB_iff {n : Int} {e : ByteArray} : stepB n e = true ↔ -1048576 ≤ n ∧ n ≤ 1048576 ∧ n ≠ 0 ∧ bytesL e = [] := by
  unfold stepB
  simp only [Bool.and_eq_true, decide_eq_true_eq]
  constructor
  · rintro ⟨⟨⟨a, b⟩, c⟩, d⟩; exact ⟨a, b, c, d⟩
  · rintro ⟨a, b, c, d⟩; exact ⟨⟨⟨a, b⟩, c⟩, d⟩
theorem elemB_iff {n : Int} {e : ByteArray} : elemB n e = true ↔ keyL (bytesL e) = true ∧ n = 0 := by
  unfold elemB
  simp only [Bool.and_eq_true, decide_eq_true_eq]
/-- An operation in bytes. -/
def tailL (o : Opn) : List Int := if o.kind = 0 then numL (foldI o.n).toNat else textL (bytesL o.elem)
def putL (o : Opn) : List Int := numL o.kind.toNat ++ textL (bytesL o.key) ++ tailL o
/-- What stands behind a kind and a key. -/
def tailG (k : Nat) (key r : List Int) : Option (Opn × List Int) :=
  if k = 0 then (if (getL r).2 = 0 then none else some (⟨0, strOf key, ⟨#[]⟩, unfoldI ((getL r).1 : Nat)⟩, r.drop (getL r).2))
  else match cutL r 8 with
    | none => none
    | some (e, r2) => some (⟨k, strOf key, strOf e, 0⟩, r2)
/-- One that may be. -/
def keep (p : Option (Opn × List Int)) : Option (Opn × List Int) :=
  match p with
  | none => none
  | some (o, r) => if mayO o = true then some (o, r) else none
def getO (bs : List Int) : Option (Opn × List Int) :=
  if (getL bs).2 = 0 ∨ 4 ≤ (getL bs).1 then none
  else match cutL (bs.drop (getL bs).2) 8 with
    | none => none
    | some (key, r) => keep (tailG (getL bs).1 key r)

theorem empty_of {e : ByteArray} (h : bytesL e = []) : e = ⟨#[]⟩ := by rw [← strOf_bytesL e, h]; rfl
theorem unfold_fold {k : Int} (_h : I64 k) : unfoldI (foldI k) = k := by
  unfold unfoldI foldI
  by_cases h0 : 0 ≤ k
  · rw [if_pos h0, if_pos (by omega)]; omega
  · rw [if_neg h0, if_neg (by omega)]; omega
theorem foldI_bd {k : Int} (h : I64 k) : 0 ≤ foldI k ∧ foldI k ≤ 18446744073709551615 := by
  unfold I64 at h
  unfold foldI
  split <;> omega
theorem fold_unfold {n : Int} (h : 0 ≤ n) : foldI (unfoldI n) = n := by
  unfold unfoldI foldI
  by_cases h0 : n % 2 = 0
  · rw [if_pos h0, if_pos (by omega)]; omega
  · rw [if_neg h0, if_neg (by omega)]; omega
theorem unfoldI_bd {n : Nat} (h : n < 18446744073709551616) : I64 (unfoldI n) := by
  unfold I64 unfoldI
  split <;> omega

/-- What is put is got, whatever stands behind. -/
theorem get_put {o : Opn} (h : mayO o = true) (r : List Int) : getO (putL o ++ r) = some (o, r) := by
  obtain ⟨hk, hr⟩ := mayO_kind h
  have hkl := keyL_len hk
  have hkind : o.kind.toNat < 4 := by rcases hr with ⟨h0, _⟩ | ⟨h0, _⟩ <;> omega
  have e : putL o ++ r = numL o.kind.toNat ++ (textL (bytesL o.key) ++ (tailL o ++ r)) := by unfold putL; simp only [List.append_assoc]
  have g := getL_num o.kind.toNat (textL (bytesL o.key) ++ (tailL o ++ r)) (by omega)
  have hp := numL_pos o.kind.toNat
  unfold getO
  rw [e, g]
  simp only [List.drop_left]
  rw [if_neg (by omega), cut_text _ _ _ (by omega), if_pos (by omega)]
  have ht : tailG o.kind.toNat (bytesL o.key) (tailL o ++ r) = some (o, r) := by
    unfold tailG tailL
    rcases hr with ⟨h0, hs⟩ | ⟨h0, he⟩
    · rw [stepB_iff] at hs
      obtain ⟨h1, h2, h3, h4⟩ := hs
      have hI : I64 o.n := by unfold I64; omega
      have hf := foldI_bd hI
      have g2 := getL_num (foldI o.n).toNat r (by omega)
      have hp2 := numL_pos (foldI o.n).toNat
      rw [if_pos h0, if_pos (by omega), g2]
      simp only [List.drop_left]
      rw [if_neg (by omega)]
      have hu : unfoldI (((foldI o.n).toNat : Nat) : Int) = o.n := by
        rw [show (((foldI o.n).toNat : Nat) : Int) = foldI o.n by omega, unfold_fold hI]
      rw [hu, strOf_bytesL]
      have := empty_of h4
      cases o
      simp only at h0 this ⊢
      rw [h0, this]
    · rw [elemB_iff] at he
      obtain ⟨h1, h2⟩ := he
      have := keyL_len h1
      rw [if_neg (by omega), if_neg (by omega), cut_text _ _ _ (by omega), if_pos (by omega)]
      simp only [strOf_bytesL]
      have hk2 : ((o.kind.toNat : Nat) : Int) = o.kind := by omega
      rw [hk2]
      cases o
      simp only at h2 ⊢
      rw [h2]
  simp only [ht, keep, h, if_true]
theorem get_put0 {o : Opn} (h : mayO o = true) : getO (putL o) = some (o, []) := by
  have := get_put h []
  rwa [List.append_nil] at this
/-- What is cut off is put as the same bytes. -/
theorem cut_back {bs a r : List Int} {most : Int} (hb : ∀ x ∈ bs, B x) (h : cutL bs most = some (a, r)) : bs = textL a ++ r ∧ (a.length : Int) ≤ most := by
  unfold cutL at h
  split at h
  · cases h
  · rename_i hn
    have hk : (getL bs).2 ≠ 0 := fun e => hn (.inl e)
    obtain ⟨h1, h2, h3, h4, h5⟩ := getL_back hb (N := (getL bs).1) (k := (getL bs).2) rfl hk
    injection h with h
    obtain ⟨rfl, rfl⟩ := Prod.mk.inj h
    have hl : ((bs.drop (getL bs).2).take (getL bs).1).length = (getL bs).1 := by simp; omega
    refine ⟨?_, by rw [hl]; omega⟩
    unfold textL
    rw [hl, ← h5, List.append_assoc, List.take_append_drop, List.take_append_drop]
theorem cut_B {bs a r : List Int} {most : Int} (hb : ∀ x ∈ bs, B x) (h : cutL bs most = some (a, r)) : (∀ x ∈ a, B x) ∧ ∀ x ∈ r, B x := by
  have e := (cut_back hb h).1
  rw [e] at hb
  exact ⟨fun x hx => hb x (by unfold textL; simp [hx]), fun x hx => hb x (by simp [hx])⟩
/-- What is got may be, and is put as the same bytes. -/
theorem put_get {bs r : List Int} {o : Opn} (hb : ∀ x ∈ bs, B x) (h : getO bs = some (o, r)) : mayO o = true ∧ bs = putL o ++ r := by
  unfold getO at h
  split at h
  · cases h
  · rename_i hn
    have hk : (getL bs).2 ≠ 0 := fun e => hn (.inl e)
    obtain ⟨h1, h2, h3, h4, h5⟩ := getL_back hb (N := (getL bs).1) (k := (getL bs).2) rfl hk
    have hb1 : ∀ x ∈ bs.drop (getL bs).2, B x := fun x hx => hb x (List.mem_of_mem_drop hx)
    cases hc : cutL (bs.drop (getL bs).2) 8 with
    | none => rw [hc] at h; cases h
    | some p =>
      obtain ⟨key, r1⟩ := p
      rw [hc] at h
      simp only at h
      obtain ⟨c1, c2⟩ := cut_back hb1 hc
      obtain ⟨c3, c4⟩ := cut_B hb1 hc
      have e : bs = numL (getL bs).1 ++ (textL key ++ r1) := by rw [← c1, ← h5, List.take_append_drop]
      obtain ⟨K, hK⟩ : ∃ K, (getL bs).1 = K := ⟨_, rfl⟩
      rw [hK] at h e hn
      cases ht : tailG K key r1 with
      | none => rw [ht] at h; simp [keep] at h
      | some q =>
        obtain ⟨o1, r2⟩ := q
        rw [ht] at h
        simp only [keep] at h
        split at h
        · rename_i hm
          injection h with h
          obtain ⟨rfl, rfl⟩ := Prod.mk.inj h
          refine ⟨hm, ?_⟩
          rw [e]
          unfold putL tailL
          unfold tailG at ht
          split at ht
          · rename_i hz
            split at ht
            · cases ht
            · rename_i h0
              injection ht with ht
              obtain ⟨rfl, rfl⟩ := Prod.mk.inj ht
              obtain ⟨g1, _, _, _, g5⟩ := getL_back c4 (N := (getL r1).1) (k := (getL r1).2) rfl h0
              have hf : (foldI (unfoldI ((getL r1).1 : Nat))).toNat = (getL r1).1 := by rw [fold_unfold (by omega)]; omega
              simp only [bytesL_strOf c3, if_true, hf, ← g5]
              rw [hz]
              simp [List.append_assoc, List.take_append_drop]
          · rename_i hz
            cases hc2 : cutL r1 8 with
            | none => rw [hc2] at ht; cases ht
            | some q2 =>
              obtain ⟨e2, r3⟩ := q2
              rw [hc2] at ht
              simp only at ht
              injection ht with ht
              obtain ⟨rfl, rfl⟩ := Prod.mk.inj ht
              obtain ⟨d1, _⟩ := cut_back c4 hc2
              obtain ⟨d3, _⟩ := cut_B c4 hc2
              have hK0 : ¬ ((K : Nat) : Int) = 0 := by omega
              simp only [bytesL_strOf c3, bytesL_strOf d3, if_neg hK0, Int.toNat_natCast]
              conv => lhs; rw [d1]
              simp [List.append_assoc]
        · cases h
/-- Two operations have the same bytes only if they are the same. -/
theorem putL_inj {o p : Opn} (ho : mayO o = true) (hp : mayO p = true) (h : putL o = putL p) : o = p := by
  have h1 := get_put0 ho
  rw [h, get_put0 hp] at h1
  exact (Prod.mk.inj (Option.some.inj h1)).1.symm
theorem putL_B (o : Opn) : ∀ x ∈ putL o, B x := by
  intro x hx
  unfold putL tailL at hx
  rcases List.mem_append.1 hx with hx | hx
  · rcases List.mem_append.1 hx with hx | hx
    · exact numL_range _ x hx
    · exact textL_B (bytesL_B _) x hx
  · split at hx
    · exact numL_range _ x hx
    · exact textL_B (bytesL_B _) x hx
/-- A beginning of an operation's bytes is none. -/
theorem getO_cut {o : Opn} (h : mayO o = true) (k : Nat) (hk : k < (putL o).length) : getO ((putL o).take k) = none := by
  cases hg : getO ((putL o).take k) with
  | none => rfl
  | some q =>
    obtain ⟨p, r⟩ := q
    obtain ⟨h1, h2⟩ := put_get (fun x hx => putL_B o x (List.mem_of_mem_take hx)) hg
    have h3 := get_put h1 (r ++ (putL o).drop k)
    rw [← List.append_assoc, ← h2, List.take_append_drop, get_put0 h] at h3
    have h4 := (Prod.mk.inj (Option.some.inj h3)).2
    have : (r ++ (putL o).drop k).length = 0 := by rw [← h4]; rfl
    simp at this
    omega
theorem putL_pos (o : Opn) : 0 < (putL o).length := by
  have := numL_pos o.kind.toNat
  unfold putL
  simp only [List.length_append]
  omega
theorem putL_len {o : Opn} (h : mayO o = true) : (putL o).length ≤ 60 := by
  obtain ⟨hk, hr⟩ := mayO_kind h
  have hkl := keyL_len hk
  have h1 := numL_ten (n := o.kind.toNat) (by rcases hr with ⟨h0, _⟩ | ⟨h0, _⟩ <;> omega)
  have h2 := textL_length (bytesL o.key) (by omega)
  have h3 : (tailL o).length ≤ 20 := by
    unfold tailL
    split
    · rcases hr with ⟨h0, hs⟩ | ⟨h0, _⟩
      · rw [stepB_iff] at hs
        have := foldI_bd (k := o.n) (by unfold I64; omega)
        have := numL_ten (n := (foldI o.n).toNat) (by omega)
        omega
      · omega
    · rcases hr with ⟨h0, hs⟩ | ⟨h0, he⟩
      · omega
      · rw [elemB_iff] at he
        have := keyL_len he.1
        have := textL_length (bytesL o.elem) (by omega)
        omega
  unfold putL
  simp only [List.length_append]
  omega
end Go.Proofs.YtnjdkjkihbgkaaaGreat.OpsM
namespace Go.Proofs.YtnjdkjkihbgkaaaGreat.StM
set_option maxRecDepth 100000

/-- Which events may be. -/
def eventB (n q : Int) : Bool := decide (0 ≤ n) && (decide (n < 8) && (decide (1 ≤ q) && decide (q ≤ 1048576)))
theorem eventB_iff {n q : Int} : eventB n q = true ↔ (0 ≤ n ∧ n < 8) ∧ 1 ≤ q ∧ q ≤ 1048576 := by
  unfold eventB
  simp only [Bool.and_eq_true, decide_eq_true_eq]
  omega
end Go.Proofs.YtnjdkjkihbgkaaaGreat.StM
namespace Go.Proofs.YtnjdkjkihbgkaaaGreat.StM
set_option maxRecDepth 100000
open Go Byt OpsM Rise

/-- What keys count, have, and have more than one of. -/
structure St where
  c : List CtrM.Cn
  r : List RegM.Rg
  p : List PairM.Pr
theorem St_ext {x y : St} (h1 : x.c = y.c) (h2 : x.r = y.r) (h3 : x.p = y.p) : x = y := by
  cases x; cases y
  simp_all
def noS : St := ⟨[], [], []⟩
def mayS (s : St) : Bool := CtrM.mayC s.c && (RegM.mayR s.r && PairM.mayP s.p)
theorem mayS_iff {s : St} : mayS s = true ↔ CtrM.mayC s.c = true ∧ RegM.mayR s.r = true ∧ PairM.mayP s.p = true := by
  unfold mayS
  rw [Bool.and_eq_true, Bool.and_eq_true]
def regO (o : Opn) (n q g : Int) : RegM.Rg := ⟨o.key, o.elem, g, n, q⟩
def pairO (o : Opn) (n q : Int) : PairM.Pr := ⟨o.key, o.elem, n, q⟩
/-- A state behind an operation of an event, of a generation. -/
def stepS (s : St) (o : Opn) (n q g : Int) : St :=
  if o.kind = 0 then ⟨CtrM.incC s.c o.key o.n, s.r, s.p⟩ else if o.kind = 1 then ⟨s.c, RegL.putR s.r (regO o n q g), s.p⟩ else if o.kind = 2 then ⟨s.c, s.r, PairM.addP s.p (pairO o n q)⟩ else ⟨s.c, s.r, PairM.delP s.p o.key o.elem⟩
def okD (s : St) (o : Opn) (n q g : Int) : Bool := mayS s && (mayO o && (eventB n q && decide (1 ≤ g)))
theorem okD_iff {s : St} {o : Opn} {n q g : Int} : okD s o n q g = true ↔ mayS s = true ∧ mayO o = true ∧ eventB n q = true ∧ 1 ≤ g := by
  unfold okD
  simp only [Bool.and_eq_true, decide_eq_true_eq]
def doS (s : St) (o : Opn) (n q g : Int) : Option St := if okD s o n q g = true then some (stepS s o n q g) else none
def okM (base a b : St) : Bool := mayS base && (mayS a && mayS b)
theorem okM_iff {base a b : St} : okM base a b = true ↔ mayS base = true ∧ mayS a = true ∧ mayS b = true := by
  unfold okM
  simp only [Bool.and_eq_true]
def joinS (base a b : St) : St := ⟨CtrM.mergeC base.c a.c b.c, RegL.mergeR a.r b.r, PairM.mergeP base.p a.p b.p⟩
def mergeS (base a b : St) : Option St := if okM base a b = true then some (joinS base a b) else none

theorem key_may {o : Opn} (h : mayO o = true) : keyL (bytesL o.key) = true := (mayO_kind h).1
theorem elem_may {o : Opn} (h : mayO o = true) (hk : o.kind = 1 ∨ o.kind = 2 ∨ o.kind = 3) : keyL (bytesL o.elem) = true := by
  rcases (mayO_kind h).2 with ⟨h0, _⟩ | ⟨_, h1⟩
  · omega
  · unfold elemB at h1
    rw [Bool.and_eq_true] at h1
    exact h1.1
theorem kind_may {o : Opn} (h : mayO o = true) : o.kind = 0 ∨ o.kind = 1 ∨ o.kind = 2 ∨ o.kind = 3 := by
  rcases (mayO_kind h).2 with ⟨h0, _⟩ | ⟨h1, _⟩
  · exact .inl h0
  · exact .inr h1
theorem reg_may {o : Opn} {n q g : Int} (h : mayO o = true) (hk : o.kind = 1) (he : eventB n q = true) (hg : 1 ≤ g) : RegM.oneR (regO o n q g) = true := by
  have h1 := key_may h
  have h2 := elem_may h (.inl hk)
  obtain ⟨⟨e1, e2⟩, e3, e4⟩ := eventB_iff.1 he
  unfold RegM.oneR regO
  simp only [Bool.and_eq_true, decide_eq_true_eq]
  exact ⟨h1, h2, by omega, by omega, by omega, by omega⟩
theorem pair_may {o : Opn} {n q : Int} (h : mayO o = true) (hk : o.kind = 2) (he : eventB n q = true) : PairM.oneP (pairO o n q) = true := by
  have h1 := key_may h
  have h2 := elem_may h (.inr (.inl hk))
  obtain ⟨⟨e1, e2⟩, e3, e4⟩ := eventB_iff.1 he
  unfold PairM.oneP pairO
  simp only [Bool.and_eq_true, decide_eq_true_eq]
  exact ⟨h1, h2, e1, e2, e3⟩
theorem step_may {s : St} {o : Opn} {n q g : Int} (h : okD s o n q g = true) : mayS (stepS s o n q g) = true := by
  obtain ⟨h1, h2, h3, h4⟩ := okD_iff.1 h
  obtain ⟨m1, m2, m3⟩ := mayS_iff.1 h1
  unfold stepS
  split
  · exact mayS_iff.2 ⟨CtrL.inc_may _ m1 (key_may h2), m2, m3⟩
  · split
    · exact mayS_iff.2 ⟨m1, RegL.put_may _ _, m3⟩
    · split
      · exact mayS_iff.2 ⟨m1, m2, PairM.add_may _ _⟩
      · exact mayS_iff.2 ⟨m1, m2, PairM.del_may _ _ _⟩
section
variable {base a b c : St}
theorem join_may (h0 : mayS base = true) (h1 : mayS a = true) (h2 : mayS b = true) : mayS (joinS base a b) = true := by
  obtain ⟨p1, p2, p3⟩ := mayS_iff.1 h0
  obtain ⟨q1, q2, q3⟩ := mayS_iff.1 h1
  obtain ⟨r1, r2, r3⟩ := mayS_iff.1 h2
  exact mayS_iff.2 ⟨CtrL.merge_may p1 q1 r1, RegL.merge_may _ _, PairM.merge_may p3 q3 r3⟩
theorem join_turn (h0 : mayS base = true) (h1 : mayS a = true) (h2 : mayS b = true) : joinS base a b = joinS base b a := by
  obtain ⟨p1, p2, p3⟩ := mayS_iff.1 h0
  obtain ⟨q1, q2, q3⟩ := mayS_iff.1 h1
  obtain ⟨r1, r2, r3⟩ := mayS_iff.1 h2
  exact St_ext (CtrL.merge_turn p1 q1 r1) (RegL.merge_turn q2 r2) (PairM.merge_turn p3 q3 r3)
theorem join_one (h0 : mayS base = true) (h2 : mayS b = true) (hb : CtrL.InL b.c) : (joinS base base b).c = b.c ∧ (joinS base base b).p = b.p := by
  obtain ⟨p1, p2, p3⟩ := mayS_iff.1 h0
  obtain ⟨r1, r2, r3⟩ := mayS_iff.1 h2
  exact ⟨CtrL.merge_one p1 r1 hb, PairM.merge_one p3 r3⟩
theorem join_self (h : mayS a = true) (hb : CtrL.InL a.c) : joinS a a a = a := by
  obtain ⟨p1, p2, p3⟩ := mayS_iff.1 h
  exact St_ext (CtrL.merge_one p1 p1 hb) (RegL.merge_self p2) (PairM.merge_self p3 p3)
theorem join_three (h0 : mayS base = true) (h1 : mayS a = true) (h2 : mayS b = true) (h3 : mayS c = true) : joinS base (joinS base a b) c = joinS base a (joinS base b c) := by
  obtain ⟨p1, p2, p3⟩ := mayS_iff.1 h0
  obtain ⟨q1, q2, q3⟩ := mayS_iff.1 h1
  obtain ⟨r1, r2, r3⟩ := mayS_iff.1 h2
  obtain ⟨t1, t2, t3⟩ := mayS_iff.1 h3
  exact St_ext (CtrL.merge_three p1 q1 r1 t1) (RegL.merge_three q2 r2 t2) (PairM.merge_three p3 q3 r3 t3)
end
/-- An operation leaves all other keys as they were. -/
theorem step_else {s : St} {o : Opn} {n q g : Int} (h : okD s o n q g = true) {k : ByteArray} (hk : k ≠ o.key) :
    CtrM.getC (stepS s o n q g).c k = CtrM.getC s.c k ∧ RegM.getR (stepS s o n q g).r k = RegM.getR s.r k ∧ PairN.elemsP (stepS s o n q g).p k = PairN.elemsP s.p k := by
  obtain ⟨h1, h2, h3, h4⟩ := okD_iff.1 h
  obtain ⟨m1, m2, m3⟩ := mayS_iff.1 h1
  unfold stepS
  split
  · refine ⟨?_, rfl, rfl⟩
    show CtrM.getC (CtrM.incC s.c o.key o.n) k = _
    rw [CtrL.inc_get _ m1 (key_may h2), if_neg hk]
  · split
    · rename_i h01
      exact ⟨rfl, RegL.put_else m2 (reg_may h2 h01 h3 h4) hk, rfl⟩
    · split
      · rename_i h02
        refine ⟨rfl, rfl, ?_⟩
        have hp := pair_may h2 h02 h3
        refine Rises.ext strictS (PairN.elems_rises (PairM.add_may _ _) k) (PairN.elems_rises m3 k) (fun e => ?_)
        rw [PairN.elems_mem (PairM.add_may _ _), PairN.elems_mem m3]
        constructor
        · rintro ⟨x, hx, a, b⟩
          rcases (PairM.add_mem m3 hp x).1 hx with rfl | hx
          · exact absurd a.symm hk
          · exact ⟨x, hx, a, b⟩
        · rintro ⟨x, hx, a, b⟩
          exact ⟨x, (PairM.add_mem m3 hp x).2 (.inr hx), a, b⟩
      · refine ⟨rfl, rfl, ?_⟩
        refine Rises.ext strictS (PairN.elems_rises (PairM.del_may _ _ _) k) (PairN.elems_rises m3 k) (fun e => ?_)
        rw [PairN.elems_mem (PairM.del_may _ _ _), PairN.elems_mem m3]
        constructor
        · rintro ⟨x, hx, a, b⟩
          exact ⟨x, ((PairM.del_mem m3 x).1 hx).1, a, b⟩
        · rintro ⟨x, hx, a, b⟩
          exact ⟨x, (PairM.del_mem m3 x).2 ⟨hx, fun q => hk (a.symm.trans q.1)⟩, a, b⟩
theorem inc_both {l : List CtrM.Cn} {k m : ByteArray} (i j : Int) (h : CtrM.mayC l = true) (hk : keyL (bytesL k) = true) (hm : keyL (bytesL m) = true) (hb : CtrL.InL l) : CtrM.mergeC l (CtrM.incC l k i) (CtrM.incC l m j) = CtrM.incC (CtrM.incC l k i) m j := by
  refine (CtrL.merge_is h (CtrL.inc_may i h hk) (CtrL.inc_may j h hm) (CtrL.inc_may j (CtrL.inc_may i h hk) hm) (fun z => ?_)).symm
  unfold CtrM.sumC
  rw [CtrL.inc_get j (CtrL.inc_may i h hk) hm, CtrL.inc_get i h hk, CtrL.inc_get i h hk, CtrL.inc_get j h hm]
  have q := CtrL.getC_in hb
  have qz := q z
  have qk := q k
  have qm := q m
  unfold CtrL.In64 at qz qk qm
  simp only [CtrM.w64_eq]
  by_cases h1 : z = m
  · subst h1
    by_cases h2 : z = k
    · subst h2
      simp only [if_pos]
      omega
    · rw [if_pos rfl, if_neg h2, if_pos rfl]
      omega
  · by_cases h2 : z = k
    · subst h2
      rw [if_neg h1, if_pos rfl, if_neg h1]
      omega
    · rw [if_neg h1, if_neg h2, if_neg h1]
      omega
theorem inc_side {l m : List CtrM.Cn} (h : CtrM.mayC l = true) (hm : CtrM.mayC m = true) (hb : CtrL.InL m) : CtrM.mergeC l m l = m := by rw [CtrL.merge_turn h hm h, CtrL.merge_one h hm hb]
theorem add_both {l : List PairM.Pr} {x y : PairM.Pr} (h : PairM.mayP l = true) (hx : PairM.oneP x = true) (hy : PairM.oneP y = true) (nx : x ∉ l) (ny : y ∉ l) : PairM.mergeP l (PairM.addP l x) (PairM.addP l y) = PairM.addP (PairM.addP l x) y := by
  refine (PairM.merge_is h (PairM.add_may _ _) (PairM.add_may _ _) (PairM.ris (PairM.add_may _ _)) (fun z => ?_)).symm
  unfold PairM.inM
  rw [PairM.add_mem (PairM.add_may _ _) hy, PairM.add_mem h hx, PairM.add_mem h hy]
  by_cases h1 : z = x
  · subst h1
    by_cases h2 : z = y <;> simp [h2, nx]
  · by_cases h2 : z = y
    · subst h2
      simp [h1, ny]
    · by_cases h3 : z ∈ l <;> simp [h1, h2, h3]
theorem add_side {l m : List PairM.Pr} (h : PairM.mayP l = true) (hm : PairM.mayP m = true) : PairM.mergeP l m l = m := by rw [PairM.merge_turn h hm h, PairM.merge_one h hm]
/-- Two operations on either side, of two events that the state has not, neither of which takes away: as one behind the other. -/
theorem both {s : St} {o p : Opn} {n q n' q' g : Int} (h : okD s o n q g = true) (h' : okD s p n' q' g = true) (hb : CtrL.InL s.c) (ho : o.kind ≠ 3) (hp : p.kind ≠ 3) (h1 : ∀ x ∈ s.p, ¬ (x.node = n ∧ x.seq = q)) (h2 : ∀ x ∈ s.p, ¬ (x.node = n' ∧ x.seq = q')) :
    joinS s (stepS s o n q g) (stepS s p n' q' g) = stepS (stepS s o n q g) p n' q' g := by
  obtain ⟨i1, i2, i3, i4⟩ := okD_iff.1 h
  obtain ⟨j1, j2, j3, j4⟩ := okD_iff.1 h'
  obtain ⟨m1, m2, m3⟩ := mayS_iff.1 i1
  have a1 : CtrM.mergeC s.c s.c s.c = s.c := CtrL.merge_one m1 m1 hb
  have a2 : RegL.mergeR s.r s.r = s.r := RegL.merge_self m2
  have a3 : PairM.mergeP s.p s.p s.p = s.p := PairM.merge_self m3 m3
  have nx : pairO o n q ∉ s.p := fun e => h1 _ e ⟨rfl, rfl⟩
  have ny : pairO p n' q' ∉ s.p := fun e => h2 _ e ⟨rfl, rfl⟩
  rcases kind_may i2 with ko | ko | ko | ko
  · have c1 := CtrL.inc_may o.n m1 (key_may i2)
    have c2 := CtrL.inc_in o.key o.n hb
    rcases kind_may j2 with kp | kp | kp | kp
    · simp only [joinS, stepS, ko, kp, if_pos]
      exact St_ext (inc_both _ _ m1 (key_may i2) (key_may j2) hb) a2 a3
    · simp only [joinS, stepS, ko, kp, if_pos]
      exact St_ext (inc_side m1 c1 c2) (RegL.old_right m2 (reg_may j2 kp j3 j4)) a3
    · simp only [joinS, stepS, ko, kp, if_pos]
      exact St_ext (inc_side m1 c1 c2) a2 (PairM.merge_one m3 (PairM.add_may _ _))
    · exact absurd kp hp
  · have r1 := reg_may i2 ko i3 i4
    rcases kind_may j2 with kp | kp | kp | kp
    · simp only [joinS, stepS, ko, kp, if_pos]
      exact St_ext (CtrL.merge_one m1 (CtrL.inc_may p.n m1 (key_may j2)) (CtrL.inc_in p.key p.n hb)) (RegL.old_left m2 r1) a3
    · simp only [joinS, stepS, ko, kp, if_pos]
      exact St_ext a1 (RegL.old_both m2 r1 (reg_may j2 kp j3 j4)) a3
    · simp only [joinS, stepS, ko, kp, if_pos]
      exact St_ext a1 (RegL.old_left m2 r1) (PairM.merge_one m3 (PairM.add_may _ _))
    · exact absurd kp hp
  · rcases kind_may j2 with kp | kp | kp | kp
    · simp only [joinS, stepS, ko, kp, if_pos]
      exact St_ext (CtrL.merge_one m1 (CtrL.inc_may p.n m1 (key_may j2)) (CtrL.inc_in p.key p.n hb)) a2 (add_side m3 (PairM.add_may _ _))
    · simp only [joinS, stepS, ko, kp, if_pos]
      exact St_ext a1 (RegL.old_right m2 (reg_may j2 kp j3 j4)) (add_side m3 (PairM.add_may _ _))
    · simp only [joinS, stepS, ko, kp, if_pos]
      exact St_ext a1 a2 (add_both m3 (pair_may i2 ko i3) (pair_may j2 kp j3) nx ny)
    · exact absurd kp hp
  · exact absurd ko ho
end Go.Proofs.YtnjdkjkihbgkaaaGreat.StM
