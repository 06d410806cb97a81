/- What enc.Cut returns: a contract. | Plain facts on texts in bytes: what is put is cut off again. No condition. | Which texts may be keys: plain facts. No condition. | Plain facts on operations: which may be, what they are in bytes, and the one that bytes begin with. No condition. | Ids as lists of thirty-two bytes; their order; lists that rise; plain facts. No condition. | Which events may be. No condition. -/
import Derived.Test.YtechkdhehipliaaGreatDoorEncMJ7
import Derived.WalkKit
import Derived.Sort.Statements
namespace Go.Proofs.YtechkdhehipliaaGreatDoor.EncE
set_option maxRecDepth 100000
open Go.RowKit Go.Sort Byt BytR EncM EncC EncG

/-- The text that bytes begin with, of at most so many bytes, and what stands behind. -/
def cutL (bs : List Int) (most : Int) : Option (List Int × List Int) :=
  if (getL bs).2 = 0 ∨ most < 0 ∨ most < (getL bs).1 ∨ bs.length - (getL bs).2 < (getL bs).1 then none
  else some ((bs.drop (getL bs).2).take (getL bs).1, (bs.drop (getL bs).2).drop (getL bs).1)
/-- What a function that cuts answers. -/
def CutOut (bs : List Int) (most : Int) (w : World) (e : Ending) (w' : World) : Prop :=
  Below w.heap.size w w' ∧ match cutL bs most with
    | none => e = .returned (.tuple #[.string ⟨#[]⟩, .slice none 0 0, .bool false])
    | some (a, r) => ∃ v, e = .returned (.tuple #[.string (strOf a), v, .bool true]) ∧ w'.ownsRow w.heap.size 5 1 v r.length (bv r)
theorem cut_none (bs : List Int) (most : Int) (w w' : World) (e : Ending) (h : (getL bs).2 = 0 ∨ most < 0 ∨ most < (getL bs).1 ∨ bs.length - (getL bs).2 < (getL bs).1) (hb : Below w.heap.size w w') (he : e = .returned (.tuple #[.string ⟨#[]⟩, .slice none 0 0, .bool false])) : CutOut bs most w e w' := by
  refine ⟨hb, ?_⟩
  unfold cutL
  rw [if_pos h]
  exact he
theorem cut_some (bs : List Int) (most : Int) (w w' : World) (e : Ending) (v : Value) (h : ¬ ((getL bs).2 = 0 ∨ most < 0 ∨ most < (getL bs).1 ∨ bs.length - (getL bs).2 < (getL bs).1)) (hb : Below w.heap.size w w') (he : e = .returned (.tuple #[.string (strOf ((bs.drop (getL bs).2).take (getL bs).1)), v, .bool true]))
    (ho : w'.ownsRow w.heap.size 5 1 v ((bs.drop (getL bs).2).drop (getL bs).1).length (bv ((bs.drop (getL bs).2).drop (getL bs).1))) : CutOut bs most w e w' := by
  refine ⟨hb, ?_⟩
  unfold cutL
  rw [if_neg h]
  exact ⟨v, he, ho⟩

end Go.Proofs.YtechkdhehipliaaGreatDoor.EncE
namespace Go.Proofs.YtechkdhehipliaaGreatDoor.EncT
set_option maxRecDepth 100000
open Byt EncM EncC EncE

theorem textL_length (a : List Int) (h : a.length ≤ 1099511627776) : (textL a).length ≤ a.length + 10 := by
  unfold textL
  have := numL_ten (n := a.length) (by omega)
  rw [List.length_append]
  omega
theorem textL_B {a : List Int} (h : ∀ x ∈ a, B x) : ∀ x ∈ textL a, B x := by
  intro x hx
  rcases List.mem_append.1 hx with hx | hx
  · exact numL_range _ x hx
  · exact h x hx
/-- A text is cut off, whatever stands behind, unless it is longer than what is asked for. -/
theorem cut_text (a r : List Int) (most : Int) (h : a.length ≤ 1099511627776) : cutL (textL a ++ r) most = if (a.length : Int) ≤ most then some (a, r) else none := by
  have g := getL_num a.length (a ++ r) (by omega)
  have e : textL a ++ r = numL a.length ++ (a ++ r) := by unfold textL; rw [List.append_assoc]
  have hp := numL_pos a.length
  unfold cutL
  rw [e, g]
  have hd : (numL a.length ++ (a ++ r)).drop (numL a.length).length = a ++ r := List.drop_left
  simp only [hd, List.length_append]
  by_cases hm : (a.length : Int) ≤ most
  · rw [if_pos hm, if_neg (by omega), List.take_left, List.drop_left]
  · rw [if_neg hm, if_pos (by omega)]
theorem cut_text0 (a : List Int) (most : Int) (h : a.length ≤ 1099511627776) : cutL (textL a) most = if (a.length : Int) ≤ most then some (a, []) else none := by
  have := cut_text a [] most h
  rwa [List.append_nil] at this
theorem textL_inj {a b : List Int} (ha : a.length ≤ 1099511627776) (hb : b.length ≤ 1099511627776) (h : textL a = textL b) : a = b := by
  have h1 := cut_text0 a 1099511627776 ha
  have h2 := cut_text0 b 1099511627776 hb
  rw [if_pos (by omega)] at h1 h2
  rw [h, h2] at h1
  have := Option.some.inj h1
  exact (Prod.mk.inj this).1.symm
end Go.Proofs.YtechkdhehipliaaGreatDoor.EncT
namespace Go.Proofs.YtechkdhehipliaaGreatDoor.OpsM
set_option maxRecDepth 100000

/-- May a byte stand in a key? May a text be one? -/
def signB (x : Int) : Bool := (decide (97 ≤ x) && decide (x ≤ 122)) || (decide (48 ≤ x) && decide (x ≤ 57))
def keyL (l : List Int) : Bool := decide (1 ≤ l.length) && decide (l.length ≤ 8) && l.all signB
theorem keyL_len {l : List Int} (h : keyL l = true) : 1 ≤ l.length ∧ l.length ≤ 8 := by
  unfold keyL at h
  simp only [Bool.and_eq_true, decide_eq_true_eq] at h
  exact h.1
end Go.Proofs.YtechkdhehipliaaGreatDoor.OpsM
namespace Go.Proofs.YtechkdhehipliaaGreatDoor.OpsM
set_option maxRecDepth 100000
open Byt EncM EncC EncE EncT

/-- An operation. -/
structure Opn where
  kind : Int
  key : ByteArray
  elem : ByteArray
  n : Int
/-- A number of 64 bits, of either sign. -/
def I64 (n : Int) : Prop := -9223372036854775808 ≤ n ∧ n ≤ 9223372036854775807
/-- What an operation has beside its key, of an Inc, and of the others. -/
def stepB (n : Int) (e : ByteArray) : Bool := decide (-1048576 ≤ n) && decide (n ≤ 1048576) && decide (n ≠ 0) && decide (bytesL e = [])
def elemB (n : Int) (e : ByteArray) : Bool := keyL (bytesL e) && decide (n = 0)
def restB (o : Opn) : Bool := if o.kind = 0 then stepB o.n o.elem else if o.kind = 1 ∨ o.kind = 2 ∨ o.kind = 3 then elemB o.n o.elem else false
def mayO (o : Opn) : Bool := keyL (bytesL o.key) && restB o
theorem restB_kind {o : Opn} (h : restB o = true) : o.kind = 0 ∧ stepB o.n o.elem = true ∨ (o.kind = 1 ∨ o.kind = 2 ∨ o.kind = 3) ∧ elemB o.n o.elem = true := by
  unfold restB at h
  split at h
  · exact .inl ⟨‹_›, h⟩
  · split at h
    · exact .inr ⟨‹_›, h⟩
    · cases h
theorem mayO_kind {o : Opn} (h : mayO o = true) : keyL (bytesL o.key) = true ∧ (o.kind = 0 ∧ stepB o.n o.elem = true ∨ (o.kind = 1 ∨ o.kind = 2 ∨ o.kind = 3) ∧ elemB o.n o.elem = true) := by
  unfold mayO at h
  rw [Bool.and_eq_true] at h
  exact ⟨h.1, restB_kind h.2⟩
theorem stepB_iff {n : Int} {e : ByteArray} : stepB n e = true ↔ -1048576 ≤ n ∧ n ≤ 1048576 ∧ n ≠ 0 ∧ bytesL e = [] := by
  unfold stepB
  simp only [Bool.and_eq_true, decide_eq_true_eq]
  constructor
  · rintro ⟨⟨⟨a, b⟩, c⟩, d⟩; exact ⟨a, b, c, d⟩
  · rintro ⟨a, b, c, d⟩; exact ⟨⟨⟨a, b⟩, c⟩, d⟩
theorem elemB_iff {n : Int} {e : ByteArray} : elemB n e = true ↔ keyL (bytesL e) = true ∧ n = 0 := by
  unfold elemB
  simp only [Bool.and_eq_true, decide_eq_true_eq]
/-- An operation in bytes. -/
def tailL (o : Opn) : List Int := if o.kind = 0 then numL (foldI o.n).toNat else textL (bytesL o.elem)
def putL (o : Opn) : List Int := numL o.kind.toNat ++ textL (bytesL o.key) ++ tailL o
/-- What stands behind a kind and a key. -/
def tailG (k : Nat) (key r : List Int) : Option (Opn × List Int) :=
  if k = 0 then (if (getL r).2 = 0 then none else some (⟨0, strOf key, ⟨#[]⟩, unfoldI ((getL r).1 : Nat)⟩, r.drop (getL r).2))
  else match cutL r 8 with
    | none => none
    | some (e, r2) => some (⟨k, strOf key, strOf e, 0⟩, r2)
/-- One that may be. -/
def keep (p : Option (Opn × List Int)) : Option (Opn × List Int) :=
  match p with
  | none => none
  | some (o, r) => if mayO o = true then some (o, r) else none
def getO (bs : List Int) : Option (Opn × List Int) :=
  if (getL bs).2 = 0 ∨ 4 ≤ (getL bs).1 then none
  else match cutL (bs.drop (getL bs).2) 8 with
    | none => none
    | some (key, r) => keep (tailG (getL bs).1 key r)

theorem empty_of {e : ByteArray} (h : bytesL e = []) : e = ⟨#[]⟩ := by rw [← strOf_bytesL e, h]; rfl
theorem unfold_fold {k : Int} (_h : I64 k) : unfoldI (foldI k) = k := by
  unfold unfoldI foldI
  by_cases h0 : 0 ≤ k
  · rw [if_pos h0, if_pos (by omega)]; omega
  · rw [if_neg h0, if_neg (by omega)]; omega
theorem foldI_bd {k : Int} (h : I64 k) : 0 ≤ foldI k ∧ foldI k ≤ 18446744073709551615 := by
  unfold I64 at h
  unfold foldI
  split <;> omega
theorem fold_unfold {n : Int} (h : 0 ≤ n) : foldI (unfoldI n) = n := by
  unfold unfoldI foldI
  by_cases h0 : n % 2 = 0
  · rw [if_pos h0, if_pos (by omega)]; omega
  · rw [if_neg h0, if_neg (by omega)]; omega
theorem unfoldI_bd {n : Nat} (h : n < 18446744073709551616) : I64 (unfoldI n) := by
  unfold I64 unfoldI
  split <;> omega

/-- What is put is got, whatever stands behind. -/
theorem get_put {o : Opn} (h : mayO o = true) (r : List Int) : getO (putL o ++ r) = some (o, r) := by
  obtain ⟨hk, hr⟩ := mayO_kind h
  have hkl := keyL_len hk
  have hkind : o.kind.toNat < 4 := by rcases hr with ⟨h0, _⟩ | ⟨h0, _⟩ <;> omega
  have e : putL o ++ r = numL o.kind.toNat ++ (textL (bytesL o.key) ++ (tailL o ++ r)) := by unfold putL; simp only [List.append_assoc]
  have g := getL_num o.kind.toNat (textL (bytesL o.key) ++ (tailL o ++ r)) (by omega)
  have hp := numL_pos o.kind.toNat
  unfold getO
  rw [e, g]
  simp only [List.drop_left]
  rw [if_neg (by omega), cut_text _ _ _ (by omega), if_pos (by omega)]
  have ht : tailG o.kind.toNat (bytesL o.key) (tailL o ++ r) = some (o, r) := by
    unfold tailG tailL
    rcases hr with ⟨h0, hs⟩ | ⟨h0, he⟩
    · rw [stepB_iff] at hs
      obtain ⟨h1, h2, h3, h4⟩ := hs
      have hI : I64 o.n := by unfold I64; omega
      have hf := foldI_bd hI
      have g2 := getL_num (foldI o.n).toNat r (by omega)
      have hp2 := numL_pos (foldI o.n).toNat
      rw [if_pos h0, if_pos (by omega), g2]
      simp only [List.drop_left]
      rw [if_neg (by omega)]
      have hu : unfoldI (((foldI o.n).toNat : Nat) : Int) = o.n := by
        rw [show (((foldI o.n).toNat : Nat) : Int) = foldI o.n by omega, unfold_fold hI]
      rw [hu, strOf_bytesL]
      have := empty_of h4
      cases o
      simp only at h0 this ⊢
      rw [h0, this]
    · rw [elemB_iff] at he
      obtain ⟨h1, h2⟩ := he
      have := keyL_len h1
      rw [if_neg (by omega), if_neg (by omega), cut_text _ _ _ (by omega), if_pos (by omega)]
      simp only [strOf_bytesL]
      have hk2 : ((o.kind.toNat : Nat) : Int) = o.kind := by omega
      rw [hk2]
      cases o
      simp only at h2 ⊢
      rw [h2]
  simp only [ht, keep, h, if_true]
theorem get_put0 {o : Opn} (h : mayO o = true) : getO (putL o) = some (o, []) := by
  have := get_put h []
  rwa [List.append_nil] at this
/-- What is cut off is put as the same bytes. -/
theorem cut_back {bs a r : List Int} {most : Int} (hb : ∀ x ∈ bs, B x) (h : cutL bs most = some (a, r)) : bs = textL a ++ r ∧ (a.length : Int) ≤ most := by
  unfold cutL at h
  split at h
  · cases h
  · rename_i hn
    have hk : (getL bs).2 ≠ 0 := fun e => hn (.inl e)
    obtain ⟨h1, h2, h3, h4, h5⟩ := getL_back hb (N := (getL bs).1) (k := (getL bs).2) rfl hk
    injection h with h
    obtain ⟨rfl, rfl⟩ := Prod.mk.inj h
    have hl : ((bs.drop (getL bs).2).take (getL bs).1).length = (getL bs).1 := by simp; omega
    refine ⟨?_, by rw [hl]; omega⟩
    unfold textL
    rw [hl, ← h5, List.append_assoc, List.take_append_drop, List.take_append_drop]
theorem cut_B {bs a r : List Int} {most : Int} (hb : ∀ x ∈ bs, B x) (h : cutL bs most = some (a, r)) : (∀ x ∈ a, B x) ∧ ∀ x ∈ r, B x := by
  have e := (cut_back hb h).1
  rw [e] at hb
  exact ⟨fun x hx => hb x (by unfold textL; simp [hx]), fun x hx => hb x (by simp [hx])⟩
/-- What is got may be, and is put as the same bytes. -/
theorem put_get {bs r : List Int} {o : Opn} (hb : ∀ x ∈ bs, B x) (h : getO bs = some (o, r)) : mayO o = true ∧ bs = putL o ++ r := by
  unfold getO at h
  split at h
  · cases h
  · rename_i hn
    have hk : (getL bs).2 ≠ 0 := fun e => hn (.inl e)
    obtain ⟨h1, h2, h3, h4, h5⟩ := getL_back hb (N := (getL bs).1) (k := (getL bs).2) rfl hk
    have hb1 : ∀ x ∈ bs.drop (getL bs).2, B x := fun x hx => hb x (List.mem_of_mem_drop hx)
    cases hc : cutL (bs.drop (getL bs).2) 8 with
    | none => rw [hc] at h; cases h
    | some p =>
      obtain ⟨key, r1⟩ := p
      rw [hc] at h
      simp only at h
      obtain ⟨c1, c2⟩ := cut_back hb1 hc
      obtain ⟨c3, c4⟩ := cut_B hb1 hc
      have e : bs = numL (getL bs).1 ++ (textL key ++ r1) := by rw [← c1, ← h5, List.take_append_drop]
      obtain ⟨K, hK⟩ : ∃ K, (getL bs).1 = K := ⟨_, rfl⟩
      rw [hK] at h e hn
      cases ht : tailG K key r1 with
      | none => rw [ht] at h; simp [keep] at h
      | some q =>
        obtain ⟨o1, r2⟩ := q
        rw [ht] at h
        simp only [keep] at h
        split at h
        · rename_i hm
          injection h with h
          obtain ⟨rfl, rfl⟩ := Prod.mk.inj h
          refine ⟨hm, ?_⟩
          rw [e]
          unfold putL tailL
          unfold tailG at ht
          split at ht
          · rename_i hz
            split at ht
            · cases ht
            · rename_i h0
              injection ht with ht
              obtain ⟨rfl, rfl⟩ := Prod.mk.inj ht
              obtain ⟨g1, _, _, _, g5⟩ := getL_back c4 (N := (getL r1).1) (k := (getL r1).2) rfl h0
              have hf : (foldI (unfoldI ((getL r1).1 : Nat))).toNat = (getL r1).1 := by rw [fold_unfold (by omega)]; omega
              simp only [bytesL_strOf c3, if_true, hf, ← g5]
              rw [hz]
              simp [List.append_assoc, List.take_append_drop]
          · rename_i hz
            cases hc2 : cutL r1 8 with
            | none => rw [hc2] at ht; cases ht
            | some q2 =>
              obtain ⟨e2, r3⟩ := q2
              rw [hc2] at ht
              simp only at ht
              injection ht with ht
              obtain ⟨rfl, rfl⟩ := Prod.mk.inj ht
              obtain ⟨d1, _⟩ := cut_back c4 hc2
              obtain ⟨d3, _⟩ := cut_B c4 hc2
              have hK0 : ¬ ((K : Nat) : Int) = 0 := by omega
              simp only [bytesL_strOf c3, bytesL_strOf d3, if_neg hK0, Int.toNat_natCast]
              conv => lhs; rw [d1]
              simp [List.append_assoc]
        · cases h
/-- Two operations have the same bytes only if they are the same. -/
theorem putL_inj {o p : Opn} (ho : mayO o = true) (hp : mayO p = true) (h : putL o = putL p) : o = p := by
  have h1 := get_put0 ho
  rw [h, get_put0 hp] at h1
  exact (Prod.mk.inj (Option.some.inj h1)).1.symm
theorem putL_B (o : Opn) : ∀ x ∈ putL o, B x := by
  intro x hx
  unfold putL tailL at hx
  rcases List.mem_append.1 hx with hx | hx
  · rcases List.mem_append.1 hx with hx | hx
    · exact numL_range _ x hx
    · exact textL_B (bytesL_B _) x hx
  · split at hx
    · exact numL_range _ x hx
    · exact textL_B (bytesL_B _) x hx
/-- A beginning of an operation's bytes is none. -/
theorem getO_cut {o : Opn} (h : mayO o = true) (k : Nat) (hk : k < (putL o).length) : getO ((putL o).take k) = none := by
  cases hg : getO ((putL o).take k) with
  | none => rfl
  | some q =>
    obtain ⟨p, r⟩ := q
    obtain ⟨h1, h2⟩ := put_get (fun x hx => putL_B o x (List.mem_of_mem_take hx)) hg
    have h3 := get_put h1 (r ++ (putL o).drop k)
    rw [← List.append_assoc, ← h2, List.take_append_drop, get_put0 h] at h3
    have h4 := (Prod.mk.inj (Option.some.inj h3)).2
    have : (r ++ (putL o).drop k).length = 0 := by rw [← h4]; rfl
    simp at this
    omega
theorem putL_pos (o : Opn) : 0 < (putL o).length := by
  have := numL_pos o.kind.toNat
  unfold putL
  simp only [List.length_append]
  omega
theorem putL_len {o : Opn} (h : mayO o = true) : (putL o).length ≤ 60 := by
  obtain ⟨hk, hr⟩ := mayO_kind h
  have hkl := keyL_len hk
  have h1 := numL_ten (n := o.kind.toNat) (by rcases hr with ⟨h0, _⟩ | ⟨h0, _⟩ <;> omega)
  have h2 := textL_length (bytesL o.key) (by omega)
  have h3 : (tailL o).length ≤ 20 := by
    unfold tailL
    split
    · rcases hr with ⟨h0, hs⟩ | ⟨h0, _⟩
      · rw [stepB_iff] at hs
        have := foldI_bd (k := o.n) (by unfold I64; omega)
        have := numL_ten (n := (foldI o.n).toNat) (by omega)
        omega
      · omega
    · rcases hr with ⟨h0, hs⟩ | ⟨h0, he⟩
      · omega
      · rw [elemB_iff] at he
        have := keyL_len he.1
        have := textL_length (bytesL o.elem) (by omega)
        omega
  unfold putL
  simp only [List.length_append]
  omega
end Go.Proofs.YtechkdhehipliaaGreatDoor.OpsM
namespace Go.Proofs.YtechkdhehipliaaGreatDoor.IdM
set_option maxRecDepth 100000

/-- An id: thirty-two bytes. -/
structure Idn where
  val : List Int
  ok : val.length = 32 ∧ ∀ x ∈ val, 0 ≤ x ∧ x ≤ 255
theorem Idn_ext {x y : Idn} (h : x.1 = y.1) : x = y := by
  cases x; cases y
  simp only at h
  subst h
  rfl
instance : DecidableEq Idn := fun x y => decidable_of_iff (x.1 = y.1) ⟨Idn_ext, fun e => by rw [e]⟩
def nought : Idn := ⟨List.replicate 32 0, by simp, by intro x hx; simp at hx; omega⟩
instance : Inhabited Idn := ⟨nought⟩
theorem Idn_len (x : Idn) : x.1.length = 32 := x.2.1
theorem Idn_at_range (x : Idn) (i : Nat) : 0 ≤ x.1.getD i 0 ∧ x.1.getD i 0 ≤ 255 := by
  by_cases h : i < x.1.length
  · rw [List.getD_eq_getElem?_getD, List.getElem?_eq_getElem h, Option.getD_some]
    exact x.2.2 _ (List.getElem_mem _)
  · rw [List.getD_eq_getElem?_getD, List.getElem?_eq_none (by omega), Option.getD_none]
    omega
theorem list_ext {a b : List Int} (hl : a.length = b.length) (h : ∀ i, i < a.length → a.getD i 0 = b.getD i 0) : a = b := by
  apply List.ext_getElem hl
  intro i h1 h2
  have := h i h1
  rw [List.getD_eq_getElem?_getD, List.getD_eq_getElem?_getD, List.getElem?_eq_getElem h1, List.getElem?_eq_getElem h2] at this
  simpa using this
theorem Idn_ext_at {x y : Idn} (h : ∀ i, i < 32 → x.1.getD i 0 = y.1.getD i 0) : x = y :=
  Idn_ext (list_ext (by rw [(Idn_len x), (Idn_len y)]) (fun i hi => h i (by rw [(Idn_len x)] at hi; exact hi)))

/-- The lesser one at the first place where they differ. -/
def lessL : List Int → List Int → Bool
  | a :: aa, b :: bs => if a = b then lessL aa bs else decide (a < b)
  | _, _ => false
def less (x y : Idn) : Bool := lessL x.1 y.1
theorem lessL_irrefl : ∀ a : List Int, lessL a a = false
  | [] => rfl
  | a :: aa => by simp [lessL, lessL_irrefl aa]
theorem lessL_trans : ∀ a b c : List Int, lessL a b = true → lessL b c = true → lessL a c = true
  | a :: aa, b :: bs, c :: cs, h1, h2 => by
    simp only [lessL] at h1 h2 ⊢
    split at h1 <;> split at h2 <;> rename_i p q
    · subst p; subst q
      simpa using lessL_trans aa bs cs h1 h2
    · subst p
      simpa [q] using h2
    · subst q
      simpa [p] using h1
    · have h1' : a < b := by simpa using h1
      have h2' : b < c := by simpa using h2
      have : a ≠ c := by omega
      simp [this]
      omega
  | [], _, _, h1, _ => by simp [lessL] at h1
  | _ :: _, [], _, h1, _ => by simp [lessL] at h1
  | _ :: _, _ :: _, [], _, h2 => by simp [lessL] at h2
theorem lessL_total : ∀ a b : List Int, a.length = b.length → lessL a b = false → lessL b a = false → a = b
  | [], [], _, _, _ => rfl
  | a :: aa, b :: bs, hl, h1, h2 => by
    simp only [lessL] at h1 h2
    split at h1
    · rename_i p
      subst p
      simp at h2
      rw [lessL_total aa bs (by simpa using hl) h1 h2]
    · rename_i p
      have p' : b ≠ a := fun e => p e.symm
      simp [p'] at h2
      simp at h1
      omega
theorem less_irrefl (x : Idn) : less x x = false := lessL_irrefl _
theorem less_trans {x y z : Idn} (h1 : less x y = true) (h2 : less y z = true) : less x z = true := lessL_trans _ _ _ h1 h2
theorem less_total {x y : Idn} (h1 : less x y = false) (h2 : less y x = false) : x = y := Idn_ext (lessL_total _ _ (by rw [(Idn_len x), (Idn_len y)]) h1 h2)
theorem less_asymm {x y : Idn} (h : less x y = true) : less y x = false := by
  cases h2 : less y x with
  | false => rfl
  | true => have := less_trans h h2; rw [less_irrefl] at this; cases this
theorem less_ne {x y : Idn} (h : less x y = true) : x ≠ y := by rintro rfl; rw [less_irrefl] at h; cases h
theorem less_of_ne {x y : Idn} (h : less x y = false) (hn : x ≠ y) : less y x = true := by
  cases h2 : less y x with
  | true => rfl
  | false => exact absurd (less_total h h2) hn
/-- By the first place that differs. -/
theorem lessL_at : ∀ (i : Nat) (a b : List Int), a.length = b.length → i < a.length → (∀ j, j < i → a.getD j 0 = b.getD j 0) → a.getD i 0 ≠ b.getD i 0 → lessL a b = decide (a.getD i 0 < b.getD i 0)
  | _, [], _, _, hi, _, _ => by simp at hi
  | _, _ :: _, [], hl, _, _, _ => by simp at hl
  | 0, a :: aa, b :: bs, _, _, _, hn => by
    simp only [List.getD_cons_zero] at hn
    simp [lessL, hn]
  | i + 1, a :: aa, b :: bs, hl, hi, he, hn => by
    have h0 := he 0 (by omega)
    simp only [List.getD_cons_zero] at h0
    subst h0
    simp only [List.getD_cons_succ] at hn ⊢
    simp only [lessL, if_true]
    exact lessL_at i aa bs (by simpa using hl) (by simpa using hi) (fun j hj => by simpa using he (j + 1) (by omega)) hn
theorem less_at {x y : Idn} (i : Nat) (hi : i < 32) (he : ∀ j, j < i → x.1.getD j 0 = y.1.getD j 0) (hn : x.1.getD i 0 ≠ y.1.getD i 0) : less x y = decide (x.1.getD i 0 < y.1.getD i 0) :=
  lessL_at i _ _ (by rw [(Idn_len x), (Idn_len y)]) (by rw [(Idn_len x)]; exact hi) he hn

/-- Rising: each less than all behind it. -/
def Rising (l : List Idn) : Prop := l.Pairwise fun x y => less x y = true
theorem rising_uniq : ∀ {r s : List Idn}, Rising r → Rising s → (∀ x, x ∈ r ↔ x ∈ s) → r = s
  | [], [], _, _, _ => rfl
  | [], y :: s, _, _, h => absurd ((h y).2 (by simp)) (by simp)
  | x :: r, [], _, _, h => absurd ((h x).1 (by simp)) (by simp)
  | x :: r, y :: s, hr, hs, h => by
    unfold Rising at hr hs
    rw [List.pairwise_cons] at hr hs
    have hxy : x = y := by
      have h1 : x ∈ y :: s := (h x).1 (by simp)
      have h2 : y ∈ x :: r := (h y).2 (by simp)
      rcases List.mem_cons.1 h1 with h1 | h1
      · exact h1
      · rcases List.mem_cons.1 h2 with h2 | h2
        · exact h2.symm
        · have a := hs.1 x h1
          have b := hr.1 y h2
          rw [less_asymm a] at b
          cases b
    subst hxy
    have key : ∀ z, z ∈ r ↔ z ∈ s := by
      intro z
      constructor
      · intro hz
        have hzx : z ≠ x := fun e => by subst e; exact less_ne (hr.1 z hz) rfl
        exact (List.mem_cons.1 ((h z).1 (List.mem_cons_of_mem _ hz))).resolve_left hzx
      · intro hz
        have hzx : z ≠ x := fun e => by subst e; exact less_ne (hs.1 z hz) rfl
        exact (List.mem_cons.1 ((h z).2 (List.mem_cons_of_mem _ hz))).resolve_left hzx
    rw [rising_uniq hr.2 hs.2 key]

/-- Put in at its place, if it is not there. -/
def ins (x : Idn) : List Idn → List Idn
  | [] => [x]
  | y :: l => if x = y then y :: l else if less x y then x :: y :: l else y :: ins x l
def sort (l : List Idn) : List Idn := l.foldr ins []
theorem mem_ins (x z : Idn) : ∀ l : List Idn, z ∈ ins x l ↔ z = x ∨ z ∈ l
  | [] => by simp [ins]
  | y :: l => by
    simp only [ins]
    split
    · rename_i h
      subst h
      simp
    · split
      · simp
      · simp only [List.mem_cons, mem_ins x z l]
        constructor
        · rintro (h | h | h)
          · exact .inr (.inl h)
          · exact .inl h
          · exact .inr (.inr h)
        · rintro (h | h | h)
          · exact .inr (.inl h)
          · exact .inl h
          · exact .inr (.inr h)
theorem rising_ins (x : Idn) : ∀ l : List Idn, Rising l → Rising (ins x l)
  | [], _ => by simp [ins, Rising]
  | y :: l, h => by
    unfold Rising at h
    rw [List.pairwise_cons] at h
    simp only [ins]
    split
    · exact List.pairwise_cons.2 h
    · rename_i hne
      split
      · rename_i hl
        refine List.pairwise_cons.2 ⟨fun z hz => ?_, List.pairwise_cons.2 h⟩
        rcases List.mem_cons.1 hz with rfl | hz
        · exact hl
        · exact less_trans hl (h.1 z hz)
      · rename_i hl
        refine List.pairwise_cons.2 ⟨fun z hz => ?_, rising_ins x l h.2⟩
        rcases (mem_ins x z l).1 hz with rfl | hz
        · exact less_of_ne (by simpa using hl) hne
        · exact h.1 z hz
theorem mem_sort (z : Idn) : ∀ l : List Idn, z ∈ sort l ↔ z ∈ l
  | [] => by simp [sort]
  | x :: l => by
    have := mem_sort z l
    unfold sort at this ⊢
    rw [List.foldr_cons, mem_ins, this, List.mem_cons]
theorem rising_sort : ∀ l : List Idn, Rising (sort l)
  | [] => by simp [sort, Rising]
  | x :: l => rising_ins x _ (rising_sort l)
theorem eq_sort {r l : List Idn} (h : Rising r) (hm : ∀ x, x ∈ r ↔ x ∈ l) : r = sort l := rising_uniq h (rising_sort l) (fun x => by rw [hm, mem_sort])
theorem sort_congr {a b : List Idn} (h : ∀ x, x ∈ a ↔ x ∈ b) : sort a = sort b := rising_uniq (rising_sort a) (rising_sort b) (fun x => by rw [mem_sort, mem_sort, h])

/-- Sets of two. -/
def both (a b : List Idn) : List Idn := sort (a ++ b)
def common (a b : List Idn) : List Idn := sort (a.filter fun x => decide (x ∈ b))
def without (a b : List Idn) : List Idn := sort (a.filter fun x => decide (x ∉ b))
theorem mem_both (z : Idn) (a b : List Idn) : z ∈ both a b ↔ z ∈ a ∨ z ∈ b := by simp [both, mem_sort]
theorem mem_common (z : Idn) (a b : List Idn) : z ∈ common a b ↔ z ∈ a ∧ z ∈ b := by simp [common, mem_sort]
theorem mem_without (z : Idn) (a b : List Idn) : z ∈ without a b ↔ z ∈ a ∧ z ∉ b := by simp [without, mem_sort]
theorem rising_both (a b : List Idn) : Rising (both a b) := rising_sort _
theorem rising_common (a b : List Idn) : Rising (common a b) := rising_sort _
theorem rising_without (a b : List Idn) : Rising (without a b) := rising_sort _
theorem sort_length_le : ∀ l : List Idn, (sort l).length ≤ l.length
  | [] => by simp [sort]
  | x :: l => by
    have h := sort_length_le l
    unfold sort at h ⊢
    rw [List.foldr_cons]
    have key : ∀ r : List Idn, (ins x r).length ≤ r.length + 1 := by
      intro r
      induction r with
      | nil => simp [ins]
      | cons y r ih => simp only [ins]; split; simp; split; simp; simp; omega
    have := key (List.foldr ins [] l)
    simp
    omega
theorem rising_nodup {l : List Idn} (h : Rising l) : l.Nodup := List.Pairwise.imp (fun hxy => less_ne hxy) h
theorem perm_of {a b : List Idn} (ha : a.Nodup) (hb : b.Nodup) (h : ∀ x, x ∈ a ↔ x ∈ b) : a.Perm b := (List.perm_ext_iff_of_nodup ha hb).2 h

/-- Whether a list rises, pair by pair. -/
def risesB (l : List Idn) : Bool := (List.range (l.length - 1)).all fun i => less (l.getD i nought) (l.getD (i + 1) nought)
theorem rising_get {l : List Idn} (h : Rising l) {i j : Nat} (hij : i < j) (hj : j < l.length) : less (l.getD i nought) (l.getD j nought) = true := by
  have := List.pairwise_iff_getElem.1 h i j (by omega) hj hij
  rw [List.getD_eq_getElem?_getD, List.getD_eq_getElem?_getD, List.getElem?_eq_getElem (by omega), List.getElem?_eq_getElem hj]
  exact this
theorem risesB_of_rising {l : List Idn} (h : Rising l) : risesB l = true := by
  unfold risesB
  rw [List.all_eq_true]
  intro i hi
  exact rising_get h (Nat.lt_succ_self i) (by simp at hi; omega)

/-- The order as a sort asks for it. -/
def cf (x y : Idn) : Int := if x = y then 0 else if less x y then -1 else 1
theorem ltOf_cf (x y : Idn) : decide (cf x y < 0) = less x y := by
  unfold cf
  by_cases h : x = y
  · subst h; simp [less_irrefl]
  · cases hl : less x y <;> simp [h]
end Go.Proofs.YtechkdhehipliaaGreatDoor.IdM
namespace Go.Proofs.YtechkdhehipliaaGreatDoor.StM
set_option maxRecDepth 100000

/-- Which events may be. -/
def eventB (n q : Int) : Bool := decide (0 ≤ n) && (decide (n < 8) && (decide (1 ≤ q) && decide (q ≤ 1048576)))
theorem eventB_iff {n q : Int} : eventB n q = true ↔ (0 ≤ n ∧ n < 8) ∧ 1 ≤ q ∧ q ≤ 1048576 := by
  unfold eventB
  simp only [Bool.and_eq_true, decide_eq_true_eq]
  omega
end Go.Proofs.YtechkdhehipliaaGreatDoor.StM
