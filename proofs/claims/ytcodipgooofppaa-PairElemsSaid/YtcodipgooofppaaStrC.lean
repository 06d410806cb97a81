/- slices.Compact at texts: the library's contract, laid at this program: a contract on a new row. No condition. -/
import Derived.Test.YtcodipgooofppaaTxt
import Derived.Test.YtcodipgooofppaaLayCompS
import Derived.Shelf.SlicesG.CompactS
import Derived.Sort.OwnSorted
namespace Go.Proofs.Ytcodipgooofppaa.StrC
open Go Go.RowKit Go.Sort Go.Shelf Go.Lib Go.Proofs Byt Txt

def raw (l : List ByteArray) : List (List UInt8) := l.map fun x => x.data.toList
def cook (l : List (List UInt8)) : List ByteArray := l.map fun x => ⟨x.toArray⟩
theorem cook_raw (l : List ByteArray) : cook (raw l) = l := by
  unfold cook raw
  rw [List.map_map]
  have : ((fun x : List UInt8 => (⟨x.toArray⟩ : ByteArray)) ∘ fun x : ByteArray => x.data.toList) = id := by
    funext x
    cases x
    simp
  rw [this, List.map_id]
theorem enc_cook (l : List (List UInt8)) : l.map encStr = ts (cook l) := by
  unfold ts cook
  rw [List.map_map]
  rfl
theorem enc_raw (l : List ByteArray) : (raw l).map encStr = ts l := by rw [enc_cook, cook_raw]
theorem raw_inj {a b : ByteArray} (h : a.data.toList = b.data.toList) : a = b := by
  cases a; cases b
  congr 1
  exact Array.ext' h
/-- Each text that is another one than the one ahead of it. -/
def once : Option ByteArray → List ByteArray → List ByteArray
  | _, [] => []
  | o, x :: r => if o = some x then once o r else x :: once (some x) r
theorem once_snoc : ∀ (l : List ByteArray) (o : Option ByteArray) (x : ByteArray), once o (l ++ [x]) = once o l ++ (if (l.getLast?.or o) = some x then [] else [x])
  | [], o, x => by
    show once o [x] = _
    unfold once
    by_cases h : o = some x <;> simp [h, once]
  | y :: r, o, x => by
    rw [List.cons_append]
    unfold once
    have e : ∀ q : Option ByteArray, (y :: r).getLast?.or q = r.getLast?.or (some y) := by
      intro q
      cases hr : r.getLast? with
      | none =>
        have : r = [] := by simpa using hr
        subst this
        simp
      | some z =>
        have : (y :: r).getLast? = some z := by
          rw [List.getLast?_cons, hr]
          rfl
        rw [this]
        rfl
    by_cases h : o = some y
    · rw [if_pos h, if_pos h, once_snoc r o x, e, h]
    · rw [if_neg h, if_neg h, once_snoc r (some y) x, e]
      rfl
theorem at_raw (l : List ByteArray) (i : Nat) (hi : i < l.length) : (raw l).toArray[i]! = l[i].data.toList := by
  have : i < (raw l).length := by simpa [raw] using hi
  rw [Array.getElem!_eq_getD, Array.getD_eq_getD_getElem?, List.getElem?_toArray, List.getElem?_eq_getElem this]
  simp [raw]
theorem up_to (l : List ByteArray) : ∀ m, m ≤ l.length → compactUpTo (raw l).toArray m = raw (once none (l.take m))
  | 0, _ => by simp [compactUpTo, once, raw]
  | m + 1, h => by
    have hm : m < l.length := h
    rw [compactUpTo_succ, up_to l m (by omega), List.take_succ_eq_append_getElem hm, once_snoc]
    have e : (raw l).toArray[m]! = l[m].data.toList := at_raw l m hm
    unfold raw
    rw [List.map_append]
    congr 1
    change (if keeps (raw l).toArray m = true then [(raw l).toArray[m]!] else []) = _
    rw [e]
    by_cases h0 : m = 0
    · subst h0
      simp [keeps]
    · have hp : m - 1 < l.length := by omega
      have e2 : (raw l).toArray[m - 1]! = l[m - 1].data.toList := at_raw l (m - 1) hp
      have hl : (l.take m).getLast? = some l[m - 1] := by
        rw [List.getLast?_eq_getElem?, List.length_take, Nat.min_eq_left (by omega), List.getElem?_take, if_pos (by omega), List.getElem?_eq_getElem hp]
      rw [hl]
      unfold keeps
      rw [e, e2]
      by_cases hq : l[m] = l[m - 1]
      · rw [if_neg (by simp [h0, hq]), if_pos (by simp [hq])]
        rfl
      · rw [if_pos (by simp; exact .inr (fun q => hq (raw_inj (by rw [q])))), if_neg (by simp; exact fun q => hq q.symm)]
        rfl
theorem compact_is (l : List ByteArray) : Lib.compact (raw l) = raw (once none l) := by
  unfold Lib.compact
  have h := up_to l l.length (Nat.le_refl _)
  rw [List.take_length] at h
  rw [show (raw l).length = l.length by simp [raw]]
  exact h
theorem once_le : ∀ (l : List ByteArray) (o : Option ByteArray), (once o l).length ≤ l.length
  | [], _ => by simp [once]
  | x :: r, o => by
    unfold once
    split
    · have := once_le r o
      simp only [List.length_cons]
      omega
    · have := once_le r (some x)
      simp only [List.length_cons]
      omega
theorem raw_len (l : List ByteArray) : (raw l).length = l.length := by simp [raw]
/-- slices.Compact at a row of the call's own. -/
theorem compact_own {w : World} {base : Nat} {v : Value} {l : List ByteArray} (h : w.ownsRow base 9 1 v l.length (ts l)) :
    Calls Try.prog 31 #[v] w fun e w' => ∃ A cap, e = .returned (.slice A (once none l).length cap) ∧ SlT w' A cap (once none l) ∧ w.grownBy w' v.ownBlock := by
  by_cases h0 : l.length = 0
  · have e := List.eq_nil_of_length_eq_zero h0
    subst e
    obtain ⟨A, cap, rfl, S⟩ := SlT.own h
    refine (AnyG.slices_Compact_string_empty Try.compStrs A cap w).mono ?_
    rintro e w' ⟨rfl, rfl⟩
    exact ⟨A, cap, rfl, S, grown_of_below (Below.refl _ _) _⟩
  · rcases h.2 with ⟨_, e⟩ | ⟨g, cap, cur, rfl, hbg, hg, h1, h2, h3, h4⟩
    · exact absurd e h0
    · have hH : Holds encStr w g 0 (raw l).toArray := holds_of_block hg (by rw [raw_len, enc_raw]; simpa using h4)
      have q := AnyG.slices_Compact_string Try.compStrs g 0 cap (raw l) w hH (by rw [raw_len]; unfold maxLen at h2; omega) (by rw [raw_len]; exact h1)
      rw [raw_len, compact_is, raw_len] at q
      refine q.mono ?_
      rintro e w' ⟨rfl, n, rfl⟩
      have hle := once_le l none
      obtain ⟨T, hT⟩ : ∃ T, raw (once none l) ++ List.replicate (l.length - (once none l).length) ([] : List UInt8) = T := ⟨_, rfl⟩
      have hTl : T.length = (raw l).length := by rw [← hT, List.length_append, raw_len, List.length_replicate, raw_len]; omega
      rw [hT]
      have own := ownsRow_sorted (n := n) (os := #[]) (ss := raw l) (ts := T) hTl hbg hg (by rw [raw_len]; exact h1) h2 h3
      rw [grow_empty, raw_len] at own
      have gr := grownBy_sorted (w := w) (g := g) (n := n) (os := #[]) T.toArray
      rw [grow_empty] at gr
      refine ⟨some ⟨g, 0, none⟩, cap, rfl, ⟨by omega, h2, .inr ⟨_, rfl, fun i u hu => own.cells rfl i u ?_⟩⟩, gr⟩
      rw [← hT, List.map_append, enc_raw, List.getElem?_append_left (List.getElem?_eq_some_iff.1 hu).1]
      exact hu
end Go.Proofs.Ytcodipgooofppaa.StrC
