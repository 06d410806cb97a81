/- Plain facts on bytes as they are summed: bytes, a mark, noughts, and how many bits these are. No condition. | Plain facts on a content's sum: block by block of the bytes as they are summed. No condition. -/
import Derived.Test.YthdpipllighegaaDoorSmall
import Derived.Laws.CopyOwn
import Derived.Test.YthdpipllighegaaDoorShaD
namespace Go.Proofs.YthdpipllighegaaDoor.PadM
set_option maxRecDepth 100000
open Go.RowKit RotC

/-- Numbers as cells of bytes. -/
def bv (l : List Int) : List Value := l.map (Value.int .u8)
theorem bv_length (l : List Int) : (bv l).length = l.length := by simp [bv]
theorem bv_append (a b : List Int) : bv (a ++ b) = bv a ++ bv b := by simp [bv]
theorem bv_one (l : List Int) : ∀ v ∈ bv l, v.oneCell' = true := by
  intro v hv
  simp only [bv, List.mem_map] at hv
  obtain ⟨n, _, rfl⟩ := hv
  rfl
theorem bv_at (l : List Int) {i : Nat} (h : i < l.length) : (bv l)[i]? = some (.int .u8 (l.getD i 0)) := by
  simp [bv, h]
theorem bv_inj {a b : List Int} (h : bv a = bv b) : a = b := by
  unfold bv at h
  exact (List.map_inj_right (fun x y hxy => by simpa using hxy)).1 h

/-- How long n bytes are when they are summed. -/
def nPad (n : Nat) : Nat := (n + 72) / 64 * 64
theorem nPad_lo (n : Nat) : n + 9 ≤ nPad n := by unfold nPad; omega
theorem nPad_hi (n : Nat) : nPad n ≤ n + 72 := by unfold nPad; omega
theorem nPad_mod (n : Nat) : nPad n % 64 = 0 := by unfold nPad; omega
theorem nPad_pos (n : Nat) : 64 ≤ nPad n := by unfold nPad; omega

/-- The eight bytes of a long number. -/
def long8 (a : Int) : List Int := [a / 72057594037927936, a / 281474976710656 % 256, a / 1099511627776 % 256, a / 4294967296 % 256, a / 16777216 % 256, a / 65536 % 256, a / 256 % 256, a % 256]
theorem bv_long8 (a : Int) : bv (long8 a) = (longV a).toList := rfl
theorem long8_length (a : Int) : (long8 a).length = 8 := rfl

/-- Bytes as they are summed. -/
def padL (bs : List Int) : List Int := bs ++ (128 :: (List.replicate (nPad bs.length - bs.length - 9) 0 ++ long8 (8 * bs.length)))
theorem padL_length (bs : List Int) : (padL bs).length = nPad bs.length := by
  have := nPad_lo bs.length
  simp [padL, long8]
  omega

/-- The row after the bytes, the mark, and the length are laid into noughts. -/
theorem lay1 (bs : List Int) (n : Nat) : splice (List.replicate n (Value.int .u8 0)) 0 (bv bs) = bv (bs ++ List.replicate (n - bs.length) 0) := by
  simp [splice, bv, List.map_replicate]
theorem lay1_at (bs : List Int) (m : Nat) (hm : 0 < m) : (bv (bs ++ List.replicate m 0)).toArray[bs.length]? = some (.int .u8 0) := by
  simp [bv, hm]
theorem lay2 (bs : List Int) (m : Nat) (hm : 0 < m) : (bv (bs ++ List.replicate m 0)).toArray.setIfInBounds bs.length (Value.int .u8 128) = (bv (bs ++ (128 :: List.replicate (m - 1) 0))).toArray := by
  obtain ⟨k, rfl⟩ : ∃ k, m = k + 1 := ⟨m - 1, by omega⟩
  rw [List.setIfInBounds_toArray]
  congr 1
  simp [bv, List.replicate_succ]
theorem lay3 (bs ls : List Int) (m : Nat) (hl : ls.length = 8) (hm : 8 ≤ m) : splice (bv (bs ++ (128 :: List.replicate m 0))) (bs.length + 1 + m - 8) (bv ls) = bv (bs ++ (128 :: (List.replicate (m - 8) 0 ++ ls))) := by
  obtain ⟨k, rfl⟩ : ∃ k, m = k + 8 := ⟨m - 8, by omega⟩
  have e1 : bs ++ (128 :: List.replicate (k + 8) 0) = (bs ++ (128 :: List.replicate k (0 : Int))) ++ List.replicate 8 0 := by
    rw [← List.replicate_append_replicate]; simp
  have e2 : bs.length + 1 + (k + 8) - 8 = (bv (bs ++ (128 :: List.replicate k (0 : Int)))).length := by simp [bv_length]; omega
  rw [e1, bv_append, e2]
  unfold splice
  rw [List.take_left, bv_length ls, hl]
  have e3 : List.drop ((bv (bs ++ (128 :: List.replicate k (0 : Int)))).length + 8) (bv (bs ++ (128 :: List.replicate k 0)) ++ bv (List.replicate 8 0)) = [] := by
    apply List.drop_eq_nil_of_le
    simp [bv_length]
  rw [e3, List.append_nil, ← bv_append]
  simp

/-- Bytes laid behind others into noughts. -/
theorem lay_behind (xs ls : List Int) (m : Nat) (hm : ls.length ≤ m) : splice (bv (xs ++ List.replicate m 0)) xs.length (bv ls) = bv ((xs ++ ls) ++ List.replicate (m - ls.length) 0) := by
  obtain ⟨k, rfl⟩ : ∃ k, m = ls.length + k := ⟨m - ls.length, by omega⟩
  have e2 : xs.length = (bv xs).length := (bv_length xs).symm
  rw [bv_append, e2]
  unfold splice
  rw [List.take_left, bv_length ls, ← List.drop_drop, List.drop_left, ← List.replicate_append_replicate, bv_append, bv_append, bv_append]
  rw [List.drop_left' (by simp [bv_length])]
  simp

/-- The four bytes of a word. -/
def four8 (a : Int) : List Int := [a / 16777216, a / 65536 % 256, a / 256 % 256, a % 256]
theorem bv_four8 (a : Int) : bv (four8 a) = (fourV a).toList := rfl
theorem four8_length (a : Int) : (four8 a).length = 4 := rfl
end Go.Proofs.YthdpipllighegaaDoor.PadM
namespace Go.Proofs.YthdpipllighegaaDoor.SumM
set_option maxRecDepth 100000
open Go.RowKit RotM RotN RotC RotD ShaM ShaD RotG Small PadM

/-- Byte j of block k. -/
def blk (P : List Int) (k j : Nat) : Int := P.getD (64 * k + j) 0
/-- What k blocks make of the beginning. -/
def hsum (P : List Int) : Nat → H8
  | 0 => startS
  | k + 1 => blockS (hsum P k) (wordsOf (blk P k))

theorem padL_B {bs : List Int} (h : ∀ x ∈ bs, B x) (hl : bs.length ≤ 1099511627776) : ∀ x ∈ padL bs, B x := by
  intro x hx
  unfold padL at hx
  simp only [List.mem_append, List.mem_cons, List.mem_replicate, long8, List.not_mem_nil, or_false] at hx
  have hm : 0 ≤ (8 * (bs.length : Int)) ∧ 8 * (bs.length : Int) ≤ 18446744073709551615 := by omega
  generalize 8 * (bs.length : Int) = a at *
  unfold B
  rcases hx with hx | hx | hx | hx | hx | hx | hx | hx | hx | hx | hx
  · exact h x hx
  all_goals omega
theorem getD_B {l : List Int} (h : ∀ x ∈ l, B x) (i : Nat) : B (l.getD i 0) := by
  by_cases hi : i < l.length
  · rw [List.getD_eq_getElem?_getD, List.getElem?_eq_getElem hi]
    exact h _ (List.getElem_mem hi)
  · rw [List.getD_eq_getElem?_getD, List.getElem?_eq_none (by omega)]
    unfold B
    simp
theorem blk_B {P : List Int} (h : ∀ x ∈ P, B x) (k j : Nat) : B (blk P k j) := getD_B h _
/-- A block's cells, out of a row known whole. -/
theorem blk_at {w : World} {g : Nat} {P : List Int} (h : At w g (bv P).toArray) (k : Nat) (hk : 64 * k + 64 ≤ P.length) (i : Nat) (hi : i < 64) : w.cell? ⟨g, 64 * k + i, none⟩ = some (.int .u8 (blk P k i)) := by
  rw [h.cell, List.getElem?_toArray, bv_at _ (by omega)]
  rfl
end Go.Proofs.YthdpipllighegaaDoor.SumM
