/- Plain facts on two sides of registers that are gathered by their keys. No condition. | Parts of slices of structs, whatever their fields. No condition. -/
import Derived.Test.YtnjdkjkihbgkaaaRegC
import Derived.Test.YtnjdkjkihbgkaaaRegEJ2
import Derived.Test.YtnjdkjkihbgkaaaStNJ2
namespace Go.Proofs.Ytnjdkjkihbgkaaa.RegH
set_option maxRecDepth 100000
open Go Byt OpsM Rise RegM RegL RegE RegC

/-- So many of each side are gathered: none of what lies ahead is beyond what is to come. -/
structure Mid (l m : List Rg) (n j : Nat) : Prop where
  ahead : ∀ x ∈ l.take n, ∀ y ∈ m.drop j, ltS y.key x.key = false
  behind : ∀ x ∈ l.drop n, ∀ y ∈ m.take j, ltS y.key x.key = true
theorem Mid.start (l m : List Rg) : Mid l m 0 0 := ⟨by simp, by simp⟩
theorem may_take {l : List Rg} (h : mayR l = true) (n : Nat) : mayR (l.take n) = true := by
  rw [← List.take_append_drop n l] at h
  exact (may_split h).1
theorem may_drop {l : List Rg} (h : mayR l = true) (n : Nat) : mayR (l.drop n) = true := by
  rw [← List.take_append_drop n l] at h
  exact (may_split h).2.1
theorem take_more (l : List Rg) (n k : Nat) : l.take n ++ (l.drop n).take k = l.take (n + k) := by
  rw [List.take_add]
theorem le_trans {a b c : ByteArray} (h : ltS b a = false) (h2 : ltS b c = true) : ltS c a = false := by
  cases h3 : ltS c a with
  | false => rfl
  | true => rw [strictS.trans _ _ _ h2 h3] at h; cases h
/-- Those of the first side that are not beyond the second side's next one. -/
theorem Mid.each {l m : List Rg} {n j : Nat} {r : Rg} (h : Mid l m n j) (hl : mayR l = true) (hm : mayR m = true) (_hr : m[j]? = some r) :
    ((l.drop n).take (upN r.key (l.drop n))).foldl addG (mergeR (l.take n) (m.take j)) = mergeR (l.take (n + upN r.key (l.drop n))) (m.take j) := by
  rw [← take_more]
  refine steps_a (may_take hm j) (by rw [take_more]; exact may_take hl _) (fun x hx y hy => ?_)
  exact strictS.asymm (h.behind x (List.mem_of_mem_take hx) y hy)
theorem Mid.put {l m : List Rg} {n j : Nat} {r : Rg} (h : Mid l m n j) (hl : mayR l = true) (hm : mayR m = true) (hr : m[j]? = some r) :
    addG (mergeR (l.take (n + upN r.key (l.drop n))) (m.take j)) r = mergeR (l.take (n + upN r.key (l.drop n))) (m.take (j + 1)) ∧ Mid l m (n + upN r.key (l.drop n)) (j + 1) := by
  obtain ⟨hj, rfl⟩ := List.getElem?_eq_some_iff.1 hr
  have et : m.take (j + 1) = m.take j ++ [m[j]] := List.take_succ_eq_append_getElem hj
  have ed : m.drop j = m[j] :: m.drop (j + 1) := List.drop_eq_getElem_cons hj
  have hup : ∀ x ∈ l.take (n + upN m[j].key (l.drop n)), ltS m[j].key x.key = false := by
    intro x hx
    rw [← take_more] at hx
    rcases List.mem_append.1 hx with hx | hx
    · exact h.ahead x hx _ (by rw [ed]; exact List.mem_cons_self)
    · exact up_ahead x hx
  have hrise : ∀ y ∈ m.drop (j + 1), ltS m[j].key y.key = true := by
    have := may_drop hm j
    rw [ed] at this
    intro y hy
    exact (List.pairwise_cons.1 (mayR_iff.1 this).2).1 y hy
  refine ⟨?_, ⟨fun x hx y hy => le_trans (hup x hx) (hrise y hy), fun x hx y hy => ?_⟩⟩
  · rw [et]
    exact step_b (may_take hl _) (by rw [← et]; exact may_take hm _) hup
  · rw [← List.drop_drop] at hx
    rw [et] at hy
    rcases List.mem_append.1 hy with hy | hy
    · exact h.behind x (List.mem_of_mem_drop hx) y hy
    · have e : y = m[j] := by simpa using hy
      rw [e]
      exact up_behind (mayR_iff.1 (may_drop hl n)).2 x hx
theorem Mid.ends {l m : List Rg} {n j : Nat} (h : Mid l m n j) (hl : mayR l = true) (hm : mayR m = true) (hj : j = m.length) : (l.drop n).foldl addG (mergeR (l.take n) (m.take j)) = mergeR l m := by
  subst hj
  have hb := h.behind
  rw [List.take_length] at hb ⊢
  rw [steps_a hm (by rw [List.take_append_drop]; exact hl) (fun x hx y hy => strictS.asymm (hb x hx y hy)), List.take_append_drop]
end Go.Proofs.Ytnjdkjkihbgkaaa.RegH
namespace Go.Proofs.Ytnjdkjkihbgkaaa.RowP
set_option maxRecDepth 100000
open Go Go.RowKit Byt RowS

variable {α : Type} (E : Enc α)
theorem size_e (w : World) : (sizeOf (Try.prog.elem E.S)).run Try.prog w = .ok E.k w := by
  obtain ⟨i, hi, z0, z1, _⟩ := info_parts E.info
  rw [E.elem]
  simp [sizeOf, typeInfo, hi, z1]
theorem under_e : Try.prog.underlying E.S = some (.slice (Try.prog.elem E.S)) := by rw [E.elem, E.slice]
theorem run_part_h (w : World) (A : Option Addr) (len cap : Nat) (k : IntKind) (j : Nat) (hj : j ≤ cap) :
    (Instr.sliceAt E.S (.slice A len cap) none (some (.int k j)) none).run Try.prog w = .ok (sliced A 0 j cap E.k) w := by
  rw [run_sliceAt_slice w _ _ _ _ _ (under_e E), run_slice_h w _ A len cap (under_e E) k j (by omega) (by omega), size_e]
  simp [Result.andThen]
theorem run_part_l (w : World) (A : Option Addr) (len cap : Nat) (k : IntKind) (i : Nat) (hi : i ≤ len) :
    (Instr.sliceAt E.S (.slice A len cap) (some (.int k i)) none none).run Try.prog w = .ok (sliced A i len cap E.k) w := by
  rw [run_sliceAt_slice w _ _ _ _ _ (under_e E), run_slice_l w _ A len cap (under_e E) k i (by omega) (by omega), size_e]
  simp [Result.andThen]
variable {E}
/-- The first ones of a slice. -/
theorem ahead {w : World} {A : Option Addr} {cap : Nat} {l : List α} (S : SlR E w A cap l) (j : Nat) (hj : j ≤ l.length) :
    ∃ A' cap', (∀ (W : World) (k : IntKind), (Instr.sliceAt E.S (.slice A l.length cap) none (some (.int k j)) none).run Try.prog W = .ok (.slice A' j cap') W) ∧ SlR E w A' cap' (l.take j) := by
  obtain ⟨A', cap', h1, h2, _⟩ := SlR.part S 0 j (Nat.zero_le _) hj
  refine ⟨A', cap', fun W k => ?_, by simpa using h2⟩
  rw [run_part_h E W A l.length cap k j (by have := S.1; omega), h1, Nat.sub_zero]
/-- The others. -/
theorem behind {w : World} {A : Option Addr} {cap : Nat} {l : List α} (S : SlR E w A cap l) (i : Nat) (hi : i ≤ l.length) :
    ∃ A' cap', (∀ (W : World) (k : IntKind), (Instr.sliceAt E.S (.slice A l.length cap) (some (.int k i)) none none).run Try.prog W = .ok (.slice A' (l.length - i) cap') W) ∧ SlR E w A' cap' (l.drop i) := by
  obtain ⟨A', cap', h1, h2, _⟩ := SlR.part S i l.length hi (Nat.le_refl _)
  refine ⟨A', cap', fun W k => ?_, ?_⟩
  · rw [run_part_l E W A l.length cap k i hi, h1]
  · rwa [List.take_of_length_le (by simp)] at h2
end Go.Proofs.Ytnjdkjkihbgkaaa.RowP
