/- How the project's package reg searches: contracts. -/
import Derived.Test.YtnjdkjkihbgkaaaRegB
namespace Go.Proofs.Ytnjdkjkihbgkaaa.RegC
set_option maxRecDepth 100000
open Go Go.RowKit Byt OpsM OpsK Rise RegM RegL RowS RowB RegW RegG

theorem ahead_ret (k : ByteArray) (c : Rg) (w : World) :
    Calls Try.prog 64 #[.string k, .agg (rc c)] w fun e w' => e = .returned (.bool (ltS k c.key)) ∧ Below w.heap.size w w' := by
  have R1 : RgAt (w.alloc (.cells (rc c) 56)) w.heap.size c := RgAt.new w c _
  have kb : Below w.heap.size w (w.alloc (.cells (rc c) 56)) := (Below.refl _ _).alloc (Nat.le_refl _) _
  obtain ⟨c0, c1, c2, c3, c4⟩ := R1.cells
  clear R1
  go_enter Try.func64, Try.ntmps64
  go_wp2
  go_ret
  exact ⟨rfl, kb⟩
theorem ret_int {k : IntKind} {a b : Int} (h : a = b) : Ending.returned (.int k a) = .returned (.int k b) := by rw [h]
/-- The place of the first one that p holds of, or -1. -/
def firstAt (p : Rg → Bool) (l : List Rg) : Int := match l.findIdx? p with | none => -1 | some i => i
theorem first_yes {p : Rg → Bool} {l : List Rg} {j : Nat} (hj : j < l.length) (hp : p l[j] = true) (hn : ∀ i (h : i < j), p (l[i]'(by omega)) = false) : firstAt p l = j := by
  have : l.findIdx? p = some j := by
    rw [List.findIdx?_eq_some_iff_getElem]
    exact ⟨hj, hp, fun i hi => by simp [hn i hi]⟩
  unfold firstAt
  rw [this]
theorem first_none {p : Rg → Bool} {l : List Rg} (hn : ∀ i (h : i < l.length), p l[i] = false) : firstAt p l = -1 := by
  have : l.findIdx? p = none := by
    rw [List.findIdx?_eq_none_iff]
    intro x hx
    obtain ⟨i, hi, rfl⟩ := List.mem_iff_getElem.1 hx
    exact hn i hi
  unfold firstAt
  rw [this]
theorem hmf (fn : Fn) (first cap : Array Value) (w : World) : (Instr.makeFunc fn first cap).run Try.prog w = .ok (.func fn first cap) w := rfl


set_option maxHeartbeats 4000000 in
theorem index_ahead (A : Option Addr) (cap : Nat) (l : List Rg) (k : ByteArray) (w : World) (S : SlR E w A cap l) (hl : l.length ≤ 1000000) :
    Calls Try.prog 63 #[.slice A l.length cap, .func (.func 64) #[.string k] #[]] w fun e w' => e = .returned (.int .i64 (firstAt (fun c => ltS k c.key) l)) ∧ Below w.heap.size w w' := by
  have hcap := S.1
  obtain ⟨R, hR⟩ : ∃ R, firstAt (fun c => ltS k c.key) l = R := ⟨_, rfl⟩
  rw [hR]
  have HR := aside hR
  clear hR
  go_enter Try.func63, Try.ntmps63
  go_wp2
  go_loopw [8] (fun i wr => ∃ j : Nat, j ≤ l.length ∧ i = .int .i64 j ∧ Hid (∀ i (h : i < j) (h2 : i < l.length), (fun c => ltS k c.key) l[i] = false) ∧ Below w.heap.size w wr) (fun i _ => l.length - (intOf i).toNat)
  case atStart => exact ⟨0, Nat.zero_le _, rfl, aside (fun i h => absurd h (by omega)), Below.refl _ _⟩
  case round =>
    obtain ⟨j, hj, rfl, HN, kb⟩ := hrel
    by_cases hlt : j < l.length
    · obtain ⟨b, off, rfl, hbw, hr⟩ := RegW.plain S (by omega)
      have hx : l[j]? = some l[j] := List.getElem?_eq_getElem hlt
      have hr1 := range_below (hr j _ hx) kb
      have p0 : (j : Int) < l.length := by omega
      have m0 : ((j : Int)).toNat = j := by omega
      have cc := fun W => ahead_ret k l[j] W
      clear hr S hx
      obtain ⟨y, hy⟩ : ∃ y, (fun c => ltS k c.key) l[j] = y := ⟨_, rfl⟩
      have HY := aside hy
      simp only at hy
      rw [hy] at cc
      clear hy
      cases y with
      | true =>
        have HR2 : Hid (R = (j : Int)) := aside (by rw [← HR.out]; exact first_yes hlt HY.out (fun i h => HN.out i h (by omega)))
        go_wp2_with (first
          | (refine wpList_load_at E rfl _ rfl b _ rfl l[j] hr1 ?_)
          | (refine (cc _).mono ?_; rintro e w' ⟨rfl, k1⟩; have k2 := kb.trans (k1.mono kb.size); clear k1))
        go_ret
        exact ⟨ret_int HR2.out.symm, k2⟩
      | false =>
        go_wp2_with (first
          | (refine wpList_load_at E rfl _ rfl b _ rfl l[j] hr1 ?_)
          | (refine (cc _).mono ?_; rintro e w' ⟨rfl, k1⟩; have k2 := kb.trans (k1.mono kb.size); clear k1))
        go_roundw
        case rel =>
          refine ⟨j + 1, by omega, by go_num, aside (fun i h h2 => ?_), k2⟩
          by_cases e : i = j
          · subst e; exact HY.out
          · exact HN.out i (by omega) h2
        case measure => simp [intOf]; omega
    · have HR2 : Hid (R = -1) := aside (by rw [← HR.out]; exact first_none (fun i h => HN.out i (by omega) h))
      clear S HN
      go_wp2
      go_ret
      exact ⟨ret_int HR2.out.symm, kb⟩

theorem first_cases (p : Rg → Bool) (l : List Rg) : (firstAt p l = -1 ∧ ∀ x ∈ l, p x = false) ∨ ∃ (i : Nat) (x : Rg), firstAt p l = i ∧ l[i]? = some x ∧ p x = true ∧ ∀ j (_ : j < i) (y : Rg), l[j]? = some y → p y = false := by
  unfold firstAt
  cases h : l.findIdx? p with
  | none => exact .inl ⟨rfl, List.findIdx?_eq_none_iff.1 h⟩
  | some i =>
    rw [List.findIdx?_eq_some_iff_getElem] at h
    obtain ⟨hi, hp, hn⟩ := h
    refine .inr ⟨i, l[i], rfl, List.getElem?_eq_getElem hi, hp, fun j hj y hy => ?_⟩
    obtain ⟨hj2, rfl⟩ := List.getElem?_eq_some_iff.1 hy
    simpa using hn j hj
theorem getR_first {l : List Rg} {k : ByteArray} : ∀ {i : Nat} {x : Rg}, l[i]? = some x → x.key = k → (∀ j (_ : j < i) (y : Rg), l[j]? = some y → y.key ≠ k) → getR l k = some x := by
  induction l with
  | nil => intro i x h; simp at h
  | cons c r ih =>
    intro i x h hx hn
    rw [getR_cons]
    cases i with
    | zero =>
      obtain rfl : c = x := by simpa using h
      rw [if_pos hx]
    | succ i =>
      rw [if_neg (hn 0 (by omega) c rfl)]
      exact ih (i := i) (by simpa using h) hx (fun j hj y hy => hn (j + 1) (by omega) y (by simpa using hy))
/-- How many stand ahead of the first one beyond that key. -/
def upN (k : ByteArray) (l : List Rg) : Nat := match l.findIdx? (fun c => ltS k c.key) with | none => l.length | some i => i
theorem upN_le (k : ByteArray) (l : List Rg) : upN k l ≤ l.length := by
  unfold upN
  cases h : l.findIdx? (fun c => ltS k c.key) with
  | none => exact Nat.le_refl _
  | some i =>
    rw [List.findIdx?_eq_some_iff_getElem] at h
    obtain ⟨hi, _⟩ := h
    simp only
    omega
theorem up_cases (k : ByteArray) (l : List Rg) : (firstAt (fun c => ltS k c.key) l = -1 ∧ upN k l = l.length) ∨ ∃ i : Nat, firstAt (fun c => ltS k c.key) l = i ∧ upN k l = i := by
  unfold firstAt upN
  cases h : l.findIdx? (fun c => ltS k c.key) with
  | none => exact .inl ⟨rfl, rfl⟩
  | some i => exact .inr ⟨i, rfl, rfl⟩
/-- Those ahead are not beyond; of registers that rise, those behind are. -/
theorem up_ahead {k : ByteArray} {l : List Rg} : ∀ x ∈ l.take (upN k l), ltS k x.key = false := by
  intro x hx
  obtain ⟨i, hi⟩ := List.mem_iff_getElem?.1 hx
  rw [List.getElem?_take] at hi
  split at hi
  · rename_i hlt
    unfold upN at hlt
    cases h : l.findIdx? (fun c => ltS k c.key) with
    | none =>
      rw [List.findIdx?_eq_none_iff] at h
      exact h x (List.mem_of_getElem? hi)
    | some n =>
      rw [h] at hlt
      rw [List.findIdx?_eq_some_iff_getElem] at h
      obtain ⟨hn, hp, hno⟩ := h
      obtain ⟨h2, rfl⟩ := List.getElem?_eq_some_iff.1 hi
      simpa using hno i hlt
  · cases hi
theorem up_behind {k : ByteArray} {l : List Rg} (hr : Rises Rg.key ltS l) : ∀ x ∈ l.drop (upN k l), ltS k x.key = true := by
  intro x hx
  unfold upN at hx
  cases h : l.findIdx? (fun c => ltS k c.key) with
  | none =>
    rw [h] at hx
    simp at hx
  | some n =>
    rw [h] at hx
    simp only at hx
    rw [List.findIdx?_eq_some_iff_getElem] at h
    obtain ⟨hn, hp, hno⟩ := h
    have hd := List.drop_eq_getElem_cons hn
    rw [hd] at hx
    have hrd : Rises Rg.key ltS (l.drop n) := List.Pairwise.drop hr
    rw [hd] at hrd
    rcases List.mem_cons.1 hx with rfl | hx
    · exact hp
    · exact strictS.trans _ _ _ hp ((List.pairwise_cons.1 hrd).1 x hx)

set_option maxHeartbeats 4000000 in
theorem upto_ret (A : Option Addr) (cap : Nat) (l : List Rg) (k : ByteArray) (w : World) (S : SlR E w A cap l) (hl : l.length ≤ 1000000) :
    Calls Try.prog 40 #[.slice A l.length cap, .string k] w fun e w' => e = .returned (.int .i64 (upN k l)) ∧ Below w.heap.size w w' := by
  have ci := index_ahead A cap l k w S hl
  have hmk := hmf
  rcases up_cases k l with ⟨h1, h2⟩ | ⟨i, h1, h2⟩
  · rw [h1] at ci
    rw [h2]
    clear h1 h2
    go_enter Try.func40, Try.ntmps40
    go_wp2_with fail
    refine ci.mono ?_
    rintro e w1 ⟨rfl, k1⟩
    go_wp2
    go_ret
    exact ⟨rfl, k1⟩
  · rw [h1] at ci
    rw [h2]
    clear h1 h2
    have hi : ¬ ((i : Int) < 0) := by omega
    go_enter Try.func40, Try.ntmps40
    go_wp2_with fail
    refine ci.mono ?_
    rintro e w1 ⟨rfl, k1⟩
    go_wp2
    go_ret
    exact ⟨rfl, k1⟩

end Go.Proofs.Ytnjdkjkihbgkaaa.RegC
