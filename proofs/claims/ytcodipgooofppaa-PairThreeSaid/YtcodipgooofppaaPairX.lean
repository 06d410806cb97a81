/- What the laws on pairs ask of lists; two lists of texts compared. No condition. -/
import Derived.Test.YtcodipgooofppaaPairU
import Derived.Test.YtcodipgooofppaaOpenP
namespace Go.Proofs.Ytcodipgooofppaa.PairX
open Go Go.RowKit Byt OpsM Rise PairM PairN RowS RowB PairW PairS PairQ Txt

theorem max_of {l : List Pr} (h : ∀ c ∈ l, OpenP.Good c) : ∀ c ∈ l, c.key.size ≤ maxLen ∧ c.elem.size ≤ maxLen := fun c hc => ⟨(h c hc).key, (h c hc).elem⟩
theorem few_len {l : List Pr} (h : fewB l = true) : l.length ≤ 30 := by
  unfold fewB at h
  simp only [Bool.and_eq_true, decide_eq_true_eq] at h
  exact h.1
theorem few_fits {l : List Pr} (h : fewB l = true) (hg : ∀ c ∈ l, OpenP.Good c) : Fits l := by
  unfold fewB at h
  simp only [Bool.and_eq_true, decide_eq_true_eq, List.all_eq_true] at h
  intro c hc
  have h1 := h.2 c hc
  have h2 := hg c hc
  exact ⟨by omega, by omega, h2.node, h2.seq⟩
theorem one_of {c : Pr} (h : OpenP.Good c) : ∀ x ∈ [c], OpenP.Good x := fun x hx => by
  simp at hx
  rw [hx]
  exact h
theorem two_of {c d : Pr} (h : OpenP.Good c) (h2 : OpenP.Good d) : ∀ x ∈ [c, d], OpenP.Good x := fun x hx => by
  simp at hx
  rcases hx with rfl | rfl
  · exact h
  · exact h2
theorem fit_one {c : Pr} (h : fewB [c] = true) (hg : OpenP.Good c) : Fit c := few_fits h (one_of hg) c (by simp)
theorem fit_two {c d : Pr} (h : fewB [c, d] = true) (hg : OpenP.Good c) (hg2 : OpenP.Good d) : Fit c ∧ Fit d := ⟨few_fits h (two_of hg hg2) c (by simp), few_fits h (two_of hg hg2) d (by simp)⟩
theorem few_one {c : Pr} (h : fewB [c] = true) : c.key.size ≤ 100 ∧ c.elem.size ≤ 100 := by
  unfold fewB at h
  simp only [Bool.and_eq_true, decide_eq_true_eq, List.all_eq_true] at h
  exact h.2 c (by simp)
theorem few_two {c d : Pr} (h : fewB [c, d] = true) : (c.key.size ≤ 100 ∧ c.elem.size ≤ 100) ∧ (d.key.size ≤ 100 ∧ d.elem.size ≤ 100) := by
  unfold fewB at h
  simp only [Bool.and_eq_true, decide_eq_true_eq, List.all_eq_true] at h
  exact ⟨h.2 c (by simp), h.2 d (by simp)⟩
theorem add_fits {l : List Pr} {p : Pr} (hl : Fits l) (hp : Fit p) : Fits (addP l p) := by
  unfold addP
  split
  · intro x hx
    rcases (put_mem x).1 hx with rfl | h
    · exact hp
    · exact hl x h
  · intro x hx; simp at hx
theorem del_fits {l : List Pr} {k e : ByteArray} (hl : Fits l) : Fits (delP l k e) := by
  unfold delP
  split
  · intro x hx
    exact hl x (List.mem_filter.1 hx).1
  · intro x hx; simp at hx
theorem merge_fits {base a b : List Pr} (ha : Fits a) (hb : Fits b) : Fits (mergeP base a b) := by
  unfold mergeP
  split
  · intro x hx
    rw [fold_mem, fold_mem] at hx
    rcases hx with h | h | h
    · exact hb x (List.mem_filter.1 h).1
    · exact ha x (List.mem_filter.1 h).1
    · simp at h
  · intro x hx; simp at hx
theorem equal_yes {x y : Pr} (h : x = y) (w : World) : (Op.equalIn 10000 26 (.agg (E.enc x).toArray) (.agg (E.enc y).toArray)).run Try.prog w = .ok true w := by
  have := equal w x y
  rw [sameN_iff.2 h] at this
  exact this
theorem equal_no {x y : Pr} (h : x ≠ y) (w : World) : (Op.equalIn 10000 26 (.agg (E.enc x).toArray) (.agg (E.enc y).toArray)).run Try.prog w = .ok false w := by
  have := equal w x y
  cases e : sameN x y with
  | false =>
    rw [e] at this
    exact this
  | true => exact absurd (sameN_iff.1 e) h
/-- Two pairs compared. -/
theorem equal_is {x y : Pr} {b : Bool} (h : b = true ↔ x = y) (w : World) : (Op.equalIn 10000 26 (.agg (E.enc x).toArray) (.agg (E.enc y).toArray)).run Try.prog w = .ok b w := by
  cases b with
  | true => exact equal_yes (h.1 rfl) w
  | false => exact equal_no (fun e => by cases h.2 e) w
set_option maxRecDepth 100000 in
set_option maxHeartbeats 4000000 in
/-- One list of texts is the same as itself, wherever it lies. -/
theorem texts_ret (A : Option Addr) (cap : Nat) (A' : Option Addr) (cap' : Nat) (a : List ByteArray) (w : World) (S : SlT w A cap a) (S' : SlT w A' cap' a) :
    Calls Try.prog 19 #[.slice A a.length cap, .slice A' a.length cap'] w fun e w' => e = .returned (.bool true) ∧ Below w.heap.size w w' := by
  have hmax : a.length ≤ 9223372036854775807 := by have := S.1; have := S.2.1; unfold maxLen at this; omega
  have hcap := S.1
  have hcap' := S'.1
  have t0 : ((a.length : Int) != (a.length : Int)) = false := by simp
  go_enter Try.func19, Try.ntmps19
  go_wp2
  clear t0
  go_loopw [5] (fun i wr => ∃ j : Nat, j ≤ a.length ∧ i = .int .i64 j ∧ Below w.heap.size w wr) (fun i _ => a.length - (intOf i).toNat)
  case atStart => exact ⟨0, Nat.zero_le _, rfl, Below.refl _ _⟩
  case round =>
    obtain ⟨j, hj, rfl, kb⟩ := hrel
    by_cases hlt : j < a.length
    · obtain ⟨p, off, rfl, hbw, hr⟩ := S.plain (by omega)
      obtain ⟨p', off', rfl, hbw', hr'⟩ := S'.plain (by omega)
      obtain ⟨x, hx⟩ : ∃ x, a[j]? = some x := ⟨_, List.getElem?_eq_getElem hlt⟩
      have c0 := cell_below (hr j x hx) kb
      have d0 := cell_below (hr' j x hx) kb
      have p0 : (j : Int) < a.length := by omega
      have m0 : ((j : Int)).toNat = j := by omega
      have t1 := bne_yes (rfl : x = x)
      clear hr hr' S S' hx
      go_wp2
      go_quiet (fail)
      go_wp2
      go_roundw
      case rel => exact ⟨j + 1, by omega, by go_num, below_drew kb _⟩
      case measure => simp [intOf]; omega
    · clear S S'
      go_wp2
      go_ret
      exact ⟨rfl, kb⟩
/-- One more looked at. -/
theorem in_step {b B : Bool} {l : List Pr} {k : Nat} {x y : Pr} (hy : l[k]? = some y) (h : b = (B || decide (x ∈ l.take k))) : (B || decide (x ∈ l.take (k + 1))) = (b || decide (y = x)) := by
  obtain ⟨hk, rfl⟩ := List.getElem?_eq_some_iff.1 hy
  rw [h, List.take_succ_eq_append_getElem hk, Bool.or_assoc]
  congr 1
  rw [Bool.eq_iff_iff]
  simp only [decide_eq_true_eq, Bool.or_eq_true, List.mem_append, List.mem_singleton]
  exact ⟨fun h => h.imp id Eq.symm, fun h => h.imp id Eq.symm⟩
/-- Is a text among these? -/
def inT (x : ByteArray) (l : List ByteArray) : Bool := l.any fun y => decide (y = x)
theorem inT_iff {x : ByteArray} {l : List ByteArray} : inT x l = true ↔ x ∈ l := by
  unfold inT
  rw [List.any_eq_true]
  exact ⟨fun ⟨y, h1, h2⟩ => by rw [← of_decide_eq_true h2]; exact h1, fun h => ⟨x, h, decide_eq_true rfl⟩⟩
theorem txt_step {b : Bool} {l : List ByteArray} {k : Nat} {x y : ByteArray} (hy : l[k]? = some y) (h : b = inT x (l.take k)) : inT x (l.take (k + 1)) = (b || decide (y = x)) := by
  obtain ⟨hk, rfl⟩ := List.getElem?_eq_some_iff.1 hy
  rw [h, List.take_succ_eq_append_getElem hk]
  unfold inT
  rw [List.any_append]
  simp
theorem rises_at {l : List ByteArray} (h : Rises id ltS l) {m : Nat} {v z : ByteArray} (hv : l[m]? = some v) (hz : l[m + 1]? = some z) : ltS v z = true := by
  obtain ⟨h1, rfl⟩ := List.getElem?_eq_some_iff.1 hv
  obtain ⟨h2, rfl⟩ := List.getElem?_eq_some_iff.1 hz
  exact List.pairwise_iff_getElem.1 h m (m + 1) h1 h2 (by omega)
/-- The chapter's example. -/
def ax : Pr := ⟨⟨#[97]⟩, ⟨#[120]⟩, 0, 1⟩
def ay : Pr := ⟨⟨#[97]⟩, ⟨#[120]⟩, 0, 2⟩
theorem may_x : mayP [ax] = true := by kernel_rfl
theorem may_y : mayP [ay] = true := by kernel_rfl
theorem may_xy : mayP [ax, ay] = true := by kernel_rfl
theorem one_y : oneP ay = true := by kernel_rfl
theorem less_ex : lessP ax ay = true := by kernel_rfl
theorem elems_ex : elemsP [ax, ay] ⟨#[97]⟩ = [⟨#[120]⟩] := by kernel_rfl
theorem del_ex : delP [ax] ⟨#[97]⟩ ⟨#[120]⟩ = [] := by kernel_rfl
theorem add_ex : addP [ax] ay = [ax, ay] := by kernel_rfl
theorem merge_ex : mergeP [ax] [] [ax, ay] = [ay] := by kernel_rfl
end Go.Proofs.Ytcodipgooofppaa.PairX
