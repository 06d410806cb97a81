/- Which texts may be keys: plain facts. No condition. | What a walk is told of a slice of integers that came in, and how a reading gives it. | Bytes as numbers and as strings, and worlds that grow: what needs no slice of bytes. No condition. | Plain facts on lists that rise by a key, and on the order of texts. No condition. -/
import Derived.WalkKit
import Derived.ProofKit
import Derived.OpenShut
import Derived.Test.YtnjdkjkihbgkaaaGreatRows
import Derived.Handy
import Derived.StillTailTactics
import Derived.Laws.AppendOwn
import Derived.Laws.AppendOwnNone
import Derived.Laws.IdiomStrings
import Derived.DataElems
import Derived.Lib.AppendStr
import Derived.OwnWalk
import Derived.Deep.QuietTactic
import Derived.BigQuiet
import Derived.BigRegion
import Derived.IntWalk
namespace Go.Proofs.YtnjdkjkihbgkaaaGreat.OpsM
set_option maxRecDepth 100000

/-- May a byte stand in a key? May a text be one? -/
def signB (x : Int) : Bool := (decide (97 ≤ x) && decide (x ≤ 122)) || (decide (48 ≤ x) && decide (x ≤ 57))
def keyL (l : List Int) : Bool := decide (1 ≤ l.length) && decide (l.length ≤ 8) && l.all signB
theorem keyL_len {l : List Int} (h : keyL l = true) : 1 ≤ l.length ∧ l.length ≤ 8 := by
  unfold keyL at h
  simp only [Bool.and_eq_true, decide_eq_true_eq] at h
  exact h.1
end Go.Proofs.YtnjdkjkihbgkaaaGreat.OpsM
namespace Go.Proofs.YtnjdkjkihbgkaaaGreat.RowIn
set_option maxRecDepth 100000
open Go.ChangeShapes Go.WideShapes Go.ChangeAt Go.RowKit

/-- A slice of integers of kind k that came in: nil, or a row of 'cap' cells that hold the numbers zs, the first 'len' of which are its elements. -/
def RowIn (k : IntKind) (w : World) (a : Option Addr) (len cap : Nat) (zs : List Int) : Prop :=
  len ≤ cap ∧ cap ≤ maxLen ∧ zs.length = cap ∧ (∀ n ∈ zs, (Lit.int k n).wf = true) ∧
  ((a = none ∧ len = 0 ∧ cap = 0) ∨ ∃ x, a = some x ∧ ∀ i, i < zs.length → w.cell? (x.add i) = some (.int k (zs.getD i 0)))

theorem open_row {H : Type} {enc : TypeId × Value → H} {P : Program} {t e : TypeId} {k : IntKind} {W : World} {base : Nat} {v : Value} {d : DataW H} {p : List MemPlace}
    (ht : P.underlying t = some (.slice e)) (he : P.underlying e = some (.int k)) (hc : P.cellsOf e = 1)
    (hval : Value.okWide P W .any base t v) (h : DataW.Trod enc P W 0 (fun _ => true) true t v d p) :
    ∃ a len cap zs, v = .slice a len cap ∧ RowIn k W a len cap zs := by
  obtain ⟨a, len, cap, rfl⟩ := okWide_slice ht hval
  obtain ⟨fuel, hf⟩ := h
  rcases open_ints ht he hc hf with ⟨hcs, _⟩ | ⟨x, l, c, zs, hcs, _, hl, hm, hz, _, hcell, hwz⟩
  · simp [Value.cells] at hcs
    obtain ⟨rfl, rfl, rfl⟩ := hcs
    exact ⟨none, 0, 0, [], rfl, Nat.le_refl _, Nat.zero_le _, rfl, by simp, .inl ⟨rfl, rfl, rfl⟩⟩
  · simp [Value.cells] at hcs
    obtain ⟨rfl, rfl, rfl⟩ := hcs
    exact ⟨_, _, _, zs, rfl, hl, hm, by simpa using hz, hwz, .inr ⟨_, rfl, hcell⟩⟩

theorem block_add (x : Addr) (i : Nat) : (x.add i).block = x.block := by unfold Addr.add; split <;> rfl

theorem RowIn.below {k : IntKind} {w w' : World} {a : Option Addr} {len cap : Nat} {zs : List Int} (h : RowIn k w a len cap zs) (hb : Below w.heap.size w w') : RowIn k w' a len cap zs := by
  obtain ⟨h1, h2, h3, h4, h5⟩ := h
  refine ⟨h1, h2, h3, h4, ?_⟩
  rcases h5 with h5 | ⟨x, rfl, hc⟩
  · exact .inl h5
  · refine .inr ⟨x, rfl, fun i hi => ?_⟩
    have hcell := hc i hi
    exact (hb.cell (block_lt_of_cell hcell)).trans hcell

/-- Where there is an element, the row lies at a plain address. -/
theorem RowIn.plain {k : IntKind} {w : World} {a : Option Addr} {len cap : Nat} {zs : List Int} (h : RowIn k w a len cap zs) (hp : 0 < len) :
    ∃ b off, a = some ⟨b, off, none⟩ ∧ ∀ i, i < cap → w.cell? ⟨b, off + i, none⟩ = some (.int k (zs.getD i 0)) := by
  obtain ⟨h1, h2, h3, h4, h5⟩ := h
  rcases h5 with ⟨_, h0, _⟩ | ⟨x, rfl, hc⟩
  · omega
  · obtain ⟨b, off, rfl, hcell⟩ := ints_at hc (by omega)
    exact ⟨b, off, rfl, fun i hi => hcell i (by omega)⟩
end Go.Proofs.YtnjdkjkihbgkaaaGreat.RowIn
namespace Go.Proofs.YtnjdkjkihbgkaaaGreat.Byt
set_option maxRecDepth 100000
open Go.RowKit

/-- A fact laid aside, so that the walk does not rewrite by it. -/
theorem aside {p : Prop} (h : p) : Hid p := h
/-- A byte. -/
def B (b : Int) : Prop := 0 ≤ b ∧ b ≤ 255
theorem B_of_wf {n : Int} (h : (Lit.int .u8 n).wf = true) : B n := by
  unfold B
  simpa [Lit.wf, IntKind.min, IntKind.max, IntKind.bits, IntKind.signed] using h

/-- Numbers as cells of bytes. -/
def bv (l : List Int) : List Value := l.map (Value.int .u8)
theorem bv_length (l : List Int) : (bv l).length = l.length := by simp [bv]
theorem bv_append (a b : List Int) : bv (a ++ b) = bv a ++ bv b := by simp [bv]
theorem bv_one (l : List Int) : ∀ v ∈ bv l, v.oneCell' = true := by
  intro v hv
  simp only [bv, List.mem_map] at hv
  obtain ⟨n, _, rfl⟩ := hv
  rfl
theorem bv_at (l : List Int) {i : Nat} (h : i < l.length) : (bv l)[i]? = some (.int .u8 (l.getD i 0)) := by
  simp [bv, h]

/-- The string of some bytes, and the bytes of a string. -/
def strOf (l : List Int) : ByteArray := ⟨(l.map fun n => UInt8.ofNat n.toNat).toArray⟩
def bytesL (s : ByteArray) : List Int := s.data.toList.map fun b => (b.toNat : Int)
theorem bytesL_length (s : ByteArray) : (bytesL s).length = s.size := by
  unfold bytesL
  rw [List.length_map, Array.length_toList]
  rfl
theorem bytesL_B (s : ByteArray) : ∀ x ∈ bytesL s, B x := by
  intro x hx
  simp only [bytesL, List.mem_map] at hx
  obtain ⟨b, _, rfl⟩ := hx
  have := b.toNat_lt
  unfold B
  omega
theorem strCells_bv (s : ByteArray) : Lib.strCells s = bv (bytesL s) := by
  simp [Lib.strCells, bv, bytesL]
theorem strOf_bytesL (s : ByteArray) : strOf (bytesL s) = s := by
  unfold strOf bytesL
  have e : (List.map (fun n : Int => UInt8.ofNat n.toNat) (List.map (fun b : UInt8 => (b.toNat : Int)) s.data.toList)) = s.data.toList := by
    rw [List.map_map]
    conv => rhs; rw [← List.map_id s.data.toList]
    apply List.map_congr_left
    intro b _
    simp
  rw [e]
theorem bytesL_strOf {l : List Int} (h : ∀ x ∈ l, B x) : bytesL (strOf l) = l := by
  unfold strOf bytesL
  simp only [List.map_map]
  conv => rhs; rw [← List.map_id l]
  apply List.map_congr_left
  intro x hx
  have := h x hx
  unfold B at this
  simp
  omega
theorem bytesL_inj {s t : ByteArray} (h : bytesL s = bytesL t) : s = t := by rw [← strOf_bytesL s, ← strOf_bytesL t, h]
theorem strOf_inj {a b : List Int} (ha : ∀ x ∈ a, B x) (hb : ∀ x ∈ b, B x) (h : strOf a = strOf b) : a = b := by
  rw [← bytesL_strOf ha, ← bytesL_strOf hb, h]
theorem toList_inj {s t : ByteArray} : s.toList = t.toList ↔ s = t := by
  rw [ByteArray.toList_eq, ByteArray.toList_eq]
  constructor
  · intro h
    cases s; cases t
    congr 1
    exact Array.ext' h
  · intro h; rw [h]
/-- Strings are compared as the lists of their bytes. -/
theorem str_beq (s t : ByteArray) : (s.toList == t.toList) = decide (bytesL s = bytesL t) := by
  rw [Bool.eq_iff_iff, beq_iff_eq, decide_eq_true_eq, toList_inj]
  exact ⟨fun h => by rw [h], bytesL_inj⟩
theorem strOf_beq {a b : List Int} (ha : ∀ x ∈ a, B x) (hb : ∀ x ∈ b, B x) : ((strOf a).toList == (strOf b).toList) = decide (a = b) := by
  rw [str_beq, bytesL_strOf ha, bytesL_strOf hb]
theorem strOf_bne {a b : List Int} (ha : ∀ x ∈ a, B x) (hb : ∀ x ∈ b, B x) : ((strOf a).toList != (strOf b).toList) = !decide (a = b) := by
  rw [bne, strOf_beq ha hb]
theorem below_drewN (w : World) (n : Nat) : Below w.heap.size w (w.drewN n) := ⟨rfl, rfl, rfl, Nat.le_refl _, fun _ _ => rfl⟩
theorem grown_of_below {w w' : World} (hb : Below w.heap.size w w') (row : Option Nat) : w.grownBy w' row := ⟨hb.os, hb.tape, hb.output, hb.size, fun i hi _ => hb.block i hi⟩
theorem owns_below {w w' : World} {base : Nat} {e : TypeId} {size : Nat} {v : Value} {n : Nat} {xs : List Value} (h : w.ownsRow base e size v n xs) (hb : Below w.heap.size w w') : w'.ownsRow base e size v n xs :=
  h.kept (grown_of_below hb none) (by cases hv : v.ownBlock <;> simp)
theorem below_grown {B : Nat} {w0 w w' : World} {row : Option Nat} (hb : Below B w0 w) (hB : B ≤ w.heap.size) (hg : w.grownBy w' row) (hr : ∀ k, row = some k → B ≤ k) : Below B w0 w' :=
  hb.trans ⟨hg.os, hg.tape, hg.output, hg.size, fun k hk => hg.block k (by omega) (fun e => by have := hr k e.symm; omega)⟩
theorem below_drew {k : Nat} {w w' : World} (h : Below k w w') (n : Nat) : Below k w (w'.drewN n) := ⟨h.os, h.tape, h.output, h.size, h.block⟩
theorem below_drew1 {k : Nat} {w w' : World} (h : Below k w w') : Below k w w'.drew := ⟨h.os, h.tape, h.output, h.size, h.block⟩
theorem owns_less {w : World} {base base' : Nat} {e : TypeId} {size : Nat} {v : Value} {n : Nat} {xs : List Value} (h : w.ownsRow base e size v n xs) (hb : base' ≤ base) : w.ownsRow base' e size v n xs := by
  refine ⟨h.1, h.2.imp id ?_⟩
  rintro ⟨g, cap, cur, h1, h2, h3⟩
  exact ⟨g, cap, cur, h1, Nat.le_trans hb h2, h3⟩
end Go.Proofs.YtnjdkjkihbgkaaaGreat.Byt
namespace Go.Proofs.YtnjdkjkihbgkaaaGreat.Rise
set_option maxRecDepth 100000
open Go

/-- An order in which of two that differ just one comes first. -/
structure Strict {κ : Type} (lt : κ → κ → Bool) : Prop where
  irrefl : ∀ a, lt a a = false
  trans : ∀ a b c, lt a b = true → lt b c = true → lt a c = true
  tri : ∀ a b, lt a b = false → lt b a = false → a = b
theorem Strict.asymm {κ : Type} {lt : κ → κ → Bool} (H : Strict lt) {a b : κ} (h : lt a b = true) : lt b a = false := by
  cases hb : lt b a with
  | false => rfl
  | true =>
    have := H.trans a b a h hb
    rw [H.irrefl] at this
    cases this
theorem Strict.ne {κ : Type} {lt : κ → κ → Bool} (H : Strict lt) {a b : κ} (h : lt a b = true) : a ≠ b := by
  rintro rfl
  rw [H.irrefl] at h
  cases h

/-- Texts, byte by byte. -/
theorem less_irrefl : ∀ l : List UInt8, Op.bytesLess l l = false
  | [] => rfl
  | a :: l => by simp [Op.bytesLess, less_irrefl l]
theorem less_trans : ∀ a b c : List UInt8, Op.bytesLess a b = true → Op.bytesLess b c = true → Op.bytesLess a c = true
  | _, [], c, h, _ => by cases ‹List UInt8› <;> simp [Op.bytesLess] at h
  | _, _ :: _, [], _, h => by simp [Op.bytesLess] at h
  | [], _ :: _, _ :: _, _, _ => rfl
  | x :: a, y :: b, z :: c, h, h2 => by
    simp only [Op.bytesLess, Bool.or_eq_true, Bool.and_eq_true, decide_eq_true_eq, beq_iff_eq] at h h2 ⊢
    rcases h with h | ⟨rfl, h⟩
    · rcases h2 with h2 | ⟨rfl, _⟩
      · exact .inl (UInt8.lt_trans h h2)
      · exact .inl h
    · rcases h2 with h2 | ⟨rfl, h2⟩
      · exact .inl h2
      · exact .inr ⟨rfl, less_trans a b c h h2⟩
theorem less_tri : ∀ a b : List UInt8, Op.bytesLess a b = false → Op.bytesLess b a = false → a = b
  | [], [], _, _ => rfl
  | [], _ :: _, h, _ => by simp [Op.bytesLess] at h
  | _ :: _, [], _, h => by simp [Op.bytesLess] at h
  | x :: a, y :: b, h, h2 => by
    simp only [Op.bytesLess, Bool.or_eq_false_iff, Bool.and_eq_false_iff, decide_eq_false_iff_not, beq_eq_false_iff_ne] at h h2
    obtain ⟨h1, h3⟩ := h
    obtain ⟨h4, h5⟩ := h2
    have e : x = y := by
      rw [UInt8.lt_iff_toNat_lt] at h1 h4
      apply UInt8.toNat_inj.1
      omega
    subst e
    simp only [ne_eq, not_true_eq_false, false_or] at h3 h5
    rw [less_tri a b h3 h5]
def ltS (a b : ByteArray) : Bool := Op.bytesLess a.toList b.toList
theorem toList_inj {a b : ByteArray} (h : a.toList = b.toList) : a = b := by
  rw [ByteArray.toList_eq, ByteArray.toList_eq] at h
  cases a; cases b
  congr 1
  exact Array.ext' h
theorem strictS : Strict ltS :=
  ⟨fun _ => less_irrefl _, fun _ _ _ => less_trans _ _ _, fun _ _ h1 h2 => toList_inj (less_tri _ _ h1 h2)⟩

section
variable {α κ : Type} (f : α → κ) (lt : κ → κ → Bool)
/-- Does a list rise? -/
def Rises (l : List α) : Prop := l.Pairwise fun x y => lt (f x) (f y) = true
def risesB : List α → Bool
  | [] => true
  | [_] => true
  | x :: y :: r => lt (f x) (f y) && risesB (y :: r)
variable {f lt}
theorem risesB_iff (H : Strict lt) : ∀ l : List α, risesB f lt l = true ↔ Rises f lt l
  | [] => by simp [risesB, Rises]
  | [x] => by simp [risesB, Rises]
  | x :: y :: r => by
    have ih := risesB_iff H (y :: r)
    simp only [risesB, Bool.and_eq_true, ih]
    unfold Rises
    constructor
    · rintro ⟨h1, h2⟩
      refine List.pairwise_cons.2 ⟨fun z hz => ?_, h2⟩
      rcases List.mem_cons.1 hz with rfl | hz
      · exact h1
      · exact H.trans _ _ _ h1 ((List.pairwise_cons.1 h2).1 z hz)
    · intro h
      obtain ⟨h1, h2⟩ := List.pairwise_cons.1 h
      exact ⟨h1 y (by simp), h2⟩
theorem risesB_snoc : ∀ (l : List α) (x : α), risesB f lt (l ++ [x]) = (risesB f lt l && (match l.getLast? with | none => true | some y => lt (f y) (f x)))
  | [], x => by simp [risesB]
  | [y], x => by simp [risesB]
  | y :: z :: r, x => by
    have ih := risesB_snoc (z :: r) x
    simp only [List.cons_append] at ih ⊢
    simp only [risesB, ih, List.getLast?_cons_cons, Bool.and_assoc]
theorem risesB_take {l : List α} {k : Nat} (h : k + 1 < l.length) : risesB f lt (l.take (k + 2)) = (risesB f lt (l.take (k + 1)) && lt (f (l[k]'(by omega))) (f l[k + 1])) := by
  rw [List.take_succ_eq_append_getElem (by omega), risesB_snoc]
  have e : (l.take (k + 1)).getLast? = some (l[k]'(by omega)) := by
    rw [List.take_succ_eq_append_getElem (by omega), List.getLast?_append]
    rfl
  rw [e]
theorem risesB_not {l : List α} {k : Nat} (h : k + 1 < l.length) (hn : lt (f (l[k]'(by omega))) (f l[k + 1]) = false) : risesB f lt l = false := by
  induction l generalizing k with
  | nil => simp at h
  | cons x r ih =>
    cases r with
    | nil => simp at h
    | cons y r =>
      cases k with
      | zero =>
        simp only [List.getElem_cons_zero, List.getElem_cons_succ] at hn
        simp [risesB, hn]
      | succ k =>
        simp only [List.getElem_cons_succ] at hn
        have := ih (k := k) (by simpa using h) (by simpa using hn)
        simp [risesB, this]
/-- Two that rise, and have the same elements, are the same. -/
theorem Rises.ext (H : Strict lt) : ∀ {l m : List α}, Rises f lt l → Rises f lt m → (∀ x, x ∈ l ↔ x ∈ m) → l = m
  | [], [], _, _, _ => rfl
  | [], y :: m, _, _, h => by have := (h y).2 (by simp); simp at this
  | x :: l, [], _, _, h => by have := (h x).1 (by simp); simp at this
  | x :: l, y :: m, hl, hm, h => by
    obtain ⟨l1, l2⟩ := List.pairwise_cons.1 hl
    obtain ⟨m1, m2⟩ := List.pairwise_cons.1 hm
    have e : x = y := by
      rcases List.mem_cons.1 ((h x).1 (by simp)) with hx | hx
      · exact hx
      · rcases List.mem_cons.1 ((h y).2 (by simp)) with hy | hy
        · exact hy.symm
        · have a1 := m1 x hx
          have a2 := l1 y hy
          rw [H.asymm a1] at a2
          cases a2
    subst e
    have : l = m := Rises.ext H l2 m2 (fun z => by
      constructor
      · intro hz
        rcases List.mem_cons.1 ((h z).1 (by simp [hz])) with rfl | hz'
        · have := l1 z hz
          rw [H.irrefl] at this
          cases this
        · exact hz'
      · intro hz
        rcases List.mem_cons.1 ((h z).2 (by simp [hz])) with rfl | hz'
        · have := m1 z hz
          rw [H.irrefl] at this
          cases this
        · exact hz')
    rw [this]
theorem Rises.filter {l : List α} (h : Rises f lt l) (p : α → Bool) : Rises f lt (l.filter p) := List.Pairwise.filter p h
/-- Of one key there is one at most. -/
theorem Rises.one (H : Strict lt) {l : List α} (h : Rises f lt l) {x y : α} (hx : x ∈ l) (hy : y ∈ l) (e : f x = f y) : x = y := by
  induction l with
  | nil => simp at hx
  | cons z l ih =>
    obtain ⟨h1, h2⟩ := List.pairwise_cons.1 h
    rcases List.mem_cons.1 hx with rfl | hx'
    · rcases List.mem_cons.1 hy with rfl | hy'
      · rfl
      · have := h1 y hy'
        rw [e, H.irrefl] at this
        cases this
    · rcases List.mem_cons.1 hy with rfl | hy'
      · have := h1 x hx'
        rw [e, H.irrefl] at this
        cases this
      · exact ih h2 hx' hy'
end
end Go.Proofs.YtnjdkjkihbgkaaaGreat.Rise
