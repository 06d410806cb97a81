/- Plain facts on commits that know one another: what is closed, what is known, sorted lists. No condition. | Plain facts on commits that wait: with one more, the first one that is ready, and what is missing. No condition. | Plain facts on words of 32 bits: a Go uint32 is the number of a bit vector, and the model's bit operations are the bit vector's own. No condition. | Plain facts on words of 32 bits gone round, picked, and put together by most. No condition. -/
import Derived.Test.YteojkfbnenfmkaaGreatDoorIdMJ3
import Derived.WalkKit
import Derived.ProofKit
namespace Go.Proofs.YteojkfbnenfmkaaGreatDoor.DgM
set_option maxRecDepth 100000
open IdM CmM
open Classical

section
variable {H : Com → Idn}

/-- One has the other as a parent; one knows the other. -/
def Par (H : Com → Idn) (l : List Com) (a b : Idn) : Prop := ∃ c ∈ l, H c = a ∧ b ∈ c.ps
inductive Kn (H : Com → Idn) (l : List Com) : Idn → Idn → Prop
  | one {a b : Idn} : Par H l a b → Kn H l a b
  | more {a b c : Idn} : Par H l a b → Kn H l b c → Kn H l a c
theorem Kn.trans {l : List Com} {a b c : Idn} (h : Kn H l a b) (k : Kn H l b c) : Kn H l a c := by
  induction h with
  | one h => exact .more h k
  | more h _ ih => exact .more h (ih k)
/-- What some know, and they. -/
def Below (H : Com → Idn) (l : List Com) (a : List Idn) (x : Idn) : Prop := x ∈ l.map H ∧ (x ∈ a ∨ ∃ y ∈ a, Kn H l y x)
end
end Go.Proofs.YteojkfbnenfmkaaGreatDoor.DgM
namespace Go.Proofs.YteojkfbnenfmkaaGreatDoor.WtM
set_option maxRecDepth 100000
open IdM CmM DgM
open Classical

section
variable (H : Com → Idn)
/-- May a commit wait? -/
def waitB (c : Com) : Bool := mayK c && !isM c
/-- Commits that wait, with one more. -/
noncomputable def putW (l : List Com) (c : Com) : List Com := if waitB c = true ∧ c ∉ l then (l ++ [c]).drop (l.length + 1 - 8) else l
/-- Is all there that a commit knows? -/
def freeB (h : List Idn) (c : Com) : Bool := decide (∀ a ∈ c.ps, a ∈ h)
/-- Where the first one stands that is ready; that one; the others. -/
def readyI (l : List Com) (h : List Idn) : Option Nat := l.findIdx? (freeB h)
def readyC (l : List Com) (h : List Idn) : Com := match readyI l h with
  | some i => l.getD i noK
  | none => noK
def readyR (l : List Com) (h : List Idn) : List Com := match readyI l h with
  | some i => l.take i ++ l.drop (i + 1)
  | none => l
/-- What is missing. -/
def knownW (l : List Com) (h : List Idn) : List Idn := h ++ (l.filter fun c => mayK c).map H
def missW (l : List Com) (h : List Idn) : List Idn := without (l.flatMap (·.ps)) (knownW H l h)
end
theorem without_nil_iff (a b : List Idn) : without a b = [] ↔ ∀ x ∈ a, x ∈ b := by
  constructor
  · intro h x hx
    refine Classical.byContradiction fun hn => ?_
    have := (mem_without x a b).2 ⟨hx, hn⟩
    rw [h] at this
    cases this
  · intro h
    refine List.eq_nil_iff_forall_not_mem.2 fun x hx => ?_
    obtain ⟨h1, h2⟩ := (mem_without x a b).1 hx
    exact h2 (h x h1)
theorem freeB_iff {h : List Idn} {c : Com} : freeB h c = true ↔ without c.ps h = [] := by
  unfold freeB
  rw [decide_eq_true_eq, without_nil_iff]
theorem readyI_some {l : List Com} {h : List Idn} {i : Nat} (e : readyI l h = some i) : ∃ c, l[i]? = some c ∧ freeB h c = true ∧ (∀ j d, j < i → l[j]? = some d → freeB h d = false) ∧ readyC l h = c ∧ readyR l h = l.take i ++ l.drop (i + 1) := by
  have e' := e
  unfold readyI at e
  rw [List.findIdx?_eq_some_iff_getElem] at e
  obtain ⟨h1, h2, h3⟩ := e
  refine ⟨l[i], List.getElem?_eq_getElem h1, h2, fun j d hj hd => ?_, ?_, ?_⟩
  · obtain ⟨hl, rfl⟩ := List.getElem?_eq_some_iff.1 hd
    have := h3 j hj
    simpa using this
  · unfold readyC
    rw [e']
    simp [List.getD_eq_getElem?_getD, List.getElem?_eq_getElem h1]
  · unfold readyR
    rw [e']
theorem readyI_of {l : List Com} {h : List Idn} {i : Nat} {c : Com} (hi : l[i]? = some c) (hf : freeB h c = true) (hb : ∀ j d, j < i → l[j]? = some d → freeB h d = false) : readyI l h = some i := by
  unfold readyI
  rw [List.findIdx?_eq_some_iff_getElem]
  obtain ⟨h1, rfl⟩ := List.getElem?_eq_some_iff.1 hi
  refine ⟨h1, hf, fun j hj => ?_⟩
  have := hb j _ hj (List.getElem?_eq_getElem (by omega))
  simpa using this
theorem readyI_none {l : List Com} {h : List Idn} (e : readyI l h = none) : (∀ c ∈ l, freeB h c = false) ∧ readyC l h = noK ∧ readyR l h = l := by
  have e' := e
  unfold readyI at e
  rw [List.findIdx?_eq_none_iff] at e
  refine ⟨fun c hc => by simpa using e c hc, ?_, ?_⟩
  · unfold readyC
    rw [e']
  · unfold readyR
    rw [e']
theorem readyI_no {l : List Com} {h : List Idn} (e : ∀ c ∈ l, freeB h c = false) : readyI l h = none := by
  unfold readyI
  rw [List.findIdx?_eq_none_iff]
  exact fun c hc => by simpa using e c hc
theorem putW_no {l : List Com} {c : Com} (h : waitB c = false ∨ c ∈ l) : putW l c = l := by
  unfold putW
  rw [if_neg]
  rintro ⟨h1, h2⟩
  rcases h with h | h
  · rw [h] at h1; cases h1
  · exact h2 h
theorem putW_yes {l : List Com} {c : Com} (h : waitB c = true) (hn : c ∉ l) : putW l c = (l ++ [c]).drop (l.length + 1 - 8) := by
  unfold putW
  rw [if_pos ⟨h, hn⟩]
theorem mem_missW {H : Com → Idn} {l : List Com} {h : List Idn} {a : Idn} : a ∈ missW H l h ↔ (∃ c ∈ l, a ∈ c.ps) ∧ a ∉ h ∧ ¬ ∃ c ∈ l, mayK c = true ∧ H c = a := by
  unfold missW knownW
  rw [mem_without, List.mem_flatMap, List.mem_append, not_or, List.mem_map]
  refine and_congr Iff.rfl (and_congr Iff.rfl (not_congr ⟨?_, ?_⟩))
  · rintro ⟨c, hc, rfl⟩
    obtain ⟨h1, h2⟩ := List.mem_filter.1 hc
    exact ⟨c, h1, h2, rfl⟩
  · rintro ⟨c, h1, h2, rfl⟩
    exact ⟨c, List.mem_filter.2 ⟨h1, h2⟩, rfl⟩
theorem rising_missW (H : Com → Idn) (l : List Com) (h : List Idn) : Rising (missW H l h) := rising_without _ _
end Go.Proofs.YteojkfbnenfmkaaGreatDoor.WtM
namespace Go.Proofs.YteojkfbnenfmkaaGreatDoor.RotM
set_option maxRecDepth 100000
open Go.RowKit

/-- The number of a word of 32 bits. -/
def u (x : BitVec 32) : Int := (x.toNat : Int)

theorem u_range (x : BitVec 32) : 0 ≤ u x ∧ u x ≤ 4294967295 := by
  have := x.isLt
  unfold u; omega


theorem u_of {a : Int} (h : (Lit.int .u32 a).wf = true) : ∃ x : BitVec 32, a = u x := by
  have hr : 0 ≤ a ∧ a ≤ 4294967295 := by simpa [Lit.wf, IntKind.min, IntKind.max, IntKind.bits, IntKind.signed] using h
  refine ⟨BitVec.ofNat 32 a.toNat, ?_⟩
  unfold u
  rw [BitVec.toNat_ofNat]
  omega



theorem ofInt_u (x : BitVec 32) : BitVec.ofInt 32 (u x) = x := by
  unfold u
  rw [BitVec.ofInt_natCast]
  simp

theorem wrap_u (x : BitVec 32) : IntKind.u32.wrap (u x) = u x := by
  rw [IntKind.wrap_u32]
  have := u_range x
  omega

theorem bits_or (x y : BitVec 32) : bits .or .u32 (u x) (u y) = u (x ||| y) := by
  show IntKind.u32.wrap (u (BitVec.ofInt 32 (u x) ||| BitVec.ofInt 32 (u y))) = _
  rw [ofInt_u, ofInt_u, wrap_u]
theorem bits_and (x y : BitVec 32) : bits .and .u32 (u x) (u y) = u (x &&& y) := by
  show IntKind.u32.wrap (u (BitVec.ofInt 32 (u x) &&& BitVec.ofInt 32 (u y))) = _
  rw [ofInt_u, ofInt_u, wrap_u]
theorem bits_xor (x y : BitVec 32) : bits .xor .u32 (u x) (u y) = u (x ^^^ y) := by
  show IntKind.u32.wrap (u (BitVec.ofInt 32 (u x) ^^^ BitVec.ofInt 32 (u y))) = _
  rw [ofInt_u, ofInt_u, wrap_u]
theorem max_u : IntKind.u32.max = u (BitVec.allOnes 32) := by decide
theorem bits_not (x : BitVec 32) : bits .xor .u32 IntKind.u32.max (u x) = u (~~~x) := by
  rw [max_u, bits_xor, BitVec.allOnes_xor]

/-- Go's x>>k and x<<k of a word. -/
theorem shr_u (x : BitVec 32) (k : Nat) : u x / 2 ^ k = u (x >>> k) := by
  unfold u
  rw [BitVec.toNat_ushiftRight, Nat.shiftRight_eq_div_pow]
  simp
theorem shl_u (x : BitVec 32) (k : Nat) : u x * 2 ^ k % 4294967296 = u (x <<< k) := by
  unfold u
  rw [BitVec.toNat_shiftLeft, Nat.shiftLeft_eq, Int.natCast_emod, Int.natCast_mul, Int.natCast_pow]
  rfl

/-- A word gone round to the right by k. -/
def rotr (x : BitVec 32) (k : Nat) : BitVec 32 := x >>> k ||| x <<< (32 - k)
/-- Bits of two words, taken by a third one. -/
def pickW (p a b : BitVec 32) : BitVec 32 := p &&& a ||| ~~~p &&& b
/-- The bits that two of three have. -/
def mostW (a b c : BitVec 32) : BitVec 32 := a &&& b ||| a &&& c ||| b &&& c

theorem and31 (n : Int) : bits .and .u32 (n % 4294967296) 31 = n % 32 := by
  have h0 : 0 ≤ n % 4294967296 := Int.emod_nonneg _ (by decide)
  have h1 : n % 4294967296 < 4294967296 := Int.emod_lt_of_pos _ (by decide)
  have := bits_mask .u32 32 (by decide) (fun m a b => by rw [IntKind.wrap_u32]; omega) 5 (by decide) (n % 4294967296) h0 (by simpa using h1)
  have h31 : ((2 : Int) ^ 5 - 1) = 31 := by decide
  have h32 : ((2 : Int) ^ 5) = 32 := by decide
  rw [h31, h32] at this
  rw [this]
  omega

/-- b - (p & b) is what b has beside p. -/
theorem sub_and (p b : BitVec 32) : u b - u (p &&& b) = u (~~~p &&& b) := by
  have hx : (p &&& b) + (~~~p &&& b) = b := by
    rw [BitVec.add_eq_or_of_and_eq_zero]
    · ext i; simp only [BitVec.getElem_or, BitVec.getElem_and, BitVec.getElem_not]; cases p[i] <;> simp
    · ext i; simp only [BitVec.getElem_and, BitVec.getElem_not]; cases p[i] <;> simp
  have hn := congrArg BitVec.toNat hx
  rw [BitVec.toNat_add] at hn
  have h1 : (p &&& b).toNat ≤ b.toNat := by rw [BitVec.toNat_and]; exact Nat.and_le_right
  have h2 : (~~~p &&& b).toNat ≤ b.toNat := by rw [BitVec.toNat_and]; exact Nat.and_le_right
  have hb := b.isLt
  unfold u
  by_cases hc : (p &&& b).toNat + (~~~p &&& b).toNat < 2 ^ 32
  · rw [Nat.mod_eq_of_lt hc] at hn; omega
  · exfalso
    have : ((p &&& b).toNat + (~~~p &&& b).toNat) % 2 ^ 32 = (p &&& b).toNat + (~~~p &&& b).toNat - 2 ^ 32 := by
      rw [Nat.mod_eq_sub_mod (by omega), Nat.mod_eq_of_lt (by omega)]
    rw [this] at hn
    omega


theorem join_u (i : Nat) (x y : Int) (m : Int) (hm : (2 : Int) ^ i = m) (hx0 : 0 ≤ x) (hx : x % m = 0) (hx1 : x < 4294967296) (hy0 : 0 ≤ y) (hy : y < m) (hy1 : y < 4294967296) : bits .or .u32 x y = x + y :=
  bits_join .u32 32 (by decide) (fun n a b => by rw [IntKind.wrap_u32]; omega) i x y hx0 (by rw [hm]; exact hx) (by simpa using hx1) hy0 (by rw [hm]; exact hy) (by simpa using hy1)

/-- Four bytes, each in its place, are one number. -/
theorem or_four (b0 b1 b2 b3 : Int) (r0 : 0 ≤ b0 ∧ b0 ≤ 255) (r1 : 0 ≤ b1 ∧ b1 ≤ 255) (r2 : 0 ≤ b2 ∧ b2 ≤ 255) (r3 : 0 ≤ b3 ∧ b3 ≤ 255) :
    bits .or .u32 (bits .or .u32 (bits .or .u32 (b0 * 16777216) (b1 * 65536)) (b2 * 256)) b3 = 16777216 * b0 + 65536 * b1 + 256 * b2 + b3 := by
  rw [join_u 24 (b0 * 16777216) (b1 * 65536) 16777216 (by decide) (by omega) (by omega) (by omega) (by omega) (by omega) (by omega)]
  rw [join_u 16 _ (b2 * 256) 65536 (by decide) (by omega) (by omega) (by omega) (by omega) (by omega) (by omega)]
  rw [join_u 8 _ b3 256 (by decide) (by omega) (by omega) (by omega) (by omega) (by omega) (by omega)]
  omega
end Go.Proofs.YteojkfbnenfmkaaGreatDoor.RotM
namespace Go.Proofs.YteojkfbnenfmkaaGreatDoor.RotN
set_option maxRecDepth 100000
open RotM





end Go.Proofs.YteojkfbnenfmkaaGreatDoor.RotN
