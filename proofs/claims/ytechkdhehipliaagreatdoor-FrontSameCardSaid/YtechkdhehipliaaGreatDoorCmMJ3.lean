/- Plain facts on commits: which may be, what they are in bytes, and the one that bytes begin with. No condition. | Plain laws of the model that the walks need: two arrays of integers are the same just if each number is; a slice of four cells as an array's address. | Ids, and lists of ids, in memory: what a walk reads, makes and appends to. No condition. -/
import Derived.Test.YtechkdhehipliaaGreatDoorEncEJ6
import Derived.WalkKit
import Derived.ChangeKeysEq
import Derived.Test.YtechkdhehipliaaGreatDoorRowInJ3
import Derived.Test.YtechkdhehipliaaGreatDoorEncMJ7
import Derived.Deep.MidRow
import Derived.Deep.WholeRow
import Derived.Laws.MakeOwn
import Derived.Laws.Tables
import Derived.OpenShut
import Derived.Lib.AppendIntMem
namespace Go.Proofs.YtechkdhehipliaaGreatDoor.CmM
set_option maxRecDepth 100000
open Byt EncM EncC EncE EncT OpsM IdM

/-- A commit. -/
structure Com where
  node : Int
  seq : Int
  gen : Int
  ps : List Idn
  op : Opn
theorem Opn_ext {x y : Opn} (h1 : x.kind = y.kind) (h2 : x.key = y.key) (h3 : x.elem = y.elem) (h4 : x.n = y.n) : x = y := by
  cases x; cases y
  simp_all
theorem Com_ext {x y : Com} (h1 : x.node = y.node) (h2 : x.seq = y.seq) (h3 : x.gen = y.gen) (h4 : x.ps = y.ps) (h5 : x.op = y.op) : x = y := by
  cases x; cases y
  simp_all
def noO : Opn := ⟨0, ⟨#[]⟩, ⟨#[]⟩, 0⟩
def noK : Com := ⟨0, 0, 0, [], noO⟩
/-- An operation of noughts. -/
def noughtO (o : Opn) : Bool := decide (o.kind = 0) && (decide (bytesL o.key = []) && (decide (bytesL o.elem = []) && decide (o.n = 0)))
theorem noughtO_iff {o : Opn} : noughtO o = true ↔ o = noO := by
  unfold noughtO noO
  simp only [Bool.and_eq_true, decide_eq_true_eq]
  constructor
  · rintro ⟨h1, h2, h3, h4⟩
    exact Opn_ext h1 (empty_of h2) (empty_of h3) h4
  · rintro rfl
    exact ⟨rfl, rfl, rfl, rfl⟩
/-- What a merge has: no event, no operation, two parents at least. -/
def mergeB (c : Com) : Bool := decide (c.node = -1) && (decide (c.seq = 0) && (noughtO c.op && decide (2 ≤ c.ps.length)))
theorem mergeB_iff {c : Com} : mergeB c = true ↔ c.node = -1 ∧ c.seq = 0 ∧ c.op = noO ∧ 2 ≤ c.ps.length := by
  unfold mergeB
  simp only [Bool.and_eq_true, decide_eq_true_eq, noughtO_iff]
/-- A generation, and parents, that may be. -/
def lineB (c : Com) : Bool := decide (1 ≤ c.gen) && (decide (c.gen ≤ 1048576) && (decide (c.ps.length ≤ 8) && (risesB c.ps && (decide (c.gen = 1) == decide (c.ps.length = 0)))))
theorem lineB_iff {c : Com} : lineB c = true ↔ 1 ≤ c.gen ∧ c.gen ≤ 1048576 ∧ c.ps.length ≤ 8 ∧ risesB c.ps = true ∧ (c.gen = 1 ↔ c.ps.length = 0) := by
  unfold lineB
  simp only [Bool.and_eq_true, decide_eq_true_eq, beq_iff_eq, decide_eq_decide]
def mayK (c : Com) : Bool := lineB c && (mergeB c || (StM.eventB c.node c.seq && mayO c.op))
theorem mayK_iff {c : Com} : mayK c = true ↔ lineB c = true ∧ (mergeB c = true ∨ StM.eventB c.node c.seq = true ∧ mayO c.op = true) := by
  unfold mayK
  simp only [Bool.and_eq_true, Bool.or_eq_true]
def isM (c : Com) : Bool := mayK c && decide (c.node = -1)
theorem isM_iff {c : Com} : isM c = true ↔ lineB c = true ∧ mergeB c = true := by
  unfold isM
  rw [Bool.and_eq_true, mayK_iff, decide_eq_true_eq]
  constructor
  · rintro ⟨⟨h1, h2 | ⟨h2, _⟩⟩, h3⟩
    · exact ⟨h1, h2⟩
    · have := StM.eventB_iff.1 h2; omega
  · rintro ⟨h1, h2⟩
    exact ⟨⟨h1, .inl h2⟩, (mergeB_iff.1 h2).1⟩
theorem node_may {c : Com} (h : mayK c = true) : -1 ≤ c.node ∧ c.node < 8 := by
  rcases (mayK_iff.1 h).2 with h1 | ⟨h1, _⟩
  · have := (mergeB_iff.1 h1).1; omega
  · have := (StM.eventB_iff.1 h1).1; omega
theorem seq_may {c : Com} (h : mayK c = true) : 0 ≤ c.seq ∧ c.seq ≤ 1048576 := by
  rcases (mayK_iff.1 h).2 with h1 | ⟨h1, _⟩
  · have := (mergeB_iff.1 h1).2.1; omega
  · have := (StM.eventB_iff.1 h1).2; omega
theorem op_may {c : Com} (h : mayK c = true) (hn : c.node ≠ -1) : mayO c.op = true := by
  rcases (mayK_iff.1 h).2 with h1 | ⟨_, h1⟩
  · exact absurd (mergeB_iff.1 h1).1 hn
  · exact h1
theorem merge_may {c : Com} (h : mayK c = true) (hn : c.node = -1) : mergeB c = true := by
  rcases (mayK_iff.1 h).2 with h1 | ⟨h1, _⟩
  · exact h1
  · have := (StM.eventB_iff.1 h1).1; omega
/-- A commit in bytes. -/
def flatL (ps : List Idn) : List Int := ps.flatMap (·.val)
theorem flatL_cons (x : Idn) (l : List Idn) : flatL (x :: l) = x.val ++ flatL l := by simp [flatL]
theorem flatL_append (a b : List Idn) : flatL (a ++ b) = flatL a ++ flatL b := by simp [flatL]
theorem flatL_len : ∀ l : List Idn, (flatL l).length = 32 * l.length
  | [] => rfl
  | x :: l => by
    rw [flatL_cons, List.length_append, flatL_len l, Idn_len, List.length_cons]
    omega
theorem flatL_B (l : List Idn) : ∀ x ∈ flatL l, B x := by
  intro x hx
  unfold flatL at hx
  rw [List.mem_flatMap] at hx
  obtain ⟨y, _, hy⟩ := hx
  exact y.ok.2 x hy
def headL (c : Com) : List Int := numL (foldI c.node).toNat ++ (numL c.seq.toNat ++ (numL c.gen.toNat ++ numL c.ps.length))
def opL (c : Com) : List Int := if c.node = -1 then [] else putL c.op
def putK (c : Com) : List Int := headL c ++ (flatL c.ps ++ opL c)
def putsK (c : Com) : Option (List Int) := if mayK c = true then some (putK c) else none
/-- So many ids that bytes begin with. -/
def idsL : Nat → List Int → Option (List Idn × List Int)
  | 0, bs => some ([], bs)
  | n + 1, bs => if h : 32 ≤ bs.length ∧ ∀ x ∈ bs.take 32, 0 ≤ x ∧ x ≤ 255 then
      match idsL n (bs.drop 32) with
      | none => none
      | some (l, r) => some (⟨bs.take 32, by rw [List.length_take]; omega, h.2⟩ :: l, r)
    else none
/-- A number of 64 bits as a signed one. -/
def asI (n : Nat) : Int := if n < 9223372036854775808 then (n : Int) else (n : Int) - 18446744073709551616
def opG (node : Int) (bs : List Int) : Option (Opn × List Int) := if node = -1 then some (noO, bs) else getO bs
def keepK (p : Com × List Int) : Option (Com × List Int) := if mayK p.1 = true then some p else none
/-- Four numbers that bytes begin with. -/
def nums : Nat → List Int → Option (List Nat × List Int)
  | 0, bs => some ([], bs)
  | k + 1, bs => if (getL bs).2 = 0 then none else
      match nums k (bs.drop (getL bs).2) with
      | none => none
      | some (l, r) => some ((getL bs).1 :: l, r)
def tailK (a b g n : Nat) (bs : List Int) : Option (Com × List Int) :=
  match idsL n bs with
  | none => none
  | some (ps, r) => match opG (unfoldI a) r with
    | none => none
    | some (o, r2) => keepK (⟨unfoldI a, asI b, asI g, ps, o⟩, r2)
def getK (bs : List Int) : Option (Com × List Int) :=
  match nums 4 bs with
  | some ([a, b, g, n], r) => tailK a b g n r
  | _ => none

theorem idsL_put : ∀ (l : List Idn) (r : List Int), idsL l.length (flatL l ++ r) = some (l, r)
  | [], r => by simp [idsL, flatL]
  | x :: l, r => by
    have hx := Idn_len x
    have e1 : (flatL (x :: l) ++ r).take 32 = x.val := by rw [flatL_cons, List.append_assoc, ← hx, List.take_left]
    have e2 : (flatL (x :: l) ++ r).drop 32 = flatL l ++ r := by rw [flatL_cons, List.append_assoc, ← hx, List.drop_left]
    have hc : 32 ≤ (flatL (x :: l) ++ r).length ∧ ∀ y ∈ (flatL (x :: l) ++ r).take 32, 0 ≤ y ∧ y ≤ 255 := by
      rw [e1]
      exact ⟨by rw [List.length_append, flatL_len, List.length_cons]; omega, x.ok.2⟩
    rw [List.length_cons, idsL, dif_pos hc]
    simp only [e2, idsL_put l r, Option.some.injEq, Prod.mk.injEq, List.cons.injEq, and_true]
    exact Idn_ext e1
theorem idsL_back : ∀ (n : Nat) {bs r : List Int} {l : List Idn}, idsL n bs = some (l, r) → l.length = n ∧ bs = flatL l ++ r
  | 0, bs, r, l, h => by
    simp only [idsL, Option.some.injEq, Prod.mk.injEq] at h
    obtain ⟨rfl, rfl⟩ := h
    exact ⟨rfl, rfl⟩
  | n + 1, bs, r, l, h => by
    rw [idsL] at h
    split at h
    · rename_i hc
      cases hq : idsL n (bs.drop 32) with
      | none => rw [hq] at h; cases h
      | some q =>
        obtain ⟨l1, r1⟩ := q
        rw [hq] at h
        simp only [Option.some.injEq, Prod.mk.injEq] at h
        obtain ⟨rfl, rfl⟩ := h
        obtain ⟨e1, e2⟩ := idsL_back n hq
        refine ⟨by rw [List.length_cons, e1], ?_⟩
        rw [flatL_cons, List.append_assoc, ← e2, List.take_append_drop]
    · cases h
theorem asI_nat {n : Nat} (h : n < 9223372036854775808) : asI n = n := by rw [asI, if_pos h]
theorem asI_bd {n : Nat} (h : n < 18446744073709551616) : I64 (asI n) := by
  unfold I64 asI
  split <;> omega
theorem nums_succ (k m : Nat) (r : List Int) (hm : m < 18446744073709551616) : nums (k + 1) (numL m ++ r) = (nums k r).map fun p => (m :: p.1, p.2) := by
  have g := getL_num m r hm
  have hp := numL_pos m
  rw [nums, g]
  simp only [List.drop_left]
  rw [if_neg (by omega)]
  cases nums k r <;> rfl
theorem head_nums {c : Com} (h : mayK c = true) (r : List Int) : nums 4 (headL c ++ r) = some ([(foldI c.node).toNat, c.seq.toNat, c.gen.toNat, c.ps.length], r) := by
  have hn := node_may h
  have hs := seq_may h
  have hg := lineB_iff.1 (mayK_iff.1 h).1
  have hf := foldI_bd (k := c.node) (by unfold I64; omega)
  unfold headL
  simp only [List.append_assoc]
  rw [nums_succ 3 _ _ (by omega), nums_succ 2 _ _ (by omega), nums_succ 1 _ _ (by omega), nums_succ 0 _ _ (by omega)]
  rfl
/-- What is put is got, whatever stands behind. -/
theorem get_putK {c : Com} (h : mayK c = true) (r : List Int) : getK (putK c ++ r) = some (c, r) := by
  have hn := node_may h
  have hs := seq_may h
  have hg := lineB_iff.1 (mayK_iff.1 h).1
  have hI : I64 c.node := by unfold I64; omega
  have hf := foldI_bd hI
  have e : putK c ++ r = headL c ++ (flatL c.ps ++ (opL c ++ r)) := by unfold putK; simp only [List.append_assoc]
  have eu : unfoldI (((foldI c.node).toNat : Nat) : Int) = c.node := by rw [show (((foldI c.node).toNat : Nat) : Int) = foldI c.node by omega, unfold_fold hI]
  have es : asI c.seq.toNat = c.seq := by rw [asI_nat (by omega)]; omega
  have eg : asI c.gen.toNat = c.gen := by rw [asI_nat (by omega)]; omega
  have eo : opG c.node (opL c ++ r) = some (c.op, r) := by
    unfold opG opL
    by_cases h1 : c.node = -1
    · rw [if_pos h1, if_pos h1, (mergeB_iff.1 (merge_may h h1)).2.2.1]
      rfl
    · rw [if_neg h1, if_neg h1]
      exact get_put (op_may h h1) r
  unfold getK
  rw [e, head_nums h]
  simp only [tailK, idsL_put, eu, es, eg, eo]
  exact if_pos h
theorem get_putK0 {c : Com} (h : mayK c = true) : getK (putK c) = some (c, []) := by
  have := get_putK h []
  rwa [List.append_nil] at this
theorem nums_back : ∀ (k : Nat) {bs r : List Int} {l : List Nat}, (∀ x ∈ bs, B x) → nums k bs = some (l, r) → l.length = k ∧ (∀ n ∈ l, n < 18446744073709551616) ∧ bs = l.flatMap numL ++ r
  | 0, bs, r, l, _, h => by
    simp only [nums, Option.some.injEq, Prod.mk.injEq] at h
    obtain ⟨rfl, rfl⟩ := h
    exact ⟨rfl, by simp, rfl⟩
  | k + 1, bs, r, l, hb, h => by
    rw [nums] at h
    split at h
    · cases h
    · rename_i hk
      obtain ⟨h1, h2, h3, h4, h5⟩ := getL_back hb (N := (getL bs).1) (k := (getL bs).2) rfl hk
      cases hq : nums k (bs.drop (getL bs).2) with
      | none => rw [hq] at h; cases h
      | some q =>
        obtain ⟨l1, r1⟩ := q
        rw [hq] at h
        simp only [Option.some.injEq, Prod.mk.injEq] at h
        obtain ⟨rfl, rfl⟩ := h
        obtain ⟨e1, e2, e3⟩ := nums_back k (fun x hx => hb x (List.mem_of_mem_drop hx)) hq
        refine ⟨by rw [List.length_cons, e1], fun n hn => ?_, ?_⟩
        · rcases List.mem_cons.1 hn with rfl | hn
          · exact h1
          · exact e2 n hn
        · rw [List.flatMap_cons, List.append_assoc, ← e3, ← h5, List.take_append_drop]
/-- What is got may be, and is put as the same bytes. -/
theorem put_getK {bs r : List Int} {c : Com} (hb : ∀ x ∈ bs, B x) (h : getK bs = some (c, r)) : mayK c = true ∧ bs = putK c ++ r := by
  unfold getK at h
  split at h
  · rename_i a b g n r0 hq
    obtain ⟨_, q2, q3⟩ := nums_back 4 hb hq
    have ha := q2 a (by simp)
    have hbb := q2 b (by simp)
    have hg := q2 g (by simp)
    unfold tailK at h
    split at h
    · cases h
    · rename_i ps r1 hi
      obtain ⟨i1, i2⟩ := idsL_back n hi
      split at h
      · cases h
      · rename_i o r2 ho
        unfold keepK at h
        split at h
        · rename_i hm
          simp only [Option.some.injEq, Prod.mk.injEq] at h
          obtain ⟨rfl, rfl⟩ := h
          refine ⟨hm, ?_⟩
          have hs := seq_may hm
          have hgg := lineB_iff.1 (mayK_iff.1 hm).1
          have ef : (foldI (unfoldI (a : Int))).toNat = a := by rw [fold_unfold (by omega)]; omega
          have es : (asI b).toNat = b := by
            have h1 : 0 ≤ asI b := hs.1
            unfold asI at h1 ⊢
            split <;> omega
          have eg : (asI g).toNat = g := by
            have h1 : 1 ≤ asI g := hgg.1
            unfold asI at h1 ⊢
            split <;> omega
          have hr1 : ∀ x ∈ r1, B x := fun x hx => hb x (by rw [q3, i2]; simp [hx])
          have eo : r1 = (if unfoldI (a : Int) = -1 then [] else putL o) ++ r2 := by
            unfold opG at ho
            split at ho
            · rename_i h1
              simp only [Option.some.injEq, Prod.mk.injEq] at ho
              rw [if_pos h1, ho.2]
              rfl
            · rename_i h1
              rw [if_neg h1]
              exact (put_get hr1 ho).2
          unfold putK headL opL
          simp only [ef, es, eg, i1]
          rw [q3, i2]
          conv => lhs; rw [eo]
          simp only [List.flatMap_cons, List.flatMap_nil, List.append_nil, List.append_assoc]
        · cases h
  · cases h
/-- Commits have the same bytes only if they are the same. -/
theorem putK_inj {c d : Com} (hc : mayK c = true) (hd : mayK d = true) (h : putK c = putK d) : c = d := by
  have h1 := get_putK0 hc
  rw [h, get_putK0 hd] at h1
  exact (Prod.mk.inj (Option.some.inj h1)).1.symm
theorem headL_B (c : Com) : ∀ x ∈ headL c, B x := by
  intro x hx
  unfold headL at hx
  simp only [List.mem_append] at hx
  rcases hx with hx | hx | hx | hx <;> exact numL_range _ x hx
theorem opL_B (c : Com) : ∀ x ∈ opL c, B x := by
  intro x hx
  unfold opL at hx
  split at hx
  · simp at hx
  · exact putL_B _ x hx
theorem putK_B (c : Com) : ∀ x ∈ putK c, B x := by
  intro x hx
  unfold putK at hx
  simp only [List.mem_append] at hx
  rcases hx with hx | hx | hx
  · exact headL_B c x hx
  · exact flatL_B _ x hx
  · exact opL_B c x hx
theorem headL_len {c : Com} (h : mayK c = true) : 4 ≤ (headL c).length ∧ (headL c).length ≤ 40 := by
  have hn := node_may h
  have hs := seq_may h
  have hg := lineB_iff.1 (mayK_iff.1 h).1
  have hf := foldI_bd (k := c.node) (by unfold I64; omega)
  have a1 := numL_pos (foldI c.node).toNat
  have a2 := numL_pos c.seq.toNat
  have a3 := numL_pos c.gen.toNat
  have a4 := numL_pos c.ps.length
  have b1 := numL_ten (n := (foldI c.node).toNat) (by omega)
  have b2 := numL_ten (n := c.seq.toNat) (by omega)
  have b3 := numL_ten (n := c.gen.toNat) (by omega)
  have b4 := numL_ten (n := c.ps.length) (by omega)
  unfold headL
  simp only [List.length_append]
  omega
theorem opL_len {c : Com} (h : mayK c = true) : (opL c).length ≤ 60 := by
  unfold opL
  split
  · simp
  · rename_i hn
    exact putL_len (op_may h hn)
theorem putK_len {c : Com} (h : mayK c = true) : (putK c).length ≤ 400 := by
  have h1 := headL_len h
  have h2 := opL_len h
  have h3 := flatL_len c.ps
  have hg := lineB_iff.1 (mayK_iff.1 h).1
  unfold putK
  simp only [List.length_append]
  omega
/-- An operation has three bytes at least. -/
theorem putL_three (o : Opn) (h : mayO o = true) : 3 ≤ (putL o).length := by
  obtain ⟨hk, _⟩ := mayO_kind h
  have h1 := numL_pos o.kind.toNat
  have h2 := keyL_len hk
  have h3 : 1 ≤ (textL (bytesL o.key)).length := by
    have := numL_pos (bytesL o.key).length
    unfold textL
    rw [List.length_append]
    omega
  have h4 : 1 ≤ (tailL o).length := by
    unfold tailL
    split
    · exact numL_pos _
    · have := numL_pos (bytesL o.elem).length
      unfold textL
      rw [List.length_append]
      omega
  unfold putL
  simp only [List.length_append]
  omega
theorem putK_least {c : Com} (h : mayK c = true) (hn : c.node ≠ -1) : 32 * c.ps.length + 7 ≤ (putK c).length := by
  have h1 := headL_len h
  have h2 := flatL_len c.ps
  have h3 := putL_three c.op (op_may h hn)
  unfold putK opL
  rw [if_neg hn]
  simp only [List.length_append]
  omega
theorem putsK_some {c : Com} (h : mayK c = true) : putsK c = some (putK c) := by rw [putsK, if_pos h]
theorem putsK_none {c : Com} (h : mayK c = false) : putsK c = none := by rw [putsK, if_neg (by rw [h]; simp)]
/-- Of another operation, or event. -/
theorem put_op {c : Com} (o : Opn) (h : mayK c = true) (h2 : mayK { c with op := o } = true) : putK { c with op := o } = putK c ↔ o = c.op := by
  constructor
  · intro e
    have := putK_inj h2 h e
    rw [← this]
  · rintro rfl; rfl
theorem put_seq {c : Com} (q : Int) (h : mayK c = true) (h2 : mayK { c with seq := q } = true) : putK { c with seq := q } = putK c ↔ q = c.seq := by
  constructor
  · intro e
    have := putK_inj h2 h e
    rw [← this]
  · rintro rfl; rfl
end Go.Proofs.YtechkdhehipliaaGreatDoor.CmM
namespace Go.Proofs.YtechkdhehipliaaGreatDoor.ArrEq
set_option maxRecDepth 100000
open Go.RowKit

section
variable {P : Program}

theorem run_part_int {e : TypeId} {k : IntKind} (he : P.underlying e = some (.int k)) (xs : Array Value) (i : Nat) (v : Value) (hv : xs[i]? = some v) (w : World) : (part e xs i).run P w = .ok v w := by
  simp [part, isAgg, run_underlying he, hv]

theorem eqItems_ints (w : World) (d : Nat) {e : TypeId} {k : IntKind} (he : P.underlying e = some (.int k)) (xs ys : Array Value) (f g : Nat → Int) :
    ∀ is : List Nat, (∀ i ∈ is, xs[i]? = some (.int k (f i)) ∧ ys[i]? = some (.int k (g i))) → (Op.eqItems (d + 1) e 1 xs ys is).run P w = .ok (is.all fun i => f i == g i) w
  | [], _ => by simp [Op.eqItems]
  | i :: is, h => by
    have h0 := h i (by simp)
    have hr := eqItems_ints w d he xs ys f g is (fun j hj => h j (by simp [hj]))
    simp only [Op.eqItems, Sem.run_bind, Nat.mul_one, run_part_int he xs i _ h0.1, run_part_int he ys i _ h0.2, Result.andThen_ok, run_equalIn_int w d e k k (f i) (g i) he]
    by_cases hc : f i = g i
    · simpa [hc] using hr
    · simp [hc]

/-- Two arrays of n integers of one kind. -/
theorem equal_ints (w : World) (d : Nat) {t e : TypeId} {n : Nat} {k : IntKind} {inf : TypeInfo} (hu : P.underlying t = some (.array n e)) (he : P.underlying e = some (.int k)) (hi : P.info? e = some inf) (hc : P.cellsOf e = 1)
    (xs ys : Array Value) (f g : Nat → Int) (h : ∀ i, i < n → xs[i]? = some (.int k (f i)) ∧ ys[i]? = some (.int k (g i))) :
    (Op.equalIn (d + 2) t (.agg xs) (.agg ys)).run P w = .ok ((List.range n).all fun i => f i == g i) w := by
  rw [run_equalIn_array w (d + 1) xs ys hu hi, hc]
  exact eqItems_ints w d he xs ys f g _ (fun i hx => h i (by simpa using hx))

/-- An array of integers is the same as itself. -/
theorem equal_self (w : World) (d : Nat) {t e : TypeId} {n : Nat} {k : IntKind} {inf : TypeInfo} (hu : P.underlying t = some (.array n e)) (he : P.underlying e = some (.int k)) (hi : P.info? e = some inf) (hc : P.cellsOf e = 1)
    (xs : Array Value) (f : Nat → Int) (h : ∀ i, i < n → xs[i]? = some (.int k (f i))) : (Op.equalIn (d + 2) t (.agg xs) (.agg xs)).run P w = .ok true w := by
  rw [equal_ints w d hu he hi hc xs xs f f (fun i hx => ⟨h i hx, h i hx⟩)]
  simp
end
end Go.Proofs.YtechkdhehipliaaGreatDoor.ArrEq
namespace Go.Proofs.YtechkdhehipliaaGreatDoor.IdW
set_option maxRecDepth 100000
open Go Go.Sort Go.RowKit Go.Lib IdM Byt

/-- An id's cells. -/
def cs (x : Idn) : Array Value := (bv x.1).toArray
theorem cs_size (x : Idn) : (cs x).size = 32 := by simp [cs, bv_length, Idn_len x]
theorem cs_toList (x : Idn) : (cs x).toList = bv x.1 := rfl
theorem cs_one (x : Idn) : (cs x).all (·.oneCell') = true := by
  rw [Array.all_eq_true_iff_forall_mem]
  intro v hv
  exact bv_one x.1 v (by simpa [cs] using hv)
theorem cs_at (x : Idn) (i : Nat) (hi : i < 32) : (cs x)[i]? = some (.int .u8 (x.1.getD i 0)) := by
  rw [cs, List.getElem?_toArray, bv_at _ (by rw [Idn_len x]; exact hi)]
theorem bv_inj {a b : List Int} (h : bv a = bv b) : a = b := by
  have e : ∀ l : List Int, (bv l).map (fun v => match v with | .int _ n => n | _ => 0) = l := by
    intro l
    simp only [bv, List.map_map]
    conv => rhs; rw [← List.map_id l]
    rfl
  rw [← e a, ← e b, h]
theorem cs_inj {x y : Idn} (h : cs x = cs y) : x = y := by
  apply Idn_ext
  apply bv_inj
  unfold cs at h
  simpa using h
theorem idB (x : Idn) : ∀ n ∈ x.1, B n := x.2.2
/-- The cells of a list of ids. -/
def flat (l : List Idn) : List Int := l.flatMap fun x => x.1
theorem flat_nil : flat [] = [] := rfl
theorem flat_cons (x : Idn) (l : List Idn) : flat (x :: l) = x.1 ++ flat l := rfl
theorem flat_append (a b : List Idn) : flat (a ++ b) = flat a ++ flat b := by simp [flat]
theorem flat_one (x : Idn) : flat [x] = x.1 := by simp [flat]
theorem flat_length : ∀ l : List Idn, (flat l).length = l.length * 32
  | [] => rfl
  | x :: l => by rw [flat_cons, List.length_append, Idn_len x, flat_length l, List.length_cons]; omega
theorem flat_B (l : List Idn) : ∀ n ∈ flat l, B n := by
  intro n hn
  simp only [flat, List.mem_flatMap] at hn
  obtain ⟨x, _, hx⟩ := hn
  exact x.2.2 n hx
theorem flat_at : ∀ (l : List Idn) (i j : Nat), i < l.length → j < 32 → (flat l).getD (i * 32 + j) 0 = (l.getD i nought).1.getD j 0
  | [], _, _, hi, _ => by simp at hi
  | x :: l, 0, j, _, hj => by
    rw [flat_cons, List.getD_eq_getElem?_getD, List.getElem?_append_left (by rw [Idn_len x]; omega), List.getD_cons_zero, List.getD_eq_getElem?_getD]
    simp
  | x :: l, i + 1, j, hi, hj => by
    rw [flat_cons, List.getD_eq_getElem?_getD, List.getElem?_append_right (by rw [Idn_len x]; omega), Idn_len x, show (i + 1) * 32 + j - 32 = i * 32 + j by omega, ← List.getD_eq_getElem?_getD, flat_at l i j (by simpa using hi) hj, List.getD_cons_succ]
theorem flat_take : ∀ (l : List Idn) (n : Nat), flat (l.take n) = (flat l).take (n * 32)
  | [], n => by simp [flat]
  | x :: l, 0 => by simp [flat]
  | x :: l, n + 1 => by
    rw [List.take_succ_cons, flat_cons, flat_cons, flat_take l n, List.take_append, Idn_len x, show (n + 1) * 32 - 32 = n * 32 by omega, List.take_of_length_le (l := x.1) (by rw [Idn_len x]; omega)]
theorem flat_drop : ∀ (l : List Idn) (n : Nat), flat (l.drop n) = (flat l).drop (n * 32)
  | [], n => by simp [flat]
  | x :: l, 0 => by simp
  | x :: l, n + 1 => by
    rw [List.drop_succ_cons, flat_cons, flat_drop l n, List.drop_append, Idn_len x, show (n + 1) * 32 - 32 = n * 32 by omega, List.drop_of_length_le (l := x.1) (by rw [Idn_len x]; omega), List.nil_append]

theorem info_id : (Tryz.prog.info? 42).map (·.size) = some 32 := by kernel_rfl
theorem info_cs (x : Idn) : (Tryz.prog.info? 42).map (·.size) = some (cs x).size := by rw [cs_size]; exact info_id
theorem info_bv (x : Idn) : (Tryz.prog.info? 42).map (·.size) = some (bv x.1).length := by rw [bv_length, Idn_len x]; exact info_id
theorem zero_id : (Tryz.prog.info? 42).map (fun i => (i.zero, i.size, i.bytes)) = some (some (.agg (cs nought)), 32, 32) := by kernel_rfl

/-- The slice with address A, as long as l, and with room for cap, has the ids l. -/
def SlI (w : World) (A : Option Addr) (cap : Nat) (l : List Idn) : Prop :=
  l.length ≤ cap ∧ cap ≤ maxLen ∧ ((A = none ∧ l = [] ∧ cap = 0) ∨ ∃ x, A = some x ∧ ∀ i, i < (flat l).length → w.cell? (x.add i) = some (.int .u8 ((flat l).getD i 0)))
theorem SlI.nil (w : World) : SlI w none 0 [] := ⟨Nat.le_refl _, Nat.zero_le _, .inl ⟨rfl, rfl, rfl⟩⟩
theorem SlI.below {w w' : World} {A : Option Addr} {cap : Nat} {l : List Idn} (h : SlI w A cap l) (hb : Below w.heap.size w w') : SlI w' A cap l := by
  obtain ⟨h1, h2, h5⟩ := h
  refine ⟨h1, h2, ?_⟩
  rcases h5 with h5 | ⟨x, rfl, hc⟩
  · exact .inl h5
  · refine .inr ⟨x, rfl, fun i hi => ?_⟩
    have hcell := hc i hi
    exact (hb.cell (block_lt_of_cell hcell)).trans hcell
/-- Where there is an id, the slice lies at a plain address. -/
theorem SlI.plain {w : World} {A : Option Addr} {cap : Nat} {l : List Idn} (h : SlI w A cap l) (hp : 0 < l.length) :
    ∃ b off, A = some ⟨b, off, none⟩ ∧ b < w.heap.size ∧ ∀ i, i < l.length → w.rangeAt b (off + i * 32) (bv (l.getD i nought).1) := by
  obtain ⟨h1, h2, h5⟩ := h
  rcases h5 with ⟨_, rfl, _⟩ | ⟨x, rfl, hc⟩
  · simp at hp
  · have hp' : 0 < (flat l).length := by rw [flat_length]; omega
    obtain ⟨b, off, rfl, hcell⟩ := ints_at hc hp'
    refine ⟨b, off, rfl, block_lt_of_cell (hcell 0 hp'), fun i hi j v hv => ?_⟩
    have hj : j < 32 := by
      have := (List.getElem?_eq_some_iff.1 hv).1
      rw [bv_length, Idn_len] at this
      exact this
    rw [bv_at _ (by rw [Idn_len]; exact hj)] at hv
    rw [Nat.add_assoc, hcell (i * 32 + j) (by rw [flat_length]; omega), flat_at l i j hi hj, hv]
theorem SlI.own {w : World} {base n : Nat} {v : Value} {l : List Idn} (h : w.ownsRow base 42 32 v n (bv (flat l))) : ∃ A cap, v = .slice A l.length cap ∧ SlI w A cap l := by
  have hn : l.length = n := by have := h.1; rw [bv_length, flat_length] at this; omega
  rcases h.2 with ⟨rfl, rfl⟩ | ⟨g, cap, cur, rfl, hbg, hg, h1, h2, h3, h4⟩
  · have : l = [] := List.eq_nil_of_length_eq_zero hn
    subst this
    exact ⟨none, 0, rfl, SlI.nil w⟩
  · refine ⟨some ⟨g, 0, none⟩, cap, by rw [hn], by omega, h2, .inr ⟨_, rfl, fun i hi => ?_⟩⟩
    have hi' := hi
    rw [flat_length] at hi'
    rw [Addr.add_lit, Nat.zero_add, h.cellAt i (by omega), bv_at _ hi]
/-- A load of one id out of a slice, and out of a box. -/
theorem load_mid {w : World} {b o : Nat} {x : Idn} (h : w.rangeAt b o (bv x.1)) : (Instr.loadAt 42 (.pointer (some ⟨b, o, none⟩))).run Tryz.prog w = .ok (.agg (cs x)) w :=
  run_loadAt_mid w b o 42 (bv x.1) _ h Tryz.underlying42 rfl (info_bv x)
theorem range_below {w w' : World} {b o : Nat} {x : Idn} (h : w.rangeAt b o (bv x.1)) (hb : Below w.heap.size w w') : w'.rangeAt b o (bv x.1) := fun j v hv => by
  have hc := h j v hv
  exact (hb.cell (block_lt_of_cell hc)).trans hc
/-- A block that holds one id. -/
def Box (w : World) (g : Nat) (x : Idn) : Prop := ∃ t, w.heap[g]? = some (.cells (cs x) t (0, 0))
theorem Box.lt {w : World} {g : Nat} {x : Idn} (h : Box w g x) : g < w.heap.size := by
  obtain ⟨t, ht⟩ := h
  exact (Array.getElem?_eq_some_iff.1 ht).1
theorem Box.below {w w' : World} {g B : Nat} {x : Idn} (h : Box w g x) (hb : Below B w w') (hg : g < B) : Box w' g x := by
  obtain ⟨t, ht⟩ := h
  exact ⟨t, by rw [hb.block g hg, ht]⟩
theorem Box.range {w : World} {g : Nat} {x : Idn} (h : Box w g x) : w.rangeAt g 0 (bv x.1) := fun j v hv => by
  obtain ⟨t, ht⟩ := h
  rw [Nat.zero_add, cell_of_row w g j _ t (0, 0) ht, cs, List.getElem?_toArray]
  exact hv
theorem Box.cell {w : World} {g : Nat} {x : Idn} (h : Box w g x) (i : Nat) (hi : i < 32) : w.cell? ⟨g, i, none⟩ = some (.int .u8 (x.1.getD i 0)) := by
  have := h.range i _ (bv_at x.1 (i := i) (by rw [Idn_len x]; exact hi))
  rwa [Nat.zero_add] at this
theorem Box.new (w : World) (x : Idn) (t : TypeId) : Box (w.alloc (.cells (cs x) t)) w.heap.size x := ⟨t, heap_alloc_new w _⟩
theorem Box.alloc {w : World} {g : Nat} {x : Idn} (h : Box w g x) (o : Obj) : Box (w.alloc o) g x := h.below ((Below.refl _ _).alloc (Nat.le_refl _) _) h.lt
theorem Box.load {w : World} {g : Nat} {x : Idn} (h : Box w g x) : (Instr.loadAt 42 (.pointer (some ⟨g, 0, none⟩))).run Tryz.prog w = .ok (.agg (cs x)) w := load_mid h.range
theorem Box.drewN {w : World} {g : Nat} {x : Idn} (h : Box w g x) (n : Nat) : Box (w.drewN n) g x := h
theorem Box.drew {w : World} {g : Nat} {x : Idn} (h : Box w g x) : Box w.drew g x := h
/-- A load of one id, as the walk meets it. -/
theorem wpList_load_id {ops : Array Oper} {rest : List Oper} {o : Oper} {a : Act} {w : World} {Q : Exit → Act → World → Prop} (hgd : o.guard = none) (x : Operand) (ho : o.op = .load 42 x)
    (b off : Nat) (hx : a.eval x = .pointer (some ⟨b, off, none⟩)) (y : Idn) (hc : w.rangeAt b off (bv y.1)) (h : wpList Tryz.prog ops Q rest (a.put o.dst (.agg (cs y))) w) : wpList Tryz.prog ops Q (o :: rest) a w :=
  wpList_load_mid hgd 42 x ho b off hx (bv y.1) _ hc Tryz.underlying42 rfl (info_bv y) h
theorem wpList_load_box {ops : Array Oper} {rest : List Oper} {o : Oper} {a : Act} {w : World} {Q : Exit → Act → World → Prop} (hgd : o.guard = none) (x : Operand) (ho : o.op = .load 42 x)
    (g : Nat) (hx : a.eval x = .pointer (some ⟨g, 0, none⟩)) (y : Idn) (hb : Box w g y) (h : wpList Tryz.prog ops Q rest (a.put o.dst (.agg (cs y))) w) : wpList Tryz.prog ops Q (o :: rest) a w :=
  wpList_load_id hgd x ho g 0 hx y hb.range h
/-- An id stored into a block that was just made. -/
theorem wpList_store_new {ops : Array Oper} {rest : List Oper} {o : Oper} {a : Act} {w : World} {Q : Exit → Act → World → Prop} (hgd : o.guard = none) (x y : Operand) (ho : o.op = .store 42 x y)
    (w0 : World) (old : Array Value) (z : Idn) (t : TypeId) (hw : w = w0.alloc (.cells old t)) (g : Nat) (hx : a.eval x = .pointer (some ⟨g, 0, none⟩)) (hg : g = w0.heap.size) (hy : a.eval y = .agg (cs z)) (hs : old.size = 32)
    (h : wpList Tryz.prog ops Q rest (a.put o.dst undef) (w0.alloc (.cells (cs z) t))) : wpList Tryz.prog ops Q (o :: rest) a w := by
  subst hw
  subst hg
  refine wpList_store_row hgd 42 x y ho w0.heap.size (cs z) hx hy t old (heap_alloc_new w0 _) (info_cs z) (by rw [cs_size, hs]) (cs_one z) ?_
  rw [World.setRow_alloc_new]
  exact h
/-- Two ids compared. -/
theorem equal (w : World) (d : Nat) (x y : Idn) : (Op.equalIn (d + 2) 42 (.agg (cs x)) (.agg (cs y))).run Tryz.prog w = .ok (decide (x = y)) w := by
  obtain ⟨i, hi, _, _, _⟩ := info_parts zero_u8
  rw [ArrEq.equal_ints w d Tryz.underlying42 Tryz.underlying5 hi (by kernel_rfl) (cs x) (cs y) (fun i => x.1.getD i 0) (fun i => y.1.getD i 0) (fun i hi => ⟨cs_at x i hi, cs_at y i hi⟩)]
  congr 1
  rw [Bool.eq_iff_iff, List.all_eq_true, decide_eq_true_eq]
  constructor
  · intro h
    exact Idn_ext_at (fun i hi => by simpa using h i (by simpa using hi))
  · rintro rfl i _
    simp

/-- A new slice has these ids, and all that was there is as it was. -/
def NewI (l : List Idn) (w : World) (e : Ending) (w' : World) : Prop :=
  ∃ v, e = .returned v ∧ w'.ownsRow w.heap.size 42 32 v l.length (bv (flat l)) ∧ Below w.heap.size w w'
theorem zs : ((.agg (cs nought) : Value).cells).size = 32 := by simp [Value.cells, cs_size]
/-- 'append' of a slice of ids. -/
theorem wpList_append_ids {w : World} {ops : Array Oper} {rest : List Oper} {o : Oper} {a : Act} {Q : Exit → Act → World → Prop} (hgd : o.guard = none) (s x : Operand)
    (ho : o.op = .call { callee := .builtin .append, args := #[s, x], argTypes := #[23, 23] })
    (base : Nat) (v : Value) (n : Nat) (xs : List Idn) (hs : a.eval s = v) (hown : w.ownsRow base 42 32 v n (bv (flat xs)))
    (A : Option Addr) (m c : Nat) (l : List Idn) (hx : a.eval x = .slice A m c) (hm : l.length = m) (hr : SlI w A c l)
    (h63 : n + m ≤ 1099511627900) (hbase : base ≤ w.heap.size)
    (h : ∀ v' w', w'.ownsRow base 42 32 v' (n + m) (bv (flat (xs ++ l))) → w.grownBy w' v.ownBlock → wpList Tryz.prog ops Q rest (a.put o.dst v') w') : wpList Tryz.prog ops Q (o :: rest) a w := by
  obtain ⟨i, hi, z0, z1, z2⟩ := info_parts zero_id
  subst hm
  obtain ⟨h1, h2, h5⟩ := hr
  rcases h5 with ⟨rfl, rfl, rfl⟩ | ⟨ad, rfl, hc⟩
  · refine wpList_append_own_none hgd s x 23 ho base 42 i 32 Tryz.underlying23 hi v n (bv (flat xs)) hs hown hx (h v w ?_ (grown_of_below (Below.refl _ _) _))
    simpa using hown
  · refine wpList_append_own w hgd s x 23 ho base 42 i (.agg (cs nought)) 32 32 Tryz.underlying23 hi z0 z1 z2 zs (by decide) v n (bv (flat xs)) hs hown ad l.length c (bv (flat l)) hx (by rw [bv_length, flat_length]) (fun j u hu => ?_) (bv_one _) (by unfold maxLen; omega) (by omega) hbase (fun v' w' a1 a2 _ => h v' w' (by rw [flat_append, bv_append]; exact a1) a2)
    have hj : j < (flat l).length := by
      have := (List.getElem?_eq_some_iff.1 hu).1
      simpa [bv] using this
    rw [bv_at _ hj] at hu
    rw [hc j hj, ← hu]
/-- A slice that was just made of one id. -/
theorem SlI.new1 (w : World) (x : Idn) (t : TypeId) : SlI (w.alloc (.cells (cs x) t)) (some ⟨w.heap.size, 0, none⟩) 1 [x] := by
  refine ⟨Nat.le_refl _, by unfold maxLen; omega, .inr ⟨_, rfl, fun i hi => ?_⟩⟩
  rw [flat_one] at hi ⊢
  rw [Addr.add_lit, Nat.zero_add]
  exact (Box.new w x t).cell i (by rw [Idn_len x] at hi; exact hi)

/-- Draws and new blocks alone. -/
def Grew (w w' : World) : Prop := ∃ q os, w' = grow (w.drewN q) os
theorem Grew.refl (w : World) : Grew w w := ⟨0, #[], by rw [grow_empty]; rfl⟩
theorem Grew.alloc {w w' : World} (h : Grew w w') (o : Obj) : Grew w (w'.alloc o) := by
  obtain ⟨q, os, rfl⟩ := h
  exact ⟨q, os ++ #[o], by rw [alloc_eq_grow, grow_grow]⟩
theorem drewN_grow (w : World) (os : Array Obj) (n : Nat) : (grow w os).drewN n = grow (w.drewN n) os := rfl
theorem drewN_drewN (w : World) (m n : Nat) : (w.drewN m).drewN n = w.drewN (m + n) := by unfold World.drewN; simp [Nat.add_assoc]
theorem Grew.drewN {w w' : World} (h : Grew w w') (n : Nat) : Grew w (w'.drewN n) := by
  obtain ⟨q, os, rfl⟩ := h
  exact ⟨q + n, os, by rw [drewN_grow, drewN_drewN]⟩
theorem Grew.drew {w w' : World} (h : Grew w w') : Grew w w'.drew := h.drewN 1
theorem Grew.trans {w w' w'' : World} (h : Grew w w') (h' : Grew w' w'') : Grew w w'' := by
  obtain ⟨q, os, rfl⟩ := h'
  obtain ⟨p, os', e⟩ := h.drewN q
  exact ⟨p, os' ++ os, by rw [e, grow_grow]⟩
theorem Grew.below {w w' : World} (h : Grew w w') : Below w.heap.size w w' := by
  obtain ⟨q, os, rfl⟩ := h
  exact below_grow w.heap.size w (Nat.le_refl _) q os
end Go.Proofs.YtechkdhehipliaaGreatDoor.IdW
