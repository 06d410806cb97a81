/- Which events may be. No condition. | Plain facts on commits: which may be, what they are in bytes, and the one that bytes begin with. No condition. -/
import Derived.WalkKit
import Derived.Test.YteojkfbnenfmkaaDoorEncEJ4
import Derived.Test.YteojkfbnenfmkaaDoorIdM
namespace Go.Proofs.YteojkfbnenfmkaaDoor.StM
set_option maxRecDepth 100000

/-- Which events may be. -/
def eventB (n q : Int) : Bool := decide (0 ≤ n) && (decide (n < 8) && (decide (1 ≤ q) && decide (q ≤ 1048576)))
theorem eventB_iff {n q : Int} : eventB n q = true ↔ (0 ≤ n ∧ n < 8) ∧ 1 ≤ q ∧ q ≤ 1048576 := by
  unfold eventB
  simp only [Bool.and_eq_true, decide_eq_true_eq]
  omega
end Go.Proofs.YteojkfbnenfmkaaDoor.StM
namespace Go.Proofs.YteojkfbnenfmkaaDoor.CmM
set_option maxRecDepth 100000
open Byt EncM EncC EncE EncT OpsM IdM

/-- A commit. -/
structure Com where
  node : Int
  seq : Int
  gen : Int
  ps : List Idn
  op : Opn
theorem Opn_ext {x y : Opn} (h1 : x.kind = y.kind) (h2 : x.key = y.key) (h3 : x.elem = y.elem) (h4 : x.n = y.n) : x = y := by
  cases x; cases y
  simp_all
theorem Com_ext {x y : Com} (h1 : x.node = y.node) (h2 : x.seq = y.seq) (h3 : x.gen = y.gen) (h4 : x.ps = y.ps) (h5 : x.op = y.op) : x = y := by
  cases x; cases y
  simp_all
def noO : Opn := ⟨0, ⟨#[]⟩, ⟨#[]⟩, 0⟩
def noK : Com := ⟨0, 0, 0, [], noO⟩
/-- An operation of noughts. -/
def noughtO (o : Opn) : Bool := decide (o.kind = 0) && (decide (bytesL o.key = []) && (decide (bytesL o.elem = []) && decide (o.n = 0)))
theorem noughtO_iff {o : Opn} : noughtO o = true ↔ o = noO := by
  unfold noughtO noO
  simp only [Bool.and_eq_true, decide_eq_true_eq]
  constructor
  · rintro ⟨h1, h2, h3, h4⟩
    exact Opn_ext h1 (empty_of h2) (empty_of h3) h4
  · rintro rfl
    exact ⟨rfl, rfl, rfl, rfl⟩
/-- What a merge has: no event, no operation, two parents at least. -/
def mergeB (c : Com) : Bool := decide (c.node = -1) && (decide (c.seq = 0) && (noughtO c.op && decide (2 ≤ c.ps.length)))
theorem mergeB_iff {c : Com} : mergeB c = true ↔ c.node = -1 ∧ c.seq = 0 ∧ c.op = noO ∧ 2 ≤ c.ps.length := by
  unfold mergeB
  simp only [Bool.and_eq_true, decide_eq_true_eq, noughtO_iff]
/-- A generation, and parents, that may be. -/
def lineB (c : Com) : Bool := decide (1 ≤ c.gen) && (decide (c.gen ≤ 1048576) && (decide (c.ps.length ≤ 8) && (risesB c.ps && (decide (c.gen = 1) == decide (c.ps.length = 0)))))
theorem lineB_iff {c : Com} : lineB c = true ↔ 1 ≤ c.gen ∧ c.gen ≤ 1048576 ∧ c.ps.length ≤ 8 ∧ risesB c.ps = true ∧ (c.gen = 1 ↔ c.ps.length = 0) := by
  unfold lineB
  simp only [Bool.and_eq_true, decide_eq_true_eq, beq_iff_eq, decide_eq_decide]
def mayK (c : Com) : Bool := lineB c && (mergeB c || (StM.eventB c.node c.seq && mayO c.op))
theorem mayK_iff {c : Com} : mayK c = true ↔ lineB c = true ∧ (mergeB c = true ∨ StM.eventB c.node c.seq = true ∧ mayO c.op = true) := by
  unfold mayK
  simp only [Bool.and_eq_true, Bool.or_eq_true]
def isM (c : Com) : Bool := mayK c && decide (c.node = -1)
theorem isM_iff {c : Com} : isM c = true ↔ lineB c = true ∧ mergeB c = true := by
  unfold isM
  rw [Bool.and_eq_true, mayK_iff, decide_eq_true_eq]
  constructor
  · rintro ⟨⟨h1, h2 | ⟨h2, _⟩⟩, h3⟩
    · exact ⟨h1, h2⟩
    · have := StM.eventB_iff.1 h2; omega
  · rintro ⟨h1, h2⟩
    exact ⟨⟨h1, .inl h2⟩, (mergeB_iff.1 h2).1⟩
theorem node_may {c : Com} (h : mayK c = true) : -1 ≤ c.node ∧ c.node < 8 := by
  rcases (mayK_iff.1 h).2 with h1 | ⟨h1, _⟩
  · have := (mergeB_iff.1 h1).1; omega
  · have := (StM.eventB_iff.1 h1).1; omega
theorem seq_may {c : Com} (h : mayK c = true) : 0 ≤ c.seq ∧ c.seq ≤ 1048576 := by
  rcases (mayK_iff.1 h).2 with h1 | ⟨h1, _⟩
  · have := (mergeB_iff.1 h1).2.1; omega
  · have := (StM.eventB_iff.1 h1).2; omega
theorem op_may {c : Com} (h : mayK c = true) (hn : c.node ≠ -1) : mayO c.op = true := by
  rcases (mayK_iff.1 h).2 with h1 | ⟨_, h1⟩
  · exact absurd (mergeB_iff.1 h1).1 hn
  · exact h1
theorem merge_may {c : Com} (h : mayK c = true) (hn : c.node = -1) : mergeB c = true := by
  rcases (mayK_iff.1 h).2 with h1 | ⟨h1, _⟩
  · exact h1
  · have := (StM.eventB_iff.1 h1).1; omega
/-- A commit in bytes. -/
def flatL (ps : List Idn) : List Int := ps.flatMap (·.val)
theorem flatL_cons (x : Idn) (l : List Idn) : flatL (x :: l) = x.val ++ flatL l := by simp [flatL]
theorem flatL_append (a b : List Idn) : flatL (a ++ b) = flatL a ++ flatL b := by simp [flatL]
theorem flatL_len : ∀ l : List Idn, (flatL l).length = 32 * l.length
  | [] => rfl
  | x :: l => by
    rw [flatL_cons, List.length_append, flatL_len l, Idn_len, List.length_cons]
    omega
theorem flatL_B (l : List Idn) : ∀ x ∈ flatL l, B x := by
  intro x hx
  unfold flatL at hx
  rw [List.mem_flatMap] at hx
  obtain ⟨y, _, hy⟩ := hx
  exact y.ok.2 x hy
def headL (c : Com) : List Int := numL (foldI c.node).toNat ++ (numL c.seq.toNat ++ (numL c.gen.toNat ++ numL c.ps.length))
def opL (c : Com) : List Int := if c.node = -1 then [] else putL c.op
def putK (c : Com) : List Int := headL c ++ (flatL c.ps ++ opL c)
/-- So many ids that bytes begin with. -/
def idsL : Nat → List Int → Option (List Idn × List Int)
  | 0, bs => some ([], bs)
  | n + 1, bs => if h : 32 ≤ bs.length ∧ ∀ x ∈ bs.take 32, 0 ≤ x ∧ x ≤ 255 then
      match idsL n (bs.drop 32) with
      | none => none
      | some (l, r) => some (⟨bs.take 32, by rw [List.length_take]; omega, h.2⟩ :: l, r)
    else none
/-- Four numbers that bytes begin with. -/
def nums : Nat → List Int → Option (List Nat × List Int)
  | 0, bs => some ([], bs)
  | k + 1, bs => if (getL bs).2 = 0 then none else
      match nums k (bs.drop (getL bs).2) with
      | none => none
      | some (l, r) => some ((getL bs).1 :: l, r)

theorem idsL_back : ∀ (n : Nat) {bs r : List Int} {l : List Idn}, idsL n bs = some (l, r) → l.length = n ∧ bs = flatL l ++ r
  | 0, bs, r, l, h => by
    simp only [idsL, Option.some.injEq, Prod.mk.injEq] at h
    obtain ⟨rfl, rfl⟩ := h
    exact ⟨rfl, rfl⟩
  | n + 1, bs, r, l, h => by
    rw [idsL] at h
    split at h
    · rename_i hc
      cases hq : idsL n (bs.drop 32) with
      | none => rw [hq] at h; cases h
      | some q =>
        obtain ⟨l1, r1⟩ := q
        rw [hq] at h
        simp only [Option.some.injEq, Prod.mk.injEq] at h
        obtain ⟨rfl, rfl⟩ := h
        obtain ⟨e1, e2⟩ := idsL_back n hq
        refine ⟨by rw [List.length_cons, e1], ?_⟩
        rw [flatL_cons, List.append_assoc, ← e2, List.take_append_drop]
    · cases h
theorem nums_succ (k m : Nat) (r : List Int) (hm : m < 18446744073709551616) : nums (k + 1) (numL m ++ r) = (nums k r).map fun p => (m :: p.1, p.2) := by
  have g := getL_num m r hm
  have hp := numL_pos m
  rw [nums, g]
  simp only [List.drop_left]
  rw [if_neg (by omega)]
  cases nums k r <;> rfl
theorem head_nums {c : Com} (h : mayK c = true) (r : List Int) : nums 4 (headL c ++ r) = some ([(foldI c.node).toNat, c.seq.toNat, c.gen.toNat, c.ps.length], r) := by
  have hn := node_may h
  have hs := seq_may h
  have hg := lineB_iff.1 (mayK_iff.1 h).1
  have hf := foldI_bd (k := c.node) (by unfold I64; omega)
  unfold headL
  simp only [List.append_assoc]
  rw [nums_succ 3 _ _ (by omega), nums_succ 2 _ _ (by omega), nums_succ 1 _ _ (by omega), nums_succ 0 _ _ (by omega)]
  rfl
theorem headL_B (c : Com) : ∀ x ∈ headL c, B x := by
  intro x hx
  unfold headL at hx
  simp only [List.mem_append] at hx
  rcases hx with hx | hx | hx | hx <;> exact numL_range _ x hx
theorem opL_B (c : Com) : ∀ x ∈ opL c, B x := by
  intro x hx
  unfold opL at hx
  split at hx
  · simp at hx
  · exact putL_B _ x hx
theorem putK_B (c : Com) : ∀ x ∈ putK c, B x := by
  intro x hx
  unfold putK at hx
  simp only [List.mem_append] at hx
  rcases hx with hx | hx | hx
  · exact headL_B c x hx
  · exact flatL_B _ x hx
  · exact opL_B c x hx
theorem headL_len {c : Com} (h : mayK c = true) : 4 ≤ (headL c).length ∧ (headL c).length ≤ 40 := by
  have hn := node_may h
  have hs := seq_may h
  have hg := lineB_iff.1 (mayK_iff.1 h).1
  have hf := foldI_bd (k := c.node) (by unfold I64; omega)
  have a1 := numL_pos (foldI c.node).toNat
  have a2 := numL_pos c.seq.toNat
  have a3 := numL_pos c.gen.toNat
  have a4 := numL_pos c.ps.length
  have b1 := numL_ten (n := (foldI c.node).toNat) (by omega)
  have b2 := numL_ten (n := c.seq.toNat) (by omega)
  have b3 := numL_ten (n := c.gen.toNat) (by omega)
  have b4 := numL_ten (n := c.ps.length) (by omega)
  unfold headL
  simp only [List.length_append]
  omega
theorem opL_len {c : Com} (h : mayK c = true) : (opL c).length ≤ 60 := by
  unfold opL
  split
  · simp
  · rename_i hn
    exact putL_len (op_may h hn)
theorem putK_len {c : Com} (h : mayK c = true) : (putK c).length ≤ 400 := by
  have h1 := headL_len h
  have h2 := opL_len h
  have h3 := flatL_len c.ps
  have hg := lineB_iff.1 (mayK_iff.1 h).1
  unfold putK
  simp only [List.length_append]
  omega
end Go.Proofs.YteojkfbnenfmkaaDoor.CmM
