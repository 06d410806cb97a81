/- Plain facts on commits: which may be, what they are in bytes, and the one that bytes begin with. No condition. -/
import Derived.Test.YtechkdhehipliaaDoorEncEJ4
import Derived.Test.YtechkdhehipliaaDoorIdMJ2
namespace Go.Proofs.YtechkdhehipliaaDoor.CmM
set_option maxRecDepth 100000
open Byt EncM EncC EncE EncT OpsM IdM

/-- A commit. -/
structure Com where
  node : Int
  seq : Int
  gen : Int
  ps : List Idn
  op : Opn
theorem Opn_ext {x y : Opn} (h1 : x.kind = y.kind) (h2 : x.key = y.key) (h3 : x.elem = y.elem) (h4 : x.n = y.n) : x = y := by
  cases x; cases y
  simp_all
theorem Com_ext {x y : Com} (h1 : x.node = y.node) (h2 : x.seq = y.seq) (h3 : x.gen = y.gen) (h4 : x.ps = y.ps) (h5 : x.op = y.op) : x = y := by
  cases x; cases y
  simp_all
def noO : Opn := ⟨0, ⟨#[]⟩, ⟨#[]⟩, 0⟩
def noK : Com := ⟨0, 0, 0, [], noO⟩
/-- An operation of noughts. -/
def noughtO (o : Opn) : Bool := decide (o.kind = 0) && (decide (bytesL o.key = []) && (decide (bytesL o.elem = []) && decide (o.n = 0)))
theorem noughtO_iff {o : Opn} : noughtO o = true ↔ o = noO := by
  unfold noughtO noO
  simp only [Bool.and_eq_true, decide_eq_true_eq]
  constructor
  · rintro ⟨h1, h2, h3, h4⟩
    exact Opn_ext h1 (empty_of h2) (empty_of h3) h4
  · rintro rfl
    exact ⟨rfl, rfl, rfl, rfl⟩
/-- What a merge has: no event, no operation, two parents at least. -/
def mergeB (c : Com) : Bool := decide (c.node = -1) && (decide (c.seq = 0) && (noughtO c.op && decide (2 ≤ c.ps.length)))
theorem mergeB_iff {c : Com} : mergeB c = true ↔ c.node = -1 ∧ c.seq = 0 ∧ c.op = noO ∧ 2 ≤ c.ps.length := by
  unfold mergeB
  simp only [Bool.and_eq_true, decide_eq_true_eq, noughtO_iff]
/-- A generation, and parents, that may be. -/
def lineB (c : Com) : Bool := decide (1 ≤ c.gen) && (decide (c.gen ≤ 1048576) && (decide (c.ps.length ≤ 8) && (risesB c.ps && (decide (c.gen = 1) == decide (c.ps.length = 0)))))
theorem lineB_iff {c : Com} : lineB c = true ↔ 1 ≤ c.gen ∧ c.gen ≤ 1048576 ∧ c.ps.length ≤ 8 ∧ risesB c.ps = true ∧ (c.gen = 1 ↔ c.ps.length = 0) := by
  unfold lineB
  simp only [Bool.and_eq_true, decide_eq_true_eq, beq_iff_eq, decide_eq_decide]
def mayK (c : Com) : Bool := lineB c && (mergeB c || (StM.eventB c.node c.seq && mayO c.op))
theorem mayK_iff {c : Com} : mayK c = true ↔ lineB c = true ∧ (mergeB c = true ∨ StM.eventB c.node c.seq = true ∧ mayO c.op = true) := by
  unfold mayK
  simp only [Bool.and_eq_true, Bool.or_eq_true]
def isM (c : Com) : Bool := mayK c && decide (c.node = -1)
theorem isM_iff {c : Com} : isM c = true ↔ lineB c = true ∧ mergeB c = true := by
  unfold isM
  rw [Bool.and_eq_true, mayK_iff, decide_eq_true_eq]
  constructor
  · rintro ⟨⟨h1, h2 | ⟨h2, _⟩⟩, h3⟩
    · exact ⟨h1, h2⟩
    · have := StM.eventB_iff.1 h2; omega
  · rintro ⟨h1, h2⟩
    exact ⟨⟨h1, .inl h2⟩, (mergeB_iff.1 h2).1⟩
theorem node_may {c : Com} (h : mayK c = true) : -1 ≤ c.node ∧ c.node < 8 := by
  rcases (mayK_iff.1 h).2 with h1 | ⟨h1, _⟩
  · have := (mergeB_iff.1 h1).1; omega
  · have := (StM.eventB_iff.1 h1).1; omega
theorem seq_may {c : Com} (h : mayK c = true) : 0 ≤ c.seq ∧ c.seq ≤ 1048576 := by
  rcases (mayK_iff.1 h).2 with h1 | ⟨h1, _⟩
  · have := (mergeB_iff.1 h1).2.1; omega
  · have := (StM.eventB_iff.1 h1).2; omega
theorem op_may {c : Com} (h : mayK c = true) (hn : c.node ≠ -1) : mayO c.op = true := by
  rcases (mayK_iff.1 h).2 with h1 | ⟨_, h1⟩
  · exact absurd (mergeB_iff.1 h1).1 hn
  · exact h1
theorem merge_may {c : Com} (h : mayK c = true) (hn : c.node = -1) : mergeB c = true := by
  rcases (mayK_iff.1 h).2 with h1 | ⟨h1, _⟩
  · exact h1
  · have := (StM.eventB_iff.1 h1).1; omega
/-- A commit in bytes. -/
def flatL (ps : List Idn) : List Int := ps.flatMap (·.val)
theorem flatL_cons (x : Idn) (l : List Idn) : flatL (x :: l) = x.val ++ flatL l := by simp [flatL]
theorem flatL_append (a b : List Idn) : flatL (a ++ b) = flatL a ++ flatL b := by simp [flatL]
theorem flatL_len : ∀ l : List Idn, (flatL l).length = 32 * l.length
  | [] => rfl
  | x :: l => by
    rw [flatL_cons, List.length_append, flatL_len l, Idn_len, List.length_cons]
    omega
theorem flatL_B (l : List Idn) : ∀ x ∈ flatL l, B x := by
  intro x hx
  unfold flatL at hx
  rw [List.mem_flatMap] at hx
  obtain ⟨y, _, hy⟩ := hx
  exact y.ok.2 x hy
def headL (c : Com) : List Int := numL (foldI c.node).toNat ++ (numL c.seq.toNat ++ (numL c.gen.toNat ++ numL c.ps.length))
def opL (c : Com) : List Int := if c.node = -1 then [] else putL c.op
def putK (c : Com) : List Int := headL c ++ (flatL c.ps ++ opL c)
def putsK (c : Com) : Option (List Int) := if mayK c = true then some (putK c) else none
/-- So many ids that bytes begin with. -/
def idsL : Nat → List Int → Option (List Idn × List Int)
  | 0, bs => some ([], bs)
  | n + 1, bs => if h : 32 ≤ bs.length ∧ ∀ x ∈ bs.take 32, 0 ≤ x ∧ x ≤ 255 then
      match idsL n (bs.drop 32) with
      | none => none
      | some (l, r) => some (⟨bs.take 32, by rw [List.length_take]; omega, h.2⟩ :: l, r)
    else none
/-- A number of 64 bits as a signed one. -/
def asI (n : Nat) : Int := if n < 9223372036854775808 then (n : Int) else (n : Int) - 18446744073709551616
def opG (node : Int) (bs : List Int) : Option (Opn × List Int) := if node = -1 then some (noO, bs) else getO bs
def keepK (p : Com × List Int) : Option (Com × List Int) := if mayK p.1 = true then some p else none
/-- Four numbers that bytes begin with. -/
def nums : Nat → List Int → Option (List Nat × List Int)
  | 0, bs => some ([], bs)
  | k + 1, bs => if (getL bs).2 = 0 then none else
      match nums k (bs.drop (getL bs).2) with
      | none => none
      | some (l, r) => some ((getL bs).1 :: l, r)
def tailK (a b g n : Nat) (bs : List Int) : Option (Com × List Int) :=
  match idsL n bs with
  | none => none
  | some (ps, r) => match opG (unfoldI a) r with
    | none => none
    | some (o, r2) => keepK (⟨unfoldI a, asI b, asI g, ps, o⟩, r2)
def getK (bs : List Int) : Option (Com × List Int) :=
  match nums 4 bs with
  | some ([a, b, g, n], r) => tailK a b g n r
  | _ => none

theorem idsL_put : ∀ (l : List Idn) (r : List Int), idsL l.length (flatL l ++ r) = some (l, r)
  | [], r => by simp [idsL, flatL]
  | x :: l, r => by
    have hx := Idn_len x
    have e1 : (flatL (x :: l) ++ r).take 32 = x.val := by rw [flatL_cons, List.append_assoc, ← hx, List.take_left]
    have e2 : (flatL (x :: l) ++ r).drop 32 = flatL l ++ r := by rw [flatL_cons, List.append_assoc, ← hx, List.drop_left]
    have hc : 32 ≤ (flatL (x :: l) ++ r).length ∧ ∀ y ∈ (flatL (x :: l) ++ r).take 32, 0 ≤ y ∧ y ≤ 255 := by
      rw [e1]
      exact ⟨by rw [List.length_append, flatL_len, List.length_cons]; omega, x.ok.2⟩
    rw [List.length_cons, idsL, dif_pos hc]
    simp only [e2, idsL_put l r, Option.some.injEq, Prod.mk.injEq, List.cons.injEq, and_true]
    exact Idn_ext e1
theorem idsL_back : ∀ (n : Nat) {bs r : List Int} {l : List Idn}, idsL n bs = some (l, r) → l.length = n ∧ bs = flatL l ++ r
  | 0, bs, r, l, h => by
    simp only [idsL, Option.some.injEq, Prod.mk.injEq] at h
    obtain ⟨rfl, rfl⟩ := h
    exact ⟨rfl, rfl⟩
  | n + 1, bs, r, l, h => by
    rw [idsL] at h
    split at h
    · rename_i hc
      cases hq : idsL n (bs.drop 32) with
      | none => rw [hq] at h; cases h
      | some q =>
        obtain ⟨l1, r1⟩ := q
        rw [hq] at h
        simp only [Option.some.injEq, Prod.mk.injEq] at h
        obtain ⟨rfl, rfl⟩ := h
        obtain ⟨e1, e2⟩ := idsL_back n hq
        refine ⟨by rw [List.length_cons, e1], ?_⟩
        rw [flatL_cons, List.append_assoc, ← e2, List.take_append_drop]
    · cases h
theorem asI_nat {n : Nat} (h : n < 9223372036854775808) : asI n = n := by rw [asI, if_pos h]
theorem asI_bd {n : Nat} (h : n < 18446744073709551616) : I64 (asI n) := by
  unfold I64 asI
  split <;> omega
theorem nums_succ (k m : Nat) (r : List Int) (hm : m < 18446744073709551616) : nums (k + 1) (numL m ++ r) = (nums k r).map fun p => (m :: p.1, p.2) := by
  have g := getL_num m r hm
  have hp := numL_pos m
  rw [nums, g]
  simp only [List.drop_left]
  rw [if_neg (by omega)]
  cases nums k r <;> rfl
theorem head_nums {c : Com} (h : mayK c = true) (r : List Int) : nums 4 (headL c ++ r) = some ([(foldI c.node).toNat, c.seq.toNat, c.gen.toNat, c.ps.length], r) := by
  have hn := node_may h
  have hs := seq_may h
  have hg := lineB_iff.1 (mayK_iff.1 h).1
  have hf := foldI_bd (k := c.node) (by unfold I64; omega)
  unfold headL
  simp only [List.append_assoc]
  rw [nums_succ 3 _ _ (by omega), nums_succ 2 _ _ (by omega), nums_succ 1 _ _ (by omega), nums_succ 0 _ _ (by omega)]
  rfl
/-- What is put is got, whatever stands behind. -/
theorem get_putK {c : Com} (h : mayK c = true) (r : List Int) : getK (putK c ++ r) = some (c, r) := by
  have hn := node_may h
  have hs := seq_may h
  have hg := lineB_iff.1 (mayK_iff.1 h).1
  have hI : I64 c.node := by unfold I64; omega
  have hf := foldI_bd hI
  have e : putK c ++ r = headL c ++ (flatL c.ps ++ (opL c ++ r)) := by unfold putK; simp only [List.append_assoc]
  have eu : unfoldI (((foldI c.node).toNat : Nat) : Int) = c.node := by rw [show (((foldI c.node).toNat : Nat) : Int) = foldI c.node by omega, unfold_fold hI]
  have es : asI c.seq.toNat = c.seq := by rw [asI_nat (by omega)]; omega
  have eg : asI c.gen.toNat = c.gen := by rw [asI_nat (by omega)]; omega
  have eo : opG c.node (opL c ++ r) = some (c.op, r) := by
    unfold opG opL
    by_cases h1 : c.node = -1
    · rw [if_pos h1, if_pos h1, (mergeB_iff.1 (merge_may h h1)).2.2.1]
      rfl
    · rw [if_neg h1, if_neg h1]
      exact get_put (op_may h h1) r
  unfold getK
  rw [e, head_nums h]
  simp only [tailK, idsL_put, eu, es, eg, eo]
  exact if_pos h
theorem get_putK0 {c : Com} (h : mayK c = true) : getK (putK c) = some (c, []) := by
  have := get_putK h []
  rwa [List.append_nil] at this
theorem nums_back : ∀ (k : Nat) {bs r : List Int} {l : List Nat}, (∀ x ∈ bs, B x) → nums k bs = some (l, r) → l.length = k ∧ (∀ n ∈ l, n < 18446744073709551616) ∧ bs = l.flatMap numL ++ r
  | 0, bs, r, l, _, h => by
    simp only [nums, Option.some.injEq, Prod.mk.injEq] at h
    obtain ⟨rfl, rfl⟩ := h
    exact ⟨rfl, by simp, rfl⟩
  | k + 1, bs, r, l, hb, h => by
    rw [nums] at h
    split at h
    · cases h
    · rename_i hk
      obtain ⟨h1, h2, h3, h4, h5⟩ := getL_back hb (N := (getL bs).1) (k := (getL bs).2) rfl hk
      cases hq : nums k (bs.drop (getL bs).2) with
      | none => rw [hq] at h; cases h
      | some q =>
        obtain ⟨l1, r1⟩ := q
        rw [hq] at h
        simp only [Option.some.injEq, Prod.mk.injEq] at h
        obtain ⟨rfl, rfl⟩ := h
        obtain ⟨e1, e2, e3⟩ := nums_back k (fun x hx => hb x (List.mem_of_mem_drop hx)) hq
        refine ⟨by rw [List.length_cons, e1], fun n hn => ?_, ?_⟩
        · rcases List.mem_cons.1 hn with rfl | hn
          · exact h1
          · exact e2 n hn
        · rw [List.flatMap_cons, List.append_assoc, ← e3, ← h5, List.take_append_drop]
/-- What is got may be, and is put as the same bytes. -/
theorem put_getK {bs r : List Int} {c : Com} (hb : ∀ x ∈ bs, B x) (h : getK bs = some (c, r)) : mayK c = true ∧ bs = putK c ++ r := by
  unfold getK at h
  split at h
  · rename_i a b g n r0 hq
    obtain ⟨_, q2, q3⟩ := nums_back 4 hb hq
    have ha := q2 a (by simp)
    have hbb := q2 b (by simp)
    have hg := q2 g (by simp)
    unfold tailK at h
    split at h
    · cases h
    · rename_i ps r1 hi
      obtain ⟨i1, i2⟩ := idsL_back n hi
      split at h
      · cases h
      · rename_i o r2 ho
        unfold keepK at h
        split at h
        · rename_i hm
          simp only [Option.some.injEq, Prod.mk.injEq] at h
          obtain ⟨rfl, rfl⟩ := h
          refine ⟨hm, ?_⟩
          have hs := seq_may hm
          have hgg := lineB_iff.1 (mayK_iff.1 hm).1
          have ef : (foldI (unfoldI (a : Int))).toNat = a := by rw [fold_unfold (by omega)]; omega
          have es : (asI b).toNat = b := by
            have h1 : 0 ≤ asI b := hs.1
            unfold asI at h1 ⊢
            split <;> omega
          have eg : (asI g).toNat = g := by
            have h1 : 1 ≤ asI g := hgg.1
            unfold asI at h1 ⊢
            split <;> omega
          have hr1 : ∀ x ∈ r1, B x := fun x hx => hb x (by rw [q3, i2]; simp [hx])
          have eo : r1 = (if unfoldI (a : Int) = -1 then [] else putL o) ++ r2 := by
            unfold opG at ho
            split at ho
            · rename_i h1
              simp only [Option.some.injEq, Prod.mk.injEq] at ho
              rw [if_pos h1, ho.2]
              rfl
            · rename_i h1
              rw [if_neg h1]
              exact (put_get hr1 ho).2
          unfold putK headL opL
          simp only [ef, es, eg, i1]
          rw [q3, i2]
          conv => lhs; rw [eo]
          simp only [List.flatMap_cons, List.flatMap_nil, List.append_nil, List.append_assoc]
        · cases h
  · cases h
/-- Commits have the same bytes only if they are the same. -/
theorem putK_inj {c d : Com} (hc : mayK c = true) (hd : mayK d = true) (h : putK c = putK d) : c = d := by
  have h1 := get_putK0 hc
  rw [h, get_putK0 hd] at h1
  exact (Prod.mk.inj (Option.some.inj h1)).1.symm
theorem headL_B (c : Com) : ∀ x ∈ headL c, B x := by
  intro x hx
  unfold headL at hx
  simp only [List.mem_append] at hx
  rcases hx with hx | hx | hx | hx <;> exact numL_range _ x hx
theorem opL_B (c : Com) : ∀ x ∈ opL c, B x := by
  intro x hx
  unfold opL at hx
  split at hx
  · simp at hx
  · exact putL_B _ x hx
theorem putK_B (c : Com) : ∀ x ∈ putK c, B x := by
  intro x hx
  unfold putK at hx
  simp only [List.mem_append] at hx
  rcases hx with hx | hx | hx
  · exact headL_B c x hx
  · exact flatL_B _ x hx
  · exact opL_B c x hx
theorem headL_len {c : Com} (h : mayK c = true) : 4 ≤ (headL c).length ∧ (headL c).length ≤ 40 := by
  have hn := node_may h
  have hs := seq_may h
  have hg := lineB_iff.1 (mayK_iff.1 h).1
  have hf := foldI_bd (k := c.node) (by unfold I64; omega)
  have a1 := numL_pos (foldI c.node).toNat
  have a2 := numL_pos c.seq.toNat
  have a3 := numL_pos c.gen.toNat
  have a4 := numL_pos c.ps.length
  have b1 := numL_ten (n := (foldI c.node).toNat) (by omega)
  have b2 := numL_ten (n := c.seq.toNat) (by omega)
  have b3 := numL_ten (n := c.gen.toNat) (by omega)
  have b4 := numL_ten (n := c.ps.length) (by omega)
  unfold headL
  simp only [List.length_append]
  omega
theorem opL_len {c : Com} (h : mayK c = true) : (opL c).length ≤ 60 := by
  unfold opL
  split
  · simp
  · rename_i hn
    exact putL_len (op_may h hn)
theorem putK_len {c : Com} (h : mayK c = true) : (putK c).length ≤ 400 := by
  have h1 := headL_len h
  have h2 := opL_len h
  have h3 := flatL_len c.ps
  have hg := lineB_iff.1 (mayK_iff.1 h).1
  unfold putK
  simp only [List.length_append]
  omega
/-- An operation has three bytes at least. -/
theorem putL_three (o : Opn) (h : mayO o = true) : 3 ≤ (putL o).length := by
  obtain ⟨hk, _⟩ := mayO_kind h
  have h1 := numL_pos o.kind.toNat
  have h2 := keyL_len hk
  have h3 : 1 ≤ (textL (bytesL o.key)).length := by
    have := numL_pos (bytesL o.key).length
    unfold textL
    rw [List.length_append]
    omega
  have h4 : 1 ≤ (tailL o).length := by
    unfold tailL
    split
    · exact numL_pos _
    · have := numL_pos (bytesL o.elem).length
      unfold textL
      rw [List.length_append]
      omega
  unfold putL
  simp only [List.length_append]
  omega
theorem putK_least {c : Com} (h : mayK c = true) (hn : c.node ≠ -1) : 32 * c.ps.length + 7 ≤ (putK c).length := by
  have h1 := headL_len h
  have h2 := flatL_len c.ps
  have h3 := putL_three c.op (op_may h hn)
  unfold putK opL
  rw [if_neg hn]
  simp only [List.length_append]
  omega
theorem putsK_some {c : Com} (h : mayK c = true) : putsK c = some (putK c) := by rw [putsK, if_pos h]
theorem putsK_none {c : Com} (h : mayK c = false) : putsK c = none := by rw [putsK, if_neg (by rw [h]; simp)]
/-- Of another operation, or event. -/
theorem put_op {c : Com} (o : Opn) (h : mayK c = true) (h2 : mayK { c with op := o } = true) : putK { c with op := o } = putK c ↔ o = c.op := by
  constructor
  · intro e
    have := putK_inj h2 h e
    rw [← this]
  · rintro rfl; rfl
theorem put_seq {c : Com} (q : Int) (h : mayK c = true) (h2 : mayK { c with seq := q } = true) : putK { c with seq := q } = putK c ↔ q = c.seq := by
  constructor
  · intro e
    have := putK_inj h2 h e
    rw [← this]
  · rintro rfl; rfl
end Go.Proofs.YtechkdhehipliaaDoor.CmM
