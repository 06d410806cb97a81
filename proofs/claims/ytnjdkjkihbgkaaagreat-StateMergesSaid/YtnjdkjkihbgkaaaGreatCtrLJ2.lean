/- Plain facts on counts with more, and merged. No condition. | Plain facts on registers: which may be, which one is newer, what a key has, with one more, and merged. No condition. -/
import Derived.Test.YtnjdkjkihbgkaaaGreatCtrM
import Derived.Test.YtnjdkjkihbgkaaaGreatKeyMJ4
namespace Go.Proofs.YtnjdkjkihbgkaaaGreat.CtrL
set_option maxRecDepth 100000
open Go Byt OpsM Rise CtrM

/-- A number of 64 bits, of either sign. -/
def In64 (x : Int) : Prop := -9223372036854775808 ≤ x ∧ x ≤ 9223372036854775807
def InL (l : List Cn) : Prop := ∀ c ∈ l, In64 c.n
theorem w64_in (x : Int) : In64 (w64 x) := by unfold In64; rw [w64_eq]; omega
theorem w64_id {x : Int} (h : In64 x) : w64 x = x := by unfold In64 at h; rw [w64_eq]; omega
theorem getC_in {l : List Cn} (h : InL l) (k : ByteArray) : In64 (getC l k) := by
  by_cases h0 : getC l k = 0
  · rw [h0]; unfold In64; omega
  · obtain ⟨c, hc, _, e⟩ := getC_ex h0
    rw [← e]
    exact h c hc

/-- With more. -/
theorem inc_may {l : List Cn} {k : ByteArray} (n : Int) (h : mayC l = true) (hk : keyL (bytesL k) = true) : mayC (incC l k n) = true := by
  unfold incC
  rw [if_pos ⟨h, hk⟩]
  exact putC_may h hk
theorem inc_get {l : List Cn} {k : ByteArray} (n : Int) (h : mayC l = true) (hk : keyL (bytesL k) = true) (k' : ByteArray) : getC (incC l k n) k' = if k' = k then w64 (getC l k + n) else getC l k' := by
  unfold incC
  rw [if_pos ⟨h, hk⟩]
  exact getC_put (mayC_iff.1 h).2 k'
theorem inc_no {l : List Cn} {k : ByteArray} (n : Int) (h : mayC l = false ∨ keyL (bytesL k) = false) : incC l k n = [] := by
  unfold incC
  rw [if_neg]
  rintro ⟨a, b⟩
  rcases h with h | h
  · rw [a] at h; cases h
  · rw [b] at h; cases h
theorem putC_sub {k : ByteArray} {n : Int} {l : List Cn} {c : Cn} (h : c ∈ putC k n false l) : c = ⟨k, n⟩ ∨ c ∈ l := by
  rcases (putC_mem k n l c).1 h with ⟨e, _⟩ | ⟨e, _⟩
  · exact .inl e
  · exact .inr e
theorem inc_in {l : List Cn} (k : ByteArray) (n : Int) (h : InL l) : InL (incC l k n) := by
  intro c hc
  unfold incC at hc
  split at hc
  · rcases putC_sub hc with rfl | hc
    · exact w64_in _
    · exact h c hc
  · simp at hc

/-- Merged. -/
theorem sum_zero {base a b : List Cn} {k : ByteArray} (h0 : ∀ c ∈ base, c.key ≠ k) (h1 : ∀ c ∈ a, c.key ≠ k) (h2 : ∀ c ∈ b, c.key ≠ k) : sumC base a b k = 0 := by
  unfold sumC
  rw [getC_none h0, getC_none h1, getC_none h2]
  rfl
theorem fold_may (base a b : List Cn) : ∀ (l out : List Cn), mayC out = true → (∀ c ∈ l, keyL (bytesL c.key) = true) → mayC (l.foldl (mergeF base a b) out) = true
  | [], out, h, _ => h
  | c :: r, out, h, hk => by
    rw [List.foldl_cons]
    exact fold_may base a b r _ (putC_may h (hk c (by simp))) (fun d hd => hk d (by simp [hd]))
theorem fold_get (base a b : List Cn) (k : ByteArray) : ∀ (l out : List Cn), mayC out = true → (∀ c ∈ l, keyL (bytesL c.key) = true) → getC (l.foldl (mergeF base a b) out) k = if ∃ c ∈ l, c.key = k then sumC base a b k else getC out k
  | [], out, h, _ => by simp
  | c :: r, out, h, hk => by
    have hm : mayC (mergeF base a b out c) = true := putC_may (n := sumC base a b c.key) h (hk c (by simp))
    rw [List.foldl_cons, fold_get base a b k r _ hm (fun d hd => hk d (by simp [hd]))]
    by_cases hr : ∃ d ∈ r, d.key = k
    · rw [if_pos hr, if_pos]
      obtain ⟨d, hd, e⟩ := hr
      exact ⟨d, by simp [hd], e⟩
    · rw [if_neg hr]
      show getC (putC c.key (sumC base a b c.key) false out) k = _
      rw [getC_put (mayC_iff.1 h).2]
      by_cases hc : c.key = k
      · rw [if_pos hc.symm, if_pos ⟨c, by simp, hc⟩, hc]
      · rw [if_neg (fun e => hc e.symm), if_neg]
        rintro ⟨d, hd, e⟩
        rcases List.mem_cons.1 hd with rfl | hd
        · exact hc e
        · exact hr ⟨d, hd, e⟩
theorem keys_ok {l : List Cn} (h : mayC l = true) : ∀ c ∈ l, keyL (bytesL c.key) = true := fun c hc => (okC_iff.1 ((mayC_iff.1 h).1 c hc)).1
section
variable {base a b : List Cn} (h0 : mayC base = true) (h1 : mayC a = true) (h2 : mayC b = true)
include h0 h1 h2
theorem all_ok : ∀ c ∈ base ++ a ++ b, keyL (bytesL c.key) = true := by
  intro c hc
  rcases List.mem_append.1 hc with hc | hc
  · rcases List.mem_append.1 hc with hc | hc
    · exact keys_ok h0 c hc
    · exact keys_ok h1 c hc
  · exact keys_ok h2 c hc
theorem merge_may : mayC (mergeC base a b) = true := by
  rw [mergeC_fold ⟨h0, h1, h2⟩]
  exact fold_may base a b _ _ rfl (all_ok h0 h1 h2)
theorem merge_get (k : ByteArray) : getC (mergeC base a b) k = sumC base a b k := by
  rw [mergeC_fold ⟨h0, h1, h2⟩, fold_get base a b k _ _ rfl (all_ok h0 h1 h2)]
  by_cases h : ∃ c ∈ base ++ a ++ b, c.key = k
  · rw [if_pos h]
  · rw [if_neg h, sum_zero]
    · rfl
    · intro c hc e; exact h ⟨c, by simp [hc], e⟩
    · intro c hc e; exact h ⟨c, by simp [hc], e⟩
    · intro c hc e; exact h ⟨c, by simp [hc], e⟩
/-- What else tells what is merged. -/
theorem merge_is {m : List Cn} (hm : mayC m = true) (h : ∀ k, getC m k = sumC base a b k) : m = mergeC base a b :=
  det hm (merge_may h0 h1 h2) (fun k => by rw [h, merge_get h0 h1 h2])
theorem merge_in : InL (mergeC base a b) := by
  intro c hc
  obtain ⟨e, _⟩ := (mem_iff (merge_may h0 h1 h2) c).1 hc
  rw [← e, merge_get h0 h1 h2]
  exact w64_in _
theorem merge_turn : mergeC base a b = mergeC base b a :=
  det (merge_may h0 h1 h2) (merge_may h0 h2 h1) (fun k => by
    rw [merge_get h0 h1 h2, merge_get h0 h2 h1]
    unfold sumC
    rw [Int.add_comm])
end
theorem merge_no {base a b : List Cn} (h : mayC base = false ∨ mayC a = false ∨ mayC b = false) : mergeC base a b = [] := by
  unfold mergeC
  rw [if_neg]
  rintro ⟨x, y, z⟩
  rcases h with h | h | h
  · rw [x] at h; cases h
  · rw [y] at h; cases h
  · rw [z] at h; cases h
theorem merge_one {base b : List Cn} (h0 : mayC base = true) (h2 : mayC b = true) (hb : InL b) : mergeC base base b = b :=
  det (merge_may h0 h0 h2) h2 (fun k => by
    rw [merge_get h0 h0 h2]
    have h := getC_in hb k
    unfold In64 at h
    unfold sumC
    rw [w64_eq, w64_eq]
    omega)
theorem merge_sum {base : List Cn} {k : ByteArray} (n m : Int) (h0 : mayC base = true) (hk : keyL (bytesL k) = true) (hb : InL base) : mergeC base (incC base k n) (incC base k m) = incC (incC base k n) k m :=
  det (merge_may h0 (inc_may n h0 hk) (inc_may m h0 hk)) (inc_may m (inc_may n h0 hk) hk) (fun x => by
    rw [merge_get h0 (inc_may n h0 hk) (inc_may m h0 hk), inc_get m (inc_may n h0 hk) hk]
    unfold sumC
    rw [inc_get n h0 hk, inc_get m h0 hk, inc_get n h0 hk]
    have h := getC_in hb x
    unfold In64 at h
    by_cases hx : x = k
    · subst hx
      simp only [if_true, w64_eq]
      omega
    · simp only [if_neg hx, w64_eq]
      omega)
theorem merge_three {base a b c : List Cn} (h0 : mayC base = true) (h1 : mayC a = true) (h2 : mayC b = true) (h3 : mayC c = true) : mergeC base (mergeC base a b) c = mergeC base a (mergeC base b c) :=
  det (merge_may h0 (merge_may h0 h1 h2) h3) (merge_may h0 h1 (merge_may h0 h2 h3)) (fun k => by
    rw [merge_get h0 (merge_may h0 h1 h2) h3, merge_get h0 h1 (merge_may h0 h2 h3)]
    unfold sumC
    rw [merge_get h0 h1 h2, merge_get h0 h2 h3]
    unfold sumC
    simp only [w64_eq]
    omega)
theorem inc_back {l : List Cn} {k : ByteArray} (n : Int) (h : mayC l = true) (hk : keyL (bytesL k) = true) (hb : InL l) : incC (incC l k n) k (-n) = l :=
  det (inc_may _ (inc_may n h hk) hk) h (fun x => by
    rw [inc_get _ (inc_may n h hk) hk, inc_get n h hk, inc_get n h hk]
    have h := getC_in hb x
    unfold In64 at h
    by_cases hx : x = k
    · subst hx
      simp only [if_true, w64_eq]
      omega
    · rw [if_neg hx, if_neg hx])
theorem inc_zero {l : List Cn} {k : ByteArray} (h : mayC l = true) (hk : keyL (bytesL k) = true) (hb : InL l) : incC l k 0 = l :=
  det (inc_may _ h hk) h (fun x => by
    rw [inc_get _ h hk]
    have h := getC_in hb x
    unfold In64 at h
    by_cases hx : x = k
    · subst hx
      rw [if_pos rfl, w64_eq]
      omega
    · rw [if_neg hx])
theorem may_nil : mayC [] = true := rfl
theorem merge_nil_left {l : List Cn} (h : mayC l = true) (hb : InL l) : mergeC [] l [] = l := by
  rw [merge_turn may_nil h may_nil, merge_one may_nil h hb]
theorem merge_nil_right {l : List Cn} (h : mayC l = true) (hb : InL l) : mergeC [] [] l = l := merge_one may_nil h hb
/-- A key is there just if it counts something. -/
theorem key_iff {l : List Cn} (h : mayC l = true) (k : ByteArray) : (∃ c ∈ l, c.key = k) ↔ getC l k ≠ 0 := by
  constructor
  · rintro ⟨c, hc, rfl⟩
    obtain ⟨e, hn⟩ := (mem_iff h c).1 hc
    rw [e]
    exact hn
  · intro hn
    obtain ⟨c, hc, e, _⟩ := getC_ex hn
    exact ⟨c, hc, e⟩
end Go.Proofs.YtnjdkjkihbgkaaaGreat.CtrL
namespace Go.Proofs.YtnjdkjkihbgkaaaGreat.RegM
set_option maxRecDepth 100000
open Go Byt OpsM Rise

/-- A register. -/
structure Rg where
  key : ByteArray
  elem : ByteArray
  gen : Int
  node : Int
  seq : Int
/-- Is the first one newer? -/
def newerB (a b : Rg) : Bool :=
  if a.gen ≠ b.gen then decide (b.gen < a.gen)
  else if a.node ≠ b.node then decide (b.node < a.node)
  else if a.seq ≠ b.seq then decide (b.seq < a.seq)
  else ltS b.elem a.elem
theorem newer_iff {a b : Rg} : newerB a b = true ↔ b.gen < a.gen ∨ (a.gen = b.gen ∧ (b.node < a.node ∨ (a.node = b.node ∧ (b.seq < a.seq ∨ (a.seq = b.seq ∧ ltS b.elem a.elem = true))))) := by
  unfold newerB
  by_cases h1 : a.gen = b.gen
  · rw [if_neg (by simpa using h1)]
    by_cases h2 : a.node = b.node
    · rw [if_neg (by simpa using h2)]
      by_cases h3 : a.seq = b.seq
      · rw [if_neg (by simpa using h3)]
        constructor
        · intro h
          exact .inr ⟨h1, .inr ⟨h2, .inr ⟨h3, h⟩⟩⟩
        · rintro (h | ⟨_, h | ⟨_, h | ⟨_, h⟩⟩⟩)
          · omega
          · omega
          · omega
          · exact h
      · rw [if_pos h3, decide_eq_true_eq]
        constructor
        · intro h
          exact .inr ⟨h1, .inr ⟨h2, .inl h⟩⟩
        · rintro (h | ⟨_, h | ⟨_, h | ⟨h, _⟩⟩⟩)
          · omega
          · omega
          · exact h
          · exact absurd h h3
    · rw [if_pos h2, decide_eq_true_eq]
      constructor
      · intro h
        exact .inr ⟨h1, .inl h⟩
      · rintro (h | ⟨_, h | ⟨h, _⟩⟩)
        · omega
        · exact h
        · exact absurd h h2
  · rw [if_pos h1, decide_eq_true_eq]
    constructor
    · intro h
      exact .inl h
    · rintro (h | ⟨h, _⟩)
      · exact h
      · exact absurd h h1
theorem newer_irrefl (a : Rg) : newerB a a = false := by
  cases h : newerB a a with
  | false => rfl
  | true =>
    rw [newer_iff] at h
    rcases h with h | ⟨_, h | ⟨_, h | ⟨_, h⟩⟩⟩
    · omega
    · omega
    · omega
    · rw [strictS.irrefl] at h; cases h
theorem newer_trans {a b c : Rg} (h : newerB a b = true) (h2 : newerB b c = true) : newerB a c = true := by
  rw [newer_iff] at h h2 ⊢
  rcases h with h | ⟨e1, h | ⟨e2, h | ⟨e3, h⟩⟩⟩ <;> rcases h2 with k | ⟨f1, k | ⟨f2, k | ⟨f3, k⟩⟩⟩
  all_goals first
    | exact .inl (by omega)
    | exact .inr ⟨by omega, .inl (by omega)⟩
    | exact .inr ⟨by omega, .inr ⟨by omega, .inl (by omega)⟩⟩
    | exact .inr ⟨by omega, .inr ⟨by omega, .inr ⟨by omega, strictS.trans _ _ _ k h⟩⟩⟩
theorem newer_asymm {a b : Rg} (h : newerB a b = true) : newerB b a = false := by
  cases hb : newerB b a with
  | false => rfl
  | true =>
    have := newer_trans h hb
    rw [newer_irrefl] at this
    cases this
/-- Of two of one key that differ just one is newer. -/
theorem newer_tri {a b : Rg} (hk : a.key = b.key) (h : newerB a b = false) (h2 : newerB b a = false) : a = b := by
  have n1 : ¬ newerB a b = true := by rw [h]; simp
  have n2 : ¬ newerB b a = true := by rw [h2]; simp
  rw [newer_iff] at n1 n2
  have e1 : a.gen = b.gen := by
    by_cases h1 : b.gen < a.gen
    · exact absurd (.inl h1) n1
    · by_cases h2 : a.gen < b.gen
      · exact absurd (.inl h2) n2
      · omega
  have e2 : a.node = b.node := by
    by_cases h1 : b.node < a.node
    · exact absurd (.inr ⟨e1, .inl h1⟩) n1
    · by_cases h2 : a.node < b.node
      · exact absurd (.inr ⟨e1.symm, .inl h2⟩) n2
      · omega
  have e3 : a.seq = b.seq := by
    by_cases h1 : b.seq < a.seq
    · exact absurd (.inr ⟨e1, .inr ⟨e2, .inl h1⟩⟩) n1
    · by_cases h2 : a.seq < b.seq
      · exact absurd (.inr ⟨e1.symm, .inr ⟨e2.symm, .inl h2⟩⟩) n2
      · omega
  have e4 : a.elem = b.elem := by
    cases h1 : ltS b.elem a.elem with
    | true => exact absurd (.inr ⟨e1, .inr ⟨e2, .inr ⟨e3, h1⟩⟩⟩) n1
    | false =>
      cases h2 : ltS a.elem b.elem with
      | true => exact absurd (.inr ⟨e1.symm, .inr ⟨e2.symm, .inr ⟨e3.symm, h2⟩⟩⟩) n2
      | false => exact (strictS.tri _ _ h1 h2).symm
  cases a; cases b
  simp only at hk e1 e2 e3 e4
  subst hk e1 e2 e3 e4
  rfl

def oneR (r : Rg) : Bool := keyL (bytesL r.key) && (keyL (bytesL r.elem) && (decide (0 < r.gen) && (decide (0 ≤ r.node) && (decide (r.node < 8) && decide (0 < r.seq)))))
def mayR (l : List Rg) : Bool := l.all oneR && risesB Rg.key ltS l
def getR : List Rg → ByteArray → Option Rg
  | [], _ => none
  | c :: r, k => if c.key = k then some c else getR r k
theorem getR_cons (c : Rg) (r : List Rg) (k : ByteArray) : getR (c :: r) k = if c.key = k then some c else getR r k := rfl
theorem mayR_iff {l : List Rg} : mayR l = true ↔ (∀ c ∈ l, oneR c = true) ∧ Rises Rg.key ltS l := by
  unfold mayR
  rw [Bool.and_eq_true, List.all_eq_true, risesB_iff strictS]
theorem getR_none : ∀ {l : List Rg} {k : ByteArray}, (∀ c ∈ l, c.key ≠ k) → getR l k = none
  | [], _, _ => rfl
  | c :: r, k, h => by
    rw [getR_cons, if_neg (h c (by simp)), getR_none (fun d hd => h d (by simp [hd]))]
theorem getR_some : ∀ {l : List Rg} {k : ByteArray} {x : Rg}, getR l k = some x → x ∈ l ∧ x.key = k
  | [], _, _, h => by cases h
  | c :: r, k, x, h => by
    rw [getR_cons] at h
    by_cases hk : c.key = k
    · rw [if_pos hk] at h
      injection h with h
      subst h
      exact ⟨by simp, hk⟩
    · rw [if_neg hk] at h
      obtain ⟨h1, h2⟩ := getR_some h
      exact ⟨by simp [h1], h2⟩
theorem getR_mem : ∀ {l : List Rg} (_ : Rises Rg.key ltS l) {c : Rg} (_ : c ∈ l), getR l c.key = some c
  | [], _, c, h => by simp at h
  | d :: r, hr, c, h => by
    rw [getR_cons]
    obtain ⟨h1, h2⟩ := List.pairwise_cons.1 hr
    rcases List.mem_cons.1 h with rfl | hc
    · rw [if_pos rfl]
    · rw [if_neg (strictS.ne (h1 c hc)), getR_mem h2 hc]
/-- Registers that rise are told by what each key has. -/
theorem detR {l m : List Rg} (hl : Rises Rg.key ltS l) (hm : Rises Rg.key ltS m) (h : ∀ k, getR l k = getR m k) : l = m := by
  refine Rises.ext strictS hl hm (fun c => ⟨fun hc => ?_, fun hc => ?_⟩)
  · have := getR_mem hl hc
    rw [h] at this
    exact (getR_some this).1
  · have := getR_mem hm hc
    rw [← h] at this
    exact (getR_some this).1

/-- The newer one of two. -/
def best (r y : Rg) : Rg := if newerB r y = true then r else y
/-- One put in. -/
def ins (r : Rg) : Bool → List Rg → List Rg
  | done, [] => if done = true then [] else [r]
  | done, x :: l =>
    (if done = false ∧ ltS r.key x.key = true then [r] else []) ++ (if x.key ≠ r.key then x :: ins r (done || ltS r.key x.key) l else best r x :: ins r true l)
theorem ins_done (r : Rg) : ∀ {l : List Rg}, (∀ x ∈ l, x.key ≠ r.key) → ins r true l = l
  | [], _ => rfl
  | x :: l, h => by
    rw [ins, if_neg (by simp), if_pos (h x (by simp)), Bool.true_or, ins_done r (fun y hy => h y (by simp [hy]))]
    rfl
theorem best_key {r y : Rg} (h : y.key = r.key) : (best r y).key = r.key := by
  unfold best
  split
  · rfl
  · exact h
/-- What stands in it, of a list that rises. -/
theorem ins_rises (r : Rg) : ∀ {l : List Rg}, Rises Rg.key ltS l → Rises Rg.key ltS (ins r false l) ∧ ∀ k, getR (ins r false l) k = if k = r.key then some (match getR l r.key with | none => r | some y => best r y) else getR l k
  | [], _ => by
    refine ⟨by simp [ins, Rises], fun k => ?_⟩
    by_cases hk : k = r.key
    · subst hk; simp [ins, getR]
    · rw [if_neg hk]
      simp only [ins, Bool.false_eq_true, if_false, getR_cons]
      rw [if_neg (fun e => hk e.symm)]
  | x :: l, h => by
    obtain ⟨h1, h2⟩ := List.pairwise_cons.1 h
    cases hlt : ltS r.key x.key with
    | true =>
      have hall : ∀ y ∈ x :: l, ltS r.key y.key = true := by
        intro y hy
        rcases List.mem_cons.1 hy with rfl | hy
        · exact hlt
        · exact strictS.trans _ _ _ hlt (h1 y hy)
      have hne : ∀ y ∈ x :: l, y.key ≠ r.key := fun y hy e => strictS.ne (hall y hy) e.symm
      have e : ins r false (x :: l) = r :: x :: l := by
        rw [ins, if_pos ⟨rfl, hlt⟩, if_pos (hne x (by simp)), hlt, Bool.false_or, ins_done r (fun y hy => hne y (by simp [hy]))]
        rfl
      rw [e]
      refine ⟨List.pairwise_cons.2 ⟨hall, h⟩, fun k => ?_⟩
      rw [getR_cons]
      by_cases hk : k = r.key
      · rw [if_pos hk.symm, if_pos hk, getR_none hne]
      · rw [if_neg (fun e => hk e.symm), if_neg hk]
    | false =>
      by_cases hk : x.key = r.key
      · have hne : ∀ y ∈ l, y.key ≠ r.key := fun y hy e => strictS.ne (h1 y hy) (by rw [hk, e])
        have e : ins r false (x :: l) = best r x :: l := by
          rw [ins, if_neg (by rw [hlt]; simp), if_neg (by simp [hk]), ins_done r hne]
          rfl
        rw [e]
        have hb := best_key (r := r) (y := x) hk
        refine ⟨List.pairwise_cons.2 ⟨fun y hy => by rw [hb, ← hk]; exact h1 y hy, h2⟩, fun k => ?_⟩
        rw [getR_cons, hb]
        by_cases hkk : k = r.key
        · rw [if_pos hkk.symm, if_pos hkk, getR_cons, if_pos hk]
        · rw [if_neg (fun e => hkk e.symm), if_neg hkk, getR_cons, if_neg (by rw [hk]; exact fun e => hkk e.symm)]
      · obtain ⟨i1, i2⟩ := ins_rises r h2
        have hxr : ltS x.key r.key = true := by
          cases hx : ltS x.key r.key with
          | true => rfl
          | false => exact absurd (strictS.tri _ _ hx hlt) hk
        have e : ins r false (x :: l) = x :: ins r false l := by
          rw [ins, if_neg (by rw [hlt]; simp), if_pos hk, hlt]
          rfl
        rw [e]
        refine ⟨List.pairwise_cons.2 ⟨fun y hy => ?_, i1⟩, fun k => ?_⟩
        · have hy2 := getR_mem i1 hy
          rw [i2] at hy2
          by_cases hyk : y.key = r.key
          · rw [hyk]; exact hxr
          · rw [if_neg hyk] at hy2
            exact h1 y (getR_some hy2).1
        · rw [getR_cons, getR_cons, getR_cons, if_neg hk, i2]
          by_cases hkk : k = r.key
          · rw [if_pos hkk, if_pos hkk, if_neg (by rw [hkk]; exact hk)]
          · rw [if_neg hkk, if_neg hkk]
end Go.Proofs.YtnjdkjkihbgkaaaGreat.RegM
