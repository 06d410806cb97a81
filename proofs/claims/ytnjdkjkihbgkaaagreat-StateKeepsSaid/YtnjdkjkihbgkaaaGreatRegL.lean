/- Plain facts on registers with one more, and merged. No condition. -/
import Derived.Test.YtnjdkjkihbgkaaaGreatCtrLJ2
namespace Go.Proofs.YtnjdkjkihbgkaaaGreat.RegL
set_option maxRecDepth 100000
open Go Byt OpsM Rise RegM

/-- The newer one of two. -/
theorem best_turn {a b : Rg} (h : a.key = b.key) : best a b = best b a := by
  unfold best
  cases h1 : newerB a b with
  | true =>
    rw [newer_asymm h1]
    simp
  | false =>
    cases h2 : newerB b a with
    | true => simp
    | false => simp [newer_tri h h1 h2]
theorem best_self (a : Rg) : best a a = a := by
  unfold best
  split <;> rfl
theorem newer_ge {a b c : Rg} (k1 : a.key = b.key) (k2 : b.key = c.key) (h1 : newerB a b = false) (h2 : newerB b c = false) : newerB a c = false := by
  cases h3 : newerB b a with
  | false => rw [newer_tri k1 h1 h3]; exact h2
  | true =>
    cases h4 : newerB c b with
    | false => rw [← newer_tri k2 h2 h4]; exact h1
    | true => exact newer_asymm (newer_trans h4 h3)
theorem best_three {a b c : Rg} (k1 : a.key = b.key) (k2 : b.key = c.key) : best (best a b) c = best a (best b c) := by
  cases h1 : newerB a b with
  | true =>
    cases h2 : newerB b c with
    | true => simp [best, h1, h2, newer_trans h1 h2]
    | false => simp [best, h1, h2]
  | false =>
    cases h2 : newerB b c with
    | true => simp [best, h1, h2]
    | false => simp [best, h1, h2, newer_ge k1 k2 h1 h2]
/-- None is newer than it. -/
theorem best_not (a b : Rg) : newerB a (best a b) = false ∧ newerB b (best a b) = false := by
  unfold best
  cases h : newerB a b with
  | true => exact ⟨newer_irrefl a, newer_asymm h⟩
  | false => exact ⟨h, newer_irrefl b⟩
theorem best_or (a b : Rg) : best a b = a ∨ best a b = b := by
  unfold best
  split
  · exact .inl rfl
  · exact .inr rfl

/-- The newer one of two that may be none. -/
def bestO : Option Rg → Option Rg → Option Rg
  | none, y => y
  | some x, none => some x
  | some x, some y => some (best x y)
/-- It is of that key, if it is there. -/
def Of (k : ByteArray) (o : Option Rg) : Prop := ∀ x, o = some x → x.key = k
theorem of_get (l : List Rg) (k : ByteArray) : Of k (getR l k) := fun _ h => (getR_some h).2
theorem Of.both {k : ByteArray} {x y : Option Rg} (hx : Of k x) (hy : Of k y) : Of k (bestO x y) := by
  cases x with
  | none => exact hy
  | some x =>
    cases y with
    | none => exact hx
    | some y =>
      intro z h
      injection h with h
      subst h
      rcases best_or x y with e | e
      · rw [e]; exact hx x rfl
      · rw [e]; exact hy y rfl
theorem bestO_none (x : Option Rg) : bestO x none = x := by cases x <;> rfl
theorem bestO_self (x : Option Rg) : bestO x x = x := by
  cases x with
  | none => rfl
  | some x => simp [bestO, best_self]
theorem bestO_turn {k : ByteArray} {x y : Option Rg} (hx : Of k x) (hy : Of k y) : bestO x y = bestO y x := by
  cases x with
  | none => exact (bestO_none y).symm
  | some x =>
    cases y with
    | none => rfl
    | some y => simp only [bestO]; rw [best_turn ((hx x rfl).trans (hy y rfl).symm)]
theorem bestO_three {k : ByteArray} {x y z : Option Rg} (hx : Of k x) (hy : Of k y) (hz : Of k z) : bestO (bestO x y) z = bestO x (bestO y z) := by
  cases x with
  | none => rfl
  | some x =>
    cases y with
    | none => rfl
    | some y =>
      cases z with
      | none => rfl
      | some z => simp only [bestO]; rw [best_three ((hx x rfl).trans (hy y rfl).symm) ((hy y rfl).trans (hz z rfl).symm)]
theorem bestO_is (x y : Option Rg) : (bestO x y).isSome = (x.isSome || y.isSome) := by
  cases x <;> cases y <;> rfl

/-- One put in. -/
def putR (l : List Rg) (r : Rg) : List Rg := if mayR l = true ∧ oneR r = true then ins r false l else []
theorem getR_one (r : Rg) (k : ByteArray) : getR [r] k = if r.key = k then some r else none := by
  rw [getR_cons]
  rfl
theorem ins_get {l : List Rg} (r : Rg) (h : Rises Rg.key ltS l) (k : ByteArray) : getR (ins r false l) k = bestO (getR [r] k) (getR l k) := by
  rw [(ins_rises r h).2, getR_one]
  by_cases hk : k = r.key
  · subst hk
    rw [if_pos rfl, if_pos rfl]
    cases getR l r.key <;> rfl
  · rw [if_neg hk, if_neg (fun e => hk e.symm)]
    rfl
theorem ins_may {l : List Rg} {r : Rg} (h : mayR l = true) (hr : oneR r = true) : mayR (ins r false l) = true := by
  obtain ⟨h1, h2⟩ := mayR_iff.1 h
  obtain ⟨i1, i2⟩ := ins_rises r h2
  refine mayR_iff.2 ⟨fun x hx => ?_, i1⟩
  have hg := getR_mem i1 hx
  rw [i2] at hg
  by_cases hk : x.key = r.key
  · rw [if_pos hk] at hg
    injection hg with hg
    cases hy : getR l r.key with
    | none => rw [hy] at hg; rw [← hg]; exact hr
    | some y =>
      rw [hy] at hg
      rw [← hg]
      rcases best_or r y with e | e
      · simp only [e]; exact hr
      · simp only [e]; exact h1 y (getR_some hy).1
  · rw [if_neg hk] at hg
    exact h1 x (getR_some hg).1
theorem ins_length (r : Rg) : ∀ (d : Bool) (l : List Rg), (ins r d l).length ≤ l.length + (if d = true then 0 else 1)
  | true, [] => by simp [ins]
  | false, [] => by simp [ins]
  | d, x :: l => by
    have i1 := ins_length r (d || ltS r.key x.key) l
    have i2 := ins_length r true l
    have e : ∀ (p q : List Rg), ((if d = false ∧ ltS r.key x.key = true then [r] else []) ++ (if x.key ≠ r.key then p else q)).length ≤ (if d = false ∧ ltS r.key x.key = true then 1 else 0) + max p.length q.length := by
      intro p q
      rw [List.length_append]
      refine Nat.add_le_add (by split <;> simp) ?_
      split
      · exact Nat.le_max_left _ _
      · exact Nat.le_max_right _ _
    have h := e (x :: ins r (d || ltS r.key x.key) l) (best r x :: ins r true l)
    rw [List.length_cons, List.length_cons] at h
    rw [ins, List.length_cons]
    cases d <;> cases hl : ltS r.key x.key <;> simp [hl] at i1 i2 h ⊢ <;> omega
theorem put_is {l : List Rg} {r : Rg} (h : mayR l = true) (hr : oneR r = true) : putR l r = ins r false l := if_pos ⟨h, hr⟩
theorem put_no {l : List Rg} {r : Rg} (h : mayR l = false ∨ oneR r = false) : putR l r = [] := by
  unfold putR
  rw [if_neg]
  rintro ⟨a, b⟩
  rcases h with h | h
  · rw [a] at h; cases h
  · rw [b] at h; cases h
theorem put_may (l : List Rg) (r : Rg) : mayR (putR l r) = true := by
  unfold putR
  split
  · rename_i h; exact ins_may h.1 h.2
  · rfl
theorem put_get {l : List Rg} {r : Rg} (h : mayR l = true) (hr : oneR r = true) (k : ByteArray) : getR (putR l r) k = bestO (getR [r] k) (getR l k) := by
  rw [put_is h hr]
  exact ins_get r (mayR_iff.1 h).2 k
theorem put_length (l : List Rg) (r : Rg) : (putR l r).length ≤ l.length + 1 := by
  unfold putR
  split
  · exact ins_length r false l
  · simp
/-- Those that may be are told by what each key has. -/
theorem det {l m : List Rg} (hl : mayR l = true) (hm : mayR m = true) (h : ∀ k, getR l k = getR m k) : l = m := detR (mayR_iff.1 hl).2 (mayR_iff.1 hm).2 h

/-- Merged. -/
def mergeR (a b : List Rg) : List Rg := if mayR a = true ∧ mayR b = true then b.foldl putR a else []
theorem fold_may : ∀ (l out : List Rg), mayR out = true → mayR (l.foldl putR out) = true
  | [], _, h => h
  | c :: r, out, _ => fold_may r (putR out c) (put_may out c)
theorem fold_length : ∀ (l out : List Rg), (l.foldl putR out).length ≤ out.length + l.length
  | [], _ => by simp
  | c :: r, out => by
    have h1 := fold_length r (putR out c)
    have h2 := put_length out c
    rw [List.foldl_cons, List.length_cons]
    omega
theorem fold_get (k : ByteArray) : ∀ (l out : List Rg), mayR out = true → (∀ c ∈ l, oneR c = true) → Rises Rg.key ltS l → getR (l.foldl putR out) k = bestO (getR l k) (getR out k)
  | [], _, _, _, _ => rfl
  | c :: r, out, h, hk, hr => by
    obtain ⟨h1, h2⟩ := List.pairwise_cons.1 hr
    rw [List.foldl_cons, fold_get k r _ (put_may out c) (fun d hd => hk d (by simp [hd])) h2, put_get h (hk c (by simp)), getR_one, getR_cons]
    by_cases e : c.key = k
    · rw [if_pos e, if_pos e, getR_none (fun d hd => by rw [← e]; exact fun e2 => strictS.ne (h1 d hd) e2.symm)]
      rfl
    · rw [if_neg e, if_neg e]
      rfl
theorem merge_no {a b : List Rg} (h : mayR a = false ∨ mayR b = false) : mergeR a b = [] := by
  unfold mergeR
  rw [if_neg]
  rintro ⟨x, y⟩
  rcases h with h | h
  · rw [x] at h; cases h
  · rw [y] at h; cases h
theorem merge_may (a b : List Rg) : mayR (mergeR a b) = true := by
  unfold mergeR
  split
  · rename_i h; exact fold_may b a h.1
  · rfl
theorem merge_length (a b : List Rg) : (mergeR a b).length ≤ a.length + b.length := by
  unfold mergeR
  split
  · exact fold_length b a
  · simp
section
variable {a b c : List Rg} (ha : mayR a = true) (hb : mayR b = true) (hc : mayR c = true)
include ha hb
theorem merge_get (k : ByteArray) : getR (mergeR a b) k = bestO (getR b k) (getR a k) := by
  unfold mergeR
  rw [if_pos ⟨ha, hb⟩]
  exact fold_get k b a ha (mayR_iff.1 hb).1 (mayR_iff.1 hb).2
theorem merge_is {m : List Rg} (hm : mayR m = true) (h : ∀ k, getR m k = bestO (getR b k) (getR a k)) : m = mergeR a b :=
  det hm (merge_may a b) (fun k => by rw [h, merge_get ha hb])
theorem merge_turn : mergeR a b = mergeR b a :=
  det (merge_may a b) (merge_may b a) (fun k => by rw [merge_get ha hb, merge_get hb ha, bestO_turn (of_get b k) (of_get a k)])
theorem merge_twice : mergeR (mergeR a b) b = mergeR a b :=
  det (merge_may _ _) (merge_may a b) (fun k => by
    rw [merge_get (merge_may a b) hb, merge_get ha hb, ← bestO_three (of_get b k) (of_get b k) (of_get a k), bestO_self])
include hc
theorem merge_three : mergeR (mergeR a b) c = mergeR a (mergeR b c) :=
  det (merge_may _ _) (merge_may _ _) (fun k => by
    rw [merge_get (merge_may a b) hc, merge_get ha hb, merge_get ha (merge_may b c), merge_get hb hc, bestO_three (of_get c k) (of_get b k) (of_get a k)])
end
theorem merge_self {a : List Rg} (ha : mayR a = true) : mergeR a a = a :=
  det (merge_may a a) ha (fun k => by rw [merge_get ha ha, bestO_self])
section
variable {l : List Rg} {r s : Rg} (hl : mayR l = true) (hr : oneR r = true) (hs : oneR s = true)
include hl hr
/-- What comes from registers, merged with these. -/
theorem old_left : mergeR (putR l r) l = putR l r :=
  det (merge_may _ _) (put_may l r) (fun k => by
    rw [merge_get (put_may l r) hl, put_get hl hr, ← bestO_three (of_get l k) (of_get [r] k) (of_get l k), bestO_turn (of_get l k) (of_get [r] k), bestO_three (of_get [r] k) (of_get l k) (of_get l k), bestO_self])
theorem old_right : mergeR l (putR l r) = putR l r := by
  rw [merge_turn hl (put_may l r), old_left hl hr]
include hs
theorem old_both : mergeR (putR l r) (putR l s) = putR (putR l r) s :=
  det (merge_may _ _) (put_may _ s) (fun k => by
    rw [merge_get (put_may l r) (put_may l s), put_get (put_may l r) hs, put_get hl hr, put_get hl hs]
    rw [bestO_three (of_get [s] k) (of_get l k) ((of_get [r] k).both (of_get l k)), ← bestO_three (of_get l k) (of_get [r] k) (of_get l k), bestO_turn (of_get l k) (of_get [r] k), bestO_three (of_get [r] k) (of_get l k) (of_get l k), bestO_self])
end
theorem old_turn {l : List Rg} {r s : Rg} (hl : mayR l = true) (hr : oneR r = true) (hs : oneR s = true) : mergeR (putR l r) (putR l s) = putR (putR l s) r := by
  rw [merge_turn (put_may l r) (put_may l s), old_both hl hs hr]
/-- One that is put in is there, unless one that is not older was. -/
theorem put_there {l : List Rg} {r : Rg} (h : mayR l = true) (hr : oneR r = true) : getR (putR l r) r.key = some (match getR l r.key with | none => r | some y => best r y) := by
  rw [put_get h hr, getR_one, if_pos rfl]
  cases getR l r.key <;> rfl
theorem put_else {l : List Rg} {r : Rg} {k : ByteArray} (h : mayR l = true) (hr : oneR r = true) (hk : k ≠ r.key) : getR (putR l r) k = getR l k := by
  rw [put_get h hr, getR_one, if_neg (fun e => hk e.symm)]
  rfl

/-- Registers told from the front. -/
theorem all_take (l : List Rg) (k : Nat) (h : k < l.length) : (l.take (k + 1)).all oneR = ((l.take k).all oneR && oneR l[k]) := by
  rw [List.take_succ_eq_append_getElem h, List.all_append]
  simp
theorem may_first {l : List Rg} (h : 0 < l.length) : mayR (l.take 1) = oneR l[0] := by
  unfold mayR
  rw [all_take l 0 h]
  have e : risesB Rg.key ltS (l.take 1) = true := by
    rw [List.take_succ_eq_append_getElem h]
    rfl
  rw [e]
  simp
theorem may_next {l : List Rg} {k : Nat} (h : k + 1 < l.length) (hm : mayR (l.take (k + 1)) = true) : mayR (l.take (k + 2)) = (oneR l[k + 1] && ltS (l[k]'(by omega)).key l[k + 1].key) := by
  unfold mayR at hm ⊢
  rw [Bool.and_eq_true] at hm
  rw [all_take l (k + 1) h, risesB_take h, hm.1, hm.2]
  simp
theorem may_bad {l : List Rg} {k : Nat} (h : k < l.length) (hn : oneR l[k] = false) : mayR l = false := by
  unfold mayR
  rw [show l.all oneR = false from List.all_eq_false.2 ⟨l[k], List.getElem_mem h, by rw [hn]; simp⟩]
  rfl
theorem may_fall {l : List Rg} {k : Nat} (h : k + 1 < l.length) (hn : ltS (l[k]'(by omega)).key l[k + 1].key = false) : mayR l = false := by
  unfold mayR
  rw [risesB_not h hn, Bool.and_false]
end Go.Proofs.YtnjdkjkihbgkaaaGreat.RegL
