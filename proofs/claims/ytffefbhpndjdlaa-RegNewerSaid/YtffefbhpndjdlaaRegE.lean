/- Plain facts on registers that are put in by keys that do not fall. No condition. -/
import Derived.Test.YtffefbhpndjdlaaRegL
namespace Go.Proofs.Ytffefbhpndjdlaa.RegE
open Go Byt OpsM Rise RegM RegL

/-- One more behind those that are there. -/
def addG (l : List Rg) (r : Rg) : List Rg := match l.getLast? with
  | none => [r]
  | some y => if y.key ≠ r.key then l ++ [r] else l.dropLast ++ [best r y]
theorem addG_nil (r : Rg) : addG [] r = [r] := rfl
theorem addG_snoc (l : List Rg) (y r : Rg) : addG (l ++ [y]) r = if y.key ≠ r.key then l ++ [y] ++ [r] else l ++ [best r y] := by
  unfold addG
  rw [List.getLast?_concat]
  simp
theorem addG_length (l : List Rg) (r : Rg) : (addG l r).length ≤ l.length + 1 := by
  rcases List.eq_nil_or_concat l with rfl | ⟨m, y, rfl⟩
  · simp [addG_nil]
  · rw [List.concat_eq_append, addG_snoc]
    split <;> simp
theorem fold_len : ∀ (m l : List Rg), (m.foldl addG l).length ≤ l.length + m.length
  | [], _ => by simp
  | c :: m, l => by
    have h1 := fold_len m (addG l c)
    have h2 := addG_length l c
    rw [List.foldl_cons, List.length_cons]
    omega
/-- What stands ahead of a key does not matter to what is put in. -/
theorem ins_app {r : Rg} : ∀ {l m : List Rg}, (∀ x ∈ l, ltS x.key r.key = true) → ins r false (l ++ m) = l ++ ins r false m
  | [], _, _ => rfl
  | x :: l, m, h => by
    have hx := h x (by simp)
    rw [List.cons_append, ins, strictS.asymm hx, if_neg (by simp), if_pos (strictS.ne hx), Bool.or_false, ins_app (fun y hy => h y (by simp [hy]))]
    rfl
/-- By keys that do not fall one more behind is one more put in. -/
theorem add_put {l : List Rg} {r : Rg} (hl : mayR l = true) (hr : oneR r = true) (h : ∀ x ∈ l, ltS r.key x.key = false) : addG l r = putR l r := by
  rw [put_is hl hr]
  rcases List.eq_nil_or_concat l with rfl | ⟨m, y, rfl⟩
  · simp [addG_nil, ins]
  · rw [List.concat_eq_append] at hl h ⊢
    have hrise := (mayR_iff.1 hl).2
    have hm : ∀ x ∈ m, ltS x.key y.key = true := fun x hx => (List.pairwise_append.1 hrise).2.2 x hx y (by simp)
    have hy := h y (by simp)
    rw [addG_snoc]
    by_cases hk : y.key = r.key
    · rw [if_neg (by simp [hk]), ins_app (fun x hx => by rw [← hk]; exact hm x hx), ins, hy, if_neg (by simp), if_neg (by simp [hk])]
      rfl
    · have hlt : ltS y.key r.key = true := by
        cases q : ltS y.key r.key with
        | true => rfl
        | false => exact absurd (strictS.tri _ _ q hy) hk
      rw [if_pos hk, List.append_assoc, ins_app (fun x hx => strictS.trans _ _ _ (hm x hx) hlt), ins, hy, if_neg (by simp), if_pos hk]
      simp [ins]
/-- What stands in what is merged stands in one of both. -/
theorem merge_mem {a b : List Rg} (ha : mayR a = true) (hb : mayR b = true) {x : Rg} (hx : x ∈ mergeR a b) : x ∈ a ∨ x ∈ b := by
  have h := getR_mem (mayR_iff.1 (merge_may a b)).2 hx
  rw [merge_get ha hb] at h
  cases hb2 : getR b x.key with
  | none =>
    rw [hb2] at h
    exact .inl (getR_some h).1
  | some y =>
    rw [hb2] at h
    cases ha2 : getR a x.key with
    | none =>
      rw [ha2] at h
      injection h with h
      rw [← h]
      exact .inr (getR_some hb2).1
    | some z =>
      rw [ha2] at h
      injection h with h
      rcases best_or y z with e | e
      · rw [← h, e]; exact .inr (getR_some hb2).1
      · rw [← h, e]; exact .inl (getR_some ha2).1
theorem may_split {a m : List Rg} (h : mayR (a ++ m) = true) : mayR a = true ∧ mayR m = true ∧ ∀ x ∈ a, ∀ y ∈ m, ltS x.key y.key = true := by
  obtain ⟨h1, h2⟩ := mayR_iff.1 h
  obtain ⟨p, q, s⟩ := List.pairwise_append.1 h2
  exact ⟨mayR_iff.2 ⟨fun c hc => h1 c (by simp [hc]), p⟩, mayR_iff.2 ⟨fun c hc => h1 c (by simp [hc]), q⟩, s⟩
theorem may_mem {l : List Rg} (h : mayR l = true) {x : Rg} (hx : x ∈ l) : oneR x = true := (mayR_iff.1 h).1 x hx
theorem merge_snoc_b {a b : List Rg} {r : Rg} (ha : mayR a = true) (hb : mayR (b ++ [r]) = true) : mergeR a (b ++ [r]) = putR (mergeR a b) r := by
  obtain ⟨h1, _, _⟩ := may_split hb
  unfold mergeR
  rw [if_pos ⟨ha, hb⟩, if_pos ⟨ha, h1⟩, List.foldl_append]
  rfl
theorem merge_snoc_a {a b : List Rg} {r : Rg} (ha : mayR (a ++ [r]) = true) (hb : mayR b = true) : mergeR (a ++ [r]) b = putR (mergeR a b) r := by
  obtain ⟨h1, _, _⟩ := may_split ha
  rw [merge_turn ha hb, merge_snoc_b hb ha, merge_turn hb h1]
/-- One more of the second one. -/
theorem step_b {a b : List Rg} {r : Rg} (ha : mayR a = true) (hb : mayR (b ++ [r]) = true) (h : ∀ x ∈ a, ltS r.key x.key = false) : addG (mergeR a b) r = mergeR a (b ++ [r]) := by
  obtain ⟨h1, _, h3⟩ := may_split hb
  rw [merge_snoc_b ha hb]
  refine add_put (merge_may a b) (may_mem hb (by simp)) (fun x hx => ?_)
  rcases merge_mem ha h1 hx with q | q
  · exact h x q
  · exact strictS.asymm (h3 x q r (by simp))
theorem step_a {a b : List Rg} {r : Rg} (ha : mayR (a ++ [r]) = true) (hb : mayR b = true) (h : ∀ x ∈ b, ltS r.key x.key = false) : addG (mergeR a b) r = mergeR (a ++ [r]) b := by
  obtain ⟨h1, _, h3⟩ := may_split ha
  rw [merge_snoc_a ha hb]
  refine add_put (merge_may a b) (may_mem ha (by simp)) (fun x hx => ?_)
  rcases merge_mem h1 hb hx with q | q
  · exact strictS.asymm (h3 x q r (by simp))
  · exact h x q
theorem steps_a {b : List Rg} (hb : mayR b = true) : ∀ {m a : List Rg}, mayR (a ++ m) = true → (∀ r ∈ m, ∀ x ∈ b, ltS r.key x.key = false) → m.foldl addG (mergeR a b) = mergeR (a ++ m) b
  | [], a, _, _ => by simp
  | r :: m, a, ha, h => by
    have e : a ++ r :: m = (a ++ [r]) ++ m := by simp
    rw [e] at ha
    rw [List.foldl_cons, step_a (may_split ha).1 hb (h r (by simp)), steps_a hb ha (fun r2 hr2 => h r2 (by simp [hr2])), e]
end Go.Proofs.Ytffefbhpndjdlaa.RegE
