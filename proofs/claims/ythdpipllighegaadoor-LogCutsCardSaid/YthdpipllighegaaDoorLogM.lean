/- Plain facts on logs: frames, the records that stand whole at the beginning of some bytes, and what is read where they are cut. No condition. -/
import Derived.Test.YthdpipllighegaaDoorEncM
import Derived.Test.YthdpipllighegaaDoorShaH
namespace Go.Proofs.YthdpipllighegaaDoor.LogM
set_option maxRecDepth 100000
open EncM

/-- The four bytes behind a record. -/
def markL (x : List Int) : List Int := (ShaH.sumL x).take 4
theorem markL_len (x : List Int) : (markL x).length = 4 := by
  unfold markL
  rw [List.length_take, ShaH.sumL_length]
  omega
/-- A record's frame. -/
def frameL (x : List Int) : List Int := numL x.length ++ (x ++ markL x)
theorem frameL_len (x : List Int) : (frameL x).length = (numL x.length).length + x.length + 4 := by
  unfold frameL
  rw [List.length_append, List.length_append, markL_len]
  omega
theorem frameL_pos (x : List Int) : 5 ≤ (frameL x).length := by
  have := frameL_len x
  have := numL_pos x.length
  omega
/-- The record of the frame that bytes begin with. -/
def firstL (b : List Int) : Option (List Int) :=
  if (getL b).2 = 0 ∨ 4000 < (getL b).1 then none
  else if b.length < (getL b).2 + (getL b).1 + 4 then none
  else if ((b.drop (getL b).2).drop (getL b).1).take 4 = markL ((b.drop (getL b).2).take (getL b).1) then some ((b.drop (getL b).2).take (getL b).1)
  else none
theorem firstL_frame {x : List Int} (hx : x.length ≤ 4000) (r : List Int) : firstL (frameL x ++ r) = some x := by
  have e : frameL x ++ r = numL x.length ++ (x ++ (markL x ++ r)) := by unfold frameL; simp
  have hg : getL (frameL x ++ r) = (x.length, (numL x.length).length) := by rw [e]; exact getL_num _ _ (by omega)
  unfold firstL
  have hp := numL_pos x.length
  have hl := frameL_len x
  rw [hg, if_neg (by omega), if_neg (by rw [List.length_append]; omega)]
  have d1 : (frameL x ++ r).drop (numL x.length).length = x ++ (markL x ++ r) := by rw [e]; exact List.drop_left
  rw [d1, List.drop_left, List.take_left, if_pos]
  rw [← markL_len x]
  exact List.take_left
/-- What is told as the first record has its frame there. -/
theorem firstL_some {b x : List Int} (hb : ∀ y ∈ b, 0 ≤ y ∧ y ≤ 255) (h : firstL b = some x) : x.length ≤ 4000 ∧ ∃ r, b = frameL x ++ r := by
  unfold firstL at h
  split at h
  · cases h
  rename_i h1
  split at h
  · cases h
  rename_i h2
  split at h
  · rename_i h3
    obtain ⟨q1, q2, q3, q4, q5⟩ := getL_back hb (N := (getL b).1) (k := (getL b).2) rfl (by omega)
    have hx := Option.some.inj h
    have hlen : x.length = (getL b).1 := by rw [← hx, List.length_take, List.length_drop]; omega
    refine ⟨by omega, ((b.drop (getL b).2).drop (getL b).1).drop 4, ?_⟩
    unfold frameL
    rw [hx] at h3
    rw [hlen, ← q5, ← h3, List.append_assoc, List.append_assoc, List.take_append_drop, ← hx, List.take_append_drop, List.take_append_drop]
  · cases h
theorem firstL_nil : firstL [] = none := by
  unfold firstL
  rw [if_pos (.inl rfl)]
/-- The first record, as its frame is held against the bytes. -/
theorem firstL_own {b : List Int} (hb : ∀ y ∈ b, 0 ≤ y ∧ y ≤ 255) {N k : Nat} (hg : getL b = (N, k)) (hk : k ≠ 0) (hN : N ≤ 4000) (hl : k + N + 4 ≤ b.length) {x : List Int} (hx : (b.drop k).take N = x) :
    x.length = N ∧ (frameL x).length = k + N + 4 ∧ firstL b = if frameL x = b.take (k + N + 4) then some x else none := by
  obtain ⟨q1, q2, q3, q4, q5⟩ := getL_back hb hg hk
  have hlen : x.length = N := by rw [← hx, List.length_take, List.length_drop]; omega
  have hnl : (numL N).length = k := by rw [← q5, List.length_take]; omega
  refine ⟨hlen, by rw [frameL_len, hlen, hnl], ?_⟩
  have e : b.take (k + N + 4) = numL N ++ (x ++ ((b.drop k).drop N).take 4) := by
    rw [show k + N + 4 = k + (N + 4) by omega, List.take_add, q5, List.take_add, hx]
  unfold firstL
  rw [hg, if_neg (by simp only []; omega), if_neg (by simp only []; omega)]
  simp only []
  rw [hx, e]
  unfold frameL
  rw [hlen]
  by_cases h : ((b.drop k).drop N).take 4 = markL x
  · rw [if_pos h, h, if_pos rfl]
  · rw [if_neg h, if_neg]
    intro h2
    exact h (List.append_cancel_left (List.append_cancel_left h2)).symm
theorem firstL_len {b x : List Int} (h : firstL b = some x) : 4 ≤ b.length := by
  unfold firstL at h
  split at h
  · cases h
  split at h
  · cases h
  omega
set_option linter.unusedVariables false in
/-- The records that stand whole from the beginning on, and how many bytes their frames have. -/
def readL (b : List Int) : List (List Int) × Nat :=
  match h : firstL b with
  | none => ([], 0)
  | some x => (x :: (readL (b.drop (frameL x).length)).1, (frameL x).length + (readL (b.drop (frameL x).length)).2)
termination_by b.length
decreasing_by
  all_goals
    have := firstL_len h
    have := frameL_pos x
    rw [List.length_drop]
    omega
theorem readL_none {b : List Int} (h : firstL b = none) : readL b = ([], 0) := by
  rw [readL]
  split
  · rfl
  · rename_i x hx
    rw [h] at hx
    cases hx
theorem readL_some {b x : List Int} (h : firstL b = some x) : readL b = (x :: (readL (b.drop (frameL x).length)).1, (frameL x).length + (readL (b.drop (frameL x).length)).2) := by
  rw [readL]
  split
  · rename_i hx
    rw [h] at hx
    cases hx
  · rename_i y hy
    rw [h] at hy
    cases hy
    rfl
theorem readL_frame {x : List Int} (hx : x.length ≤ 4000) (r : List Int) : readL (frameL x ++ r) = (x :: (readL r).1, (frameL x).length + (readL r).2) := by
  rw [readL_some (firstL_frame hx r), List.drop_left]
/-- The frames of records, one behind the other. -/
def catL (l : List (List Int)) : List Int := l.flatMap frameL
theorem catL_nil : catL [] = [] := rfl
theorem catL_cons (x : List Int) (l : List (List Int)) : catL (x :: l) = frameL x ++ catL l := rfl
theorem catL_append (a b : List (List Int)) : catL (a ++ b) = catL a ++ catL b := List.flatMap_append
theorem readL_cat {l : List (List Int)} (h : ∀ x ∈ l, x.length ≤ 4000) (r : List Int) : readL (catL l ++ r) = (l ++ (readL r).1, (catL l).length + (readL r).2) := by
  induction l with
  | nil => simp [catL_nil]
  | cons x l ih =>
    rw [catL_cons, List.append_assoc, readL_frame (h x (by simp)), ih (fun y hy => h y (by simp [hy]))]
    simp [Nat.add_assoc]
/-- What is read lies there, and behind it there is no frame. -/
theorem readL_lies (n : Nat) : ∀ {b : List Int}, b.length ≤ n → (∀ y ∈ b, 0 ≤ y ∧ y ≤ 255) → ∃ r, b = catL (readL b).1 ++ r ∧ (readL b).2 = (catL (readL b).1).length ∧ (∀ x ∈ (readL b).1, x.length ≤ 4000) ∧ firstL r = none := by
  induction n with
  | zero =>
    intro b hn hb
    have e : firstL b = none := by
      cases hf : firstL b with
      | none => rfl
      | some x => have := firstL_len hf; omega
    rw [readL_none e]
    exact ⟨b, by simp [catL], rfl, by simp, e⟩
  | succ n ih =>
    intro b hn hb
    cases hf : firstL b with
    | none =>
      rw [readL_none hf]
      exact ⟨b, by simp [catL], rfl, by simp, hf⟩
    | some x =>
      obtain ⟨hx, r0, e0⟩ := firstL_some hb hf
      have hl := frameL_pos x
      rw [readL_some hf]
      have ed : b.drop (frameL x).length = r0 := by rw [e0]; exact List.drop_left
      have hlen : b.length = (frameL x).length + r0.length := by rw [e0, List.length_append]
      rw [ed]
      obtain ⟨r, h1, h2, h3, h4⟩ := ih (b := r0) (by omega) (fun y hy => hb y (by rw [e0]; exact List.mem_append_right _ hy))
      refine ⟨r, ?_, ?_, ?_, h4⟩
      · show b = catL (x :: (readL r0).1) ++ r
        rw [catL_cons, List.append_assoc, ← h1]
        exact e0
      · show (frameL x).length + (readL r0).2 = (catL (x :: (readL r0).1)).length
        rw [catL_cons, List.length_append, h2]
      · intro y hy
        rcases List.mem_cons.1 hy with rfl | hy
        · exact hx
        · exact h3 y hy
theorem readL_le {b : List Int} (hb : ∀ y ∈ b, 0 ≤ y ∧ y ≤ 255) : (readL b).2 ≤ b.length := by
  obtain ⟨r, h1, h2, _, _⟩ := readL_lies b.length (Nat.le_refl _) hb
  have := congrArg List.length h1
  rw [List.length_append] at this
  omega
/-- How many records there are, at most. -/
theorem readL_few {b : List Int} (hb : ∀ y ∈ b, 0 ≤ y ∧ y ≤ 255) : (readL b).1.length ≤ b.length := by
  obtain ⟨r, h1, h2, _, _⟩ := readL_lies b.length (Nat.le_refl _) hb
  have key : ∀ l : List (List Int), l.length ≤ (catL l).length := by
    intro l
    induction l with
    | nil => simp
    | cons x l ih => rw [catL_cons, List.length_append, List.length_cons]; have := frameL_pos x; omega
  have e := congrArg List.length h1
  rw [List.length_append] at e
  have := key (readL b).1
  omega
theorem readL_B {b : List Int} (hb : ∀ y ∈ b, 0 ≤ y ∧ y ≤ 255) : ∀ x ∈ (readL b).1, x.length ≤ 4000 ∧ ∀ y ∈ x, 0 ≤ y ∧ y ≤ 255 := by
  obtain ⟨r, h1, h2, h3, _⟩ := readL_lies b.length (Nat.le_refl _) hb
  intro x hx
  refine ⟨h3 x hx, fun y hy => hb y ?_⟩
  rw [h1]
  refine List.mem_append_left _ (List.mem_flatMap.2 ⟨x, hx, ?_⟩)
  unfold frameL
  simp [hy]
/-- What is mended. -/
def mendL (b : List Int) : List Int := b.take (readL b).2
theorem mendL_cat {b : List Int} (hb : ∀ y ∈ b, 0 ≤ y ∧ y ≤ 255) : mendL b = catL (readL b).1 := by
  obtain ⟨r, h1, h2, _, _⟩ := readL_lies b.length (Nat.le_refl _) hb
  unfold mendL
  rw [h2]
  conv => lhs; arg 2; rw [h1]
  exact List.take_left
/-- What is mended stays. -/
theorem readL_mend {b : List Int} (hb : ∀ y ∈ b, 0 ≤ y ∧ y ≤ 255) : readL (mendL b) = readL b := by
  obtain ⟨r, h1, h2, h3, _⟩ := readL_lies b.length (Nat.le_refl _) hb
  have e := readL_cat h3 []
  rw [List.append_nil, readL_none firstL_nil, List.append_nil, Nat.add_zero, ← h2] at e
  rw [mendL_cat hb, e]
theorem mendL_mend {b : List Int} (hb : ∀ y ∈ b, 0 ≤ y ∧ y ≤ 255) : mendL (mendL b) = mendL b := by
  have e : mendL (mendL b) = (mendL b).take (readL (mendL b)).2 := rfl
  rw [e, readL_mend hb]
  unfold mendL
  rw [List.take_take, Nat.min_self]
/-- Nothing is read of what stands behind. -/
theorem readL_behind {b : List Int} (hb : ∀ y ∈ b, 0 ≤ y ∧ y ≤ 255) : readL (b.drop (readL b).2) = ([], 0) := by
  obtain ⟨r, h1, h2, _, h4⟩ := readL_lies b.length (Nat.le_refl _) hb
  have e : b.drop (readL b).2 = r := by
    rw [h2]
    conv => lhs; arg 2; rw [h1]
    exact List.drop_left
  rw [e]
  exact readL_none h4
/-- A frame's beginning is none. -/
theorem firstL_cut {x : List Int} (hx : x.length ≤ 4000) (r : List Int) {k : Nat} (hk : k < (frameL x).length) : firstL ((frameL x ++ r).take k) = none := by
  have e : frameL x ++ r = numL x.length ++ (x ++ (markL x ++ r)) := by unfold frameL; simp
  have hl := frameL_len x
  by_cases h : k < (numL x.length).length
  · have hg : getL ((frameL x ++ r).take k) = (0, 0) := by
      rw [e, List.take_append_of_le_length (by omega)]
      exact getL_cut _ _ (by omega) h
    unfold firstL
    rw [hg, if_pos (.inl rfl)]
  · have hg : getL ((frameL x ++ r).take k) = (x.length, (numL x.length).length) := by
      rw [e, List.take_append, List.take_of_length_le (by omega)]
      exact getL_num _ _ (by omega)
    have hp := numL_pos x.length
    unfold firstL
    rw [hg, if_neg (by omega), if_pos]
    rw [List.length_take]
    omega
/-- What is read of a log that is cut: as many as were whole. -/
theorem readL_cut {l : List (List Int)} (h : ∀ x ∈ l, x.length ≤ 4000) {want at_ : Nat} (hw : want ≤ l.length) (h1 : (catL (l.take want)).length ≤ at_) (h2 : want < l.length → at_ < (catL (l.take (want + 1))).length) :
    readL ((catL l).take at_) = (l.take want, (catL (l.take want)).length) := by
  have e : catL l = catL (l.take want) ++ catL (l.drop want) := by rw [← catL_append, List.take_append_drop]
  have e2 : (catL l).take at_ = catL (l.take want) ++ (catL (l.drop want)).take (at_ - (catL (l.take want)).length) := by
    conv => lhs; rw [e]
    rw [List.take_append, List.take_of_length_le h1]
  have hn : firstL ((catL (l.drop want)).take (at_ - (catL (l.take want)).length)) = none := by
    by_cases hw2 : want < l.length
    · have h2' := h2 hw2
      rw [List.take_succ_eq_append_getElem hw2, catL_append, List.length_append] at h2'
      have e3 : catL [l[want]] = frameL l[want] := by simp [catL]
      rw [e3] at h2'
      rw [List.drop_eq_getElem_cons hw2, catL_cons]
      exact firstL_cut (h _ (List.getElem_mem _)) _ (by omega)
    · rw [List.drop_of_length_le (by omega)]
      rw [catL_nil, List.take_nil]
      exact firstL_nil
  rw [e2, readL_cat (fun x hx => h x (List.mem_of_mem_take hx)), readL_none hn, List.append_nil, Nat.add_zero]
end Go.Proofs.YthdpipllighegaaDoor.LogM
