/- What ops.mays and its functions, and ops.May, return: contracts. -/
import Derived.Test.YteojkfbnenfmkaaDoorCmSJ2
import Derived.Test.YteojkfbnenfmkaaDoorOpsW
namespace Go.Proofs.YteojkfbnenfmkaaDoor.OpsC
set_option maxRecDepth 100000
open Go Go.RowKit Go.Sort Byt OpsM OpsK OpsW

/-- A text is empty. -/
theorem empty_yes {s : ByteArray} (h : bytesL s = []) : s.toList = [] := by
  rw [empty_of h, ByteArray.toList_eq]
theorem empty_no {s : ByteArray} (h : bytesL s ≠ []) : ¬ s.toList = [] := by
  intro e
  apply h
  rw [ByteArray.toList_eq] at e
  unfold bytesL
  rw [e]
  rfl
theorem stepB_no {n : Int} {e : ByteArray} (h : ¬ (-1048576 ≤ n ∧ n ≤ 1048576 ∧ n ≠ 0 ∧ bytesL e = [])) : stepB n e = false := by
  rw [← stepB_iff] at h
  simpa using h
theorem elemB_no {n : Int} {e : ByteArray} (h : ¬ (keyL (bytesL e) = true ∧ n = 0)) : elemB n e = false := by
  rw [← elemB_iff] at h
  simpa using h

set_option maxHeartbeats 1000000 in
theorem mays1 (g : Nat) (o : Opn) (w : World) (h : OpAt w g o) (hn : I64 o.n) :
    Calls Tryd.prog 61 #[.pointer (some ⟨g, 0, none⟩)] w fun e w' => e = .returned (.bool (stepB o.n o.elem)) ∧ w = w' := by
  have c2 := h.elem
  have c3 := h.n
  obtain ⟨n, hn'⟩ : ∃ n, o.n = n := ⟨_, rfl⟩
  obtain ⟨s, hs'⟩ : ∃ s, o.elem = s := ⟨_, rfl⟩
  rw [hn'] at c3 hn ⊢
  rw [hs'] at c2 ⊢
  unfold I64 at hn
  obtain ⟨n1, n2⟩ := hn
  clear hn' hs' h
  by_cases ha : n < -1048576
  · have HR := aside (stepB_no (n := n) (e := s) (by omega))
    go_enter Tryd.func61, Tryd.ntmps61
    go_wp2
    go_ret
    exact ⟨ret_bool HR.out.symm, rfl⟩
  · by_cases hb : 1048576 < n
    · have HR := aside (stepB_no (n := n) (e := s) (by omega))
      go_enter Tryd.func61, Tryd.ntmps61
      go_wp2
      go_ret
      exact ⟨ret_bool HR.out.symm, rfl⟩
    · by_cases h0 : n = 0
      · subst h0
        have HR := aside (stepB_no (n := 0) (e := s) (by omega))
        go_enter Tryd.func61, Tryd.ntmps61
        go_wp2
        go_ret
        exact ⟨ret_bool HR.out.symm, rfl⟩
      · by_cases he : bytesL s = []
        · have HR := aside (stepB_iff (n := n) (e := s) |>.2 ⟨by omega, by omega, h0, he⟩)
          have e1 := empty_yes he
          have e3 : s.toList.isEmpty = true := by rw [e1]; rfl
          have t0 : (n != 0) = true := by simpa using h0
          clear he h0
          go_enter Tryd.func61, Tryd.ntmps61
          go_wp2
          go_ret
          exact ⟨ret_bool HR.out.symm, rfl⟩
        · have HR := aside (stepB_no (n := n) (e := s) (fun q => he q.2.2.2))
          have e1 := empty_no he
          have e3 : s.toList.isEmpty = false := by simpa using e1
          have t0 : (n != 0) = true := by simpa using h0
          clear he h0
          go_enter Tryd.func61, Tryd.ntmps61
          go_wp2
          go_ret
          exact ⟨ret_bool HR.out.symm, rfl⟩

set_option maxHeartbeats 1000000 in
theorem mays2 (g : Nat) (o : Opn) (w : World) (h : OpAt w g o) (hs : o.elem.size ≤ maxLen) :
    Calls Tryd.prog 62 #[.pointer (some ⟨g, 0, none⟩)] w fun e w' => e = .returned (.bool (elemB o.n o.elem)) ∧ w = w' := by
  have c2 := h.elem
  have c3 := h.n
  obtain ⟨n, hn'⟩ : ∃ n, o.n = n := ⟨_, rfl⟩
  obtain ⟨s, hs'⟩ : ∃ s, o.elem = s := ⟨_, rfl⟩
  rw [hn'] at c3 ⊢
  rw [hs'] at c2 hs ⊢
  have hk := key s hs
  clear hn' hs' h
  cases hb : keyL (bytesL s) with
  | false =>
    have HR := aside (elemB_no (n := n) (e := s) (by rw [hb]; simp))
    rw [hb] at hk
    clear hb
    go_enter Tryd.func62, Tryd.ntmps62
    go_wp2_with (refine (hk _).mono ?_; rintro e w' ⟨rfl, rfl⟩)
    go_ret
    exact ⟨ret_bool HR.out.symm, rfl⟩
  | true =>
    rw [hb] at hk
    by_cases h0 : n = 0
    · have HR := aside (elemB_iff (n := n) (e := s) |>.2 ⟨hb, h0⟩)
      have t0 : (n == 0) = true := by simpa using h0
      clear hb h0
      go_enter Tryd.func62, Tryd.ntmps62
      go_wp2_with (refine (hk _).mono ?_; rintro e w' ⟨rfl, rfl⟩)
      go_ret
      exact ⟨ret_bool HR.out.symm, rfl⟩
    · have HR := aside (elemB_no (n := n) (e := s) (fun q => h0 q.2))
      have t0 : (n == 0) = false := by simpa using h0
      clear hb h0
      go_enter Tryd.func62, Tryd.ntmps62
      go_wp2_with (refine (hk _).mono ?_; rintro e w' ⟨rfl, rfl⟩)
      go_ret
      exact ⟨ret_bool HR.out.symm, rfl⟩

/-- The table that the walk makes, entry by entry. -/
theorem tab_new (w : World) (f g : Value) : TabAt (w.alloc (.map (((((#[] : Array MapEntry).push ⟨.int .i64 0, f, 0⟩).push ⟨.int .i64 1, g, 1⟩).push ⟨.int .i64 2, g, 2⟩).push ⟨.int .i64 3, g, 3⟩) 4)) w.heap.size f g := heap_alloc_new w _
/-- What a function that makes a table answers. -/
def Tab (F G : Nat) (o : Opn) (w : World) (e : Ending) (w' : World) : Prop :=
  ∃ b m, e = .returned (.map (some m)) ∧ OpAt w' b o ∧ TabAt w' m (.func (.func F) #[] #[.pointer (some ⟨b, 0, none⟩)]) (.func (.func G) #[] #[.pointer (some ⟨b, 0, none⟩)]) ∧ Below w.heap.size w w'
set_option maxHeartbeats 1000000 in
theorem mays (o : Opn) (w : World) :
    Calls Tryd.prog 47 #[.agg (opc o)] w (Tab 61 62 o w) := by
  have O1 := OpAt.new w o 27
  have hmm := made 74
  go_enter Tryd.func47, Tryd.ntmps47
  go_wp2_with (refine wpList_entry Tryd.underlying74 rfl rfl _ _ _ rfl _ _ _ rfl _ rfl (by simp) _ (by unfold I64; omega) rfl rfl _ rfl ?_)
  go_ret
  have hz : (w.alloc (.cells (opc o) 27)).heap.size = w.heap.size + 1 := by simp
  have ht := tab_new (w.alloc (.cells (opc o) 27)) (.func (.func 61) #[] #[.pointer (some ⟨w.heap.size, 0, none⟩)]) (.func (.func 62) #[] #[.pointer (some ⟨w.heap.size, 0, none⟩)])
  rw [hz] at ht
  exact ⟨w.heap.size, w.heap.size + 1, rfl, O1.alloc _, ht, ((Below.refl _ _).alloc (Nat.le_refl _) _).alloc (by simp) _⟩

theorem zero_may (w : World) : (zeroValue 30).run Tryd.prog w = .ok .nilFunc w := by kernel_rfl
theorem mayO_key {o : Opn} (h : keyL (bytesL o.key) = false) : mayO o = false := by unfold mayO; rw [h]; rfl
theorem mayO_rest {o : Opn} (h : keyL (bytesL o.key) = true) : mayO o = restB o := by unfold mayO; rw [h]; rfl
theorem restB0 {o : Opn} (h : o.kind = 0) : restB o = stepB o.n o.elem := by unfold restB; rw [if_pos h]
theorem restB1 {o : Opn} (h : o.kind = 1 ∨ o.kind = 2 ∨ o.kind = 3) : restB o = elemB o.n o.elem := by unfold restB; rw [if_neg (by omega), if_pos h]
theorem restBN {o : Opn} (h : o.kind < 0 ∨ 3 < o.kind) : restB o = false := by unfold restB; rw [if_neg (by omega), if_neg (by omega)]
/-- What is asked of an operation that a walk meets. -/
structure Fit (o : Opn) : Prop where
  kind : I64 o.kind
  n : I64 o.n
  key : o.key.size ≤ maxLen
  elem : o.elem.size ≤ maxLen

set_option maxRecDepth 100000 in
set_option maxHeartbeats 4000000 in
theorem may0 (o : Opn) (w : World) (hf : Fit o) (hk : o.kind = 0) (b : Bool) (hb : keyL (bytesL o.key) = b) :
    Calls Tryd.prog 30 #[.agg (opc o)] w fun e w' => e = .returned (.bool (mayO o)) ∧ Below w.heap.size w w' := by
  have O1 := OpAt.new w o 27
  have ck := key o.key hf.key
  rw [hb] at ck
  have cf := fun g W h => mays1 g o W h hf.n
  obtain ⟨r, hr⟩ : ∃ r, mayO o = r := ⟨_, rfl⟩
  rw [hr]
  have HR := aside hr
  have HB := aside hb
  have HK := aside hk
  clear hr hb hk
  go_enter Tryd.func30, Tryd.ntmps30
  go_wp2_with fail
  refine Grow.region [(0, true), (2, true), (3, true), (1, false), (4, true), (5, true), (6, true), (7, true), (8, true), (9, true)] (by kernel_rfl) (by kernel_rfl) rfl (by kernel_rfl) (by intro c a d v w h; cases d <;> exact h) ?_
  have kd : Below w.heap.size w (w.alloc (.cells (opc o) 27)).drew := below_drew1 ((Below.refl _ _).alloc (Nat.le_refl _) _)
  have O2 : OpAt (w.alloc (.cells (opc o) 27)).drew w.heap.size o := O1
  obtain ⟨W1, hW1⟩ : ∃ W, (w.alloc (.cells (opc o) 27)).drew = W := ⟨_, rfl⟩
  rw [hW1] at kd O2 ⊢
  clear hW1 O1
  have q0 := O2.kind_in
  repeat (first | (refine reads_op rfl rfl _ rfl _ rfl o O2 ?_; simp only [Act.put, List.setIfInBounds_toArray, List.set_cons_succ, List.set_cons_zero]) | (refine Grow.reads rfl rfl ?_; go_big_quiet_step (fail); refine wpQuiet_nil ?_))
  clear q0
  refine Grow.acts rfl ?_
  go_wp2_with fail
  refine (mays o W1).mono ?_
  rintro e w2 ⟨g, m, rfl, Og, Tm, h2⟩
  have O3 := O2.below h2
  have k2 := kd.trans (h2.mono kd.size)
  clear kd O2
  go_wp2_with fail
  refine ⟨h2, ?_⟩
  clear h2
  have hl := look0_in Tryd.underlying74 true Tm
  rw [← HK.out] at hl
  repeat (refine Grow.reads rfl rfl ?_; go_big_quiet_step (fail); refine wpQuiet_nil ?_)
  clear hl
  refine Grow.ends ?_
  have c1 := O3.key
  cases b with
  | false =>
    go_wp2_with fail
    refine (ck _).mono ?_
    rintro e w3 ⟨rfl, rfl⟩
    clear ck
    go_wp2_with fail
    go_ret
    exact ⟨ret_bool (HR.out.symm.trans (mayO_key HB.out)).symm, k2⟩
  | true =>
    go_wp2_with fail
    refine (ck _).mono ?_
    rintro e w3 ⟨rfl, rfl⟩
    clear ck
    go_wp2_with fail
    refine (cf _ _ Og).mono ?_
    rintro e w3 ⟨rfl, rfl⟩
    clear cf
    go_wp2_with fail
    go_ret
    exact ⟨ret_bool (HR.out.symm.trans ((mayO_rest HB.out).trans (restB0 HK.out))).symm, k2⟩
set_option maxRecDepth 100000 in
set_option maxHeartbeats 4000000 in
theorem may1 (o : Opn) (w : World) (hf : Fit o) (hk : o.kind = 1 ∨ o.kind = 2 ∨ o.kind = 3) (b : Bool) (hb : keyL (bytesL o.key) = b) :
    Calls Tryd.prog 30 #[.agg (opc o)] w fun e w' => e = .returned (.bool (mayO o)) ∧ Below w.heap.size w w' := by
  have O1 := OpAt.new w o 27
  have ck := key o.key hf.key
  rw [hb] at ck
  have cf := fun g W h => mays2 g o W h hf.elem
  obtain ⟨r, hr⟩ : ∃ r, mayO o = r := ⟨_, rfl⟩
  rw [hr]
  have HR := aside hr
  have HB := aside hb
  have HK := aside hk
  clear hr hb hk
  go_enter Tryd.func30, Tryd.ntmps30
  go_wp2_with fail
  refine Grow.region [(0, true), (2, true), (3, true), (1, false), (4, true), (5, true), (6, true), (7, true), (8, true), (9, true)] (by kernel_rfl) (by kernel_rfl) rfl (by kernel_rfl) (by intro c a d v w h; cases d <;> exact h) ?_
  have kd : Below w.heap.size w (w.alloc (.cells (opc o) 27)).drew := below_drew1 ((Below.refl _ _).alloc (Nat.le_refl _) _)
  have O2 : OpAt (w.alloc (.cells (opc o) 27)).drew w.heap.size o := O1
  obtain ⟨W1, hW1⟩ : ∃ W, (w.alloc (.cells (opc o) 27)).drew = W := ⟨_, rfl⟩
  rw [hW1] at kd O2 ⊢
  clear hW1 O1
  have q0 := O2.kind_in
  repeat (first | (refine reads_op rfl rfl _ rfl _ rfl o O2 ?_; simp only [Act.put, List.setIfInBounds_toArray, List.set_cons_succ, List.set_cons_zero]) | (refine Grow.reads rfl rfl ?_; go_big_quiet_step (fail); refine wpQuiet_nil ?_))
  clear q0
  refine Grow.acts rfl ?_
  go_wp2_with fail
  refine (mays o W1).mono ?_
  rintro e w2 ⟨g, m, rfl, Og, Tm, h2⟩
  have O3 := O2.below h2
  have k2 := kd.trans (h2.mono kd.size)
  clear kd O2
  go_wp2_with fail
  refine ⟨h2, ?_⟩
  clear h2
  have hl := look1_in Tryd.underlying74 true HK.out Tm
  repeat (refine Grow.reads rfl rfl ?_; go_big_quiet_step (fail); refine wpQuiet_nil ?_)
  clear hl
  refine Grow.ends ?_
  have c1 := O3.key
  cases b with
  | false =>
    go_wp2_with fail
    refine (ck _).mono ?_
    rintro e w3 ⟨rfl, rfl⟩
    clear ck
    go_wp2_with fail
    go_ret
    exact ⟨ret_bool (HR.out.symm.trans (mayO_key HB.out)).symm, k2⟩
  | true =>
    go_wp2_with fail
    refine (ck _).mono ?_
    rintro e w3 ⟨rfl, rfl⟩
    clear ck
    go_wp2_with fail
    refine (cf _ _ Og).mono ?_
    rintro e w3 ⟨rfl, rfl⟩
    clear cf
    go_wp2_with fail
    go_ret
    exact ⟨ret_bool (HR.out.symm.trans ((mayO_rest HB.out).trans (restB1 HK.out))).symm, k2⟩
set_option maxRecDepth 100000 in
set_option maxHeartbeats 4000000 in
theorem mayN (o : Opn) (w : World) (hf : Fit o) (hk : o.kind < 0 ∨ 3 < o.kind) (b : Bool) (hb : keyL (bytesL o.key) = b) :
    Calls Tryd.prog 30 #[.agg (opc o)] w fun e w' => e = .returned (.bool (mayO o)) ∧ Below w.heap.size w w' := by
  have O1 := OpAt.new w o 27
  have ck := key o.key hf.key
  rw [hb] at ck
  obtain ⟨r, hr⟩ : ∃ r, mayO o = r := ⟨_, rfl⟩
  rw [hr]
  have HR := aside hr
  have HB := aside hb
  have HK := aside hk
  clear hr hb hk
  go_enter Tryd.func30, Tryd.ntmps30
  go_wp2_with fail
  refine Grow.region [(0, true), (2, true), (3, true), (1, false), (4, true), (5, true), (6, true), (7, true), (8, true), (9, true)] (by kernel_rfl) (by kernel_rfl) rfl (by kernel_rfl) (by intro c a d v w h; cases d <;> exact h) ?_
  have kd : Below w.heap.size w (w.alloc (.cells (opc o) 27)).drew := below_drew1 ((Below.refl _ _).alloc (Nat.le_refl _) _)
  have O2 : OpAt (w.alloc (.cells (opc o) 27)).drew w.heap.size o := O1
  obtain ⟨W1, hW1⟩ : ∃ W, (w.alloc (.cells (opc o) 27)).drew = W := ⟨_, rfl⟩
  rw [hW1] at kd O2 ⊢
  clear hW1 O1
  have q0 := O2.kind_in
  repeat (first | (refine reads_op rfl rfl _ rfl _ rfl o O2 ?_; simp only [Act.put, List.setIfInBounds_toArray, List.set_cons_succ, List.set_cons_zero]) | (refine Grow.reads rfl rfl ?_; go_big_quiet_step (fail); refine wpQuiet_nil ?_))
  clear q0
  refine Grow.acts rfl ?_
  go_wp2_with fail
  refine (mays o W1).mono ?_
  rintro e w2 ⟨g, m, rfl, Og, Tm, h2⟩
  have O3 := O2.below h2
  have k2 := kd.trans (h2.mono kd.size)
  clear kd O2
  go_wp2_with fail
  refine ⟨h2, ?_⟩
  clear h2
  have hl := lookN_in Tryd.underlying74 true hf.kind HK.out zero_may Tm
  repeat (refine Grow.reads rfl rfl ?_; go_big_quiet_step (fail); refine wpQuiet_nil ?_)
  clear hl
  refine Grow.ends ?_
  have c1 := O3.key
  clear ck
  go_wp2_with fail
  go_ret
  refine ⟨ret_bool (HR.out.symm.trans ?_).symm, k2⟩
  cases b with
  | false => exact mayO_key HB.out
  | true => rw [mayO_rest HB.out, restBN HK.out]
/-- What ops.May returns. -/
theorem may (o : Opn) (w : World) (hf : Fit o) :
    Calls Tryd.prog 30 #[.agg (opc o)] w fun e w' => e = .returned (.bool (mayO o)) ∧ Below w.heap.size w w' := by
  by_cases h0 : o.kind = 0
  · exact may0 o w hf h0 _ rfl
  · by_cases h1 : o.kind = 1 ∨ o.kind = 2 ∨ o.kind = 3
    · exact may1 o w hf h1 _ rfl
    · exact mayN o w hf (by omega) _ rfl
end Go.Proofs.YteojkfbnenfmkaaDoor.OpsC
