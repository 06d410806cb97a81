/- What the walks of the laws on states lean on: how long what comes of states is; what may be put in bytes. No condition. | Structs loaded whole where the load is guarded, and wanted. No condition. | What ops.mays and its functions, and ops.May, return: contracts. -/
import Derived.Test.YtnjdkjkihbgkaaaGreatOpenSJ3
import Derived.Test.YtnjdkjkihbgkaaaGreatStQ
import Derived.Test.YtnjdkjkihbgkaaaGreatCtrQJ4
import Derived.Test.YtnjdkjkihbgkaaaGreatRegUJ3
import Derived.Test.YtnjdkjkihbgkaaaGreatPairUJ4
import Derived.Test.YtnjdkjkihbgkaaaGreatRowGJ6
import Derived.Test.YtnjdkjkihbgkaaaGreatOpsW
import Derived.Test.YtnjdkjkihbgkaaaGreatRowBJ2
namespace Go.Proofs.YtnjdkjkihbgkaaaGreat.StY
set_option maxRecDepth 100000
open Go Go.RowKit Byt OpsM Rise RowS StM StN StW StX

theorem in_of {s : St} (h : Fits s) : CtrL.InL s.c := fun c hc => (h.c c hc).2
theorem key_eight {k : ByteArray} (h : keyL (bytesL k) = true) : k.size ≤ 8 := by
  have h1 := keyL_len h
  rw [bytesL_length] at h1
  exact h1.2
theorem step_fits {s : St} {o : Opn} {n q g : Int} (hf : Fits s) (hm : okD s o n q g = true) (hn : CtrL.In64 n) (hq : CtrL.In64 q) (hg : CtrL.In64 g) : Fits (stepS s o n q g) := by
  obtain ⟨_, m2, _, _⟩ := okD_iff.1 hm
  have hk := key_eight (key_may m2)
  have he : o.kind = 1 ∨ o.kind = 2 ∨ o.kind = 3 → o.elem.size ≤ 8 := fun h => key_eight (elem_may m2 h)
  unfold stepS
  split
  · exact ⟨CtrX.inc_fits _ _ (in_of hf), hf.r, hf.p⟩
  · split
    · rename_i h
      have := he (.inl h)
      exact ⟨hf.c, RegU.put_fits hf.r ⟨by show o.key.size ≤ _; omega, by show o.elem.size ≤ _; omega, hg, hn, hq⟩, hf.p⟩
    · split
      · rename_i h
        have := he (.inr (.inl h))
        exact ⟨hf.c, hf.r, PairX.add_fits hf.p ⟨by show o.key.size ≤ _; omega, by show o.elem.size ≤ _; omega, hn, hq⟩⟩
      · exact ⟨hf.c, hf.r, PairX.del_fits hf.p⟩
theorem step_len {s : St} {m : Nat} (h : Len m s) (o : Opn) (n q g : Int) : Len (m + 1) (stepS s o n q g) := by
  have h0 := h.c
  have h1 := h.r
  have h2 := h.p
  unfold stepS
  split
  · refine ⟨?_, by show s.r.length ≤ _; omega, by show s.p.length ≤ _; omega⟩
    have := CtrX.inc_len s.c o.key o.n
    show (CtrM.incC s.c o.key o.n).length ≤ _
    omega
  · split
    · refine ⟨by show s.c.length ≤ _; omega, ?_, by show s.p.length ≤ _; omega⟩
      have := RegL.put_length s.r (regO o n q g)
      show (RegL.putR s.r (regO o n q g)).length ≤ _
      omega
    · split
      · refine ⟨by show s.c.length ≤ _; omega, by show s.r.length ≤ _; omega, ?_⟩
        have := PairM.add_length s.p (pairO o n q)
        show (PairM.addP s.p (pairO o n q)).length ≤ _
        omega
      · refine ⟨by show s.c.length ≤ _; omega, by show s.r.length ≤ _; omega, ?_⟩
        have := PairM.del_length s.p o.key o.elem
        show (PairM.delP s.p o.key o.elem).length ≤ _
        omega
theorem join_fits (base : St) {a b : St} (ha : Fits a) (hb : Fits b) : Fits (joinS base a b) := ⟨CtrX.merge_fits _ _ _, RegX.merge_fits ha.r hb.r, PairX.merge_fits ha.p hb.p⟩
theorem pair_len (base a b : List PairM.Pr) : (PairM.mergeP base a b).length ≤ a.length + b.length := by
  by_cases h : PairM.mayP base = true ∧ PairM.mayP a = true ∧ PairM.mayP b = true
  · exact PairM.merge_length h.1 h.2.1 h.2.2
  · unfold PairM.mergeP
    rw [if_neg h]
    simp
theorem join_len {base a b : St} {m n k : Nat} (h0 : Len m base) (h1 : Len n a) (h2 : Len k b) : Len (m + n + k) (joinS base a b) := by
  have a0 := h0.c
  have a1 := h1.c
  have a2 := h2.c
  have b1 := h1.r
  have b2 := h2.r
  have c1 := h1.p
  have c2 := h2.p
  refine ⟨?_, ?_, ?_⟩
  · have := CtrX.merge_len base.c a.c b.c
    show (CtrM.mergeC base.c a.c b.c).length ≤ _
    omega
  · have := RegL.merge_length a.r b.r
    show (RegL.mergeR a.r b.r).length ≤ _
    omega
  · have := pair_len base.p a.p b.p
    show (PairM.mergeP base.p a.p b.p).length ≤ _
    omega
/-- What a law asks is more than Put asks. -/
theorem short {s : St} (hf : fewS s = true) (h : OpenS.Good s) : StQ.Short s := by
  obtain ⟨a, b, d⟩ := few_texts hf
  exact ⟨fits hf h, (few_len hf).le (by omega), fun x hx => by have := a x hx; omega, fun x hx => ⟨by have := (b x hx).1; omega, by have := (b x hx).2; omega⟩, fun x hx => ⟨by have := (d x hx).1; omega, by have := (d x hx).2; omega⟩⟩
/-- States that came in, and are few, are the same just if their bytes are. -/
theorem fit_put {s : St} (h : StQ.Short s) : FitS s := by
  have l0 := h.len.c
  have l1 := h.len.r
  have l2 := h.len.p
  exact ⟨fun x hx => ⟨by have := h.c x hx; omega, (h.fit.c x hx).2⟩, fun x hx => ⟨by have := (h.r x hx).1; omega, by have := (h.r x hx).2; omega, (h.fit.r x hx).gen, (h.fit.r x hx).node, (h.fit.r x hx).seq⟩,
    fun x hx => ⟨by have := (h.p x hx).1; omega, by have := (h.p x hx).2; omega, (h.fit.p x hx).node, (h.fit.p x hx).seq⟩, by omega, by omega, by omega⟩
theorem put_iff {s t : St} (hs : StQ.Short s) (ht : StQ.Short t) : putS s = putS t ↔ s = t := ⟨put_inj (fit_put hs) (fit_put ht), fun h => by rw [h]⟩
/-- What an operation changes, put back. -/
theorem back_c {s : St} {o : Opn} {n q g : Int} (h : o.kind = 0) : (⟨s.c, (stepS s o n q g).r, (stepS s o n q g).p⟩ : St) = s := by
  unfold stepS
  rw [if_pos h]
theorem back_r {s : St} {o : Opn} {n q g : Int} (h : o.kind = 1) : (⟨(stepS s o n q g).c, s.r, (stepS s o n q g).p⟩ : St) = s := by
  unfold stepS
  rw [if_neg (by omega), if_pos h]
theorem back_p {s : St} {o : Opn} {n q g : Int} (h : o.kind = 2 ∨ o.kind = 3) : (⟨(stepS s o n q g).c, (stepS s o n q g).r, s.p⟩ : St) = s := by
  unfold stepS
  rw [if_neg (by omega), if_neg (by omega)]
  split <;> rfl
theorem do_some {s : St} {o : Opn} {n q g : Int} (h : okD s o n q g = true) : doS s o n q g = some (stepS s o n q g) := if_pos h
theorem do_nil {s : St} {o : Opn} {n q g : Int} (h : okD s o n q g = false) : doS s o n q g = none := if_neg (by rw [h]; simp)
theorem merge_some {base a b : St} (h0 : mayS base = true) (h1 : mayS a = true) (h2 : mayS b = true) : mergeS base a b = some (joinS base a b) := if_pos (okM_iff.2 ⟨h0, h1, h2⟩)
end Go.Proofs.YtnjdkjkihbgkaaaGreat.StY
namespace Go.Proofs.YtnjdkjkihbgkaaaGreat.CelG
set_option maxRecDepth 100000
open Go Go.RowKit Byt OpsM OpsW RowS StM StW

section
variable {ops : Array Oper} {rest : List Oper} {o : Oper} {a : Act} {w : World} {Q : Exit → Act → World → Prop}
theorem gload {α : Type} (E : Cel.Cel α) (x : Operand) (ho : o.op = .load E.T x)
    (g : Nat) (hx : a.eval x = .pointer (some ⟨g, 0, none⟩)) (y : α) (hb : Cel.Box E w g y) (hw : Region.wanted o (yielded ops a.tmps) = true) (h : wpList Tryz.prog ops Q rest (a.put o.dst (.agg (E.enc y).toArray)) w) : wpList Tryz.prog ops Q (o :: rest) a w :=
  RowC.unguard hw (Cel.wpList_load_box E rfl x ho g hx y hb h)
theorem gop (x : Operand) (ho : o.op = .load 28 x)
    (g : Nat) (hx : a.eval x = .pointer (some ⟨g, 0, none⟩)) (y : Opn) (hb : OpAt w g y) (hw : Region.wanted o (yielded ops a.tmps) = true) (h : wpList Tryz.prog ops Q rest (a.put o.dst (.agg (opc y))) w) : wpList Tryz.prog ops Q (o :: rest) a w :=
  RowC.unguard hw (wpList_load_op rfl x ho g hx y hb h)
theorem gev (x : Operand) (ho : o.op = .load 30 x)
    (g : Nat) (hx : a.eval x = .pointer (some ⟨g, 0, none⟩)) (y : Ev) (hb : Cel.Box EE w g y) (hw : Region.wanted o (yielded ops a.tmps) = true) (h : wpList Tryz.prog ops Q rest (a.put o.dst (.agg #[.int .i64 y.node, .int .i64 y.seq])) w) : wpList Tryz.prog ops Q (o :: rest) a w :=
  RowC.unguard hw (wpList_load_ev rfl x ho g hx y hb h)
end
end Go.Proofs.YtnjdkjkihbgkaaaGreat.CelG
namespace Go.Proofs.YtnjdkjkihbgkaaaGreat.OpsC
set_option maxRecDepth 100000
open Go Go.RowKit Go.Sort Byt OpsM OpsK OpsW

/-- A text is empty. -/
theorem empty_yes {s : ByteArray} (h : bytesL s = []) : s.toList = [] := by
  rw [empty_of h, ByteArray.toList_eq]
theorem empty_no {s : ByteArray} (h : bytesL s ≠ []) : ¬ s.toList = [] := by
  intro e
  apply h
  rw [ByteArray.toList_eq] at e
  unfold bytesL
  rw [e]
  rfl
theorem stepB_no {n : Int} {e : ByteArray} (h : ¬ (-1048576 ≤ n ∧ n ≤ 1048576 ∧ n ≠ 0 ∧ bytesL e = [])) : stepB n e = false := by
  rw [← stepB_iff] at h
  simpa using h
theorem elemB_no {n : Int} {e : ByteArray} (h : ¬ (keyL (bytesL e) = true ∧ n = 0)) : elemB n e = false := by
  rw [← elemB_iff] at h
  simpa using h

set_option maxHeartbeats 1000000 in
theorem mays1 (g : Nat) (o : Opn) (w : World) (h : OpAt w g o) (hn : I64 o.n) :
    Calls Tryz.prog 98 #[.pointer (some ⟨g, 0, none⟩)] w fun e w' => e = .returned (.bool (stepB o.n o.elem)) ∧ w = w' := by
  have c2 := h.elem
  have c3 := h.n
  obtain ⟨n, hn'⟩ : ∃ n, o.n = n := ⟨_, rfl⟩
  obtain ⟨s, hs'⟩ : ∃ s, o.elem = s := ⟨_, rfl⟩
  rw [hn'] at c3 hn ⊢
  rw [hs'] at c2 ⊢
  unfold I64 at hn
  obtain ⟨n1, n2⟩ := hn
  clear hn' hs' h
  by_cases ha : n < -1048576
  · have HR := aside (stepB_no (n := n) (e := s) (by omega))
    go_enter Tryz.func98, Tryz.ntmps98
    go_wp2
    go_ret
    exact ⟨ret_bool HR.out.symm, rfl⟩
  · by_cases hb : 1048576 < n
    · have HR := aside (stepB_no (n := n) (e := s) (by omega))
      go_enter Tryz.func98, Tryz.ntmps98
      go_wp2
      go_ret
      exact ⟨ret_bool HR.out.symm, rfl⟩
    · by_cases h0 : n = 0
      · subst h0
        have HR := aside (stepB_no (n := 0) (e := s) (by omega))
        go_enter Tryz.func98, Tryz.ntmps98
        go_wp2
        go_ret
        exact ⟨ret_bool HR.out.symm, rfl⟩
      · by_cases he : bytesL s = []
        · have HR := aside (stepB_iff (n := n) (e := s) |>.2 ⟨by omega, by omega, h0, he⟩)
          have e1 := empty_yes he
          have e3 : s.toList.isEmpty = true := by rw [e1]; rfl
          have t0 : (n != 0) = true := by simpa using h0
          clear he h0
          go_enter Tryz.func98, Tryz.ntmps98
          go_wp2
          go_ret
          exact ⟨ret_bool HR.out.symm, rfl⟩
        · have HR := aside (stepB_no (n := n) (e := s) (fun q => he q.2.2.2))
          have e1 := empty_no he
          have e3 : s.toList.isEmpty = false := by simpa using e1
          have t0 : (n != 0) = true := by simpa using h0
          clear he h0
          go_enter Tryz.func98, Tryz.ntmps98
          go_wp2
          go_ret
          exact ⟨ret_bool HR.out.symm, rfl⟩

set_option maxHeartbeats 1000000 in
theorem mays2 (g : Nat) (o : Opn) (w : World) (h : OpAt w g o) (hs : o.elem.size ≤ maxLen) :
    Calls Tryz.prog 99 #[.pointer (some ⟨g, 0, none⟩)] w fun e w' => e = .returned (.bool (elemB o.n o.elem)) ∧ w = w' := by
  have c2 := h.elem
  have c3 := h.n
  obtain ⟨n, hn'⟩ : ∃ n, o.n = n := ⟨_, rfl⟩
  obtain ⟨s, hs'⟩ : ∃ s, o.elem = s := ⟨_, rfl⟩
  rw [hn'] at c3 ⊢
  rw [hs'] at c2 hs ⊢
  have hk := key s hs
  clear hn' hs' h
  cases hb : keyL (bytesL s) with
  | false =>
    have HR := aside (elemB_no (n := n) (e := s) (by rw [hb]; simp))
    rw [hb] at hk
    clear hb
    go_enter Tryz.func99, Tryz.ntmps99
    go_wp2_with (refine (hk _).mono ?_; rintro e w' ⟨rfl, rfl⟩)
    go_ret
    exact ⟨ret_bool HR.out.symm, rfl⟩
  | true =>
    rw [hb] at hk
    by_cases h0 : n = 0
    · have HR := aside (elemB_iff (n := n) (e := s) |>.2 ⟨hb, h0⟩)
      have t0 : (n == 0) = true := by simpa using h0
      clear hb h0
      go_enter Tryz.func99, Tryz.ntmps99
      go_wp2_with (refine (hk _).mono ?_; rintro e w' ⟨rfl, rfl⟩)
      go_ret
      exact ⟨ret_bool HR.out.symm, rfl⟩
    · have HR := aside (elemB_no (n := n) (e := s) (fun q => h0 q.2))
      have t0 : (n == 0) = false := by simpa using h0
      clear hb h0
      go_enter Tryz.func99, Tryz.ntmps99
      go_wp2_with (refine (hk _).mono ?_; rintro e w' ⟨rfl, rfl⟩)
      go_ret
      exact ⟨ret_bool HR.out.symm, rfl⟩

/-- The table that the walk makes, entry by entry. -/
theorem tab_new (w : World) (f g : Value) : TabAt (w.alloc (.map (((((#[] : Array MapEntry).push ⟨.int .i64 0, f, 0⟩).push ⟨.int .i64 1, g, 1⟩).push ⟨.int .i64 2, g, 2⟩).push ⟨.int .i64 3, g, 3⟩) 4)) w.heap.size f g := heap_alloc_new w _
/-- What a function that makes a table answers. -/
def Tab (F G : Nat) (o : Opn) (w : World) (e : Ending) (w' : World) : Prop :=
  ∃ b m, e = .returned (.map (some m)) ∧ OpAt w' b o ∧ TabAt w' m (.func (.func F) #[] #[.pointer (some ⟨b, 0, none⟩)]) (.func (.func G) #[] #[.pointer (some ⟨b, 0, none⟩)]) ∧ Below w.heap.size w w'
set_option maxHeartbeats 1000000 in
theorem mays (o : Opn) (w : World) :
    Calls Tryz.prog 63 #[.agg (opc o)] w (Tab 98 99 o w) := by
  have O1 := OpAt.new w o 28
  have hmm := made 87
  go_enter Tryz.func63, Tryz.ntmps63
  go_wp2_with (refine wpList_entry Tryz.underlying87 rfl rfl _ _ _ rfl _ _ _ rfl _ rfl (by simp) _ (by unfold I64; omega) rfl rfl _ rfl ?_)
  go_ret
  have hz : (w.alloc (.cells (opc o) 28)).heap.size = w.heap.size + 1 := by simp
  have ht := tab_new (w.alloc (.cells (opc o) 28)) (.func (.func 98) #[] #[.pointer (some ⟨w.heap.size, 0, none⟩)]) (.func (.func 99) #[] #[.pointer (some ⟨w.heap.size, 0, none⟩)])
  rw [hz] at ht
  exact ⟨w.heap.size, w.heap.size + 1, rfl, O1.alloc _, ht, ((Below.refl _ _).alloc (Nat.le_refl _) _).alloc (by simp) _⟩

theorem zero_may (w : World) : (zeroValue 31).run Tryz.prog w = .ok .nilFunc w := by kernel_rfl
theorem mayO_key {o : Opn} (h : keyL (bytesL o.key) = false) : mayO o = false := by unfold mayO; rw [h]; rfl
theorem mayO_rest {o : Opn} (h : keyL (bytesL o.key) = true) : mayO o = restB o := by unfold mayO; rw [h]; rfl
theorem restB0 {o : Opn} (h : o.kind = 0) : restB o = stepB o.n o.elem := by unfold restB; rw [if_pos h]
theorem restB1 {o : Opn} (h : o.kind = 1 ∨ o.kind = 2 ∨ o.kind = 3) : restB o = elemB o.n o.elem := by unfold restB; rw [if_neg (by omega), if_pos h]
theorem restBN {o : Opn} (h : o.kind < 0 ∨ 3 < o.kind) : restB o = false := by unfold restB; rw [if_neg (by omega), if_neg (by omega)]
/-- What is asked of an operation that a walk meets. -/
structure Fit (o : Opn) : Prop where
  kind : I64 o.kind
  n : I64 o.n
  key : o.key.size ≤ maxLen
  elem : o.elem.size ≤ maxLen

set_option maxRecDepth 100000 in
set_option maxHeartbeats 4000000 in
theorem may0 (o : Opn) (w : World) (hf : Fit o) (hk : o.kind = 0) (b : Bool) (hb : keyL (bytesL o.key) = b) :
    Calls Tryz.prog 24 #[.agg (opc o)] w fun e w' => e = .returned (.bool (mayO o)) ∧ Below w.heap.size w w' := by
  have O1 := OpAt.new w o 28
  have ck := key o.key hf.key
  rw [hb] at ck
  have cf := fun g W h => mays1 g o W h hf.n
  obtain ⟨r, hr⟩ : ∃ r, mayO o = r := ⟨_, rfl⟩
  rw [hr]
  have HR := aside hr
  have HB := aside hb
  have HK := aside hk
  clear hr hb hk
  go_enter Tryz.func24, Tryz.ntmps24
  go_wp2_with fail
  refine Grow.region [(0, true), (2, true), (3, true), (1, false), (4, true), (5, true), (6, true), (7, true), (8, true), (9, true)] (by kernel_rfl) (by kernel_rfl) rfl (by kernel_rfl) (by intro c a d v w h; cases d <;> exact h) ?_
  have kd : Below w.heap.size w (w.alloc (.cells (opc o) 28)).drew := below_drew1 ((Below.refl _ _).alloc (Nat.le_refl _) _)
  have O2 : OpAt (w.alloc (.cells (opc o) 28)).drew w.heap.size o := O1
  obtain ⟨W1, hW1⟩ : ∃ W, (w.alloc (.cells (opc o) 28)).drew = W := ⟨_, rfl⟩
  rw [hW1] at kd O2 ⊢
  clear hW1 O1
  have q0 := O2.kind_in
  repeat (first | (refine reads_op rfl rfl _ rfl _ rfl o O2 ?_; simp only [Act.put, List.setIfInBounds_toArray, List.set_cons_succ, List.set_cons_zero]) | (refine Grow.reads rfl rfl ?_; go_big_quiet_step (fail); refine wpQuiet_nil ?_))
  clear q0
  refine Grow.acts rfl ?_
  go_wp2_with fail
  refine (mays o W1).mono ?_
  rintro e w2 ⟨g, m, rfl, Og, Tm, h2⟩
  have O3 := O2.below h2
  have k2 := kd.trans (h2.mono kd.size)
  clear kd O2
  go_wp2_with fail
  refine ⟨h2, ?_⟩
  clear h2
  have hl := look0_in Tryz.underlying87 true Tm
  rw [← HK.out] at hl
  repeat (refine Grow.reads rfl rfl ?_; go_big_quiet_step (fail); refine wpQuiet_nil ?_)
  clear hl
  refine Grow.ends ?_
  have c1 := O3.key
  cases b with
  | false =>
    go_wp2_with fail
    refine (ck _).mono ?_
    rintro e w3 ⟨rfl, rfl⟩
    clear ck
    go_wp2_with fail
    go_ret
    exact ⟨ret_bool (HR.out.symm.trans (mayO_key HB.out)).symm, k2⟩
  | true =>
    go_wp2_with fail
    refine (ck _).mono ?_
    rintro e w3 ⟨rfl, rfl⟩
    clear ck
    go_wp2_with fail
    refine (cf _ _ Og).mono ?_
    rintro e w3 ⟨rfl, rfl⟩
    clear cf
    go_wp2_with fail
    go_ret
    exact ⟨ret_bool (HR.out.symm.trans ((mayO_rest HB.out).trans (restB0 HK.out))).symm, k2⟩
set_option maxRecDepth 100000 in
set_option maxHeartbeats 4000000 in
theorem may1 (o : Opn) (w : World) (hf : Fit o) (hk : o.kind = 1 ∨ o.kind = 2 ∨ o.kind = 3) (b : Bool) (hb : keyL (bytesL o.key) = b) :
    Calls Tryz.prog 24 #[.agg (opc o)] w fun e w' => e = .returned (.bool (mayO o)) ∧ Below w.heap.size w w' := by
  have O1 := OpAt.new w o 28
  have ck := key o.key hf.key
  rw [hb] at ck
  have cf := fun g W h => mays2 g o W h hf.elem
  obtain ⟨r, hr⟩ : ∃ r, mayO o = r := ⟨_, rfl⟩
  rw [hr]
  have HR := aside hr
  have HB := aside hb
  have HK := aside hk
  clear hr hb hk
  go_enter Tryz.func24, Tryz.ntmps24
  go_wp2_with fail
  refine Grow.region [(0, true), (2, true), (3, true), (1, false), (4, true), (5, true), (6, true), (7, true), (8, true), (9, true)] (by kernel_rfl) (by kernel_rfl) rfl (by kernel_rfl) (by intro c a d v w h; cases d <;> exact h) ?_
  have kd : Below w.heap.size w (w.alloc (.cells (opc o) 28)).drew := below_drew1 ((Below.refl _ _).alloc (Nat.le_refl _) _)
  have O2 : OpAt (w.alloc (.cells (opc o) 28)).drew w.heap.size o := O1
  obtain ⟨W1, hW1⟩ : ∃ W, (w.alloc (.cells (opc o) 28)).drew = W := ⟨_, rfl⟩
  rw [hW1] at kd O2 ⊢
  clear hW1 O1
  have q0 := O2.kind_in
  repeat (first | (refine reads_op rfl rfl _ rfl _ rfl o O2 ?_; simp only [Act.put, List.setIfInBounds_toArray, List.set_cons_succ, List.set_cons_zero]) | (refine Grow.reads rfl rfl ?_; go_big_quiet_step (fail); refine wpQuiet_nil ?_))
  clear q0
  refine Grow.acts rfl ?_
  go_wp2_with fail
  refine (mays o W1).mono ?_
  rintro e w2 ⟨g, m, rfl, Og, Tm, h2⟩
  have O3 := O2.below h2
  have k2 := kd.trans (h2.mono kd.size)
  clear kd O2
  go_wp2_with fail
  refine ⟨h2, ?_⟩
  clear h2
  have hl := look1_in Tryz.underlying87 true HK.out Tm
  repeat (refine Grow.reads rfl rfl ?_; go_big_quiet_step (fail); refine wpQuiet_nil ?_)
  clear hl
  refine Grow.ends ?_
  have c1 := O3.key
  cases b with
  | false =>
    go_wp2_with fail
    refine (ck _).mono ?_
    rintro e w3 ⟨rfl, rfl⟩
    clear ck
    go_wp2_with fail
    go_ret
    exact ⟨ret_bool (HR.out.symm.trans (mayO_key HB.out)).symm, k2⟩
  | true =>
    go_wp2_with fail
    refine (ck _).mono ?_
    rintro e w3 ⟨rfl, rfl⟩
    clear ck
    go_wp2_with fail
    refine (cf _ _ Og).mono ?_
    rintro e w3 ⟨rfl, rfl⟩
    clear cf
    go_wp2_with fail
    go_ret
    exact ⟨ret_bool (HR.out.symm.trans ((mayO_rest HB.out).trans (restB1 HK.out))).symm, k2⟩
set_option maxRecDepth 100000 in
set_option maxHeartbeats 4000000 in
theorem mayN (o : Opn) (w : World) (hf : Fit o) (hk : o.kind < 0 ∨ 3 < o.kind) (b : Bool) (hb : keyL (bytesL o.key) = b) :
    Calls Tryz.prog 24 #[.agg (opc o)] w fun e w' => e = .returned (.bool (mayO o)) ∧ Below w.heap.size w w' := by
  have O1 := OpAt.new w o 28
  have ck := key o.key hf.key
  rw [hb] at ck
  obtain ⟨r, hr⟩ : ∃ r, mayO o = r := ⟨_, rfl⟩
  rw [hr]
  have HR := aside hr
  have HB := aside hb
  have HK := aside hk
  clear hr hb hk
  go_enter Tryz.func24, Tryz.ntmps24
  go_wp2_with fail
  refine Grow.region [(0, true), (2, true), (3, true), (1, false), (4, true), (5, true), (6, true), (7, true), (8, true), (9, true)] (by kernel_rfl) (by kernel_rfl) rfl (by kernel_rfl) (by intro c a d v w h; cases d <;> exact h) ?_
  have kd : Below w.heap.size w (w.alloc (.cells (opc o) 28)).drew := below_drew1 ((Below.refl _ _).alloc (Nat.le_refl _) _)
  have O2 : OpAt (w.alloc (.cells (opc o) 28)).drew w.heap.size o := O1
  obtain ⟨W1, hW1⟩ : ∃ W, (w.alloc (.cells (opc o) 28)).drew = W := ⟨_, rfl⟩
  rw [hW1] at kd O2 ⊢
  clear hW1 O1
  have q0 := O2.kind_in
  repeat (first | (refine reads_op rfl rfl _ rfl _ rfl o O2 ?_; simp only [Act.put, List.setIfInBounds_toArray, List.set_cons_succ, List.set_cons_zero]) | (refine Grow.reads rfl rfl ?_; go_big_quiet_step (fail); refine wpQuiet_nil ?_))
  clear q0
  refine Grow.acts rfl ?_
  go_wp2_with fail
  refine (mays o W1).mono ?_
  rintro e w2 ⟨g, m, rfl, Og, Tm, h2⟩
  have O3 := O2.below h2
  have k2 := kd.trans (h2.mono kd.size)
  clear kd O2
  go_wp2_with fail
  refine ⟨h2, ?_⟩
  clear h2
  have hl := lookN_in Tryz.underlying87 true hf.kind HK.out zero_may Tm
  repeat (refine Grow.reads rfl rfl ?_; go_big_quiet_step (fail); refine wpQuiet_nil ?_)
  clear hl
  refine Grow.ends ?_
  have c1 := O3.key
  clear ck
  go_wp2_with fail
  go_ret
  refine ⟨ret_bool (HR.out.symm.trans ?_).symm, k2⟩
  cases b with
  | false => exact mayO_key HB.out
  | true => rw [mayO_rest HB.out, restBN HK.out]
/-- What ops.May returns. -/
theorem may (o : Opn) (w : World) (hf : Fit o) :
    Calls Tryz.prog 24 #[.agg (opc o)] w fun e w' => e = .returned (.bool (mayO o)) ∧ Below w.heap.size w w' := by
  by_cases h0 : o.kind = 0
  · exact may0 o w hf h0 _ rfl
  · by_cases h1 : o.kind = 1 ∨ o.kind = 2 ∨ o.kind = 3
    · exact may1 o w hf h1 _ rfl
    · exact mayN o w hf (by omega) _ rfl
end Go.Proofs.YtnjdkjkihbgkaaaGreat.OpsC
