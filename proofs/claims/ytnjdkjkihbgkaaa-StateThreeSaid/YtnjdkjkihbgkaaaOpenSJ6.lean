/- How a reading gives a state, and an event, that came in. No condition. | What the laws on states ask of them: few of each; a contract. No condition but sizes that come with every argument. | What the document's answer's Num, Fold, Unfold and Text of package enc return: contracts. | What the document's num of package state returns: a contract. | What the walks of the laws on states lean on: how long what comes of states is; what may be put in bytes. No condition. | Structs loaded whole where the load is guarded, and wanted. No condition. -/
import Derived.Test.YtnjdkjkihbgkaaaRowGJ3
import Derived.Test.YtnjdkjkihbgkaaaCtrPJ5
import Derived.Test.YtnjdkjkihbgkaaaRegPJ5
import Derived.Test.YtnjdkjkihbgkaaaPairPJ6
import Derived.Test.YtnjdkjkihbgkaaaOpsKJ6
import Derived.Test.YtnjdkjkihbgkaaaRegSJ5
import Derived.Test.YtnjdkjkihbgkaaaEncCJ5
import Derived.Test.YtnjdkjkihbgkaaaOpsW
import Derived.Test.YtnjdkjkihbgkaaaRowBJ2
namespace Go.Proofs.Ytnjdkjkihbgkaaa.OpenS
set_option maxRecDepth 100000
open Go Go.Deep Go.ChangeShapes Go.WideShapes Go.ChangeAt Go.RowKit Byt RowS StM StW

/-- A state that came in. -/
structure Good (s : St) : Prop where
  c : ∀ x ∈ s.c, OpenC.Good x
  r : ∀ x ∈ s.r, OpenG.Good x
  p : ∀ x ∈ s.p, OpenP.Good x
section
variable {H : Type} {enc : TypeId × Value → H} {W : World} {α : Type}
set_option maxRecDepth 100000 in
theorem read_rows (E : Enc α) {good : α → Prop} (hC : Try.prog.cellsOf E.T = E.k)
    (hread : ∀ (fuel : Nat) (cs : List Value) (y : DataW H × List MemPlace), DataW.trod enc Try.prog W 0 (fun _ => true) true fuel E.T cs = some y → ∃ x, cs = E.enc x ∧ good x) (fuel : Nat) (cs : List Value) (y : DataW H × List MemPlace)
    (hf : DataW.trod enc Try.prog W 0 (fun _ => true) true fuel E.S cs = some y) : ∃ A cap l, cs = [.slice A (List.length l) cap] ∧ SlR E W A cap l ∧ ∀ x ∈ l, good x := by
  rcases DataW.trod_slice E.slice hf with ⟨rfl, _⟩ | ⟨x, len, cap, elems, rest, n, _, rfl, _, _, hl, hm, hel, hcell, _, _⟩
  · exact ⟨none, 0, [], rfl, SlR.nil E W, by simp⟩
  · rw [hC] at hcell
    have key : ∀ i, i < len → ∃ y : α, good y ∧ ∀ j u, (E.enc y)[j]? = some u → W.cell? (x.add (i * E.k + j)) = some u := by
      intro i hi
      have hi1 := hcell i hi
      rw [List.getElem?_eq_getElem (by omega)] at hi1
      rw [Option.bind_eq_some_iff] at hi1
      obtain ⟨cl, hcl, htr⟩ := hi1
      obtain ⟨y, rfl, hy⟩ := hread _ _ _ htr
      refine ⟨y, hy, fun j u hj => ?_⟩
      obtain ⟨_, _, hg⟩ := World.cells?_some hcl
      have hjl := (List.getElem?_eq_some_iff.1 hj).1
      rw [E.len] at hjl
      have := hg j hjl
      rw [Addr.add_add, hj] at this
      exact this
    obtain ⟨l, hll, hp⟩ := OpenR.list_of len key
    refine ⟨some x, cap, l, by rw [hll], ⟨by omega, hm, .inr ⟨x, rfl, fun i u hu => ?_⟩⟩, fun y hy => ?_⟩
    · obtain ⟨m, j, y, rfl, hy, hj⟩ := OpenR.flat_split E hu
      exact (hp m y hy).2 j u hj
    · obtain ⟨i, hi⟩ := List.mem_iff_getElem?.1 hy
      exact (hp i y hi).1
theorem read_fields {t : TypeId} {f0 f1 f2 : Field} (hs : Try.prog.underlying t = some (.struct #[f0, f1, f2])) (hC : Try.prog.cellsOf t = 3)
    (o0 : f0.offset = 0) (o1 : f1.offset = 1) (o2 : f2.offset = 2) (k0 : Try.prog.cellsOf f0.type = 1) (k1 : Try.prog.cellsOf f1.type = 1) (k2 : Try.prog.cellsOf f2.type = 1)
    (t0 : f0.type = CtrW.E.S) (t1 : f1.type = RegW.E.S) (t2 : f2.type = PairW.E.S) (fuel : Nat) (cs : List Value) (y : DataW H × List MemPlace)
    (h : DataW.trod enc Try.prog W 0 (fun _ => true) true fuel t cs = some y) : ∃ v : Sv, cs = SE.enc v ∧ In W v ∧ Good v.s := by
  obtain ⟨xs, n, _, _, hl, hlen, hf⟩ := DataW.trod_struct hs h
  rw [hC] at hl
  obtain ⟨a, b, c, rfl⟩ : ∃ a b c, cs = [a, b, c] := by
    match cs, hl with
    | [a, b, c], _ => exact ⟨a, b, c, rfl⟩
  obtain ⟨y0, y1, y2, rfl⟩ : ∃ a b c, xs = [a, b, c] := by
    match xs, hlen with
    | [a, b, c], _ => exact ⟨a, b, c, rfl⟩
  have e0 := hf 0 f0 rfl
  have e1 := hf 1 f1 rfl
  have e2 := hf 2 f2 rfl
  rw [o0, k0, t0] at e0
  rw [o1, k1, t1] at e1
  rw [o2, k2, t2] at e2
  simp only [List.drop_zero, List.take_succ_cons, List.take_zero, List.drop_succ_cons, List.getElem?_cons_zero, List.getElem?_cons_succ] at e0 e1 e2
  obtain ⟨A0, c0, l0, q0, s0, g0⟩ := read_rows CtrW.E (by kernel_rfl) (fun fuel cs y => OpenC.read_ctr Try.underlying53 (by kernel_rfl) (by kernel_rfl) Try.underlying9 Try.underlying3 fuel cs y) _ _ _ e0
  obtain ⟨A1, c1, l1, q1, s1, g1⟩ := read_rows RegW.E (by kernel_rfl) OpenG.read_reg _ _ _ e1
  obtain ⟨A2, c2, l2, q2, s2, g2⟩ := read_rows PairW.E (by kernel_rfl) OpenP.read_pair _ _ _ e2
  simp only [List.cons.injEq, and_true] at q0 q1 q2
  subst q0 q1 q2
  exact ⟨⟨A0, c0, A1, c1, A2, c2, ⟨l0, l1, l2⟩⟩, rfl, ⟨s0, s1, s2⟩, ⟨g0, g1, g2⟩⟩
theorem read_state (fuel : Nat) (cs : List Value) (y : DataW H × List MemPlace)
    (h : DataW.trod enc Try.prog W 0 (fun _ => true) true fuel 26 cs = some y) : ∃ v : Sv, cs = SE.enc v ∧ In W v ∧ Good v.s :=
  read_fields Try.underlying26 (by kernel_rfl) rfl rfl rfl (by kernel_rfl) (by kernel_rfl) (by kernel_rfl) rfl rfl rfl fuel cs y h
theorem open_state {base : Nat} {v : Value} {d : DataW H} {p : List MemPlace}
    (hval : Value.okWide Try.prog W .any base 26 v) (h : DataW.Trod enc Try.prog W 0 (fun _ => true) true 26 v d p) : ∃ x : Sv, v = .agg (sc x) ∧ In W x ∧ Good x.s := by
  obtain ⟨cs, rfl, hsz⟩ := okWide_struct Try.underlying26 hval
  obtain ⟨fuel, hf⟩ := h
  obtain ⟨x, hx, hi, hg⟩ := read_state fuel _ _ hf
  refine ⟨x, ?_, hi, hg⟩
  have hx2 : cs.toList = SE.enc x := by simpa [Value.cells] using hx
  have : cs.toList = (sc x).toList := hx2
  rw [show cs = sc x from Array.toList_inj.1 this]
/-- An event that came in. -/
structure GoodE (e : Ev) : Prop where
  node : PairW.In64 e.node
  seq : PairW.In64 e.seq
theorem open_event {base : Nat} {v : Value} {d : DataW H} {p : List MemPlace}
    (hval : Value.okWide Try.prog W .any base 39 v) (h : DataW.Trod enc Try.prog W 0 (fun _ => true) true 39 v d p) : ∃ e : Ev, v = .agg (ec e) ∧ GoodE e := by
  obtain ⟨cs, rfl, hsz⟩ := okWide_struct Try.underlying39 hval
  obtain ⟨fuel, hf⟩ := h
  obtain ⟨m, k, hx, h0, h1⟩ := OpenP.read_ev Try.underlying39 (by kernel_rfl) (by kernel_rfl) Try.underlying3 Try.underlying3 fuel _ _ hf
  refine ⟨⟨m, k⟩, ?_, ⟨h0, h1⟩⟩
  have hx2 : cs.toList = [.int .i64 m, .int .i64 k] := by simpa [Value.cells] using hx
  have : cs.toList = (ec ⟨m, k⟩).toList := hx2
  rw [show cs = ec ⟨m, k⟩ from Array.toList_inj.1 this]
end
end Go.Proofs.Ytnjdkjkihbgkaaa.OpenS
namespace Go.Proofs.Ytnjdkjkihbgkaaa.StX
set_option maxRecDepth 100000
open Go Go.RowKit Byt Rise RowS StM StN StW

/-- At most 30 of each, of at most 100 bytes a text. -/
def fewS (s : St) : Bool := CtrS.fewB s.c && RegS.fewB s.r && PairS.fewB s.p
theorem few_parts {s : St} (h : fewS s = true) : CtrS.fewB s.c = true ∧ RegS.fewB s.r = true ∧ PairS.fewB s.p = true := by
  unfold fewS at h
  simp only [Bool.and_eq_true] at h
  exact ⟨h.1.1, h.1.2, h.2⟩
theorem few_len {s : St} (h : fewS s = true) : Len 30 s := by
  obtain ⟨a, b, c⟩ := few_parts h
  unfold CtrS.fewB at a
  unfold RegS.fewB at b
  unfold PairS.fewB at c
  simp only [Bool.and_eq_true, decide_eq_true_eq] at a b c
  exact ⟨a.1, b.1, c.1⟩
theorem few_texts {s : St} (h : fewS s = true) : (∀ c ∈ s.c, c.key.size ≤ 100) ∧ (∀ c ∈ s.r, c.key.size ≤ 100 ∧ c.elem.size ≤ 100) ∧ (∀ c ∈ s.p, c.key.size ≤ 100 ∧ c.elem.size ≤ 100) := by
  obtain ⟨a, b, c⟩ := few_parts h
  unfold CtrS.fewB at a
  unfold RegS.fewB at b
  unfold PairS.fewB at c
  simp only [Bool.and_eq_true, List.all_eq_true, decide_eq_true_eq] at a b c
  exact ⟨a.2, b.2, c.2⟩
theorem fits {s : St} (hf : fewS s = true) (h : OpenS.Good s) : Fits s := by
  obtain ⟨a, b, d⟩ := few_texts hf
  exact ⟨fun c hc => ⟨by have := a c hc; omega, (h.c c hc).2⟩, fun c hc => ⟨by have := b c hc; omega, by have := b c hc; omega, (h.r c hc).gen, (h.r c hc).node, (h.r c hc).seq⟩,
    fun c hc => ⟨by have := d c hc; omega, by have := d c hc; omega, (h.p c hc).node, (h.p c hc).seq⟩⟩
set_option maxRecDepth 100000 in
set_option maxHeartbeats 8000000 in
theorem few_ret (v : Sv) (w : World) (S : In w v) (hg : OpenS.Good v.s) : Calls Try.prog 7 #[.agg (sc v)] w fun e w' => e = .returned (.bool (fewS v.s)) ∧ Below w.heap.size w w' := by
  have kb := below_alloc w (.cells (sc v) 26)
  have R : Cel.Box SE (w.alloc (.cells (sc v) 26)) w.heap.size v := Cel.Box.new w v _
  have S0 := S.below kb
  obtain ⟨c0, c1, c2⟩ := box_cells R
  clear R
  obtain ⟨W0, hW0⟩ : ∃ W, w.alloc (.cells (sc v) 26) = W := ⟨_, rfl⟩
  rw [hW0] at kb S0 c0 c1 c2
  have q0 := CtrS.few_ret _ _ _ W0 S0.c (fun c hc => (hg.c c hc).1)
  have q1 := RegS.few_ret _ _ _ W0 S0.r (fun c hc => ⟨(hg.r c hc).key, (hg.r c hc).elem⟩)
  have q2 := PairS.few_ret _ _ _ W0 S0.p (fun c hc => ⟨(hg.p c hc).key, (hg.p c hc).elem⟩)
  have HF : Hid (fewS v.s = (CtrS.fewB v.s.c && RegS.fewB v.s.r && PairS.fewB v.s.p)) := aside rfl
  obtain ⟨x0, hx0⟩ : ∃ b, CtrS.fewB v.s.c = b := ⟨_, rfl⟩
  obtain ⟨x1, hx1⟩ : ∃ b, RegS.fewB v.s.r = b := ⟨_, rfl⟩
  obtain ⟨x2, hx2⟩ : ∃ b, PairS.fewB v.s.p = b := ⟨_, rfl⟩
  rw [hx0] at q0 HF
  rw [hx1] at q1 HF
  rw [hx2] at q2 HF
  clear hx0 hx1 hx2 S S0 hg
  cases x0 <;> cases x1 <;> cases x2 <;>
    (go_enter Try.func7, Try.ntmps7
     go_wp2_with fail
     refine q0.mono ?_
     rintro _ _ ⟨rfl, rfl⟩
     go_wp2_with fail
     refine q1.mono ?_
     rintro _ _ ⟨rfl, rfl⟩
     go_wp2_with fail
     refine q2.mono ?_
     rintro _ _ ⟨rfl, rfl⟩
     go_wp2_with fail
     go_ret
     exact ⟨ret_bool HF.out.symm, kb⟩)
end Go.Proofs.Ytnjdkjkihbgkaaa.StX
namespace Go.Proofs.Ytnjdkjkihbgkaaa.RefE
set_option maxRecDepth 100000
open Go.RowKit Byt EncM EncC



end Go.Proofs.Ytnjdkjkihbgkaaa.RefE
namespace Go.Proofs.Ytnjdkjkihbgkaaa.StQ
set_option maxRecDepth 100000
open Go Go.RowKit Byt EncM EncC Rise RowS StM StN StW

/-- A struct's box lies in another block than a row of bytes, by what the cells hold. -/
theorem box_row {α : Type} {E : Enc α} {w w' : World} {base g n : Nat} {v : Value} {acc : List Int} {x : α} {s : ByteArray} (h : RowB.Box E w g x) (own : w.ownsRow base 5 1 v n (bv acc)) (hn : 0 < acc.length) (hg : w.grownBy w' v.ownBlock) (hs : (E.enc x)[0]? = some (.string s) := by rfl) : RowB.Box E w' g x := by
  rcases own.2 with ⟨rfl, h0⟩ | ⟨q, cap, cur, rfl, hb, hq, h1, h2, h3, h4⟩
  · have := own.1
    rw [bv_length, h0] at this
    omega
  · refine h.kept hg (fun e => ?_)
    subst e
    obtain ⟨t, ht⟩ := h
    rw [ht] at hq
    injection hq with hq
    injection hq with hq _
    have : (bv acc)[0]? = some (.string s) := by
      rw [← h4, ← hq, List.getElem?_take, if_pos (by have := own.1; rw [bv_length] at this; omega)]
      exact hs
    cases acc with
    | nil => simp at hn
    | cons a r => simp [bv] at this
/-- A row of one's own from a place on is one's own from an earlier place on. -/
theorem owns_lower {w : World} {b c n : Nat} {e : TypeId} {v : Value} {l : List Value} (h : w.ownsRow b e 1 v n l) (hc : c ≤ b) : w.ownsRow c e 1 v n l := by
  refine ⟨h.1, ?_⟩
  rcases h.2 with h | ⟨q, cap, cur, hv, hb, h⟩
  · exact Or.inl h
  · exact Or.inr ⟨q, cap, cur, hv, Nat.le_trans hc hb, h⟩
/-- What may be put in bytes here. -/
structure Short (s : St) : Prop where
  fit : Fits s
  len : Len 1000 s
  c : ∀ x ∈ s.c, x.key.size ≤ 1000
  r : ∀ x ∈ s.r, x.key.size ≤ 1000 ∧ x.elem.size ≤ 1000
  p : ∀ x ∈ s.p, x.key.size ≤ 1000 ∧ x.elem.size ≤ 1000
theorem numI_B (n : Int) : ∀ x ∈ numI n, B x := numL_range _
theorem reg_cells {w : World} {g : Nat} {c : RegM.Rg} (h : RowB.Box RegW.E w g c) : w.cell? ⟨g, 0, none⟩ = some (.string c.key) ∧ w.cell? ⟨g, 1, none⟩ = some (.string c.elem) ∧ w.cell? ⟨g, 2, none⟩ = some (.int .i64 c.gen) ∧ w.cell? ⟨g, 3, none⟩ = some (.int .i64 c.node) ∧ w.cell? ⟨g, 4, none⟩ = some (.int .i64 c.seq) :=
  ⟨h.cell (j := 0) rfl, h.cell (j := 1) rfl, h.cell (j := 2) rfl, h.cell (j := 3) rfl, h.cell (j := 4) rfl⟩
theorem len_ten {n : Nat} (h : n ≤ 1000) : (numL n).length ≤ 10 := numL_ten (by omega)
theorem text_B (s : ByteArray) : ∀ x ∈ textL (bytesL s), B x := EncT.textL_B (bytesL_B s)
theorem num_B (n : Nat) : ∀ x ∈ numL n, B x := numL_range n
end Go.Proofs.Ytnjdkjkihbgkaaa.StQ
namespace Go.Proofs.Ytnjdkjkihbgkaaa.StY
set_option maxRecDepth 100000
open Go Go.RowKit Byt OpsM Rise RowS StM StN StW StX

theorem in_of {s : St} (h : Fits s) : CtrL.InL s.c := fun c hc => (h.c c hc).2
theorem key_eight {k : ByteArray} (h : keyL (bytesL k) = true) : k.size ≤ 8 := by
  have h1 := keyL_len h
  rw [bytesL_length] at h1
  exact h1.2
theorem step_fits {s : St} {o : Opn} {n q g : Int} (hf : Fits s) (hm : okD s o n q g = true) (hn : CtrL.In64 n) (hq : CtrL.In64 q) (hg : CtrL.In64 g) : Fits (stepS s o n q g) := by
  obtain ⟨_, m2, _, _⟩ := okD_iff.1 hm
  have hk := key_eight (key_may m2)
  have he : o.kind = 1 ∨ o.kind = 2 ∨ o.kind = 3 → o.elem.size ≤ 8 := fun h => key_eight (elem_may m2 h)
  unfold stepS
  split
  · exact ⟨CtrX.inc_fits _ _ (in_of hf), hf.r, hf.p⟩
  · split
    · rename_i h
      have := he (.inl h)
      exact ⟨hf.c, RegU.put_fits hf.r ⟨by show o.key.size ≤ _; omega, by show o.elem.size ≤ _; omega, hg, hn, hq⟩, hf.p⟩
    · split
      · rename_i h
        have := he (.inr (.inl h))
        exact ⟨hf.c, hf.r, PairX.add_fits hf.p ⟨by show o.key.size ≤ _; omega, by show o.elem.size ≤ _; omega, hn, hq⟩⟩
      · exact ⟨hf.c, hf.r, PairX.del_fits hf.p⟩
theorem step_len {s : St} {m : Nat} (h : Len m s) (o : Opn) (n q g : Int) : Len (m + 1) (stepS s o n q g) := by
  have h0 := h.c
  have h1 := h.r
  have h2 := h.p
  unfold stepS
  split
  · refine ⟨?_, by show s.r.length ≤ _; omega, by show s.p.length ≤ _; omega⟩
    have := CtrX.inc_len s.c o.key o.n
    show (CtrM.incC s.c o.key o.n).length ≤ _
    omega
  · split
    · refine ⟨by show s.c.length ≤ _; omega, ?_, by show s.p.length ≤ _; omega⟩
      have := RegL.put_length s.r (regO o n q g)
      show (RegL.putR s.r (regO o n q g)).length ≤ _
      omega
    · split
      · refine ⟨by show s.c.length ≤ _; omega, by show s.r.length ≤ _; omega, ?_⟩
        have := PairM.add_length s.p (pairO o n q)
        show (PairM.addP s.p (pairO o n q)).length ≤ _
        omega
      · refine ⟨by show s.c.length ≤ _; omega, by show s.r.length ≤ _; omega, ?_⟩
        have := PairM.del_length s.p o.key o.elem
        show (PairM.delP s.p o.key o.elem).length ≤ _
        omega
theorem join_fits (base : St) {a b : St} (ha : Fits a) (hb : Fits b) : Fits (joinS base a b) := ⟨CtrX.merge_fits _ _ _, RegX.merge_fits ha.r hb.r, PairX.merge_fits ha.p hb.p⟩
theorem pair_len (base a b : List PairM.Pr) : (PairM.mergeP base a b).length ≤ a.length + b.length := by
  by_cases h : PairM.mayP base = true ∧ PairM.mayP a = true ∧ PairM.mayP b = true
  · exact PairM.merge_length h.1 h.2.1 h.2.2
  · unfold PairM.mergeP
    rw [if_neg h]
    simp
theorem join_len {base a b : St} {m n k : Nat} (h0 : Len m base) (h1 : Len n a) (h2 : Len k b) : Len (m + n + k) (joinS base a b) := by
  have a0 := h0.c
  have a1 := h1.c
  have a2 := h2.c
  have b1 := h1.r
  have b2 := h2.r
  have c1 := h1.p
  have c2 := h2.p
  refine ⟨?_, ?_, ?_⟩
  · have := CtrX.merge_len base.c a.c b.c
    show (CtrM.mergeC base.c a.c b.c).length ≤ _
    omega
  · have := RegL.merge_length a.r b.r
    show (RegL.mergeR a.r b.r).length ≤ _
    omega
  · have := pair_len base.p a.p b.p
    show (PairM.mergeP base.p a.p b.p).length ≤ _
    omega
/-- What a law asks is more than Put asks. -/
theorem short {s : St} (hf : fewS s = true) (h : OpenS.Good s) : StQ.Short s := by
  obtain ⟨a, b, d⟩ := few_texts hf
  exact ⟨fits hf h, (few_len hf).le (by omega), fun x hx => by have := a x hx; omega, fun x hx => ⟨by have := (b x hx).1; omega, by have := (b x hx).2; omega⟩, fun x hx => ⟨by have := (d x hx).1; omega, by have := (d x hx).2; omega⟩⟩
/-- States that came in, and are few, are the same just if their bytes are. -/
theorem fit_put {s : St} (h : StQ.Short s) : FitS s := by
  have l0 := h.len.c
  have l1 := h.len.r
  have l2 := h.len.p
  exact ⟨fun x hx => ⟨by have := h.c x hx; omega, (h.fit.c x hx).2⟩, fun x hx => ⟨by have := (h.r x hx).1; omega, by have := (h.r x hx).2; omega, (h.fit.r x hx).gen, (h.fit.r x hx).node, (h.fit.r x hx).seq⟩,
    fun x hx => ⟨by have := (h.p x hx).1; omega, by have := (h.p x hx).2; omega, (h.fit.p x hx).node, (h.fit.p x hx).seq⟩, by omega, by omega, by omega⟩
theorem put_iff {s t : St} (hs : StQ.Short s) (ht : StQ.Short t) : putS s = putS t ↔ s = t := ⟨put_inj (fit_put hs) (fit_put ht), fun h => by rw [h]⟩
/-- What an operation changes, put back. -/
theorem back_c {s : St} {o : Opn} {n q g : Int} (h : o.kind = 0) : (⟨s.c, (stepS s o n q g).r, (stepS s o n q g).p⟩ : St) = s := by
  unfold stepS
  rw [if_pos h]
theorem back_r {s : St} {o : Opn} {n q g : Int} (h : o.kind = 1) : (⟨(stepS s o n q g).c, s.r, (stepS s o n q g).p⟩ : St) = s := by
  unfold stepS
  rw [if_neg (by omega), if_pos h]
theorem back_p {s : St} {o : Opn} {n q g : Int} (h : o.kind = 2 ∨ o.kind = 3) : (⟨(stepS s o n q g).c, (stepS s o n q g).r, s.p⟩ : St) = s := by
  unfold stepS
  rw [if_neg (by omega), if_neg (by omega)]
  split <;> rfl
theorem do_some {s : St} {o : Opn} {n q g : Int} (h : okD s o n q g = true) : doS s o n q g = some (stepS s o n q g) := if_pos h
theorem do_nil {s : St} {o : Opn} {n q g : Int} (h : okD s o n q g = false) : doS s o n q g = none := if_neg (by rw [h]; simp)
theorem merge_some {base a b : St} (h0 : mayS base = true) (h1 : mayS a = true) (h2 : mayS b = true) : mergeS base a b = some (joinS base a b) := if_pos (okM_iff.2 ⟨h0, h1, h2⟩)
end Go.Proofs.Ytnjdkjkihbgkaaa.StY
namespace Go.Proofs.Ytnjdkjkihbgkaaa.CelG
set_option maxRecDepth 100000
open Go Go.RowKit Byt OpsM OpsW RowS StM StW

section
variable {ops : Array Oper} {rest : List Oper} {o : Oper} {a : Act} {w : World} {Q : Exit → Act → World → Prop}
theorem gload {α : Type} (E : Cel.Cel α) (x : Operand) (ho : o.op = .load E.T x)
    (g : Nat) (hx : a.eval x = .pointer (some ⟨g, 0, none⟩)) (y : α) (hb : Cel.Box E w g y) (hw : Region.wanted o (yielded ops a.tmps) = true) (h : wpList Try.prog ops Q rest (a.put o.dst (.agg (E.enc y).toArray)) w) : wpList Try.prog ops Q (o :: rest) a w :=
  RowC.unguard hw (Cel.wpList_load_box E rfl x ho g hx y hb h)
theorem gop (x : Operand) (ho : o.op = .load 37 x)
    (g : Nat) (hx : a.eval x = .pointer (some ⟨g, 0, none⟩)) (y : Opn) (hb : OpAt w g y) (hw : Region.wanted o (yielded ops a.tmps) = true) (h : wpList Try.prog ops Q rest (a.put o.dst (.agg (opc y))) w) : wpList Try.prog ops Q (o :: rest) a w :=
  RowC.unguard hw (wpList_load_op rfl x ho g hx y hb h)
theorem gev (x : Operand) (ho : o.op = .load 39 x)
    (g : Nat) (hx : a.eval x = .pointer (some ⟨g, 0, none⟩)) (y : Ev) (hb : Cel.Box EE w g y) (hw : Region.wanted o (yielded ops a.tmps) = true) (h : wpList Try.prog ops Q rest (a.put o.dst (.agg #[.int .i64 y.node, .int .i64 y.seq])) w) : wpList Try.prog ops Q (o :: rest) a w :=
  RowC.unguard hw (wpList_load_ev rfl x ho g hx y hb h)
end
end Go.Proofs.Ytnjdkjkihbgkaaa.CelG
