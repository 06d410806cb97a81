/- Plain facts on a key's elements; pairs told from the front. No condition. | Bytes: slices that a walk reads, cuts and appends to. No condition. -/
import Derived.Test.YtnjdkjkihbgkaaaGreatPairM
import Derived.Test.YtnjdkjkihbgkaaaGreatKeyMJ4
namespace Go.Proofs.YtnjdkjkihbgkaaaGreat.PairN
set_option maxRecDepth 100000
open Go Byt OpsM Rise PairM

/-- The elements of a key, one that stands there several times, one behind the other, once. -/
def elemsF (k : ByteArray) : Option ByteArray → List Pr → List ByteArray
  | _, [] => []
  | last, x :: r => if x.key ≠ k ∨ last = some x.elem then elemsF k last r else x.elem :: elemsF k (some x.elem) r
def elemsP (l : List Pr) (k : ByteArray) : List ByteArray := elemsF k none l
theorem less_same {x y : Pr} (h : lessP x y = true) (hk : x.key = y.key) : x.elem = y.elem ∨ ltS x.elem y.elem = true := by
  unfold lessP at h
  rw [if_pos hk] at h
  by_cases he : x.elem = y.elem
  · exact .inl he
  · rw [if_neg he] at h
    exact .inr h
theorem some_rises (k : ByteArray) : ∀ (l : List Pr) (e0 : ByteArray), RisP l → (∀ x ∈ l, x.key = k → e0 = x.elem ∨ ltS e0 x.elem = true) →
    Rises id ltS (elemsF k (some e0) l) ∧ (∀ e ∈ elemsF k (some e0) l, ltS e0 e = true) ∧ ∀ e, e ∈ elemsF k (some e0) l ↔ e ≠ e0 ∧ ∃ x ∈ l, x.key = k ∧ x.elem = e
  | [], e0, _, _ => ⟨List.Pairwise.nil, fun e h => by simp [elemsF] at h, fun e => by simp [elemsF]⟩
  | x :: r, e0, hr, h0 => by
    obtain ⟨h1, h2⟩ := List.pairwise_cons.1 hr
    unfold elemsF
    by_cases hk : x.key = k
    · by_cases he : e0 = x.elem
      · rw [if_pos (.inr (by rw [he]))]
        obtain ⟨q1, q2, q3⟩ := some_rises k r e0 h2 (fun y hy => h0 y (by simp [hy]))
        refine ⟨q1, q2, fun e => ?_⟩
        rw [q3]
        constructor
        · rintro ⟨a, y, hy, b⟩
          exact ⟨a, y, by simp [hy], b⟩
        · rintro ⟨a, y, hy, b, c⟩
          rcases List.mem_cons.1 hy with rfl | hy
          · exact absurd (c.symm.trans he.symm) a
          · exact ⟨a, y, hy, b, c⟩
      · rw [if_neg (by
          rintro (h | h)
          · exact h hk
          · exact he (Option.some.inj h))]
        have hlt : ltS e0 x.elem = true := (h0 x (by simp) hk).resolve_left he
        obtain ⟨q1, q2, q3⟩ := some_rises k r x.elem h2 (fun y hy hyk => less_same (h1 y hy) (hk.trans hyk.symm))
        refine ⟨List.pairwise_cons.2 ⟨fun e hE => q2 e hE, q1⟩, fun e hE => ?_, fun e => ?_⟩
        · rcases List.mem_cons.1 hE with rfl | hE
          · exact hlt
          · exact strictS.trans _ _ _ hlt (q2 e hE)
        · rw [List.mem_cons, q3]
          constructor
          · rintro (rfl | ⟨a, y, hy, b⟩)
            · exact ⟨fun h => he h.symm, x, by simp, hk, rfl⟩
            · refine ⟨?_, y, by simp [hy], b⟩
              rintro rfl
              have := q2 e ((q3 e).2 ⟨a, y, hy, b⟩)
              rw [strictS.asymm hlt] at this
              cases this
          · rintro ⟨a, y, hy, b, c⟩
            rcases List.mem_cons.1 hy with rfl | hy
            · exact .inl c.symm
            · by_cases hx : e = x.elem
              · exact .inl hx
              · exact .inr ⟨hx, y, hy, b, c⟩
    · rw [if_pos (.inl hk)]
      obtain ⟨q1, q2, q3⟩ := some_rises k r e0 h2 (fun y hy => h0 y (by simp [hy]))
      refine ⟨q1, q2, fun e => ?_⟩
      rw [q3]
      constructor
      · rintro ⟨a, y, hy, b⟩
        exact ⟨a, y, by simp [hy], b⟩
      · rintro ⟨a, y, hy, b, c⟩
        rcases List.mem_cons.1 hy with rfl | hy
        · exact absurd b hk
        · exact ⟨a, y, hy, b, c⟩
theorem none_rises (k : ByteArray) : ∀ (l : List Pr), RisP l → Rises id ltS (elemsP l k) ∧ ∀ e, e ∈ elemsP l k ↔ ∃ x ∈ l, x.key = k ∧ x.elem = e
  | [], _ => ⟨List.Pairwise.nil, fun e => by simp [elemsP, elemsF]⟩
  | x :: r, hr => by
    obtain ⟨h1, h2⟩ := List.pairwise_cons.1 hr
    unfold elemsP elemsF
    by_cases hk : x.key = k
    · rw [if_neg (by
        rintro (h | h)
        · exact h hk
        · cases h)]
      obtain ⟨q1, q2, q3⟩ := some_rises k r x.elem h2 (fun y hy hyk => less_same (h1 y hy) (hk.trans hyk.symm))
      refine ⟨List.pairwise_cons.2 ⟨fun e hE => q2 e hE, q1⟩, fun e => ?_⟩
      rw [List.mem_cons, q3]
      constructor
      · rintro (rfl | ⟨_, y, hy, b⟩)
        · exact ⟨x, by simp, hk, rfl⟩
        · exact ⟨y, by simp [hy], b⟩
      · rintro ⟨y, hy, b, c⟩
        rcases List.mem_cons.1 hy with rfl | hy
        · exact .inl c.symm
        · by_cases hx : e = x.elem
          · exact .inl hx
          · exact .inr ⟨hx, y, hy, b, c⟩
    · rw [if_pos (.inl hk)]
      obtain ⟨q1, q2⟩ := none_rises k r h2
      refine ⟨q1, fun e => ?_⟩
      have := q2 e
      unfold elemsP at this
      rw [this]
      constructor
      · rintro ⟨y, hy, b⟩
        exact ⟨y, by simp [hy], b⟩
      · rintro ⟨y, hy, b, c⟩
        rcases List.mem_cons.1 hy with rfl | hy
        · exact absurd b hk
        · exact ⟨y, hy, b, c⟩
theorem elems_rises {l : List Pr} (h : mayP l = true) (k : ByteArray) : Rises id ltS (elemsP l k) := (none_rises k l (ris h)).1
theorem elems_mem {l : List Pr} (h : mayP l = true) (k e : ByteArray) : e ∈ elemsP l k ↔ ∃ x ∈ l, x.key = k ∧ x.elem = e := (none_rises k l (ris h)).2 e
theorem elemsF_length (k : ByteArray) : ∀ (l : List Pr) (o : Option ByteArray), (elemsF k o l).length ≤ l.length
  | [], _ => by simp [elemsF]
  | x :: r, o => by
    unfold elemsF
    split
    · have := elemsF_length k r o
      simp only [List.length_cons]
      omega
    · have := elemsF_length k r (some x.elem)
      simp only [List.length_cons]
      omega
theorem elems_length (l : List Pr) (k : ByteArray) : (elemsP l k).length ≤ l.length := elemsF_length k l none
theorem elemsF_sub (k : ByteArray) : ∀ (l : List Pr) (o : Option ByteArray) (e : ByteArray), e ∈ elemsF k o l → ∃ x ∈ l, x.elem = e
  | [], _, e, h => by simp [elemsF] at h
  | x :: r, o, e, h => by
    unfold elemsF at h
    split at h
    · obtain ⟨y, hy, q⟩ := elemsF_sub k r _ e h
      exact ⟨y, by simp [hy], q⟩
    · rcases List.mem_cons.1 h with rfl | h
      · exact ⟨x, by simp, rfl⟩
      · obtain ⟨y, hy, q⟩ := elemsF_sub k r _ e h
        exact ⟨y, by simp [hy], q⟩
/-- An element more, and none of it. -/
theorem elems_add_del {l : List Pr} {p : Pr} (h : mayP l = true) (hp : oneP p = true) : (elemsP (addP l p) p.key).length = (elemsP (delP l p.key p.elem) p.key).length + 1 ∧ p.elem ∈ elemsP (addP l p) p.key ∧ p.elem ∉ elemsP (delP l p.key p.elem) p.key := by
  have m1 := fun e => elems_mem (add_may l p) p.key e
  have m2 := fun e => elems_mem (del_may l p.key p.elem) p.key e
  have i1 : p.elem ∈ elemsP (addP l p) p.key := (m1 _).2 ⟨p, (add_mem h hp p).2 (.inl rfl), rfl, rfl⟩
  have i2 : p.elem ∉ elemsP (delP l p.key p.elem) p.key := fun q => by
    obtain ⟨x, hx, a, b⟩ := (m2 _).1 q
    exact ((del_mem h x).1 hx).2 ⟨a, b⟩
  refine ⟨?_, i1, i2⟩
  have r1 := elems_rises (add_may l p) p.key
  have e : elemsP (delP l p.key p.elem) p.key = (elemsP (addP l p) p.key).filter fun e => decide (e ≠ p.elem) := by
    refine Rises.ext strictS (elems_rises (del_may _ _ _) _) (r1.filter _) (fun e => ?_)
    rw [m2, List.mem_filter, m1, decide_eq_true_eq]
    constructor
    · rintro ⟨x, hx, a, b⟩
      obtain ⟨c, d⟩ := (del_mem h x).1 hx
      exact ⟨⟨x, (add_mem h hp x).2 (.inr c), a, b⟩, fun q => d ⟨a, b.trans q⟩⟩
    · rintro ⟨⟨x, hx, a, b⟩, hn⟩
      rcases (add_mem h hp x).1 hx with rfl | hx
      · exact absurd b.symm hn
      · exact ⟨x, (del_mem h x).2 ⟨hx, fun q => hn (b.symm.trans q.2)⟩, a, b⟩
  rw [e]
  have key : ∀ m : List ByteArray, Rises id ltS m → ∀ e0 ∈ m, m.length = (m.filter fun e => decide (e ≠ e0)).length + 1 := by
    intro m
    induction m with
    | nil => intro _ e0 h0; simp at h0
    | cons x m ih =>
      intro hr e0 h0
      obtain ⟨h1, h2⟩ := List.pairwise_cons.1 hr
      by_cases hx : x = e0
      · subst hx
        have hall : m.filter (fun e => decide (e ≠ x)) = m := List.filter_eq_self.2 (fun y hy => by
          rw [decide_eq_true_eq]
          exact fun q => strictS.ne (h1 y hy) q.symm)
        rw [List.filter_cons, if_neg (by simp), hall, List.length_cons]
      · rcases List.mem_cons.1 h0 with q | h0
        · exact absurd q.symm hx
        · rw [List.filter_cons, if_pos (by simpa using hx), List.length_cons, List.length_cons, ih h2 e0 h0]
  exact key _ r1 _ i1

/-- Pairs told from the front. -/
theorem all_take (l : List Pr) (k : Nat) (h : k < l.length) : (l.take (k + 1)).all oneP = ((l.take k).all oneP && oneP l[k]) := by
  rw [List.take_succ_eq_append_getElem h, List.all_append]
  simp
theorem may_first {l : List Pr} (h : 0 < l.length) : mayP (l.take 1) = oneP l[0] := by
  unfold mayP
  rw [all_take l 0 h]
  have e : risesB id lessP (l.take 1) = true := by
    rw [List.take_succ_eq_append_getElem h]
    rfl
  rw [e]
  simp
theorem may_next {l : List Pr} {k : Nat} (h : k + 1 < l.length) (hm : mayP (l.take (k + 1)) = true) : mayP (l.take (k + 2)) = (oneP l[k + 1] && lessP (l[k]'(by omega)) l[k + 1]) := by
  unfold mayP at hm ⊢
  rw [Bool.and_eq_true] at hm
  rw [all_take l (k + 1) h, risesB_take h, hm.1, hm.2]
  simp
theorem may_bad {l : List Pr} {k : Nat} (h : k < l.length) (hn : oneP l[k] = false) : mayP l = false := by
  unfold mayP
  rw [show l.all oneP = false from List.all_eq_false.2 ⟨l[k], List.getElem_mem h, by rw [hn]; simp⟩]
  rfl
theorem may_fall {l : List Pr} {k : Nat} (h : k + 1 < l.length) (hn : lessP (l[k]'(by omega)) l[k + 1] = false) : mayP l = false := by
  unfold mayP
  rw [risesB_not h hn, Bool.and_false]
end Go.Proofs.YtnjdkjkihbgkaaaGreat.PairN
namespace Go.Proofs.YtnjdkjkihbgkaaaGreat.Byt
set_option maxRecDepth 100000
open Go.RowKit

theorem info_u8 : (Tryz.prog.info? 5).map (·.size) = some 1 := by kernel_rfl
theorem zero_u8 : (Tryz.prog.info? 5).map (fun i => (i.zero, i.size, i.bytes)) = some (some (.int .u8 0), 1, 1) := by kernel_rfl

/-- The slice with address A, as long as l, and with room for cap, has the bytes l. -/
def Sl (w : World) (A : Option Addr) (cap : Nat) (l : List Int) : Prop :=
  l.length ≤ cap ∧ cap ≤ maxLen ∧ (∀ x ∈ l, B x) ∧ ((A = none ∧ l = [] ∧ cap = 0) ∨ ∃ x, A = some x ∧ ∀ i, i < l.length → w.cell? (x.add i) = some (.int .u8 (l.getD i 0)))
theorem Sl.bytes {w : World} {A : Option Addr} {cap : Nat} {l : List Int} (h : Sl w A cap l) : ∀ x ∈ l, B x := h.2.2.1
theorem Sl.nil (w : World) : Sl w none 0 [] := ⟨Nat.le_refl _, Nat.zero_le _, by simp, .inl ⟨rfl, rfl, rfl⟩⟩
theorem Sl.of_row {w : World} {A : Option Addr} {len cap : Nat} {zs : List Int} (h : RowIn.RowIn .u8 w A len cap zs) : Sl w A cap (zs.take len) ∧ (zs.take len).length = len := by
  obtain ⟨h1, h2, h3, h4, h5⟩ := h
  have hl : (zs.take len).length = len := by simp; omega
  refine ⟨⟨by omega, h2, fun x hx => B_of_wf (h4 x (List.mem_of_mem_take hx)), ?_⟩, hl⟩
  rcases h5 with ⟨rfl, rfl, rfl⟩ | ⟨x, rfl, hc⟩
  · exact .inl ⟨rfl, by simp, rfl⟩
  · refine .inr ⟨x, rfl, fun i hi => ?_⟩
    rw [hc i (by omega)]
    congr 2
    rw [List.getD_eq_getElem?_getD, List.getD_eq_getElem?_getD, List.getElem?_take, if_pos (by omega)]
theorem Sl.below {w w' : World} {A : Option Addr} {cap : Nat} {l : List Int} (h : Sl w A cap l) (hb : Below w.heap.size w w') : Sl w' A cap l := by
  obtain ⟨h1, h2, h4, h5⟩ := h
  refine ⟨h1, h2, h4, ?_⟩
  rcases h5 with h5 | ⟨x, rfl, hc⟩
  · exact .inl h5
  · refine .inr ⟨x, rfl, fun i hi => ?_⟩
    have hcell := hc i hi
    exact (hb.cell (block_lt_of_cell hcell)).trans hcell
theorem Sl.drewN {w : World} {A : Option Addr} {cap : Nat} {l : List Int} (h : Sl w A cap l) (n : Nat) : Sl (w.drewN n) A cap l := h.below (below_drewN w n)
theorem Sl.drew {w : World} {A : Option Addr} {cap : Nat} {l : List Int} (h : Sl w A cap l) : Sl w.drew A cap l := h.below ⟨rfl, rfl, rfl, Nat.le_refl _, fun _ _ => rfl⟩
/-- Where there is an element, the slice lies at a plain address. -/
theorem Sl.plain {w : World} {A : Option Addr} {cap : Nat} {l : List Int} (h : Sl w A cap l) (hp : 0 < l.length) :
    ∃ b off, A = some ⟨b, off, none⟩ ∧ b < w.heap.size ∧ ∀ i, i < l.length → w.cell? ⟨b, off + i, none⟩ = some (.int .u8 (l.getD i 0)) := by
  obtain ⟨h1, h2, h4, h5⟩ := h
  rcases h5 with ⟨_, rfl, _⟩ | ⟨x, rfl, hc⟩
  · simp at hp
  · obtain ⟨b, off, rfl, hcell⟩ := ints_at hc hp
    have h0 := hcell 0 hp
    exact ⟨b, off, rfl, block_lt_of_cell h0, hcell⟩
theorem Sl.own {w : World} {base n : Nat} {v : Value} {l : List Int} (h : w.ownsRow base 5 1 v n (bv l)) (hb : ∀ x ∈ l, B x) : ∃ A cap, v = .slice A l.length cap ∧ Sl w A cap l := by
  have hn : l.length = n := by have := h.1; rw [bv_length] at this; omega
  rcases h.2 with ⟨rfl, rfl⟩ | ⟨g, cap, cur, rfl, hbg, hg, h1, h2, h3, h4⟩
  · have : l = [] := List.eq_nil_of_length_eq_zero hn
    subst this
    exact ⟨none, 0, rfl, Sl.nil w⟩
  · refine ⟨some ⟨g, 0, none⟩, cap, by rw [hn], by omega, h2, hb, .inr ⟨_, rfl, fun i hi => ?_⟩⟩
    rw [Addr.add_lit, Nat.zero_add, h.cellAt i (by omega), bv_at _ hi]

/-- A part of a slice. -/
theorem Sl.part {w : World} {A : Option Addr} {cap : Nat} {l : List Int} (h : Sl w A cap l) (i j : Nat) (hij : i ≤ j) (hj : j ≤ l.length) :
    ∃ A' cap', sliced A i j cap 1 = .slice A' (j - i) cap' ∧ Sl w A' cap' ((l.drop i).take (j - i)) ∧ ((l.drop i).take (j - i)).length = j - i := by
  have hb := h.bytes
  obtain ⟨h1, h2, h4, h5⟩ := h
  have hl : ((l.drop i).take (j - i)).length = j - i := by simp; omega
  have hB : ∀ x ∈ (l.drop i).take (j - i), B x := fun x hx => hb x (List.mem_of_mem_drop (List.mem_of_mem_take hx))
  rcases h5 with ⟨rfl, rfl, rfl⟩ | ⟨x, rfl, hc⟩
  · simp at hj
    obtain rfl : j = 0 := hj
    obtain rfl : i = 0 := by omega
    exact ⟨none, 0, by simp [sliced], by simpa using Sl.nil w, hl⟩
  · by_cases hci : cap = i
    · refine ⟨some x, cap - i, by simp [sliced, hci], ⟨by rw [hl]; omega, by omega, hB, .inr ⟨x, rfl, fun k hk => ?_⟩⟩, hl⟩
      omega
    · refine ⟨some (x.add i), cap - i, by simp [sliced, hci], ⟨by rw [hl]; omega, by omega, hB, .inr ⟨_, rfl, fun k hk => ?_⟩⟩, hl⟩
      rw [hl] at hk
      rw [Addr.add_add, hc (i + k) (by omega)]
      congr 2
      rw [List.getD_eq_getElem?_getD, List.getD_eq_getElem?_getD, List.getElem?_take, if_pos (by omega), List.getElem?_drop]

/-- A slice of bytes as a string. -/
theorem Sl.conv {w : World} {A : Option Addr} {len cap : Nat} {l : List Int} (h : Sl w A cap l) (hl : l.length = len) :
    (convert 37 9 (.slice A len cap)).run Tryz.prog w = .ok (.string (strOf l)) w := by
  subst hl
  have hb := h.bytes
  obtain ⟨h1, h2, h4, h5⟩ := h
  rcases h5 with ⟨rfl, rfl, rfl⟩ | ⟨x, rfl, hc⟩
  · rw [run_convert_bytes_string w _ _ 5 none _ 0 Tryz.underlying37 Tryz.underlying5 Tryz.underlying9]
    rfl
  · have q := run_convert_bytes_back (P := Tryz.prog) w 37 9 5 x cap (l.map fun n => UInt8.ofNat n.toNat) Tryz.underlying37 Tryz.underlying5 Tryz.underlying9 (fun j hj => by
      have hj1 : j < l.length := by simpa using hj
      rw [hc j hj1]
      simp only [List.getElem_map, UInt8.toNat_ofNat']
      have hb' := hb (l[j]'hj1) (List.getElem_mem _)
      unfold B at hb'
      rw [List.getD_eq_getElem?_getD, List.getElem?_eq_getElem hj1, Option.getD_some]
      congr 2
      omega)
    rw [List.length_map] at q
    exact q
theorem Sl.conv_quiet {w : World} {A : Option Addr} {len cap : Nat} {l : List Int} (h : Sl w A cap l) (hl : l.length = len) (n : Nat) :
    (convert 37 9 (.slice A len cap)).run Tryz.prog (w.drewN n) = .ok (.string (strOf l)) (w.drewN n) := (h.drewN n).conv hl

/-- A slice expression, as the walk meets it. -/
theorem wpList_sliced {P : Program} {ops : Array Oper} {rest : List Oper} {o : Oper} {a : Act} {w : World} {Q : Exit → Act → World → Prop} (hgd : o.guard = none) (t : TypeId) (x : Operand) (lo hi : Option Operand) (ho : o.op = .slice t x lo hi none)
    (v : Value) (hv : (Instr.sliceAt t (a.eval x) (lo.map a.eval) (hi.map a.eval) none).run P w = .ok v w)
    (h : wpList P ops Q rest (a.put o.dst v) w) : wpList P ops Q (o :: rest) a w := by
  refine wpList_plain hgd fun K hK => ?_
  unfold Oper.wp execOp
  simp only [ho, Option.map_none, Sem.run_bind, Sem.run_pure, Result.andThen_ok, hv]
  exact hK _ _ h
theorem wpStill_sliced {P : Program} {ops : Array Oper} {w : World} {Q : Act → Prop} {a : Act} {o : Oper} {rest : List Oper} (hgd : o.guard = none) (t : TypeId) (x : Operand) (lo hi : Option Operand) (ho : o.op = .slice t x lo hi none)
    (v : Value) (hv : (Instr.sliceAt t (a.eval x) (lo.map a.eval) (hi.map a.eval) none).run P w = .ok v w)
    (h : wpStill P ops w Q rest (a.put o.dst v)) : wpStill P ops w Q (o :: rest) a := by
  refine wpStill_step (fun K hK => ?_)
  have hw : Region.wanted o (yielded ops a.tmps) = true := by simp [Region.wanted, hgd]
  rw [if_pos hw]
  unfold Oper.still execOp
  simp only [ho, Option.map_none, Sem.run_bind, Sem.run_pure, Result.andThen_ok, hv]
  exact ⟨rfl, hK _ h⟩
theorem elem_u8 : Tryz.prog.elem 37 = 5 := by kernel_rfl
theorem under_u8 : Tryz.prog.underlying 37 = some (.slice (Tryz.prog.elem 37)) := by kernel_rfl
theorem size_u8 (w : World) : (sizeOf (Tryz.prog.elem 37)).run Tryz.prog w = .ok 1 w := by
  rw [elem_u8]
  have h := info_u8
  cases hq : Tryz.prog.info? 5 with
  | none => rw [hq] at h; cases h
  | some i =>
    rw [hq] at h
    simp at h
    simp [sizeOf, typeInfo, hq, h]
theorem run_part_h (w : World) (A : Option Addr) (len cap : Nat) (k : IntKind) (j : Nat) (hj : j ≤ cap) :
    (Instr.sliceAt 37 (.slice A len cap) none (some (.int k j)) none).run Tryz.prog w = .ok (sliced A 0 j cap 1) w := by
  rw [run_sliceAt_slice w _ _ _ _ _ under_u8, run_slice_h w _ A len cap under_u8 k j (by omega) (by omega), size_u8]
  simp [Result.andThen]
theorem run_part_l (w : World) (A : Option Addr) (len cap : Nat) (k : IntKind) (i : Nat) (hi : i ≤ len) :
    (Instr.sliceAt 37 (.slice A len cap) (some (.int k i)) none none).run Tryz.prog w = .ok (sliced A i len cap 1) w := by
  rw [run_sliceAt_slice w _ _ _ _ _ under_u8, run_slice_l w _ A len cap under_u8 k i (by omega) (by omega), size_u8]
  simp [Result.andThen]
theorem run_part_lh (w : World) (A : Option Addr) (len cap : Nat) (k k' : IntKind) (i j : Nat) (hij : i ≤ j) (hj : j ≤ cap) :
    (Instr.sliceAt 37 (.slice A len cap) (some (.int k i)) (some (.int k' j)) none).run Tryz.prog w = .ok (sliced A i j cap 1) w := by
  rw [run_sliceAt_slice w _ _ _ _ _ under_u8, run_slice_lh w _ A len cap under_u8 k k' i j (by omega) (by omega) (by omega), size_u8]
  simp [Result.andThen]

/-- A new slice has these bytes, and all that was there is as it was. -/
def New (l : List Int) (w : World) (e : Ending) (w' : World) : Prop :=
  ∃ v, e = .returned v ∧ w'.ownsRow w.heap.size 5 1 v l.length (bv l) ∧ Below w.heap.size w w'

/-- 'append' of a slice of bytes. -/
theorem wpList_append_sl {P : Program} {w : World} {ops : Array Oper} {rest : List Oper} {o : Oper} {a : Act} {Q : Exit → Act → World → Prop} (hgd : o.guard = none) (s x : Operand) (t : TypeId)
    (ho : o.op = .call { callee := .builtin .append, args := #[s, x], argTypes := #[t, t] })
    (base : Nat) (e : TypeId) (ht : P.underlying t = some (.slice e)) (hz : (P.info? e).map (fun i => (i.zero, i.size, i.bytes)) = some (some (.int .u8 0), 1, 1))
    (v : Value) (n : Nat) (xs : List Int) (hs : a.eval s = v) (hown : w.ownsRow base e 1 v n (bv xs))
    (A : Option Addr) (m c : Nat) (l : List Int) (hx : a.eval x = .slice A m c) (hm : l.length = m) (hr : Sl w A c l)
    (h63 : n + m ≤ 1099511627900) (hbase : base ≤ w.heap.size)
    (h : ∀ v' w', w'.ownsRow base e 1 v' (n + m) (bv (xs ++ l)) → w.grownBy w' v.ownBlock → wpList P ops Q rest (a.put o.dst v') w') : wpList P ops Q (o :: rest) a w := by
  obtain ⟨i, hi, z0, z1, z2⟩ := info_parts hz
  subst hm
  obtain ⟨h1, h2, h4, h5⟩ := hr
  rcases h5 with ⟨rfl, rfl, rfl⟩ | ⟨ad, rfl, hc⟩
  · refine wpList_append_own_none hgd s x t ho base e i 1 ht hi v n (bv xs) hs hown hx (h v w ?_ (grown_of_below (Below.refl _ _) _))
    simpa using hown
  · refine wpList_append_own w hgd s x t ho base e i (.int .u8 0) 1 1 ht hi z0 z1 z2 rfl (by decide) v n (bv xs) hs hown ad l.length c (bv l) hx (by rw [bv_length]; omega) (fun j u hu => ?_) (bv_one _) (by unfold maxLen; omega) (by omega) hbase (fun v' w' a1 a2 _ => h v' w' (by rw [bv_append]; exact a1) a2)
    have hj : j < l.length := by
      have := (List.getElem?_eq_some_iff.1 hu).1
      simpa [bv] using this
    rw [bv_at _ hj] at hu
    rw [hc j hj, ← hu]
/-- 'append' of a string. -/
theorem wpList_append_str {P : Program} {w : World} {ops : Array Oper} {rest : List Oper} {o : Oper} {a : Act} {Q : Exit → Act → World → Prop} (hgd : o.guard = none) (s x : Operand) (t u : TypeId)
    (ho : o.op = .call { callee := .builtin .append, args := #[s, x], argTypes := #[t, u] })
    (base : Nat) (e : TypeId) (ht : P.underlying t = some (.slice e)) (hu : P.underlying u = some .string) (hz : (P.info? e).map (fun i => (i.zero, i.size, i.bytes)) = some (some (.int .u8 0), 1, 1))
    (v : Value) (n : Nat) (xs : List Int) (hs : a.eval s = v) (hown : w.ownsRow base e 1 v n (bv xs)) (S : ByteArray) (hx : a.eval x = .string S)
    (h63 : n + S.size ≤ 1099511627900) (hbase : base ≤ w.heap.size)
    (h : ∀ v' w', w'.ownsRow base e 1 v' (n + S.size) (bv (xs ++ bytesL S)) → w.grownBy w' v.ownBlock → wpList P ops Q rest (a.put o.dst v') w') : wpList P ops Q (o :: rest) a w := by
  obtain ⟨i, hi, z0, z1, z2⟩ := info_parts hz
  refine Lib.wpList_append_own_string w hgd s x t u ho base e i ht hu hi z0 z1 z2 v n (bv xs) hs hown S hx (by unfold maxLen; omega) (by omega) hbase (fun v' w' a1 a2 _ => h v' w' ?_ a2)
  rw [bv_append, ← strCells_bv]
  exact a1
/-- A slice that was just made of a few bytes. -/
theorem Sl.new1 (w : World) (x : Int) (t : TypeId) (hx : B x) : Sl (w.alloc (.cells #[.int .u8 x] t)) (some ⟨w.heap.size, 0, none⟩) 1 [x] := by
  refine ⟨Nat.le_refl _, by unfold maxLen; omega, by simpa using hx, .inr ⟨_, rfl, fun i hi => ?_⟩⟩
  have : i = 0 := by simpa using hi
  subst this
  rw [Addr.add_lit]
  exact cell_of_row _ _ _ _ t (0, 0) (heap_alloc_new w _)
end Go.Proofs.YtnjdkjkihbgkaaaGreat.Byt
