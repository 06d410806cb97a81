/- Bytes: slices that a walk reads, cuts and appends to. No condition. -/
import Derived.Test.YthdpipllighegaaDoorBytB
namespace Go.Proofs.YthdpipllighegaaDoor.Byt
set_option maxRecDepth 100000
open Go.RowKit

theorem info_u8 : (Tryd.prog.info? 5).map (·.size) = some 1 := by kernel_rfl
theorem zero_u8 : (Tryd.prog.info? 5).map (fun i => (i.zero, i.size, i.bytes)) = some (some (.int .u8 0), 1, 1) := by kernel_rfl

/-- The slice with address A, as long as l, and with room for cap, has the bytes l. -/
def Sl (w : World) (A : Option Addr) (cap : Nat) (l : List Int) : Prop :=
  l.length ≤ cap ∧ cap ≤ maxLen ∧ (∀ x ∈ l, B x) ∧ ((A = none ∧ l = [] ∧ cap = 0) ∨ ∃ x, A = some x ∧ ∀ i, i < l.length → w.cell? (x.add i) = some (.int .u8 (l.getD i 0)))
theorem Sl.bytes {w : World} {A : Option Addr} {cap : Nat} {l : List Int} (h : Sl w A cap l) : ∀ x ∈ l, B x := h.2.2.1
theorem Sl.nil (w : World) : Sl w none 0 [] := ⟨Nat.le_refl _, Nat.zero_le _, by simp, .inl ⟨rfl, rfl, rfl⟩⟩
theorem Sl.of_row {w : World} {A : Option Addr} {len cap : Nat} {zs : List Int} (h : RowIn.RowIn .u8 w A len cap zs) : Sl w A cap (zs.take len) ∧ (zs.take len).length = len := by
  obtain ⟨h1, h2, h3, h4, h5⟩ := h
  have hl : (zs.take len).length = len := by simp; omega
  refine ⟨⟨by omega, h2, fun x hx => B_of_wf (h4 x (List.mem_of_mem_take hx)), ?_⟩, hl⟩
  rcases h5 with ⟨rfl, rfl, rfl⟩ | ⟨x, rfl, hc⟩
  · exact .inl ⟨rfl, by simp, rfl⟩
  · refine .inr ⟨x, rfl, fun i hi => ?_⟩
    rw [hc i (by omega)]
    congr 2
    rw [List.getD_eq_getElem?_getD, List.getD_eq_getElem?_getD, List.getElem?_take, if_pos (by omega)]
theorem Sl.below {w w' : World} {A : Option Addr} {cap : Nat} {l : List Int} (h : Sl w A cap l) (hb : Below w.heap.size w w') : Sl w' A cap l := by
  obtain ⟨h1, h2, h4, h5⟩ := h
  refine ⟨h1, h2, h4, ?_⟩
  rcases h5 with h5 | ⟨x, rfl, hc⟩
  · exact .inl h5
  · refine .inr ⟨x, rfl, fun i hi => ?_⟩
    have hcell := hc i hi
    exact (hb.cell (block_lt_of_cell hcell)).trans hcell
theorem Sl.drewN {w : World} {A : Option Addr} {cap : Nat} {l : List Int} (h : Sl w A cap l) (n : Nat) : Sl (w.drewN n) A cap l := h.below (below_drewN w n)
theorem Sl.drew {w : World} {A : Option Addr} {cap : Nat} {l : List Int} (h : Sl w A cap l) : Sl w.drew A cap l := h.below ⟨rfl, rfl, rfl, Nat.le_refl _, fun _ _ => rfl⟩
/-- Where there is an element, the slice lies at a plain address. -/
theorem Sl.plain {w : World} {A : Option Addr} {cap : Nat} {l : List Int} (h : Sl w A cap l) (hp : 0 < l.length) :
    ∃ b off, A = some ⟨b, off, none⟩ ∧ b < w.heap.size ∧ ∀ i, i < l.length → w.cell? ⟨b, off + i, none⟩ = some (.int .u8 (l.getD i 0)) := by
  obtain ⟨h1, h2, h4, h5⟩ := h
  rcases h5 with ⟨_, rfl, _⟩ | ⟨x, rfl, hc⟩
  · simp at hp
  · obtain ⟨b, off, rfl, hcell⟩ := ints_at hc hp
    have h0 := hcell 0 hp
    exact ⟨b, off, rfl, block_lt_of_cell h0, hcell⟩
theorem Sl.own {w : World} {base n : Nat} {v : Value} {l : List Int} (h : w.ownsRow base 5 1 v n (bv l)) (hb : ∀ x ∈ l, B x) : ∃ A cap, v = .slice A l.length cap ∧ Sl w A cap l := by
  have hn : l.length = n := by have := h.1; rw [bv_length] at this; omega
  rcases h.2 with ⟨rfl, rfl⟩ | ⟨g, cap, cur, rfl, hbg, hg, h1, h2, h3, h4⟩
  · have : l = [] := List.eq_nil_of_length_eq_zero hn
    subst this
    exact ⟨none, 0, rfl, Sl.nil w⟩
  · refine ⟨some ⟨g, 0, none⟩, cap, by rw [hn], by omega, h2, hb, .inr ⟨_, rfl, fun i hi => ?_⟩⟩
    rw [Addr.add_lit, Nat.zero_add, h.cellAt i (by omega), bv_at _ hi]

/-- A part of a slice. -/
theorem Sl.part {w : World} {A : Option Addr} {cap : Nat} {l : List Int} (h : Sl w A cap l) (i j : Nat) (hij : i ≤ j) (hj : j ≤ l.length) :
    ∃ A' cap', sliced A i j cap 1 = .slice A' (j - i) cap' ∧ Sl w A' cap' ((l.drop i).take (j - i)) ∧ ((l.drop i).take (j - i)).length = j - i := by
  have hb := h.bytes
  obtain ⟨h1, h2, h4, h5⟩ := h
  have hl : ((l.drop i).take (j - i)).length = j - i := by simp; omega
  have hB : ∀ x ∈ (l.drop i).take (j - i), B x := fun x hx => hb x (List.mem_of_mem_drop (List.mem_of_mem_take hx))
  rcases h5 with ⟨rfl, rfl, rfl⟩ | ⟨x, rfl, hc⟩
  · simp at hj
    obtain rfl : j = 0 := hj
    obtain rfl : i = 0 := by omega
    exact ⟨none, 0, by simp [sliced], by simpa using Sl.nil w, hl⟩
  · by_cases hci : cap = i
    · refine ⟨some x, cap - i, by simp [sliced, hci], ⟨by rw [hl]; omega, by omega, hB, .inr ⟨x, rfl, fun k hk => ?_⟩⟩, hl⟩
      omega
    · refine ⟨some (x.add i), cap - i, by simp [sliced, hci], ⟨by rw [hl]; omega, by omega, hB, .inr ⟨_, rfl, fun k hk => ?_⟩⟩, hl⟩
      rw [hl] at hk
      rw [Addr.add_add, hc (i + k) (by omega)]
      congr 2
      rw [List.getD_eq_getElem?_getD, List.getD_eq_getElem?_getD, List.getElem?_take, if_pos (by omega), List.getElem?_drop]

/-- A slice of bytes as a string. -/
theorem Sl.conv {w : World} {A : Option Addr} {len cap : Nat} {l : List Int} (h : Sl w A cap l) (hl : l.length = len) :
    (convert 22 9 (.slice A len cap)).run Tryd.prog w = .ok (.string (strOf l)) w := by
  subst hl
  have hb := h.bytes
  obtain ⟨h1, h2, h4, h5⟩ := h
  rcases h5 with ⟨rfl, rfl, rfl⟩ | ⟨x, rfl, hc⟩
  · rw [run_convert_bytes_string w _ _ 5 none _ 0 Tryd.underlying22 Tryd.underlying5 Tryd.underlying9]
    rfl
  · have q := run_convert_bytes_back (P := Tryd.prog) w 22 9 5 x cap (l.map fun n => UInt8.ofNat n.toNat) Tryd.underlying22 Tryd.underlying5 Tryd.underlying9 (fun j hj => by
      have hj1 : j < l.length := by simpa using hj
      rw [hc j hj1]
      simp only [List.getElem_map, UInt8.toNat_ofNat']
      have hb' := hb (l[j]'hj1) (List.getElem_mem _)
      unfold B at hb'
      rw [List.getD_eq_getElem?_getD, List.getElem?_eq_getElem hj1, Option.getD_some]
      congr 2
      omega)
    rw [List.length_map] at q
    exact q
theorem Sl.conv_quiet {w : World} {A : Option Addr} {len cap : Nat} {l : List Int} (h : Sl w A cap l) (hl : l.length = len) (n : Nat) :
    (convert 22 9 (.slice A len cap)).run Tryd.prog (w.drewN n) = .ok (.string (strOf l)) (w.drewN n) := (h.drewN n).conv hl

/-- A slice expression, as the walk meets it. -/
theorem wpList_sliced {P : Program} {ops : Array Oper} {rest : List Oper} {o : Oper} {a : Act} {w : World} {Q : Exit → Act → World → Prop} (hgd : o.guard = none) (t : TypeId) (x : Operand) (lo hi : Option Operand) (ho : o.op = .slice t x lo hi none)
    (v : Value) (hv : (Instr.sliceAt t (a.eval x) (lo.map a.eval) (hi.map a.eval) none).run P w = .ok v w)
    (h : wpList P ops Q rest (a.put o.dst v) w) : wpList P ops Q (o :: rest) a w := by
  refine wpList_plain hgd fun K hK => ?_
  unfold Oper.wp execOp
  simp only [ho, Option.map_none, Sem.run_bind, Sem.run_pure, Result.andThen_ok, hv]
  exact hK _ _ h
theorem wpStill_sliced {P : Program} {ops : Array Oper} {w : World} {Q : Act → Prop} {a : Act} {o : Oper} {rest : List Oper} (hgd : o.guard = none) (t : TypeId) (x : Operand) (lo hi : Option Operand) (ho : o.op = .slice t x lo hi none)
    (v : Value) (hv : (Instr.sliceAt t (a.eval x) (lo.map a.eval) (hi.map a.eval) none).run P w = .ok v w)
    (h : wpStill P ops w Q rest (a.put o.dst v)) : wpStill P ops w Q (o :: rest) a := by
  refine wpStill_step (fun K hK => ?_)
  have hw : Region.wanted o (yielded ops a.tmps) = true := by simp [Region.wanted, hgd]
  rw [if_pos hw]
  unfold Oper.still execOp
  simp only [ho, Option.map_none, Sem.run_bind, Sem.run_pure, Result.andThen_ok, hv]
  exact ⟨rfl, hK _ h⟩
theorem elem_u8 : Tryd.prog.elem 22 = 5 := by kernel_rfl
theorem under_u8 : Tryd.prog.underlying 22 = some (.slice (Tryd.prog.elem 22)) := by kernel_rfl
theorem size_u8 (w : World) : (sizeOf (Tryd.prog.elem 22)).run Tryd.prog w = .ok 1 w := by
  rw [elem_u8]
  have h := info_u8
  cases hq : Tryd.prog.info? 5 with
  | none => rw [hq] at h; cases h
  | some i =>
    rw [hq] at h
    simp at h
    simp [sizeOf, typeInfo, hq, h]
theorem run_part_h (w : World) (A : Option Addr) (len cap : Nat) (k : IntKind) (j : Nat) (hj : j ≤ cap) :
    (Instr.sliceAt 22 (.slice A len cap) none (some (.int k j)) none).run Tryd.prog w = .ok (sliced A 0 j cap 1) w := by
  rw [run_sliceAt_slice w _ _ _ _ _ under_u8, run_slice_h w _ A len cap under_u8 k j (by omega) (by omega), size_u8]
  simp [Result.andThen]
theorem run_part_l (w : World) (A : Option Addr) (len cap : Nat) (k : IntKind) (i : Nat) (hi : i ≤ len) :
    (Instr.sliceAt 22 (.slice A len cap) (some (.int k i)) none none).run Tryd.prog w = .ok (sliced A i len cap 1) w := by
  rw [run_sliceAt_slice w _ _ _ _ _ under_u8, run_slice_l w _ A len cap under_u8 k i (by omega) (by omega), size_u8]
  simp [Result.andThen]
theorem run_part_lh (w : World) (A : Option Addr) (len cap : Nat) (k k' : IntKind) (i j : Nat) (hij : i ≤ j) (hj : j ≤ cap) :
    (Instr.sliceAt 22 (.slice A len cap) (some (.int k i)) (some (.int k' j)) none).run Tryd.prog w = .ok (sliced A i j cap 1) w := by
  rw [run_sliceAt_slice w _ _ _ _ _ under_u8, run_slice_lh w _ A len cap under_u8 k k' i j (by omega) (by omega) (by omega), size_u8]
  simp [Result.andThen]

/-- A new slice has these bytes, and all that was there is as it was. -/
def New (l : List Int) (w : World) (e : Ending) (w' : World) : Prop :=
  ∃ v, e = .returned v ∧ w'.ownsRow w.heap.size 5 1 v l.length (bv l) ∧ Below w.heap.size w w'

/-- 'append' of a slice of bytes. -/
theorem wpList_append_sl {P : Program} {w : World} {ops : Array Oper} {rest : List Oper} {o : Oper} {a : Act} {Q : Exit → Act → World → Prop} (hgd : o.guard = none) (s x : Operand) (t : TypeId)
    (ho : o.op = .call { callee := .builtin .append, args := #[s, x], argTypes := #[t, t] })
    (base : Nat) (e : TypeId) (ht : P.underlying t = some (.slice e)) (hz : (P.info? e).map (fun i => (i.zero, i.size, i.bytes)) = some (some (.int .u8 0), 1, 1))
    (v : Value) (n : Nat) (xs : List Int) (hs : a.eval s = v) (hown : w.ownsRow base e 1 v n (bv xs))
    (A : Option Addr) (m c : Nat) (l : List Int) (hx : a.eval x = .slice A m c) (hm : l.length = m) (hr : Sl w A c l)
    (h63 : n + m ≤ 1099511627900) (hbase : base ≤ w.heap.size)
    (h : ∀ v' w', w'.ownsRow base e 1 v' (n + m) (bv (xs ++ l)) → w.grownBy w' v.ownBlock → wpList P ops Q rest (a.put o.dst v') w') : wpList P ops Q (o :: rest) a w := by
  obtain ⟨i, hi, z0, z1, z2⟩ := info_parts hz
  subst hm
  obtain ⟨h1, h2, h4, h5⟩ := hr
  rcases h5 with ⟨rfl, rfl, rfl⟩ | ⟨ad, rfl, hc⟩
  · refine wpList_append_own_none hgd s x t ho base e i 1 ht hi v n (bv xs) hs hown hx (h v w ?_ (grown_of_below (Below.refl _ _) _))
    simpa using hown
  · refine wpList_append_own w hgd s x t ho base e i (.int .u8 0) 1 1 ht hi z0 z1 z2 rfl (by decide) v n (bv xs) hs hown ad l.length c (bv l) hx (by rw [bv_length]; omega) (fun j u hu => ?_) (bv_one _) (by unfold maxLen; omega) (by omega) hbase (fun v' w' a1 a2 _ => h v' w' (by rw [bv_append]; exact a1) a2)
    have hj : j < l.length := by
      have := (List.getElem?_eq_some_iff.1 hu).1
      simpa [bv] using this
    rw [bv_at _ hj] at hu
    rw [hc j hj, ← hu]
/-- 'append' of a string. -/
theorem wpList_append_str {P : Program} {w : World} {ops : Array Oper} {rest : List Oper} {o : Oper} {a : Act} {Q : Exit → Act → World → Prop} (hgd : o.guard = none) (s x : Operand) (t u : TypeId)
    (ho : o.op = .call { callee := .builtin .append, args := #[s, x], argTypes := #[t, u] })
    (base : Nat) (e : TypeId) (ht : P.underlying t = some (.slice e)) (hu : P.underlying u = some .string) (hz : (P.info? e).map (fun i => (i.zero, i.size, i.bytes)) = some (some (.int .u8 0), 1, 1))
    (v : Value) (n : Nat) (xs : List Int) (hs : a.eval s = v) (hown : w.ownsRow base e 1 v n (bv xs)) (S : ByteArray) (hx : a.eval x = .string S)
    (h63 : n + S.size ≤ 1099511627900) (hbase : base ≤ w.heap.size)
    (h : ∀ v' w', w'.ownsRow base e 1 v' (n + S.size) (bv (xs ++ bytesL S)) → w.grownBy w' v.ownBlock → wpList P ops Q rest (a.put o.dst v') w') : wpList P ops Q (o :: rest) a w := by
  obtain ⟨i, hi, z0, z1, z2⟩ := info_parts hz
  refine Lib.wpList_append_own_string w hgd s x t u ho base e i ht hu hi z0 z1 z2 v n (bv xs) hs hown S hx (by unfold maxLen; omega) (by omega) hbase (fun v' w' a1 a2 _ => h v' w' ?_ a2)
  rw [bv_append, ← strCells_bv]
  exact a1
/-- A slice that was just made of a few bytes. -/
theorem Sl.new1 (w : World) (x : Int) (t : TypeId) (hx : B x) : Sl (w.alloc (.cells #[.int .u8 x] t)) (some ⟨w.heap.size, 0, none⟩) 1 [x] := by
  refine ⟨Nat.le_refl _, by unfold maxLen; omega, by simpa using hx, .inr ⟨_, rfl, fun i hi => ?_⟩⟩
  have : i = 0 := by simpa using hi
  subst this
  rw [Addr.add_lit]
  exact cell_of_row _ _ _ _ t (0, 0) (heap_alloc_new w _)
end Go.Proofs.YthdpipllighegaaDoor.Byt
