/- What the document's answers Sort, Both, Common and Without return: contracts. | What the document's Find, Part and Anc of package dag return: contracts. | Slices of ints in memory: read, cut, appended to; and what is put in at its place. No condition. -/
import Derived.Test.YtechkdhehipliaaDoorIdV
import Derived.Test.YtechkdhehipliaaDoorEvWJ6
import Derived.Maps.AppendAt
import Derived.Test.YtechkdhehipliaaDoorDgRJ7
namespace Go.Proofs.YtechkdhehipliaaDoor.IdX
set_option maxRecDepth 100000
open Go Go.Sort Go.RowKit IdM Byt IdW IdC IdV IdB

/-- A part of a slice of ids. -/
theorem SlI.part {w : World} {A : Option Addr} {cap : Nat} {l : List Idn} (h : SlI w A cap l) (i j : Nat) (hij : i ≤ j) (hj : j ≤ l.length) :
    ∃ A' cap', sliced A i j cap 32 = .slice A' (j - i) cap' ∧ SlI w A' cap' ((l.drop i).take (j - i)) ∧ ((l.drop i).take (j - i)).length = j - i := by
  obtain ⟨h1, h2, h5⟩ := h
  have hl : ((l.drop i).take (j - i)).length = j - i := by simp; omega
  rcases h5 with ⟨rfl, rfl, rfl⟩ | ⟨x, rfl, hc⟩
  · simp at hj
    obtain rfl : j = 0 := hj
    obtain rfl : i = 0 := by omega
    exact ⟨none, 0, by simp [sliced], by simpa using SlI.nil w, hl⟩
  · by_cases hci : cap = i
    · refine ⟨some x, cap - i, by simp [sliced, hci], ⟨by rw [hl]; omega, by omega, .inr ⟨x, rfl, fun k hk => ?_⟩⟩, hl⟩
      rw [flat_length, hl] at hk
      omega
    · refine ⟨some (x.add (i * 32)), cap - i, by simp [sliced, hci], ⟨by rw [hl]; omega, by omega, .inr ⟨_, rfl, fun k hk => ?_⟩⟩, hl⟩
      have hk' := hk
      rw [flat_length, hl] at hk'
      rw [Addr.add_add, hc (i * 32 + k) (by rw [flat_length]; omega)]
      congr 2
      rw [flat_take, flat_drop, List.getD_eq_getElem?_getD, List.getD_eq_getElem?_getD, List.getElem?_take, if_pos (by omega), List.getElem?_drop]
theorem elem_id : Tryd.prog.elem 29 = 43 := by kernel_rfl
theorem under_id : Tryd.prog.underlying 29 = some (.slice (Tryd.prog.elem 29)) := by kernel_rfl
theorem size_id (w : World) : (sizeOf (Tryd.prog.elem 29)).run Tryd.prog w = .ok 32 w := by rw [elem_id]; exact size_v w
theorem run_part_h (w : World) (A : Option Addr) (len cap : Nat) (k : IntKind) (j : Nat) (hj : j ≤ cap) :
    (Instr.sliceAt 29 (.slice A len cap) none (some (.int k j)) none).run Tryd.prog w = .ok (sliced A 0 j cap 32) w := by
  rw [run_sliceAt_slice w _ _ _ _ _ under_id, run_slice_h w _ A len cap under_id k j (by omega) (by omega), size_id]
  simp [Result.andThen]
theorem run_part_l (w : World) (A : Option Addr) (len cap : Nat) (k : IntKind) (i : Nat) (hi : i ≤ len) :
    (Instr.sliceAt 29 (.slice A len cap) (some (.int k i)) none none).run Tryd.prog w = .ok (sliced A i len cap 32) w := by
  rw [run_sliceAt_slice w _ _ _ _ _ under_id, run_slice_l w _ A len cap under_id k i (by omega) (by omega), size_id]
  simp [Result.andThen]
theorem nil_own (w : World) (base : Nat) : w.ownsRow base 43 32 (.slice none 0 0) 0 (bv (flat [])) := ⟨rfl, .inl ⟨rfl, rfl⟩⟩
/-- Put in at its place. -/
theorem rising_put {out : List Idn} {x : Idn} {m : Nat} (hr : Rising out) (hx : x ∉ out) (hm : m ≤ out.length) (h1 : ∀ j, m ≤ j → j < out.length → less x (out.getD j nought) = true) (h2 : m = 0 ∨ less x (out.getD (m - 1) nought) = false) :
    Rising (out.take m ++ [x] ++ out.drop m) ∧ ∀ z, z ∈ out.take m ++ [x] ++ out.drop m ↔ z = x ∨ z ∈ out := by
  have hmem : ∀ z, z ∈ out ↔ z ∈ out.take m ∨ z ∈ out.drop m := fun z => by
    conv => lhs; rw [← List.take_append_drop m out]
    rw [List.mem_append]
  have hd : ∀ z ∈ out.drop m, less x z = true := by
    intro z hz
    obtain ⟨i, hi, e⟩ := List.getElem_of_mem hz
    rw [List.getElem_drop] at e
    have hi' : m + i < out.length := by simp at hi; omega
    have := h1 (m + i) (by omega) hi'
    rw [List.getD_eq_getElem?_getD, List.getElem?_eq_getElem hi', Option.getD_some, e] at this
    exact this
  have ht : ∀ z ∈ out.take m, less z x = true := by
    intro z hz
    obtain ⟨i, hi, e⟩ := List.getElem_of_mem hz
    rw [List.getElem_take] at e
    have hi' : i < m := by simp at hi; omega
    have hl : less (out.getD (m - 1) nought) x = true := by
      rcases h2 with h2 | h2
      · omega
      · refine less_of_ne h2 (fun e => hx ?_)
        rw [e]
        exact mem_iff_get.2 ⟨m - 1, by omega, rfl⟩
    have e' : out.getD i nought = z := by
      rw [List.getD_eq_getElem?_getD, List.getElem?_eq_getElem (by omega), Option.getD_some, e]
    by_cases him : i = m - 1
    · rw [← e', him]; exact hl
    · have := rising_get hr (i := i) (j := m - 1) (by omega) (by omega)
      rw [e'] at this
      exact less_trans this hl
  constructor
  · unfold Rising
    rw [List.append_assoc, List.pairwise_append]
    refine ⟨List.Pairwise.sublist (List.take_sublist m out) hr, ?_, ?_⟩
    · rw [List.singleton_append, List.pairwise_cons]
      exact ⟨hd, List.Pairwise.sublist (List.drop_sublist m out) hr⟩
    · intro a ha b hb
      rw [List.singleton_append, List.mem_cons] at hb
      rcases hb with rfl | hb
      · exact ht a ha
      · exact less_trans (ht a ha) (hd b hb)
  · intro z
    rw [List.append_assoc, List.mem_append, List.singleton_append, List.mem_cons, hmem z]
    constructor
    · rintro (h | h | h)
      · exact .inr (.inl h)
      · exact .inl h
      · exact .inr (.inr h)
    · rintro (h | h | h)
      · exact .inr (.inl h)
      · exact .inl h
      · exact .inr (.inr h)

theorem mem_take_succ {l : List Idn} {k : Nat} (h : k < l.length) (z : Idn) : z ∈ l.getD k nought :: l.take k ↔ z ∈ l.take (k + 1) := by
  rw [List.take_add_one, List.mem_append, List.mem_cons, List.getD_eq_getElem?_getD, List.getElem?_eq_getElem h]
  simp [or_comm]

end Go.Proofs.YtechkdhehipliaaDoor.IdX
namespace Go.Proofs.YtechkdhehipliaaDoor.DgF
set_option maxRecDepth 100000
open Go Go.Sort Go.RowKit Byt IdM IdW OpsM OpsW CmM StW CmW CmX CmY DgM DgN DgP DgW DgT DgR DgK DgO DgC
open Classical

noncomputable def partC (l : List Com) (a : List Idn) : List Com := if Closed hashK l then DgM.part hashK l (· ∈ a) else []
noncomputable def ancC (l : List Com) (a : List Idn) : List Idn := if Closed hashK l then anc hashK l a else []
/-- Commits in a slice are handed back. -/
def NewC (m : List Com) (w : World) (e : Ending) (w' : World) : Prop := ∃ A cap l, e = .returned (.slice A (List.length l) cap) ∧ SlK w' A cap l ∧ coms l = m ∧ Below w.heap.size w w'
theorem own_in {w : World} {base n : Nat} {v : Value} {l : List Cv} (h : w.ownsRow base 33 8 v n (RowS.flat KE l)) (he : ∀ x ∈ l, In w x ∧ Fit x.c) : ∃ A cap, v = .slice A l.length cap ∧ SlK w A cap l := by
  obtain ⟨A, cap, e, S⟩ := RowS.SlR.own (E := KE) h
  exact ⟨A, cap, e, S, he⟩
theorem closed_may {l : List Com} (C : Closed hashK l) : l.all mayK = true := List.all_eq_true.2 fun c hc => C.may c hc
theorem filter_next {α : Type} (p : α → Bool) {l : List α} {k : Nat} {x : α} (h : l[k]? = some x) : (l.take (k + 1)).filter p = (l.take k).filter p ++ (if p x = true then [x] else []) := by
  obtain ⟨hk, e⟩ := List.getElem?_eq_some_iff.1 h
  rw [List.take_succ_eq_append_getElem hk, List.filter_append, e]
  congr 1
  by_cases hp : p x = true
  · rw [if_pos hp, List.filter_cons_of_pos hp, List.filter_nil]
  · rw [if_neg hp, List.filter_cons_of_neg (by simpa using hp), List.filter_nil]
theorem map_filter {l : List Cv} {a : List Idn} : coms (l.filter fun v => decide (hashK v.c ∈ a)) = DgM.part hashK (coms l) (· ∈ a) := by
  unfold coms DgM.part
  rw [List.filter_map]
  congr 1
  refine List.filter_congr fun v _ => ?_
  rw [Bool.eq_iff_iff]
  simp
/-- What is looked for, by places. -/
def Seen (all a : List Idn) (K : Nat → Nat → Bool) (k : Nat) (h : Idn) (j : Nat) : Prop := h ∈ a ∨ ∃ j' y, j' < j ∧ all[j']? = some y ∧ y ∈ a ∧ K j' k = true
theorem seen_next {all a : List Idn} {K : Nat → Nat → Bool} {k : Nat} {h y : Idn} {j : Nat} (hy : all[j]? = some y) : Seen all a K k h (j + 1) ↔ Seen all a K k h j ∨ (y ∈ a ∧ K j k = true) := by
  unfold Seen
  constructor
  · rintro (h1 | ⟨j', y', h1, h2, h3, h4⟩)
    · exact .inl (.inl h1)
    · by_cases e : j' = j
      · subst e
        rw [hy] at h2
        rw [← Option.some.inj h2] at h3
        exact .inr ⟨h3, h4⟩
      · exact .inl (.inr ⟨j', y', by omega, h2, h3, h4⟩)
  · rintro ((h1 | ⟨j', y', h1, h2, h3, h4⟩) | ⟨h3, h4⟩)
    · exact .inl h1
    · exact .inr ⟨j', y', by omega, h2, h3, h4⟩
    · exact .inr ⟨j, y, by omega, hy, h3, h4⟩
theorem seen_below {l : List Com} {a : List Idn} {K : Nat → Nat → Bool} (C : Closed hashK l) (hW : Whole l (l.map hashK) K) {k : Nat} {h : Idn} (hk : (l.map hashK)[k]? = some h) : Seen (l.map hashK) a K k h l.length ↔ DgM.Below hashK l a h := by
  unfold Seen DgM.Below
  constructor
  · rintro (h1 | ⟨j', y, _, h2, h3, h4⟩)
    · exact ⟨List.mem_of_getElem? hk, .inl h1⟩
    · exact ⟨List.mem_of_getElem? hk, .inr ⟨y, h3, (kni_iff C.nodup C.found h2 hk).1 ((hW j' k).1 h4)⟩⟩
  · rintro ⟨_, h1 | ⟨y, h1, h2⟩⟩
    · exact .inl h1
    · obtain ⟨j', hj'⟩ := List.mem_iff_getElem?.1 (kn_src h2)
      exact .inr ⟨j', y, by have := (List.getElem?_eq_some_iff.1 hj').1; rwa [List.length_map] at this, hj', h1, (hW j' k).2 ((kni_iff C.nodup C.found hj' hk).2 h2)⟩
end Go.Proofs.YtechkdhehipliaaDoor.DgF
namespace Go.Proofs.YtechkdhehipliaaDoor.DgI
set_option maxRecDepth 100000
open Go Go.Sort Go.RowKit Byt IdM IdW OpsM OpsW CmM StW CmW

def nv (l : List Nat) : List Value := l.map fun (n : Nat) => Value.int .i64 n
theorem nv_length (l : List Nat) : (nv l).length = l.length := List.length_map ..
theorem nv_append (a b : List Nat) : nv (a ++ b) = nv a ++ nv b := List.map_append ..
theorem nv_at {l : List Nat} {i n : Nat} (h : l[i]? = some n) : (nv l)[i]? = some (.int .i64 n) := by
  unfold nv
  rw [List.getElem?_map, h]
  rfl
theorem nv_one (l : List Nat) : ∀ v ∈ nv l, v.oneCell' = true := by
  intro v hv
  obtain ⟨n, _, rfl⟩ := List.mem_map.1 hv
  rfl
/-- The slice with address A, as long as l, and with room for cap, has the values l. -/
def SlN (w : World) (A : Option Addr) (cap : Nat) (l : List Nat) : Prop :=
  l.length ≤ cap ∧ cap ≤ maxLen ∧ ((A = none ∧ l = [] ∧ cap = 0) ∨ ∃ x, A = some x ∧ ∀ i v, (nv l)[i]? = some v → w.cell? (x.add i) = some v)
theorem SlN.nil (w : World) : SlN w none 0 [] := ⟨Nat.le_refl _, Nat.zero_le _, .inl ⟨rfl, rfl, rfl⟩⟩
theorem SlN.below {w w' : World} {A : Option Addr} {cap : Nat} {l : List Nat} (h : SlN w A cap l) (hb : Below w.heap.size w w') : SlN w' A cap l := by
  obtain ⟨h1, h2, h5⟩ := h
  refine ⟨h1, h2, ?_⟩
  rcases h5 with h5 | ⟨x, rfl, hc⟩
  · exact .inl h5
  · refine .inr ⟨x, rfl, fun i v hv => ?_⟩
    have hcell := hc i v hv
    exact (hb.cell (block_lt_of_cell hcell)).trans hcell
theorem SlN.plain {w : World} {A : Option Addr} {cap : Nat} {l : List Nat} (h : SlN w A cap l) (hp : 0 < l.length) :
    ∃ b off, A = some ⟨b, off, none⟩ ∧ b < w.heap.size ∧ ∀ (i n : Nat), l[i]? = some n → w.cell? ⟨b, off + i, none⟩ = some (.int .i64 n) := by
  obtain ⟨h1, h2, h5⟩ := h
  rcases h5 with ⟨_, rfl, _⟩ | ⟨x, rfl, hc⟩
  · simp at hp
  · have h0 := hc 0 _ (nv_at (n := l[0]) (List.getElem?_eq_getElem hp))
    obtain ⟨b, off, spot⟩ := x
    have hspot : spot = none := by simpa [Addr.add] using World.cell?_spot h0
    subst hspot
    have hb := block_lt_of_cell h0
    rw [RowIn.block_add] at hb
    refine ⟨b, off, rfl, hb, fun i n hi => ?_⟩
    have := hc i _ (nv_at hi)
    rwa [Addr.add_lit] at this
theorem SlN.own {w : World} {base n : Nat} {v : Value} {l : List Nat} (h : w.ownsRow base 3 1 v n (nv l)) : ∃ A cap, v = .slice A l.length cap ∧ SlN w A cap l := by
  have hn : l.length = n := by
    have := h.1
    rw [nv_length] at this
    omega
  rcases h.2 with ⟨rfl, rfl⟩ | ⟨g, cap, cur, rfl, hbg, hg, h1, h2, h3, h4⟩
  · have : l = [] := List.eq_nil_of_length_eq_zero hn
    subst this
    exact ⟨none, 0, rfl, SlN.nil w⟩
  · refine ⟨some ⟨g, 0, none⟩, cap, by rw [hn], by omega, h2, .inr ⟨_, rfl, fun i u hu => ?_⟩⟩
    exact h.cells rfl i u hu
theorem SlN.part {w : World} {A : Option Addr} {cap : Nat} {l : List Nat} (h : SlN w A cap l) (i j : Nat) (hij : i ≤ j) (hj : j ≤ l.length) :
    ∃ A' cap', sliced A i j cap 1 = .slice A' (j - i) cap' ∧ SlN w A' cap' ((l.drop i).take (j - i)) ∧ ((l.drop i).take (j - i)).length = j - i := by
  obtain ⟨h1, h2, h5⟩ := h
  have hl : ((l.drop i).take (j - i)).length = j - i := by simp; omega
  rcases h5 with ⟨rfl, rfl, rfl⟩ | ⟨x, rfl, hc⟩
  · simp at hj
    obtain rfl : j = 0 := hj
    obtain rfl : i = 0 := by omega
    exact ⟨none, 0, by simp [sliced], by simpa using SlN.nil w, hl⟩
  · by_cases hci : cap = i
    · refine ⟨some x, cap - i, by simp [sliced, hci], ⟨by rw [hl]; omega, by omega, .inr ⟨x, rfl, fun m v hv => ?_⟩⟩, hl⟩
      have := (List.getElem?_eq_some_iff.1 hv).1
      rw [nv_length, hl] at this
      omega
    · refine ⟨some (x.add (i * 1)), cap - i, by simp [sliced, hci], ⟨by rw [hl]; omega, by omega, .inr ⟨_, rfl, fun m v hv => ?_⟩⟩, hl⟩
      rw [Addr.add_add]
      apply hc
      have hm := (List.getElem?_eq_some_iff.1 hv).1
      rw [nv_length, hl] at hm
      unfold nv at hv ⊢
      rw [List.getElem?_map, List.getElem?_take, if_pos (by omega), List.getElem?_drop] at hv
      rw [List.getElem?_map, Nat.mul_one]
      exact hv
theorem info_int : (Tryd.prog.info? 3).map (fun i => (i.zero, i.size, i.bytes)) = some (some (.int .i64 0), 1, 8) := by kernel_rfl
theorem elem_int : Tryd.prog.elem 52 = 3 := by kernel_rfl
theorem under_int : Tryd.prog.underlying 52 = some (.slice (Tryd.prog.elem 52)) := by kernel_rfl
theorem size_int (w : World) : (sizeOf (Tryd.prog.elem 52)).run Tryd.prog w = .ok 1 w := by
  obtain ⟨i, hi, z0, z1, _⟩ := info_parts info_int
  rw [elem_int]
  simp [sizeOf, typeInfo, hi, z1]
theorem run_part_h (w : World) (A : Option Addr) (len cap : Nat) (k : IntKind) (j : Nat) (hj : j ≤ cap) :
    (Instr.sliceAt 52 (.slice A len cap) none (some (.int k j)) none).run Tryd.prog w = .ok (sliced A 0 j cap 1) w := by
  rw [run_sliceAt_slice w _ _ _ _ _ under_int, run_slice_h w _ A len cap under_int k j (by omega) (by omega), size_int]
  simp [Result.andThen]
theorem run_part_l (w : World) (A : Option Addr) (len cap : Nat) (k : IntKind) (i : Nat) (hi : i ≤ len) :
    (Instr.sliceAt 52 (.slice A len cap) (some (.int k i)) none none).run Tryd.prog w = .ok (sliced A i len cap 1) w := by
  rw [run_sliceAt_slice w _ _ _ _ _ under_int, run_slice_l w _ A len cap under_int k i (by omega) (by omega), size_int]
  simp [Result.andThen]
theorem SlN.new1 (w : World) (n : Nat) (t : TypeId) : SlN (w.alloc (.cells #[.int .i64 n] t)) (some ⟨w.heap.size, 0, none⟩) 1 [n] := by
  refine ⟨Nat.le_refl _, by unfold maxLen; omega, .inr ⟨_, rfl, fun i v hv => ?_⟩⟩
  have hi : i = 0 := by
    have := (List.getElem?_eq_some_iff.1 hv).1
    simpa [nv] using this
  subst hi
  obtain rfl : Value.int .i64 n = v := by simpa [nv] using hv
  rw [Addr.add_lit]
  exact cell_of_row _ _ _ _ _ (0, 0) (heap_alloc_new w _)
theorem nil_own (w : World) (base : Nat) : w.ownsRow base 3 1 (.slice none 0 0) 0 (nv []) := ⟨rfl, .inl ⟨rfl, rfl⟩⟩
/-- 'append' of a slice of ints. -/
theorem append_ints {w : World} {ops : Array Oper} {rest : List Oper} {o : Oper} {a : Act} {Q : Exit → Act → World → Prop} (hgd : o.guard = none) (s x : Operand)
    (ho : o.op = .call { callee := .builtin .append, args := #[s, x], argTypes := #[52, 52] })
    (base : Nat) (v : Value) (n : Nat) (xs : List Nat) (hs : a.eval s = v) (hown : w.ownsRow base 3 1 v n (nv xs))
    (A : Option Addr) (m c : Nat) (l : List Nat) (hx : a.eval x = .slice A m c) (hm : l.length = m) (hr : SlN w A c l)
    (h63 : n + m ≤ 1000000000) (hbase : base ≤ w.heap.size)
    (h : ∀ v' w', w'.ownsRow base 3 1 v' (n + m) (nv (xs ++ l)) → w.grownBy w' v.ownBlock → wpList Tryd.prog ops Q rest (a.put o.dst v') w') : wpList Tryd.prog ops Q (o :: rest) a w := by
  obtain ⟨i, hi, z0, z1, z2⟩ := info_parts info_int
  subst hm
  obtain ⟨h1, h2, h5⟩ := hr
  rcases h5 with ⟨rfl, rfl, rfl⟩ | ⟨ad, rfl, hc⟩
  · refine wpList_append_own_none hgd s x 52 ho base 3 i 1 Tryd.underlying52 hi v n (nv xs) hs hown hx (h v w ?_ (grown_of_below (Below.refl _ _) _))
    simpa using hown
  · exact wpList_append_own w hgd s x 52 ho base 3 i (.int .i64 0) 1 8 Tryd.underlying52 hi z0 z1 z2 rfl (by decide) v n (nv xs) hs hown ad l.length c (nv l) hx (by rw [nv_length]; omega) (fun j u hu => hc j u hu) (nv_one l) (by unfold maxLen; omega) (by omega) hbase (fun v' w' a1 a2 _ => h v' w' (by rw [nv_append]; exact a1) a2)
/-- Put in at its place. -/
theorem put_pw {R : Nat → Nat → Prop} (tr : ∀ a b c, R a b → R b c → R a c) {l : List Nat} {x m : Nat} (h : l.Pairwise R) (hm : m ≤ l.length) (h1 : ∀ j y, m ≤ j → l[j]? = some y → R x y) (h2 : m = 0 ∨ ∃ y, l[m - 1]? = some y ∧ R y x) :
    (l.take m ++ [x] ++ l.drop m).Pairwise R := by
  have hd : ∀ z ∈ l.drop m, R x z := by
    intro z hz
    obtain ⟨i, hi⟩ := List.mem_iff_getElem?.1 hz
    rw [List.getElem?_drop] at hi
    exact h1 (m + i) z (by omega) hi
  have ht : ∀ z ∈ l.take m, R z x := by
    intro z hz
    obtain ⟨i, hi⟩ := List.mem_iff_getElem?.1 hz
    have hi' : i < m := by
      have := (List.getElem?_eq_some_iff.1 hi).1
      rw [List.length_take] at this
      omega
    rw [List.getElem?_take, if_pos hi'] at hi
    rcases h2 with h2 | ⟨y, hy, hr⟩
    · omega
    · by_cases e : i = m - 1
      · rw [e, hy] at hi
        rw [← Option.some.inj hi]
        exact hr
      · obtain ⟨i1, e1⟩ := List.getElem?_eq_some_iff.1 hi
        obtain ⟨i2, e2⟩ := List.getElem?_eq_some_iff.1 hy
        have := List.pairwise_iff_getElem.1 h i (m - 1) i1 i2 (by omega)
        rw [e1, e2] at this
        exact tr _ _ _ this hr
  rw [List.append_assoc, List.pairwise_append]
  refine ⟨List.Pairwise.sublist (List.take_sublist m l) h, ?_, ?_⟩
  · rw [List.singleton_append, List.pairwise_cons]
    exact ⟨hd, List.Pairwise.sublist (List.drop_sublist m l) h⟩
  · intro a ha b hb
    rw [List.singleton_append, List.mem_cons] at hb
    rcases hb with rfl | hb
    · exact ht a ha
    · exact tr _ _ _ (ht a ha) (hd b hb)
theorem put_mem {l : List Nat} {x m z : Nat} : z ∈ l.take m ++ [x] ++ l.drop m ↔ z = x ∨ z ∈ l := by
  have hmem : z ∈ l ↔ z ∈ l.take m ∨ z ∈ l.drop m := by
    conv => lhs; rw [← List.take_append_drop m l]
    rw [List.mem_append]
  rw [List.append_assoc, List.mem_append, List.singleton_append, List.mem_cons, hmem]
  constructor
  · rintro (h | h | h)
    · exact .inr (.inl h)
    · exact .inl h
    · exact .inr (.inr h)
  · rintro (h | h | h)
    · exact .inr (.inl h)
    · exact .inl h
    · exact .inr (.inr h)
theorem put_len {l : List Nat} {x m : Nat} (hm : m ≤ l.length) : (l.take m ++ [x] ++ l.drop m).length = l.length + 1 := by simp; omega
end Go.Proofs.YtechkdhehipliaaDoor.DgI
