/- Slices of slices of bytes in memory: read, made, appended to. No condition. -/
import Derived.Test.YthdpipllighegaaDoorByt
import Derived.Maps.AppendAt
namespace Go.Proofs.YthdpipllighegaaDoor.LogB
set_option maxRecDepth 100000
open Go Go.RowKit Byt

/-- A slice of bytes: where it lies, its room, what it has. -/
structure Pb where
  a : Option Addr
  k : Nat
  bs : List Int
/-- Its cell. -/
def hd (v : Pb) : Value := .slice v.a v.bs.length v.k
def hds (l : List Pb) : List Value := l.map hd
theorem hds_len (l : List Pb) : (hds l).length = l.length := List.length_map ..
theorem hds_append (a b : List Pb) : hds (a ++ b) = hds a ++ hds b := List.map_append
theorem hds_at {l : List Pb} {i : Nat} {x : Pb} (h : l[i]? = some x) : (hds l)[i]? = some (hd x) := by
  unfold hds
  rw [List.getElem?_map, h]
  rfl
/-- What they have. -/
def tx (l : List Pb) : List (List Int) := l.map (·.bs)
theorem tx_len (l : List Pb) : (tx l).length = l.length := List.length_map ..
theorem tx_append (a b : List Pb) : tx (a ++ b) = tx a ++ tx b := List.map_append
theorem tx_at {l : List Pb} {i : Nat} {x : Pb} (h : l[i]? = some x) : (tx l)[i]? = some x.bs := by
  unfold tx
  rw [List.getElem?_map, h]
  rfl
/-- The slice holds these slices of bytes. -/
structure SlB (w : World) (A : Option Addr) (cap : Nat) (l : List Pb) : Prop where
  room : l.length ≤ cap ∧ cap ≤ maxLen
  lies : (A = none ∧ l = [] ∧ cap = 0) ∨ ∃ x, A = some x ∧ ∀ i v, (hds l)[i]? = some v → w.cell? (x.add i) = some v
  each : ∀ v ∈ l, Sl w v.a v.k v.bs
theorem SlB.nil (w : World) : SlB w none 0 [] := ⟨⟨Nat.le_refl _, Nat.zero_le _⟩, .inl ⟨rfl, rfl, rfl⟩, by simp⟩
theorem SlB.below {w w' : World} {A : Option Addr} {cap : Nat} {l : List Pb} (h : SlB w A cap l) (hb : Below w.heap.size w w') : SlB w' A cap l := by
  refine ⟨h.room, ?_, fun v hv => (h.each v hv).below hb⟩
  rcases h.lies with h5 | ⟨x, rfl, hc⟩
  · exact .inl h5
  · refine .inr ⟨x, rfl, fun i v hv => ?_⟩
    have hcell := hc i v hv
    exact (hb.cell (block_lt_of_cell hcell)).trans hcell
theorem SlB.plain {w : World} {A : Option Addr} {cap : Nat} {l : List Pb} (h : SlB w A cap l) (hp : 0 < l.length) :
    ∃ b off, A = some ⟨b, off, none⟩ ∧ b < w.heap.size ∧ ∀ i x, l[i]? = some x → w.cell? ⟨b, off + i, none⟩ = some (hd x) := by
  rcases h.lies with ⟨_, rfl, _⟩ | ⟨x, rfl, hc⟩
  · simp at hp
  · have h0 := hc 0 _ (hds_at (List.getElem?_eq_getElem hp))
    obtain ⟨b, off, spot⟩ := x
    have hspot : spot = none := by simpa [Addr.add] using World.cell?_spot h0
    subst hspot
    rw [Addr.add_lit] at h0
    refine ⟨b, off, rfl, block_lt_of_cell h0, fun i x hi => ?_⟩
    have := hc i _ (hds_at hi)
    rwa [Addr.add_lit] at this
theorem SlB.own {w : World} {base n : Nat} {v : Value} {l : List Pb} (h : w.ownsRow base 22 1 v n (hds l)) (he : ∀ v ∈ l, Sl w v.a v.k v.bs) : ∃ A cap, v = .slice A l.length cap ∧ SlB w A cap l := by
  have hn : l.length = n := by have := h.1; rw [hds_len] at this; omega
  rcases h.2 with ⟨rfl, rfl⟩ | ⟨g, cap, cur, rfl, hbg, hg, h1, h2, h3, h4⟩
  · have : l = [] := List.eq_nil_of_length_eq_zero hn
    subst this
    exact ⟨none, 0, rfl, ⟨Nat.le_refl _, Nat.zero_le _⟩, .inl ⟨rfl, rfl, rfl⟩, he⟩
  · refine ⟨some ⟨g, 0, none⟩, cap, by rw [hn], ⟨by omega, h2⟩, .inr ⟨_, rfl, fun i u hu => ?_⟩, he⟩
    exact h.cells rfl i u hu
/-- A beginning of a slice. -/
theorem SlB.front {w : World} {A : Option Addr} {cap : Nat} {l : List Pb} (h : SlB w A cap l) (j : Nat) (hj : j ≤ l.length) :
    ∃ A' cap', sliced A 0 j cap 1 = .slice A' j cap' ∧ SlB w A' cap' (l.take j) ∧ (l.take j).length = j := by
  have hl : (l.take j).length = j := by simp; omega
  have hr := h.room
  rcases h.lies with ⟨rfl, rfl, rfl⟩ | ⟨x, rfl, hc⟩
  · simp at hj
    obtain rfl : j = 0 := hj
    exact ⟨none, 0, by simp [sliced], by simpa using SlB.nil w, hl⟩
  · have hlies : ∀ i v, (hds (l.take j))[i]? = some v → w.cell? (x.add i) = some v := fun i v hv => by
      have hi : i < j := by
        have := (List.getElem?_eq_some_iff.1 hv).1
        rw [hds_len, hl] at this
        exact this
      refine hc i v ?_
      unfold hds at hv ⊢
      rw [List.map_take, List.getElem?_take, if_pos hi] at hv
      exact hv
    have he : ∀ v ∈ l.take j, Sl w v.a v.k v.bs := fun v hv => h.each v (List.mem_of_mem_take hv)
    by_cases hc0 : cap = 0
    · exact ⟨some x, cap, by simp [sliced, hc0], ⟨by rw [hl]; exact ⟨by omega, by omega⟩, .inr ⟨x, rfl, hlies⟩, he⟩, hl⟩
    · refine ⟨some (x.add 0), cap, by simp [sliced, hc0], ⟨by rw [hl]; exact ⟨by omega, by omega⟩, .inr ⟨x.add 0, rfl, fun i v hv => ?_⟩, he⟩, hl⟩
      rw [Addr.add_add, Nat.zero_add]
      exact hlies i v hv
theorem zero_ps : (Tryd.prog.info? 22).map (fun i => (i.zero, i.size, i.bytes)) = some (some (.slice none 0 0), 1, 24) := by kernel_rfl
/-- A slice that was just made of one slice of bytes. -/
theorem new1 (w : World) (x : Value) (t : TypeId) : ∀ j u, [x][j]? = some u → (w.alloc (.cells #[x] t)).cell? ((⟨w.heap.size, 0, none⟩ : Addr).add j) = some u := by
  intro j u hu
  cases j with
  | zero =>
    simp only [List.getElem?_cons_zero, Option.some.injEq] at hu
    subst hu
    rw [Addr.add_lit, Nat.zero_add, cell_of_row _ _ 0 _ t (0, 0) (heap_alloc_new w _)]
    rfl
  | succ j => simp at hu
/-- 'append' of one slice of bytes: the row stays in its block, or goes into a new one. -/
theorem wpList_append_ps {w : World} {ops : Array Oper} {rest : List Oper} {o : Oper} {a : Act} {Q : Exit → Act → World → Prop} (hgd : o.guard = none) (s x : Operand)
    (ho : o.op = .call { callee := .builtin .append, args := #[s, x], argTypes := #[27, 27] })
    (base : Nat) (v : Value) (n : Nat) (xs : List Pb) (hs : a.eval s = v) (hown : w.ownsRow base 22 1 v n (hds xs))
    (ad : Addr) (y : Pb) (hx : a.eval x = .slice (some ad) 1 1) (hr : ∀ j u, [hd y][j]? = some u → w.cell? (ad.add j) = some u)
    (h63 : n ≤ 1099511627776) (hbase : base ≤ w.heap.size)
    (h : ∀ v' w', w'.ownsRow base 22 1 v' (n + 1) (hds (xs ++ [y])) → w.grownBy w' v.ownBlock → (v'.ownBlock = v.ownBlock ∨ v'.ownBlock = some w.heap.size) → wpList Tryd.prog ops Q rest (a.put o.dst v') w') : wpList Tryd.prog ops Q (o :: rest) a w := by
  obtain ⟨i, hi, z0, z1, z2⟩ := info_parts zero_ps
  exact wpList_append_own_at w hgd s x 27 ho base 22 i (.slice none 0 0) 1 24 Tryd.underlying27 hi z0 z1 z2 rfl (by decide) v n (hds xs) hs hown ad 1 1 [hd y] hx rfl hr (by intro u hu; simp at hu; subst hu; rfl) (by unfold maxLen; omega) (by omega) hbase
    (fun v' w' a1 a2 _ a4 => h v' w' (by rw [hds_append]; exact a1) a2 a4)
/-- A slice stays where another block grows. -/
theorem sl_other {w w' : World} {A : Option Addr} {cap : Nat} {l : List Int} {g : Option Nat} (S : Sl w A cap l) (hg : w.grownBy w' g) (hf : ∀ b off sp, A = some ⟨b, off, sp⟩ → g ≠ some b) : Sl w' A cap l := by
  obtain ⟨h1, h2, h3, h5⟩ := S
  rcases h5 with ⟨rfl, rfl, rfl⟩ | ⟨x, rfl, hc⟩
  · exact ⟨h1, h2, h3, .inl ⟨rfl, rfl, rfl⟩⟩
  · refine ⟨h1, h2, h3, .inr ⟨x, rfl, fun i hi => ?_⟩⟩
    have hcell := hc i hi
    have hlt := block_lt_of_cell hcell
    have hne : some (x.add i).block ≠ g := fun e => hf x.block x.off x.spot (by cases x; rfl) (by rw [← e, RowIn.block_add])
    unfold World.cell? at hcell ⊢
    rw [hg.block _ hlt hne]
    exact hcell
/-- Slices of bytes that lie in memory, and none in the block that the row of them owns. -/
structure Held (w : World) (v : Value) (ps : List Pb) : Prop where
  each : ∀ p ∈ ps, Sl w p.a p.k p.bs
  far : ∀ p ∈ ps, ∀ b off sp, p.a = some ⟨b, off, sp⟩ → v.ownBlock ≠ some b ∧ b < w.heap.size
theorem Held.nil (w : World) (v : Value) : Held w v [] := ⟨fun u h => by simp at h, fun u h => by simp at h⟩
theorem Held.below {w w' : World} {v : Value} {ps : List Pb} (h : Held w v ps) (hb : Below w.heap.size w w') : Held w' v ps :=
  ⟨fun p hp => (h.each p hp).below hb, fun p hp b off sp e => ⟨(h.far p hp b off sp e).1, Nat.lt_of_lt_of_le (h.far p hp b off sp e).2 hb.size⟩⟩
theorem Held.snoc {w : World} {v : Value} {ps : List Pb} {p : Pb} (h : Held w v ps) (hi : Sl w p.a p.k p.bs) (hr : ∀ b off sp, p.a = some ⟨b, off, sp⟩ → v.ownBlock ≠ some b ∧ b < w.heap.size) : Held w v (ps ++ [p]) := by
  refine ⟨fun x hx => ?_, fun x hx => ?_⟩
  · rcases List.mem_append.1 hx with hx | hx
    · exact h.each x hx
    · rw [List.mem_singleton.1 hx]; exact hi
  · rcases List.mem_append.1 hx with hx | hx
    · exact h.far x hx
    · rw [List.mem_singleton.1 hx]; exact hr
theorem Held.grown {w w' : World} {v v' : Value} {ps : List Pb} (h : Held w v ps) (hg : w.grownBy w' v.ownBlock) (hv : v'.ownBlock = v.ownBlock ∨ v'.ownBlock = some w.heap.size) : Held w' v' ps := by
  refine ⟨fun p hp => sl_other (h.each p hp) hg (fun b off sp e => (h.far p hp b off sp e).1), fun p hp b off sp e => ?_⟩
  obtain ⟨h1, h2⟩ := h.far p hp b off sp e
  refine ⟨?_, Nat.lt_of_lt_of_le h2 hg.size⟩
  rcases hv with hv | hv
  · rw [hv]; exact h1
  · rw [hv]
    intro e2
    injection e2 with e2
    omega
theorem SlB.held {w : World} {base n : Nat} {v : Value} {l : List Pb} (h : w.ownsRow base 22 1 v n (hds l)) (he : Held w v l) : ∃ A cap, v = .slice A l.length cap ∧ SlB w A cap l := SlB.own h he.each
theorem elem_ps : Tryd.prog.elem 27 = 22 := by kernel_rfl
theorem under_ps : Tryd.prog.underlying 27 = some (.slice (Tryd.prog.elem 27)) := by kernel_rfl
theorem size_ps (w : World) : (sizeOf (Tryd.prog.elem 27)).run Tryd.prog w = .ok 1 w := by
  rw [elem_ps]
  have h := zero_ps
  cases hq : Tryd.prog.info? 22 with
  | none => rw [hq] at h; cases h
  | some i =>
    rw [hq] at h
    simp at h
    simp [sizeOf, typeInfo, hq, h]
theorem run_front (w : World) (A : Option Addr) (len cap : Nat) (k : IntKind) (j : Nat) (hj : j ≤ cap) :
    (Instr.sliceAt 27 (.slice A len cap) none (some (.int k j)) none).run Tryd.prog w = .ok (sliced A 0 j cap 1) w := by
  rw [run_sliceAt_slice w _ _ _ _ _ under_ps, run_slice_h w _ A len cap under_ps k j (by omega) (by omega), size_ps]
  simp [Result.andThen]

/-- Records that a call gives: a slice of new slices. -/
def Recs (l : List (List Int)) (n : Nat) (w : World) (e : Ending) (w' : World) : Prop :=
  ∃ A cap ps, e = .returned (.tuple #[.slice A (List.length ps) cap, .int .i64 n]) ∧ tx ps = l ∧ SlB w' A cap ps ∧ Below w.heap.size w w'
end Go.Proofs.YthdpipllighegaaDoor.LogB
