/- What slices.Grow of no slice, and slices.Concat of two, return at commits: contracts. No condition but sizes. | As GrowL, where operations that act need not wait for one another: of these every order is walked, as a tree; what only reads is taken first. No condition. | An event, an operation and a result's cell, boxed; slices of two. No condition. | What comes next, told by numbers of 64 bits. No condition. -/
import Derived.Test.YtechkdhehipliaaGreatDoorRowGJ8
import Derived.Lib.AppendZeros
import Derived.Lib.Walk
import Derived.Test.YtechkdhehipliaaGreatDoorDhPJ2
import Derived.Test.YtechkdhehipliaaGreatDoorDgGJ4
import Derived.Test.YtechkdhehipliaaGreatDoorRowSJ3
import Derived.Test.YtechkdhehipliaaGreatDoorFrAJ5
namespace Go.Proofs.YtechkdhehipliaaGreatDoor.FrX
set_option maxRecDepth 100000
open Go Go.Sort Go.RowKit Byt IdM IdW OpsM OpsW RowS CmM StW CmW CmX CmY DgW

set_option maxRecDepth 100000 in
set_option maxHeartbeats 4000000 in
theorem grow_ret (n : Nat) (hn : n ≤ 1000) (w : World) : Calls Tryz.prog 98 #[.slice none 0 0, .int .i64 n] w fun e w' => ∃ v, e = .returned v ∧ w'.ownsRow w.heap.size 38 8 v 0 (RowS.flat KE []) ∧ Below w.heap.size w w' := by
  by_cases h0 : n = 0
  · subst h0
    go_enter Tryz.func98, Tryz.ntmps98
    go_wp2_with (first | go_skip)
    go_ret
    exact ⟨_, rfl, ⟨rfl, .inl ⟨rfl, rfl⟩⟩, Below.refl _ _⟩
  · obtain ⟨i, hi, z0, z1, z2⟩ := info_parts KE.info
    have h1 : ¬ ((n : Int) < 0) := by omega
    have h4 : (0 : Int) < n := by omega
    have hw : IntKind.i64.wrap (n : Int) = n := by rw [IntKind.wrap_i64]; omega
    have hrz : ∀ ty, (Builtin.append_ #[22, 3] ty #[.slice none 0 0, .int .i64 n]).run Tryz.prog w =
        .ok (.slice (some ⟨w.heap.size, 0, none⟩) n (grownCap w n 0 38)) (w.drew.alloc (.cells (Builtin.zeroCells (Value.agg (KE.enc KE.zero).toArray).cells n ++ Builtin.zeroCells (Value.agg (KE.enc KE.zero).toArray).cells (grownCap w n 0 38 - n)) 38)) := fun ty =>
      Lib.run_append_nil_zeros w 22 3 ty 38 i (.agg (KE.enc KE.zero).toArray) .i64 .i64 Tryz.underlying22 Tryz.underlying3 hi z0 n (by omega) (by rw [z1]; show 0 < 8; omega) (by omega) (by rw [z2]; show n * 96 ≤ _; omega)
    have hge := grownCap_ge w n 0 38
    have hle := grownCap_le_maxLen w n 0 38 (by unfold maxLen; omega)
    obtain ⟨G, hG⟩ : ∃ G, grownCap w n 0 38 = G := ⟨_, rfl⟩
    rw [hG] at hrz hge hle
    obtain ⟨Z, hZ⟩ : ∃ Z, Builtin.zeroCells (Value.agg (KE.enc KE.zero).toArray).cells n ++ Builtin.zeroCells (Value.agg (KE.enc KE.zero).toArray).cells (G - n) = Z := ⟨_, rfl⟩
    have hz : Z.size = G * 8 := by
      rw [← hZ]
      simp [Builtin.zeroCells, Value.cells, KE]
      omega
    rw [hZ] at hrz
    have own : (w.drew.alloc (.cells Z 38)).ownsRow w.heap.size 38 8 (.slice (some ⟨w.drew.heap.size, 0, none⟩) 0 G) 0 [] :=
      World.ownsRow_made w.drew _ G (Nat.le_refl _) hle hz
    have kb : Below w.heap.size w (w.drew.alloc (.cells Z 38)) := (below_drew1 (Below.refl _ _)).alloc (Nat.le_refl _) _
    have own' : (w.drew.alloc (.cells Z 38)).ownsRow w.heap.size 38 8 (.slice (some ⟨w.heap.size, 0, none⟩) 0 G) 0 (RowS.flat KE []) := own
    obtain ⟨W, hW⟩ : ∃ W, w.drew.alloc (.cells Z 38) = W := ⟨_, rfl⟩
    rw [hW] at hrz own' kb
    have hmax : (G : Int) ≤ 9223372036854775807 := by unfold maxLen at hle; omega
    clear hG own hz hW hZ
    go_enter Tryz.func98, Tryz.ntmps98
    go_wp2_with (first | go_skip | (at_builtin; refine Lib.wpList_append_run _ rfl _ _ _ _ rfl _ _ rfl rfl _ _ (hrz _) ?_))
    go_ret
    exact ⟨_, rfl, own', kb⟩
set_option maxRecDepth 100000 in
set_option maxHeartbeats 8000000 in
theorem concat_ret (g : Nat) (A0 : Option Addr) (k0 : Nat) (l0 : List Cv) (A1 : Option Addr) (k1 : Nat) (l1 : List Cv) (w : World)
    (c0 : w.cell? ⟨g, 0, none⟩ = some (.slice A0 l0.length k0)) (c1 : w.cell? ⟨g, 1, none⟩ = some (.slice A1 l1.length k1))
    (S0 : SlR KE w A0 k0 l0) (S1 : SlR KE w A1 k1 l1) (hn : l0.length + l1.length ≤ 1000) (cap : Nat) :
    Calls Tryz.prog 72 #[.slice (some ⟨g, 0, none⟩) 2 cap] w (NewR KE (l0 ++ l1) w) := by
  have cg : ∀ W, Calls Tryz.prog 98 #[.slice none 0 0, .int .i64 ((l0.length : Int) + l1.length)] W fun e w' => ∃ v, e = .returned v ∧ w'.ownsRow W.heap.size 38 8 v 0 (RowS.flat KE []) ∧ Below W.heap.size W w' := fun W => by
    have := grow_ret (l0.length + l1.length) (by omega) W
    simpa using this
  go_enter Tryz.func72, Tryz.ntmps72
  go_wp2_with (first | go_skip)
  refine wp_loop_rounds 3 ?_
  rw [rounds_succ]
  go_wp2_with (first | go_skip)
  rw [rounds_succ]
  go_wp2_with (first | go_skip)
  rw [rounds_succ]
  go_wp2_with (first | go_skip)
  refine (cg _).mono ?_
  rintro _ w1 ⟨v1, rfl, own1, b1⟩
  have z0 := b1.cell (block_lt_of_cell c0) |>.trans c0
  have z1 := b1.cell (block_lt_of_cell c1) |>.trans c1
  have T0 := S0.below b1
  have T1 := S1.below b1
  clear cg
  go_wp2_with (first | go_skip)
  refine wp_loop_rounds 3 ?_
  rw [rounds_succ]
  go_wp2_with (first | go_skip | (refine RowS.wpList_append KE rfl (.tmp 31) (.tmp 32) rfl w.heap.size _ 0 [] rfl own1 A0 _ k0 l0 rfl rfl T0 (by omega) b1.size ?_; intro v2 w2 own2 g2))
  have b2 := below_grown b1 b1.size g2 (fun q hq => (own1.lt q hq).1)
  clear z0
  have z1' := b2.cell (block_lt_of_cell c1) |>.trans c1
  have U1 := S1.below b2
  clear z1 T0 T1 g2 own1
  rw [rounds_succ]
  go_wp2_with (first | go_skip | (refine RowS.wpList_append KE rfl (.tmp 31) (.tmp 32) rfl w.heap.size _ _ ([] ++ l0) rfl own2 A1 _ k1 l1 rfl rfl U1 (by omega) b2.size ?_; intro v3 w3 own3 g3))
  have b3 := below_grown b2 b2.size g3 (fun q hq => (own2.lt q hq).1)
  clear z1' U1 g3 own2
  rw [rounds_succ]
  go_wp2_with (first | go_skip)
  go_ret
  refine ⟨_, rfl, ?_, b3⟩
  have e : ([] ++ l0) ++ l1 = l0 ++ l1 := by simp
  rw [e] at own3
  have hl : 0 + l0.length + l1.length = (l0 ++ l1).length := by simp
  rw [← hl]
  exact own3
end Go.Proofs.YtechkdhehipliaaGreatDoor.FrX
namespace Go.Proofs.YtechkdhehipliaaGreatDoor.GrowT
set_option maxRecDepth 100000
open Go Go.Sort Go.RowKit GrowL
open Forks (Tree One)

section
variable {P : Program} {ops : Array Oper} {Q : Exit → Act → World → Prop} {md : Region.Mode}

/-- What is asked of a tree. -/
def treeB (L : Nat) (md : Region.Mode) (ops : Array Oper) : Tree → Array Bool → Bool
  | .ends, listed => (Region.ready md ops listed).isEmpty
  | .free i t, listed => ((Region.ready md ops listed).contains i && Region.free md ops listed i && ((ops[i]?).map GrowL.plain).getD false && GrowL.ahead md ops i ops.size L) && treeB L md ops t (listed.setIfInBounds i true)
  | .act i t, listed => Region.ready md ops listed == [i] && treeB L md ops t (listed.setIfInBounds i true)
  | .two i t j u, listed => Region.ready md ops listed == [i, j] && (t.size == u.size && (treeB L md ops t (listed.setIfInBounds i true) && treeB L md ops u (listed.setIfInBounds j true)))
/-- What is asked of each operation, in these orders. -/
def Seq (L : Nat) (P : Program) (ops : Array Oper) (Q : Exit → Act → World → Prop) : Tree → Act → World → Prop
  | .ends, a, w => Q .normal a w
  | .free i t, a, w => ∃ o, ops[i]? = some o ∧ ∃ v, YieldsIf P ops (Below w.heap.size w) o v a ∧ Seq L P ops Q t (a.put o.dst v) w
  | .act i t, a, w => One P ops Q i (fun a' w' => Below w.heap.size w w' ∧ Seq L P ops Q t a' w') a w ∨ (i = L ∧ One P ops Q i (fun a' w' => Seq L P ops Q t a' w') a w)
  | .two i t j u, a, w => One P ops Q i (fun a' w' => Below w.heap.size w w' ∧ Seq L P ops Q t a' w') a w ∧ One P ops Q j (fun a' w' => Below w.heap.size w w' ∧ Seq L P ops Q u a' w') a w

theorem seq_M {L : Nat} (hs : Region.noSelect ops = true) (hQ : ∀ c a d v w, Q (.panic c) (a.put d v) w → Q (.panic c) a w) : ∀ (t : Tree) (listed : Array Bool) (a : Act) (w : World), Shut md ops listed →
    treeB L md ops t listed = true → Seq L P ops Q t a w → M L P md ops Q t.size listed a w
  | .ends, listed, a, w, _, hB, h => ⟨by simpa [treeB] using hB, h⟩
  | .free i t, listed, a, w, hS, hB, ⟨o, ho, v, hy, h⟩ => by
    simp only [treeB, Bool.and_eq_true] at hB
    obtain ⟨⟨⟨⟨h1, h2⟩, _⟩, h3⟩, h4⟩ := hB
    have hr : i ∈ Region.ready md ops listed := by simpa using h1
    exact M.first ho hs h3 (fun c a w => hQ c a o.dst v w) t.size listed a w hS (Region.free_spec ho h2) hr hy (seq_M hs hQ t _ _ _ (hS.set hr) h4 h)
  | .act i t, listed, a, w, hS, hB, h => by
    simp only [treeB, Bool.and_eq_true, beq_iff_eq] at hB
    obtain ⟨h1, h4⟩ := hB
    have hS' : Shut md ops (listed.setIfInBounds i true) := hS.set (by rw [h1]; simp)
    refine ⟨fun h0 => (by rw [h1] at h0; cases h0), fun j hj => ?_⟩
    rw [h1] at hj
    obtain rfl : j = i := by simpa using hj
    rcases h with h | ⟨e, h⟩
    · exact h.op (fun a' w' hh => ⟨fun _ => hh.1, seq_M hs hQ t _ _ _ hS' h4 hh.2⟩)
    · exact h.op (fun a' w' hh => ⟨fun hne => absurd e hne, seq_M hs hQ t _ _ _ hS' h4 hh⟩)
  | .two i t j u, listed, a, w, hS, hB, h => by
    simp only [treeB, Bool.and_eq_true, beq_iff_eq] at hB
    obtain ⟨h1, h2, h3, h4⟩ := hB
    have hI : Shut md ops (listed.setIfInBounds i true) := hS.set (by rw [h1]; simp)
    have hJ : Shut md ops (listed.setIfInBounds j true) := hS.set (by rw [h1]; simp)
    refine ⟨fun h0 => (by rw [h1] at h0; cases h0), fun k hk => ?_⟩
    rw [h1] at hk
    obtain rfl | rfl : k = i ∨ k = j := by simpa using hk
    · exact h.1.op (fun a' w' hh => ⟨fun _ => hh.1, seq_M hs hQ t _ _ _ hI h3 hh.2⟩)
    · exact h.2.op (fun a' w' hh => ⟨fun _ => hh.1, by rw [h2]; exact seq_M hs hQ u _ _ _ hJ h4 hh.2⟩)

/-- These orders serve every order. -/
theorem region (L : Nat) {id : Nat} {a : Act} {w : World} {l : List Oper} (t : Tree) (hm : P.follows .mixedOrders = true) (hs : Region.noSelect l.toArray = true)
    (hl : t.size = l.toArray.size) (hB : treeB L .any l.toArray t (Array.replicate l.toArray.size false) = true) (hQ : ∀ c a d v w, Q (.panic c) (a.put d v) w → Q (.panic c) a w)
    (h : Seq L P l.toArray Q t a w.drew) : (Code.region id l.toArray true).wp P Q a w := by
  refine wp_region_any hm (M.any (L := L) _ _ _ _ ?_)
  have := seq_M (md := .any) hs hQ t (Array.replicate l.toArray.size false) a w.drew (Shut.none _) hB h
  rw [hl] at this
  exact this

/-- One operation that only reads: in every world that grew from this one it yields one and the same. -/
theorem reads {L : Nat} {l : List Oper} {i : Nat} {o : Oper} {t : Tree} {a : Act} {w : World} (hn : Grow.nth l i = some o) (hp : Grow.plain o = true)
    (h : wpQuiet P l.toArray (fun w' => ∃ p : Regrown, w' = grow (redrawn w p.d) p.os) (fun a' => Seq L P l.toArray Q t a' w) [o] a) : Seq L P l.toArray Q (.free i t) a w := by
  have ho := (Grow.nth_at l i).trans hn
  unfold wpQuiet at h
  split at h
  · rename_i hw
    obtain ⟨v, h1, h2⟩ := h
    refine ⟨o, ho, v, .inl ⟨hw, fun u hu => ?_⟩, h2⟩
    have q := h1 u (regrown_of_below hu)
    unfold Oper.quietAt at q
    cases hx : (execOp a.eval o).run P u with
    | ok n u' =>
      obtain ⟨x, rfl⟩ := Grow.plain_value hp hx
      rw [hx] at q
      obtain ⟨rfl, rfl⟩ := q
      rfl
    | halt x u' => rw [hx] at q; exact q.elim
  · rename_i hw
    exact ⟨o, ho, undef, .inr ⟨by simpa using hw, rfl⟩, h⟩
/-- What follows an operation that leaves all that was there. -/
def On (L : Nat) (P : Program) (ops : Array Oper) (Q : Exit → Act → World → Prop) (t : Tree) (w : World) (a' : Act) (w' : World) : Prop := Below w.heap.size w w' ∧ Seq L P ops Q t a' w'
/-- One operation that acts, and waits for all others but those behind it. -/
theorem acts {L : Nat} {l : List Oper} {i : Nat} {o : Oper} {t : Tree} {a : Act} {w : World} (hn : Grow.nth l i = some o)
    (h : wpList P l.toArray (Exit.then (On L P l.toArray Q t w) Q) [o] a w) : Seq L P l.toArray Q (.act i t) a w :=
  .inl ⟨o, (Grow.nth_at l i).trans hn, h⟩
/-- Two that act, in either order. -/
theorem forks {L : Nat} {l : List Oper} {i j : Nat} {o p : Oper} {t u : Tree} {a : Act} {w : World} (hn : Grow.nth l i = some o) (hm : Grow.nth l j = some p)
    (h : wpList P l.toArray (Exit.then (On L P l.toArray Q t w) Q) [o] a w) (h' : wpList P l.toArray (Exit.then (On L P l.toArray Q u w) Q) [p] a w) : Seq L P l.toArray Q (.two i t j u) a w :=
  ⟨⟨o, (Grow.nth_at l i).trans hn, h⟩, ⟨p, (Grow.nth_at l j).trans hm, h'⟩⟩
/-- The last operation: it may write what was there. -/
theorem last {L : Nat} {l : List Oper} {o : Oper} {a : Act} {w : World} (hn : Grow.nth l L = some o)
    (h : wpList P l.toArray (Exit.then (Done Q) Q) [o] a w) : Seq L P l.toArray Q (.act L .ends) a w :=
  .inr ⟨rfl, o, (Grow.nth_at l L).trans hn, h⟩
/-- What follows operation L, where others wait for it. -/
def Mid (L : Nat) (P : Program) (ops : Array Oper) (Q : Exit → Act → World → Prop) (t : Tree) (a' : Act) (w' : World) : Prop := Seq L P ops Q t a' w'
theorem mid {L : Nat} {l : List Oper} {o : Oper} {t : Tree} {a : Act} {w : World} (hn : Grow.nth l L = some o)
    (h : wpList P l.toArray (Exit.then (Mid L P l.toArray Q t) Q) [o] a w) : Seq L P l.toArray Q (.act L t) a w :=
  .inr ⟨rfl, o, (Grow.nth_at l L).trans hn, h⟩
theorem on_mid {L : Nat} {t : Tree} {a : Act} {w : World} (h : Seq L P ops Q t a w) : Mid L P ops Q t a w := h
theorem ends {L : Nat} {a : Act} {w : World} (h : Q .normal a w) : Seq L P ops Q .ends a w := h
end
end Go.Proofs.YtechkdhehipliaaGreatDoor.GrowT
namespace Go.Proofs.YtechkdhehipliaaGreatDoor.FrY
set_option maxRecDepth 100000
open Go Go.Sort Go.RowKit Byt IdM IdW OpsM OpsW CmM StW CmW CmX CmY DgM DgW

/-- How an operation lies in memory. -/
def OE : Cel.Cel Opn where
  T := 36
  k := 4
  bytes := 48
  d := _
  enc o := [.int .i64 o.kind, .string o.key, .string o.elem, .int .i64 o.n]
  zero := noO
  len _ := rfl
  one c v hv := by
    simp only [List.mem_cons, List.not_mem_nil, or_false] at hv
    rcases hv with rfl | rfl | rfl | rfl <;> rfl
  pos := by omega
  info := by kernel_rfl
  under := Tryz.underlying36
  row := rfl
def W3 (w : World) (e : Ev) (o : Opn) : World := ((w.alloc (.cells (ec e) 34)).alloc (.cells (opc o) 36)).alloc (.cells #[.int .i64 0, .int .i64 0, .int .i64 0, .slice none 0 0, .int .i64 0, .string ⟨#[]⟩, .string ⟨#[]⟩, .int .i64 0] 38)
theorem W3_below (w : World) (e : Ev) (o : Opn) : Below w.heap.size w (W3 w e o) := (((Below.refl _ _).alloc (Nat.le_refl _) _).alloc (by simp) _).alloc (by simp; omega) _
theorem W3_boxes (w : World) (e : Ev) (o : Opn) : Cel.Box EE (W3 w e o) w.heap.size e ∧ Cel.Box OE (W3 w e o) (w.heap.size + 1) o ∧ Cel.Box CE (W3 w e o) (w.heap.size + 1 + 1) noV := by
  have z1 : (w.alloc (.cells (ec e) 34)).heap.size = w.heap.size + 1 := by simp
  have z2 : ((w.alloc (.cells (ec e) 34)).alloc (.cells (opc o) 36)).heap.size = w.heap.size + 1 + 1 := by simp
  refine ⟨((Cel.Box.new (E := EE) w e 34).alloc _).alloc _, ?_, ?_⟩
  · rw [← z1]
    exact (Cel.Box.new (E := OE) _ o 36).alloc _
  · rw [← z2]
    exact Cel.Box.new (E := CE) _ noV 38
/-- An event and an operation alone. -/
def W2 (w : World) (e : Ev) (o : Opn) : World := (w.alloc (.cells (ec e) 34)).alloc (.cells (opc o) 36)
theorem W2_below (w : World) (e : Ev) (o : Opn) : Below w.heap.size w (W2 w e o) := ((Below.refl _ _).alloc (Nat.le_refl _) _).alloc (by simp) _
theorem W2_boxes (w : World) (e : Ev) (o : Opn) : Cel.Box EE (W2 w e o) w.heap.size e ∧ Cel.Box OE (W2 w e o) (w.heap.size + 1) o := by
  have z1 : (w.alloc (.cells (ec e) 34)).heap.size = w.heap.size + 1 := by simp
  refine ⟨(Cel.Box.new (E := EE) w e 34).alloc _, ?_⟩
  rw [← z1]
  exact Cel.Box.new (E := OE) _ o 36
theorem two_cells (w : World) (x y : Value) (t : TypeId) : (w.alloc (.cells #[x, y] t)).cell? ⟨w.heap.size, 0, none⟩ = some x ∧ (w.alloc (.cells #[x, y] t)).cell? ⟨w.heap.size, 1, none⟩ = some y := by
  constructor
  · rw [cell_of_row _ _ 0 _ t (0, 0) (heap_alloc_new w _)]
    rfl
  · rw [cell_of_row _ _ 1 _ t (0, 0) (heap_alloc_new w _)]
    rfl
/-- A commit put together out of an event, a generation, parents and an operation. -/
theorem build_com4 (ev : Ev) (g : Int) (A : Option Addr) (n k : Nat) (o : Opn) (w : World) : (Instr.build 38 #[(0, .agg (EE.enc ev).toArray), (1, .int .i64 g), (2, .slice A n k), (3, .agg (OE.enc o).toArray)]).run Tryz.prog w = .ok (.agg #[.int .i64 ev.node, .int .i64 ev.seq, .int .i64 g, .slice A n k, .int .i64 o.kind, .string o.key, .string o.elem, .int .i64 o.n]) w := by kernel_rfl
theorem quiet_build4 {a : Act} {o : Oper} {K : Act → Prop} {w : World} (x y z u : Operand) (ho : o.op = .build 38 #[(0, x), (1, y), (2, z), (3, u)]) (X Y Z U v : Value) (hx : a.eval x = X) (hy : a.eval y = Y) (hz : a.eval z = Z) (hu : a.eval u = U)
    (hb : ∀ W, (Instr.build 38 #[(0, X), (1, Y), (2, Z), (3, U)]).run Tryz.prog W = .ok v W) (hk : K (a.put o.dst v)) : o.quiet Tryz.prog a (fun w' => ∃ p : Regrown, w' = grow (redrawn w p.d) p.os) K := by
  refine ⟨v, fun u hu' => ?_, hk⟩
  unfold Oper.quietAt execOp
  simp only [ho, List.map_toArray, List.map_cons, List.map_nil, hx, hy, hz, hu, Sem.run_bind, hb u, Result.andThen_ok, Sem.run_pure]
  exact ⟨rfl, rfl⟩
/-- Two rows one behind the other, as one. -/
theorem sl_both {w : World} {base n : Nat} {v : Value} {l m : List Cv} (h : w.ownsRow base 38 8 v n (RowS.flat KE (l ++ m))) (hl : ∀ x ∈ l, CmW.In w x ∧ Fit x.c) (hm : ∀ x ∈ m, CmW.In w x ∧ Fit x.c) :
    ∃ A cap, v = .slice A (l ++ m).length cap ∧ SlK w A cap (l ++ m) := by
  obtain ⟨A, cap, e, S⟩ := RowS.SlR.own (E := KE) h
  refine ⟨A, cap, e, S, fun x hx => ?_⟩
  rcases List.mem_append.1 hx with hx | hx
  · exact hl x hx
  · exact hm x hx
theorem coms_one (l : List Cv) (x : Cv) : coms (l ++ [x]) = coms l ++ [x.c] := by unfold coms; rw [List.map_append]; rfl
end Go.Proofs.YtechkdhehipliaaGreatDoor.FrY
namespace Go.Proofs.YtechkdhehipliaaGreatDoor.FrZ
set_option maxRecDepth 100000
open Go Go.Sort Go.RowKit Byt IdM IdW OpsM OpsW CmM StW CmW CmX CmY DgM DgX DgW FrM FrN FrH FrK
open Classical

theorem most_bound {l : List Com} (h : ∀ c ∈ l, I64 c.gen) : 0 ≤ most (l.map (·.gen)) ∧ most (l.map (·.gen)) ≤ 9223372036854775807 := by
  refine ⟨most_nonneg _, most_le (by omega) fun g hg => ?_⟩
  obtain ⟨c, hc, rfl⟩ := List.mem_map.1 hg
  have := h c hc
  unfold I64 at this
  show c.gen ≤ _
  omega
theorem most_small {l : List Com} (C : Closed hashK l) : most (l.map (·.gen)) ≤ l.length := most_le (by omega) fun g hg => by
  obtain ⟨c, hc, rfl⟩ := List.mem_map.1 hg
  exact (gen_len C c hc).2
theorem wrap_one (n : Int) : I64 (IntKind.i64.wrap n) := by
  unfold I64
  rw [IntKind.wrap_i64]
  omega
/-- What comes next, as a program finds it whose numbers are of 64 bits. -/
theorem next_wrap {l : List Com} {ev : Ev} {o : Opn} (hf : ∀ c ∈ l, I64 c.gen) (hl : l.length ≤ 1000) :
    nextC l ev o = if Closed hashK (l ++ [⟨ev.node, ev.seq, IntKind.i64.wrap (most (l.map (·.gen)) + 1), frontC l, o⟩]) then some ⟨ev.node, ev.seq, IntKind.i64.wrap (most (l.map (·.gen)) + 1), frontC l, o⟩ else none := by
  obtain ⟨h0, h1⟩ := most_bound hf
  refine next_if (fun C => ⟨?_, by rw [frontC, if_pos C]⟩) fun _ D d hd => ?_
  · have := most_small C
    rw [IntKind.wrap_i64]
    omega
  · have h2 := (lineB_iff.1 (mayK_iff.1 (D.may _ (List.mem_append_right _ (List.mem_singleton_self _)))).1).1
    have h3 := le_most (List.mem_map_of_mem (f := (·.gen)) hd)
    have h2 : 1 ≤ IntKind.i64.wrap (most (l.map (·.gen)) + 1) := h2
    rw [IntKind.wrap_i64] at h2 ⊢
    have h3 : d.gen ≤ most (l.map (·.gen)) := h3
    omega
/-- What comes next, as the document's answer finds it: closed, one that may be, and closed with it. -/
theorem next_three {l : List Com} {ev : Ev} {o : Opn} (hl : l.length ≤ 1000) :
    nextC l ev o = if (decide (Closed hashK l) && (mayK ⟨ev.node, ev.seq, IntKind.i64.wrap (most (l.map (·.gen)) + 1), frontC l, o⟩ && decide (Closed hashK (l ++ [⟨ev.node, ev.seq, IntKind.i64.wrap (most (l.map (·.gen)) + 1), frontC l, o⟩])))) = true
      then some ⟨ev.node, ev.seq, IntKind.i64.wrap (most (l.map (·.gen)) + 1), frontC l, o⟩ else none := by
  by_cases C : Closed hashK l
  · have h0 := most_nonneg (l.map (·.gen))
    have h1 := most_small C
    have e : IntKind.i64.wrap (most (l.map (·.gen)) + 1) = most (l.map (·.gen)) + 1 := by rw [IntKind.wrap_i64]; omega
    have f : frontC l = front hashK l := by rw [frontC, if_pos C]
    rw [e, f]
    unfold nextC next
    by_cases h : mayK (nextK hashK l ev.node ev.seq o) = true ∧ Closed hashK (l ++ [nextK hashK l ev.node ev.seq o])
    · rw [if_pos ⟨C, h⟩, if_pos (by rw [decide_eq_true C, Bool.true_and, Bool.and_eq_true, decide_eq_true_eq]; exact h)]
      rfl
    · rw [if_neg fun k => h k.2, if_neg (by rw [decide_eq_true C, Bool.true_and, Bool.and_eq_true, decide_eq_true_eq]; exact h)]
  · rw [decide_eq_false C, Bool.false_and, if_neg (by decide)]
    unfold nextC next
    rw [if_neg fun k => C k.1]
theorem next_some {l : List Com} {ev : Ev} {o : Opn} {c : Com} (h : nextC l ev o = some c) : Closed hashK l ∧ Closed hashK (l ++ [c]) ∧ c.ps = front hashK l ∧ c.node = ev.node ∧ c.seq = ev.seq ∧ c.op = o := by
  unfold nextC next at h
  by_cases k : Closed hashK l ∧ mayK (nextK hashK l ev.node ev.seq o) = true ∧ Closed hashK (l ++ [nextK hashK l ev.node ev.seq o])
  · rw [if_pos k] at h
    obtain rfl := Option.some.inj h
    exact ⟨k.1, k.2.2, rfl, rfl, rfl, rfl⟩
  · rw [if_neg k] at h
    cases h
end Go.Proofs.YtechkdhehipliaaGreatDoor.FrZ
