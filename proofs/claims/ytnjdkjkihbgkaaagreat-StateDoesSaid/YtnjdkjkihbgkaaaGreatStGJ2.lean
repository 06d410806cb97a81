/- What slices.Grow of no slice, and slices.Concat of three slices of bytes, return: contracts. No condition but sizes. | As Grow, where only what lies below a given block stays as it was: a region that draws its order, whose calls and appends wait for one another, and whose other operations read no memory. No condition. -/
import Derived.Test.YtnjdkjkihbgkaaaGreatPairNJ2
import Derived.Lib.AppendZeros
import Derived.Lib.Walk
import Derived.Test.YtnjdkjkihbgkaaaGreatGrow
namespace Go.Proofs.YtnjdkjkihbgkaaaGreat.StG
set_option maxRecDepth 100000
open Go Go.RowKit Byt

set_option maxRecDepth 100000 in
set_option maxHeartbeats 4000000 in
theorem grow_ret (n : Nat) (hn : n ≤ 1099511627776) (w : World) : Calls Tryz.prog 83 #[.slice none 0 0, .int .i64 n] w fun e w' => ∃ v, e = .returned v ∧ w'.ownsRow w.heap.size 5 1 v 0 (bv []) ∧ Below w.heap.size w w' := by
  by_cases h0 : n = 0
  · subst h0
    go_enter Tryz.func83, Tryz.ntmps83
    go_wp2_with (first | go_skip)
    go_ret
    exact ⟨_, rfl, ⟨rfl, .inl ⟨rfl, rfl⟩⟩, Below.refl _ _⟩
  · obtain ⟨i, hi, z0, z1, z2⟩ := info_parts zero_u8
    have h1 : ¬ ((n : Int) < 0) := by omega
    have h4 : (0 : Int) < n := by omega
    have hw : IntKind.i64.wrap (n : Int) = n := by rw [IntKind.wrap_i64]; omega
    have hrz : ∀ ty, (Builtin.append_ #[37, 3] ty #[.slice none 0 0, .int .i64 n]).run Tryz.prog w =
        .ok (.slice (some ⟨w.heap.size, 0, none⟩) n (grownCap w n 0 5)) (w.drew.alloc (.cells (Builtin.zeroCells #[.int .u8 0] n ++ Builtin.zeroCells #[.int .u8 0] (grownCap w n 0 5 - n)) 5)) := fun ty =>
      Lib.run_append_nil_zeros w 37 3 ty 5 i (.int .u8 0) .i64 .i64 Tryz.underlying37 Tryz.underlying3 hi z0 n (by omega) (by rw [z1]; omega) (by omega) (by rw [z2]; omega)
    have hge := grownCap_ge w n 0 5
    have hle := grownCap_le_maxLen w n 0 5 (by unfold maxLen; omega)
    obtain ⟨G, hG⟩ : ∃ G, grownCap w n 0 5 = G := ⟨_, rfl⟩
    rw [hG] at hrz hge hle
    have hz : (Builtin.zeroCells #[.int .u8 0] n ++ Builtin.zeroCells #[.int .u8 0] (G - n)).size = G * 1 := by
      simp [Builtin.zeroCells]
      omega
    have own : (w.drew.alloc (.cells (Builtin.zeroCells #[.int .u8 0] n ++ Builtin.zeroCells #[.int .u8 0] (G - n)) 5)).ownsRow w.heap.size 5 1 (.slice (some ⟨w.drew.heap.size, 0, none⟩) 0 G) 0 [] :=
      World.ownsRow_made w.drew _ G (Nat.le_refl _) hle hz
    have kb : Below w.heap.size w (w.drew.alloc (.cells (Builtin.zeroCells #[.int .u8 0] n ++ Builtin.zeroCells #[.int .u8 0] (G - n)) 5)) := (below_drew1 (Below.refl _ _)).alloc (Nat.le_refl _) _
    have own' : (w.drew.alloc (.cells (Builtin.zeroCells #[.int .u8 0] n ++ Builtin.zeroCells #[.int .u8 0] (G - n)) 5)).ownsRow w.heap.size 5 1 (.slice (some ⟨w.heap.size, 0, none⟩) 0 G) 0 [] := own
    obtain ⟨W, hW⟩ : ∃ W, w.drew.alloc (.cells (Builtin.zeroCells #[.int .u8 0] n ++ Builtin.zeroCells #[.int .u8 0] (G - n)) 5) = W := ⟨_, rfl⟩
    rw [hW] at hrz own' kb
    have hmax : (G : Int) ≤ 9223372036854775807 := by unfold maxLen at hle; omega
    clear hG own hz hW
    go_enter Tryz.func83, Tryz.ntmps83
    go_wp2_with (first | go_skip | (at_builtin; refine Lib.wpList_append_run _ rfl _ _ _ _ rfl _ _ rfl rfl _ _ (hrz _) ?_))
    go_ret
    exact ⟨_, rfl, own', kb⟩
set_option maxRecDepth 100000 in
set_option maxHeartbeats 8000000 in
theorem concat_ret (g : Nat) (A0 : Option Addr) (k0 : Nat) (l0 : List Int) (A1 : Option Addr) (k1 : Nat) (l1 : List Int) (A2 : Option Addr) (k2 : Nat) (l2 : List Int) (w : World)
    (c0 : w.cell? ⟨g, 0, none⟩ = some (.slice A0 l0.length k0)) (c1 : w.cell? ⟨g, 1, none⟩ = some (.slice A1 l1.length k1)) (c2 : w.cell? ⟨g, 2, none⟩ = some (.slice A2 l2.length k2))
    (S0 : Sl w A0 k0 l0) (S1 : Sl w A1 k1 l1) (S2 : Sl w A2 k2 l2) (hn : l0.length + l1.length + l2.length ≤ 1000000000) (cap : Nat) :
    Calls Tryz.prog 43 #[.slice (some ⟨g, 0, none⟩) 3 cap] w (Byt.New (l0 ++ (l1 ++ l2)) w) := by
  have cg : ∀ W, Calls Tryz.prog 83 #[.slice none 0 0, .int .i64 ((l0.length : Int) + l1.length + l2.length)] W fun e w' => ∃ v, e = .returned v ∧ w'.ownsRow W.heap.size 5 1 v 0 (bv []) ∧ Below W.heap.size W w' := fun W => by
    have := grow_ret (l0.length + l1.length + l2.length) (by omega) W
    simpa using this
  go_enter Tryz.func43, Tryz.ntmps43
  go_wp2_with (first | go_skip)
  refine wp_loop_rounds 4 ?_
  rw [rounds_succ]
  go_wp2_with (first | go_skip)
  rw [rounds_succ]
  go_wp2_with (first | go_skip)
  rw [rounds_succ]
  go_wp2_with (first | go_skip)
  rw [rounds_succ]
  go_wp2_with (first | go_skip)
  refine (cg _).mono ?_
  rintro _ w1 ⟨v1, rfl, own1, b1⟩
  have z0 := b1.cell (block_lt_of_cell c0) |>.trans c0
  have z1 := b1.cell (block_lt_of_cell c1) |>.trans c1
  have z2 := b1.cell (block_lt_of_cell c2) |>.trans c2
  have T0 := S0.below b1
  have T1 := S1.below b1
  have T2 := S2.below b1
  clear cg
  go_wp2_with (first | go_skip)
  refine wp_loop_rounds 4 ?_
  rw [rounds_succ]
  go_wp2_with (first | go_skip | (refine wpList_append_sl rfl (.tmp 31) (.tmp 32) 37 rfl w.heap.size 5 Tryz.underlying37 zero_u8 _ _ [] rfl own1 A0 _ k0 l0 rfl rfl T0 (by omega) b1.size ?_; intro v2 w2 own2 g2))
  have b2 := below_grown b1 b1.size g2 (fun q hq => (own1.lt q hq).1)
  clear z0
  have z1' := b2.cell (block_lt_of_cell c1) |>.trans c1
  have z2' := b2.cell (block_lt_of_cell c2) |>.trans c2
  have U1 := S1.below b2
  have U2 := S2.below b2
  clear z1 z2 T0 T1 T2 g2 own1
  rw [rounds_succ]
  go_wp2_with (first | go_skip | (refine wpList_append_sl rfl (.tmp 31) (.tmp 32) 37 rfl w.heap.size 5 Tryz.underlying37 zero_u8 _ _ ([] ++ l0) rfl own2 A1 _ k1 l1 rfl rfl U1 (by omega) b2.size ?_; intro v3 w3 own3 g3))
  have b3 := below_grown b2 b2.size g3 (fun q hq => (own2.lt q hq).1)
  clear z1' z2'
  have z2 := b3.cell (block_lt_of_cell c2) |>.trans c2
  have X2 := S2.below b3
  clear U1 U2 g3 own2
  rw [rounds_succ]
  go_wp2_with (first | go_skip | (refine wpList_append_sl rfl (.tmp 31) (.tmp 32) 37 rfl w.heap.size 5 Tryz.underlying37 zero_u8 _ _ (([] ++ l0) ++ l1) rfl own3 A2 _ k2 l2 rfl rfl X2 (by omega) b3.size ?_; intro v4 w4 own4 g4))
  have b4 := below_grown b3 b3.size g4 (fun q hq => (own3.lt q hq).1)
  clear z2 X2 g4 own3
  rw [rounds_succ]
  go_wp2_with (first | go_skip)
  go_ret
  refine ⟨_, rfl, ?_, b4⟩
  have e : (([] ++ l0) ++ l1) ++ l2 = l0 ++ (l1 ++ l2) := by simp
  rw [e] at own4
  have hl : 0 + l0.length + l1.length + l2.length = (l0 ++ (l1 ++ l2)).length := by simp; omega
  rw [← hl]
  exact own4
end Go.Proofs.YtnjdkjkihbgkaaaGreat.StG
namespace Go.Proofs.YtnjdkjkihbgkaaaGreat.GrowB
set_option maxRecDepth 100000
open Go Go.Sort Go.RowKit

section
variable {P : Program} {ops : Array Oper} {Q : Exit → Act → World → Prop} {md : Region.Mode} {B : Nat}

/-- Whatever order is picked from here on, and each operation leaves all that was there as it was. -/
def M (B : Nat) (P : Program) (md : Region.Mode) (ops : Array Oper) (Q : Exit → Act → World → Prop) : Nat → Array Bool → Act → World → Prop
  | 0, listed, a, w => Region.ready md ops listed = [] ∧ Q .normal a w
  | fuel + 1, listed, a, w => (Region.ready md ops listed = [] → Q .normal a w) ∧
    ∀ i ∈ Region.ready md ops listed, wpOp P ops Q i (fun a' w' => Below B w w' ∧ M B P md ops Q fuel (listed.setIfInBounds i true) a' w') a w
theorem M.any : ∀ (fuel : Nat) (listed : Array Bool) (a : Act) (w : World), M B P md ops Q fuel listed a w → wpAny P md ops Q fuel listed a w
  | 0, _, _, _, h => h
  | fuel + 1, _, _, _, h => ⟨h.1, fun i hi => wpOp_mono (fun a' w' h' => M.any fuel _ a' w' h'.2) (h.2 i hi)⟩

/-- What reads in all worlds that grew from w reads in all that grew from one of these. -/
theorem later {o : Oper} {v : Value} {a : Act} {w w' : World} (h : YieldsIf P ops (Below B w) o v a) (hb : Below B w w') : YieldsIf P ops (Below B w') o v a :=
  h.imp (fun ⟨h1, h2⟩ => ⟨h1, fun u hu => h2 u (hb.trans hu)⟩) id

/-- An operation that only reads may come first. -/
theorem M.first {i : Nat} {oi : Oper} {v : Value} (hi : ops[i]? = some oi) (hs : Region.noSelect ops = true)
    (hQ : ∀ c a w, Q (.panic c) (a.put oi.dst v) w → Q (.panic c) a w) (fuel : Nat) :
    ∀ (listed : Array Bool) (a : Act) (w : World),
      (∀ j oj, ops[j]? = some oj → j ≠ i → listed.getD j true = false → (∀ e ∈ oj.after, Region.binds md e = true → e.on ≠ i) → oi.apart ops oj = true) →
      i ∈ Region.ready md ops listed → YieldsIf P ops (Below B w) oi v a →
      M B P md ops Q fuel (listed.setIfInBounds i true) (a.put oi.dst v) w → M B P md ops Q (fuel + 1) listed a w := by
  have sel := fun (j : Nat) (o : Oper) (cs : Array SelectCase) (b : Bool) (h : ops[j]? = some o) => Region.noSelect_spec hs j o cs b h
  induction fuel with
  | zero =>
    intro listed a w _ hr hy H
    refine ⟨fun h0 => absurd hr (by rw [h0]; simp), fun j hj => ?_⟩
    by_cases e : j = i
    · subst e
      exact hy.wpOp hi (Below.refl _ _) ⟨Below.refl _ _, H⟩
    · exact absurd (ready_mono hj e) (by rw [H.1]; simp)
  | succ fuel ih =>
    intro listed a w hf hr hy H
    refine ⟨fun h0 => absurd hr (by rw [h0]; simp), fun j hj => ?_⟩
    by_cases e : j = i
    · subst e
      exact hy.wpOp hi (Below.refl _ _) ⟨Below.refl _ _, H⟩
    · have hstep := H.2 j (ready_mono hj e)
      obtain ⟨hun, oj, hoj, hall⟩ := mem_ready.1 hj
      have hno : ∀ x ∈ oj.after, Region.binds md x = true → x.on ≠ i := by
        intro x hx hb hxi
        have p1 := hall x hx hb
        have p0 := (mem_ready.1 hr).1
        rw [hxi] at p1
        by_cases hlt : i < listed.size
        · simp [hlt] at p0 p1
          rw [p0] at p1
          cases p1
        · simp [Array.getElem?_eq_none (Nat.le_of_not_lt hlt)] at p1
      refine wpOp_mono (fun a' w' h3 => ⟨h3.2.1, ?_⟩) (wpOp_putIf hoj (hf j oj hoj e hun hno) (fun cs b => sel i oi cs b hi) (fun cs b => sel j oj cs b hoj) hQ hy hstep)
      obtain ⟨y1, y2, y3⟩ := h3
      refine ih (listed.setIfInBounds j true) a' w' (fun k ok hk hki hku hkn => hf k ok hk hki ?_ hkn) (ready_mono hr (fun h => e h.symm)) (later y1 y2) ?_
      · by_cases ejk : j = k
        · subst ejk; exact hun
        · rwa [getD_set_ne true ejk] at hku
      · rw [Array.setIfInBounds_comm _ _ e]
        exact y3

/-- What is asked of each operation, in that order. -/
def Seq (B : Nat) (P : Program) (ops : Array Oper) (Q : Exit → Act → World → Prop) : List (Nat × Bool) → Act → World → Prop
  | [], a, w => Q .normal a w
  | (i, true) :: r, a, w => ∃ o, ops[i]? = some o ∧ ∃ v, YieldsIf P ops (Below B w) o v a ∧ Seq B P ops Q r (a.put o.dst v) w
  | (i, false) :: r, a, w => ∃ o, ops[i]? = some o ∧ wpList P ops (Exit.then (fun a' w' => Below B w w' ∧ Seq B P ops Q r a' w') Q) [o] a w

theorem seq_M (hs : Region.noSelect ops = true) (hQ : ∀ c a d v w, Q (.panic c) (a.put d v) w → Q (.panic c) a w) : ∀ (l : List (Nat × Bool)) (listed : Array Bool) (a : Act) (w : World),
    Grow.orderB md ops l listed = true → Seq B P ops Q l a w → M B P md ops Q l.length listed a w
  | [], listed, a, w, hB, h => ⟨by simpa [Grow.orderB] using hB, h⟩
  | (i, true) :: r, listed, a, w, hB, ⟨o, ho, v, hy, h⟩ => by
    simp only [Grow.orderB, Bool.and_eq_true] at hB
    obtain ⟨⟨⟨h1, h2⟩, _⟩, h4⟩ := hB
    exact M.first ho hs (fun c a w => hQ c a o.dst v w) r.length listed a w (Region.free_spec ho h2) (by simpa using h1) hy (seq_M hs hQ r _ _ _ h4 h)
  | (i, false) :: r, listed, a, w, hB, ⟨o, ho, h⟩ => by
    simp only [Grow.orderB, Bool.and_eq_true, beq_iff_eq] at hB
    obtain ⟨h1, h4⟩ := hB
    refine ⟨fun h0 => (by rw [h1] at h0; cases h0), fun j hj => ?_⟩
    rw [h1] at hj
    obtain rfl : j = i := by simpa using hj
    unfold wpOp
    simp only [ho]
    unfold wpList at h
    split
    · rename_i hw
      rw [if_pos hw] at h
      rcases h with h | ⟨h, a', w', hl⟩
      · refine .inl ?_
        unfold Oper.wp at h ⊢
        generalize (execOp a.eval o).run P w = x at h ⊢
        have on : ∀ a' w', wpList P ops (Exit.then (fun a' w' => Below B w w' ∧ Seq B P ops Q r a' w') Q) [] a' w' → Below B w w' ∧ M B P md ops Q r.length (listed.setIfInBounds j true) a' w' := by
          intro a' w' hh
          unfold wpList at hh
          exact ⟨hh.1, seq_M hs hQ r _ _ _ h4 hh.2⟩
        cases x with
        | ok n u =>
          cases n <;> simp only [Oper.upon] at h ⊢
          case enter f args =>
            refine Calls.mono h fun e w'' he => ?_
            cases e with
            | returned v => exact on _ _ he
            | panicked c => exact he
            | outgrown => exact he
          case row row args => exact Rows.mono h fun v w'' he => on _ _ he
          all_goals exact on _ _ h
        | halt x u => cases x <;> simp only [Oper.upon] at h ⊢; exact h
      · exact .inr ⟨h, a', w', hl⟩
    · rename_i hw
      rw [if_neg hw] at h
      unfold wpList at h
      exact ⟨h.1, seq_M hs hQ r _ _ _ h4 h.2⟩

/-- One order serves every order. -/
theorem region (B : Nat) {id : Nat} {a : Act} {w : World} {l : List Oper} (order : List (Nat × Bool)) (hm : P.follows .mixedOrders = true) (hs : Region.noSelect l.toArray = true)
    (hl : order.length = l.toArray.size) (hB : Grow.orderB .any l.toArray order (Array.replicate l.toArray.size false) = true) (hQ : ∀ c a d v w, Q (.panic c) (a.put d v) w → Q (.panic c) a w)
    (h : Seq B P l.toArray Q order a w.drew) : (Code.region id l.toArray true).wp P Q a w := by
  refine wp_region_any hm (M.any (B := B) _ _ _ _ ?_)
  have := seq_M (md := .any) hs hQ order (Array.replicate l.toArray.size false) a w.drew hB h
  rw [hl] at this
  exact this

/-- One operation that reads no memory: in every world it yields one and the same. -/
theorem reads {l : List Oper} {i : Nat} {o : Oper} {r : List (Nat × Bool)} {a : Act} {w : World} (hn : Grow.nth l i = some o) (hp : Grow.plain o = true)
    (h : wpQuiet P l.toArray (fun w' => ∃ u : World, w' = u) (fun a' => Seq B P l.toArray Q r a' w) [o] a) : Seq B P l.toArray Q ((i, true) :: r) a w := by
  have ho := (Grow.nth_at l i).trans hn
  unfold wpQuiet at h
  split at h
  · rename_i hw
    obtain ⟨v, h1, h2⟩ := h
    refine ⟨o, ho, v, .inl ⟨hw, fun u hu => ?_⟩, h2⟩
    have q := h1 u ⟨u, rfl⟩
    unfold Oper.quietAt at q
    cases hx : (execOp a.eval o).run P u with
    | ok n u' =>
      obtain ⟨x, rfl⟩ := Grow.plain_value hp hx
      rw [hx] at q
      obtain ⟨rfl, rfl⟩ := q
      rfl
    | halt x u' => rw [hx] at q; exact q.elim
  · rename_i hw
    exact ⟨o, ho, undef, .inr ⟨by simpa using hw, rfl⟩, h⟩
/-- A world in which what lies below B is as in w. -/
structure UpTo (B : Nat) (w : World) where
  u : World
  h : Below B w u
instance (B : Nat) (w : World) : Inhabited (UpTo B w) := ⟨⟨w, Below.refl _ _⟩⟩
/-- One operation that reads what lies below B alone. -/
theorem reads_below {l : List Oper} {i : Nat} {o : Oper} {r : List (Nat × Bool)} {a : Act} {w : World} (hn : Grow.nth l i = some o) (hp : Grow.plain o = true)
    (h : wpQuiet P l.toArray (fun w' => ∃ p : UpTo B w, w' = p.u) (fun a' => Seq B P l.toArray Q r a' w) [o] a) : Seq B P l.toArray Q ((i, true) :: r) a w := by
  have ho := (Grow.nth_at l i).trans hn
  unfold wpQuiet at h
  split at h
  · rename_i hw
    obtain ⟨v, h1, h2⟩ := h
    refine ⟨o, ho, v, .inl ⟨hw, fun u hu => ?_⟩, h2⟩
    have q := h1 u ⟨⟨u, hu⟩, rfl⟩
    unfold Oper.quietAt at q
    cases hx : (execOp a.eval o).run P u with
    | ok n u' =>
      obtain ⟨x, rfl⟩ := Grow.plain_value hp hx
      rw [hx] at q
      obtain ⟨rfl, rfl⟩ := q
      rfl
    | halt x u' => rw [hx] at q; exact q.elim
  · rename_i hw
    exact ⟨o, ho, undef, .inr ⟨by simpa using hw, rfl⟩, h⟩
/-- What follows a call. -/
def On (B : Nat) (P : Program) (ops : Array Oper) (Q : Exit → Act → World → Prop) (r : List (Nat × Bool)) (w : World) (a' : Act) (w' : World) : Prop := Below B w w' ∧ Seq B P ops Q r a' w'
/-- One operation that acts: a call. -/
theorem acts {l : List Oper} {i : Nat} {o : Oper} {r : List (Nat × Bool)} {a : Act} {w : World} (hn : Grow.nth l i = some o)
    (h : wpList P l.toArray (Exit.then (On B P l.toArray Q r w) Q) [o] a w) : Seq B P l.toArray Q ((i, false) :: r) a w := ⟨o, (Grow.nth_at l i).trans hn, h⟩
theorem ends {a : Act} {w : World} (h : Q .normal a w) : Seq B P ops Q [] a w := h
end
end Go.Proofs.YtnjdkjkihbgkaaaGreat.GrowB
