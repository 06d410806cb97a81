/- As Grow, where the last operation may write what was there: it waits for all others. No condition. | What package state's own returns: a contract. -/
import Derived.Test.YtnjdkjkihbgkaaaGreatRegCJ3
import Derived.Test.YtnjdkjkihbgkaaaGreatRowGJ6
namespace Go.Proofs.YtnjdkjkihbgkaaaGreat.GrowL
set_option maxRecDepth 100000
open Go Go.Sort Go.RowKit

section
variable {P : Program} {ops : Array Oper} {Q : Exit → Act → World → Prop} {md : Region.Mode}

/-- Operation j waits for operation i, straight or by others. -/
def ahead (md : Region.Mode) (ops : Array Oper) (i : Nat) : Nat → Nat → Bool
  | 0, _ => false
  | fuel + 1, j => match ops[j]? with
    | none => false
    | some o => o.after.toList.any fun e => Region.binds md e && (e.on == i || ahead md ops i fuel e.on)
/-- What is listed has all listed that it waits for. -/
def Shut (md : Region.Mode) (ops : Array Oper) (listed : Array Bool) : Prop :=
  ∀ j o, ops[j]? = some o → listed.getD j false = true → ∀ e ∈ o.after, Region.binds md e = true → listed.getD e.on false = true
theorem Shut.none (n : Nat) : Shut md ops (Array.replicate n false) := fun j o _ hl => by
  by_cases h : j < n
  · simp [h] at hl
  · simp [h] at hl
theorem Shut.set {i : Nat} {listed : Array Bool} (h : Shut md ops listed) (hi : i ∈ Region.ready md ops listed) : Shut md ops (listed.setIfInBounds i true) := by
  intro j o ho hl e he hb
  refine getD_set_true ?_
  by_cases hij : i = j
  · subst hij
    obtain ⟨_, o', ho', hall⟩ := mem_ready.1 hi
    obtain rfl : o = o' := Option.some.inj (ho.symm.trans ho')
    exact hall e he hb
  · rw [getD_set_ne false hij] at hl
    exact h j o ho hl e he hb
theorem ahead_listed {i : Nat} {listed : Array Bool} (hS : Shut md ops listed) : ∀ (fuel j : Nat), ahead md ops i fuel j = true → (listed.getD j false = true ∨ j ∈ Region.ready md ops listed) → listed.getD i false = true
  | 0, _, h, _ => by simp [ahead] at h
  | fuel + 1, j, h, hj => by
    unfold ahead at h
    cases ho : ops[j]? with
    | none => rw [ho] at h; cases h
    | some o =>
      rw [ho] at h
      simp only [List.any_eq_true, Bool.and_eq_true, Bool.or_eq_true, beq_iff_eq] at h
      obtain ⟨e, he, hb, h⟩ := h
      have he : e ∈ o.after := Array.mem_toList_iff.1 he
      have hl : listed.getD e.on false = true := by
        rcases hj with hj | hj
        · exact hS j o ho hj e he hb
        · obtain ⟨_, o', ho', hall⟩ := mem_ready.1 hj
          obtain rfl : o = o' := Option.some.inj (ho.symm.trans ho')
          exact hall e he hb
      rcases h with h | h
      · rw [← h]; exact hl
      · exact ahead_listed hS fuel e.on h (.inl hl)
theorem not_both {i : Nat} {listed : Array Bool} (h1 : listed.getD i true = false) (h2 : listed.getD i false = true) : False := by
  by_cases hlt : i < listed.size
  · simp [hlt] at h1 h2
    rw [h1] at h2
    cases h2
  · simp [Array.getElem?_eq_none (Nat.le_of_not_lt hlt)] at h2

/-- Whatever order is picked from here on, and each operation but L leaves all that was there as it was. -/
def M (L : Nat) (P : Program) (md : Region.Mode) (ops : Array Oper) (Q : Exit → Act → World → Prop) : Nat → Array Bool → Act → World → Prop
  | 0, listed, a, w => Region.ready md ops listed = [] ∧ Q .normal a w
  | fuel + 1, listed, a, w => (Region.ready md ops listed = [] → Q .normal a w) ∧
    ∀ i ∈ Region.ready md ops listed, wpOp P ops Q i (fun a' w' => (i ≠ L → Below w.heap.size w w') ∧ M L P md ops Q fuel (listed.setIfInBounds i true) a' w') a w
theorem M.any {L : Nat} : ∀ (fuel : Nat) (listed : Array Bool) (a : Act) (w : World), M L P md ops Q fuel listed a w → wpAny P md ops Q fuel listed a w
  | 0, _, _, _, h => h
  | fuel + 1, _, _, _, h => ⟨h.1, fun i hi => wpOp_mono (fun a' w' h' => M.any fuel _ a' w' h'.2) (h.2 i hi)⟩

/-- An operation that only reads, and that L waits for, may come first. -/
theorem M.first {L i : Nat} {oi : Oper} {v : Value} (hi : ops[i]? = some oi) (hs : Region.noSelect ops = true) {af : Nat} (hA : ahead md ops i af L = true)
    (hQ : ∀ c a w, Q (.panic c) (a.put oi.dst v) w → Q (.panic c) a w) (fuel : Nat) :
    ∀ (listed : Array Bool) (a : Act) (w : World), Shut md ops listed →
      (∀ j oj, ops[j]? = some oj → j ≠ i → listed.getD j true = false → (∀ e ∈ oj.after, Region.binds md e = true → e.on ≠ i) → oi.apart ops oj = true) →
      i ∈ Region.ready md ops listed → YieldsIf P ops (Below w.heap.size w) oi v a →
      M L P md ops Q fuel (listed.setIfInBounds i true) (a.put oi.dst v) w → M L P md ops Q (fuel + 1) listed a w := by
  have sel := fun (j : Nat) (o : Oper) (cs : Array SelectCase) (b : Bool) (h : ops[j]? = some o) => Region.noSelect_spec hs j o cs b h
  induction fuel with
  | zero =>
    intro listed a w _ _ hr hy H
    refine ⟨fun h0 => absurd hr (by rw [h0]; simp), fun j hj => ?_⟩
    by_cases e : j = i
    · subst e
      exact hy.wpOp hi (Below.refl _ _) ⟨fun _ => Below.refl _ _, H⟩
    · exact absurd (ready_mono hj e) (by rw [H.1]; simp)
  | succ fuel ih =>
    intro listed a w hS hf hr hy H
    refine ⟨fun h0 => absurd hr (by rw [h0]; simp), fun j hj => ?_⟩
    by_cases e : j = i
    · subst e
      exact hy.wpOp hi (Below.refl _ _) ⟨fun _ => Below.refl _ _, H⟩
    · have hjL : j ≠ L := by
        rintro rfl
        exact not_both (mem_ready.1 hr).1 (ahead_listed hS af j hA (.inr hj))
      have hstep := H.2 j (ready_mono hj e)
      obtain ⟨hun, oj, hoj, hall⟩ := mem_ready.1 hj
      have hno : ∀ x ∈ oj.after, Region.binds md x = true → x.on ≠ i := by
        intro x hx hb hxi
        have p1 := hall x hx hb
        rw [hxi] at p1
        exact not_both (mem_ready.1 hr).1 p1
      refine wpOp_mono (fun a' w' h3 => ⟨h3.2.1, ?_⟩) (wpOp_putIf hoj (hf j oj hoj e hun hno) (fun cs b => sel i oi cs b hi) (fun cs b => sel j oj cs b hoj) hQ hy hstep)
      obtain ⟨y1, y2, y3⟩ := h3
      refine ih (listed.setIfInBounds j true) a' w' (hS.set hj) (fun k ok hk hki hku hkn => hf k ok hk hki ?_ hkn) (ready_mono hr (fun h => e h.symm)) (Grow.later y1 (y2 hjL)) ?_
      · by_cases ejk : j = k
        · subst ejk; exact hun
        · rwa [getD_set_ne true ejk] at hku
      · rw [Array.setIfInBounds_comm _ _ e]
        exact y3

/-- As Grow.plain, checks for nil besides. -/
def plain (o : Oper) : Bool := match o.op with
  | .nilCheck _ => true
  | _ => Grow.plain o
/-- The order that is walked: each operation by its number, with whether it only reads. -/
def orderB (L : Nat) (md : Region.Mode) (ops : Array Oper) : List (Nat × Bool) → Array Bool → Bool
  | [], listed => (Region.ready md ops listed).isEmpty
  | (i, true) :: r, listed => ((Region.ready md ops listed).contains i && Region.free md ops listed i && ((ops[i]?).map plain).getD false && ahead md ops i ops.size L) && orderB L md ops r (listed.setIfInBounds i true)
  | (i, false) :: r, listed => Region.ready md ops listed == [i] && orderB L md ops r (listed.setIfInBounds i true)
/-- Such an order, if there is one. -/
def orderOf (md : Region.Mode) (ops : Array Oper) : Nat → Array Bool → List (Nat × Bool)
  | 0, _ => []
  | fuel + 1, listed =>
    match (Region.ready md ops listed).find? fun i => Region.free md ops listed i && ((ops[i]?).map plain).getD false with
    | some i => (i, true) :: orderOf md ops fuel (listed.setIfInBounds i true)
    | none => match Region.ready md ops listed with
      | i :: _ => (i, false) :: orderOf md ops fuel (listed.setIfInBounds i true)
      | [] => []

/-- What is asked of each operation, in that order. -/
def Seq (L : Nat) (P : Program) (ops : Array Oper) (Q : Exit → Act → World → Prop) : List (Nat × Bool) → Act → World → Prop
  | [], a, w => Q .normal a w
  | (i, true) :: r, a, w => ∃ o, ops[i]? = some o ∧ ∃ v, YieldsIf P ops (Below w.heap.size w) o v a ∧ Seq L P ops Q r (a.put o.dst v) w
  | (i, false) :: r, a, w => Forks.One P ops Q i (fun a' w' => Below w.heap.size w w' ∧ Seq L P ops Q r a' w') a w ∨ (i = L ∧ Forks.One P ops Q i (fun a' w' => Seq L P ops Q r a' w') a w)

theorem seq_M {L : Nat} (hs : Region.noSelect ops = true) (hQ : ∀ c a d v w, Q (.panic c) (a.put d v) w → Q (.panic c) a w) : ∀ (l : List (Nat × Bool)) (listed : Array Bool) (a : Act) (w : World), Shut md ops listed →
    orderB L md ops l listed = true → Seq L P ops Q l a w → M L P md ops Q l.length listed a w
  | [], listed, a, w, _, hB, h => ⟨by simpa [orderB] using hB, h⟩
  | (i, true) :: r, listed, a, w, hS, hB, ⟨o, ho, v, hy, h⟩ => by
    simp only [orderB, Bool.and_eq_true] at hB
    obtain ⟨⟨⟨⟨h1, h2⟩, _⟩, h3⟩, h4⟩ := hB
    have hr : i ∈ Region.ready md ops listed := by simpa using h1
    exact M.first ho hs h3 (fun c a w => hQ c a o.dst v w) r.length listed a w hS (Region.free_spec ho h2) hr hy (seq_M hs hQ r _ _ _ (hS.set hr) h4 h)
  | (i, false) :: r, listed, a, w, hS, hB, h => by
    simp only [orderB, Bool.and_eq_true, beq_iff_eq] at hB
    obtain ⟨h1, h4⟩ := hB
    have hS' : Shut md ops (listed.setIfInBounds i true) := hS.set (by rw [h1]; simp)
    refine ⟨fun h0 => (by rw [h1] at h0; cases h0), fun j hj => ?_⟩
    rw [h1] at hj
    obtain rfl : j = i := by simpa using hj
    rcases h with h | ⟨e, h⟩
    · exact h.op (fun a' w' hh => ⟨fun _ => hh.1, seq_M hs hQ r _ _ _ hS' h4 hh.2⟩)
    · exact h.op (fun a' w' hh => ⟨fun hne => absurd e hne, seq_M hs hQ r _ _ _ hS' h4 hh⟩)

/-- One order serves every order. -/
theorem region (L : Nat) {id : Nat} {a : Act} {w : World} {l : List Oper} (order : List (Nat × Bool)) (hm : P.follows .mixedOrders = true) (hs : Region.noSelect l.toArray = true)
    (hl : order.length = l.toArray.size) (hB : orderB L .any l.toArray order (Array.replicate l.toArray.size false) = true) (hQ : ∀ c a d v w, Q (.panic c) (a.put d v) w → Q (.panic c) a w)
    (h : Seq L P l.toArray Q order a w.drew) : (Code.region id l.toArray true).wp P Q a w := by
  refine wp_region_any hm (M.any (L := L) _ _ _ _ ?_)
  have := seq_M (md := .any) hs hQ order (Array.replicate l.toArray.size false) a w.drew (Shut.none _) hB h
  rw [hl] at this
  exact this

/-- One operation that only reads: in every world that grew from this one it yields one and the same. -/
theorem reads {L : Nat} {l : List Oper} {i : Nat} {o : Oper} {r : List (Nat × Bool)} {a : Act} {w : World} (hn : Grow.nth l i = some o) (hp : Grow.plain o = true)
    (h : wpQuiet P l.toArray (fun w' => ∃ p : Regrown, w' = grow (redrawn w p.d) p.os) (fun a' => Seq L P l.toArray Q r a' w) [o] a) : Seq L P l.toArray Q ((i, true) :: r) a w := by
  have ho := (Grow.nth_at l i).trans hn
  unfold wpQuiet at h
  split at h
  · rename_i hw
    obtain ⟨v, h1, h2⟩ := h
    refine ⟨o, ho, v, .inl ⟨hw, fun u hu => ?_⟩, h2⟩
    have q := h1 u (regrown_of_below hu)
    unfold Oper.quietAt at q
    cases hx : (execOp a.eval o).run P u with
    | ok n u' =>
      obtain ⟨x, rfl⟩ := Grow.plain_value hp hx
      rw [hx] at q
      obtain ⟨rfl, rfl⟩ := q
      rfl
    | halt x u' => rw [hx] at q; exact q.elim
  · rename_i hw
    exact ⟨o, ho, undef, .inr ⟨by simpa using hw, rfl⟩, h⟩
/-- A nil check of what is not nil. -/
theorem checks {L : Nat} {l : List Oper} {i : Nat} {o : Oper} {r : List (Nat × Bool)} {a : Act} {w : World} (hn : Grow.nth l i = some o) (hgd : o.guard = none) (x : Operand) (ho : o.op = .nilCheck x) (p : Addr) (hx : a.eval x = .pointer (some p))
    (h : Seq L P l.toArray Q r (a.put o.dst (.pointer (some p))) w) : Seq L P l.toArray Q ((i, true) :: r) a w := by
  refine ⟨o, (Grow.nth_at l i).trans hn, .pointer (some p), .inl ⟨by simp [Region.wanted, hgd], fun u _ => ?_⟩, h⟩
  unfold execOp
  simp only [ho, hx]
  rfl
/-- What follows a call. -/
def On (L : Nat) (P : Program) (ops : Array Oper) (Q : Exit → Act → World → Prop) (r : List (Nat × Bool)) (w : World) (a' : Act) (w' : World) : Prop := Below w.heap.size w w' ∧ Seq L P ops Q r a' w'
/-- One operation that acts: a call. -/
theorem acts {L : Nat} {l : List Oper} {i : Nat} {o : Oper} {r : List (Nat × Bool)} {a : Act} {w : World} (hn : Grow.nth l i = some o)
    (h : wpList P l.toArray (Exit.then (On L P l.toArray Q r w) Q) [o] a w) : Seq L P l.toArray Q ((i, false) :: r) a w :=
  .inl ⟨o, (Grow.nth_at l i).trans hn, h⟩
/-- What follows the last operation. -/
def Done (Q : Exit → Act → World → Prop) (a' : Act) (w' : World) : Prop := Q .normal a' w'
/-- The last operation: it may write what was there. -/
theorem last {L : Nat} {l : List Oper} {o : Oper} {a : Act} {w : World} (hn : Grow.nth l L = some o)
    (h : wpList P l.toArray (Exit.then (Done Q) Q) [o] a w) : Seq L P l.toArray Q [(L, false)] a w :=
  .inr ⟨rfl, o, (Grow.nth_at l L).trans hn, h⟩
theorem done {a : Act} {w : World} (h : Q .normal a w) : Done Q a w := h
end
end Go.Proofs.YtnjdkjkihbgkaaaGreat.GrowL
namespace Go.Proofs.YtnjdkjkihbgkaaaGreat.StO
set_option maxRecDepth 100000
open Go Go.RowKit Byt OpsM Rise RowS StM StW

/-- A state is handed back, and all that was there is as it was. -/
def Own (s : St) (w : World) (e : Ending) (w' : World) : Prop := ∃ u : Sv, e = .returned (.agg (sc u)) ∧ u.s = s ∧ In w' u ∧ Below w.heap.size w w'
/-- A state boxed, and a result's cell. -/
def W2 (w : World) (v : Sv) : World := (w.alloc (.cells (sc v) 26)).alloc (.cells (sc noV) 26)
theorem W2_below (w : World) (v : Sv) : Below w.heap.size w (W2 w v) := ((Below.refl _ _).alloc (Nat.le_refl _) _).alloc (by simp) _
theorem W2_size (w : World) (v : Sv) : (W2 w v).heap.size = w.heap.size + 2 := by simp [W2]
theorem W2_boxes (w : World) (v : Sv) : Cel.Box SE (W2 w v) w.heap.size v ∧ Cel.Box SE (W2 w v) (w.heap.size + 1) noV := by
  have z1 : (w.alloc (.cells (sc v) 26)).heap.size = w.heap.size + 1 := by simp
  refine ⟨(Cel.Box.new (E := SE) w v 26).alloc _, ?_⟩
  rw [← z1]
  exact Cel.Box.new (E := SE) _ noV 26
theorem nil_own {α : Type} (E : Enc α) (w : World) (base : Nat) : w.ownsRow base E.T E.k (.slice none 0 0) 0 (flat E []) := ⟨by simp [flat], .inl ⟨rfl, rfl⟩⟩
theorem below_none {w w' : World} (g : w.grownBy w' (Value.slice none 0 0).ownBlock) : Below w.heap.size w w' := below_grown (Below.refl _ _) (Nat.le_refl _) g (fun q hq => by cases hq)
theorem own_sl {α : Type} {E : Enc α} {w : World} {base n : Nat} {v : Value} {l : List α} (h : w.ownsRow base E.T E.k v n (flat E ([] ++ l))) : ∃ A cap, v = .slice A l.length cap ∧ SlR E w A cap l := SlR.own h
set_option maxRecDepth 100000 in
set_option maxHeartbeats 8000000 in
theorem own_ret (v : Sv) (w : World) (S : In w v) (hl : Len 100000 v.s) : Calls Tryz.prog 26 #[.agg (sc v)] w (Own v.s w) := by
  have kb := W2_below w v
  have hz := W2_size w v
  obtain ⟨R0, X0⟩ := W2_boxes w v
  have S0 := S.below kb
  have l0 := hl.c
  have l1 := hl.r
  have l2 := hl.p
  clear S hl
  go_enter Tryz.func26, Tryz.ntmps26
  go_wp2_with fail
  refine GrowL.region 10 [(0, true), (1, true), (3, true), (4, true), (6, true), (7, true), (2, false), (5, false), (8, false), (9, true), (10, false)] (by kernel_rfl) (by kernel_rfl) rfl (by kernel_rfl) (by intro c a d v w h; cases d <;> exact h) ?_
  change GrowL.Seq _ _ _ _ _ _ (W2 w v).drew
  have k0 := below_drew1 (Below.refl (W2 w v).heap.size (W2 w v))
  have R1 := R0.below k0
  have X1 := X0.below k0
  have S1 := S0.below k0
  have b1 := kb.trans (k0.mono kb.size)
  have z1 : w.heap.size + 2 ≤ (W2 w v).drew.heap.size := by rw [← hz]; exact k0.size
  generalize (W2 w v).drew = W1 at R1 X1 S1 b1 z1 ⊢
  clear R0 X0 S0 k0 kb hz
  have c0 := Grow.grown (w := W1) (fun u hu => (box_cells (R1.below hu)).1)
  have c1 := Grow.grown (w := W1) (fun u hu => (box_cells (R1.below hu)).2.1)
  have c2 := Grow.grown (w := W1) (fun u hu => (box_cells (R1.below hu)).2.2)
  repeat (refine GrowL.reads rfl rfl ?_; go_big_quiet_step (fail); refine wpQuiet_nil ?_)
  clear c0 c1 c2
  refine GrowL.acts rfl ?_
  go_wp2_with (refine RowS.wpList_append CtrW.E rfl _ _ rfl W1.heap.size (.slice none 0 0) 0 [] rfl (nil_own _ _ _) v.a0 _ _ v.s.c rfl rfl S1.c (by omega) (Nat.le_refl _) ?_; intro q2 W2 own2 g2)
  have k2 := below_none g2
  refine ⟨k2, ?_⟩
  obtain ⟨A2, C2, rfl, N2⟩ := own_sl own2
  have X2 := X1.below k2
  have S2 := S1.below k2
  have b2 := b1.trans (k2.mono b1.size)
  have z2 := Nat.le_trans z1 k2.size
  clear own2 g2 k2 R1 X1 S1 b1 z1
  refine GrowL.acts rfl ?_
  go_wp2_with (refine RowS.wpList_append RegW.E rfl _ _ rfl W2.heap.size (.slice none 0 0) 0 [] rfl (nil_own _ _ _) v.a1 _ _ v.s.r rfl rfl S2.r (by omega) (Nat.le_refl _) ?_; intro q3 W3 own3 g3)
  have k3 := below_none g3
  refine ⟨k3, ?_⟩
  obtain ⟨A3, C3, rfl, N3⟩ := own_sl own3
  have X3 := X2.below k3
  have S3 := S2.below k3
  have M2 := N2.below k3
  have b3 := b2.trans (k3.mono b2.size)
  have z3 := Nat.le_trans z2 k3.size
  clear own3 g3 k3 X2 S2 b2 z2 N2
  refine GrowL.acts rfl ?_
  go_wp2_with (refine RowS.wpList_append PairW.E rfl _ _ rfl W3.heap.size (.slice none 0 0) 0 [] rfl (nil_own _ _ _) v.a2 _ _ v.s.p rfl rfl S3.p (by omega) (Nat.le_refl _) ?_; intro q4 W4 own4 g4)
  have k4 := below_none g4
  refine ⟨k4, ?_⟩
  obtain ⟨A4, C4, rfl, N4⟩ := own_sl own4
  have X4 := X3.below k4
  have L2 := M2.below k4
  have L3 := N3.below k4
  have b4 := b3.trans (k4.mono b3.size)
  have z4 := Nat.le_trans z3 k4.size
  clear own4 g4 k4 X3 S3 b3 z3 N3 M2
  simp only [Act.put, List.setIfInBounds_toArray, List.set_cons_succ, List.set_cons_zero]
  repeat (refine GrowL.reads rfl rfl ?_; go_big_quiet_step (fail); refine wpQuiet_nil ?_)
  refine GrowL.last rfl ?_
  go_wp2_with (refine Cel.wpList_store_box SE rfl _ _ rfl (w.heap.size + 1) rfl noV X4 ⟨A2, C2, A3, C3, A4, C4, v.s⟩ rfl ?_; intro W5 X5 b5 g5 s5)
  refine GrowL.done ?_
  have I5 : In W5 ⟨A2, C2, A3, C3, A4, C4, v.s⟩ := In.kept ⟨L2, L3, N4⟩ X4 g5
  have k5 := b4.trans (b5 _ (by omega))
  go_wp2_with fail
  obtain ⟨r0, r1, r2⟩ := box_cells X5
  refine bodyPost_ret (v := .agg (sc ⟨A2, C2, A3, C3, A4, C4, v.s⟩)) (by simp [results, Tryz.results26, go_sem, r0, r1, r2, sc]) rfl ⟨_, rfl, rfl, I5, k5⟩
end Go.Proofs.YtnjdkjkihbgkaaaGreat.StO
