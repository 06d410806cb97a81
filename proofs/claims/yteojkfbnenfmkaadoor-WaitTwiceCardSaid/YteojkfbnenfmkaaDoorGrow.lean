/- A region that draws its order, whose calls wait for one another, and in which nothing that was there is written anew: one order serves every order. No condition. -/
import Derived.WalkKit
import Derived.BigQuiet
import Derived.Lib.QuietBelow
import Derived.OrdersHeld
namespace Go.Proofs.YteojkfbnenfmkaaDoor.Grow
set_option maxRecDepth 100000
open Go Go.Sort Go.RowKit

section
variable {P : Program} {ops : Array Oper} {Q : Exit → Act → World → Prop} {md : Region.Mode}

/-- Whatever order is picked from here on, and each operation leaves all that was there as it was. -/
def M (P : Program) (md : Region.Mode) (ops : Array Oper) (Q : Exit → Act → World → Prop) : Nat → Array Bool → Act → World → Prop
  | 0, listed, a, w => Region.ready md ops listed = [] ∧ Q .normal a w
  | fuel + 1, listed, a, w => (Region.ready md ops listed = [] → Q .normal a w) ∧
    ∀ i ∈ Region.ready md ops listed, wpOp P ops Q i (fun a' w' => Below w.heap.size w w' ∧ M P md ops Q fuel (listed.setIfInBounds i true) a' w') a w
theorem M.any : ∀ (fuel : Nat) (listed : Array Bool) (a : Act) (w : World), M P md ops Q fuel listed a w → wpAny P md ops Q fuel listed a w
  | 0, _, _, _, h => h
  | fuel + 1, _, _, _, h => ⟨h.1, fun i hi => wpOp_mono (fun a' w' h' => M.any fuel _ a' w' h'.2) (h.2 i hi)⟩

/-- What reads in all worlds that grew from w reads in all that grew from one of these. -/
theorem later {o : Oper} {v : Value} {a : Act} {w w' : World} (h : YieldsIf P ops (Below w.heap.size w) o v a) (hb : Below w.heap.size w w') : YieldsIf P ops (Below w'.heap.size w') o v a :=
  h.imp (fun ⟨h1, h2⟩ => ⟨h1, fun u hu => h2 u (hb.trans (hu.mono hb.size))⟩) id

/-- An operation that only reads may come first. -/
theorem M.first {i : Nat} {oi : Oper} {v : Value} (hi : ops[i]? = some oi) (hs : Region.noSelect ops = true)
    (hQ : ∀ c a w, Q (.panic c) (a.put oi.dst v) w → Q (.panic c) a w) (fuel : Nat) :
    ∀ (listed : Array Bool) (a : Act) (w : World),
      (∀ j oj, ops[j]? = some oj → j ≠ i → listed.getD j true = false → (∀ e ∈ oj.after, Region.binds md e = true → e.on ≠ i) → oi.apart ops oj = true) →
      i ∈ Region.ready md ops listed → YieldsIf P ops (Below w.heap.size w) oi v a →
      M P md ops Q fuel (listed.setIfInBounds i true) (a.put oi.dst v) w → M P md ops Q (fuel + 1) listed a w := by
  have sel := fun (j : Nat) (o : Oper) (cs : Array SelectCase) (b : Bool) (h : ops[j]? = some o) => Region.noSelect_spec hs j o cs b h
  induction fuel with
  | zero =>
    intro listed a w _ hr hy H
    refine ⟨fun h0 => absurd hr (by rw [h0]; simp), fun j hj => ?_⟩
    by_cases e : j = i
    · subst e
      exact hy.wpOp hi (Below.refl _ _) ⟨Below.refl _ _, H⟩
    · exact absurd (ready_mono hj e) (by rw [H.1]; simp)
  | succ fuel ih =>
    intro listed a w hf hr hy H
    refine ⟨fun h0 => absurd hr (by rw [h0]; simp), fun j hj => ?_⟩
    by_cases e : j = i
    · subst e
      exact hy.wpOp hi (Below.refl _ _) ⟨Below.refl _ _, H⟩
    · have hstep := H.2 j (ready_mono hj e)
      obtain ⟨hun, oj, hoj, hall⟩ := mem_ready.1 hj
      have hno : ∀ x ∈ oj.after, Region.binds md x = true → x.on ≠ i := by
        intro x hx hb hxi
        have p1 := hall x hx hb
        have p0 := (mem_ready.1 hr).1
        rw [hxi] at p1
        by_cases hlt : i < listed.size
        · simp [hlt] at p0 p1
          rw [p0] at p1
          cases p1
        · simp [Array.getElem?_eq_none (Nat.le_of_not_lt hlt)] at p1
      refine wpOp_mono (fun a' w' h3 => ⟨h3.2.1, ?_⟩) (wpOp_putIf hoj (hf j oj hoj e hun hno) (fun cs b => sel i oi cs b hi) (fun cs b => sel j oj cs b hoj) hQ hy hstep)
      obtain ⟨y1, y2, y3⟩ := h3
      refine ih (listed.setIfInBounds j true) a' w' (fun k ok hk hki hku hkn => hf k ok hk hki ?_ hkn) (ready_mono hr (fun h => e h.symm)) (later y1 y2) ?_
      · by_cases ejk : j = k
        · subst ejk; exact hun
        · rwa [getD_set_ne true ejk] at hku
      · rw [Array.setIfInBounds_comm _ _ e]
        exact y3

/-- Operations that yield a value, and enter no function. -/
def plain (o : Oper) : Bool := match o.op with
  | .move _ | .assign _ | .pick .. | .load .. | .binOp .. | .unOp .. | .convert .. | .slice .. | .fieldAddr .. | .field .. | .indexAddr .. | .index .. | .lookup .. | .extract .. | .build .. | .makeInterface .. => true
  | .call { callee := .builtin .len, .. } | .call { callee := .builtin .cap, .. } | .call { callee := .builtin .min, .. } | .call { callee := .builtin .max, .. } => true
  | _ => false
theorem value_of {α : Type} {s : Sem α} {g : α → Value} {w w' : World} {n : Next} (h : (do pure (Next.value (g (← s))) : Sem Next).run P w = .ok n w') : ∃ v, n = .value v := by
  rw [Sem.run_bind] at h
  cases hq : s.run P w with
  | ok x u =>
    rw [hq] at h
    simp [Result.andThen] at h
    exact ⟨g x, h.1.symm⟩
  | halt x u => rw [hq] at h; simp [Result.andThen] at h
theorem plain_value {o : Oper} (hp : plain o = true) {ρ : Operand → Value} {w w' : World} {n : Next} (h : (execOp ρ o).run P w = .ok n w') : ∃ v, n = .value v := by
  unfold execOp at h
  unfold plain at hp
  cases hop : o.op <;> simp only [hop] at h hp
  case call c =>
    obtain ⟨callee, args, argTypes⟩ := c
    cases callee with
    | builtin b =>
      cases b <;> first | (exfalso; simp at hp; done) | (simp only [resolve, Sem.run_bind, Sem.run_pure, Result.andThen_ok, invoke, builtin] at h; exact value_of (g := id) (by rw [Sem.run_bind]; exact h))
    | _ => exfalso; simp at hp
  case move x => simp at h; exact ⟨_, h.1.symm⟩
  case assign x => simp at h; exact ⟨_, h.1.symm⟩
  all_goals first | (cases hp; done) | exact value_of (g := id) h | exact value_of h

/-- The order that is walked: each operation by its number, with whether it only reads. -/
def orderB (md : Region.Mode) (ops : Array Oper) : List (Nat × Bool) → Array Bool → Bool
  | [], listed => (Region.ready md ops listed).isEmpty
  | (i, true) :: r, listed => (Region.ready md ops listed).contains i && Region.free md ops listed i && ((ops[i]?).map plain).getD false && orderB md ops r (listed.setIfInBounds i true)
  | (i, false) :: r, listed => Region.ready md ops listed == [i] && orderB md ops r (listed.setIfInBounds i true)

/-- What is asked of each operation, in that order. -/
def Seq (P : Program) (ops : Array Oper) (Q : Exit → Act → World → Prop) : List (Nat × Bool) → Act → World → Prop
  | [], a, w => Q .normal a w
  | (i, true) :: r, a, w => ∃ o, ops[i]? = some o ∧ ∃ v, YieldsIf P ops (Below w.heap.size w) o v a ∧ Seq P ops Q r (a.put o.dst v) w
  | (i, false) :: r, a, w => ∃ o, ops[i]? = some o ∧ wpList P ops (Exit.then (fun a' w' => Below w.heap.size w w' ∧ Seq P ops Q r a' w') Q) [o] a w

theorem seq_M (hs : Region.noSelect ops = true) (hQ : ∀ c a d v w, Q (.panic c) (a.put d v) w → Q (.panic c) a w) : ∀ (l : List (Nat × Bool)) (listed : Array Bool) (a : Act) (w : World),
    orderB md ops l listed = true → Seq P ops Q l a w → M P md ops Q l.length listed a w
  | [], listed, a, w, hB, h => ⟨by simpa [orderB] using hB, h⟩
  | (i, true) :: r, listed, a, w, hB, ⟨o, ho, v, hy, h⟩ => by
    simp only [orderB, Bool.and_eq_true] at hB
    obtain ⟨⟨⟨h1, h2⟩, _⟩, h4⟩ := hB
    exact M.first ho hs (fun c a w => hQ c a o.dst v w) r.length listed a w (Region.free_spec ho h2) (by simpa using h1) hy (seq_M hs hQ r _ _ _ h4 h)
  | (i, false) :: r, listed, a, w, hB, ⟨o, ho, h⟩ => by
    simp only [orderB, Bool.and_eq_true, beq_iff_eq] at hB
    obtain ⟨h1, h4⟩ := hB
    refine ⟨fun h0 => (by rw [h1] at h0; cases h0), fun j hj => ?_⟩
    rw [h1] at hj
    obtain rfl : j = i := by simpa using hj
    unfold wpOp
    simp only [ho]
    unfold wpList at h
    split
    · rename_i hw
      rw [if_pos hw] at h
      rcases h with h | ⟨h, a', w', hl⟩
      · refine .inl ?_
        unfold Oper.wp at h ⊢
        generalize (execOp a.eval o).run P w = x at h ⊢
        have on : ∀ a' w', wpList P ops (Exit.then (fun a' w' => Below w.heap.size w w' ∧ Seq P ops Q r a' w') Q) [] a' w' → Below w.heap.size w w' ∧ M P md ops Q r.length (listed.setIfInBounds j true) a' w' := by
          intro a' w' hh
          unfold wpList at hh
          exact ⟨hh.1, seq_M hs hQ r _ _ _ h4 hh.2⟩
        cases x with
        | ok n u =>
          cases n <;> simp only [Oper.upon] at h ⊢
          case enter f args =>
            refine Calls.mono h fun e w'' he => ?_
            cases e with
            | returned v => exact on _ _ he
            | panicked c => exact he
            | outgrown => exact he
          case row row args => exact Rows.mono h fun v w'' he => on _ _ he
          all_goals exact on _ _ h
        | halt x u => cases x <;> simp only [Oper.upon] at h ⊢; exact h
      · exact .inr ⟨h, a', w', hl⟩
    · rename_i hw
      rw [if_neg hw] at h
      unfold wpList at h
      exact ⟨h.1, seq_M hs hQ r _ _ _ h4 h.2⟩

/-- One order serves every order. -/
theorem region {id : Nat} {a : Act} {w : World} {l : List Oper} (order : List (Nat × Bool)) (hm : P.follows .mixedOrders = true) (hs : Region.noSelect l.toArray = true)
    (hl : order.length = l.toArray.size) (hB : orderB .any l.toArray order (Array.replicate l.toArray.size false) = true) (hQ : ∀ c a d v w, Q (.panic c) (a.put d v) w → Q (.panic c) a w)
    (h : Seq P l.toArray Q order a w.drew) : (Code.region id l.toArray true).wp P Q a w := by
  refine wp_region_any hm (M.any _ _ _ _ ?_)
  have := seq_M (md := .any) hs hQ order (Array.replicate l.toArray.size false) a w.drew hB h
  rw [hl] at this
  exact this

/-- The operation of that number. -/
def nth : List Oper → Nat → Option Oper
  | [], _ => none
  | o :: _, 0 => some o
  | _ :: l, n + 1 => nth l n
theorem nth_at : ∀ (l : List Oper) (i : Nat), l.toArray[i]? = nth l i
  | [], i => by simp [nth]
  | o :: l, 0 => by simp [nth]
  | o :: l, n + 1 => by
    have := nth_at l n
    simp only [List.getElem?_toArray] at this
    simp [nth, this]

/-- One operation that only reads: in every world that grew from this one it yields one and the same. -/
theorem reads {l : List Oper} {i : Nat} {o : Oper} {r : List (Nat × Bool)} {a : Act} {w : World} (hn : nth l i = some o) (hp : plain o = true)
    (h : wpQuiet P l.toArray (fun w' => ∃ p : Regrown, w' = grow (redrawn w p.d) p.os) (fun a' => Seq P l.toArray Q r a' w) [o] a) : Seq P l.toArray Q ((i, true) :: r) a w := by
  have ho := (nth_at l i).trans hn
  unfold wpQuiet at h
  split at h
  · rename_i hw
    obtain ⟨v, h1, h2⟩ := h
    refine ⟨o, ho, v, .inl ⟨hw, fun u hu => ?_⟩, h2⟩
    have q := h1 u (regrown_of_below hu)
    unfold Oper.quietAt at q
    cases hx : (execOp a.eval o).run P u with
    | ok n u' =>
      obtain ⟨x, rfl⟩ := plain_value hp hx
      rw [hx] at q
      obtain ⟨rfl, rfl⟩ := q
      rfl
    | halt x u' => rw [hx] at q; exact q.elim
  · rename_i hw
    exact ⟨o, ho, undef, .inr ⟨by simpa using hw, rfl⟩, h⟩
/-- What follows a call. -/
def On (P : Program) (ops : Array Oper) (Q : Exit → Act → World → Prop) (r : List (Nat × Bool)) (w : World) (a' : Act) (w' : World) : Prop := Below w.heap.size w w' ∧ Seq P ops Q r a' w'
/-- One operation that acts: a call. -/
theorem acts {l : List Oper} {i : Nat} {o : Oper} {r : List (Nat × Bool)} {a : Act} {w : World} (hn : nth l i = some o)
    (h : wpList P l.toArray (Exit.then (On P l.toArray Q r w) Q) [o] a w) : Seq P l.toArray Q ((i, false) :: r) a w := ⟨o, (nth_at l i).trans hn, h⟩
theorem ends {a : Act} {w : World} (h : Q .normal a w) : Seq P ops Q [] a w := h
end
/-- A fact for every world that grew. -/
theorem grown {w : World} {f : World → Prop} (h : ∀ u, Below w.heap.size w u → f u) : ∀ d os, f (grow (redrawn w d) os) := fun d os => h _ (below_regrown w d os)
end Go.Proofs.YteojkfbnenfmkaaDoor.Grow
