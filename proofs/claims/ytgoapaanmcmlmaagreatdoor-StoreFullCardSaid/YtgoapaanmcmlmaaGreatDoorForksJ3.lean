/- A region that draws its order: what reads no memory is taken first, and of the rest every order is walked, as a tree. No condition. | What walks of Get of package commit lean on. No condition. | What the laws' Few, and the document's List, At, Ids and Find of package dag return: contracts. -/
import Derived.Test.YtgoapaanmcmlmaaGreatDoorEncGJ6
import Derived.Test.YtgoapaanmcmlmaaGreatDoorIdOJ5
import Derived.Test.YtgoapaanmcmlmaaGreatDoorCmRJ8
import Derived.Test.YtgoapaanmcmlmaaGreatDoorRowFJ7
import Derived.Test.YtgoapaanmcmlmaaGreatDoorOpenKJ3
import Derived.Test.YtgoapaanmcmlmaaGreatDoorDgMJ2
namespace Go.Proofs.YtgoapaanmcmlmaaGreatDoor.Forks
set_option maxRecDepth 100000
open Go Go.Sort Go.RowKit
inductive Tree where
 | ends : Tree
 | free (i : Nat) (t : Tree) : Tree
 | act (i : Nat) (t : Tree) : Tree
 | two (i : Nat) (t : Tree) (j : Nat) (u : Tree) : Tree
def Tree.size : Tree → Nat
 | .ends => 0
 | .free _ t => t.size + 1
 | .act _ t => t.size + 1
 | .two _ t _ _ => t.size + 1
section
variable {P : Program} {ops : Array Oper} {Q : Exit → Act → World → Prop} {md : Region.Mode}
def treeB (md : Region.Mode) (ops : Array Oper) : Tree → Array Bool → Bool
 | .ends, listed => (Region.ready md ops listed).isEmpty
 | .free i t, listed => (Region.ready md ops listed).contains i && (Region.free md ops listed i && treeB md ops t (listed.setIfInBounds i true))
 | .act i t, listed => Region.ready md ops listed == [i] && treeB md ops t (listed.setIfInBounds i true)
 | .two i t j u, listed => Region.ready md ops listed == [i, j] && (t.size == u.size && (treeB md ops t (listed.setIfInBounds i true) && treeB md ops u (listed.setIfInBounds j true)))
def One (P : Program) (ops : Array Oper) (Q : Exit → Act → World → Prop) (i : Nat) (K : Act → World → Prop) (a : Act) (w : World) : Prop := ∃ o, ops[i]? = some o ∧ wpList P ops (Exit.then K Q) [o] a w
def Seq (P : Program) (ops : Array Oper) (Q : Exit → Act → World → Prop) : Tree → Act → World → Prop
 | .ends, a, w => Q .normal a w
 | .free i t, a, w => ∃ o, ops[i]? = some o ∧ ∃ v, Yields P ops o v a ∧ Seq P ops Q t (a.put o.dst v) w
 | .act i t, a, w => One P ops Q i (Seq P ops Q t) a w
 | .two i t j u, a, w => One P ops Q i (Seq P ops Q t) a w ∧ One P ops Q j (Seq P ops Q u) a w
theorem One.op {i : Nat} {K K' : Act → World → Prop} {a : Act} {w : World} (h : One P ops Q i K a w) (on : ∀ a' w', K a' w' → K' a' w') : wpOp P ops Q i K' a w := by
 obtain ⟨o, ho, h⟩ := h
 have on' : ∀ a' w', wpList P ops (Exit.then K Q) [] a' w' → K' a' w' := by
   intro a' w' hh
   unfold wpList at hh
   exact on _ _ hh
 unfold wpOp
 simp only [ho]
 unfold wpList at h
 split
 · rename_i hw
   rw [if_pos hw] at h
   rcases h with h | ⟨h, a', w', hl⟩
   · refine .inl ?_
     unfold Oper.wp at h ⊢
     generalize (execOp a.eval o).run P w = x at h ⊢
     cases x with
     | ok n u =>
       cases n <;> simp only [Oper.upon] at h ⊢
       case enter f args =>
         refine Calls.mono h fun e w'' he => ?_
         cases e with
         | returned v => exact on' _ _ he
         | panicked c => exact he
         | outgrown => exact he
       case row row args => exact Rows.mono h fun v w'' he => on' _ _ he
       all_goals exact on' _ _ h
     | halt x u => cases x <;> simp only [Oper.upon] at h ⊢; exact h
   · exact .inr ⟨h, a', w', hl⟩
 · rename_i hw
   rw [if_neg hw] at h
   unfold wpList at h
   exact on _ _ h
theorem seq_any (hs : Region.noSelect ops = true) (hQ : ∀ c a d v w, Q (.panic c) (a.put d v) w → Q (.panic c) a w) : ∀ (t : Tree) (listed : Array Bool) (a : Act) (w : World),
   treeB md ops t listed = true → Seq P ops Q t a w → wpAny P md ops Q t.size listed a w
 | .ends, listed, a, w, hB, h => ⟨by simpa [treeB] using hB, h⟩
 | .free i t, listed, a, w, hB, ⟨o, ho, v, hy, h⟩ => by
   simp only [treeB, Bool.and_eq_true] at hB
   obtain ⟨h1, h2, h3⟩ := hB
   exact wpAny_take ho hs h2 h1 (fun c a w => hQ c a o.dst v w) hy (seq_any hs hQ t _ _ _ h3 h)
 | .act i t, listed, a, w, hB, h => by
   simp only [treeB, Bool.and_eq_true, beq_iff_eq] at hB
   obtain ⟨h1, h3⟩ := hB
   refine ⟨fun h0 => (by rw [h1] at h0; cases h0), fun j hj => ?_⟩
   rw [h1] at hj
   obtain rfl : j = i := by simpa using hj
   exact One.op h (fun a' w' hh => seq_any hs hQ t _ _ _ h3 hh)
 | .two i t j u, listed, a, w, hB, ⟨h, h'⟩ => by
   simp only [treeB, Bool.and_eq_true, beq_iff_eq] at hB
   obtain ⟨h1, h2, h3, h4⟩ := hB
   refine ⟨fun h0 => (by rw [h1] at h0; cases h0), fun k hk => ?_⟩
   rw [h1] at hk
   rcases List.mem_cons.1 hk with rfl | hk
   · exact One.op h (fun a' w' hh => seq_any hs hQ t _ _ _ h3 hh)
   · obtain rfl : k = j := by simpa using hk
     refine One.op h' (fun a' w' hh => ?_)
     rw [h2]
     exact seq_any hs hQ u _ _ _ h4 hh
theorem region {id : Nat} {a : Act} {w : World} {l : List Oper} (t : Tree) (hm : P.follows .mixedOrders = true) (hs : Region.noSelect l.toArray = true)
   (hl : t.size = l.toArray.size) (hB : treeB .any l.toArray t (Array.replicate l.toArray.size false) = true) (hQ : ∀ c a d v w, Q (.panic c) (a.put d v) w → Q (.panic c) a w)
   (h : Seq P l.toArray Q t a w.drew) : (Code.region id l.toArray true).wp P Q a w := by
 refine wp_region_any hm ?_
 have := seq_any (md := .any) hs hQ t (Array.replicate l.toArray.size false) a w.drew hB h
 rw [hl] at this
 exact this
theorem reads {l : List Oper} {i : Nat} {o : Oper} {t : Tree} {a : Act} {w : World} (hn : Grow.nth l i = some o) (hp : Grow.plain o = true)
   (h : wpQuiet P l.toArray (fun w' => ∃ u : World, w' = u) (fun a' => Seq P l.toArray Q t a' w) [o] a) : Seq P l.toArray Q (.free i t) a w := by
 have ho := (Grow.nth_at l i).trans hn
 unfold wpQuiet at h
 split at h
 · rename_i hw
   obtain ⟨v, h1, h2⟩ := h
   refine ⟨o, ho, v, .inl ⟨hw, fun u => ?_⟩, h2⟩
   have q := h1 u ⟨u, rfl⟩
   unfold Oper.quietAt at q
   cases hx : (execOp a.eval o).run P u with
   | ok n u' =>
     obtain ⟨x, rfl⟩ := Grow.plain_value hp hx
     rw [hx] at q
     obtain ⟨rfl, rfl⟩ := q
     rfl
   | halt x u' => rw [hx] at q; exact q.elim
 · rename_i hw
   exact ⟨o, ho, undef, .inr ⟨by simpa using hw, rfl⟩, h⟩
theorem checks {l : List Oper} {i : Nat} {o : Oper} {t : Tree} {a : Act} {w : World} (hn : Grow.nth l i = some o) (hgd : o.guard = none) (x : Operand) (ho : o.op = .nilCheck x) (p : Addr) (hx : a.eval x = .pointer (some p))
   (h : Seq P l.toArray Q t (a.put o.dst (.pointer (some p))) w) : Seq P l.toArray Q (.free i t) a w := by
 refine ⟨o, (Grow.nth_at l i).trans hn, .pointer (some p), .inl ⟨by simp [Region.wanted, hgd], fun u => ?_⟩, h⟩
 unfold execOp
 simp only [ho, hx]
 rfl
def On (P : Program) (ops : Array Oper) (Q : Exit → Act → World → Prop) (t : Tree) (a' : Act) (w' : World) : Prop := Seq P ops Q t a' w'
theorem acts {l : List Oper} {i : Nat} {o : Oper} {t : Tree} {a : Act} {w : World} (hn : Grow.nth l i = some o)
   (h : wpList P l.toArray (Exit.then (On P l.toArray Q t) Q) [o] a w) : Seq P l.toArray Q (.act i t) a w := ⟨o, (Grow.nth_at l i).trans hn, h⟩
theorem forks {l : List Oper} {i j : Nat} {o p : Oper} {t u : Tree} {a : Act} {w : World} (hn : Grow.nth l i = some o) (hm : Grow.nth l j = some p)
   (h : wpList P l.toArray (Exit.then (On P l.toArray Q t) Q) [o] a w) (h' : wpList P l.toArray (Exit.then (On P l.toArray Q u) Q) [p] a w) : Seq P l.toArray Q (.two i t j u) a w :=
 ⟨⟨o, (Grow.nth_at l i).trans hn, h⟩, ⟨p, (Grow.nth_at l j).trans hm, h'⟩⟩
theorem on {t : Tree} {a : Act} {w : World} (h : Seq P ops Q t a w) : On P ops Q t a w := h
theorem ends {a : Act} {w : World} (h : Q .normal a w) : Seq P ops Q .ends a w := h
end
end Go.Proofs.YtgoapaanmcmlmaaGreatDoor.Forks
namespace Go.Proofs.YtgoapaanmcmlmaaGreatDoor.CmG
set_option maxRecDepth 100000
open Go Go.Sort Go.RowKit Byt EncM EncC IdM IdW IdB OpsM OpsW CmM StW CmW CmR CmD
theorem nums_four {bs l1 l2 l3 l4 : List Int} {a b g n ka kb kg kn : Nat} (h1 : getL bs = (a, ka)) (e1 : bs.drop ka = l1) (h2 : getL l1 = (b, kb)) (e2 : l1.drop kb = l2) (h3 : getL l2 = (g, kg)) (e3 : l2.drop kg = l3) (h4 : getL l3 = (n, kn)) (e4 : l3.drop kn = l4) :
   nums 4 bs = if ka = 0 ∨ kb = 0 ∨ kg = 0 ∨ kn = 0 then none else some ([a, b, g, n], l4) := by
 simp only [nums, h1, e1, h2, e2, h3, e3, h4, e4]
 by_cases c1 : ka = 0 <;> by_cases c2 : kb = 0 <;> by_cases c3 : kg = 0 <;> by_cases c4 : kn = 0 <;> simp [c1, c2, c3, c4]
theorem idsL_snoc : ∀ (k : Nat) {s r : List Int} {ps : List Idn}, (∀ x ∈ s, B x) → idsL k s = some (ps, r) → 32 ≤ r.length → idsL (k + 1) s = some (ps ++ [headI r], r.drop 32)
 | 0, s, r, ps, hb, h, hr => by
   simp only [idsL, Option.some.injEq, Prod.mk.injEq] at h
   obtain ⟨rfl, rfl⟩ := h
   have hc : 32 ≤ s.length ∧ ∀ x ∈ s.take 32, 0 ≤ x ∧ x ≤ 255 := ⟨hr, fun x hx => hb x (List.mem_of_mem_take hx)⟩
   rw [idsL, dif_pos hc]
   simp only [idsL, List.nil_append, headI, dif_pos hc]
 | k + 1, s, r, ps, hb, h, hr => by
   rw [idsL] at h
   split at h
   · rename_i hc
     cases hq : idsL k (s.drop 32) with
     | none => rw [hq] at h; cases h
     | some q =>
       obtain ⟨l1, r1⟩ := q
       rw [hq] at h
       simp only [Option.some.injEq, Prod.mk.injEq] at h
       obtain ⟨rfl, rfl⟩ := h
       rw [idsL, dif_pos hc, idsL_snoc k (fun x hx => hb x (List.mem_of_mem_drop hx)) hq hr]
       rfl
   · cases h
theorem idsL_stop : ∀ (k n : Nat) {s r : List Int} {ps : List Idn}, idsL k s = some (ps, r) → r.length < 32 → k < n → idsL n s = none
 | 0, n + 1, s, r, ps, h, hr, _ => by
   simp only [idsL, Option.some.injEq, Prod.mk.injEq] at h
   obtain ⟨rfl, rfl⟩ := h
   rw [idsL, dif_neg (by omega)]
 | k + 1, n + 1, s, r, ps, h, hr, hk => by
   rw [idsL] at h
   split at h
   · rename_i hc
     cases hq : idsL k (s.drop 32) with
     | none => rw [hq] at h; cases h
     | some q =>
       obtain ⟨l1, r1⟩ := q
       rw [hq] at h
       simp only [Option.some.injEq, Prod.mk.injEq] at h
       obtain ⟨rfl, rfl⟩ := h
       rw [idsL, dif_pos hc, idsL_stop k n hq hr (by omega)]
   · cases h
theorem idsL_len (k : Nat) {s r : List Int} {ps : List Idn} (h : idsL k s = some (ps, r)) : ps.length = k ∧ 32 * k + r.length = s.length := by
 obtain ⟨h1, h2⟩ := idsL_back k h
 refine ⟨h1, ?_⟩
 rw [h2, List.length_append, flatL_len, h1]
def GetOut (q : Option (Com × List Int)) (w : World) (e : Ending) (w' : World) : Prop :=
 Below w.heap.size w w' ∧ match q with
   | none => e = .returned (.tuple #[.agg (cc noV), .slice none 0 0, .int .i64 2])
   | some (c, r) => ∃ v A k, e = .returned (.tuple #[.agg (cc v), .slice A r.length k, .int .i64 0]) ∧ v.c = c ∧ In w' v ∧ Sl w' A k r
theorem GetOut.none {q : Option (Com × List Int)} {w w' : World} {e : Ending} (hq : q = none) (h : e = .returned (.tuple #[.agg (cc noV), .slice none 0 0, .int .i64 2])) (hb : Below w.heap.size w w') : GetOut q w e w' := by subst hq; exact ⟨hb, h⟩
theorem GetOut.some {q : Option (Com × List Int)} {w w' : World} {e : Ending} {c : Com} {r : List Int} (hq : q = some (c, r)) (v : Cv) (A : Option Addr) (k : Nat) (h : e = .returned (.tuple #[.agg (cc v), .slice A r.length k, .int .i64 0])) (hv : v.c = c) (hi : In w' v) (hS : Sl w' A k r) (hb : Below w.heap.size w w') : GetOut q w e w' := by
 subst hq
 exact ⟨hb, v, A, k, h, hv, hi, hS⟩
theorem wrap_asI {n : Nat} (h : n < 18446744073709551616) : IntKind.i64.wrap (n : Int) = asI n := by
 rw [IntKind.wrap_i64]
 unfold asI
 split <;> omega
theorem row_far {α : Type} {E : Cel.Cel α} {w : World} {base g n : Nat} {v : Value} {ps : List Idn} {x : α} (O : w.ownsRow base 75 32 v n (bv (flat ps))) (hv : v = .slice none 0 0 ∨ 0 < ps.length) (h : Cel.Box E w g x) (hno : NoU8 w g) : v.ownBlock = none ∨ v.ownBlock ≠ some g := by
 rcases hv with rfl | hp
 · exact .inl rfl
 · right
   rcases O.2 with ⟨rfl, h0⟩ | ⟨q, cap, cur, rfl, hb, hq, h1, h2, h3, h4⟩
   · have := O.1
     rw [bv_length, flat_length, h0] at this
     omega
   · intro e
     simp only [Value.ownBlock, Option.some.injEq] at e
     subst e
     have h32 : 0 < (flat ps).length := by rw [flat_length]; omega
     have hn : 0 < n * 32 := by have := O.1; rw [bv_length] at this; omega
     have hcell : w.cell? ⟨q, 0, Option.none⟩ = some (.int .u8 ((flat ps).getD 0 0)) := by
       rw [O.cellAt 0 hn, bv_at _ h32]
     have := hno 0 _ hcell
     cases this
theorem num_is {r : Rd} {g : Nat} {w : World} (D : Cel.Box RE w g r) (S : Sl w r.a r.k r.l) (hl : r.l.length ≤ 1099511627776) {l l2 : List Int} {n k : Nat} {bad f : Bool} (hr : r.l = l) (hb : r.bad = bad) (h : getL l = (n, k)) (e : l.drop k = l2) (hf : (bad || decide (k = 0)) = f) :
   Calls Tryz.prog 61 #[.pointer (some ⟨g, 0, none⟩)] w fun e w' => e = .returned (.int .u64 (n : Nat)) ∧ ∃ r', CmD.Read g r l2 f w w' r' := by
 subst hr hb e hf
 have := num_ret r g w D S hl
 rw [h] at this
 exact this
theorem id_is {r : Rd} {g : Nat} {w : World} (D : Cel.Box RE w g r) (S : Sl w r.a r.k r.l) {l : List Int} (hr : r.l = l) (hb : r.bad = false) :
   Calls Tryz.prog 62 #[.pointer (some ⟨g, 0, none⟩)] w fun e w' => e = .returned (.agg (cs (headI l))) ∧ ∃ r', CmD.Read g r (restI l) (decide (l.length < 32)) w w' r' := by
 subst hr
 have := id_ret r g w D S
 rw [hb, Bool.false_or] at this
 exact this
theorem far_ne {a b : Nat} (h : a ≠ b) : some a ≠ some b := fun e => h (Option.some.inj e)
structure Inv (f4 : Bool) (na nb ng : Int) (n : Nat) (l4 : List Int) (k : Nat) (rd : Rd) (cv : Cv) : Prop where
 com : cv.c = ⟨na, nb, ng, cv.c.ps, noO⟩
 nil : (Value.slice cv.a cv.c.ps.length cv.k = .slice none 0 0) ∨ 0 < cv.c.ps.length
 len : cv.c.ps.length ≤ l4.length + 1
 on : rd.bad = false → f4 = false ∧ idsL k l4 = some (cv.c.ps, rd.l)
 off : rd.bad = true → f4 = true ∨ idsL n l4 = none
theorem inv_start {f4 : Bool} {na nb ng : Int} {n : Nat} {l4 : List Int} {rd : Rd} (h1 : rd.l = l4) (h2 : rd.bad = f4) : Inv f4 na nb ng n l4 0 rd ⟨none, 0, ⟨na, nb, ng, [], noO⟩⟩ :=
 ⟨rfl, .inl rfl, Nat.zero_le _, fun h => ⟨by rw [← h2]; exact h, by rw [h1]; rfl⟩, fun h => .inl (by rw [← h2]; exact h)⟩
theorem inv_next {f4 : Bool} {na nb ng : Int} {n : Nat} {l4 : List Int} {k : Nat} {rd r' : Rd} {cv : Cv} (h : Inv f4 na nb ng n l4 k rd cv) (hb : rd.bad = false) (hB : ∀ x ∈ l4, B x) (hk : k < n) (h1 : r'.l = restI rd.l) (h2 : r'.bad = decide (rd.l.length < 32)) (A : Option Addr) (c : Nat) :
   Inv f4 na nb ng n l4 (k + 1) r' ⟨A, c, { cv.c with ps := cv.c.ps ++ [headI rd.l] }⟩ := by
 obtain ⟨o1, o2⟩ := h.on hb
 obtain ⟨l1, l2⟩ := idsL_len k o2
 refine ⟨?_, .inr (by simp), by simp only [List.length_append, List.length_singleton]; omega, fun hf => ⟨o1, ?_⟩, fun hf => .inr ?_⟩
 · have := h.com
   generalize cv.c = d at this ⊢
   rw [this]
 · rw [h2, decide_eq_false_iff_not] at hf
   rw [h1, restI, if_pos (by omega)]
   exact idsL_snoc k hB o2 (by omega)
 · rw [h2, decide_eq_true_eq] at hf
   exact idsL_stop k n o2 hf hk
theorem ne_of {o : Option Nat} {g : Nat} (h : o = none ∨ o ≠ some g) : some g ≠ o := by
 rcases h with h | h
 · rw [h]; simp
 · exact fun e => h e.symm
theorem fit_no : OpsC.Fit noO := ⟨by unfold I64 noO; simp, by unfold I64 noO; simp, Nat.zero_le _, Nat.zero_le _⟩
theorem wpList_store_id {ops : Array Oper} {rest : List Oper} {o : Oper} {a : Act} {w : World} {Q : Exit → Act → World → Prop} (hgd : o.guard = none) (x y : Operand) (ho : o.op = .store 75 x y)
   (w0 : World) (old : Idn) (t : TypeId) (hw : w = w0.alloc (.cells (cs old) t)) (z : Idn) (g : Nat) (hx : a.eval x = .pointer (some ⟨g, 0, none⟩)) (hg : g = w0.heap.size) (hy : a.eval y = .agg (cs z))
   (h : ∀ w1, IdW.Box w1 w0.heap.size z → Below w0.heap.size w0 w1 → w1.heap.size = w0.heap.size + 1 → wpList Tryz.prog ops Q rest (a.put o.dst undef) w1) : wpList Tryz.prog ops Q (o :: rest) a w := by
 subst hw
 subst hg
 refine wpList_store_row hgd 75 x y ho w0.heap.size (cs z) hx hy t (cs old) (heap_alloc_new w0 _) (info_cs z) (by rw [cs_size, cs_size]) (cs_one z) ?_
 rw [World.setRow_alloc_new]
 exact h _ (IdW.Box.new w0 z t) ((Below.refl _ _).alloc (Nat.le_refl _) _) (by simp)
theorem results_com {fn : Func} {p q r : Tmp} (h : fn.results = #[.cell p 29, .tmp q, .tmp r]) (tmps : Array Value) (w : World) (g : Nat) (v : Cv) (x y : Value)
   (hp : tmps.getD p undef = .pointer (some ⟨g, 0, none⟩)) (hq : tmps.getD q undef = x) (hr : tmps.getD r undef = y) (hg : Cel.Box CE w g v) : (results fn tmps).run Tryz.prog w = .ok (.tuple #[.agg (cc v), x, y]) w := by
 obtain ⟨t, ht⟩ := hg
 have hp' : tmps[p]?.getD undef = .pointer (some ⟨g, 0, none⟩) := by simpa using hp
 have hq' : tmps[q]?.getD undef = x := by simpa using hq
 have hr' : tmps[r]?.getD undef = y := by simpa using hr
 have hl := run_loadVar_row w g t 29 (CE.enc v).toArray (0, 0) _ ht CE.under CE.row (CE.size' v)
 simp [results, h, hp', hq', hr', asAddr, hl]
 rfl
theorem mayO_short {o : Opn} (h : mayO o = true) : o.key.size ≤ 8 ∧ o.elem.size ≤ 8 := by
 obtain ⟨hk, hr⟩ := mayO_kind h
 have h1 := keyL_len hk
 rw [bytesL_length] at h1
 refine ⟨by omega, ?_⟩
 rcases hr with ⟨_, hs⟩ | ⟨_, he⟩
 · have := (stepB_iff.1 hs).2.2.2
   have h2 : o.elem.size = 0 := by rw [← bytesL_length, this]; rfl
   omega
 · have h2 := keyL_len (elemB_iff.1 he).1
   rw [bytesL_length] at h2
   omega
theorem in_of_row {w : World} {base : Nat} {cv : Cv} (h : w.ownsRow base 75 32 (.slice cv.a cv.c.ps.length cv.k) cv.c.ps.length (bv (flat cv.c.ps))) : In w cv := by
 obtain ⟨A, c, e, S⟩ := SlI.own h
 injection e with e1 _ e3
 unfold In
 rw [e1, e3]
 exact S
theorem wpList_store_opn {ops : Array Oper} {rest : List Oper} {o : Oper} {a : Act} {w : World} {Q : Exit → Act → World → Prop} (hgd : o.guard = none) (x y : Operand) (ho : o.op = .store 27 x y)
   (w0 : World) (old : Array Value) (t : TypeId) (hw : w = w0.alloc (.cells old t)) (z : Opn) (g : Nat) (hx : a.eval x = .pointer (some ⟨g, 0, none⟩)) (hg : g = w0.heap.size) (hy : a.eval y = .agg (opc z)) (hs : old.size = 4)
   (h : ∀ w1, OpAt w1 w0.heap.size z → Below w0.heap.size w0 w1 → w1.heap.size = w0.heap.size + 1 → wpList Tryz.prog ops Q rest (a.put o.dst undef) w1) : wpList Tryz.prog ops Q (o :: rest) a w := by
 subst hw
 subst hg
 refine wpList_store_row hgd 27 x y ho w0.heap.size (opc z) hx hy t old (heap_alloc_new w0 _) (info_opc z) (by rw [hs]; rfl) (opc_one z) ?_
 rw [World.setRow_alloc_new]
 exact h _ (OpAt.new w0 z t) ((Below.refl _ _).alloc (Nat.le_refl _) _) (by simp)
theorem okay_op {c : Com} {na nb ng : Int} {o : Opn} (h : c = ⟨na, nb, ng, c.ps, noO⟩) (h1 : I64 na) (h2 : I64 nb) (h3 : I64 ng) (hm : mayO o = true) : Okay { c with op := o } := by
 have hs := mayO_short hm
 generalize c.ps = l at h
 subst h
 exact ⟨⟨h1, h2, h3, OpsE.mayO_fit hm⟩, by show o.key.size ≤ _; omega, by show o.elem.size ≤ _; omega⟩
def tree : Forks.Tree := .free 1 (.free 2 (.free 3 (.two 0 (.act 4 (.act 5 (.act 6 (.free 7 (.free 8 .ends))))) 4 (.two 0 (.act 5 (.act 6 (.free 7 (.free 8 .ends)))) 5 (.act 0 (.act 6 (.free 7 (.free 8 .ends))))))))
theorem okay_no {na nb ng : Int} {ps : List Idn} (h1 : I64 na) (h2 : I64 nb) (h3 : I64 ng) : Okay ⟨na, nb, ng, ps, noO⟩ :=
 ⟨⟨h1, h2, h3, fit_no⟩, Nat.zero_le _, Nat.zero_le _⟩
theorem info_i : (Tryz.prog.info? 3).map (·.size) = some 1 := by kernel_rfl
theorem info_p : (Tryz.prog.info? 25).map (·.size) = some 1 := by kernel_rfl
theorem nums_flag {bs l1 l2 l3 l4 : List Int} {a b g n ka kb kg kn : Nat} {f1 f2 f3 f4 : Bool} (h1 : getL bs = (a, ka)) (e1 : bs.drop ka = l1) (h2 : getL l1 = (b, kb)) (e2 : l1.drop kb = l2) (h3 : getL l2 = (g, kg)) (e3 : l2.drop kg = l3) (h4 : getL l3 = (n, kn)) (e4 : l3.drop kn = l4)
   (hf1 : (false || decide (ka = 0)) = f1) (hf2 : (f1 || decide (kb = 0)) = f2) (hf3 : (f2 || decide (kg = 0)) = f3) (hf4 : (f3 || decide (kn = 0)) = f4) : getK bs = if f4 = true then none else tailK a b g n l4 := by
 unfold getK
 rw [nums_four h1 e1 h2 e2 h3 e3 h4 e4]
 subst hf1 hf2 hf3 hf4
 by_cases c1 : ka = 0 <;> by_cases c2 : kb = 0 <;> by_cases c3 : kg = 0 <;> by_cases c4 : kn = 0 <;> simp [c1, c2, c3, c4]
end Go.Proofs.YtgoapaanmcmlmaaGreatDoor.CmG
namespace Go.Proofs.YtgoapaanmcmlmaaGreatDoor.DgR
set_option maxRecDepth 100000
open Go Go.Sort Go.RowKit Byt IdM IdW OpsM OpsW CmM StW CmW CmX CmY DgM DgN DgW
set_option maxRecDepth 100000 in
set_option maxHeartbeats 8000000 in
theorem few_ret (A : Option Addr) (cap : Nat) (l : List Cv) (m : Int) (w : World) (S : SlK w A cap l) :
   Calls Tryz.prog 19 #[.slice A l.length cap, .int .i64 m] w fun e w' => e = .returned (.bool (fewD (coms l) m)) ∧ Below w.heap.size w w' := by
 have hmax := S.len
 obtain ⟨r, hr⟩ : ∃ r, fewD (coms l) m = r := ⟨_, rfl⟩
 have HR : Hid (r = (decide ((l.length : Int) ≤ m) && (coms l).all fewK)) := aside (by rw [← hr]; unfold fewD; rw [coms_len])
 rw [hr]
 clear hr
 by_cases hm : (l.length : Int) ≤ m
 · have hg : ¬ m < (l.length : Int) := by omega
   have HR2 : Hid (r = (coms (l.drop 0)).all fewK) := aside (by rw [HR.out, decide_eq_true hm]; rfl)
   clear HR hm
   go_enter Tryz.func19, Tryz.ntmps19
   go_wp2_with (first | go_skip)
   clear hg
   go_loopw [5] (fun i wr => ∃ k : Nat, k ≤ l.length ∧ i = .int .i64 k ∧ Hid (r = (coms (l.drop k)).all fewK) ∧ Below w.heap.size w wr) (fun i _ => l.length - (intOf i).toNat)
   case atStart => exact ⟨0, Nat.zero_le _, rfl, HR2, Below.refl _ _⟩
   case round =>
     clear HR2
     obtain ⟨k, hk, rfl, HR, kb⟩ := hrel
     by_cases hlt : k < l.length
     · obtain ⟨b, off, rfl, hbw, hrg⟩ := S.plain (by omega)
       obtain ⟨x, hx⟩ : ∃ x, l[k]? = some x := ⟨_, List.getElem?_eq_getElem hlt⟩
       have hr1 := range_on (hrg k x hx) kb
       have p0 : (k : Int) < l.length := by omega
       have m0 : ((k : Int)).toNat = k := by omega
       have hc := fun W => CmX.few_ret x W
       obtain ⟨z, hz⟩ : ∃ z, fewK x.c = z := ⟨_, rfl⟩
       have HZ : Hid (r = (z && (coms (l.drop (k + 1))).all fewK)) := aside (by rw [HR.out, drop_at hx, ← hz]; rfl)
       rw [hz] at hc
       clear hrg S hx hz HR
       go_wp2_with (first | go_skip | (refine load_at rfl _ rfl _ _ rfl x hr1 ?_))
       refine (hc _).mono ?_
       rintro e w1 ⟨rfl, k1⟩
       have b1 := kb.trans (k1.mono kb.size)
       clear k1 kb hc hr1
       cases z with
       | false =>
         go_wp2_with (first | go_skip)
         go_ret
         exact ⟨StW.ret_bool (by rw [HZ.out]; rfl), b1⟩
       | true =>
         go_wp2_with (first | go_skip)
         go_roundw
         case rel => exact ⟨k + 1, by omega, by go_num, aside (by rw [HZ.out]; rfl), b1⟩
         case measure => simp [intOf]; omega
     · have pn : ¬ (k : Int) < l.length := by omega
       have HT : Hid (r = true) := aside (by rw [HR.out, List.drop_of_length_le (by omega)]; rfl)
       clear HR S
       go_wp2_with (first | go_skip)
       go_ret
       exact ⟨StW.ret_bool HT.out.symm, kb⟩
 · have hg : m < (l.length : Int) := by omega
   have HF : Hid (r = false) := aside (by rw [HR.out, decide_eq_false hm]; rfl)
   clear HR hm
   go_enter Tryz.func19, Tryz.ntmps19
   go_wp2_with (first | go_skip)
   go_ret
   exact ⟨StW.ret_bool HF.out.symm, Below.refl _ _⟩
theorem atI_first {all : List Idn} {a : Idn} {k : Nat} (h : all[k]? = some a) (hn : ∀ j, j < k → all[j]? ≠ some a) : atI all a = k := by
 cases hq : idx all a with
 | none => exact absurd (List.mem_of_getElem? h) (idx_none.1 hq)
 | some p =>
   obtain ⟨h1, h2⟩ := idx_some hq
   have e : p = k := by
     rcases Nat.lt_trichotomy p k with hlt | e | hgt
     · exact absurd h1 (hn p hlt)
     · exact e
     · exact absurd h (h2 k hgt)
   unfold atI
   rw [hq, e]
theorem atI_none {all : List Idn} {a : Idn} (hn : ∀ j, j < all.length → all[j]? ≠ some a) : atI all a = -1 := by
 have : idx all a = none := idx_none.2 fun hm => by
   obtain ⟨j, hj⟩ := List.mem_iff_getElem?.1 hm
   exact hn j (List.getElem?_eq_some_iff.1 hj).1 hj
 unfold atI
 rw [this]
set_option maxRecDepth 100000 in
set_option maxHeartbeats 8000000 in
theorem at_ret (A : Option Addr) (cap : Nat) (l : List Idn) (x : Idn) (w : World) (S : SlI w A cap l) :
   Calls Tryz.prog 68 #[.slice A l.length cap, .agg (cs x)] w fun e w' => e = .returned (.int .i64 (atI l x)) ∧ Below w.heap.size w w' := by
 have hcap := S.1
 have hmax : l.length ≤ 9223372036854775807 := by have := S.2.1; unfold maxLen at this; omega
 obtain ⟨r, hr0⟩ : ∃ r, atI l x = r := ⟨_, rfl⟩
 rw [hr0]
 have hr := aside hr0
 clear hr0
 have B1 : IdW.Box (w.alloc (.cells (cs x) 75)) w.heap.size x := IdW.Box.new w x _
 go_enter Tryz.func68, Tryz.ntmps68
 go_wp2_with fail
 go_loopw [5] (fun i wr => ∃ k : Nat, k ≤ l.length ∧ i = .int .i64 k ∧ Hid (∀ j, j < k → l[j]? ≠ some x) ∧ IdW.Box wr w.heap.size x ∧ Below w.heap.size w wr) (fun i _ => l.length - (intOf i).toNat)
 case atStart => exact ⟨0, Nat.zero_le _, rfl, aside (fun j hj => absurd hj (Nat.not_lt_zero j)), B1, (Below.refl _ _).alloc (Nat.le_refl _) _⟩
 case round =>
   clear B1
   obtain ⟨k, hk, rfl, he, B1, kb⟩ := hrel
   by_cases hlt : k < l.length
   · obtain ⟨b, off, rfl, hbw, hrg⟩ := S.plain (by omega)
     have hr1 := IdW.range_below (hrg k hlt) kb
     obtain ⟨y, hy⟩ : ∃ y, l.getD k nought = y := ⟨_, rfl⟩
     have hyk : l[k]? = some y := by rw [← hy, List.getD_eq_getElem?_getD, List.getElem?_eq_getElem hlt]; rfl
     rw [hy] at hr1
     have HY := aside hyk
     have p0 : (k : Int) < l.length := by omega
     have m0 : ((k : Int)).toNat = k := by omega
     clear hrg S hy hyk
     have heq := fun W => IdW.equal W 9998 y x
     by_cases hyx : y = x
     · have hl : Hid (r = (k : Int)) := aside (by rw [← hr.out]; exact atI_first (by rw [HY.out, hyx]) he.out)
       simp only [hyx, decide_true] at heq
       subst hyx
       go_wp2
       refine wp_region_quiet_lit (by kernel_rfl) (by kernel_rfl) ?_
       repeat (first | (refine IdV.wpQuiet_load_id rfl _ rfl _ _ rfl y (fun _ ⟨_, e⟩ => by rw [e]; exact hr1) ?_; simp only [Act.put, List.setIfInBounds_toArray, List.set_cons_succ, List.set_cons_zero]) | (refine IdV.wpQuiet_load_id rfl _ rfl _ _ rfl y (fun _ ⟨_, e⟩ => by rw [e]; exact B1.range) ?_; simp only [Act.put, List.setIfInBounds_toArray, List.set_cons_succ, List.set_cons_zero]) | go_big_quiet_step (fail))
       refine wpQuiet_nil ?_
       rintro _ ⟨nq, rfl⟩
       go_wp2
       go_ret
       exact ⟨by rw [hl.out]; rfl, below_drew kb _⟩
     · simp only [hyx, decide_false] at heq
       go_wp2
       refine wp_region_quiet_lit (by kernel_rfl) (by kernel_rfl) ?_
       repeat (first | (refine IdV.wpQuiet_load_id rfl _ rfl _ _ rfl y (fun _ ⟨_, e⟩ => by rw [e]; exact hr1) ?_; simp only [Act.put, List.setIfInBounds_toArray, List.set_cons_succ, List.set_cons_zero]) | (refine IdV.wpQuiet_load_id rfl _ rfl _ _ rfl x (fun _ ⟨_, e⟩ => by rw [e]; exact B1.range) ?_; simp only [Act.put, List.setIfInBounds_toArray, List.set_cons_succ, List.set_cons_zero]) | go_big_quiet_step (fail))
       refine wpQuiet_nil ?_
       rintro _ ⟨nq, rfl⟩
       go_wp2
       go_roundw
       case rel =>
         refine ⟨k + 1, by omega, by go_num, aside (fun j hj => ?_), B1.drewN _, below_drew kb _⟩
         by_cases hjk : j = k
         · subst hjk
           rw [HY.out]
           exact fun e => hyx (Option.some.inj e)
         · exact he.out j (by omega)
       case measure => simp [intOf]; omega
   · have hl : Hid (r = -1) := aside (by
       rw [← hr.out]
       exact atI_none fun j hj => he.out j (by omega))
     go_wp2
     go_ret
     exact ⟨by rw [hl.out]; rfl, kb⟩
def NewD (l : List Idn) (w : World) (e : Ending) (w' : World) : Prop := ∃ A cap, e = .returned (.slice A l.length cap) ∧ SlI w' A cap l ∧ Below w.heap.size w w'
theorem take_map {l : List Com} {k : Nat} {c : Com} (h : l[k]? = some c) : (l.take (k + 1)).map hashK = (l.take k).map hashK ++ [hashK c] := by
 obtain ⟨hk, e⟩ := List.getElem?_eq_some_iff.1 h
 rw [List.take_succ_eq_append_getElem hk, List.map_append, e]
 rfl
set_option maxRecDepth 100000 in
set_option maxHeartbeats 8000000 in
theorem ids_ret (A : Option Addr) (cap : Nat) (l : List Cv) (w : World) (S : SlK w A cap l) (ho : ∀ v ∈ l, CmR.Okay v.c) (hl : l.length ≤ 1000) :
   Calls Tryz.prog 64 #[.slice A l.length cap] w (NewD (idsD (coms l)) w) := by
 obtain ⟨r, hr⟩ : ∃ r, idsD (coms l) = r := ⟨_, rfl⟩
 have HR : Hid (r = if (coms (l.drop 0)).all mayK = true then (coms l).map hashK else []) := aside (by rw [← hr]; rfl)
 rw [hr]
 clear hr
 unfold NewD
 go_enter Tryz.func64, Tryz.ntmps64
 go_wp2_with (first | go_skip)
 go_loopw [3, 4] (fun o i wr => ∃ k : Nat, k ≤ l.length ∧ i = .int .i64 k ∧ Hid (r = if (coms (l.drop k)).all mayK = true then (coms l).map hashK else []) ∧ Hid (wr.ownsRow w.heap.size 75 32 o k (bv (flat (((coms l).take k).map hashK)))) ∧ Below w.heap.size w wr) (fun _ i _ => l.length - (intOf i).toNat)
 case atStart => exact ⟨0, Nat.zero_le _, rfl, HR, aside ⟨rfl, .inl ⟨rfl, rfl⟩⟩, Below.refl _ _⟩
 case round =>
   clear HR
   obtain ⟨k, hk, rfl, HR, HO, kb⟩ := hrel
   by_cases hlt : k < l.length
   · obtain ⟨b, off, rfl, hbw, hrg⟩ := S.plain (by omega)
     obtain ⟨x, hx⟩ : ∃ x, l[k]? = some x := ⟨_, List.getElem?_eq_getElem hlt⟩
     have hr1 := range_on (hrg k x hx) kb
     have p0 : (k : Int) < l.length := by omega
     have m0 : ((k : Int)).toNat = k := by omega
     have hxm := List.mem_of_getElem? hx
     have hc := hash_doc x _ ((S.each x hxm).1.below kb) (ho x hxm)
     unfold HashOut at hc
     have HT := aside (take_map (coms_at hx))
     have HD : Hid ((coms (l.drop k)).all mayK = (mayK x.c && (coms (l.drop (k + 1))).all mayK)) := aside (by rw [drop_at hx]; rfl)
     clear hrg hx hxm
     cases hm : mayK x.c with
     | false =>
       obtain ⟨y1, y2, y3⟩ := putB_no hm
       rw [y2] at hc
       have HE : Hid (r = []) := aside (by rw [HR.out, HD.out, hm]; rfl)
       clear HR HD y1 y2 y3 hm HO
       go_wp2_with (first | go_skip | (refine load_at rfl _ rfl _ _ rfl x hr1 ?_))
       refine hc.mono ?_
       rintro e w1 ⟨rfl, k1⟩
       have b1 := kb.trans (k1.mono kb.size)
       clear hc kb k1 hr1
       go_wp2_with (first | go_skip | (refine IdJ.wpList_alloc_id rfl rfl ?_) | (refine CmG.wpList_store_id rfl _ _ rfl _ nought _ rfl (hashI x.c) _ rfl rfl rfl ?_; intro w2 G2 k2 s2; have b2 := b1.trans (k2.mono b1.size)))
       go_ret
       rw [HE.out]
       exact ⟨none, 0, rfl, SlI.nil _, b2⟩
     | true =>
       obtain ⟨y1, y2, y3⟩ := putB_yes hm
       rw [y2, y3] at hc
       have HE : Hid (r = if (coms (l.drop (k + 1))).all mayK = true then (coms l).map hashK else []) := aside (by rw [HR.out, HD.out, hm, Bool.true_and])
       clear HR HD y1 y2 y3 hm
       obtain ⟨h, hh⟩ : ∃ h, hashK x.c = h := ⟨_, rfl⟩
       rw [hh] at hc HT
       clear hh
       obtain ⟨xs, hxs⟩ : ∃ xs, ((coms l).take k).map hashK = xs := ⟨_, rfl⟩
       rw [hxs] at HO HT
       clear hxs
       go_wp2_with (first | go_skip | (refine load_at rfl _ rfl _ _ rfl x hr1 ?_))
       refine hc.mono ?_
       rintro e w1 ⟨rfl, k1⟩
       have b1 := kb.trans (k1.mono kb.size)
       have O1 := aside (owns_below HO.out k1)
       clear hc kb k1 hr1 HO
       go_wp2_with (first | go_skip | (refine IdJ.wpList_alloc_id rfl rfl ?_) | (refine CmG.wpList_store_id rfl _ _ rfl _ nought _ rfl h _ rfl rfl rfl ?_; intro w2 G2 k2 s2; have b2 := b1.trans (k2.mono b1.size); have O2 := aside (owns_below O1.out k2)) | (refine wpList_load_id rfl _ rfl _ _ rfl h G2.range ?_) | (refine build_one rfl _ rfl h rfl ?_; intro w3 S3 k3; have b3 := b2.trans (k3.mono b2.size); have O3 := aside (owns_below O2.out k3)) | (refine wpList_append_ids rfl (.tmp 23) (.tmp 25) rfl w.heap.size _ k xs rfl O3.out _ 1 1 [h] rfl rfl S3 (by omega) b3.size ?_; intro v6 w6 o6 g6))
       have b6 : Below w.heap.size w w6 := below_grown b3 b3.size g6 (fun q hq => (O3.out.lt q hq).1)
       go_roundw
       case rel => exact ⟨k + 1, by omega, by go_num, HE, aside (by rw [HT.out]; exact o6), b6⟩
       case measure => simp [intOf]; omega
   · have e : k = l.length := by omega
     have HE : Hid (r = (coms l).map hashK) := aside (by rw [HR.out, List.drop_of_length_le (by omega)]; rfl)
     have HO2 := HO.out
     rw [List.take_of_length_le (by rw [coms_len]; omega)] at HO2
     have he := HE.out
     obtain ⟨R6, hR6⟩ : ∃ R, (coms l).map hashK = R := ⟨_, rfl⟩
     rw [hR6] at he HO2
     have HE2 := aside he
     clear hR6 he HE
     obtain ⟨A6, c6, rfl, S6⟩ := SlI.own HO2
     have pn : ¬ (k : Int) < l.length := by omega
     clear HR HO HO2
     go_wp2_with (first | go_skip)
     go_ret
     rw [HE2.out]
     exact ⟨A6, c6, rfl, S6, kb⟩
set_option maxRecDepth 100000 in
set_option maxHeartbeats 8000000 in
theorem list_ret (A A' : Option Addr) (cap cap' : Nat) (l m : List Cv) (w : World) (S : SlK w A cap l) (T : SlK w A' cap' m) :
   Calls Tryz.prog 14 #[.slice A l.length cap, .slice A' m.length cap'] w fun e w' => e = .returned (.bool (listB (coms l) (coms m))) ∧ Below w.heap.size w w' := by
 have hmax := S.len
 have hmax' := T.len
 obtain ⟨r, hr⟩ : ∃ r, listB (coms l) (coms m) = r := ⟨_, rfl⟩
 rw [hr]
 by_cases hlen : l.length = m.length
 · have hl0 : ((l.length : Int) != m.length) = false := by simp [hlen]
   have HR : Hid (r = listB (coms (l.drop 0)) (coms (m.drop 0))) := aside hr.symm
   have HL := aside hlen
   clear hr hlen
   go_enter Tryz.func14, Tryz.ntmps14
   go_wp2_with (first | go_skip)
   clear hl0
   go_loopw [5] (fun i wr => ∃ k : Nat, k ≤ l.length ∧ i = .int .i64 k ∧ Hid (r = listB (coms (l.drop k)) (coms (m.drop k))) ∧ Below w.heap.size w wr) (fun i _ => l.length - (intOf i).toNat)
   case atStart => exact ⟨0, Nat.zero_le _, rfl, HR, Below.refl _ _⟩
   case round =>
     clear HR
     obtain ⟨k, hk, rfl, HR, kb⟩ := hrel
     by_cases hlt : k < l.length
     · have hlt2 : k < m.length := by have := HL.out; omega
       obtain ⟨b, off, rfl, hbw, hrg⟩ := S.plain (by omega)
       obtain ⟨b', off', rfl, hbw', hrg'⟩ := T.plain (by omega)
       obtain ⟨x, hx⟩ : ∃ x, l[k]? = some x := ⟨_, List.getElem?_eq_getElem hlt⟩
       obtain ⟨y, hy⟩ : ∃ y, m[k]? = some y := ⟨_, List.getElem?_eq_getElem hlt2⟩
       have rx := range_on (hrg k x hx) kb
       have ry := range_on (hrg' k y hy) kb
       have IX := (S.each x (List.mem_of_getElem? hx)).1.below kb
       have IY := (T.each y (List.mem_of_getElem? hy)).1.below kb
       have p0 : (k : Int) < l.length := by omega
       have p1 : (k : Int) < m.length := by omega
       have m0 : ((k : Int)).toNat = k := by omega
       obtain ⟨z, hz⟩ : ∃ z, CmR.sameK x.c y.c = z := ⟨_, rfl⟩
       have HZ : Hid (r = (z && listB (coms (l.drop (k + 1))) (coms (m.drop (k + 1))))) := aside (by rw [HR.out, drop_at hx, drop_at hy, ← hz]; rfl)
       have HQ := aside hz
       clear hrg hrg' S T hx hy hz HR
       go_wp2_with (first | go_skip)
       refine Grow.region [(0, true), (1, true), (2, true), (3, true), (4, true), (5, true), (6, true), (7, true), (8, false), (9, true)] (by kernel_rfl) (by kernel_rfl) rfl (by kernel_rfl) (by intro c a d v w h; cases d <;> exact h) ?_
       rename World => V
       have kd := below_drew1 (Below.refl V.heap.size V)
       have rx' := range_on rx kd
       have ry' := range_on ry kd
       have IX' := IX.below kd
       have IY' := IY.below kd
       have kb' := kb.trans (kd.mono kb.size)
       clear rx ry IX IY kb kd
       generalize V.drew = wz at rx' ry' IX' IY' kb' ⊢
       repeat (first | (refine Grow.reads rfl rfl ?_; go_big_quiet_want; refine quiet_com _ rfl _ _ rfl x rx' ?_; go_big_quiet_on; refine wpQuiet_nil ?_; simp only [Act.put, List.setIfInBounds_toArray, List.set_cons_succ, List.set_cons_zero]) | (refine Grow.reads rfl rfl ?_; go_big_quiet_want; refine quiet_com _ rfl _ _ rfl y ry' ?_; go_big_quiet_on; refine wpQuiet_nil ?_; simp only [Act.put, List.setIfInBounds_toArray, List.set_cons_succ, List.set_cons_zero]) | (refine Grow.reads rfl rfl ?_; go_big_quiet_step (fail); refine wpQuiet_nil ?_))
       have hc := CmR.same_ret x y _ IX' IY'
       rw [HQ.out] at hc
       refine Grow.acts rfl ?_
       go_wp2_with (first | go_skip)
       refine hc.mono ?_
       rintro e w1 ⟨rfl, k1⟩
       go_wp2_with (first | go_skip)
       refine ⟨k1, ?_⟩
       have b1 := kb'.trans (k1.mono kb'.size)
       clear hc k1 kb' rx' ry' IX' IY'
       repeat (refine Grow.reads rfl rfl ?_; go_big_quiet_step (fail); refine wpQuiet_nil ?_)
       refine Grow.ends ?_
       cases z with
       | false =>
         go_wp2_with (first | go_skip)
         go_ret
         exact ⟨StW.ret_bool (by rw [HZ.out]; rfl), b1⟩
       | true =>
         go_wp2_with (first | go_skip)
         go_roundw
         case rel => exact ⟨k + 1, by omega, by go_num, aside (by rw [HZ.out]; rfl), b1⟩
         case measure => simp [intOf]; omega
     · have pn : ¬ (k : Int) < l.length := by omega
       have HT : Hid (r = true) := aside (by rw [HR.out, List.drop_of_length_le (by omega), List.drop_of_length_le (by have := HL.out; omega)]; rfl)
       clear HR S T
       go_wp2_with (first | go_skip)
       go_ret
       exact ⟨StW.ret_bool HT.out.symm, kb⟩
 · have hl0 : ((l.length : Int) != m.length) = true := by simp; omega
   have HF : Hid (r = false) := aside (by rw [← hr]; exact listB_len (by rw [coms_len, coms_len]; exact hlen))
   clear hr hlen
   go_enter Tryz.func14, Tryz.ntmps14
   go_wp2_with (first | go_skip)
   go_ret
   exact ⟨StW.ret_bool HF.out.symm, Below.refl _ _⟩
end Go.Proofs.YtgoapaanmcmlmaaGreatDoor.DgR
