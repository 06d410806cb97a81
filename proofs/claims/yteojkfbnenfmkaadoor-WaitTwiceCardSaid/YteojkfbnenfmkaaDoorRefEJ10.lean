/- What the document's answer's Num, Fold, Unfold and Text of package enc return: contracts. | What the document's Put of package ops returns: contracts. | What the document's Put of package commit returns: a contract. | One id in a box: stored, built, handed back beside a value. No condition. | What the document's Hash of package commit returns: a contract. | What the document's Put and Hash of package commit answer, in the form in which both are told. No condition. | What the document's answer's Get of package enc returns: a contract. | The document's reader of package commit: in memory, and what its Num and ID return: contracts. | A region that draws its order: what reads no memory is taken first, and of the rest every order is walked, as a tree. No condition. | What walks of Get of package commit lean on. No condition. -/
import Derived.Test.YteojkfbnenfmkaaDoorEncMJ6
import Derived.Test.YteojkfbnenfmkaaDoorEvWJ7
import Derived.Test.YteojkfbnenfmkaaDoorOpsP
import Derived.Test.YteojkfbnenfmkaaDoorCmRJ6
import Derived.Test.YteojkfbnenfmkaaDoorIdBJ5
import Derived.Test.YteojkfbnenfmkaaDoorGrow
namespace Go.Proofs.YteojkfbnenfmkaaDoor.RefE
set_option maxRecDepth 100000
open Go.RowKit Byt EncM EncC



end Go.Proofs.YteojkfbnenfmkaaDoor.RefE
namespace Go.Proofs.YteojkfbnenfmkaaDoor.OpsS
set_option maxRecDepth 100000
open Go Go.RowKit Go.Sort Byt OpsM OpsK OpsW OpsC EncM EncC OpsP





end Go.Proofs.YteojkfbnenfmkaaDoor.OpsS
namespace Go.Proofs.YteojkfbnenfmkaaDoor.CmP
set_option maxRecDepth 100000
open Go Go.RowKit Byt EncM EncC EncT IdM IdW OpsM OpsW CmM StW CmW CmR

end Go.Proofs.YteojkfbnenfmkaaDoor.CmP
namespace Go.Proofs.YteojkfbnenfmkaaDoor.IdJ
set_option maxRecDepth 100000
open Go Go.RowKit IdM Byt IdW IdB

theorem Box.put {w : World} {g : Nat} {x y : Idn} (h : Box w g x) (i : Nat) (v : Value) (e : (cs x).setIfInBounds i v = cs y) : Box (w.setCell ⟨g, i, none⟩ v) g y := by
  obtain ⟨t, ht⟩ := h
  exact ⟨t, by rw [heap_setCell_same w g i (cs x) t v ht, e]⟩
theorem Box.row {w : World} {g : Nat} {x : Idn} (h : Box w g x) (y : Idn) : Box (w.setRow g (cs y)) g y := by
  obtain ⟨t, ht⟩ := h
  exact ⟨t, setRow_heap w g (cs x) (cs y) t (0, 0) ht⟩
theorem below_row {B g : Nat} {w0 w : World} (hb : Below B w0 w) (hg : B ≤ g) (c : Array Value) : Below B w0 (w.setRow g c) :=
  hb.trans ⟨rfl, rfl, rfl, by simp [World.setRow], fun k hk => setRow_other w g k c (by omega)⟩
/-- An id stored into a box. -/
theorem wpList_store_box {ops : Array Oper} {rest : List Oper} {o : Oper} {a : Act} {w : World} {Q : Exit → Act → World → Prop} (hgd : o.guard = none) (x y : Operand) (ho : o.op = .store 42 x y)
    (g : Nat) (hx : a.eval x = .pointer (some ⟨g, 0, none⟩)) (old z : Idn) (hb : Box w g old) (hy : a.eval y = .agg (cs z))
    (h : wpList Tryd.prog ops Q rest (a.put o.dst undef) (w.setRow g (cs z))) : wpList Tryd.prog ops Q (o :: rest) a w := by
  obtain ⟨t, ht⟩ := hb
  exact wpList_store_row hgd 42 x y ho g (cs z) hx hy t (cs old) ht (info_cs z) (by rw [cs_size, cs_size]) (cs_one z) h
theorem build0 (w : World) : (Instr.build 42 #[]).run Tryd.prog w = .ok (.agg (cs nought)) w := Go.run_build w 42 _ _ (by kernel_rfl)
theorem wpList_build0 {ops : Array Oper} {rest : List Oper} {o : Oper} {a : Act} {w : World} {Q : Exit → Act → World → Prop} (hgd : o.guard = none) (ho : o.op = .build 42 #[])
    (h : wpList Tryd.prog ops Q rest (a.put o.dst (.agg (cs nought))) w) : wpList Tryd.prog ops Q (o :: rest) a w := by
  refine wpList_plain hgd fun K hK => ?_
  unfold Oper.wp execOp
  simp only [ho, List.map_toArray, List.map_nil, Sem.run_bind, build0, Result.andThen_ok, Sem.run_pure]
  exact hK _ _ h
theorem wpList_alloc_id {ops : Array Oper} {rest : List Oper} {o : Oper} {a : Act} {w : World} {Q : Exit → Act → World → Prop} (hgd : o.guard = none) (ho : o.op = .alloc 42)
    (h : wpList Tryd.prog ops Q rest (a.put o.dst (.pointer (some ⟨w.heap.size, 0, none⟩))) (w.alloc (.cells (cs nought) 42))) : wpList Tryd.prog ops Q (o :: rest) a w := by
  refine wpList_plain hgd fun K hK => ?_
  have zv := zero_v w
  unfold Oper.wp execOp
  simp only [ho, Instr.alloc, newVar, newRow, Sem.run_bind, zv, Result.andThen_ok, Sem.run_pure, Value.cells]
  exact hK _ _ h
theorem results_box {fn : Func} {p q : Tmp} (h : fn.results = #[.cell p 42, .tmp q]) (tmps : Array Value) (w : World) (g : Nat) (x : Idn) (v : Value)
    (hp : tmps.getD p undef = .pointer (some ⟨g, 0, none⟩)) (hq : tmps.getD q undef = v) (hg : Box w g x) : (results fn tmps).run Tryd.prog w = .ok (.tuple #[.agg (cs x), v]) w := by
  obtain ⟨t, ht⟩ := hg
  have hp' : tmps[p]?.getD undef = .pointer (some ⟨g, 0, none⟩) := by simpa using hp
  have hq' : tmps[q]?.getD undef = v := by simpa using hq
  simp [results, h, hp', hq', asAddr, run_loadVar_row w g t 42 (cs x) (0, 0) _ ht Tryd.underlying42 rfl (info_cs x)]
end Go.Proofs.YteojkfbnenfmkaaDoor.IdJ
namespace Go.Proofs.YteojkfbnenfmkaaDoor.CmH
set_option maxRecDepth 100000
open Go Go.RowKit Byt IdM IdW OpsM OpsW CmM StW CmW CmR CmP CmY

end Go.Proofs.YteojkfbnenfmkaaDoor.CmH
namespace Go.Proofs.YteojkfbnenfmkaaDoor.CmY
set_option maxRecDepth 100000
open Go Go.Sort Go.RowKit Byt IdM IdW OpsM OpsW CmM StW CmW

end Go.Proofs.YteojkfbnenfmkaaDoor.CmY
namespace Go.Proofs.YteojkfbnenfmkaaDoor.RefF
set_option maxRecDepth 100000
open Go.RowKit Byt BytR EncM EncC RefE


end Go.Proofs.YteojkfbnenfmkaaDoor.RefF
namespace Go.Proofs.YteojkfbnenfmkaaDoor.CmD
set_option maxRecDepth 100000
open Go Go.Sort Go.RowKit Byt EncM EncC IdM IdW IdB OpsM CmM StW CmW

/-- A byte. -/
def isU8 : Value → Bool
  | .int .u8 _ => true
  | _ => false
/-- No cell of a block is a byte. -/
def NoU8 (w : World) (g : Nat) : Prop := ∀ j v, w.cell? ⟨g, j, none⟩ = some v → isU8 v = false
theorem far_cell {w w' : World} {g : Nat} {x : Addr} {n : Int} (h : w.cell? x = some (.int .u8 n)) (hn : NoU8 w g) (hg : w.grownBy w' (some g)) : w'.cell? x = some (.int .u8 n) := by
  have hlt := block_lt_of_cell h
  have hne : some x.block ≠ some g := by
    intro e
    injection e with e
    have hs := World.cell?_spot h
    have : x = ⟨g, x.off, none⟩ := by
      cases x with
      | mk b o s =>
        simp only at e hs
        rw [e, hs]
    rw [this] at h
    have := hn _ _ h
    cases this
  unfold World.cell? at h ⊢
  rw [hg.block _ hlt hne]
  exact h
theorem sli_far {w w' : World} {g cap : Nat} {A : Option Addr} {l : List Idn} (h : SlI w A cap l) (hn : NoU8 w g) (hg : w.grownBy w' (some g)) : SlI w' A cap l := by
  obtain ⟨h1, h2, h5⟩ := h
  refine ⟨h1, h2, ?_⟩
  rcases h5 with h5 | ⟨x, rfl, hc⟩
  · exact .inl h5
  · exact .inr ⟨x, rfl, fun i hi => far_cell (hc i hi) hn hg⟩
theorem no_cm {w : World} {g : Nat} {c : Cv} (h : Cel.Box CE w g c) : NoU8 w g := by
  intro j v hv
  obtain ⟨t, ht⟩ := h
  rw [cell_of_row w g j _ t (0, 0) ht, List.getElem?_toArray] at hv
  match j, hv with
  | 0, hv => simp [CE] at hv; rw [← hv]; rfl
  | 1, hv => simp [CE] at hv; rw [← hv]; rfl
  | 2, hv => simp [CE] at hv; rw [← hv]; rfl
  | 3, hv => simp [CE] at hv; rw [← hv]; rfl
  | 4, hv => simp [CE] at hv; rw [← hv]; rfl
  | 5, hv => simp [CE] at hv; rw [← hv]; rfl
  | 6, hv => simp [CE] at hv; rw [← hv]; rfl
  | 7, hv => simp [CE] at hv; rw [← hv]; rfl
  | j + 8, hv => simp [CE] at hv
/-- What a turn of the reader leaves: its block alone is another one. -/
structure Turned (g : Nat) (w w' : World) : Prop where
  grown : w.grownBy w' (some g)
  below : ∀ B, B ≤ g → Below B w w'
theorem Turned.trans {g : Nat} {w w1 w2 : World} (h : Turned g w w1) (k : Turned g w1 w2) : Turned g w w2 := ⟨h.grown.trans k.grown, fun B hB => (h.below B hB).trans (k.below B hB)⟩
end Go.Proofs.YteojkfbnenfmkaaDoor.CmD
namespace Go.Proofs.YteojkfbnenfmkaaDoor.Forks
set_option maxRecDepth 100000
open Go Go.Sort Go.RowKit

/-- The orders that are walked. -/
inductive Tree where
  | ends : Tree
  | free (i : Nat) (t : Tree) : Tree
  | act (i : Nat) (t : Tree) : Tree
  | two (i : Nat) (t : Tree) (j : Nat) (u : Tree) : Tree
def Tree.size : Tree → Nat
  | .ends => 0
  | .free _ t => t.size + 1
  | .act _ t => t.size + 1
  | .two _ t _ _ => t.size + 1

section
variable {P : Program} {ops : Array Oper} {Q : Exit → Act → World → Prop} {md : Region.Mode}

def treeB (md : Region.Mode) (ops : Array Oper) : Tree → Array Bool → Bool
  | .ends, listed => (Region.ready md ops listed).isEmpty
  | .free i t, listed => (Region.ready md ops listed).contains i && (Region.free md ops listed i && treeB md ops t (listed.setIfInBounds i true))
  | .act i t, listed => Region.ready md ops listed == [i] && treeB md ops t (listed.setIfInBounds i true)
  | .two i t j u, listed => Region.ready md ops listed == [i, j] && (t.size == u.size && (treeB md ops t (listed.setIfInBounds i true) && treeB md ops u (listed.setIfInBounds j true)))

/-- One operation that is carried out. -/
def One (P : Program) (ops : Array Oper) (Q : Exit → Act → World → Prop) (i : Nat) (K : Act → World → Prop) (a : Act) (w : World) : Prop := ∃ o, ops[i]? = some o ∧ wpList P ops (Exit.then K Q) [o] a w
/-- What is asked of each operation, in these orders. -/
def Seq (P : Program) (ops : Array Oper) (Q : Exit → Act → World → Prop) : Tree → Act → World → Prop
  | .ends, a, w => Q .normal a w
  | .free i t, a, w => ∃ o, ops[i]? = some o ∧ ∃ v, Yields P ops o v a ∧ Seq P ops Q t (a.put o.dst v) w
  | .act i t, a, w => One P ops Q i (Seq P ops Q t) a w
  | .two i t j u, a, w => One P ops Q i (Seq P ops Q t) a w ∧ One P ops Q j (Seq P ops Q u) a w

theorem One.op {i : Nat} {K K' : Act → World → Prop} {a : Act} {w : World} (h : One P ops Q i K a w) (on : ∀ a' w', K a' w' → K' a' w') : wpOp P ops Q i K' a w := by
  obtain ⟨o, ho, h⟩ := h
  have on' : ∀ a' w', wpList P ops (Exit.then K Q) [] a' w' → K' a' w' := by
    intro a' w' hh
    unfold wpList at hh
    exact on _ _ hh
  unfold wpOp
  simp only [ho]
  unfold wpList at h
  split
  · rename_i hw
    rw [if_pos hw] at h
    rcases h with h | ⟨h, a', w', hl⟩
    · refine .inl ?_
      unfold Oper.wp at h ⊢
      generalize (execOp a.eval o).run P w = x at h ⊢
      cases x with
      | ok n u =>
        cases n <;> simp only [Oper.upon] at h ⊢
        case enter f args =>
          refine Calls.mono h fun e w'' he => ?_
          cases e with
          | returned v => exact on' _ _ he
          | panicked c => exact he
          | outgrown => exact he
        case row row args => exact Rows.mono h fun v w'' he => on' _ _ he
        all_goals exact on' _ _ h
      | halt x u => cases x <;> simp only [Oper.upon] at h ⊢; exact h
    · exact .inr ⟨h, a', w', hl⟩
  · rename_i hw
    rw [if_neg hw] at h
    unfold wpList at h
    exact on _ _ h

theorem seq_any (hs : Region.noSelect ops = true) (hQ : ∀ c a d v w, Q (.panic c) (a.put d v) w → Q (.panic c) a w) : ∀ (t : Tree) (listed : Array Bool) (a : Act) (w : World),
    treeB md ops t listed = true → Seq P ops Q t a w → wpAny P md ops Q t.size listed a w
  | .ends, listed, a, w, hB, h => ⟨by simpa [treeB] using hB, h⟩
  | .free i t, listed, a, w, hB, ⟨o, ho, v, hy, h⟩ => by
    simp only [treeB, Bool.and_eq_true] at hB
    obtain ⟨h1, h2, h3⟩ := hB
    exact wpAny_take ho hs h2 h1 (fun c a w => hQ c a o.dst v w) hy (seq_any hs hQ t _ _ _ h3 h)
  | .act i t, listed, a, w, hB, h => by
    simp only [treeB, Bool.and_eq_true, beq_iff_eq] at hB
    obtain ⟨h1, h3⟩ := hB
    refine ⟨fun h0 => (by rw [h1] at h0; cases h0), fun j hj => ?_⟩
    rw [h1] at hj
    obtain rfl : j = i := by simpa using hj
    exact One.op h (fun a' w' hh => seq_any hs hQ t _ _ _ h3 hh)
  | .two i t j u, listed, a, w, hB, ⟨h, h'⟩ => by
    simp only [treeB, Bool.and_eq_true, beq_iff_eq] at hB
    obtain ⟨h1, h2, h3, h4⟩ := hB
    refine ⟨fun h0 => (by rw [h1] at h0; cases h0), fun k hk => ?_⟩
    rw [h1] at hk
    rcases List.mem_cons.1 hk with rfl | hk
    · exact One.op h (fun a' w' hh => seq_any hs hQ t _ _ _ h3 hh)
    · obtain rfl : k = j := by simpa using hk
      refine One.op h' (fun a' w' hh => ?_)
      rw [h2]
      exact seq_any hs hQ u _ _ _ h4 hh

/-- These orders serve every order. -/
theorem region {id : Nat} {a : Act} {w : World} {l : List Oper} (t : Tree) (hm : P.follows .mixedOrders = true) (hs : Region.noSelect l.toArray = true)
    (hl : t.size = l.toArray.size) (hB : treeB .any l.toArray t (Array.replicate l.toArray.size false) = true) (hQ : ∀ c a d v w, Q (.panic c) (a.put d v) w → Q (.panic c) a w)
    (h : Seq P l.toArray Q t a w.drew) : (Code.region id l.toArray true).wp P Q a w := by
  refine wp_region_any hm ?_
  have := seq_any (md := .any) hs hQ t (Array.replicate l.toArray.size false) a w.drew hB h
  rw [hl] at this
  exact this
/-- One operation that reads no memory. -/
theorem reads {l : List Oper} {i : Nat} {o : Oper} {t : Tree} {a : Act} {w : World} (hn : Grow.nth l i = some o) (hp : Grow.plain o = true)
    (h : wpQuiet P l.toArray (fun w' => ∃ u : World, w' = u) (fun a' => Seq P l.toArray Q t a' w) [o] a) : Seq P l.toArray Q (.free i t) a w := by
  have ho := (Grow.nth_at l i).trans hn
  unfold wpQuiet at h
  split at h
  · rename_i hw
    obtain ⟨v, h1, h2⟩ := h
    refine ⟨o, ho, v, .inl ⟨hw, fun u => ?_⟩, h2⟩
    have q := h1 u ⟨u, rfl⟩
    unfold Oper.quietAt at q
    cases hx : (execOp a.eval o).run P u with
    | ok n u' =>
      obtain ⟨x, rfl⟩ := Grow.plain_value hp hx
      rw [hx] at q
      obtain ⟨rfl, rfl⟩ := q
      rfl
    | halt x u' => rw [hx] at q; exact q.elim
  · rename_i hw
    exact ⟨o, ho, undef, .inr ⟨by simpa using hw, rfl⟩, h⟩
/-- What follows an operation. -/
def On (P : Program) (ops : Array Oper) (Q : Exit → Act → World → Prop) (t : Tree) (a' : Act) (w' : World) : Prop := Seq P ops Q t a' w'
theorem acts {l : List Oper} {i : Nat} {o : Oper} {t : Tree} {a : Act} {w : World} (hn : Grow.nth l i = some o)
    (h : wpList P l.toArray (Exit.then (On P l.toArray Q t) Q) [o] a w) : Seq P l.toArray Q (.act i t) a w := ⟨o, (Grow.nth_at l i).trans hn, h⟩
theorem forks {l : List Oper} {i j : Nat} {o p : Oper} {t u : Tree} {a : Act} {w : World} (hn : Grow.nth l i = some o) (hm : Grow.nth l j = some p)
    (h : wpList P l.toArray (Exit.then (On P l.toArray Q t) Q) [o] a w) (h' : wpList P l.toArray (Exit.then (On P l.toArray Q u) Q) [p] a w) : Seq P l.toArray Q (.two i t j u) a w :=
  ⟨⟨o, (Grow.nth_at l i).trans hn, h⟩, ⟨p, (Grow.nth_at l j).trans hm, h'⟩⟩
theorem on {t : Tree} {a : Act} {w : World} (h : Seq P ops Q t a w) : On P ops Q t a w := h
theorem ends {a : Act} {w : World} (h : Q .normal a w) : Seq P ops Q .ends a w := h
end
end Go.Proofs.YteojkfbnenfmkaaDoor.Forks
namespace Go.Proofs.YteojkfbnenfmkaaDoor.CmG
set_option maxRecDepth 100000
open Go Go.Sort Go.RowKit Byt EncM EncC IdM IdW IdB OpsM OpsW CmM StW CmW CmR CmD

theorem idsL_len (k : Nat) {s r : List Int} {ps : List Idn} (h : idsL k s = some (ps, r)) : ps.length = k ∧ 32 * k + r.length = s.length := by
  obtain ⟨h1, h2⟩ := idsL_back k h
  refine ⟨h1, ?_⟩
  rw [h2, List.length_append, flatL_len, h1]
/-- What a function that gets a commit answers. -/
def GetOut (q : Option (Com × List Int)) (w : World) (e : Ending) (w' : World) : Prop :=
  Below w.heap.size w w' ∧ match q with
    | none => e = .returned (.tuple #[.agg (cc noV), .slice none 0 0, .int .i64 2])
    | some (c, r) => ∃ v A k, e = .returned (.tuple #[.agg (cc v), .slice A r.length k, .int .i64 0]) ∧ v.c = c ∧ In w' v ∧ Sl w' A k r
theorem GetOut.some {q : Option (Com × List Int)} {w w' : World} {e : Ending} {c : Com} {r : List Int} (hq : q = some (c, r)) (v : Cv) (A : Option Addr) (k : Nat) (h : e = .returned (.tuple #[.agg (cc v), .slice A r.length k, .int .i64 0])) (hv : v.c = c) (hi : In w' v) (hS : Sl w' A k r) (hb : Below w.heap.size w w') : GetOut q w e w' := by
  subst hq
  exact ⟨hb, v, A, k, h, hv, hi, hS⟩
/-- An id stored into a box that was just made: the world behind it under a name of its own. -/
theorem wpList_store_id {ops : Array Oper} {rest : List Oper} {o : Oper} {a : Act} {w : World} {Q : Exit → Act → World → Prop} (hgd : o.guard = none) (x y : Operand) (ho : o.op = .store 42 x y)
    (w0 : World) (old : Idn) (t : TypeId) (hw : w = w0.alloc (.cells (cs old) t)) (z : Idn) (g : Nat) (hx : a.eval x = .pointer (some ⟨g, 0, none⟩)) (hg : g = w0.heap.size) (hy : a.eval y = .agg (cs z))
    (h : ∀ w1, IdW.Box w1 w0.heap.size z → Below w0.heap.size w0 w1 → w1.heap.size = w0.heap.size + 1 → wpList Tryd.prog ops Q rest (a.put o.dst undef) w1) : wpList Tryd.prog ops Q (o :: rest) a w := by
  subst hw
  subst hg
  refine wpList_store_row hgd 42 x y ho w0.heap.size (cs z) hx hy t (cs old) (heap_alloc_new w0 _) (info_cs z) (by rw [cs_size, cs_size]) (cs_one z) ?_
  rw [World.setRow_alloc_new]
  exact h _ (IdW.Box.new w0 z t) ((Below.refl _ _).alloc (Nat.le_refl _) _) (by simp)
end Go.Proofs.YteojkfbnenfmkaaDoor.CmG
