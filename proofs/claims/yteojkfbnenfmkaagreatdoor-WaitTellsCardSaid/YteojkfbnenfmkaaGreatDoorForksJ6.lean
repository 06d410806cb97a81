/- A region that draws its order: what reads no memory is taken first, and of the rest every order is walked, as a tree. No condition. | What walks of Get of package commit lean on. No condition. | What the laws' Few, and the document's List, At, Ids and Find of package dag return: contracts. | What the document's Knows of package dag returns: a contract. | What the document's one of package dag returns (is a commit fine, by its parents?): a contract. | What the document's Closed of package dag returns: a contract. -/
import Derived.Test.YteojkfbnenfmkaaGreatDoorGrowJ5
import Derived.Test.YteojkfbnenfmkaaGreatDoorIdOJ5
import Derived.Test.YteojkfbnenfmkaaGreatDoorCmR
import Derived.Test.YteojkfbnenfmkaaGreatDoorRowFJ7
import Derived.Test.YteojkfbnenfmkaaGreatDoorIdBJ5
import Derived.Deep.LoopGhost
namespace Go.Proofs.YteojkfbnenfmkaaGreatDoor.Forks
set_option maxRecDepth 100000
open Go Go.Sort Go.RowKit

/-- The orders that are walked. -/
inductive Tree where
  | ends : Tree
  | free (i : Nat) (t : Tree) : Tree
  | act (i : Nat) (t : Tree) : Tree
  | two (i : Nat) (t : Tree) (j : Nat) (u : Tree) : Tree
def Tree.size : Tree → Nat
  | .ends => 0
  | .free _ t => t.size + 1
  | .act _ t => t.size + 1
  | .two _ t _ _ => t.size + 1

section
variable {P : Program} {ops : Array Oper} {Q : Exit → Act → World → Prop} {md : Region.Mode}

def treeB (md : Region.Mode) (ops : Array Oper) : Tree → Array Bool → Bool
  | .ends, listed => (Region.ready md ops listed).isEmpty
  | .free i t, listed => (Region.ready md ops listed).contains i && (Region.free md ops listed i && treeB md ops t (listed.setIfInBounds i true))
  | .act i t, listed => Region.ready md ops listed == [i] && treeB md ops t (listed.setIfInBounds i true)
  | .two i t j u, listed => Region.ready md ops listed == [i, j] && (t.size == u.size && (treeB md ops t (listed.setIfInBounds i true) && treeB md ops u (listed.setIfInBounds j true)))

/-- One operation that is carried out. -/
def One (P : Program) (ops : Array Oper) (Q : Exit → Act → World → Prop) (i : Nat) (K : Act → World → Prop) (a : Act) (w : World) : Prop := ∃ o, ops[i]? = some o ∧ wpList P ops (Exit.then K Q) [o] a w
/-- What is asked of each operation, in these orders. -/
def Seq (P : Program) (ops : Array Oper) (Q : Exit → Act → World → Prop) : Tree → Act → World → Prop
  | .ends, a, w => Q .normal a w
  | .free i t, a, w => ∃ o, ops[i]? = some o ∧ ∃ v, Yields P ops o v a ∧ Seq P ops Q t (a.put o.dst v) w
  | .act i t, a, w => One P ops Q i (Seq P ops Q t) a w
  | .two i t j u, a, w => One P ops Q i (Seq P ops Q t) a w ∧ One P ops Q j (Seq P ops Q u) a w

theorem One.op {i : Nat} {K K' : Act → World → Prop} {a : Act} {w : World} (h : One P ops Q i K a w) (on : ∀ a' w', K a' w' → K' a' w') : wpOp P ops Q i K' a w := by
  obtain ⟨o, ho, h⟩ := h
  have on' : ∀ a' w', wpList P ops (Exit.then K Q) [] a' w' → K' a' w' := by
    intro a' w' hh
    unfold wpList at hh
    exact on _ _ hh
  unfold wpOp
  simp only [ho]
  unfold wpList at h
  split
  · rename_i hw
    rw [if_pos hw] at h
    rcases h with h | ⟨h, a', w', hl⟩
    · refine .inl ?_
      unfold Oper.wp at h ⊢
      generalize (execOp a.eval o).run P w = x at h ⊢
      cases x with
      | ok n u =>
        cases n <;> simp only [Oper.upon] at h ⊢
        case enter f args =>
          refine Calls.mono h fun e w'' he => ?_
          cases e with
          | returned v => exact on' _ _ he
          | panicked c => exact he
          | outgrown => exact he
        case row row args => exact Rows.mono h fun v w'' he => on' _ _ he
        all_goals exact on' _ _ h
      | halt x u => cases x <;> simp only [Oper.upon] at h ⊢; exact h
    · exact .inr ⟨h, a', w', hl⟩
  · rename_i hw
    rw [if_neg hw] at h
    unfold wpList at h
    exact on _ _ h

theorem seq_any (hs : Region.noSelect ops = true) (hQ : ∀ c a d v w, Q (.panic c) (a.put d v) w → Q (.panic c) a w) : ∀ (t : Tree) (listed : Array Bool) (a : Act) (w : World),
    treeB md ops t listed = true → Seq P ops Q t a w → wpAny P md ops Q t.size listed a w
  | .ends, listed, a, w, hB, h => ⟨by simpa [treeB] using hB, h⟩
  | .free i t, listed, a, w, hB, ⟨o, ho, v, hy, h⟩ => by
    simp only [treeB, Bool.and_eq_true] at hB
    obtain ⟨h1, h2, h3⟩ := hB
    exact wpAny_take ho hs h2 h1 (fun c a w => hQ c a o.dst v w) hy (seq_any hs hQ t _ _ _ h3 h)
  | .act i t, listed, a, w, hB, h => by
    simp only [treeB, Bool.and_eq_true, beq_iff_eq] at hB
    obtain ⟨h1, h3⟩ := hB
    refine ⟨fun h0 => (by rw [h1] at h0; cases h0), fun j hj => ?_⟩
    rw [h1] at hj
    obtain rfl : j = i := by simpa using hj
    exact One.op h (fun a' w' hh => seq_any hs hQ t _ _ _ h3 hh)
  | .two i t j u, listed, a, w, hB, ⟨h, h'⟩ => by
    simp only [treeB, Bool.and_eq_true, beq_iff_eq] at hB
    obtain ⟨h1, h2, h3, h4⟩ := hB
    refine ⟨fun h0 => (by rw [h1] at h0; cases h0), fun k hk => ?_⟩
    rw [h1] at hk
    rcases List.mem_cons.1 hk with rfl | hk
    · exact One.op h (fun a' w' hh => seq_any hs hQ t _ _ _ h3 hh)
    · obtain rfl : k = j := by simpa using hk
      refine One.op h' (fun a' w' hh => ?_)
      rw [h2]
      exact seq_any hs hQ u _ _ _ h4 hh

/-- These orders serve every order. -/
theorem region {id : Nat} {a : Act} {w : World} {l : List Oper} (t : Tree) (hm : P.follows .mixedOrders = true) (hs : Region.noSelect l.toArray = true)
    (hl : t.size = l.toArray.size) (hB : treeB .any l.toArray t (Array.replicate l.toArray.size false) = true) (hQ : ∀ c a d v w, Q (.panic c) (a.put d v) w → Q (.panic c) a w)
    (h : Seq P l.toArray Q t a w.drew) : (Code.region id l.toArray true).wp P Q a w := by
  refine wp_region_any hm ?_
  have := seq_any (md := .any) hs hQ t (Array.replicate l.toArray.size false) a w.drew hB h
  rw [hl] at this
  exact this
/-- One operation that reads no memory. -/
theorem reads {l : List Oper} {i : Nat} {o : Oper} {t : Tree} {a : Act} {w : World} (hn : Grow.nth l i = some o) (hp : Grow.plain o = true)
    (h : wpQuiet P l.toArray (fun w' => ∃ u : World, w' = u) (fun a' => Seq P l.toArray Q t a' w) [o] a) : Seq P l.toArray Q (.free i t) a w := by
  have ho := (Grow.nth_at l i).trans hn
  unfold wpQuiet at h
  split at h
  · rename_i hw
    obtain ⟨v, h1, h2⟩ := h
    refine ⟨o, ho, v, .inl ⟨hw, fun u => ?_⟩, h2⟩
    have q := h1 u ⟨u, rfl⟩
    unfold Oper.quietAt at q
    cases hx : (execOp a.eval o).run P u with
    | ok n u' =>
      obtain ⟨x, rfl⟩ := Grow.plain_value hp hx
      rw [hx] at q
      obtain ⟨rfl, rfl⟩ := q
      rfl
    | halt x u' => rw [hx] at q; exact q.elim
  · rename_i hw
    exact ⟨o, ho, undef, .inr ⟨by simpa using hw, rfl⟩, h⟩
/-- What follows an operation. -/
def On (P : Program) (ops : Array Oper) (Q : Exit → Act → World → Prop) (t : Tree) (a' : Act) (w' : World) : Prop := Seq P ops Q t a' w'
theorem acts {l : List Oper} {i : Nat} {o : Oper} {t : Tree} {a : Act} {w : World} (hn : Grow.nth l i = some o)
    (h : wpList P l.toArray (Exit.then (On P l.toArray Q t) Q) [o] a w) : Seq P l.toArray Q (.act i t) a w := ⟨o, (Grow.nth_at l i).trans hn, h⟩
theorem forks {l : List Oper} {i j : Nat} {o p : Oper} {t u : Tree} {a : Act} {w : World} (hn : Grow.nth l i = some o) (hm : Grow.nth l j = some p)
    (h : wpList P l.toArray (Exit.then (On P l.toArray Q t) Q) [o] a w) (h' : wpList P l.toArray (Exit.then (On P l.toArray Q u) Q) [p] a w) : Seq P l.toArray Q (.two i t j u) a w :=
  ⟨⟨o, (Grow.nth_at l i).trans hn, h⟩, ⟨p, (Grow.nth_at l j).trans hm, h'⟩⟩
theorem on {t : Tree} {a : Act} {w : World} (h : Seq P ops Q t a w) : On P ops Q t a w := h
theorem ends {a : Act} {w : World} (h : Q .normal a w) : Seq P ops Q .ends a w := h
end
end Go.Proofs.YteojkfbnenfmkaaGreatDoor.Forks
namespace Go.Proofs.YteojkfbnenfmkaaGreatDoor.CmG
set_option maxRecDepth 100000
open Go Go.Sort Go.RowKit Byt EncM EncC IdM IdW IdB OpsM OpsW CmM StW CmW CmR CmD

theorem idsL_len (k : Nat) {s r : List Int} {ps : List Idn} (h : idsL k s = some (ps, r)) : ps.length = k ∧ 32 * k + r.length = s.length := by
  obtain ⟨h1, h2⟩ := idsL_back k h
  refine ⟨h1, ?_⟩
  rw [h2, List.length_append, flatL_len, h1]
/-- What a function that gets a commit answers. -/
def GetOut (q : Option (Com × List Int)) (w : World) (e : Ending) (w' : World) : Prop :=
  Below w.heap.size w w' ∧ match q with
    | none => e = .returned (.tuple #[.agg (cc noV), .slice none 0 0, .int .i64 2])
    | some (c, r) => ∃ v A k, e = .returned (.tuple #[.agg (cc v), .slice A r.length k, .int .i64 0]) ∧ v.c = c ∧ In w' v ∧ Sl w' A k r
theorem GetOut.some {q : Option (Com × List Int)} {w w' : World} {e : Ending} {c : Com} {r : List Int} (hq : q = some (c, r)) (v : Cv) (A : Option Addr) (k : Nat) (h : e = .returned (.tuple #[.agg (cc v), .slice A r.length k, .int .i64 0])) (hv : v.c = c) (hi : In w' v) (hS : Sl w' A k r) (hb : Below w.heap.size w w') : GetOut q w e w' := by
  subst hq
  exact ⟨hb, v, A, k, h, hv, hi, hS⟩
/-- An id stored into a box that was just made: the world behind it under a name of its own. -/
theorem wpList_store_id {ops : Array Oper} {rest : List Oper} {o : Oper} {a : Act} {w : World} {Q : Exit → Act → World → Prop} (hgd : o.guard = none) (x y : Operand) (ho : o.op = .store 43 x y)
    (w0 : World) (old : Idn) (t : TypeId) (hw : w = w0.alloc (.cells (cs old) t)) (z : Idn) (g : Nat) (hx : a.eval x = .pointer (some ⟨g, 0, none⟩)) (hg : g = w0.heap.size) (hy : a.eval y = .agg (cs z))
    (h : ∀ w1, IdW.Box w1 w0.heap.size z → Below w0.heap.size w0 w1 → w1.heap.size = w0.heap.size + 1 → wpList Tryz.prog ops Q rest (a.put o.dst undef) w1) : wpList Tryz.prog ops Q (o :: rest) a w := by
  subst hw
  subst hg
  refine wpList_store_row hgd 43 x y ho w0.heap.size (cs z) hx hy t (cs old) (heap_alloc_new w0 _) (info_cs z) (by rw [cs_size, cs_size]) (cs_one z) ?_
  rw [World.setRow_alloc_new]
  exact h _ (IdW.Box.new w0 z t) ((Below.refl _ _).alloc (Nat.le_refl _) _) (by simp)
end Go.Proofs.YteojkfbnenfmkaaGreatDoor.CmG
namespace Go.Proofs.YteojkfbnenfmkaaGreatDoor.DgR
set_option maxRecDepth 100000
open Go Go.Sort Go.RowKit Byt IdM IdW OpsM OpsW CmM StW CmW CmX CmY DgM DgN DgW

set_option maxRecDepth 100000 in
set_option maxHeartbeats 8000000 in
theorem few_ret (A : Option Addr) (cap : Nat) (l : List Cv) (m : Int) (w : World) (S : SlK w A cap l) :
    Calls Tryz.prog 5 #[.slice A l.length cap, .int .i64 m] w fun e w' => e = .returned (.bool (fewD (coms l) m)) ∧ Below w.heap.size w w' := by
  have hmax := S.len
  obtain ⟨r, hr⟩ : ∃ r, fewD (coms l) m = r := ⟨_, rfl⟩
  have HR : Hid (r = (decide ((l.length : Int) ≤ m) && (coms l).all fewK)) := aside (by rw [← hr]; unfold fewD; rw [coms_len])
  rw [hr]
  clear hr
  by_cases hm : (l.length : Int) ≤ m
  · have hg : ¬ m < (l.length : Int) := by omega
    have HR2 : Hid (r = (coms (l.drop 0)).all fewK) := aside (by rw [HR.out, decide_eq_true hm]; rfl)
    clear HR hm
    go_enter Tryz.func5, Tryz.ntmps5
    go_wp2_with (first | go_skip)
    clear hg
    go_loopw [5] (fun i wr => ∃ k : Nat, k ≤ l.length ∧ i = .int .i64 k ∧ Hid (r = (coms (l.drop k)).all fewK) ∧ Below w.heap.size w wr) (fun i _ => l.length - (intOf i).toNat)
    case atStart => exact ⟨0, Nat.zero_le _, rfl, HR2, Below.refl _ _⟩
    case round =>
      clear HR2
      obtain ⟨k, hk, rfl, HR, kb⟩ := hrel
      by_cases hlt : k < l.length
      · obtain ⟨b, off, rfl, hbw, hrg⟩ := S.plain (by omega)
        obtain ⟨x, hx⟩ : ∃ x, l[k]? = some x := ⟨_, List.getElem?_eq_getElem hlt⟩
        have hr1 := range_on (hrg k x hx) kb
        have p0 : (k : Int) < l.length := by omega
        have m0 : ((k : Int)).toNat = k := by omega
        have hc := fun W => CmX.few_ret x W
        obtain ⟨z, hz⟩ : ∃ z, fewK x.c = z := ⟨_, rfl⟩
        have HZ : Hid (r = (z && (coms (l.drop (k + 1))).all fewK)) := aside (by rw [HR.out, drop_at hx, ← hz]; rfl)
        rw [hz] at hc
        clear hrg S hx hz HR
        go_wp2_with (first | go_skip | (refine load_at rfl _ rfl _ _ rfl x hr1 ?_))
        refine (hc _).mono ?_
        rintro e w1 ⟨rfl, k1⟩
        have b1 := kb.trans (k1.mono kb.size)
        clear k1 kb hc hr1
        cases z with
        | false =>
          go_wp2_with (first | go_skip)
          go_ret
          exact ⟨StW.ret_bool (by rw [HZ.out]; rfl), b1⟩
        | true =>
          go_wp2_with (first | go_skip)
          go_roundw
          case rel => exact ⟨k + 1, by omega, by go_num, aside (by rw [HZ.out]; rfl), b1⟩
          case measure => simp [intOf]; omega
      · have pn : ¬ (k : Int) < l.length := by omega
        have HT : Hid (r = true) := aside (by rw [HR.out, List.drop_of_length_le (by omega)]; rfl)
        clear HR S
        go_wp2_with (first | go_skip)
        go_ret
        exact ⟨StW.ret_bool HT.out.symm, kb⟩
  · have hg : m < (l.length : Int) := by omega
    have HF : Hid (r = false) := aside (by rw [HR.out, decide_eq_false hm]; rfl)
    clear HR hm
    go_enter Tryz.func5, Tryz.ntmps5
    go_wp2_with (first | go_skip)
    go_ret
    exact ⟨StW.ret_bool HF.out.symm, Below.refl _ _⟩
/-- Ids in a new slice are handed back. -/
def NewD (l : List Idn) (w : World) (e : Ending) (w' : World) : Prop := ∃ A cap, e = .returned (.slice A l.length cap) ∧ SlI w' A cap l ∧ Below w.heap.size w w'
theorem take_map {l : List Com} {k : Nat} {c : Com} (h : l[k]? = some c) : (l.take (k + 1)).map hashK = (l.take k).map hashK ++ [hashK c] := by
  obtain ⟨hk, e⟩ := List.getElem?_eq_some_iff.1 h
  rw [List.take_succ_eq_append_getElem hk, List.map_append, e]
  rfl
set_option maxRecDepth 100000 in
set_option maxHeartbeats 8000000 in
theorem list_ret (A A' : Option Addr) (cap cap' : Nat) (l m : List Cv) (w : World) (S : SlK w A cap l) (T : SlK w A' cap' m) :
    Calls Tryz.prog 7 #[.slice A l.length cap, .slice A' m.length cap'] w fun e w' => e = .returned (.bool (listB (coms l) (coms m))) ∧ Below w.heap.size w w' := by
  have hmax := S.len
  have hmax' := T.len
  obtain ⟨r, hr⟩ : ∃ r, listB (coms l) (coms m) = r := ⟨_, rfl⟩
  rw [hr]
  by_cases hlen : l.length = m.length
  · have hl0 : ((l.length : Int) != m.length) = false := by simp [hlen]
    have HR : Hid (r = listB (coms (l.drop 0)) (coms (m.drop 0))) := aside hr.symm
    have HL := aside hlen
    clear hr hlen
    go_enter Tryz.func7, Tryz.ntmps7
    go_wp2_with (first | go_skip)
    clear hl0
    go_loopw [5] (fun i wr => ∃ k : Nat, k ≤ l.length ∧ i = .int .i64 k ∧ Hid (r = listB (coms (l.drop k)) (coms (m.drop k))) ∧ Below w.heap.size w wr) (fun i _ => l.length - (intOf i).toNat)
    case atStart => exact ⟨0, Nat.zero_le _, rfl, HR, Below.refl _ _⟩
    case round =>
      clear HR
      obtain ⟨k, hk, rfl, HR, kb⟩ := hrel
      by_cases hlt : k < l.length
      · have hlt2 : k < m.length := by have := HL.out; omega
        obtain ⟨b, off, rfl, hbw, hrg⟩ := S.plain (by omega)
        obtain ⟨b', off', rfl, hbw', hrg'⟩ := T.plain (by omega)
        obtain ⟨x, hx⟩ : ∃ x, l[k]? = some x := ⟨_, List.getElem?_eq_getElem hlt⟩
        obtain ⟨y, hy⟩ : ∃ y, m[k]? = some y := ⟨_, List.getElem?_eq_getElem hlt2⟩
        have rx := range_on (hrg k x hx) kb
        have ry := range_on (hrg' k y hy) kb
        have IX := (S.each x (List.mem_of_getElem? hx)).1.below kb
        have IY := (T.each y (List.mem_of_getElem? hy)).1.below kb
        have p0 : (k : Int) < l.length := by omega
        have p1 : (k : Int) < m.length := by omega
        have m0 : ((k : Int)).toNat = k := by omega
        obtain ⟨z, hz⟩ : ∃ z, CmR.sameK x.c y.c = z := ⟨_, rfl⟩
        have HZ : Hid (r = (z && listB (coms (l.drop (k + 1))) (coms (m.drop (k + 1))))) := aside (by rw [HR.out, drop_at hx, drop_at hy, ← hz]; rfl)
        have HQ := aside hz
        clear hrg hrg' S T hx hy hz HR
        go_wp2_with (first | go_skip)
        refine Grow.region [(0, true), (1, true), (2, true), (3, true), (4, true), (5, true), (6, true), (7, true), (8, false), (9, true)] (by kernel_rfl) (by kernel_rfl) rfl (by kernel_rfl) (by intro c a d v w h; cases d <;> exact h) ?_
        rename World => V
        have kd := below_drew1 (Below.refl V.heap.size V)
        have rx' := range_on rx kd
        have ry' := range_on ry kd
        have IX' := IX.below kd
        have IY' := IY.below kd
        have kb' := kb.trans (kd.mono kb.size)
        clear rx ry IX IY kb kd
        generalize V.drew = wz at rx' ry' IX' IY' kb' ⊢
        repeat (first | (refine Grow.reads rfl rfl ?_; go_big_quiet_want; refine quiet_com _ rfl _ _ rfl x rx' ?_; go_big_quiet_on; refine wpQuiet_nil ?_; simp only [Act.put, List.setIfInBounds_toArray, List.set_cons_succ, List.set_cons_zero]) | (refine Grow.reads rfl rfl ?_; go_big_quiet_want; refine quiet_com _ rfl _ _ rfl y ry' ?_; go_big_quiet_on; refine wpQuiet_nil ?_; simp only [Act.put, List.setIfInBounds_toArray, List.set_cons_succ, List.set_cons_zero]) | (refine Grow.reads rfl rfl ?_; go_big_quiet_step (fail); refine wpQuiet_nil ?_))
        have hc := CmR.same_ret x y _ IX' IY'
        rw [HQ.out] at hc
        refine Grow.acts rfl ?_
        go_wp2_with (first | go_skip)
        refine hc.mono ?_
        rintro e w1 ⟨rfl, k1⟩
        go_wp2_with (first | go_skip)
        refine ⟨k1, ?_⟩
        have b1 := kb'.trans (k1.mono kb'.size)
        clear hc k1 kb' rx' ry' IX' IY'
        repeat (refine Grow.reads rfl rfl ?_; go_big_quiet_step (fail); refine wpQuiet_nil ?_)
        refine Grow.ends ?_
        cases z with
        | false =>
          go_wp2_with (first | go_skip)
          go_ret
          exact ⟨StW.ret_bool (by rw [HZ.out]; rfl), b1⟩
        | true =>
          go_wp2_with (first | go_skip)
          go_roundw
          case rel => exact ⟨k + 1, by omega, by go_num, aside (by rw [HZ.out]; rfl), b1⟩
          case measure => simp [intOf]; omega
      · have pn : ¬ (k : Int) < l.length := by omega
        have HT : Hid (r = true) := aside (by rw [HR.out, List.drop_of_length_le (by omega), List.drop_of_length_le (by have := HL.out; omega)]; rfl)
        clear HR S T
        go_wp2_with (first | go_skip)
        go_ret
        exact ⟨StW.ret_bool HT.out.symm, kb⟩
  · have hl0 : ((l.length : Int) != m.length) = true := by simp; omega
    have HF : Hid (r = false) := aside (by rw [← hr]; exact listB_len (by rw [coms_len, coms_len]; exact hlen))
    clear hr hlen
    go_enter Tryz.func7, Tryz.ntmps7
    go_wp2_with (first | go_skip)
    go_ret
    exact ⟨StW.ret_bool HF.out.symm, Below.refl _ _⟩
end Go.Proofs.YteojkfbnenfmkaaGreatDoor.DgR
namespace Go.Proofs.YteojkfbnenfmkaaGreatDoor.DgK
set_option maxRecDepth 100000
open Go Go.Sort Go.RowKit Byt IdM IdW OpsM OpsW CmM StW CmW CmX CmY DgM DgN DgP DgW DgT DgR

end Go.Proofs.YteojkfbnenfmkaaGreatDoor.DgK
namespace Go.Proofs.YteojkfbnenfmkaaGreatDoor.DgO
set_option maxRecDepth 100000
open Go Go.Sort Go.RowKit Byt IdM IdW OpsM OpsW CmM StW CmW CmX CmY DgM DgN DgP DgW DgT DgR DgK
open Classical

end Go.Proofs.YteojkfbnenfmkaaGreatDoor.DgO
namespace Go.Proofs.YteojkfbnenfmkaaGreatDoor.DgC
set_option maxRecDepth 100000
open Go Go.Sort Go.RowKit Byt IdM IdW OpsM OpsW CmM StW CmW CmX CmY DgM DgN DgP DgW DgT DgR DgK DgO
open Classical

end Go.Proofs.YteojkfbnenfmkaaGreatDoor.DgC
