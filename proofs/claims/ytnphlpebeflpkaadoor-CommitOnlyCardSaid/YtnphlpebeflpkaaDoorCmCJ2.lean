/- What walks of Get of package commit lean on. No condition. | Which bytes are no commit, by the numbers that they begin with, by what stands behind these. No condition. -/
import Derived.Test.YtnphlpebeflpkaaDoorCmD
import Derived.Test.YtnphlpebeflpkaaDoorCmRJ2
import Derived.Test.YtnphlpebeflpkaaDoorOpsT
import Derived.Test.YtnphlpebeflpkaaDoorRefEJ2
import Derived.Test.YtnphlpebeflpkaaDoorForks
namespace Go.Proofs.YtnphlpebeflpkaaDoor.CmG
set_option maxRecDepth 100000
open Go Go.Sort Go.RowKit Byt EncM EncC IdM IdW IdB OpsM OpsW CmM StW CmW CmR CmD

theorem nums_four {bs l1 l2 l3 l4 : List Int} {a b g n ka kb kg kn : Nat} (h1 : getL bs = (a, ka)) (e1 : bs.drop ka = l1) (h2 : getL l1 = (b, kb)) (e2 : l1.drop kb = l2) (h3 : getL l2 = (g, kg)) (e3 : l2.drop kg = l3) (h4 : getL l3 = (n, kn)) (e4 : l3.drop kn = l4) :
    nums 4 bs = if ka = 0 ∨ kb = 0 ∨ kg = 0 ∨ kn = 0 then none else some ([a, b, g, n], l4) := by
  simp only [nums, h1, e1, h2, e2, h3, e3, h4, e4]
  by_cases c1 : ka = 0 <;> by_cases c2 : kb = 0 <;> by_cases c3 : kg = 0 <;> by_cases c4 : kn = 0 <;> simp [c1, c2, c3, c4]
theorem idsL_snoc : ∀ (k : Nat) {s r : List Int} {ps : List Idn}, (∀ x ∈ s, B x) → idsL k s = some (ps, r) → 32 ≤ r.length → idsL (k + 1) s = some (ps ++ [headI r], r.drop 32)
  | 0, s, r, ps, hb, h, hr => by
    simp only [idsL, Option.some.injEq, Prod.mk.injEq] at h
    obtain ⟨rfl, rfl⟩ := h
    have hc : 32 ≤ s.length ∧ ∀ x ∈ s.take 32, 0 ≤ x ∧ x ≤ 255 := ⟨hr, fun x hx => hb x (List.mem_of_mem_take hx)⟩
    rw [idsL, dif_pos hc]
    simp only [idsL, List.nil_append, headI, dif_pos hc]
  | k + 1, s, r, ps, hb, h, hr => by
    rw [idsL] at h
    split at h
    · rename_i hc
      cases hq : idsL k (s.drop 32) with
      | none => rw [hq] at h; cases h
      | some q =>
        obtain ⟨l1, r1⟩ := q
        rw [hq] at h
        simp only [Option.some.injEq, Prod.mk.injEq] at h
        obtain ⟨rfl, rfl⟩ := h
        rw [idsL, dif_pos hc, idsL_snoc k (fun x hx => hb x (List.mem_of_mem_drop hx)) hq hr]
        rfl
    · cases h
theorem idsL_stop : ∀ (k n : Nat) {s r : List Int} {ps : List Idn}, idsL k s = some (ps, r) → r.length < 32 → k < n → idsL n s = none
  | 0, n + 1, s, r, ps, h, hr, _ => by
    simp only [idsL, Option.some.injEq, Prod.mk.injEq] at h
    obtain ⟨rfl, rfl⟩ := h
    rw [idsL, dif_neg (by omega)]
  | k + 1, n + 1, s, r, ps, h, hr, hk => by
    rw [idsL] at h
    split at h
    · rename_i hc
      cases hq : idsL k (s.drop 32) with
      | none => rw [hq] at h; cases h
      | some q =>
        obtain ⟨l1, r1⟩ := q
        rw [hq] at h
        simp only [Option.some.injEq, Prod.mk.injEq] at h
        obtain ⟨rfl, rfl⟩ := h
        rw [idsL, dif_pos hc, idsL_stop k n hq hr (by omega)]
    · cases h
theorem idsL_len (k : Nat) {s r : List Int} {ps : List Idn} (h : idsL k s = some (ps, r)) : ps.length = k ∧ 32 * k + r.length = s.length := by
  obtain ⟨h1, h2⟩ := idsL_back k h
  refine ⟨h1, ?_⟩
  rw [h2, List.length_append, flatL_len, h1]
/-- What a function that gets a commit answers. -/
def GetOut (q : Option (Com × List Int)) (w : World) (e : Ending) (w' : World) : Prop :=
  Below w.heap.size w w' ∧ match q with
    | none => e = .returned (.tuple #[.agg (cc noV), .slice none 0 0, .int .i64 2])
    | some (c, r) => ∃ v A k, e = .returned (.tuple #[.agg (cc v), .slice A r.length k, .int .i64 0]) ∧ v.c = c ∧ In w' v ∧ Sl w' A k r
theorem GetOut.none {q : Option (Com × List Int)} {w w' : World} {e : Ending} (hq : q = none) (h : e = .returned (.tuple #[.agg (cc noV), .slice none 0 0, .int .i64 2])) (hb : Below w.heap.size w w') : GetOut q w e w' := by subst hq; exact ⟨hb, h⟩
theorem GetOut.some {q : Option (Com × List Int)} {w w' : World} {e : Ending} {c : Com} {r : List Int} (hq : q = some (c, r)) (v : Cv) (A : Option Addr) (k : Nat) (h : e = .returned (.tuple #[.agg (cc v), .slice A r.length k, .int .i64 0])) (hv : v.c = c) (hi : In w' v) (hS : Sl w' A k r) (hb : Below w.heap.size w w') : GetOut q w e w' := by
  subst hq
  exact ⟨hb, v, A, k, h, hv, hi, hS⟩
theorem wrap_asI {n : Nat} (h : n < 18446744073709551616) : IntKind.i64.wrap (n : Int) = asI n := by
  rw [IntKind.wrap_i64]
  unfold asI
  split <;> omega
/-- The parents' row lies in another block than a box, by what the cells hold. -/
theorem row_far {α : Type} {E : Cel.Cel α} {w : World} {base g n : Nat} {v : Value} {ps : List Idn} {x : α} (O : w.ownsRow base 36 32 v n (bv (flat ps))) (hv : v = .slice none 0 0 ∨ 0 < ps.length) (h : Cel.Box E w g x) (hno : NoU8 w g) : v.ownBlock = none ∨ v.ownBlock ≠ some g := by
  rcases hv with rfl | hp
  · exact .inl rfl
  · right
    rcases O.2 with ⟨rfl, h0⟩ | ⟨q, cap, cur, rfl, hb, hq, h1, h2, h3, h4⟩
    · have := O.1
      rw [bv_length, flat_length, h0] at this
      omega
    · intro e
      simp only [Value.ownBlock, Option.some.injEq] at e
      subst e
      have h32 : 0 < (flat ps).length := by rw [flat_length]; omega
      have hn : 0 < n * 32 := by have := O.1; rw [bv_length] at this; omega
      have hcell : w.cell? ⟨q, 0, Option.none⟩ = some (.int .u8 ((flat ps).getD 0 0)) := by
        rw [O.cellAt 0 hn, bv_at _ h32]
      have := hno 0 _ hcell
      cases this
theorem num_is {r : Rd} {g : Nat} {w : World} (D : Cel.Box RE w g r) (S : Sl w r.a r.k r.l) (hl : r.l.length ≤ 1099511627776) {l l2 : List Int} {n k : Nat} {bad f : Bool} (hr : r.l = l) (hb : r.bad = bad) (h : getL l = (n, k)) (e : l.drop k = l2) (hf : (bad || decide (k = 0)) = f) :
    Calls Tryd.prog 44 #[.pointer (some ⟨g, 0, none⟩)] w fun e w' => e = .returned (.int .u64 (n : Nat)) ∧ ∃ r', CmD.Read g r l2 f w w' r' := by
  subst hr hb e hf
  have := num_ret r g w D S hl
  rw [h] at this
  exact this
theorem id_is {r : Rd} {g : Nat} {w : World} (D : Cel.Box RE w g r) (S : Sl w r.a r.k r.l) {l : List Int} (hr : r.l = l) (hb : r.bad = false) :
    Calls Tryd.prog 45 #[.pointer (some ⟨g, 0, none⟩)] w fun e w' => e = .returned (.agg (cs (headI l))) ∧ ∃ r', CmD.Read g r (restI l) (decide (l.length < 32)) w w' r' := by
  subst hr
  have := id_ret r g w D S
  rw [hb, Bool.false_or] at this
  exact this
theorem far_ne {a b : Nat} (h : a ≠ b) : some a ≠ some b := fun e => h (Option.some.inj e)
/-- What a round of the loop over ids keeps. -/
structure Inv (f4 : Bool) (na nb ng : Int) (n : Nat) (l4 : List Int) (k : Nat) (rd : Rd) (cv : Cv) : Prop where
  com : cv.c = ⟨na, nb, ng, cv.c.ps, noO⟩
  nil : (Value.slice cv.a cv.c.ps.length cv.k = .slice none 0 0) ∨ 0 < cv.c.ps.length
  len : cv.c.ps.length ≤ l4.length + 1
  on : rd.bad = false → f4 = false ∧ idsL k l4 = some (cv.c.ps, rd.l)
  off : rd.bad = true → f4 = true ∨ idsL n l4 = none
theorem inv_start {f4 : Bool} {na nb ng : Int} {n : Nat} {l4 : List Int} {rd : Rd} (h1 : rd.l = l4) (h2 : rd.bad = f4) : Inv f4 na nb ng n l4 0 rd ⟨none, 0, ⟨na, nb, ng, [], noO⟩⟩ :=
  ⟨rfl, .inl rfl, Nat.zero_le _, fun h => ⟨by rw [← h2]; exact h, by rw [h1]; rfl⟩, fun h => .inl (by rw [← h2]; exact h)⟩
theorem inv_next {f4 : Bool} {na nb ng : Int} {n : Nat} {l4 : List Int} {k : Nat} {rd r' : Rd} {cv : Cv} (h : Inv f4 na nb ng n l4 k rd cv) (hb : rd.bad = false) (hB : ∀ x ∈ l4, B x) (hk : k < n) (h1 : r'.l = restI rd.l) (h2 : r'.bad = decide (rd.l.length < 32)) (A : Option Addr) (c : Nat) :
    Inv f4 na nb ng n l4 (k + 1) r' ⟨A, c, { cv.c with ps := cv.c.ps ++ [headI rd.l] }⟩ := by
  obtain ⟨o1, o2⟩ := h.on hb
  obtain ⟨l1, l2⟩ := idsL_len k o2
  refine ⟨?_, .inr (by simp), by simp only [List.length_append, List.length_singleton]; omega, fun hf => ⟨o1, ?_⟩, fun hf => .inr ?_⟩
  · have := h.com
    generalize cv.c = d at this ⊢
    rw [this]
  · rw [h2, decide_eq_false_iff_not] at hf
    rw [h1, restI, if_pos (by omega)]
    exact idsL_snoc k hB o2 (by omega)
  · rw [h2, decide_eq_true_eq] at hf
    exact idsL_stop k n o2 hf hk
theorem ne_of {o : Option Nat} {g : Nat} (h : o = none ∨ o ≠ some g) : some g ≠ o := by
  rcases h with h | h
  · rw [h]; simp
  · exact fun e => h e.symm
theorem fit_no : OpsC.Fit noO := ⟨by unfold I64 noO; simp, by unfold I64 noO; simp, Nat.zero_le _, Nat.zero_le _⟩
/-- An id stored into a box that was just made: the world behind it under a name of its own. -/
theorem wpList_store_id {ops : Array Oper} {rest : List Oper} {o : Oper} {a : Act} {w : World} {Q : Exit → Act → World → Prop} (hgd : o.guard = none) (x y : Operand) (ho : o.op = .store 36 x y)
    (w0 : World) (old : Idn) (t : TypeId) (hw : w = w0.alloc (.cells (cs old) t)) (z : Idn) (g : Nat) (hx : a.eval x = .pointer (some ⟨g, 0, none⟩)) (hg : g = w0.heap.size) (hy : a.eval y = .agg (cs z))
    (h : ∀ w1, IdW.Box w1 w0.heap.size z → Below w0.heap.size w0 w1 → w1.heap.size = w0.heap.size + 1 → wpList Tryd.prog ops Q rest (a.put o.dst undef) w1) : wpList Tryd.prog ops Q (o :: rest) a w := by
  subst hw
  subst hg
  refine wpList_store_row hgd 36 x y ho w0.heap.size (cs z) hx hy t (cs old) (heap_alloc_new w0 _) (info_cs z) (by rw [cs_size, cs_size]) (cs_one z) ?_
  rw [World.setRow_alloc_new]
  exact h _ (IdW.Box.new w0 z t) ((Below.refl _ _).alloc (Nat.le_refl _) _) (by simp)
theorem results_com {fn : Func} {p q r : Tmp} (h : fn.results = #[.cell p 28, .tmp q, .tmp r]) (tmps : Array Value) (w : World) (g : Nat) (v : Cv) (x y : Value)
    (hp : tmps.getD p undef = .pointer (some ⟨g, 0, none⟩)) (hq : tmps.getD q undef = x) (hr : tmps.getD r undef = y) (hg : Cel.Box CE w g v) : (results fn tmps).run Tryd.prog w = .ok (.tuple #[.agg (cc v), x, y]) w := by
  obtain ⟨t, ht⟩ := hg
  have hp' : tmps[p]?.getD undef = .pointer (some ⟨g, 0, none⟩) := by simpa using hp
  have hq' : tmps[q]?.getD undef = x := by simpa using hq
  have hr' : tmps[r]?.getD undef = y := by simpa using hr
  have hl := run_loadVar_row w g t 28 (CE.enc v).toArray (0, 0) _ ht CE.under CE.row (CE.size' v)
  simp [results, h, hp', hq', hr', asAddr, hl]
  rfl
theorem mayO_short {o : Opn} (h : mayO o = true) : o.key.size ≤ 8 ∧ o.elem.size ≤ 8 := by
  obtain ⟨hk, hr⟩ := mayO_kind h
  have h1 := keyL_len hk
  rw [bytesL_length] at h1
  refine ⟨by omega, ?_⟩
  rcases hr with ⟨_, hs⟩ | ⟨_, he⟩
  · have := (stepB_iff.1 hs).2.2.2
    have h2 : o.elem.size = 0 := by rw [← bytesL_length, this]; rfl
    omega
  · have h2 := keyL_len (elemB_iff.1 he).1
    rw [bytesL_length] at h2
    omega
theorem in_of_row {w : World} {base : Nat} {cv : Cv} (h : w.ownsRow base 36 32 (.slice cv.a cv.c.ps.length cv.k) cv.c.ps.length (bv (flat cv.c.ps))) : In w cv := by
  obtain ⟨A, c, e, S⟩ := SlI.own h
  injection e with e1 _ e3
  unfold In
  rw [e1, e3]
  exact S
/-- An operation stored into a box that was just made: the world behind it under a name of its own. -/
theorem wpList_store_opn {ops : Array Oper} {rest : List Oper} {o : Oper} {a : Act} {w : World} {Q : Exit → Act → World → Prop} (hgd : o.guard = none) (x y : Operand) (ho : o.op = .store 26 x y)
    (w0 : World) (old : Array Value) (t : TypeId) (hw : w = w0.alloc (.cells old t)) (z : Opn) (g : Nat) (hx : a.eval x = .pointer (some ⟨g, 0, none⟩)) (hg : g = w0.heap.size) (hy : a.eval y = .agg (opc z)) (hs : old.size = 4)
    (h : ∀ w1, OpAt w1 w0.heap.size z → Below w0.heap.size w0 w1 → w1.heap.size = w0.heap.size + 1 → wpList Tryd.prog ops Q rest (a.put o.dst undef) w1) : wpList Tryd.prog ops Q (o :: rest) a w := by
  subst hw
  subst hg
  refine wpList_store_row hgd 26 x y ho w0.heap.size (opc z) hx hy t old (heap_alloc_new w0 _) (info_opc z) (by rw [hs]; rfl) (opc_one z) ?_
  rw [World.setRow_alloc_new]
  exact h _ (OpAt.new w0 z t) ((Below.refl _ _).alloc (Nat.le_refl _) _) (by simp)
theorem okay_op {c : Com} {na nb ng : Int} {o : Opn} (h : c = ⟨na, nb, ng, c.ps, noO⟩) (h1 : I64 na) (h2 : I64 nb) (h3 : I64 ng) (hm : mayO o = true) : Okay { c with op := o } := by
  have hs := mayO_short hm
  generalize c.ps = l at h
  subst h
  exact ⟨⟨h1, h2, h3, OpsE.mayO_fit hm⟩, by show o.key.size ≤ _; omega, by show o.elem.size ≤ _; omega⟩
def tree : Forks.Tree := .free 1 (.free 2 (.free 3 (.two 0 (.act 4 (.act 5 (.act 6 (.free 7 (.free 8 .ends))))) 4 (.two 0 (.act 5 (.act 6 (.free 7 (.free 8 .ends)))) 5 (.act 0 (.act 6 (.free 7 (.free 8 .ends))))))))
theorem okay_no {na nb ng : Int} {ps : List Idn} (h1 : I64 na) (h2 : I64 nb) (h3 : I64 ng) : Okay ⟨na, nb, ng, ps, noO⟩ :=
  ⟨⟨h1, h2, h3, fit_no⟩, Nat.zero_le _, Nat.zero_le _⟩
theorem info_i : (Tryd.prog.info? 3).map (·.size) = some 1 := by kernel_rfl
theorem info_p : (Tryd.prog.info? 24).map (·.size) = some 1 := by kernel_rfl
theorem nums_flag {bs l1 l2 l3 l4 : List Int} {a b g n ka kb kg kn : Nat} {f1 f2 f3 f4 : Bool} (h1 : getL bs = (a, ka)) (e1 : bs.drop ka = l1) (h2 : getL l1 = (b, kb)) (e2 : l1.drop kb = l2) (h3 : getL l2 = (g, kg)) (e3 : l2.drop kg = l3) (h4 : getL l3 = (n, kn)) (e4 : l3.drop kn = l4)
    (hf1 : (false || decide (ka = 0)) = f1) (hf2 : (f1 || decide (kb = 0)) = f2) (hf3 : (f2 || decide (kg = 0)) = f3) (hf4 : (f3 || decide (kn = 0)) = f4) : getK bs = if f4 = true then none else tailK a b g n l4 := by
  unfold getK
  rw [nums_four h1 e1 h2 e2 h3 e3 h4 e4]
  subst hf1 hf2 hf3 hf4
  by_cases c1 : ka = 0 <;> by_cases c2 : kb = 0 <;> by_cases c3 : kg = 0 <;> by_cases c4 : kn = 0 <;> simp [c1, c2, c3, c4]
end Go.Proofs.YtnphlpebeflpkaaDoor.CmG
namespace Go.Proofs.YtnphlpebeflpkaaDoor.CmQ
set_option maxRecDepth 100000
open Byt EncM EncC EncE EncT OpsM IdM CmM CmG

theorem tail_none {a b g n : Nat} {l : List Int} (h : ∀ ps o, ps.length = n → mayK ⟨unfoldI (a : Int), asI b, asI g, ps, o⟩ = false) : tailK a b g n l = none := by
  unfold tailK
  split
  · rfl
  · rename_i ps r hi
    split
    · rfl
    · rename_i o r2 ho
      unfold keepK
      rw [if_neg]
      rw [h ps o (idsL_back n hi).1]
      simp
theorem no_of {c : Com} (h : mayK c = true → False) : mayK c = false := by
  cases hm : mayK c with
  | false => rfl
  | true => exact (h hm).elim
theorem far_node {a b g n : Nat} {l : List Int} (h : 16 < a) : tailK a b g n l = none := tail_none fun ps o _ => no_of fun hm => by
  have := node_may hm
  simp only [unfoldI] at this
  split at this <;> omega
theorem far_seq {a b g n : Nat} {l : List Int} (h : 1048576 < b) (hb : b < 18446744073709551616) : tailK a b g n l = none := tail_none fun ps o _ => no_of fun hm => by
  have := seq_may hm
  simp only [asI] at this
  split at this <;> omega
theorem far_gen {a b g n : Nat} {l : List Int} (h : 1048576 < g) (hb : g < 18446744073709551616) : tailK a b g n l = none := tail_none fun ps o _ => no_of fun hm => by
  have := lineB_iff.1 (mayK_iff.1 hm).1
  simp only [asI] at this
  split at this <;> omega
theorem far_n {a b g n : Nat} {l : List Int} (h : 8 < n) : tailK a b g n l = none := tail_none fun ps o hp => no_of fun hm => by
  have := lineB_iff.1 (mayK_iff.1 hm).1
  simp only at this
  omega
/-- The four numbers, one behind the other. -/
structure Four (bs l1 l2 l3 l4 : List Int) (a b g n ka kb kg kn : Nat) : Prop where
  h1 : getL bs = (a, ka)
  e1 : bs.drop ka = l1
  h2 : getL l1 = (b, kb)
  e2 : l1.drop kb = l2
  h3 : getL l2 = (g, kg)
  e3 : l2.drop kg = l3
  h4 : getL l3 = (n, kn)
  e4 : l3.drop kn = l4
theorem Four.ex (bs : List Int) : ∃ l1 l2 l3 l4 a b g n ka kb kg kn, Four bs l1 l2 l3 l4 a b g n ka kb kg kn :=
  ⟨_, _, _, _, _, _, _, _, _, _, _, _, ⟨rfl, rfl, rfl, rfl, rfl, rfl, rfl, rfl⟩⟩
theorem Four.get {bs l1 l2 l3 l4 : List Int} {a b g n ka kb kg kn : Nat} (F : Four bs l1 l2 l3 l4 a b g n ka kb kg kn) : getK bs = if ka = 0 ∨ kb = 0 ∨ kg = 0 ∨ kn = 0 then none else tailK a b g n l4 := by
  unfold getK
  rw [nums_four F.h1 F.e1 F.h2 F.e2 F.h3 F.e3 F.h4 F.e4]
  by_cases c : ka = 0 ∨ kb = 0 ∨ kg = 0 ∨ kn = 0
  · simp only [if_pos c]
  · simp only [if_neg c]
theorem Four.bytes {bs l1 l2 l3 l4 : List Int} {a b g n ka kb kg kn : Nat} (F : Four bs l1 l2 l3 l4 a b g n ka kb kg kn) (hB : ∀ x ∈ bs, B x) : (∀ x ∈ l1, B x) ∧ (∀ x ∈ l2, B x) ∧ (∀ x ∈ l3, B x) ∧ (∀ x ∈ l4, B x) := by
  have B1 : ∀ x ∈ l1, B x := by rw [← F.e1]; exact fun x hx => hB x (List.mem_of_mem_drop hx)
  have B2 : ∀ x ∈ l2, B x := by rw [← F.e2]; exact fun x hx => B1 x (List.mem_of_mem_drop hx)
  have B3 : ∀ x ∈ l3, B x := by rw [← F.e3]; exact fun x hx => B2 x (List.mem_of_mem_drop hx)
  have B4 : ∀ x ∈ l4, B x := by rw [← F.e4]; exact fun x hx => B3 x (List.mem_of_mem_drop hx)
  exact ⟨B1, B2, B3, B4⟩
theorem Four.fits {bs l1 l2 l3 l4 : List Int} {a b g n ka kb kg kn : Nat} (F : Four bs l1 l2 l3 l4 a b g n ka kb kg kn) (hB : ∀ x ∈ bs, B x) : a < 18446744073709551616 ∧ b < 18446744073709551616 ∧ g < 18446744073709551616 ∧ n < 18446744073709551616 := by
  obtain ⟨B1, B2, B3, _⟩ := F.bytes hB
  refine ⟨?_, ?_, ?_, ?_⟩
  · have := (getL_le hB).1; rw [F.h1] at this; exact this
  · have := (getL_le B1).1; rw [F.h2] at this; exact this
  · have := (getL_le B2).1; rw [F.h3] at this; exact this
  · have := (getL_le B3).1; rw [F.h4] at this; exact this
section
variable {bs l1 l2 l3 l4 : List Int} {a b g n ka kb kg kn : Nat} (F : Four bs l1 l2 l3 l4 a b g n ka kb kg kn) (hB : ∀ x ∈ bs, B x)
include F
theorem Four.bad1 (h : ka = 0 ∨ 16 < a) : getK bs = none := by
  rw [F.get]
  split
  · rfl
  · rename_i hc
    rcases h with h | h
    · exact absurd (.inl h) hc
    · exact far_node h
theorem Four.bad4 (h : kn = 0 ∨ 8 < n) : getK bs = none := by
  rw [F.get]
  split
  · rfl
  · rename_i hc
    rcases h with h | h
    · exact absurd (.inr (.inr (.inr h))) hc
    · exact far_n h
include hB
theorem Four.bad2 (h : kb = 0 ∨ 1048576 < b) : getK bs = none := by
  rw [F.get]
  split
  · rfl
  · rename_i hc
    rcases h with h | h
    · exact absurd (.inr (.inl h)) hc
    · exact far_seq h (F.fits hB).2.1
theorem Four.bad3 (h : kg = 0 ∨ 1048576 < g) : getK bs = none := by
  rw [F.get]
  split
  · rfl
  · rename_i hc
    rcases h with h | h
    · exact absurd (.inr (.inr (.inl h))) hc
    · exact far_gen h (F.fits hB).2.2.1
end
theorem Four.good {bs l1 l2 l3 l4 : List Int} {a b g n ka kb kg kn : Nat} (F : Four bs l1 l2 l3 l4 a b g n ka kb kg kn) (h1 : ka ≠ 0) (h2 : kb ≠ 0 ∧ b ≤ 1048576) (h3 : kg ≠ 0 ∧ g ≤ 1048576) (h4 : kn ≠ 0) :
    getK bs = match idsL n l4 with | none => none | some (ps, r) => match opG (unfoldI (a : Int)) r with | none => none | some (o, r2) => keepK (⟨unfoldI (a : Int), b, g, ps, o⟩, r2) := by
  have e1 : asI b = b := asI_nat (by omega)
  have e2 : asI g = g := asI_nat (by omega)
  rw [F.get, if_neg (by omega)]
  unfold tailK
  rw [e1, e2]
  rfl
end Go.Proofs.YtnphlpebeflpkaaDoor.CmQ
