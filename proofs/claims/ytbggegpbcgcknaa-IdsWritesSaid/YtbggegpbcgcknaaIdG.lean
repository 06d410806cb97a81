/- Guarded operations on ids; what is written is read. No condition. -/
import Derived.Test.YtbggegpbcgcknaaIdU
import Derived.Test.YtbggegpbcgcknaaIdV
import Derived.Test.YtbggegpbcgcknaaIdJ
import Derived.Test.YtbggegpbcgcknaaIdY
namespace Go.Proofs.Ytbggegpbcgcknaa.IdG
open Go Go.RowKit IdM Byt IdW IdB IdC IdH IdI IdJ IdU IdV

/-- A guarded operation that is wanted, as one without a guard. -/
theorem unguard {P : Program} {ops : Array Oper} {rest : List Oper} {o : Oper} {a : Act} {w : World} {Q : Exit → Act → World → Prop} (hw : Region.wanted o (yielded ops a.tmps) = true)
    (h : wpList P ops Q ({ o with guard := none } :: rest) a w) : wpList P ops Q (o :: rest) a w := by
  unfold wpList at h ⊢
  rw [if_pos hw]
  rw [if_pos (by simp [Region.wanted])] at h
  exact h
theorem SlI.newL (w : World) (ys : List Idn) (t : TypeId) (h : ys.length ≤ 100) : SlI (w.alloc (.cells (bv (flat ys)).toArray t)) (some ⟨w.heap.size, 0, none⟩) ys.length ys := by
  refine ⟨Nat.le_refl _, by unfold maxLen; omega, .inr ⟨_, rfl, fun i hi => ?_⟩⟩
  rw [Addr.add_lit, Nat.zero_add, cell_of_row _ _ i _ t (0, 0) (heap_alloc_new w _), List.getElem?_toArray, bv_at _ hi]
theorem wpList_build3 {w : World} {ops : Array Oper} {rest : List Oper} {o : Oper} {a : Act} {Q : Exit → Act → World → Prop} (hgd : o.guard = none) (x y z : Operand) (ho : o.op = .buildSlice 22 3 #[(0, x), (1, y), (2, z)])
    (X Y Z : Idn) (hx : a.eval x = .agg (cs X)) (hy : a.eval y = .agg (cs Y)) (hz : a.eval z = .agg (cs Z)) (h : wpList Try.prog ops Q rest (a.put o.dst (.slice (some ⟨w.heap.size, 0, none⟩) 3 3)) (w.alloc (.cells (bv (flat [X, Y, Z])).toArray 24))) : wpList Try.prog ops Q (o :: rest) a w := by
  refine wpList_plain hgd fun K hK => ?_
  unfold Oper.wp execOp
  simp only [ho, List.map_toArray, List.map_cons, List.map_nil, hx, hy, hz, Sem.run_bind, run_build3, Result.andThen_ok, Sem.run_pure]
  exact hK _ _ h

/-- The same three, guarded. -/
theorem gload {ops : Array Oper} {rest : List Oper} {o : Oper} {a : Act} {w : World} {Q : Exit → Act → World → Prop} (x : Operand) (ho : o.op = .load 24 x)
    (g : Nat) (hx : a.eval x = .pointer (some ⟨g, 0, none⟩)) (y : Idn) (hb : Box w g y) (hw : Region.wanted o (yielded ops a.tmps) = true) (h : wpList Try.prog ops Q rest (a.put o.dst (.agg (cs y))) w) : wpList Try.prog ops Q (o :: rest) a w :=
  unguard hw (wpList_load_box rfl x ho g hx y hb h)
theorem gbuild1 {w : World} {ops : Array Oper} {rest : List Oper} {o : Oper} {a : Act} {Q : Exit → Act → World → Prop} (x : Operand) (ho : o.op = .buildSlice 22 1 #[(0, x)])
    (y : Idn) (hx : a.eval x = .agg (cs y)) (hw : Region.wanted o (yielded ops a.tmps) = true) (h : wpList Try.prog ops Q rest (a.put o.dst (.slice (some ⟨w.heap.size, 0, none⟩) 1 1)) (w.alloc (.cells (cs y) 24))) : wpList Try.prog ops Q (o :: rest) a w :=
  unguard hw (wpList_build1 rfl x ho y hx h)
theorem gbuild3 {w : World} {ops : Array Oper} {rest : List Oper} {o : Oper} {a : Act} {Q : Exit → Act → World → Prop} (x y z : Operand) (ho : o.op = .buildSlice 22 3 #[(0, x), (1, y), (2, z)])
    (X Y Z : Idn) (hx : a.eval x = .agg (cs X)) (hy : a.eval y = .agg (cs Y)) (hz : a.eval z = .agg (cs Z)) (hw : Region.wanted o (yielded ops a.tmps) = true) (h : wpList Try.prog ops Q rest (a.put o.dst (.slice (some ⟨w.heap.size, 0, none⟩) 3 3)) (w.alloc (.cells (bv (flat [X, Y, Z])).toArray 24))) : wpList Try.prog ops Q (o :: rest) a w :=
  unguard hw (wpList_build3 rfl x y z ho X Y Z hx hy hz h)

/-- What is written is read. -/
theorem two_at : ∀ (l : List Int) (i : Nat), i < l.length → (l.flatMap fun n => [hd (n / 16), hd (n % 16)]).getD (2 * i) 0 = hd (l.getD i 0 / 16) ∧ (l.flatMap fun n => [hd (n / 16), hd (n % 16)]).getD (2 * i + 1) 0 = hd (l.getD i 0 % 16)
  | [], i, h => by simp at h
  | a :: l, 0, _ => by simp
  | a :: l, i + 1, h => by
    have := two_at l i (by simpa using h)
    rw [List.flatMap_cons]
    simpa [Nat.mul_add, Nat.add_assoc] using this
theorem dg_hex (x : Idn) (i : Nat) (hi : i < 32) : dg (hexL x) (2 * i) = x.1.getD i 0 / 16 ∧ dg (hexL x) (2 * i + 1) = x.1.getD i 0 % 16 := by
  have h := two_at x.1 i (by rw [Idn_len]; exact hi)
  have r := Idn_at_range x i
  unfold dg hexL
  rw [h.1, h.2, dig_hd (by omega) (by omega), dig_hd (by omega) (by omega)]
  exact ⟨rfl, rfl⟩
theorem ok_hex (x : Idn) : okB (hexL x) = true := okB_true (hexL_length x) fun i hi => by
  have := dg_hex x i hi
  have r := Idn_at_range x i
  omega
theorem read_hex (x : Idn) : readI (hexL x) = x := by
  unfold readI
  rw [ok_hex, if_pos rfl]
  refine Idn_ext_at fun i hi => ?_
  have h := dg_hex x i hi
  have r := Idn_at_range x i
  rw [pre_at _ _ i hi, if_pos hi, val, h.1, h.2, if_pos (by omega)]
  omega
end Go.Proofs.Ytbggegpbcgcknaa.IdG
namespace Go.Proofs.Ytbggegpbcgcknaa.IdG
open Go Go.RowKit IdM Byt IdW IdC IdV IdU IdY

/-- What a law's arguments are, as the walk goes on. -/
structure Env2 (w W : World) (a0 : Option Addr) (c0 : Nat) (l0 : List Idn) (a1 : Option Addr) (c1 : Nat) (l1 : List Idn) : Prop where
  s0 : SlI W a0 c0 l0
  s1 : SlI W a1 c1 l1
  kb : Below w.heap.size w W
theorem Env2.on {w W W' : World} {a0 : Option Addr} {c0 : Nat} {l0 : List Idn} {a1 : Option Addr} {c1 : Nat} {l1 : List Idn} (h : Env2 w W a0 c0 l0 a1 c1 l1) (k : Below W.heap.size W W') : Env2 w W' a0 c0 l0 a1 c1 l1 :=
  ⟨h.s0.below k, h.s1.below k, h.kb.trans (k.mono h.kb.size)⟩
theorem same_self (l : List Idn) : decide (l = l) = true := decide_eq_true rfl
theorem Box.on {w w' : World} {g : Nat} {x : Idn} (h : Box w g x) (hb : Below w.heap.size w w') : Box w' g x := h.below hb h.lt
/-- What two calls return, as slices. -/
def NewS (l : List Idn) (w : World) (e : Ending) (w' : World) : Prop := ∃ A cap, e = .returned (.slice A l.length cap) ∧ SlI w' A cap l ∧ Below w.heap.size w w'
theorem NewI.s {l : List Idn} {w w' : World} {e : Ending} (h : NewI l w e w') : NewS l w e w' := by
  obtain ⟨v, rfl, o, k⟩ := h
  obtain ⟨A, cap, rfl, S⟩ := SlI.own o
  exact ⟨A, cap, rfl, S, k⟩
end Go.Proofs.Ytbggegpbcgcknaa.IdG
