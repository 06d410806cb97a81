/- Ids as keys of a map; a map as a set of ids. No condition. -/
import Derived.Test.YteojkfbnenfmkaaDoorIdW
import Derived.WideKeyArr2
import Derived.Maps.RangeWalk
import Derived.Maps.OwnSet
import Derived.Maps.OwnOps
import Derived.Maps.Ext
namespace Go.Proofs.YteojkfbnenfmkaaDoor.IdK
set_option maxRecDepth 100000
open Go Go.RowKit Go.Maps IdM Byt IdW

theorem arrK : WideMaps.ArrKey Tryd.prog 42 5 32 := ⟨Tryd.underlying42, by kernel_rfl, by kernel_rfl, by kernel_rfl⟩
theorem law : Keyed Tryd.prog 42 := Keyed.of_law arrK.law
theorem types_gt : 0 < Tryd.prog.types.size := of_decide_eq_true (by kernel_rfl)
theorem types_pos : ∃ m, Tryd.prog.types.size = m + 1 := ⟨Tryd.prog.types.size - 1, by have := types_gt; omega⟩
theorem keyT : Tryd.prog.keyType 42 = true := arrK.keyType types_pos
/-- What an id is told as, as a key. -/
def key (x : Idn) : Lit := .string (keyBytes (x.1.map (Lit.int .u8)))
theorem wf_u8 {n : Int} (h : 0 ≤ n ∧ n ≤ 255) : (Lit.int .u8 n).wf = true := by
  simp [Lit.wf, IntKind.min, IntKind.max, IntKind.bits, IntKind.signed]
  omega
theorem lits_at (x : Idn) (D : Nat) : ∀ L : List Nat, (∀ i ∈ L, i < 32) →
    L.mapM (fun i => Tryd.prog.keyLits (D + 1) 5 (((bv x.1).drop (i * 1)).take 1)) = some (L.map fun i => [Lit.int .u8 (x.1.getD i 0)])
  | [], _ => rfl
  | i :: L, h => by
    have hi : i < 32 := h i (by simp)
    have e : ((bv x.1).drop (i * 1)).take 1 = [.int .u8 (x.1.getD i 0)] := by
      rw [Nat.mul_one]
      apply List.ext_getElem?
      intro j
      rw [List.getElem?_take, List.getElem?_drop]
      by_cases hj : j = 0
      · subst hj
        rw [if_pos (by omega), Nat.add_zero, bv_at _ (by rw [Idn_len]; exact hi)]
        rfl
      · rw [if_neg (by omega), List.getElem?_eq_none (by simp; omega)]
    have q : Tryd.prog.keyLits (D + 1) 5 [.int .u8 (x.1.getD i 0)] = some [Lit.int .u8 (x.1.getD i 0)] := by
      simp only [Program.keyLits, Tryd.underlying5]
      rw [if_pos ⟨trivial, wf_u8 (Idn_at_range x i)⟩]
    rw [List.mapM_cons, e, q, lits_at x D L (fun j hj => h j (by simp [hj]))]
    rfl
theorem map_range (x : Idn) : (List.range 32).map (fun i => Lit.int .u8 (x.1.getD i 0)) = x.1.map (Lit.int .u8) := by
  apply List.ext_getElem
  · simp [Idn_len]
  · intro i h1 h2
    simp at h1 h2 ⊢
    rw [List.getElem?_eq_getElem h2]
    rfl
theorem keyOf_id (x : Idn) : keyOf Tryd.prog 42 (.agg (cs x)) = some (key x) := by
  obtain ⟨m0, hm0⟩ := types_pos
  unfold keyOf
  simp only [Tryd.underlying42]
  rw [if_pos (by simp [keyT, Value.formed, Tryd.underlying42, arrK.size, cs_size]), hm0]
  unfold Program.keyLits
  simp only [Tryd.underlying42, Value.cells]
  rw [if_pos (by rw [arrK.size]; simp [cs_size]), arrK.one, cs_toList, lits_at x m0 (List.range 32) (fun i hi => by simpa using hi)]
  have hfl : ∀ (l : List Nat) (f : Nat → Lit), (l.map fun i => [f i]).flatten = l.map f := fun l f => by induction l with | nil => rfl | cons a r ih => simp [ih]
  simp only [Option.map_some, hfl]
  rw [map_range]
  rfl
theorem key_inj {x y : Idn} (h : key x = key y) : x = y := by
  have h1 := keyOf_id x
  have h2 := keyOf_id y
  rw [← h] at h2
  have := law.inj h1 h2
  injection this with this
  exact cs_inj this
theorem keyOf_inv {v : Value} {kl : Lit} (h : keyOf Tryd.prog 42 v = some kl) : ∃ x, v = .agg (cs x) := by
  obtain ⟨m0, hm0⟩ := types_pos
  unfold keyOf at h
  simp only [Tryd.underlying42] at h
  split at h
  · rename_i hf
    simp only [Bool.and_eq_true] at hf
    have hf2 := hf.2
    cases v <;> simp [Value.formed, Tryd.underlying42] at hf2
    rename_i xs
    rw [arrK.size] at hf2
    rw [Option.map_eq_some_iff] at h
    obtain ⟨ls, hls, _⟩ := h
    rw [hm0] at hls
    unfold Program.keyLits at hls
    simp only [Tryd.underlying42, Value.cells] at hls
    rw [if_pos (by rw [arrK.size]; simpa using hf2), Option.map_eq_some_iff] at hls
    obtain ⟨ys, hys, _⟩ := hls
    rw [arrK.one] at hys
    have key : ∀ i, i < 32 → ∃ n, xs[i]? = some (.int .u8 n) ∧ 0 ≤ n ∧ n ≤ 255 := by
      intro i hi
      have q := mapM_some_get hys i i (by simp [hi])
      have hlen : ys.length = 32 := by simpa using mapM_some_length hys
      rw [List.getElem?_eq_getElem (by omega)] at q
      have e : ((xs.toList.drop (i * 1)).take 1) = [xs[i]'(by omega)] := by
        rw [Nat.mul_one]
        apply List.ext_getElem?
        intro j
        rw [List.getElem?_take, List.getElem?_drop]
        by_cases hj : j = 0
        · subst hj
          rw [if_pos (by omega), Nat.add_zero, Array.getElem?_toList, Array.getElem?_eq_getElem (by omega)]
          rfl
        · rw [if_neg (by omega), List.getElem?_eq_none (by simp; omega)]
      rw [e] at q
      rw [Array.getElem?_eq_getElem (by omega)]
      generalize xs[i]'(by omega) = u at q
      cases u <;> simp only [Program.keyLits, Tryd.underlying5] at q
      all_goals first | (cases q; done) | skip
      rename_i kd n
      split at q
      · rename_i hw
        obtain ⟨rfl, hw⟩ := hw
        have hb := B_of_wf hw
        unfold B at hb
        exact ⟨n, rfl, hb⟩
      · cases q
    have hl : (List.map (fun i => (xs[i]?).elim 0 fun v => match v with | .int _ n => n | _ => 0) (List.range 32)).length = 32 := by simp
    refine ⟨⟨List.map (fun i => (xs[i]?).elim 0 fun v => match v with | .int _ n => n | _ => 0) (List.range 32), hl, fun n hn => ?_⟩, ?_⟩
    · simp only [List.mem_map, List.mem_range] at hn
      obtain ⟨i, hi, rfl⟩ := hn
      obtain ⟨n, e, hb⟩ := key i hi
      rw [e]
      exact hb
    · congr 1
      apply Array.ext_getElem?
      intro i
      by_cases hi : i < 32
      · rw [cs_at _ i hi]
        obtain ⟨n, e, _⟩ := key i hi
        rw [e]
        simp [List.getD_eq_getElem?_getD, hi, e]
      · rw [Array.getElem?_eq_none (by omega), Array.getElem?_eq_none (by rw [cs_size]; omega)]
  · cases h

/-- The map in block b, of at most n entries, is the set of the ids of L: a 1 for each. -/
def SetD (D : DataW Unit) (L : List Idn) : Prop := (∀ x, Maps.has D (key x) = decide (x ∈ L)) ∧ ∀ x, x ∈ L → ∀ z, D.atKey (key x) z = .lit (.int .i64 1)
def SetIn (w : World) (b n : Nat) (L : List Idn) : Prop := ∃ D : DataW Unit, w.ownsMap Tryd.prog 42 (plainElem Tryd.prog 3) b n D ∧ SetD D L
theorem SetIn.made (w : World) : SetIn (w.alloc (.map #[] 0)) w.heap.size 0 [] := ⟨.map [], World.ownsMap_made _ _ _ _, fun x => by simp [Maps.has], fun x hx => absurd hx (by simp)⟩
theorem SetIn.kept {w w' : World} {b n : Nat} {L : List Idn} {row : Option Nat} (h : SetIn w b n L) (hg : w.grownBy w' row) (hne : some b ≠ row) : SetIn w' b n L := by
  obtain ⟨D, hD, hs⟩ := h
  exact ⟨D, hD.kept hg hne, hs⟩
theorem SetIn.below {w w' : World} {b n : Nat} {L : List Idn} (h : SetIn w b n L) (hb : Below w.heap.size w w') : SetIn w' b n L := h.kept (grown_of_below hb none) (by simp)
theorem SetIn.alloc {w : World} {b n : Nat} {L : List Idn} (h : SetIn w b n L) (o : Obj) : SetIn (w.alloc o) b n L := h.kept (World.grownBy_alloc w o none) (by simp)
theorem SetIn.congr {w : World} {b n : Nat} {L L' : List Idn} (h : SetIn w b n L) (he : ∀ x, x ∈ L ↔ x ∈ L') : SetIn w b n L' := by
  obtain ⟨D, hD, h1, h2⟩ := h
  exact ⟨D, hD, fun x => by rw [h1]; simp only [he], fun x hx => h2 x ((he x).2 hx)⟩
theorem put_D {D : DataW Unit} {L : List Idn} (hm : Maps.IsMap D) (h : SetD D L) (y : Idn) : SetD (D.put (key y) (.lit (.int .i64 1))) (y :: L) := by
  have hk : WideAt.IsKeyLit (key y) := law.key (keyOf_id y)
  refine ⟨fun x => ?_, fun x hx z => ?_⟩
  · by_cases hxy : x = y
    · subst hxy
      rw [Maps.has_put_same hm hk]
      simp
    · rw [Maps.has_put_other (fun e => hxy (key_inj e)), h.1]
      simp [hxy]
  · by_cases hxy : x = y
    · subst hxy
      exact Maps.atKey_put_same hm hk _ _
    · rw [Maps.atKey_put_other (fun e => hxy (key_inj e))]
      exact h.2 x (by simpa [hxy] using hx) z
theorem del_D {D : DataW Unit} {L : List Idn} (h : SetD D L) (y : Idn) : SetD (D.del (key y)) (L.filter fun x => decide (x ≠ y)) := by
  refine ⟨fun x => ?_, fun x hx z => ?_⟩
  · by_cases hxy : x = y
    · subst hxy
      rw [Maps.has_del_same]
      simp
    · rw [Maps.has_del_other (fun e => hxy (key_inj e)), h.1]
      simp [hxy]
  · simp only [List.mem_filter, decide_eq_true_eq] at hx
    rw [Maps.atKey_del_other (fun e => hx.2 (key_inj e))]
    exact h.2 x hx.1 z
section
variable (w : World) {ops : Array Oper} {rest : List Oper} {o : Oper} {a : Act} {Q : Exit → Act → World → Prop}
/-- An id put into the set. -/
theorem wpList_put (hg : o.guard = none) (m x v : Operand) (hop : o.op = Op.mapUpdate 57 m x v) (b n : Nat) (L : List Idn) (hm : a.eval m = .map (some b)) (h : SetIn w b n L) (hn : n < 1000000)
    (y : Idn) (hx : a.eval x = .agg (cs y)) (hv : a.eval v = .int .i64 1) (hK : ∀ w', SetIn w' b (n + 1) (y :: L) → w.grownBy w' (some b) → wpList Tryd.prog ops Q rest (a.put o.dst undef) w') : wpList Tryd.prog ops Q (o :: rest) a w := by
  obtain ⟨D, hD, hs⟩ := h
  exact wpList_mapUpdate_own w hg m x v 57 hop 42 3 law Tryd.underlying57 _ b n D hm hD (by unfold maxLen; omega) _ _ (key y) hx hv (keyOf_id y) _ [] (plainElem_int Tryd.underlying3 (by decide))
    (fun w' h1 h2 => hK w' ⟨_, h1, put_D hD.isMap hs y⟩ h2)
/-- An id taken out of the set. -/
theorem wpList_take (hg : o.guard = none) (m x : Operand) (hop : o.op = Op.call { callee := Callee.builtin Builtin.delete, args := #[m, x], argTypes := #[57, 42] }) (b n : Nat) (L : List Idn) (hm : a.eval m = .map (some b)) (h : SetIn w b n L)
    (y : Idn) (hx : a.eval x = .agg (cs y)) (hK : ∀ w', SetIn w' b n (L.filter fun x => decide (x ≠ y)) → w.grownBy w' (some b) → wpList Tryd.prog ops Q rest (a.put o.dst (.tuple #[])) w') : wpList Tryd.prog ops Q (o :: rest) a w := by
  obtain ⟨D, hD, hs⟩ := h
  exact wpList_delete_own w hg m x 57 42 hop 3 law Tryd.underlying57 _ b n D hm hD _ (key y) hx (keyOf_id y) (fun w' h1 h2 => hK w' ⟨_, h1, del_D hs y⟩ h2.grown)
theorem zero_int (w : World) : (zeroValue 3).run Tryd.prog w = .ok (.int .i64 0) w := by kernel_rfl
/-- An id looked up in the set. -/
theorem wpList_find (hg : o.guard = none) (m x : Operand) (hop : o.op = Op.lookup 57 m x false) (b n : Nat) (L : List Idn) (hm : a.eval m = .map (some b)) (h : SetIn w b n L)
    (y : Idn) (hx : a.eval x = .agg (cs y)) (hK : wpList Tryd.prog ops Q rest (a.put o.dst (.int .i64 (if y ∈ L then 1 else 0))) w) : wpList Tryd.prog ops Q (o :: rest) a w := by
  obtain ⟨D, hD, hs⟩ := h
  refine wpList_lookup_own_int w hg m x 57 hop 42 3 .i64 law Tryd.underlying57 Tryd.underlying3 (zero_int w) b n D hm hD _ (key y) hx (keyOf_id y) (fun c hat _ => ?_)
  have hc : c = if y ∈ L then 1 else 0 := by
    by_cases hy : y ∈ L
    · rw [hs.2 y hy] at hat
      simp only [hy, if_true]
      injection hat with hat
      injection hat with _ hat
      exact hat.symm
    · have hh := hs.1 y
      simp only [hy, decide_false] at hh
      rw [Maps.atKey_of_not_has hh] at hat
      simp only [hy, if_false]
      injection hat with hat
      injection hat with _ hat
      exact hat.symm
  rw [hc]
  exact hK
end
end Go.Proofs.YteojkfbnenfmkaaDoor.IdK
