/- Ids as keys of a map; a map as a set of ids. No condition. | Maps whose keys are ids, of values of whatever kind. No condition. | Clocks and views in memory; what the project's has, and, copied of package dag return. No condition. | What the project's together of package dag returns: a contract. | What the project's order of package dag, and the function that it sorts by, return: contracts. | Slices of ints in memory: read, cut, appended to; and what is put in at its place. No condition. | A contract of the library's, laid at this program: slices.SortFunc at numbers. | What the project's order of package dag returns: a contract. | What the project's known of package dag returns: a contract. -/
import Derived.Test.YteojkfbnenfmkaaGreatDoorArrEqJ2
import Derived.WideKeyArr2
import Derived.Maps.RangeWalk
import Derived.Maps.OwnSet
import Derived.Maps.OwnOps
import Derived.Maps.Ext
import Derived.Test.YteojkfbnenfmkaaGreatDoorDgEJ3
import Derived.Test.YteojkfbnenfmkaaGreatDoorIdBJ5
import Derived.Test.YteojkfbnenfmkaaGreatDoorCmQJ7
import Derived.Test.YteojkfbnenfmkaaGreatDoorIdX
import Derived.Test.YteojkfbnenfmkaaGreatDoorForksJ6
import Derived.BigRegion
import Derived.Test.YteojkfbnenfmkaaGreatDoorCmTJ2
import Derived.Test.YteojkfbnenfmkaaGreatDoorEvRJ4
import Derived.Shelf.SlLaysF
import Derived.Test.YteojkfbnenfmkaaGreatDoorProg
import Derived.Test.YteojkfbnenfmkaaGreatDoorSmallJ3
import Derived.Shelf.SlSortCmp.NoneTotal
import Derived.Test.YteojkfbnenfmkaaGreatDoorDgFJ5
namespace Go.Proofs.YteojkfbnenfmkaaGreatDoor.IdK
set_option maxRecDepth 100000
open Go Go.RowKit Go.Maps IdM Byt IdW

theorem arrK : WideMaps.ArrKey Tryz.prog 43 5 32 := ⟨Tryz.underlying43, by kernel_rfl, by kernel_rfl, by kernel_rfl⟩
theorem law : Keyed Tryz.prog 43 := Keyed.of_law arrK.law
theorem types_gt : 0 < Tryz.prog.types.size := of_decide_eq_true (by kernel_rfl)
theorem types_pos : ∃ m, Tryz.prog.types.size = m + 1 := ⟨Tryz.prog.types.size - 1, by have := types_gt; omega⟩
theorem keyT : Tryz.prog.keyType 43 = true := arrK.keyType types_pos
/-- What an id is told as, as a key. -/
def key (x : Idn) : Lit := .string (keyBytes (x.1.map (Lit.int .u8)))
theorem wf_u8 {n : Int} (h : 0 ≤ n ∧ n ≤ 255) : (Lit.int .u8 n).wf = true := by
  simp [Lit.wf, IntKind.min, IntKind.max, IntKind.bits, IntKind.signed]
  omega
theorem lits_at (x : Idn) (D : Nat) : ∀ L : List Nat, (∀ i ∈ L, i < 32) →
    L.mapM (fun i => Tryz.prog.keyLits (D + 1) 5 (((bv x.1).drop (i * 1)).take 1)) = some (L.map fun i => [Lit.int .u8 (x.1.getD i 0)])
  | [], _ => rfl
  | i :: L, h => by
    have hi : i < 32 := h i (by simp)
    have e : ((bv x.1).drop (i * 1)).take 1 = [.int .u8 (x.1.getD i 0)] := by
      rw [Nat.mul_one]
      apply List.ext_getElem?
      intro j
      rw [List.getElem?_take, List.getElem?_drop]
      by_cases hj : j = 0
      · subst hj
        rw [if_pos (by omega), Nat.add_zero, bv_at _ (by rw [Idn_len]; exact hi)]
        rfl
      · rw [if_neg (by omega), List.getElem?_eq_none (by simp; omega)]
    have q : Tryz.prog.keyLits (D + 1) 5 [.int .u8 (x.1.getD i 0)] = some [Lit.int .u8 (x.1.getD i 0)] := by
      simp only [Program.keyLits, Tryz.underlying5]
      rw [if_pos ⟨trivial, wf_u8 (Idn_at_range x i)⟩]
    rw [List.mapM_cons, e, q, lits_at x D L (fun j hj => h j (by simp [hj]))]
    rfl
theorem map_range (x : Idn) : (List.range 32).map (fun i => Lit.int .u8 (x.1.getD i 0)) = x.1.map (Lit.int .u8) := by
  apply List.ext_getElem
  · simp [Idn_len]
  · intro i h1 h2
    simp at h1 h2 ⊢
    rw [List.getElem?_eq_getElem h2]
    rfl
theorem keyOf_id (x : Idn) : keyOf Tryz.prog 43 (.agg (cs x)) = some (key x) := by
  obtain ⟨m0, hm0⟩ := types_pos
  unfold keyOf
  simp only [Tryz.underlying43]
  rw [if_pos (by simp [keyT, Value.formed, Tryz.underlying43, arrK.size, cs_size]), hm0]
  unfold Program.keyLits
  simp only [Tryz.underlying43, Value.cells]
  rw [if_pos (by rw [arrK.size]; simp [cs_size]), arrK.one, cs_toList, lits_at x m0 (List.range 32) (fun i hi => by simpa using hi)]
  have hfl : ∀ (l : List Nat) (f : Nat → Lit), (l.map fun i => [f i]).flatten = l.map f := fun l f => by induction l with | nil => rfl | cons a r ih => simp [ih]
  simp only [Option.map_some, hfl]
  rw [map_range]
  rfl
theorem key_inj {x y : Idn} (h : key x = key y) : x = y := by
  have h1 := keyOf_id x
  have h2 := keyOf_id y
  rw [← h] at h2
  have := law.inj h1 h2
  injection this with this
  exact cs_inj this
theorem keyOf_inv {v : Value} {kl : Lit} (h : keyOf Tryz.prog 43 v = some kl) : ∃ x, v = .agg (cs x) := by
  obtain ⟨m0, hm0⟩ := types_pos
  unfold keyOf at h
  simp only [Tryz.underlying43] at h
  split at h
  · rename_i hf
    simp only [Bool.and_eq_true] at hf
    have hf2 := hf.2
    cases v <;> simp [Value.formed, Tryz.underlying43] at hf2
    rename_i xs
    rw [arrK.size] at hf2
    rw [Option.map_eq_some_iff] at h
    obtain ⟨ls, hls, _⟩ := h
    rw [hm0] at hls
    unfold Program.keyLits at hls
    simp only [Tryz.underlying43, Value.cells] at hls
    rw [if_pos (by rw [arrK.size]; simpa using hf2), Option.map_eq_some_iff] at hls
    obtain ⟨ys, hys, _⟩ := hls
    rw [arrK.one] at hys
    have key : ∀ i, i < 32 → ∃ n, xs[i]? = some (.int .u8 n) ∧ 0 ≤ n ∧ n ≤ 255 := by
      intro i hi
      have q := mapM_some_get hys i i (by simp [hi])
      have hlen : ys.length = 32 := by simpa using mapM_some_length hys
      rw [List.getElem?_eq_getElem (by omega)] at q
      have e : ((xs.toList.drop (i * 1)).take 1) = [xs[i]'(by omega)] := by
        rw [Nat.mul_one]
        apply List.ext_getElem?
        intro j
        rw [List.getElem?_take, List.getElem?_drop]
        by_cases hj : j = 0
        · subst hj
          rw [if_pos (by omega), Nat.add_zero, Array.getElem?_toList, Array.getElem?_eq_getElem (by omega)]
          rfl
        · rw [if_neg (by omega), List.getElem?_eq_none (by simp; omega)]
      rw [e] at q
      rw [Array.getElem?_eq_getElem (by omega)]
      generalize xs[i]'(by omega) = u at q
      cases u <;> simp only [Program.keyLits, Tryz.underlying5] at q
      all_goals first | (cases q; done) | skip
      rename_i kd n
      split at q
      · rename_i hw
        obtain ⟨rfl, hw⟩ := hw
        have hb := B_of_wf hw
        unfold B at hb
        exact ⟨n, rfl, hb⟩
      · cases q
    have hl : (List.map (fun i => (xs[i]?).elim 0 fun v => match v with | .int _ n => n | _ => 0) (List.range 32)).length = 32 := by simp
    refine ⟨⟨List.map (fun i => (xs[i]?).elim 0 fun v => match v with | .int _ n => n | _ => 0) (List.range 32), hl, fun n hn => ?_⟩, ?_⟩
    · simp only [List.mem_map, List.mem_range] at hn
      obtain ⟨i, hi, rfl⟩ := hn
      obtain ⟨n, e, hb⟩ := key i hi
      rw [e]
      exact hb
    · congr 1
      apply Array.ext_getElem?
      intro i
      by_cases hi : i < 32
      · rw [cs_at _ i hi]
        obtain ⟨n, e, _⟩ := key i hi
        rw [e]
        simp [List.getD_eq_getElem?_getD, hi, e]
      · rw [Array.getElem?_eq_none (by omega), Array.getElem?_eq_none (by rw [cs_size]; omega)]
  · cases h

/-- The map in block b, of at most n entries, is the set of the ids of L: a 1 for each. -/
def SetD (D : DataW Unit) (L : List Idn) : Prop := (∀ x, Maps.has D (key x) = decide (x ∈ L)) ∧ ∀ x, x ∈ L → ∀ z, D.atKey (key x) z = .lit (.int .i64 1)
def SetIn (w : World) (b n : Nat) (L : List Idn) : Prop := ∃ D : DataW Unit, w.ownsMap Tryz.prog 43 (plainElem Tryz.prog 3) b n D ∧ SetD D L
theorem SetIn.made (w : World) : SetIn (w.alloc (.map #[] 0)) w.heap.size 0 [] := ⟨.map [], World.ownsMap_made _ _ _ _, fun x => by simp [Maps.has], fun x hx => absurd hx (by simp)⟩
theorem SetIn.kept {w w' : World} {b n : Nat} {L : List Idn} {row : Option Nat} (h : SetIn w b n L) (hg : w.grownBy w' row) (hne : some b ≠ row) : SetIn w' b n L := by
  obtain ⟨D, hD, hs⟩ := h
  exact ⟨D, hD.kept hg hne, hs⟩
theorem SetIn.below {w w' : World} {b n : Nat} {L : List Idn} (h : SetIn w b n L) (hb : Below w.heap.size w w') : SetIn w' b n L := h.kept (grown_of_below hb none) (by simp)
theorem SetIn.alloc {w : World} {b n : Nat} {L : List Idn} (h : SetIn w b n L) (o : Obj) : SetIn (w.alloc o) b n L := h.kept (World.grownBy_alloc w o none) (by simp)
theorem SetIn.congr {w : World} {b n : Nat} {L L' : List Idn} (h : SetIn w b n L) (he : ∀ x, x ∈ L ↔ x ∈ L') : SetIn w b n L' := by
  obtain ⟨D, hD, h1, h2⟩ := h
  exact ⟨D, hD, fun x => by rw [h1]; simp only [he], fun x hx => h2 x ((he x).2 hx)⟩
theorem put_D {D : DataW Unit} {L : List Idn} (hm : Maps.IsMap D) (h : SetD D L) (y : Idn) : SetD (D.put (key y) (.lit (.int .i64 1))) (y :: L) := by
  have hk : WideAt.IsKeyLit (key y) := law.key (keyOf_id y)
  refine ⟨fun x => ?_, fun x hx z => ?_⟩
  · by_cases hxy : x = y
    · subst hxy
      rw [Maps.has_put_same hm hk]
      simp
    · rw [Maps.has_put_other (fun e => hxy (key_inj e)), h.1]
      simp [hxy]
  · by_cases hxy : x = y
    · subst hxy
      exact Maps.atKey_put_same hm hk _ _
    · rw [Maps.atKey_put_other (fun e => hxy (key_inj e))]
      exact h.2 x (by simpa [hxy] using hx) z
theorem del_D {D : DataW Unit} {L : List Idn} (h : SetD D L) (y : Idn) : SetD (D.del (key y)) (L.filter fun x => decide (x ≠ y)) := by
  refine ⟨fun x => ?_, fun x hx z => ?_⟩
  · by_cases hxy : x = y
    · subst hxy
      rw [Maps.has_del_same]
      simp
    · rw [Maps.has_del_other (fun e => hxy (key_inj e)), h.1]
      simp [hxy]
  · simp only [List.mem_filter, decide_eq_true_eq] at hx
    rw [Maps.atKey_del_other (fun e => hx.2 (key_inj e))]
    exact h.2 x hx.1 z
section
variable (w : World) {ops : Array Oper} {rest : List Oper} {o : Oper} {a : Act} {Q : Exit → Act → World → Prop}
/-- An id put into the set. -/
theorem wpList_put (hg : o.guard = none) (m x v : Operand) (hop : o.op = Op.mapUpdate 49 m x v) (b n : Nat) (L : List Idn) (hm : a.eval m = .map (some b)) (h : SetIn w b n L) (hn : n < 1000000)
    (y : Idn) (hx : a.eval x = .agg (cs y)) (hv : a.eval v = .int .i64 1) (hK : ∀ w', SetIn w' b (n + 1) (y :: L) → w.grownBy w' (some b) → wpList Tryz.prog ops Q rest (a.put o.dst undef) w') : wpList Tryz.prog ops Q (o :: rest) a w := by
  obtain ⟨D, hD, hs⟩ := h
  exact wpList_mapUpdate_own w hg m x v 49 hop 43 3 law Tryz.underlying49 _ b n D hm hD (by unfold maxLen; omega) _ _ (key y) hx hv (keyOf_id y) _ [] (plainElem_int Tryz.underlying3 (by decide))
    (fun w' h1 h2 => hK w' ⟨_, h1, put_D hD.isMap hs y⟩ h2)
/-- An id taken out of the set. -/
theorem wpList_take (hg : o.guard = none) (m x : Operand) (hop : o.op = Op.call { callee := Callee.builtin Builtin.delete, args := #[m, x], argTypes := #[49, 43] }) (b n : Nat) (L : List Idn) (hm : a.eval m = .map (some b)) (h : SetIn w b n L)
    (y : Idn) (hx : a.eval x = .agg (cs y)) (hK : ∀ w', SetIn w' b n (L.filter fun x => decide (x ≠ y)) → w.grownBy w' (some b) → wpList Tryz.prog ops Q rest (a.put o.dst (.tuple #[])) w') : wpList Tryz.prog ops Q (o :: rest) a w := by
  obtain ⟨D, hD, hs⟩ := h
  exact wpList_delete_own w hg m x 49 43 hop 3 law Tryz.underlying49 _ b n D hm hD _ (key y) hx (keyOf_id y) (fun w' h1 h2 => hK w' ⟨_, h1, del_D hs y⟩ h2.grown)
theorem zero_int (w : World) : (zeroValue 3).run Tryz.prog w = .ok (.int .i64 0) w := by kernel_rfl
/-- An id looked up in the set. -/
theorem wpList_find (hg : o.guard = none) (m x : Operand) (hop : o.op = Op.lookup 49 m x false) (b n : Nat) (L : List Idn) (hm : a.eval m = .map (some b)) (h : SetIn w b n L)
    (y : Idn) (hx : a.eval x = .agg (cs y)) (hK : wpList Tryz.prog ops Q rest (a.put o.dst (.int .i64 (if y ∈ L then 1 else 0))) w) : wpList Tryz.prog ops Q (o :: rest) a w := by
  obtain ⟨D, hD, hs⟩ := h
  refine wpList_lookup_own_int w hg m x 49 hop 43 3 .i64 law Tryz.underlying49 Tryz.underlying3 (zero_int w) b n D hm hD _ (key y) hx (keyOf_id y) (fun c hat _ => ?_)
  have hc : c = if y ∈ L then 1 else 0 := by
    by_cases hy : y ∈ L
    · rw [hs.2 y hy] at hat
      simp only [hy, if_true]
      injection hat with hat
      injection hat with _ hat
      exact hat.symm
    · have hh := hs.1 y
      simp only [hy, decide_false] at hh
      rw [Maps.atKey_of_not_has hh] at hat
      simp only [hy, if_false]
      injection hat with hat
      injection hat with _ hat
      exact hat.symm
  rw [hc]
  exact hK
end
end Go.Proofs.YteojkfbnenfmkaaGreatDoor.IdK
namespace Go.Proofs.YteojkfbnenfmkaaGreatDoor.MapV
set_option maxRecDepth 100000
open Go Go.RowKit Go.Maps IdM Byt IdW IdK

/-- A value is told as itself. -/
def R (v : Value) : Option (DataW Value × List MemPlace) := some (.held v, [])
/-- The map in block b, of at most n entries, has these values. -/
def ValD (D : DataW Value) (f : Idn → Option Value) : Prop := (∀ x, Maps.has D (key x) = (f x).isSome) ∧ ∀ x v, f x = some v → ∀ z, D.atKey (key x) z = .held v
def ValIn (w : World) (b n : Nat) (f : Idn → Option Value) : Prop := ∃ D : DataW Value, w.ownsMap Tryz.prog 43 R b n D ∧ ValD D f
theorem ValIn.kept {w w' : World} {b n : Nat} {f : Idn → Option Value} {row : Option Nat} (h : ValIn w b n f) (hg : w.grownBy w' row) (hne : some b ≠ row) : ValIn w' b n f := by
  obtain ⟨D, hD, hs⟩ := h
  exact ⟨D, hD.kept hg hne, hs⟩
theorem ValIn.alloc {w : World} {b n : Nat} {f : Idn → Option Value} (h : ValIn w b n f) (o : Obj) : ValIn (w.alloc o) b n f := h.kept (World.grownBy_alloc w o none) (by simp)
theorem ValIn.mono {w : World} {b n m : Nat} {f : Idn → Option Value} (h : ValIn w b n f) (hm : n ≤ m) : ValIn w b m f := by
  obtain ⟨D, hD, hs⟩ := h
  exact ⟨D, hD.mono hm, hs⟩
section
variable {T e : TypeId} (hT : Tryz.prog.underlying T = some (.map 43 e)) {zv : Value} (hz : ∀ w : World, (zeroValue e).run Tryz.prog w = .ok zv w)
include hT
section
variable (w : World) {ops : Array Oper} {rest : List Oper} {o : Oper} {a : Act} {Q : Exit → Act → World → Prop}
end
end
end Go.Proofs.YteojkfbnenfmkaaGreatDoor.MapV
namespace Go.Proofs.YteojkfbnenfmkaaGreatDoor.DgY
set_option maxRecDepth 100000
open Go Go.Sort Go.RowKit Byt IdM IdW OpsM OpsW CmM StW CmW CmX CmY DgM DgW DgX

section
variable {ops : Array Oper} {rest : List Oper} {o : Oper} {a : Act} {w : World} {Q : Exit → Act → World → Prop}
end
end Go.Proofs.YteojkfbnenfmkaaGreatDoor.DgY
namespace Go.Proofs.YteojkfbnenfmkaaGreatDoor.DhT
set_option maxRecDepth 100000
open Go Go.Sort Go.RowKit Byt IdM IdW OpsM OpsW CmM StW CmW CmX CmY DgM DgW DgX DgY
open Classical

section
variable {ops : Array Oper} {rest : List Oper} {o : Oper} {a : Act} {w : World} {Q : Exit → Act → World → Prop}
end
end Go.Proofs.YteojkfbnenfmkaaGreatDoor.DhT
namespace Go.Proofs.YteojkfbnenfmkaaGreatDoor.DhO
set_option maxRecDepth 100000
open Go Go.Sort Go.RowKit Byt IdM IdW OpsM OpsW CmM StW CmW CmX CmY DgM DgW

end Go.Proofs.YteojkfbnenfmkaaGreatDoor.DhO
namespace Go.Proofs.YteojkfbnenfmkaaGreatDoor.DgI
set_option maxRecDepth 100000
open Go Go.Sort Go.RowKit Byt IdM IdW OpsM OpsW CmM StW CmW

def nv (l : List Nat) : List Value := l.map fun (n : Nat) => Value.int .i64 n
theorem nv_length (l : List Nat) : (nv l).length = l.length := List.length_map ..
/-- The slice with address A, as long as l, and with room for cap, has the values l. -/
def SlN (w : World) (A : Option Addr) (cap : Nat) (l : List Nat) : Prop :=
  l.length ≤ cap ∧ cap ≤ maxLen ∧ ((A = none ∧ l = [] ∧ cap = 0) ∨ ∃ x, A = some x ∧ ∀ i v, (nv l)[i]? = some v → w.cell? (x.add i) = some v)
theorem SlN.nil (w : World) : SlN w none 0 [] := ⟨Nat.le_refl _, Nat.zero_le _, .inl ⟨rfl, rfl, rfl⟩⟩
theorem SlN.part {w : World} {A : Option Addr} {cap : Nat} {l : List Nat} (h : SlN w A cap l) (i j : Nat) (hij : i ≤ j) (hj : j ≤ l.length) :
    ∃ A' cap', sliced A i j cap 1 = .slice A' (j - i) cap' ∧ SlN w A' cap' ((l.drop i).take (j - i)) ∧ ((l.drop i).take (j - i)).length = j - i := by
  obtain ⟨h1, h2, h5⟩ := h
  have hl : ((l.drop i).take (j - i)).length = j - i := by simp; omega
  rcases h5 with ⟨rfl, rfl, rfl⟩ | ⟨x, rfl, hc⟩
  · simp at hj
    obtain rfl : j = 0 := hj
    obtain rfl : i = 0 := by omega
    exact ⟨none, 0, by simp [sliced], by simpa using SlN.nil w, hl⟩
  · by_cases hci : cap = i
    · refine ⟨some x, cap - i, by simp [sliced, hci], ⟨by rw [hl]; omega, by omega, .inr ⟨x, rfl, fun m v hv => ?_⟩⟩, hl⟩
      have := (List.getElem?_eq_some_iff.1 hv).1
      rw [nv_length, hl] at this
      omega
    · refine ⟨some (x.add (i * 1)), cap - i, by simp [sliced, hci], ⟨by rw [hl]; omega, by omega, .inr ⟨_, rfl, fun m v hv => ?_⟩⟩, hl⟩
      rw [Addr.add_add]
      apply hc
      have hm := (List.getElem?_eq_some_iff.1 hv).1
      rw [nv_length, hl] at hm
      unfold nv at hv ⊢
      rw [List.getElem?_map, List.getElem?_take, if_pos (by omega), List.getElem?_drop] at hv
      rw [List.getElem?_map, Nat.mul_one]
      exact hv
end Go.Proofs.YteojkfbnenfmkaaGreatDoor.DgI
namespace Go.Proofs
set_option maxRecDepth 100000
open Go.Shelf
end Go.Proofs
namespace Go.Proofs.YteojkfbnenfmkaaGreatDoor.DhP
set_option maxRecDepth 100000
open Go Go.Shelf Go.Sort Go.RowKit Go.Lib Byt IdM IdW OpsM OpsW CmM StW CmW CmX CmY DgM DgW DgI DhO

section
variable {ops : Array Oper} {rest : List Oper} {o : Oper} {a : Act} {w : World} {Q : Exit → Act → World → Prop}
end
end Go.Proofs.YteojkfbnenfmkaaGreatDoor.DhP
namespace Go.Proofs.YteojkfbnenfmkaaGreatDoor.DhK
set_option maxRecDepth 100000
open Go Go.Sort Go.RowKit Byt IdM IdW OpsM OpsW CmM StW CmW CmX CmY CmA DgM DgW DgX DgY DgI DhO DhP DhT
open Classical

section
variable {H : Com → Idn}
end
end Go.Proofs.YteojkfbnenfmkaaGreatDoor.DhK
