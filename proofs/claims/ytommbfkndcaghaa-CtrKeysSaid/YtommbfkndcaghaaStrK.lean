/- Texts as keys of a map of numbers. No condition. -/
import Derived.Test.YtommbfkndcaghaaRise
import Derived.Test.YtommbfkndcaghaaBytB
import Derived.StringKeys
import Derived.Maps.RangeWalk
import Derived.Maps.OwnSet
import Derived.Maps.OwnOps
namespace Go.Proofs.Ytommbfkndcaghaa.StrK
open Go Go.RowKit Go.Maps Byt Rise

theorem law : Keyed Try.prog 9 := string_keyed Try.underlying9
/-- What a text is told as, as a key. -/
def key (x : ByteArray) : Lit := .string x.data.toList
theorem keyOf_str {x : ByteArray} (hx : x.size ≤ maxLen) : keyOf Try.prog 9 (.string x) = some (key x) := Go.WideMaps.keyOf_string_mk Try.underlying9 hx
theorem key_inj {x y : ByteArray} (h : key x = key y) : x = y := by
  injection h with h
  cases x; cases y
  congr 1
  exact Array.ext' h
theorem keyOf_inv {v : Value} {kl : Lit} (h : keyOf Try.prog 9 v = some kl) : ∃ x : ByteArray, v = .string x := by
  obtain ⟨s, h1, _, _⟩ := Go.WideMaps.string_of_keyOf Try.underlying9 h
  exact ⟨s, h1⟩
theorem keyOf_key {x : ByteArray} {kl : Lit} (h : keyOf Try.prog 9 (.string x) = some kl) : kl = key x ∧ x.size ≤ maxLen := by
  obtain ⟨s, h1, h2, h3⟩ := Go.WideMaps.string_of_keyOf Try.underlying9 h
  injection h1 with h1
  subst h1
  exact ⟨h2, h3⟩
theorem same_self (x : ByteArray) : (key x).sameKey (key x) = true := by simp [Lit.sameKey, key]

/-- Numbers that may be. -/
def In64 (x : Int) : Prop := -9223372036854775808 ≤ x ∧ x ≤ 9223372036854775807
theorem wf64 {n : Int} (h : In64 n) : (Lit.int .i64 n).wf = true := by
  unfold In64 at h
  simp [Lit.wf, IntKind.min, IntKind.max, IntKind.bits, IntKind.signed]
  omega
/-- The number of a text, and all others as ahead. -/
def upd (v : ByteArray → Int) (y : ByteArray) (c : Int) : ByteArray → Int := fun x => if x = y then c else v x
/-- The map in block b, of at most n entries, has the keys K, and v for each; v is 0 for all others. -/
def NumD (D : DataW Unit) (K : List ByteArray) (v : ByteArray → Int) : Prop :=
  (∀ x, Maps.has D (key x) = true ↔ x ∈ K) ∧ (∀ x, x ∈ K → ∀ z, D.atKey (key x) z = .lit (.int .i64 (v x))) ∧ ∀ x, x ∉ K → v x = 0
def NumIn (w : World) (b n : Nat) (K : List ByteArray) (v : ByteArray → Int) : Prop := ∃ D : DataW Unit, w.ownsMap Try.prog 9 (plainElem Try.prog 3) b n D ∧ NumD D K v
theorem NumIn.made (w : World) : NumIn (w.alloc (.map #[] 0)) w.heap.size 0 [] fun _ => 0 := ⟨.map [], World.ownsMap_made _ _ _ _, fun x => by simp [Maps.has], fun x hx => absurd hx (by simp), fun _ _ => rfl⟩
theorem NumIn.lt {w : World} {b n : Nat} {K : List ByteArray} {v : ByteArray → Int} (h : NumIn w b n K v) : b < w.heap.size := by obtain ⟨D, hD, _⟩ := h; exact hD.lt
theorem NumIn.kept {w w' : World} {b n : Nat} {K : List ByteArray} {v : ByteArray → Int} {row : Option Nat} (h : NumIn w b n K v) (hg : w.grownBy w' row) (hne : some b ≠ row) : NumIn w' b n K v := by
  obtain ⟨D, hD, hs⟩ := h
  exact ⟨D, hD.kept hg hne, hs⟩
theorem NumIn.below {w w' : World} {b n : Nat} {K : List ByteArray} {v : ByteArray → Int} (h : NumIn w b n K v) (hb : Below w.heap.size w w') : NumIn w' b n K v := h.kept (grown_of_below hb none) (by simp)
theorem NumIn.alloc {w : World} {b n : Nat} {K : List ByteArray} {v : ByteArray → Int} (h : NumIn w b n K v) (o : Obj) : NumIn (w.alloc o) b n K v := h.kept (World.grownBy_alloc w o none) (by simp)
theorem NumIn.congr {w : World} {b n : Nat} {K K' : List ByteArray} {v v' : ByteArray → Int} (h : NumIn w b n K v) (he : ∀ x, x ∈ K ↔ x ∈ K') (hv : ∀ x, v x = v' x) : NumIn w b n K' v' := by
  obtain ⟨D, hD, h1, h2, h3⟩ := h
  exact ⟨D, hD, fun x => by rw [h1]; simp only [he], fun x hx z => by rw [h2 x ((he x).2 hx), hv], fun x hx => by rw [← hv]; exact h3 x (fun h => hx ((he x).1 h))⟩
theorem NumIn.up {w : World} {b n m : Nat} {K : List ByteArray} {v : ByteArray → Int} (h : NumIn w b n K v) (hm : n ≤ m) : NumIn w b m K v := by
  obtain ⟨D, hD, hs⟩ := h
  exact ⟨D, hD.mono hm, hs⟩
theorem put_D {D : DataW Unit} {K : List ByteArray} {v : ByteArray → Int} (hm : Maps.IsMap D) (h : NumD D K v) {y : ByteArray} (hy : y.size ≤ maxLen) (c : Int) : NumD (D.put (key y) (.lit (.int .i64 c))) (y :: K) (upd v y c) := by
  have hk : WideAt.IsKeyLit (key y) := law.key (keyOf_str hy)
  refine ⟨fun x => ?_, fun x hx z => ?_, fun x hx => ?_⟩
  · by_cases hxy : x = y
    · subst hxy
      rw [Maps.has_put_same hm hk]
      simp
    · rw [Maps.has_put_other (fun e => hxy (key_inj e)), h.1]
      simp [hxy]
  · unfold upd
    by_cases hxy : x = y
    · subst hxy
      rw [if_pos rfl]
      exact Maps.atKey_put_same hm hk _ _
    · rw [Maps.atKey_put_other (fun e => hxy (key_inj e)), if_neg hxy]
      exact h.2.1 x (by simpa [hxy] using hx) z
  · simp only [List.mem_cons, not_or] at hx
    unfold upd
    rw [if_neg hx.1]
    exact h.2.2 x hx.2
theorem zero_int (w : World) : (zeroValue 3).run Try.prog w = .ok (.int .i64 0) w := by kernel_rfl
section
variable (w : World) {ops : Array Oper} {rest : List Oper} {o : Oper} {a : Act} {Q : Exit → Act → World → Prop}
/-- A number put into the map. -/
theorem wpList_put (hg : o.guard = none) (m x v : Operand) (hop : o.op = Op.mapUpdate 38 m x v) (b n : Nat) (K : List ByteArray) (f : ByteArray → Int) (hm : a.eval m = .map (some b)) (h : NumIn w b n K f) (hn : n < 100000000)
    (y : ByteArray) (hy : y.size ≤ maxLen) (c : Int) (hc : In64 c) (hx : a.eval x = .string y) (hv : a.eval v = .int .i64 c) (hK : ∀ w', NumIn w' b (n + 1) (y :: K) (upd f y c) → w.grownBy w' (some b) → wpList Try.prog ops Q rest (a.put o.dst undef) w') : wpList Try.prog ops Q (o :: rest) a w := by
  obtain ⟨D, hD, hs⟩ := h
  exact wpList_mapUpdate_own w hg m x v 38 hop 9 3 law Try.underlying38 _ b n D hm hD (by unfold maxLen; omega) _ _ (key y) hx hv (keyOf_str hy) _ [] (plainElem_int Try.underlying3 (wf64 hc))
    (fun w' h1 h2 => hK w' ⟨_, h1, put_D hD.isMap hs hy c⟩ h2)
/-- A number put into the map by a literal. -/
theorem wpList_insert (hg : o.guard = none) (m x v : Operand) (hop : o.op = Op.insert 38 m x v) (b n : Nat) (K : List ByteArray) (f : ByteArray → Int) (hm : a.eval m = .map (some b)) (h : NumIn w b n K f) (hn : n < 100000000)
    (y : ByteArray) (hy : y.size ≤ maxLen) (c : Int) (hc : In64 c) (hx : a.eval x = .string y) (hv : a.eval v = .int .i64 c) (hK : ∀ w', NumIn w' b (n + 1) (y :: K) (upd f y c) → w.grownBy w' (some b) → wpList Try.prog ops Q rest (a.put o.dst undef) w') : wpList Try.prog ops Q (o :: rest) a w := by
  obtain ⟨D, hD, hs⟩ := h
  refine wpList_plain hg fun K' hK' => ?_
  obtain ⟨w', hrun, r1, r2⟩ := hD.update law Try.underlying38 (by unfold maxLen; omega) (keyOf_str hy) (plainElem_int Try.underlying3 (wf64 hc))
  unfold Oper.wp
  simp [execOp, hop, hm, hx, hv, hrun, Result.andThen]
  exact hK' _ _ (hK w' ⟨_, r1, put_D hD.isMap hs hy c⟩ r2)
/-- A number looked up. -/
theorem wpList_find (hg : o.guard = none) (m x : Operand) (hop : o.op = Op.lookup 38 m x false) (b n : Nat) (K : List ByteArray) (f : ByteArray → Int) (hm : a.eval m = .map (some b)) (h : NumIn w b n K f)
    (y : ByteArray) (hy : y.size ≤ maxLen) (hx : a.eval x = .string y) (hK : wpList Try.prog ops Q rest (a.put o.dst (.int .i64 (f y))) w) : wpList Try.prog ops Q (o :: rest) a w := by
  obtain ⟨D, hD, hs⟩ := h
  refine wpList_lookup_own_int w hg m x 38 hop 9 3 .i64 law Try.underlying38 Try.underlying3 (zero_int w) b n D hm hD _ (key y) hx (keyOf_str hy) (fun c hat _ => ?_)
  have hc : c = f y := by
    by_cases hyK : y ∈ K
    · rw [hs.2.1 y hyK] at hat
      injection hat with hat
      injection hat with _ hat
      exact hat.symm
    · have hh : Maps.has D (key y) = false := by
        rw [← Bool.not_eq_true, hs.1 y]
        exact hyK
      rw [Maps.atKey_of_not_has hh] at hat
      rw [hs.2.2 y hyK]
      injection hat with hat
      injection hat with _ hat
      exact hat.symm
  rw [hc]
  exact hK
end
end Go.Proofs.Ytommbfkndcaghaa.StrK
