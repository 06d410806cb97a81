/- Ids as keys of a map; a map as a set of ids. No condition. | Maps whose keys are ids, of values of whatever kind. No condition. | Clocks and views in memory; what the project's has, and, copied of package dag return. No condition. -/
import Derived.Test.YtgoapaanmcmlmaaGreatDoorArrEqJ4
import Derived.WideKeyArr2
import Derived.Maps.RangeWalk
import Derived.Maps.OwnSet
import Derived.Maps.OwnOps
import Derived.Maps.Ext
import Derived.Test.YtgoapaanmcmlmaaGreatDoorDgX
import Derived.Test.YtgoapaanmcmlmaaGreatDoorOpenKJ3
import Derived.Test.YtgoapaanmcmlmaaGreatDoorCmF
namespace Go.Proofs.YtgoapaanmcmlmaaGreatDoor.IdK
set_option maxRecDepth 100000
open Go Go.RowKit Go.Maps IdM Byt IdW
theorem arrK : WideMaps.ArrKey Tryz.prog 75 5 32 := ⟨Tryz.underlying75, by kernel_rfl, by kernel_rfl, by kernel_rfl⟩
theorem law : Keyed Tryz.prog 75 := Keyed.of_law arrK.law
theorem types_gt : 0 < Tryz.prog.types.size := of_decide_eq_true (by kernel_rfl)
theorem types_pos : ∃ m, Tryz.prog.types.size = m + 1 := ⟨Tryz.prog.types.size - 1, by have := types_gt; omega⟩
theorem keyT : Tryz.prog.keyType 75 = true := arrK.keyType types_pos
def key (x : Idn) : Lit := .string (keyBytes (x.1.map (Lit.int .u8)))
theorem wf_u8 {n : Int} (h : 0 ≤ n ∧ n ≤ 255) : (Lit.int .u8 n).wf = true := by
 simp [Lit.wf, IntKind.min, IntKind.max, IntKind.bits, IntKind.signed]
 omega
theorem lits_at (x : Idn) (D : Nat) : ∀ L : List Nat, (∀ i ∈ L, i < 32) →
   L.mapM (fun i => Tryz.prog.keyLits (D + 1) 5 (((bv x.1).drop (i * 1)).take 1)) = some (L.map fun i => [Lit.int .u8 (x.1.getD i 0)])
 | [], _ => rfl
 | i :: L, h => by
   have hi : i < 32 := h i (by simp)
   have e : ((bv x.1).drop (i * 1)).take 1 = [.int .u8 (x.1.getD i 0)] := by
     rw [Nat.mul_one]
     apply List.ext_getElem?
     intro j
     rw [List.getElem?_take, List.getElem?_drop]
     by_cases hj : j = 0
     · subst hj
       rw [if_pos (by omega), Nat.add_zero, bv_at _ (by rw [Idn_len]; exact hi)]
       rfl
     · rw [if_neg (by omega), List.getElem?_eq_none (by simp; omega)]
   have q : Tryz.prog.keyLits (D + 1) 5 [.int .u8 (x.1.getD i 0)] = some [Lit.int .u8 (x.1.getD i 0)] := by
     simp only [Program.keyLits, Tryz.underlying5]
     rw [if_pos ⟨trivial, wf_u8 (Idn_at_range x i)⟩]
   rw [List.mapM_cons, e, q, lits_at x D L (fun j hj => h j (by simp [hj]))]
   rfl
theorem map_range (x : Idn) : (List.range 32).map (fun i => Lit.int .u8 (x.1.getD i 0)) = x.1.map (Lit.int .u8) := by
 apply List.ext_getElem
 · simp [Idn_len]
 · intro i h1 h2
   simp at h1 h2 ⊢
   rw [List.getElem?_eq_getElem h2]
   rfl
theorem keyOf_id (x : Idn) : keyOf Tryz.prog 75 (.agg (cs x)) = some (key x) := by
 obtain ⟨m0, hm0⟩ := types_pos
 unfold keyOf
 simp only [Tryz.underlying75]
 rw [if_pos (by simp [keyT, Value.formed, Tryz.underlying75, arrK.size, cs_size]), hm0]
 unfold Program.keyLits
 simp only [Tryz.underlying75, Value.cells]
 rw [if_pos (by rw [arrK.size]; simp [cs_size]), arrK.one, cs_toList, lits_at x m0 (List.range 32) (fun i hi => by simpa using hi)]
 have hfl : ∀ (l : List Nat) (f : Nat → Lit), (l.map fun i => [f i]).flatten = l.map f := fun l f => by induction l with | nil => rfl | cons a r ih => simp [ih]
 simp only [Option.map_some, hfl]
 rw [map_range]
 rfl
theorem key_inj {x y : Idn} (h : key x = key y) : x = y := by
 have h1 := keyOf_id x
 have h2 := keyOf_id y
 rw [← h] at h2
 have := law.inj h1 h2
 injection this with this
 exact cs_inj this
def SetD (D : DataW Unit) (L : List Idn) : Prop := (∀ x, Maps.has D (key x) = decide (x ∈ L)) ∧ ∀ x, x ∈ L → ∀ z, D.atKey (key x) z = .lit (.int .i64 1)
def SetIn (w : World) (b n : Nat) (L : List Idn) : Prop := ∃ D : DataW Unit, w.ownsMap Tryz.prog 75 (plainElem Tryz.prog 3) b n D ∧ SetD D L
theorem SetIn.made (w : World) : SetIn (w.alloc (.map #[] 0)) w.heap.size 0 [] := ⟨.map [], World.ownsMap_made _ _ _ _, fun x => by simp [Maps.has], fun x hx => absurd hx (by simp)⟩
theorem SetIn.lt {w : World} {b n : Nat} {L : List Idn} (h : SetIn w b n L) : b < w.heap.size := by obtain ⟨D, hD, _⟩ := h; exact hD.lt
theorem SetIn.kept {w w' : World} {b n : Nat} {L : List Idn} {row : Option Nat} (h : SetIn w b n L) (hg : w.grownBy w' row) (hne : some b ≠ row) : SetIn w' b n L := by
 obtain ⟨D, hD, hs⟩ := h
 exact ⟨D, hD.kept hg hne, hs⟩
theorem SetIn.below {w w' : World} {b n : Nat} {L : List Idn} (h : SetIn w b n L) (hb : Below w.heap.size w w') : SetIn w' b n L := h.kept (grown_of_below hb none) (by simp)
theorem SetIn.alloc {w : World} {b n : Nat} {L : List Idn} (h : SetIn w b n L) (o : Obj) : SetIn (w.alloc o) b n L := h.kept (World.grownBy_alloc w o none) (by simp)
theorem SetIn.congr {w : World} {b n : Nat} {L L' : List Idn} (h : SetIn w b n L) (he : ∀ x, x ∈ L ↔ x ∈ L') : SetIn w b n L' := by
 obtain ⟨D, hD, h1, h2⟩ := h
 exact ⟨D, hD, fun x => by rw [h1]; simp only [he], fun x hx => h2 x ((he x).2 hx)⟩
theorem put_D {D : DataW Unit} {L : List Idn} (hm : Maps.IsMap D) (h : SetD D L) (y : Idn) : SetD (D.put (key y) (.lit (.int .i64 1))) (y :: L) := by
 have hk : WideAt.IsKeyLit (key y) := law.key (keyOf_id y)
 refine ⟨fun x => ?_, fun x hx z => ?_⟩
 · by_cases hxy : x = y
   · subst hxy
     rw [Maps.has_put_same hm hk]
     simp
   · rw [Maps.has_put_other (fun e => hxy (key_inj e)), h.1]
     simp [hxy]
 · by_cases hxy : x = y
   · subst hxy
     exact Maps.atKey_put_same hm hk _ _
   · rw [Maps.atKey_put_other (fun e => hxy (key_inj e))]
     exact h.2 x (by simpa [hxy] using hx) z
section
variable (w : World) {ops : Array Oper} {rest : List Oper} {o : Oper} {a : Act} {Q : Exit → Act → World → Prop}
theorem wpList_put (hg : o.guard = none) (m x v : Operand) (hop : o.op = Op.mapUpdate 129 m x v) (b n : Nat) (L : List Idn) (hm : a.eval m = .map (some b)) (h : SetIn w b n L) (hn : n < 1000000)
   (y : Idn) (hx : a.eval x = .agg (cs y)) (hv : a.eval v = .int .i64 1) (hK : ∀ w', SetIn w' b (n + 1) (y :: L) → w.grownBy w' (some b) → wpList Tryz.prog ops Q rest (a.put o.dst undef) w') : wpList Tryz.prog ops Q (o :: rest) a w := by
 obtain ⟨D, hD, hs⟩ := h
 exact wpList_mapUpdate_own w hg m x v 129 hop 75 3 law Tryz.underlying129 _ b n D hm hD (by unfold maxLen; omega) _ _ (key y) hx hv (keyOf_id y) _ [] (plainElem_int Tryz.underlying3 (by decide))
   (fun w' h1 h2 => hK w' ⟨_, h1, put_D hD.isMap hs y⟩ h2)
theorem zero_int (w : World) : (zeroValue 3).run Tryz.prog w = .ok (.int .i64 0) w := by kernel_rfl
theorem wpList_find (hg : o.guard = none) (m x : Operand) (hop : o.op = Op.lookup 129 m x false) (b n : Nat) (L : List Idn) (hm : a.eval m = .map (some b)) (h : SetIn w b n L)
   (y : Idn) (hx : a.eval x = .agg (cs y)) (hK : wpList Tryz.prog ops Q rest (a.put o.dst (.int .i64 (if y ∈ L then 1 else 0))) w) : wpList Tryz.prog ops Q (o :: rest) a w := by
 obtain ⟨D, hD, hs⟩ := h
 refine wpList_lookup_own_int w hg m x 129 hop 75 3 .i64 law Tryz.underlying129 Tryz.underlying3 (zero_int w) b n D hm hD _ (key y) hx (keyOf_id y) (fun c hat _ => ?_)
 have hc : c = if y ∈ L then 1 else 0 := by
   by_cases hy : y ∈ L
   · rw [hs.2 y hy] at hat
     simp only [hy, if_true]
     injection hat with hat
     injection hat with _ hat
     exact hat.symm
   · have hh := hs.1 y
     simp only [hy, decide_false] at hh
     rw [Maps.atKey_of_not_has hh] at hat
     simp only [hy, if_false]
     injection hat with hat
     injection hat with _ hat
     exact hat.symm
 rw [hc]
 exact hK
end
end Go.Proofs.YtgoapaanmcmlmaaGreatDoor.IdK
namespace Go.Proofs.YtgoapaanmcmlmaaGreatDoor.MapV
set_option maxRecDepth 100000
open Go Go.RowKit Go.Maps IdM Byt IdW IdK
def R (v : Value) : Option (DataW Value × List MemPlace) := some (.held v, [])
def ValD (D : DataW Value) (f : Idn → Option Value) : Prop := (∀ x, Maps.has D (key x) = (f x).isSome) ∧ ∀ x v, f x = some v → ∀ z, D.atKey (key x) z = .held v
def ValIn (w : World) (b n : Nat) (f : Idn → Option Value) : Prop := ∃ D : DataW Value, w.ownsMap Tryz.prog 75 R b n D ∧ ValD D f
theorem ValIn.made (w : World) : ValIn (w.alloc (.map #[] 0)) w.heap.size 0 fun _ => none := ⟨.map [], World.ownsMap_made _ _ _ _, fun x => by simp [Maps.has], fun x v hx => by cases hx⟩
theorem ValIn.kept {w w' : World} {b n : Nat} {f : Idn → Option Value} {row : Option Nat} (h : ValIn w b n f) (hg : w.grownBy w' row) (hne : some b ≠ row) : ValIn w' b n f := by
 obtain ⟨D, hD, hs⟩ := h
 exact ⟨D, hD.kept hg hne, hs⟩
theorem ValIn.below {w w' : World} {b n : Nat} {f : Idn → Option Value} (h : ValIn w b n f) (hb : Below w.heap.size w w') : ValIn w' b n f := h.kept (grown_of_below hb none) (by simp)
theorem ValIn.alloc {w : World} {b n : Nat} {f : Idn → Option Value} (h : ValIn w b n f) (o : Obj) : ValIn (w.alloc o) b n f := h.kept (World.grownBy_alloc w o none) (by simp)
theorem ValIn.mono {w : World} {b n m : Nat} {f : Idn → Option Value} (h : ValIn w b n f) (hm : n ≤ m) : ValIn w b m f := by
 obtain ⟨D, hD, hs⟩ := h
 exact ⟨D, hD.mono hm, hs⟩
def upd (f : Idn → Option Value) (y : Idn) (v : Value) : Idn → Option Value := fun x => if x = y then some v else f x
theorem put_D {D : DataW Value} {f : Idn → Option Value} (hm : Maps.IsMap D) (h : ValD D f) (y : Idn) (v : Value) : ValD (D.put (key y) (.held v)) (upd f y v) := by
 have hk : WideAt.IsKeyLit (key y) := law.key (keyOf_id y)
 refine ⟨fun x => ?_, fun x u hx z => ?_⟩
 · unfold upd
   by_cases hxy : x = y
   · subst hxy
     rw [Maps.has_put_same hm hk]
     simp
   · rw [Maps.has_put_other (fun e => hxy (key_inj e)), h.1]
     simp [hxy]
 · unfold upd at hx
   by_cases hxy : x = y
   · subst hxy
     rw [if_pos rfl] at hx
     injection hx with hx
     subst hx
     exact Maps.atKey_put_same hm hk _ _
   · rw [if_neg hxy] at hx
     rw [Maps.atKey_put_other (fun e => hxy (key_inj e))]
     exact h.2 x u hx z
theorem ValD.at_key {D : DataW Value} {f : Idn → Option Value} (h : ValD D f) (y : Idn) (z : Value) : D.atKey (key y) (.held z) = .held ((f y).getD z) := by
 cases hf : f y with
 | some v => exact h.2 y v hf _
 | none =>
   have hh := h.1 y
   rw [hf] at hh
   rw [Maps.atKey_of_not_has hh]
   rfl
theorem held_inj {a b : Value} (h : (DataW.held a : DataW Value) = .held b) : a = b := by injection h
section
variable {T e : TypeId} (hT : Tryz.prog.underlying T = some (.map 75 e)) {zv : Value} (hz : ∀ w : World, (zeroValue e).run Tryz.prog w = .ok zv w)
include hT
theorem run_look {w : World} {b n : Nat} {f : Idn → Option Value} (h : ValIn w b n f) (y : Idn) (hz : ∀ w : World, (zeroValue e).run Tryz.prog w = .ok zv w) : (Instr.lookup T (.map (some b)) (.agg (cs y)) false).run Tryz.prog w = .ok ((f y).getD zv) w := by
 obtain ⟨D, hD, hs⟩ := h
 obtain ⟨v, ps, hrun, hv⟩ := hD.lookup law hT (hz w) (show R zv = some (.held zv, []) from rfl) (keyOf_id y)
 rw [hs.at_key] at hv
 unfold R at hv
 simp only [Option.some.injEq, Prod.mk.injEq] at hv
 rw [hrun, held_inj hv.1]
theorem run_look_ok {w : World} {b n : Nat} {f : Idn → Option Value} (h : ValIn w b n f) (y : Idn) (hz : ∀ w : World, (zeroValue e).run Tryz.prog w = .ok zv w) : (Instr.lookup T (.map (some b)) (.agg (cs y)) true).run Tryz.prog w = .ok (.tuple #[(f y).getD zv, .bool (f y).isSome]) w := by
 obtain ⟨D, hD, hs⟩ := h
 obtain ⟨v, ps, hrun, hv⟩ := hD.look_ok law hT (hz w) (show R zv = some (.held zv, []) from rfl) (keyOf_id y)
 rw [hs.at_key] at hv
 unfold R at hv
 simp only [Option.some.injEq, Prod.mk.injEq] at hv
 rw [hrun, held_inj hv.1, hs.1]
section
variable (w : World) {ops : Array Oper} {rest : List Oper} {o : Oper} {a : Act} {Q : Exit → Act → World → Prop}
theorem wpList_put (hg : o.guard = none) (m x v : Operand) (hop : o.op = Op.mapUpdate T m x v) (b n : Nat) (f : Idn → Option Value) (hm : a.eval m = .map (some b)) (h : ValIn w b n f) (hn : n < 3000000000000)
   (y : Idn) (hx : a.eval x = .agg (cs y)) (u : Value) (hv : a.eval v = u) (hK : ∀ w', ValIn w' b (n + 1) (upd f y u) → w.grownBy w' (some b) → wpList Tryz.prog ops Q rest (a.put o.dst undef) w') : wpList Tryz.prog ops Q (o :: rest) a w := by
 obtain ⟨D, hD, hs⟩ := h
 exact wpList_mapUpdate_own w hg m x v T hop 75 e law hT _ b n D hm hD (by unfold maxLen; omega) _ _ (key y) hx hv (keyOf_id y) (.held u) [] rfl
   (fun w' h1 h2 => hK w' ⟨_, h1, put_D hD.isMap hs y u⟩ h2)
theorem wpList_find (hz : ∀ w : World, (zeroValue e).run Tryz.prog w = .ok zv w) (hg : o.guard = none) (m x : Operand) (hop : o.op = Op.lookup T m x false) (b n : Nat) (f : Idn → Option Value) (hm : a.eval m = .map (some b)) (h : ValIn w b n f)
   (y : Idn) (hx : a.eval x = .agg (cs y)) (u : Value) (hu : (f y).getD zv = u) (hK : wpList Tryz.prog ops Q rest (a.put o.dst u) w) : wpList Tryz.prog ops Q (o :: rest) a w := by
 refine wpList_plain hg fun K' hK' => ?_
 have hrun := run_look hT h y hz
 rw [hu] at hrun
 unfold Oper.wp
 simp [execOp, hop, hm, hx, hrun, Result.andThen]
 exact hK' _ _ hK
theorem wpList_find_ok (hz : ∀ w : World, (zeroValue e).run Tryz.prog w = .ok zv w) (hg : o.guard = none) (m x : Operand) (hop : o.op = Op.lookup T m x true) (b n : Nat) (f : Idn → Option Value) (hm : a.eval m = .map (some b)) (h : ValIn w b n f)
   (y : Idn) (hx : a.eval x = .agg (cs y)) (u : Value) (hu : (f y).getD zv = u) (is : Bool) (hi : (f y).isSome = is) (hK : wpList Tryz.prog ops Q rest (a.put o.dst (.tuple #[u, .bool is])) w) : wpList Tryz.prog ops Q (o :: rest) a w := by
 refine wpList_plain hg fun K' hK' => ?_
 have hrun := run_look_ok hT h y hz
 rw [hu, hi] at hrun
 unfold Oper.wp
 simp [execOp, hop, hm, hx, hrun, Result.andThen]
 exact hK' _ _ hK
end
end
end Go.Proofs.YtgoapaanmcmlmaaGreatDoor.MapV
namespace Go.Proofs.YtgoapaanmcmlmaaGreatDoor.DgY
set_option maxRecDepth 100000
open Go Go.Sort Go.RowKit Byt IdM IdW OpsM OpsW CmM StW CmW CmX CmY DgM DgW DgX
def ckL (s : Int → Int) : List Value := [.int .i64 (s 0), .int .i64 (s 1), .int .i64 (s 2), .int .i64 (s 3), .int .i64 (s 4), .int .i64 (s 5), .int .i64 (s 6), .int .i64 (s 7)]
def CK : Cel.Cel (Int → Int) where
 T := 100
 k := 8
 bytes := 64
 d := _
 enc := ckL
 zero := fun _ => 0
 len _ := rfl
 one c v hv := by
   simp only [ckL, List.mem_cons, List.not_mem_nil, or_false] at hv
   rcases hv with rfl | rfl | rfl | rfl | rfl | rfl | rfl | rfl <;> rfl
 pos := by omega
 info := by kernel_rfl
 under := Tryz.underlying100
 row := rfl
def VE : Cel.Cel (Com × (Int → Int)) where
 T := 102
 k := 11
 bytes := 88
 d := _
 enc v := [.int .i64 v.1.node, .int .i64 v.1.seq, .int .i64 v.1.gen] ++ ckL v.2
 zero := (noK, fun _ => 0)
 len _ := rfl
 one c v hv := by
   simp only [ckL, List.cons_append, List.nil_append, List.mem_cons, List.not_mem_nil, or_false] at hv
   rcases hv with rfl | rfl | rfl | rfl | rfl | rfl | rfl | rfl | rfl | rfl | rfl <;> rfl
 pos := by omega
 info := by kernel_rfl
 under := Tryz.underlying102
 row := rfl
def ck (s : Int → Int) : Array Value := (ckL s).toArray
def vc (v : Com × (Int → Int)) : Array Value := (VE.enc v).toArray
theorem eight {n : Int} (h : 0 ≤ n ∧ n < 8) : n = 0 ∨ n = 1 ∨ n = 2 ∨ n = 3 ∨ n = 4 ∨ n = 5 ∨ n = 6 ∨ n = 7 := by omega
theorem ck_at (s : Int → Int) {n : Int} (h : 0 ≤ n ∧ n < 8) : (ckL s)[n.toNat]? = some (.int .i64 (s n)) := by
 rcases eight h with rfl | rfl | rfl | rfl | rfl | rfl | rfl | rfl <;> rfl
theorem ck_set (s : Int → Int) {n : Int} (h : 0 ≤ n ∧ n < 8) (v : Int) : (ckL s).set n.toNat (.int .i64 v) = ckL fun m => if m = n then v else s m := by
 rcases eight h with rfl | rfl | rfl | rfl | rfl | rfl | rfl | rfl <;> rfl
theorem ck_congr {s t : Int → Int} (h : ∀ n, 0 ≤ n → n < 8 → s n = t n) : ckL s = ckL t := by
 unfold ckL
 rw [h 0 (by omega) (by omega), h 1 (by omega) (by omega), h 2 (by omega) (by omega), h 3 (by omega) (by omega), h 4 (by omega) (by omega), h 5 (by omega) (by omega), h 6 (by omega) (by omega), h 7 (by omega) (by omega)]
theorem index_ck (s : Int → Int) {n : Int} (h : 0 ≤ n ∧ n < 8) (w : World) : (Instr.index 100 (.agg (ck s)) (.int .i64 n)).run Tryz.prog w = .ok (.int .i64 (s n)) w := by
 rcases eight h with rfl | rfl | rfl | rfl | rfl | rfl | rfl | rfl
 all_goals kernel_rfl
theorem results_ck {fn : Func} {p : Tmp} (h : fn.results = #[.cell p 100]) (tmps : Array Value) (w : World) (g : Nat) (s : Int → Int)
   (hp : tmps.getD p undef = .pointer (some ⟨g, 0, none⟩)) (hg : Cel.Box CK w g s) : (results fn tmps).run Tryz.prog w = .ok (.agg (ck s)) w := by
 obtain ⟨t, ht⟩ := hg
 have hp' : tmps[p]?.getD undef = .pointer (some ⟨g, 0, none⟩) := by simpa using hp
 have hl := run_loadVar_row w g t 100 (CK.enc s).toArray (0, 0) _ ht CK.under CK.row (CK.size' s)
 simp [results, h, hp', asAddr, hl]
 rfl
theorem results_ckb {fn : Func} {p q : Tmp} (h : fn.results = #[.cell p 100, .tmp q]) (tmps : Array Value) (w : World) (g : Nat) (s : Int → Int) (x : Value)
   (hp : tmps.getD p undef = .pointer (some ⟨g, 0, none⟩)) (hq : tmps.getD q undef = x) (hg : Cel.Box CK w g s) : (results fn tmps).run Tryz.prog w = .ok (.tuple #[.agg (ck s), x]) w := by
 obtain ⟨t, ht⟩ := hg
 have hp' : tmps[p]?.getD undef = .pointer (some ⟨g, 0, none⟩) := by simpa using hp
 have hq' : tmps[q]?.getD undef = x := by simpa using hq
 have hl := run_loadVar_row w g t 100 (CK.enc s).toArray (0, 0) _ ht CK.under CK.row (CK.size' s)
 simp [results, h, hp', hq', asAddr, hl]
 rfl
theorem box_congr {w : World} {g : Nat} {s t : Int → Int} (h : Cel.Box CK w g s) (e : ∀ n, 0 ≤ n → n < 8 → s n = t n) : Cel.Box CK w g t := by
 obtain ⟨ty, ht⟩ := h
 exact ⟨ty, by rw [ht]; congr 2; exact congrArg List.toArray (ck_congr e)⟩
section
variable {ops : Array Oper} {rest : List Oper} {o : Oper} {a : Act} {w : World} {Q : Exit → Act → World → Prop}
theorem load_ck (hgd : o.guard = none) (x : Operand) (ho : o.op = .load 100 x) (g : Nat) (hx : a.eval x = .pointer (some ⟨g, 0, none⟩)) (s : Int → Int) (hb : Cel.Box CK w g s) (h : wpList Tryz.prog ops Q rest (a.put o.dst (.agg (ck s))) w) : wpList Tryz.prog ops Q (o :: rest) a w :=
 Cel.wpList_load_box CK hgd x ho g hx s hb h
theorem store_ck (hgd : o.guard = none) (hd : o.dst = none) (x y : Operand) (ho : o.op = .store 3 x y) (g : Nat) (n : Int) (hn : 0 ≤ n ∧ n < 8) (hx : a.eval x = .pointer (some ⟨g, n.toNat, none⟩)) (old : Int → Int) (hc : Cel.Box CK w g old) (v : Int) (hy : a.eval y = .int .i64 v)
   (h : ∀ w', Cel.Box CK w' g (fun m => if m = n then v else old m) → (∀ B, B ≤ g → Below B w w') → w.grownBy w' (some g) → w'.heap.size = w.heap.size → wpList Tryz.prog ops Q rest a w') : wpList Tryz.prog ops Q (o :: rest) a w :=
 Cel.wpList_store_field CK hgd hd 3 x y ho (by kernel_rfl) g n.toNat hx (by show n.toNat < 8; omega) old hc (fun m => if m = n then v else old m) (.int .i64 v) hy rfl rfl (ck_set old hn v) h
end
theorem has_ret (s : Int → Int) (e : Ev) (h : 0 ≤ e.node ∧ e.node < 8) (w : World) :
   Calls Tryz.prog 73 #[.agg (ck s), .agg (ec e)] w fun x w' => x = .returned (.bool (decide (e.seq ≤ s e.node))) ∧ Below w.heap.size w w' := by
 have z1 : (w.alloc (.cells (ck s) 100)).heap.size = w.heap.size + 1 := by simp
 have B1 : Cel.Box CK ((w.alloc (.cells (ck s) 100)).alloc (.cells (ec e) 24)) w.heap.size s := (Cel.Box.new (E := CK) w s _).alloc _
 have B2 : Cel.Box EE ((w.alloc (.cells (ck s) 100)).alloc (.cells (ec e) 24)) (w.heap.size + 1) e := by
   rw [← z1]
   exact Cel.Box.new (E := EE) _ e _
 have kb : Below w.heap.size w ((w.alloc (.cells (ck s) 100)).alloc (.cells (ec e) 24)) := ((Below.refl _ _).alloc (Nat.le_refl _) _).alloc (by simp) _
 obtain ⟨n, q⟩ := e
 have h0 : 0 ≤ n := h.1
 have h8 : n < 8 := h.2
 have c1 := B1.cell (ck_at s h)
 obtain ⟨c2, c3⟩ := ev_cells B2
 obtain ⟨x, hx⟩ : ∃ x, s n = x := ⟨_, rfl⟩
 simp only at c1 c2 c3
 rw [hx] at c1
 have HX := aside hx
 clear z1 B1 B2 hx h
 go_enter Tryz.func73, Tryz.ntmps73
 go_wp2
 go_quiet (fail)
 go_wp2
 go_ret
 exact ⟨by rw [HX.out]; rfl, below_drew kb _⟩
theorem max_int (x y : Int) (ts : Array TypeId) (t : TypeId) (w : World) : (Builtin.max_ ts t #[.int .i64 x, .int .i64 y]).run Tryz.prog w = .ok (.int .i64 (max x y)) w := by
 rw [run_max_int2]
 congr 2
 by_cases h : y > x
 · rw [if_pos h]; omega
 · rw [if_neg h]; omega
theorem and_ret (s t : Int → Int) (w : World) :
   Calls Tryz.prog 102 #[.agg (ck s), .agg (ck t)] w fun x w' => x = .returned (.agg (ck fun n => max (s n) (t n))) ∧ Below w.heap.size w w' := by
 have z1 : (w.alloc (.cells (ck s) 100)).heap.size = w.heap.size + 1 := by simp
 have z2 : ((w.alloc (.cells (ck s) 100)).alloc (.cells (ck t) 100)).heap.size = w.heap.size + 1 + 1 := by simp
 have B1 : Cel.Box CK (((w.alloc (.cells (ck s) 100)).alloc (.cells (ck t) 100)).alloc (.cells (ck fun _ => 0) 100)) w.heap.size s := ((Cel.Box.new (E := CK) w s _).alloc _).alloc _
 have B2 : Cel.Box CK (((w.alloc (.cells (ck s) 100)).alloc (.cells (ck t) 100)).alloc (.cells (ck fun _ => 0) 100)) (w.heap.size + 1) t := by
   rw [← z1]
   exact (Cel.Box.new (E := CK) _ t _).alloc _
 have B3 : Cel.Box CK (((w.alloc (.cells (ck s) 100)).alloc (.cells (ck t) 100)).alloc (.cells (ck fun _ => 0) 100)) (w.heap.size + 1 + 1) (fun _ => 0) := by
   rw [← z2]
   exact Cel.Box.new (E := CK) _ (fun _ => 0) _
 have kb : Below w.heap.size w (((w.alloc (.cells (ck s) 100)).alloc (.cells (ck t) 100)).alloc (.cells (ck fun _ => 0) 100)) := (((Below.refl _ _).alloc (Nat.le_refl _) _).alloc (by simp) _).alloc (by simp; omega) _
 clear z1 z2
 go_enter Tryz.func102, Tryz.ntmps102
 go_wp2_with (first | go_skip | (refine load_ck rfl _ rfl _ rfl t B2 ?_))
 go_loopw [8] (fun i wr => ∃ k : Nat, k ≤ 8 ∧ i = .int .i64 k ∧ Cel.Box CK wr w.heap.size (fun n => if n < k then max (s n) (t n) else s n) ∧ Cel.Box CK wr (w.heap.size + 1 + 1) (fun _ => 0) ∧ Below w.heap.size w wr) (fun i _ => 8 - (intOf i).toNat)
 case atStart => exact ⟨0, Nat.zero_le _, rfl, box_congr B1 fun n h0 _ => (if_neg (by omega)).symm, B3, kb⟩
 case round =>
   clear B1 B2 B3 kb
   obtain ⟨k, hk, rfl, B1, B3, kb⟩ := hrel
   by_cases hlt : k < 8
   · have h8 : 0 ≤ (k : Int) ∧ (k : Int) < 8 := by omega
     have hi := index_ck t h8
     have hc := ck_at (fun n : Int => if n < k then max (s n) (t n) else s n) h8
     obtain ⟨x, hx⟩ : ∃ x, s k = x := ⟨_, rfl⟩
     obtain ⟨y, hy⟩ : ∃ y, t k = y := ⟨_, rfl⟩
     rw [if_neg (Int.lt_irrefl _), hx] at hc
     have c1 := B1.cell hc
     clear hc
     rw [hy] at hi
     have HX := aside hx
     have HY := aside hy
     have p0 : (k : Int) < 8 := h8.2
     have o0 : 0 ≤ (k : Int) := h8.1
     have m0 : ((k : Int)).toNat = k := by omega
     rw [m0] at c1
     have hm := max_int x y
     obtain ⟨z, hz⟩ : ∃ z, max x y = z := ⟨_, rfl⟩
     rw [hz] at hm
     have HZ := aside hz
     clear hx hy hz
     go_wp2_with (first | go_skip | (refine store_ck rfl rfl _ _ rfl w.heap.size k h8 rfl _ B1 z rfl ?_; intro w1 B2 f2 g2 s2))
     go_roundw
     case rel =>
       refine ⟨k + 1, by omega, by go_num, box_congr B2 fun n h0 h1 => ?_, B3.kept g2 (by simp; omega), kb.trans (f2 _ (Nat.le_refl _))⟩
       have e1 := HX.out
       have e2 := HY.out
       have e3 := HZ.out
       by_cases e : n = k
       · rw [if_pos e, if_pos (by omega), e, e1, e2, e3]
       · rw [if_neg e]
         by_cases e4 : n < k
         · rw [if_pos e4, if_pos (by omega)]
         · rw [if_neg e4, if_neg (by omega)]
     case measure => simp [intOf]; omega
   · obtain rfl : k = 8 := by omega
     have B1' : Cel.Box CK wr w.heap.size (fun n => max (s n) (t n)) := box_congr B1 fun n _ h1 => if_pos (by omega)
     clear B1
     go_wp2_with (first | go_skip | (refine load_ck rfl _ rfl _ rfl _ B1' ?_) | (refine Cel.wpList_store_box CK rfl _ _ rfl (w.heap.size + 1 + 1) rfl _ B3 (fun n => max (s n) (t n)) rfl ?_; intro w1 B5 f5 g5 s5))
     exact bodyPost_ret (v := .agg (ck fun n => max (s n) (t n))) (results_ck Tryz.results102 _ _ (w.heap.size + 1 + 1) _ rfl B5) rfl ⟨rfl, kb.trans (f5 _ (by omega))⟩
end Go.Proofs.YtgoapaanmcmlmaaGreatDoor.DgY
