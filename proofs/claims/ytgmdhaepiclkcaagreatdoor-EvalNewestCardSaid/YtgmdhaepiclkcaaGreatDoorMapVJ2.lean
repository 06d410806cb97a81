/- Maps whose keys are ids, of values of whatever kind. No condition. | Clocks and views in memory; what the project's has, and, copied of package dag return. No condition. -/
import Derived.Test.YtgmdhaepiclkcaaGreatDoorEaWJ8
import Derived.Maps.OwnSet
import Derived.Test.YtgmdhaepiclkcaaGreatDoorDgX
import Derived.Test.YtgmdhaepiclkcaaGreatDoorRowGJ15
import Derived.Test.YtgmdhaepiclkcaaGreatDoorOpsGJ6
namespace Go.Proofs.YtgmdhaepiclkcaaGreatDoor.MapV
set_option maxRecDepth 100000
open Go Go.RowKit Go.Maps IdM Byt IdW IdK
def R (v : Value) : Option (DataW Value × List MemPlace) := some (.held v, [])
def ValD (D : DataW Value) (f : Idn → Option Value) : Prop := (∀ x, Maps.has D (key x) = (f x).isSome) ∧ ∀ x v, f x = some v → ∀ z, D.atKey (key x) z = .held v
def ValIn (w : World) (b n : Nat) (f : Idn → Option Value) : Prop := ∃ D : DataW Value, w.ownsMap Tryz.prog 56 R b n D ∧ ValD D f
theorem ValIn.made (w : World) : ValIn (w.alloc (.map #[] 0)) w.heap.size 0 fun _ => none := ⟨.map [], World.ownsMap_made _ _ _ _, fun x => by simp [Maps.has], fun x v hx => by cases hx⟩
theorem ValIn.lt {w : World} {b n : Nat} {f : Idn → Option Value} (h : ValIn w b n f) : b < w.heap.size := by obtain ⟨D, hD, _⟩ := h; exact hD.lt
theorem ValIn.kept {w w' : World} {b n : Nat} {f : Idn → Option Value} {row : Option Nat} (h : ValIn w b n f) (hg : w.grownBy w' row) (hne : some b ≠ row) : ValIn w' b n f := by
 obtain ⟨D, hD, hs⟩ := h
 exact ⟨D, hD.kept hg hne, hs⟩
theorem ValIn.below {w w' : World} {b n : Nat} {f : Idn → Option Value} (h : ValIn w b n f) (hb : Below w.heap.size w w') : ValIn w' b n f := h.kept (grown_of_below hb none) (by simp)
theorem ValIn.alloc {w : World} {b n : Nat} {f : Idn → Option Value} (h : ValIn w b n f) (o : Obj) : ValIn (w.alloc o) b n f := h.kept (World.grownBy_alloc w o none) (by simp)
theorem ValIn.mono {w : World} {b n m : Nat} {f : Idn → Option Value} (h : ValIn w b n f) (hm : n ≤ m) : ValIn w b m f := by
 obtain ⟨D, hD, hs⟩ := h
 exact ⟨D, hD.mono hm, hs⟩
def upd (f : Idn → Option Value) (y : Idn) (v : Value) : Idn → Option Value := fun x => if x = y then some v else f x
theorem put_D {D : DataW Value} {f : Idn → Option Value} (hm : Maps.IsMap D) (h : ValD D f) (y : Idn) (v : Value) : ValD (D.put (key y) (.held v)) (upd f y v) := by
 have hk : WideAt.IsKeyLit (key y) := law.key (keyOf_id y)
 refine ⟨fun x => ?_, fun x u hx z => ?_⟩
 · unfold upd
   by_cases hxy : x = y
   · subst hxy
     rw [Maps.has_put_same hm hk]
     simp
   · rw [Maps.has_put_other (fun e => hxy (key_inj e)), h.1]
     simp [hxy]
 · unfold upd at hx
   by_cases hxy : x = y
   · subst hxy
     rw [if_pos rfl] at hx
     injection hx with hx
     subst hx
     exact Maps.atKey_put_same hm hk _ _
   · rw [if_neg hxy] at hx
     rw [Maps.atKey_put_other (fun e => hxy (key_inj e))]
     exact h.2 x u hx z
theorem ValD.at_key {D : DataW Value} {f : Idn → Option Value} (h : ValD D f) (y : Idn) (z : Value) : D.atKey (key y) (.held z) = .held ((f y).getD z) := by
 cases hf : f y with
 | some v => exact h.2 y v hf _
 | none =>
   have hh := h.1 y
   rw [hf] at hh
   rw [Maps.atKey_of_not_has hh]
   rfl
theorem held_inj {a b : Value} (h : (DataW.held a : DataW Value) = .held b) : a = b := by injection h
section
variable {T e : TypeId} (hT : Tryz.prog.underlying T = some (.map 56 e)) {zv : Value} (hz : ∀ w : World, (zeroValue e).run Tryz.prog w = .ok zv w)
include hT
theorem run_look {w : World} {b n : Nat} {f : Idn → Option Value} (h : ValIn w b n f) (y : Idn) (hz : ∀ w : World, (zeroValue e).run Tryz.prog w = .ok zv w) : (Instr.lookup T (.map (some b)) (.agg (cs y)) false).run Tryz.prog w = .ok ((f y).getD zv) w := by
 obtain ⟨D, hD, hs⟩ := h
 obtain ⟨v, ps, hrun, hv⟩ := hD.lookup law hT (hz w) (show R zv = some (.held zv, []) from rfl) (keyOf_id y)
 rw [hs.at_key] at hv
 unfold R at hv
 simp only [Option.some.injEq, Prod.mk.injEq] at hv
 rw [hrun, held_inj hv.1]
theorem run_look_ok {w : World} {b n : Nat} {f : Idn → Option Value} (h : ValIn w b n f) (y : Idn) (hz : ∀ w : World, (zeroValue e).run Tryz.prog w = .ok zv w) : (Instr.lookup T (.map (some b)) (.agg (cs y)) true).run Tryz.prog w = .ok (.tuple #[(f y).getD zv, .bool (f y).isSome]) w := by
 obtain ⟨D, hD, hs⟩ := h
 obtain ⟨v, ps, hrun, hv⟩ := hD.look_ok law hT (hz w) (show R zv = some (.held zv, []) from rfl) (keyOf_id y)
 rw [hs.at_key] at hv
 unfold R at hv
 simp only [Option.some.injEq, Prod.mk.injEq] at hv
 rw [hrun, held_inj hv.1, hs.1]
section
variable (w : World) {ops : Array Oper} {rest : List Oper} {o : Oper} {a : Act} {Q : Exit → Act → World → Prop}
theorem wpList_put (hg : o.guard = none) (m x v : Operand) (hop : o.op = Op.mapUpdate T m x v) (b n : Nat) (f : Idn → Option Value) (hm : a.eval m = .map (some b)) (h : ValIn w b n f) (hn : n < 3000000000000)
   (y : Idn) (hx : a.eval x = .agg (cs y)) (u : Value) (hv : a.eval v = u) (hK : ∀ w', ValIn w' b (n + 1) (upd f y u) → w.grownBy w' (some b) → wpList Tryz.prog ops Q rest (a.put o.dst undef) w') : wpList Tryz.prog ops Q (o :: rest) a w := by
 obtain ⟨D, hD, hs⟩ := h
 exact wpList_mapUpdate_own w hg m x v T hop 56 e law hT _ b n D hm hD (by unfold maxLen; omega) _ _ (key y) hx hv (keyOf_id y) (.held u) [] rfl
   (fun w' h1 h2 => hK w' ⟨_, h1, put_D hD.isMap hs y u⟩ h2)
theorem wpList_find (hz : ∀ w : World, (zeroValue e).run Tryz.prog w = .ok zv w) (hg : o.guard = none) (m x : Operand) (hop : o.op = Op.lookup T m x false) (b n : Nat) (f : Idn → Option Value) (hm : a.eval m = .map (some b)) (h : ValIn w b n f)
   (y : Idn) (hx : a.eval x = .agg (cs y)) (u : Value) (hu : (f y).getD zv = u) (hK : wpList Tryz.prog ops Q rest (a.put o.dst u) w) : wpList Tryz.prog ops Q (o :: rest) a w := by
 refine wpList_plain hg fun K' hK' => ?_
 have hrun := run_look hT h y hz
 rw [hu] at hrun
 unfold Oper.wp
 simp [execOp, hop, hm, hx, hrun, Result.andThen]
 exact hK' _ _ hK
theorem wpList_find_ok (hz : ∀ w : World, (zeroValue e).run Tryz.prog w = .ok zv w) (hg : o.guard = none) (m x : Operand) (hop : o.op = Op.lookup T m x true) (b n : Nat) (f : Idn → Option Value) (hm : a.eval m = .map (some b)) (h : ValIn w b n f)
   (y : Idn) (hx : a.eval x = .agg (cs y)) (u : Value) (hu : (f y).getD zv = u) (is : Bool) (hi : (f y).isSome = is) (hK : wpList Tryz.prog ops Q rest (a.put o.dst (.tuple #[u, .bool is])) w) : wpList Tryz.prog ops Q (o :: rest) a w := by
 refine wpList_plain hg fun K' hK' => ?_
 have hrun := run_look_ok hT h y hz
 rw [hu, hi] at hrun
 unfold Oper.wp
 simp [execOp, hop, hm, hx, hrun, Result.andThen]
 exact hK' _ _ hK
end
end
end Go.Proofs.YtgmdhaepiclkcaaGreatDoor.MapV
namespace Go.Proofs.YtgmdhaepiclkcaaGreatDoor.DgY
set_option maxRecDepth 100000
open Go Go.Sort Go.RowKit Byt IdM IdW OpsM OpsW CmM StW CmW CmX CmY DgM DgW DgX
def ckL (s : Int → Int) : List Value := [.int .i64 (s 0), .int .i64 (s 1), .int .i64 (s 2), .int .i64 (s 3), .int .i64 (s 4), .int .i64 (s 5), .int .i64 (s 6), .int .i64 (s 7)]
def CK : Cel.Cel (Int → Int) where
 T := 109
 k := 8
 bytes := 64
 d := _
 enc := ckL
 zero := fun _ => 0
 len _ := rfl
 one c v hv := by
   simp only [ckL, List.mem_cons, List.not_mem_nil, or_false] at hv
   rcases hv with rfl | rfl | rfl | rfl | rfl | rfl | rfl | rfl <;> rfl
 pos := by omega
 info := by kernel_rfl
 under := Tryz.underlying109
 row := rfl
def VE : Cel.Cel (Com × (Int → Int)) where
 T := 112
 k := 11
 bytes := 88
 d := _
 enc v := [.int .i64 v.1.node, .int .i64 v.1.seq, .int .i64 v.1.gen] ++ ckL v.2
 zero := (noK, fun _ => 0)
 len _ := rfl
 one c v hv := by
   simp only [ckL, List.cons_append, List.nil_append, List.mem_cons, List.not_mem_nil, or_false] at hv
   rcases hv with rfl | rfl | rfl | rfl | rfl | rfl | rfl | rfl | rfl | rfl | rfl <;> rfl
 pos := by omega
 info := by kernel_rfl
 under := Tryz.underlying112
 row := rfl
def ck (s : Int → Int) : Array Value := (ckL s).toArray
def vc (v : Com × (Int → Int)) : Array Value := (VE.enc v).toArray
theorem eight {n : Int} (h : 0 ≤ n ∧ n < 8) : n = 0 ∨ n = 1 ∨ n = 2 ∨ n = 3 ∨ n = 4 ∨ n = 5 ∨ n = 6 ∨ n = 7 := by omega
theorem ck_at (s : Int → Int) {n : Int} (h : 0 ≤ n ∧ n < 8) : (ckL s)[n.toNat]? = some (.int .i64 (s n)) := by
 rcases eight h with rfl | rfl | rfl | rfl | rfl | rfl | rfl | rfl <;> rfl
theorem ck_set (s : Int → Int) {n : Int} (h : 0 ≤ n ∧ n < 8) (v : Int) : (ckL s).set n.toNat (.int .i64 v) = ckL fun m => if m = n then v else s m := by
 rcases eight h with rfl | rfl | rfl | rfl | rfl | rfl | rfl | rfl <;> rfl
theorem ck_congr {s t : Int → Int} (h : ∀ n, 0 ≤ n → n < 8 → s n = t n) : ckL s = ckL t := by
 unfold ckL
 rw [h 0 (by omega) (by omega), h 1 (by omega) (by omega), h 2 (by omega) (by omega), h 3 (by omega) (by omega), h 4 (by omega) (by omega), h 5 (by omega) (by omega), h 6 (by omega) (by omega), h 7 (by omega) (by omega)]
theorem index_ck (s : Int → Int) {n : Int} (h : 0 ≤ n ∧ n < 8) (w : World) : (Instr.index 109 (.agg (ck s)) (.int .i64 n)).run Tryz.prog w = .ok (.int .i64 (s n)) w := by
 rcases eight h with rfl | rfl | rfl | rfl | rfl | rfl | rfl | rfl
 all_goals kernel_rfl
theorem results_ck {fn : Func} {p : Tmp} (h : fn.results = #[.cell p 109]) (tmps : Array Value) (w : World) (g : Nat) (s : Int → Int)
   (hp : tmps.getD p undef = .pointer (some ⟨g, 0, none⟩)) (hg : Cel.Box CK w g s) : (results fn tmps).run Tryz.prog w = .ok (.agg (ck s)) w := by
 obtain ⟨t, ht⟩ := hg
 have hp' : tmps[p]?.getD undef = .pointer (some ⟨g, 0, none⟩) := by simpa using hp
 have hl := run_loadVar_row w g t 109 (CK.enc s).toArray (0, 0) _ ht CK.under CK.row (CK.size' s)
 simp [results, h, hp', asAddr, hl]
 rfl
theorem results_ckb {fn : Func} {p q : Tmp} (h : fn.results = #[.cell p 109, .tmp q]) (tmps : Array Value) (w : World) (g : Nat) (s : Int → Int) (x : Value)
   (hp : tmps.getD p undef = .pointer (some ⟨g, 0, none⟩)) (hq : tmps.getD q undef = x) (hg : Cel.Box CK w g s) : (results fn tmps).run Tryz.prog w = .ok (.tuple #[.agg (ck s), x]) w := by
 obtain ⟨t, ht⟩ := hg
 have hp' : tmps[p]?.getD undef = .pointer (some ⟨g, 0, none⟩) := by simpa using hp
 have hq' : tmps[q]?.getD undef = x := by simpa using hq
 have hl := run_loadVar_row w g t 109 (CK.enc s).toArray (0, 0) _ ht CK.under CK.row (CK.size' s)
 simp [results, h, hp', hq', asAddr, hl]
 rfl
theorem box_congr {w : World} {g : Nat} {s t : Int → Int} (h : Cel.Box CK w g s) (e : ∀ n, 0 ≤ n → n < 8 → s n = t n) : Cel.Box CK w g t := by
 obtain ⟨ty, ht⟩ := h
 exact ⟨ty, by rw [ht]; congr 2; exact congrArg List.toArray (ck_congr e)⟩
section
variable {ops : Array Oper} {rest : List Oper} {o : Oper} {a : Act} {w : World} {Q : Exit → Act → World → Prop}
theorem load_ck (hgd : o.guard = none) (x : Operand) (ho : o.op = .load 109 x) (g : Nat) (hx : a.eval x = .pointer (some ⟨g, 0, none⟩)) (s : Int → Int) (hb : Cel.Box CK w g s) (h : wpList Tryz.prog ops Q rest (a.put o.dst (.agg (ck s))) w) : wpList Tryz.prog ops Q (o :: rest) a w :=
 Cel.wpList_load_box CK hgd x ho g hx s hb h
theorem store_ck (hgd : o.guard = none) (hd : o.dst = none) (x y : Operand) (ho : o.op = .store 3 x y) (g : Nat) (n : Int) (hn : 0 ≤ n ∧ n < 8) (hx : a.eval x = .pointer (some ⟨g, n.toNat, none⟩)) (old : Int → Int) (hc : Cel.Box CK w g old) (v : Int) (hy : a.eval y = .int .i64 v)
   (h : ∀ w', Cel.Box CK w' g (fun m => if m = n then v else old m) → (∀ B, B ≤ g → Below B w w') → w.grownBy w' (some g) → w'.heap.size = w.heap.size → wpList Tryz.prog ops Q rest a w') : wpList Tryz.prog ops Q (o :: rest) a w :=
 Cel.wpList_store_field CK hgd hd 3 x y ho (by kernel_rfl) g n.toNat hx (by show n.toNat < 8; omega) old hc (fun m => if m = n then v else old m) (.int .i64 v) hy rfl rfl (ck_set old hn v) h
end
theorem has_ret (s : Int → Int) (e : Ev) (h : 0 ≤ e.node ∧ e.node < 8) (w : World) :
   Calls Tryz.prog 69 #[.agg (ck s), .agg (ec e)] w fun x w' => x = .returned (.bool (decide (e.seq ≤ s e.node))) ∧ Below w.heap.size w w' := by
 have z1 : (w.alloc (.cells (ck s) 109)).heap.size = w.heap.size + 1 := by simp
 have B1 : Cel.Box CK ((w.alloc (.cells (ck s) 109)).alloc (.cells (ec e) 43)) w.heap.size s := (Cel.Box.new (E := CK) w s _).alloc _
 have B2 : Cel.Box EE ((w.alloc (.cells (ck s) 109)).alloc (.cells (ec e) 43)) (w.heap.size + 1) e := by
   rw [← z1]
   exact Cel.Box.new (E := EE) _ e _
 have kb : Below w.heap.size w ((w.alloc (.cells (ck s) 109)).alloc (.cells (ec e) 43)) := ((Below.refl _ _).alloc (Nat.le_refl _) _).alloc (by simp) _
 obtain ⟨n, q⟩ := e
 have h0 : 0 ≤ n := h.1
 have h8 : n < 8 := h.2
 have c1 := B1.cell (ck_at s h)
 obtain ⟨c2, c3⟩ := ev_cells B2
 obtain ⟨x, hx⟩ : ∃ x, s n = x := ⟨_, rfl⟩
 simp only at c1 c2 c3
 rw [hx] at c1
 have HX := aside hx
 clear z1 B1 B2 hx h
 go_enter Tryz.func69, Tryz.ntmps69
 go_wp2
 go_quiet (fail)
 go_wp2
 go_ret
 exact ⟨by rw [HX.out]; rfl, below_drew kb _⟩
theorem max_int (x y : Int) (ts : Array TypeId) (t : TypeId) (w : World) : (Builtin.max_ ts t #[.int .i64 x, .int .i64 y]).run Tryz.prog w = .ok (.int .i64 (max x y)) w := by
 rw [run_max_int2]
 congr 2
 by_cases h : y > x
 · rw [if_pos h]; omega
 · rw [if_neg h]; omega
theorem and_ret (s t : Int → Int) (w : World) :
   Calls Tryz.prog 68 #[.agg (ck s), .agg (ck t)] w fun x w' => x = .returned (.agg (ck fun n => max (s n) (t n))) ∧ Below w.heap.size w w' := by
 have z1 : (w.alloc (.cells (ck s) 109)).heap.size = w.heap.size + 1 := by simp
 have z2 : ((w.alloc (.cells (ck s) 109)).alloc (.cells (ck t) 109)).heap.size = w.heap.size + 1 + 1 := by simp
 have B1 : Cel.Box CK (((w.alloc (.cells (ck s) 109)).alloc (.cells (ck t) 109)).alloc (.cells (ck fun _ => 0) 109)) w.heap.size s := ((Cel.Box.new (E := CK) w s _).alloc _).alloc _
 have B2 : Cel.Box CK (((w.alloc (.cells (ck s) 109)).alloc (.cells (ck t) 109)).alloc (.cells (ck fun _ => 0) 109)) (w.heap.size + 1) t := by
   rw [← z1]
   exact (Cel.Box.new (E := CK) _ t _).alloc _
 have B3 : Cel.Box CK (((w.alloc (.cells (ck s) 109)).alloc (.cells (ck t) 109)).alloc (.cells (ck fun _ => 0) 109)) (w.heap.size + 1 + 1) (fun _ => 0) := by
   rw [← z2]
   exact Cel.Box.new (E := CK) _ (fun _ => 0) _
 have kb : Below w.heap.size w (((w.alloc (.cells (ck s) 109)).alloc (.cells (ck t) 109)).alloc (.cells (ck fun _ => 0) 109)) := (((Below.refl _ _).alloc (Nat.le_refl _) _).alloc (by simp) _).alloc (by simp; omega) _
 clear z1 z2
 go_enter Tryz.func68, Tryz.ntmps68
 go_wp2_with (first | go_skip | (refine load_ck rfl _ rfl _ rfl t B2 ?_))
 go_loopw [8] (fun i wr => ∃ k : Nat, k ≤ 8 ∧ i = .int .i64 k ∧ Cel.Box CK wr w.heap.size (fun n => if n < k then max (s n) (t n) else s n) ∧ Cel.Box CK wr (w.heap.size + 1 + 1) (fun _ => 0) ∧ Below w.heap.size w wr) (fun i _ => 8 - (intOf i).toNat)
 case atStart => exact ⟨0, Nat.zero_le _, rfl, box_congr B1 fun n h0 _ => (if_neg (by omega)).symm, B3, kb⟩
 case round =>
   clear B1 B2 B3 kb
   obtain ⟨k, hk, rfl, B1, B3, kb⟩ := hrel
   by_cases hlt : k < 8
   · have h8 : 0 ≤ (k : Int) ∧ (k : Int) < 8 := by omega
     have hi := index_ck t h8
     have hc := ck_at (fun n : Int => if n < k then max (s n) (t n) else s n) h8
     obtain ⟨x, hx⟩ : ∃ x, s k = x := ⟨_, rfl⟩
     obtain ⟨y, hy⟩ : ∃ y, t k = y := ⟨_, rfl⟩
     rw [if_neg (Int.lt_irrefl _), hx] at hc
     have c1 := B1.cell hc
     clear hc
     rw [hy] at hi
     have HX := aside hx
     have HY := aside hy
     have p0 : (k : Int) < 8 := h8.2
     have o0 : 0 ≤ (k : Int) := h8.1
     have m0 : ((k : Int)).toNat = k := by omega
     rw [m0] at c1
     have hm := max_int x y
     obtain ⟨z, hz⟩ : ∃ z, max x y = z := ⟨_, rfl⟩
     rw [hz] at hm
     have HZ := aside hz
     clear hx hy hz
     go_wp2_with (first | go_skip | (refine store_ck rfl rfl _ _ rfl w.heap.size k h8 rfl _ B1 z rfl ?_; intro w1 B2 f2 g2 s2))
     go_roundw
     case rel =>
       refine ⟨k + 1, by omega, by go_num, box_congr B2 fun n h0 h1 => ?_, B3.kept g2 (by simp; omega), kb.trans (f2 _ (Nat.le_refl _))⟩
       have e1 := HX.out
       have e2 := HY.out
       have e3 := HZ.out
       by_cases e : n = k
       · rw [if_pos e, if_pos (by omega), e, e1, e2, e3]
       · rw [if_neg e]
         by_cases e4 : n < k
         · rw [if_pos e4, if_pos (by omega)]
         · rw [if_neg e4, if_neg (by omega)]
     case measure => simp [intOf]; omega
   · obtain rfl : k = 8 := by omega
     have B1' : Cel.Box CK wr w.heap.size (fun n => max (s n) (t n)) := box_congr B1 fun n _ h1 => if_pos (by omega)
     clear B1
     go_wp2_with (first | go_skip | (refine load_ck rfl _ rfl _ rfl _ B1' ?_) | (refine Cel.wpList_store_box CK rfl _ _ rfl (w.heap.size + 1 + 1) rfl _ B3 (fun n => max (s n) (t n)) rfl ?_; intro w1 B5 f5 g5 s5))
     exact bodyPost_ret (v := .agg (ck fun n => max (s n) (t n))) (results_ck Tryz.results68 _ _ (w.heap.size + 1 + 1) _ rfl B5) rfl ⟨rfl, kb.trans (f5 _ (by omega))⟩
end Go.Proofs.YtgmdhaepiclkcaaGreatDoor.DgY
