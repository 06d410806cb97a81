/- Maps whose keys are ids, of values of whatever kind. No condition. | Clocks and views in memory; what the project's has, and, copied of package dag return. No condition. | What the project's copied, Ids and Find of package dag return: contracts. -/
import Derived.Test.YtgmdhaepiclkcaaGreatDoorStLJ7
import Derived.Maps.OwnSet
import Derived.Test.YtgmdhaepiclkcaaGreatDoorDgX
import Derived.Test.YtgmdhaepiclkcaaGreatDoorRowGJ15
import Derived.Test.YtgmdhaepiclkcaaGreatDoorOpsGJ6
import Derived.Test.YtgmdhaepiclkcaaGreatDoorCmAJ3
namespace Go.Proofs.YtgmdhaepiclkcaaGreatDoor.MapV
set_option maxRecDepth 100000
open Go Go.RowKit Go.Maps IdM Byt IdW IdK
def R (v : Value) : Option (DataW Value × List MemPlace) := some (.held v, [])
def ValD (D : DataW Value) (f : Idn → Option Value) : Prop := (∀ x, Maps.has D (key x) = (f x).isSome) ∧ ∀ x v, f x = some v → ∀ z, D.atKey (key x) z = .held v
def ValIn (w : World) (b n : Nat) (f : Idn → Option Value) : Prop := ∃ D : DataW Value, w.ownsMap Tryz.prog 56 R b n D ∧ ValD D f
theorem ValIn.made (w : World) : ValIn (w.alloc (.map #[] 0)) w.heap.size 0 fun _ => none := ⟨.map [], World.ownsMap_made _ _ _ _, fun x => by simp [Maps.has], fun x v hx => by cases hx⟩
theorem ValIn.lt {w : World} {b n : Nat} {f : Idn → Option Value} (h : ValIn w b n f) : b < w.heap.size := by obtain ⟨D, hD, _⟩ := h; exact hD.lt
theorem ValIn.kept {w w' : World} {b n : Nat} {f : Idn → Option Value} {row : Option Nat} (h : ValIn w b n f) (hg : w.grownBy w' row) (hne : some b ≠ row) : ValIn w' b n f := by
 obtain ⟨D, hD, hs⟩ := h
 exact ⟨D, hD.kept hg hne, hs⟩
theorem ValIn.below {w w' : World} {b n : Nat} {f : Idn → Option Value} (h : ValIn w b n f) (hb : Below w.heap.size w w') : ValIn w' b n f := h.kept (grown_of_below hb none) (by simp)
theorem ValIn.alloc {w : World} {b n : Nat} {f : Idn → Option Value} (h : ValIn w b n f) (o : Obj) : ValIn (w.alloc o) b n f := h.kept (World.grownBy_alloc w o none) (by simp)
theorem ValIn.mono {w : World} {b n m : Nat} {f : Idn → Option Value} (h : ValIn w b n f) (hm : n ≤ m) : ValIn w b m f := by
 obtain ⟨D, hD, hs⟩ := h
 exact ⟨D, hD.mono hm, hs⟩
def upd (f : Idn → Option Value) (y : Idn) (v : Value) : Idn → Option Value := fun x => if x = y then some v else f x
theorem put_D {D : DataW Value} {f : Idn → Option Value} (hm : Maps.IsMap D) (h : ValD D f) (y : Idn) (v : Value) : ValD (D.put (key y) (.held v)) (upd f y v) := by
 have hk : WideAt.IsKeyLit (key y) := law.key (keyOf_id y)
 refine ⟨fun x => ?_, fun x u hx z => ?_⟩
 · unfold upd
   by_cases hxy : x = y
   · subst hxy
     rw [Maps.has_put_same hm hk]
     simp
   · rw [Maps.has_put_other (fun e => hxy (key_inj e)), h.1]
     simp [hxy]
 · unfold upd at hx
   by_cases hxy : x = y
   · subst hxy
     rw [if_pos rfl] at hx
     injection hx with hx
     subst hx
     exact Maps.atKey_put_same hm hk _ _
   · rw [if_neg hxy] at hx
     rw [Maps.atKey_put_other (fun e => hxy (key_inj e))]
     exact h.2 x u hx z
theorem ValD.at_key {D : DataW Value} {f : Idn → Option Value} (h : ValD D f) (y : Idn) (z : Value) : D.atKey (key y) (.held z) = .held ((f y).getD z) := by
 cases hf : f y with
 | some v => exact h.2 y v hf _
 | none =>
   have hh := h.1 y
   rw [hf] at hh
   rw [Maps.atKey_of_not_has hh]
   rfl
theorem held_inj {a b : Value} (h : (DataW.held a : DataW Value) = .held b) : a = b := by injection h
section
variable {T e : TypeId} (hT : Tryz.prog.underlying T = some (.map 56 e)) {zv : Value} (hz : ∀ w : World, (zeroValue e).run Tryz.prog w = .ok zv w)
include hT
theorem run_look {w : World} {b n : Nat} {f : Idn → Option Value} (h : ValIn w b n f) (y : Idn) (hz : ∀ w : World, (zeroValue e).run Tryz.prog w = .ok zv w) : (Instr.lookup T (.map (some b)) (.agg (cs y)) false).run Tryz.prog w = .ok ((f y).getD zv) w := by
 obtain ⟨D, hD, hs⟩ := h
 obtain ⟨v, ps, hrun, hv⟩ := hD.lookup law hT (hz w) (show R zv = some (.held zv, []) from rfl) (keyOf_id y)
 rw [hs.at_key] at hv
 unfold R at hv
 simp only [Option.some.injEq, Prod.mk.injEq] at hv
 rw [hrun, held_inj hv.1]
theorem run_look_ok {w : World} {b n : Nat} {f : Idn → Option Value} (h : ValIn w b n f) (y : Idn) (hz : ∀ w : World, (zeroValue e).run Tryz.prog w = .ok zv w) : (Instr.lookup T (.map (some b)) (.agg (cs y)) true).run Tryz.prog w = .ok (.tuple #[(f y).getD zv, .bool (f y).isSome]) w := by
 obtain ⟨D, hD, hs⟩ := h
 obtain ⟨v, ps, hrun, hv⟩ := hD.look_ok law hT (hz w) (show R zv = some (.held zv, []) from rfl) (keyOf_id y)
 rw [hs.at_key] at hv
 unfold R at hv
 simp only [Option.some.injEq, Prod.mk.injEq] at hv
 rw [hrun, held_inj hv.1, hs.1]
section
variable (w : World) {ops : Array Oper} {rest : List Oper} {o : Oper} {a : Act} {Q : Exit → Act → World → Prop}
theorem wpList_put (hg : o.guard = none) (m x v : Operand) (hop : o.op = Op.mapUpdate T m x v) (b n : Nat) (f : Idn → Option Value) (hm : a.eval m = .map (some b)) (h : ValIn w b n f) (hn : n < 3000000000000)
   (y : Idn) (hx : a.eval x = .agg (cs y)) (u : Value) (hv : a.eval v = u) (hK : ∀ w', ValIn w' b (n + 1) (upd f y u) → w.grownBy w' (some b) → wpList Tryz.prog ops Q rest (a.put o.dst undef) w') : wpList Tryz.prog ops Q (o :: rest) a w := by
 obtain ⟨D, hD, hs⟩ := h
 exact wpList_mapUpdate_own w hg m x v T hop 56 e law hT _ b n D hm hD (by unfold maxLen; omega) _ _ (key y) hx hv (keyOf_id y) (.held u) [] rfl
   (fun w' h1 h2 => hK w' ⟨_, h1, put_D hD.isMap hs y u⟩ h2)
theorem wpList_find (hz : ∀ w : World, (zeroValue e).run Tryz.prog w = .ok zv w) (hg : o.guard = none) (m x : Operand) (hop : o.op = Op.lookup T m x false) (b n : Nat) (f : Idn → Option Value) (hm : a.eval m = .map (some b)) (h : ValIn w b n f)
   (y : Idn) (hx : a.eval x = .agg (cs y)) (u : Value) (hu : (f y).getD zv = u) (hK : wpList Tryz.prog ops Q rest (a.put o.dst u) w) : wpList Tryz.prog ops Q (o :: rest) a w := by
 refine wpList_plain hg fun K' hK' => ?_
 have hrun := run_look hT h y hz
 rw [hu] at hrun
 unfold Oper.wp
 simp [execOp, hop, hm, hx, hrun, Result.andThen]
 exact hK' _ _ hK
theorem wpList_find_ok (hz : ∀ w : World, (zeroValue e).run Tryz.prog w = .ok zv w) (hg : o.guard = none) (m x : Operand) (hop : o.op = Op.lookup T m x true) (b n : Nat) (f : Idn → Option Value) (hm : a.eval m = .map (some b)) (h : ValIn w b n f)
   (y : Idn) (hx : a.eval x = .agg (cs y)) (u : Value) (hu : (f y).getD zv = u) (is : Bool) (hi : (f y).isSome = is) (hK : wpList Tryz.prog ops Q rest (a.put o.dst (.tuple #[u, .bool is])) w) : wpList Tryz.prog ops Q (o :: rest) a w := by
 refine wpList_plain hg fun K' hK' => ?_
 have hrun := run_look_ok hT h y hz
 rw [hu, hi] at hrun
 unfold Oper.wp
 simp [execOp, hop, hm, hx, hrun, Result.andThen]
 exact hK' _ _ hK
end
end
end Go.Proofs.YtgmdhaepiclkcaaGreatDoor.MapV
namespace Go.Proofs.YtgmdhaepiclkcaaGreatDoor.DgY
set_option maxRecDepth 100000
open Go Go.Sort Go.RowKit Byt IdM IdW OpsM OpsW CmM StW CmW CmX CmY DgM DgW DgX
def ckL (s : Int → Int) : List Value := [.int .i64 (s 0), .int .i64 (s 1), .int .i64 (s 2), .int .i64 (s 3), .int .i64 (s 4), .int .i64 (s 5), .int .i64 (s 6), .int .i64 (s 7)]
def CK : Cel.Cel (Int → Int) where
 T := 109
 k := 8
 bytes := 64
 d := _
 enc := ckL
 zero := fun _ => 0
 len _ := rfl
 one c v hv := by
   simp only [ckL, List.mem_cons, List.not_mem_nil, or_false] at hv
   rcases hv with rfl | rfl | rfl | rfl | rfl | rfl | rfl | rfl <;> rfl
 pos := by omega
 info := by kernel_rfl
 under := Tryz.underlying109
 row := rfl
def VE : Cel.Cel (Com × (Int → Int)) where
 T := 112
 k := 11
 bytes := 88
 d := _
 enc v := [.int .i64 v.1.node, .int .i64 v.1.seq, .int .i64 v.1.gen] ++ ckL v.2
 zero := (noK, fun _ => 0)
 len _ := rfl
 one c v hv := by
   simp only [ckL, List.cons_append, List.nil_append, List.mem_cons, List.not_mem_nil, or_false] at hv
   rcases hv with rfl | rfl | rfl | rfl | rfl | rfl | rfl | rfl | rfl | rfl | rfl <;> rfl
 pos := by omega
 info := by kernel_rfl
 under := Tryz.underlying112
 row := rfl
def ck (s : Int → Int) : Array Value := (ckL s).toArray
def vc (v : Com × (Int → Int)) : Array Value := (VE.enc v).toArray
theorem eight {n : Int} (h : 0 ≤ n ∧ n < 8) : n = 0 ∨ n = 1 ∨ n = 2 ∨ n = 3 ∨ n = 4 ∨ n = 5 ∨ n = 6 ∨ n = 7 := by omega
theorem ck_at (s : Int → Int) {n : Int} (h : 0 ≤ n ∧ n < 8) : (ckL s)[n.toNat]? = some (.int .i64 (s n)) := by
 rcases eight h with rfl | rfl | rfl | rfl | rfl | rfl | rfl | rfl <;> rfl
theorem ck_set (s : Int → Int) {n : Int} (h : 0 ≤ n ∧ n < 8) (v : Int) : (ckL s).set n.toNat (.int .i64 v) = ckL fun m => if m = n then v else s m := by
 rcases eight h with rfl | rfl | rfl | rfl | rfl | rfl | rfl | rfl <;> rfl
theorem ck_congr {s t : Int → Int} (h : ∀ n, 0 ≤ n → n < 8 → s n = t n) : ckL s = ckL t := by
 unfold ckL
 rw [h 0 (by omega) (by omega), h 1 (by omega) (by omega), h 2 (by omega) (by omega), h 3 (by omega) (by omega), h 4 (by omega) (by omega), h 5 (by omega) (by omega), h 6 (by omega) (by omega), h 7 (by omega) (by omega)]
theorem index_ck (s : Int → Int) {n : Int} (h : 0 ≤ n ∧ n < 8) (w : World) : (Instr.index 109 (.agg (ck s)) (.int .i64 n)).run Tryz.prog w = .ok (.int .i64 (s n)) w := by
 rcases eight h with rfl | rfl | rfl | rfl | rfl | rfl | rfl | rfl
 all_goals kernel_rfl
theorem results_ck {fn : Func} {p : Tmp} (h : fn.results = #[.cell p 109]) (tmps : Array Value) (w : World) (g : Nat) (s : Int → Int)
   (hp : tmps.getD p undef = .pointer (some ⟨g, 0, none⟩)) (hg : Cel.Box CK w g s) : (results fn tmps).run Tryz.prog w = .ok (.agg (ck s)) w := by
 obtain ⟨t, ht⟩ := hg
 have hp' : tmps[p]?.getD undef = .pointer (some ⟨g, 0, none⟩) := by simpa using hp
 have hl := run_loadVar_row w g t 109 (CK.enc s).toArray (0, 0) _ ht CK.under CK.row (CK.size' s)
 simp [results, h, hp', asAddr, hl]
 rfl
theorem results_ckb {fn : Func} {p q : Tmp} (h : fn.results = #[.cell p 109, .tmp q]) (tmps : Array Value) (w : World) (g : Nat) (s : Int → Int) (x : Value)
   (hp : tmps.getD p undef = .pointer (some ⟨g, 0, none⟩)) (hq : tmps.getD q undef = x) (hg : Cel.Box CK w g s) : (results fn tmps).run Tryz.prog w = .ok (.tuple #[.agg (ck s), x]) w := by
 obtain ⟨t, ht⟩ := hg
 have hp' : tmps[p]?.getD undef = .pointer (some ⟨g, 0, none⟩) := by simpa using hp
 have hq' : tmps[q]?.getD undef = x := by simpa using hq
 have hl := run_loadVar_row w g t 109 (CK.enc s).toArray (0, 0) _ ht CK.under CK.row (CK.size' s)
 simp [results, h, hp', hq', asAddr, hl]
 rfl
theorem box_congr {w : World} {g : Nat} {s t : Int → Int} (h : Cel.Box CK w g s) (e : ∀ n, 0 ≤ n → n < 8 → s n = t n) : Cel.Box CK w g t := by
 obtain ⟨ty, ht⟩ := h
 exact ⟨ty, by rw [ht]; congr 2; exact congrArg List.toArray (ck_congr e)⟩
section
variable {ops : Array Oper} {rest : List Oper} {o : Oper} {a : Act} {w : World} {Q : Exit → Act → World → Prop}
theorem load_ck (hgd : o.guard = none) (x : Operand) (ho : o.op = .load 109 x) (g : Nat) (hx : a.eval x = .pointer (some ⟨g, 0, none⟩)) (s : Int → Int) (hb : Cel.Box CK w g s) (h : wpList Tryz.prog ops Q rest (a.put o.dst (.agg (ck s))) w) : wpList Tryz.prog ops Q (o :: rest) a w :=
 Cel.wpList_load_box CK hgd x ho g hx s hb h
theorem store_ck (hgd : o.guard = none) (hd : o.dst = none) (x y : Operand) (ho : o.op = .store 3 x y) (g : Nat) (n : Int) (hn : 0 ≤ n ∧ n < 8) (hx : a.eval x = .pointer (some ⟨g, n.toNat, none⟩)) (old : Int → Int) (hc : Cel.Box CK w g old) (v : Int) (hy : a.eval y = .int .i64 v)
   (h : ∀ w', Cel.Box CK w' g (fun m => if m = n then v else old m) → (∀ B, B ≤ g → Below B w w') → w.grownBy w' (some g) → w'.heap.size = w.heap.size → wpList Tryz.prog ops Q rest a w') : wpList Tryz.prog ops Q (o :: rest) a w :=
 Cel.wpList_store_field CK hgd hd 3 x y ho (by kernel_rfl) g n.toNat hx (by show n.toNat < 8; omega) old hc (fun m => if m = n then v else old m) (.int .i64 v) hy rfl rfl (ck_set old hn v) h
end
theorem has_ret (s : Int → Int) (e : Ev) (h : 0 ≤ e.node ∧ e.node < 8) (w : World) :
   Calls Tryz.prog 69 #[.agg (ck s), .agg (ec e)] w fun x w' => x = .returned (.bool (decide (e.seq ≤ s e.node))) ∧ Below w.heap.size w w' := by
 have z1 : (w.alloc (.cells (ck s) 109)).heap.size = w.heap.size + 1 := by simp
 have B1 : Cel.Box CK ((w.alloc (.cells (ck s) 109)).alloc (.cells (ec e) 43)) w.heap.size s := (Cel.Box.new (E := CK) w s _).alloc _
 have B2 : Cel.Box EE ((w.alloc (.cells (ck s) 109)).alloc (.cells (ec e) 43)) (w.heap.size + 1) e := by
   rw [← z1]
   exact Cel.Box.new (E := EE) _ e _
 have kb : Below w.heap.size w ((w.alloc (.cells (ck s) 109)).alloc (.cells (ec e) 43)) := ((Below.refl _ _).alloc (Nat.le_refl _) _).alloc (by simp) _
 obtain ⟨n, q⟩ := e
 have h0 : 0 ≤ n := h.1
 have h8 : n < 8 := h.2
 have c1 := B1.cell (ck_at s h)
 obtain ⟨c2, c3⟩ := ev_cells B2
 obtain ⟨x, hx⟩ : ∃ x, s n = x := ⟨_, rfl⟩
 simp only at c1 c2 c3
 rw [hx] at c1
 have HX := aside hx
 clear z1 B1 B2 hx h
 go_enter Tryz.func69, Tryz.ntmps69
 go_wp2
 go_quiet (fail)
 go_wp2
 go_ret
 exact ⟨by rw [HX.out]; rfl, below_drew kb _⟩
theorem max_int (x y : Int) (ts : Array TypeId) (t : TypeId) (w : World) : (Builtin.max_ ts t #[.int .i64 x, .int .i64 y]).run Tryz.prog w = .ok (.int .i64 (max x y)) w := by
 rw [run_max_int2]
 congr 2
 by_cases h : y > x
 · rw [if_pos h]; omega
 · rw [if_neg h]; omega
theorem and_ret (s t : Int → Int) (w : World) :
   Calls Tryz.prog 68 #[.agg (ck s), .agg (ck t)] w fun x w' => x = .returned (.agg (ck fun n => max (s n) (t n))) ∧ Below w.heap.size w w' := by
 have z1 : (w.alloc (.cells (ck s) 109)).heap.size = w.heap.size + 1 := by simp
 have z2 : ((w.alloc (.cells (ck s) 109)).alloc (.cells (ck t) 109)).heap.size = w.heap.size + 1 + 1 := by simp
 have B1 : Cel.Box CK (((w.alloc (.cells (ck s) 109)).alloc (.cells (ck t) 109)).alloc (.cells (ck fun _ => 0) 109)) w.heap.size s := ((Cel.Box.new (E := CK) w s _).alloc _).alloc _
 have B2 : Cel.Box CK (((w.alloc (.cells (ck s) 109)).alloc (.cells (ck t) 109)).alloc (.cells (ck fun _ => 0) 109)) (w.heap.size + 1) t := by
   rw [← z1]
   exact (Cel.Box.new (E := CK) _ t _).alloc _
 have B3 : Cel.Box CK (((w.alloc (.cells (ck s) 109)).alloc (.cells (ck t) 109)).alloc (.cells (ck fun _ => 0) 109)) (w.heap.size + 1 + 1) (fun _ => 0) := by
   rw [← z2]
   exact Cel.Box.new (E := CK) _ (fun _ => 0) _
 have kb : Below w.heap.size w (((w.alloc (.cells (ck s) 109)).alloc (.cells (ck t) 109)).alloc (.cells (ck fun _ => 0) 109)) := (((Below.refl _ _).alloc (Nat.le_refl _) _).alloc (by simp) _).alloc (by simp; omega) _
 clear z1 z2
 go_enter Tryz.func68, Tryz.ntmps68
 go_wp2_with (first | go_skip | (refine load_ck rfl _ rfl _ rfl t B2 ?_))
 go_loopw [8] (fun i wr => ∃ k : Nat, k ≤ 8 ∧ i = .int .i64 k ∧ Cel.Box CK wr w.heap.size (fun n => if n < k then max (s n) (t n) else s n) ∧ Cel.Box CK wr (w.heap.size + 1 + 1) (fun _ => 0) ∧ Below w.heap.size w wr) (fun i _ => 8 - (intOf i).toNat)
 case atStart => exact ⟨0, Nat.zero_le _, rfl, box_congr B1 fun n h0 _ => (if_neg (by omega)).symm, B3, kb⟩
 case round =>
   clear B1 B2 B3 kb
   obtain ⟨k, hk, rfl, B1, B3, kb⟩ := hrel
   by_cases hlt : k < 8
   · have h8 : 0 ≤ (k : Int) ∧ (k : Int) < 8 := by omega
     have hi := index_ck t h8
     have hc := ck_at (fun n : Int => if n < k then max (s n) (t n) else s n) h8
     obtain ⟨x, hx⟩ : ∃ x, s k = x := ⟨_, rfl⟩
     obtain ⟨y, hy⟩ : ∃ y, t k = y := ⟨_, rfl⟩
     rw [if_neg (Int.lt_irrefl _), hx] at hc
     have c1 := B1.cell hc
     clear hc
     rw [hy] at hi
     have HX := aside hx
     have HY := aside hy
     have p0 : (k : Int) < 8 := h8.2
     have o0 : 0 ≤ (k : Int) := h8.1
     have m0 : ((k : Int)).toNat = k := by omega
     rw [m0] at c1
     have hm := max_int x y
     obtain ⟨z, hz⟩ : ∃ z, max x y = z := ⟨_, rfl⟩
     rw [hz] at hm
     have HZ := aside hz
     clear hx hy hz
     go_wp2_with (first | go_skip | (refine store_ck rfl rfl _ _ rfl w.heap.size k h8 rfl _ B1 z rfl ?_; intro w1 B2 f2 g2 s2))
     go_roundw
     case rel =>
       refine ⟨k + 1, by omega, by go_num, box_congr B2 fun n h0 h1 => ?_, B3.kept g2 (by simp; omega), kb.trans (f2 _ (Nat.le_refl _))⟩
       have e1 := HX.out
       have e2 := HY.out
       have e3 := HZ.out
       by_cases e : n = k
       · rw [if_pos e, if_pos (by omega), e, e1, e2, e3]
       · rw [if_neg e]
         by_cases e4 : n < k
         · rw [if_pos e4, if_pos (by omega)]
         · rw [if_neg e4, if_neg (by omega)]
     case measure => simp [intOf]; omega
   · obtain rfl : k = 8 := by omega
     have B1' : Cel.Box CK wr w.heap.size (fun n => max (s n) (t n)) := box_congr B1 fun n _ h1 => if_pos (by omega)
     clear B1
     go_wp2_with (first | go_skip | (refine load_ck rfl _ rfl _ rfl _ B1' ?_) | (refine Cel.wpList_store_box CK rfl _ _ rfl (w.heap.size + 1 + 1) rfl _ B3 (fun n => max (s n) (t n)) rfl ?_; intro w1 B5 f5 g5 s5))
     exact bodyPost_ret (v := .agg (ck fun n => max (s n) (t n))) (results_ck Tryz.results68 _ _ (w.heap.size + 1 + 1) _ rfl B5) rfl ⟨rfl, kb.trans (f5 _ (by omega))⟩
end Go.Proofs.YtgmdhaepiclkcaaGreatDoor.DgY
namespace Go.Proofs.YtgmdhaepiclkcaaGreatDoor.DhC
set_option maxRecDepth 100000
open Go Go.Sort Go.RowKit Byt IdM IdW OpsM OpsW CmM StW CmW CmX CmY CmA DgM DgW DgR DgG
theorem nil_eq (w : World) : (binOp BinOp.eql 23 (.slice none 0 0) (.slice none 0 0)).run Tryz.prog w = .ok (.bool true) w := by kernel_rfl
theorem some_eq (p : Addr) (n cap : Nat) (w : World) : (binOp BinOp.eql 23 (.slice (some p) n cap) (.slice none 0 0)).run Tryz.prog w = .ok (.bool false) w := by kernel_rfl
theorem build_none {w : World} {ops : Array Oper} {rest : List Oper} {o : Oper} {a : Act} {Q : Exit → Act → World → Prop} (hgd : o.guard = none) (ho : o.op = .buildSlice 23 0 #[])
   (h : ∀ w1 cap, w1.ownsRow w.heap.size 56 32 (.slice (some ⟨w.heap.size, 0, none⟩) 0 cap) 0 (bv (flat [])) → Below w.heap.size w w1 → w.heap.size ≤ w1.heap.size → wpList Tryz.prog ops Q rest (a.put o.dst (.slice (some ⟨w.heap.size, 0, none⟩) 0 cap)) w1) : wpList Tryz.prog ops Q (o :: rest) a w := by
 refine wpList_plain hgd fun K hK => ?_
 have hrun : (Instr.buildSlice 23 0 #[]).run Tryz.prog w = .ok (.slice (some ⟨w.heap.size, 0, none⟩) 0 0) (w.alloc (.cells #[] 56)) := by kernel_rfl
 unfold Oper.wp execOp
 simp only [ho, List.map_toArray, List.map_nil, Sem.run_bind, hrun, Result.andThen_ok, Sem.run_pure]
 refine hK _ _ (h _ 0 ⟨rfl, .inr ⟨w.heap.size, 0, #[], rfl, Nat.le_refl _, heap_alloc_new w _, Nat.le_refl _, Nat.zero_le _, rfl, rfl⟩⟩ ((Below.refl _ _).alloc (Nat.le_refl _) _) (by simp))
theorem clone_ret (A : Option Addr) (cap : Nat) (l : List Idn) (w : World) (S : SlI w A cap l) (hl : l.length ≤ 1500000000000) :
   Calls Tryz.prog 119 #[.slice A l.length cap] w fun e w' => ∃ A2 cap2, e = .returned (.slice A2 l.length cap2) ∧ SlI w' A2 cap2 l ∧ Below w.heap.size w w' ∧ ∀ b off sp, A2 = some ⟨b, off, sp⟩ → w.heap.size ≤ b := by
 rcases S.2.2 with ⟨rfl, rfl, rfl⟩ | ⟨p, rfl, _⟩
 · have he := nil_eq
   go_enter Tryz.func119, Tryz.ntmps119
   go_wp2_with (first | go_skip)
   go_ret
   exact ⟨none, 0, rfl, SlI.nil w, Below.refl _ _, fun b off sp h => by cases h⟩
 · have he := some_eq p l.length cap
   go_enter Tryz.func119, Tryz.ntmps119
   go_wp2_with (first | go_skip | (refine build_none rfl rfl ?_; intro w1 c1 o1 k1 s1; have S1 := S.below k1) | (refine wpList_append_ids rfl (.tmp 5) (.tmp 6) rfl w.heap.size _ 0 [] rfl o1 (some p) _ cap l rfl rfl S1 (by omega) s1 ?_; intro v2 w2 o2 g2))
   go_ret
   have hb := o2.lt
   obtain ⟨A2, cap2, rfl, S2⟩ := SlI.own o2
   refine ⟨A2, cap2, rfl, S2, below_grown k1 s1 g2 (fun q hq => (o1.lt q hq).1), fun b off sp h => ?_⟩
   subst h
   exact (hb b rfl).1
theorem info_ids : (Tryz.prog.info? 23).map (·.size) = some 1 := by kernel_rfl
theorem copied_ret (v : Cv) (w : World) (S : In w v) (hl : v.c.ps.length ≤ 1500000000000) :
   Calls Tryz.prog 67 #[.agg (cc v)] w fun e w' => ∃ u : Cv, e = .returned (.agg (cc u)) ∧ u.c = v.c ∧ In w' u ∧ Below w.heap.size w w' ∧ ∀ b off sp, u.a = some ⟨b, off, sp⟩ → w.heap.size ≤ b := by
 have z1 : (w.alloc (.cells (cc v) 47)).heap.size = w.heap.size + 1 := by simp
 have B0 : Cel.Box CE ((w.alloc (.cells (cc v) 47)).alloc (.cells #[.int .i64 0, .int .i64 0, .int .i64 0, .slice none 0 0, .int .i64 0, .string ⟨#[]⟩, .string ⟨#[]⟩, .int .i64 0] 47)) w.heap.size v := (Cel.Box.new (E := CE) w v _).alloc _
 have B1 : Cel.Box CE ((w.alloc (.cells (cc v) 47)).alloc (.cells #[.int .i64 0, .int .i64 0, .int .i64 0, .slice none 0 0, .int .i64 0, .string ⟨#[]⟩, .string ⟨#[]⟩, .int .i64 0] 47)) (w.heap.size + 1) noV := by
   rw [← z1]
   exact Cel.Box.new (E := CE) _ noV _
 have kb : Below w.heap.size w ((w.alloc (.cells (cc v) 47)).alloc (.cells #[.int .i64 0, .int .i64 0, .int .i64 0, .slice none 0 0, .int .i64 0, .string ⟨#[]⟩, .string ⟨#[]⟩, .int .i64 0] 47)) := ((Below.refl _ _).alloc (Nat.le_refl _) _).alloc (by simp) _
 clear z1
 have c3 := cell_ps B0
 have q := fun W (T : SlI W v.a v.k v.c.ps) => clone_ret v.a v.k v.c.ps W T hl
 go_enter Tryz.func67, Tryz.ntmps67
 go_wp2_with (first | go_skip)
 refine (q _ (S.below kb)).mono ?_
 rintro e w1 ⟨A2, cap2, rfl, S2, k1, hfar⟩
 have D0 := B0.below k1
 have D1 := B1.below k1
 have b1 := kb.trans (k1.mono kb.size)
 have kbs := kb.size
 clear B0 B1 kb k1 q c3
 go_wp2_with (first | go_skip | (refine Cel.wpList_store_field CE rfl rfl 23 _ _ rfl info_ids w.heap.size 3 rfl (by show 3 < 8; omega) v D0 ⟨A2, cap2, v.c⟩ (.slice A2 v.c.ps.length cap2) rfl rfl rfl rfl ?_; intro w2 E0 f2 g2 s2; have E1 := D1.kept g2 (by simp); have b2 := b1.trans (f2 _ (Nat.le_refl _)); have S3 := CmD.sli_far S2 (CmD.no_cm D0) g2; clear D0 D1 b1) | (refine Cel.wpList_load_box CE rfl _ rfl _ rfl _ E0 ?_) | (refine Cel.wpList_store_box CE rfl _ _ rfl (w.heap.size + 1) rfl _ E1 ⟨A2, cap2, v.c⟩ rfl ?_; intro w3 G1 f3 g3 s3))
 exact bodyPost_ret (v := .agg (cc ⟨A2, cap2, v.c⟩)) (CmF.results_c Tryz.results67 _ _ (w.heap.size + 1) ⟨A2, cap2, v.c⟩ rfl G1) rfl ⟨⟨A2, cap2, v.c⟩, rfl, rfl, CmD.sli_far S3 (CmD.no_cm E1) g3, b2.trans (f3 _ (by omega)), fun b off sp h => Nat.le_trans kbs (hfar b off sp h)⟩
set_option maxRecDepth 100000 in
set_option maxHeartbeats 16000000 in
theorem ids_ret (A : Option Addr) (cap : Nat) (l : List Cv) (w : World) (S : SlK w A cap l) (hl : l.length ≤ 1500000000000) (hK : ShaE.KIn w) :
   Calls Tryz.prog 25 #[.slice A l.length cap] w (NewD (idsD (coms l)) w) := by
 obtain ⟨r, hr⟩ : ∃ r, idsD (coms l) = r := ⟨_, rfl⟩
 have HR : Hid (r = if (coms (l.drop 0)).all mayK = true then (coms l).map hashK else []) := aside (by rw [← hr]; rfl)
 rw [hr]
 clear hr
 unfold NewD
 obtain ⟨i, hi, z0, z1, z2⟩ := info_parts zero_id
 obtain ⟨w1, hmk, own1, g1⟩ := run_make_own (P := Tryz.prog) w w.heap.size 23 56 i (.agg (cs nought)) 32 Tryz.underlying23 hi z0 z1 .i64 .i64 l.length (by rw [z2]; omega) (by unfold maxLen; omega) (Nat.le_refl _)
 have kb1 : Below w.heap.size w w1 := below_grown (Below.refl _ _) (Nat.le_refl _) g1 (fun k hk => by cases hk)
 clear hi z0 z1 z2 g1
 go_enter Tryz.func25, Tryz.ntmps25
 go_wp2_with (first | go_skip)
 go_loopw [3, 13] (fun o i wr => ∃ k : Nat, k ≤ l.length ∧ i = .int .i64 k ∧ Hid (r = if (coms (l.drop k)).all mayK = true then (coms l).map hashK else []) ∧ Hid (wr.ownsRow w.heap.size 56 32 o k (bv (flat (((coms l).take k).map hashK)))) ∧ Below w.heap.size w wr) (fun _ i _ => l.length - (intOf i).toNat)
 case atStart => exact ⟨0, Nat.zero_le _, rfl, HR, aside own1, kb1⟩
 case round =>
   clear HR own1 kb1 hmk
   obtain ⟨k, hk, rfl, HR, HO, kb⟩ := hrel
   by_cases hlt : k < l.length
   · obtain ⟨b, off, rfl, hbw, hrg⟩ := S.plain (by omega)
     obtain ⟨x, hx⟩ : ∃ x, l[k]? = some x := ⟨_, List.getElem?_eq_getElem hlt⟩
     have hr1 := range_on (hrg k x hx) kb
     have p0 : (k : Int) < l.length := by omega
     have m0 : ((k : Int)).toNat = k := by omega
     have hxm := List.mem_of_getElem? hx
     have IX := (S.each x hxm).1.below kb
     have hc := fun W (I : In W x) K => CmA.hash_ret x W I (S.each x hxm).2 K
     unfold HashOut at hc
     have HT := aside (take_map (coms_at hx))
     have HD : Hid ((coms (l.drop k)).all mayK = (mayK x.c && (coms (l.drop (k + 1))).all mayK)) := aside (by rw [drop_at hx]; rfl)
     clear hrg hx hxm
     cases hm : mayK x.c with
     | false =>
       obtain ⟨y1, y2, y3⟩ := putB_no hm
       rw [y2] at hc
       have HE : Hid (r = []) := aside (by rw [HR.out, HD.out, hm]; rfl)
       clear HR HD y1 y2 y3 hm HO
       go_wp2_with (first | go_skip | (refine load_at rfl _ rfl _ _ rfl x hr1 ?_) | (refine Cel.wpList_store_new CE rfl _ _ rfl wr _ _ rfl x _ rfl rfl rfl rfl ?_; intro w3 B3 k3 g3 s3; have b3 := kb.trans (k3.mono kb.size); have IX3 := CmW.In.below IX k3; clear g3 s3) | (refine Cel.wpList_load_box CE rfl _ rfl _ rfl x B3 ?_))
       refine (hc _ IX3 (hK.below b3)).mono ?_
       rintro e w1 ⟨rfl, k1⟩
       have b1 := b3.trans (k1.mono b3.size)
       clear hc kb k1 hr1
       go_wp2_with (first | go_skip | (refine IdJ.wpList_alloc_id rfl rfl ?_) | (refine CmG.wpList_store_id rfl _ _ rfl _ nought _ rfl (hashI x.c) _ rfl rfl rfl ?_; intro w2 G2 k2 s2; have b2 := b1.trans (k2.mono b1.size)))
       go_ret
       rw [HE.out]
       exact ⟨none, 0, rfl, SlI.nil _, b2⟩
     | true =>
       obtain ⟨y1, y2, y3⟩ := putB_yes hm
       rw [y2, y3] at hc
       have HE : Hid (r = if (coms (l.drop (k + 1))).all mayK = true then (coms l).map hashK else []) := aside (by rw [HR.out, HD.out, hm, Bool.true_and])
       clear HR HD y1 y2 y3 hm
       obtain ⟨h, hh⟩ : ∃ h, hashK x.c = h := ⟨_, rfl⟩
       rw [hh] at hc HT
       clear hh
       obtain ⟨xs, hxs⟩ : ∃ xs, ((coms l).take k).map hashK = xs := ⟨_, rfl⟩
       rw [hxs] at HO HT
       clear hxs
       go_wp2_with (first | go_skip | (refine load_at rfl _ rfl _ _ rfl x hr1 ?_) | (refine Cel.wpList_store_new CE rfl _ _ rfl wr _ _ rfl x _ rfl rfl rfl rfl ?_; intro w3 B3 k3 g3 s3; have b3 := kb.trans (k3.mono kb.size); have IX3 := CmW.In.below IX k3; have O3 := aside (owns_below HO.out k3); clear g3 s3) | (refine Cel.wpList_load_box CE rfl _ rfl _ rfl x B3 ?_))
       refine (hc _ IX3 (hK.below b3)).mono ?_
       rintro e w1 ⟨rfl, k1⟩
       have b1 := b3.trans (k1.mono b3.size)
       have O1 := aside (owns_below O3.out k1)
       clear hc kb k1 hr1 HO O3 b3
       go_wp2_with (first | go_skip | (refine IdJ.wpList_alloc_id rfl rfl ?_) | (refine CmG.wpList_store_id rfl _ _ rfl _ nought _ rfl h _ rfl rfl rfl ?_; intro w2 G2 k2 s2; have b2 := b1.trans (k2.mono b1.size); have O2 := aside (owns_below O1.out k2)) | (refine wpList_load_id rfl _ rfl _ _ rfl h G2.range ?_) | (refine build_one rfl _ rfl h rfl ?_; intro w3 S3 k3; have b3 := b2.trans (k3.mono b2.size); have O3 := aside (owns_below O2.out k3)) | (refine wpList_append_ids rfl (.tmp 24) (.tmp 26) rfl w.heap.size _ k xs rfl O3.out _ 1 1 [h] rfl rfl S3 (by omega) b3.size ?_; intro v6 w6 o6 g6))
       have b6 : Below w.heap.size w w6 := below_grown b3 b3.size g6 (fun q hq => (O3.out.lt q hq).1)
       go_roundw
       case rel => exact ⟨k + 1, by omega, by go_num, HE, aside (by rw [HT.out]; exact o6), b6⟩
       case measure => simp [intOf]; omega
   · have e : k = l.length := by omega
     have HE : Hid (r = (coms l).map hashK) := aside (by rw [HR.out, List.drop_of_length_le (by omega)]; rfl)
     have HO2 := HO.out
     rw [List.take_of_length_le (by rw [coms_len]; omega)] at HO2
     have he := HE.out
     obtain ⟨R6, hR6⟩ : ∃ R, (coms l).map hashK = R := ⟨_, rfl⟩
     rw [hR6] at he HO2
     have HE2 := aside he
     clear hR6 he HE
     obtain ⟨A6, c6, rfl, S6⟩ := SlI.own HO2
     have pn : ¬ (k : Int) < l.length := by omega
     clear HR HO HO2
     go_wp2_with (first | go_skip)
     go_ret
     rw [HE2.out]
     exact ⟨A6, c6, rfl, S6, kb⟩
theorem fit_of {u v : Com} (h : u = v) (hf : CmW.Fit v) : CmW.Fit u := by rw [h]; exact hf
end Go.Proofs.YtgmdhaepiclkcaaGreatDoor.DhC
