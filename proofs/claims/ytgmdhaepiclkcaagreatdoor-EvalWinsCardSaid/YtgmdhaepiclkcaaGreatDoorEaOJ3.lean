/- How many commits an argument can hold: no slice is greater than what the form reaches. No condition. | Clocks, and elements of keys, in memory; what the project's named, has and with of package eval return. No condition. | Maps whose keys are elements of keys, of values of whatever kind. No condition. -/
import Derived.Test.YtgmdhaepiclkcaaGreatDoorRowGJ15
import Derived.SizedLaws
import Derived.Test.YtgmdhaepiclkcaaGreatDoorMapVJ3
import Derived.Test.YtgmdhaepiclkcaaGreatDoorGrowLJ6
import Derived.DeepKeys4
import Derived.WideKeyEntry
import Derived.Maps.OwnSet
import Derived.Maps.OwnOps
namespace Go.Proofs.YtgmdhaepiclkcaaGreatDoor.EaO
set_option maxRecDepth 100000
open Go Go.ChangeShapes Go.WideShapes Go.ChangeAt Go.RowKit
section
variable {H : Type} {enc : TypeId × Value → H} {W : World}
theorem bytes_com : Tryz.prog.bytesOf 47 = 96 := by kernel_rfl
theorem few_coms {ts : List TypeId} {ds : List (DataW H)} (h : (DataW.weightsEach Tryz.prog ts ds).all (· ≤ reachBytes) = true) {j : Nat} (ht : ts[j]? = some 22) {d : DataW H} (hd : ds[j]? = some d) {A : Option Addr} {n cap : Nat} {p : List MemPlace}
   (h0 : DataW.Trod enc Tryz.prog W 0 (fun _ => true) true 22 (.slice A n cap) d p) : n ≤ 1500000000000 := by
 obtain ⟨fuel, hf⟩ := h0
 rcases DataW.trod_slice Tryz.underlying22 hf with ⟨hcs, _⟩ | ⟨x, len', cap', elems, rest, m, _, hcs, hx, _, _, _, hel, _⟩
 · simp [Value.cells] at hcs
   omega
 · simp [Value.cells] at hcs
   obtain ⟨rfl, rfl, rfl⟩ := hcs
   have hd2 : d = .slice (elems.map (·.1)) (rest.map (·.1)) := by
     injection hx
   rw [hd2] at hd
   have := sized_slice h ht hd Tryz.underlying22
   rw [bytes_com, List.length_map, List.length_map, hel] at this
   have h2 := reachBytes_lt
   omega
end
end Go.Proofs.YtgmdhaepiclkcaaGreatDoor.EaO
namespace Go.Proofs.YtgmdhaepiclkcaaGreatDoor.EaC
set_option maxRecDepth 100000
open Go Go.Sort Go.RowKit Byt IdM IdW OpsM OpsW CmM StW CmW CmX CmY DgM DgW DgX DgY
def CE8 : Cel.Cel (Int → Int) where
 T := 71
 k := 8
 bytes := 64
 d := _
 enc := ckL
 zero := fun _ => 0
 len _ := rfl
 one c v hv := by
   simp only [ckL, List.mem_cons, List.not_mem_nil, or_false] at hv
   rcases hv with rfl | rfl | rfl | rfl | rfl | rfl | rfl | rfl <;> rfl
 pos := by omega
 info := by kernel_rfl
 under := Tryz.underlying71
 row := rfl
theorem results_c8 {fn : Func} {p : Tmp} (h : fn.results = #[.cell p 71]) (tmps : Array Value) (w : World) (g : Nat) (s : Int → Int)
   (hp : tmps.getD p undef = .pointer (some ⟨g, 0, none⟩)) (hg : Cel.Box CE8 w g s) : (results fn tmps).run Tryz.prog w = .ok (.agg (ck s)) w := by
 obtain ⟨t, ht⟩ := hg
 have hp' : tmps[p]?.getD undef = .pointer (some ⟨g, 0, none⟩) := by simpa using hp
 have hl := run_loadVar_row w g t 71 (CE8.enc s).toArray (0, 0) _ ht CE8.under CE8.row (CE8.size' s)
 simp [results, h, hp', asAddr, hl]
 rfl
theorem box_c8 {w : World} {g : Nat} {s t : Int → Int} (h : Cel.Box CE8 w g s) (e : ∀ n, 0 ≤ n → n < 8 → s n = t n) : Cel.Box CE8 w g t := by
 obtain ⟨ty, ht⟩ := h
 exact ⟨ty, by rw [ht]; congr 2; exact congrArg List.toArray (ck_congr e)⟩
section
variable {ops : Array Oper} {rest : List Oper} {o : Oper} {a : Act} {w : World} {Q : Exit → Act → World → Prop}
theorem load_c8 (hgd : o.guard = none) (x : Operand) (ho : o.op = .load 71 x) (g : Nat) (hx : a.eval x = .pointer (some ⟨g, 0, none⟩)) (s : Int → Int) (hb : Cel.Box CE8 w g s) (h : wpList Tryz.prog ops Q rest (a.put o.dst (.agg (ck s))) w) : wpList Tryz.prog ops Q (o :: rest) a w :=
 Cel.wpList_load_box CE8 hgd x ho g hx s hb h
theorem store_c8 (hgd : o.guard = none) (hd : o.dst = none) (x y : Operand) (ho : o.op = .store 3 x y) (g : Nat) (n : Int) (hn : 0 ≤ n ∧ n < 8) (hx : a.eval x = .pointer (some ⟨g, n.toNat, none⟩)) (old : Int → Int) (hc : Cel.Box CE8 w g old) (v : Int) (hy : a.eval y = .int .i64 v)
   (h : ∀ w', Cel.Box CE8 w' g (fun m => if m = n then v else old m) → (∀ B, B ≤ g → Below B w w') → w.grownBy w' (some g) → w'.heap.size = w.heap.size → wpList Tryz.prog ops Q rest a w') : wpList Tryz.prog ops Q (o :: rest) a w :=
 Cel.wpList_store_field CE8 hgd hd 3 x y ho (by kernel_rfl) g n.toNat hx (by show n.toNat < 8; omega) old hc (fun m => if m = n then v else old m) (.int .i64 v) hy rfl rfl (ck_set old hn v) h
end
theorem has_ret (s : Int → Int) (e : Ev) (h : 0 ≤ e.node ∧ e.node < 8) (w : World) :
   Calls Tryz.prog 33 #[.agg (ck s), .agg (ec e)] w fun x w' => x = .returned (.bool (decide (e.seq ≤ s e.node))) ∧ Below w.heap.size w w' := by
 have z1 : (w.alloc (.cells (ck s) 71)).heap.size = w.heap.size + 1 := by simp
 have B1 : Cel.Box CE8 ((w.alloc (.cells (ck s) 71)).alloc (.cells (ec e) 43)) w.heap.size s := (Cel.Box.new (E := CE8) w s _).alloc _
 have B2 : Cel.Box EE ((w.alloc (.cells (ck s) 71)).alloc (.cells (ec e) 43)) (w.heap.size + 1) e := by
   rw [← z1]
   exact Cel.Box.new (E := EE) _ e _
 have kb : Below w.heap.size w ((w.alloc (.cells (ck s) 71)).alloc (.cells (ec e) 43)) := ((Below.refl _ _).alloc (Nat.le_refl _) _).alloc (by simp) _
 obtain ⟨n, q⟩ := e
 have h0 : 0 ≤ n := h.1
 have h8 : n < 8 := h.2
 have c1 := B1.cell (ck_at s h)
 obtain ⟨c2, c3⟩ := ev_cells B2
 obtain ⟨x, hx⟩ : ∃ x, s n = x := ⟨_, rfl⟩
 simp only at c1 c2 c3
 rw [hx] at c1
 have HX := aside hx
 clear z1 B1 B2 hx h
 go_enter Tryz.func33, Tryz.ntmps33
 go_wp2
 go_quiet (fail)
 go_wp2
 go_ret
 exact ⟨by rw [HX.out]; rfl, below_drew kb _⟩
theorem with_ret (s t : Int → Int) (w : World) :
   Calls Tryz.prog 73 #[.agg (ck s), .agg (ck t)] w fun x w' => x = .returned (.agg (ck fun n => max (s n) (t n))) ∧ Below w.heap.size w w' := by
 have z1 : (w.alloc (.cells (ck s) 71)).heap.size = w.heap.size + 1 := by simp
 have z2 : ((w.alloc (.cells (ck s) 71)).alloc (.cells (ck t) 71)).heap.size = w.heap.size + 1 + 1 := by simp
 have B1 : Cel.Box CE8 (((w.alloc (.cells (ck s) 71)).alloc (.cells (ck t) 71)).alloc (.cells (ck fun _ => 0) 71)) w.heap.size s := ((Cel.Box.new (E := CE8) w s _).alloc _).alloc _
 have B2 : Cel.Box CE8 (((w.alloc (.cells (ck s) 71)).alloc (.cells (ck t) 71)).alloc (.cells (ck fun _ => 0) 71)) (w.heap.size + 1) t := by
   rw [← z1]
   exact (Cel.Box.new (E := CE8) _ t _).alloc _
 have B3 : Cel.Box CE8 (((w.alloc (.cells (ck s) 71)).alloc (.cells (ck t) 71)).alloc (.cells (ck fun _ => 0) 71)) (w.heap.size + 1 + 1) (fun _ => 0) := by
   rw [← z2]
   exact Cel.Box.new (E := CE8) _ (fun _ => 0) _
 have kb : Below w.heap.size w (((w.alloc (.cells (ck s) 71)).alloc (.cells (ck t) 71)).alloc (.cells (ck fun _ => 0) 71)) := (((Below.refl _ _).alloc (Nat.le_refl _) _).alloc (by simp) _).alloc (by simp; omega) _
 clear z1 z2
 go_enter Tryz.func73, Tryz.ntmps73
 go_wp2_with (first | go_skip)
 go_loopw [6] (fun i wr => ∃ k : Nat, k ≤ 8 ∧ i = .int .i64 k ∧ Cel.Box CE8 wr w.heap.size (fun n => if n < k then max (s n) (t n) else s n) ∧ Cel.Box CE8 wr (w.heap.size + 1) t ∧ Cel.Box CE8 wr (w.heap.size + 1 + 1) (fun _ => 0) ∧ Below w.heap.size w wr) (fun i _ => 8 - (intOf i).toNat)
 case atStart => exact ⟨0, Nat.zero_le _, rfl, box_c8 B1 fun n h0 _ => (if_neg (by omega)).symm, B2, B3, kb⟩
 case round =>
   clear B1 B2 B3 kb
   obtain ⟨k, hk, rfl, B1, B2, B3, kb⟩ := hrel
   by_cases hlt : k < 8
   · have h8 : 0 ≤ (k : Int) ∧ (k : Int) < 8 := by omega
     have p0 : (k : Int) < 8 := h8.2
     have o0 : 0 ≤ (k : Int) := h8.1
     have m0 : ((k : Int)).toNat = k := by omega
     go_wp2_with (first | go_skip)
     refine GrowL.region 9 [(0, true), (1, true), (2, true), (3, true), (4, true), (5, true), (6, true), (7, true), (8, true), (9, false)] (by kernel_rfl) (by kernel_rfl) rfl (by kernel_rfl) (by intro c a d v w h; cases d <;> exact h) ?_
     have kd := below_drew1 (Below.refl wr.heap.size wr)
     have D1 := B1.below kd
     have D2 := B2.below kd
     have D3 := B3.below kd
     have kb1 := kb.trans (kd.mono kb.size)
     generalize wr.drew = wz at D1 D2 D3 kb1 ⊢
     clear B1 B2 B3 kb kd
     have hc := ck_at (fun n : Int => if n < k then max (s n) (t n) else s n) h8
     have hd := ck_at t h8
     obtain ⟨x, hx⟩ : ∃ x, s k = x := ⟨_, rfl⟩
     obtain ⟨y, hy⟩ : ∃ y, t k = y := ⟨_, rfl⟩
     rw [if_neg (Int.lt_irrefl _), hx, m0] at hc
     rw [hy, m0] at hd
     have g1 := Grow.grown (w := wz) (fun u hu => (D1.below hu).cell hc)
     have g2 := Grow.grown (w := wz) (fun u hu => (D2.below hu).cell hd)
     clear hc hd
     have HX := aside hx
     have HY := aside hy
     have hm := max_int x y
     obtain ⟨z, hz⟩ : ∃ z, max x y = z := ⟨_, rfl⟩
     rw [hz] at hm
     have HZ := aside hz
     clear hx hy hz
     repeat (refine GrowL.reads rfl rfl ?_; go_big_quiet_step (fail); refine wpQuiet_nil ?_)
     refine GrowL.last rfl ?_
     go_wp2_with (first | go_skip | (refine store_c8 rfl rfl _ _ rfl w.heap.size k h8 rfl _ D1 z rfl ?_; intro w1 B4 f2 g2 s2))
     refine GrowL.done ?_
     go_wp2_with (first | go_skip)
     go_roundw
     case rel =>
       refine ⟨k + 1, by omega, by go_num, box_c8 B4 fun n h0 h1 => ?_, D2.kept g2 (by simp), D3.kept g2 (by simp; omega), kb1.trans (f2 _ (Nat.le_refl _))⟩
       have e1 := HX.out
       have e2 := HY.out
       have e3 := HZ.out
       by_cases e : n = k
       · rw [if_pos e, if_pos (by omega), e, e1, e2, e3]
       · rw [if_neg e]
         by_cases e4 : n < k
         · rw [if_pos e4, if_pos (by omega)]
         · rw [if_neg e4, if_neg (by omega)]
     case measure => simp [intOf]; omega
   · obtain rfl : k = 8 := by omega
     have B1' : Cel.Box CE8 wr w.heap.size (fun n => max (s n) (t n)) := box_c8 B1 fun n _ h1 => if_pos (by omega)
     clear B1
     go_wp2_with (first | go_skip | (refine load_c8 rfl _ rfl _ rfl _ B1' ?_) | (refine Cel.wpList_store_box CE8 rfl _ _ rfl (w.heap.size + 1 + 1) rfl _ B3 (fun n => max (s n) (t n)) rfl ?_; intro w1 B5 f5 g5 s5))
     exact bodyPost_ret (v := .agg (ck fun n => max (s n) (t n))) (results_c8 Tryz.results73 _ _ (w.heap.size + 1 + 1) _ rfl B5) rfl ⟨rfl, kb.trans (f5 _ (by omega))⟩
structure El where
 key : ByteArray
 elem : ByteArray
theorem El_ext {x y : El} (h1 : x.key = y.key) (h2 : x.elem = y.elem) : x = y := by
 cases x; cases y
 simp_all
instance : DecidableEq El := fun x y => decidable_of_iff (x.key = y.key ∧ x.elem = y.elem) ⟨fun h => El_ext h.1 h.2, fun h => by rw [h]; exact ⟨rfl, rfl⟩⟩
def EL : Cel.Cel El where
 T := 73
 k := 2
 bytes := 32
 d := _
 enc x := [.string x.key, .string x.elem]
 zero := ⟨ByteArray.empty, ByteArray.empty⟩
 len _ := rfl
 one c v hv := by
   simp only [List.mem_cons, List.not_mem_nil, or_false] at hv
   rcases hv with rfl | rfl <;> rfl
 pos := by omega
 info := by kernel_rfl
 under := Tryz.underlying73
 row := rfl
def lc (x : El) : Array Value := #[.string x.key, .string x.elem]
def elO (o : Opn) : El := ⟨o.key, o.elem⟩
def OE : Cel.Cel Opn where
 T := 45
 k := 4
 bytes := 48
 d := _
 enc o := [.int .i64 o.kind, .string o.key, .string o.elem, .int .i64 o.n]
 zero := noO
 len _ := rfl
 one c v hv := by
   simp only [List.mem_cons, List.not_mem_nil, or_false] at hv
   rcases hv with rfl | rfl | rfl | rfl <;> rfl
 pos := by omega
 info := by kernel_rfl
 under := Tryz.underlying45
 row := rfl
theorem results_el {fn : Func} {p : Tmp} (h : fn.results = #[.cell p 73]) (tmps : Array Value) (w : World) (g : Nat) (s : El)
   (hp : tmps.getD p undef = .pointer (some ⟨g, 0, none⟩)) (hg : Cel.Box EL w g s) : (results fn tmps).run Tryz.prog w = .ok (.agg (lc s)) w := by
 obtain ⟨t, ht⟩ := hg
 have hp' : tmps[p]?.getD undef = .pointer (some ⟨g, 0, none⟩) := by simpa using hp
 have hl := run_loadVar_row w g t 73 (EL.enc s).toArray (0, 0) _ ht EL.under EL.row (EL.size' s)
 simp [results, h, hp', asAddr, hl]
 rfl
theorem named_ret (o : Opn) (w : World) : Calls Tryz.prog 32 #[.agg (opc o)] w fun x w' => x = .returned (.agg (lc (elO o))) ∧ Below w.heap.size w w' := by
 have z1 : (w.alloc (.cells (opc o) 45)).heap.size = w.heap.size + 1 := by simp
 have B1 : Cel.Box OE ((w.alloc (.cells (opc o) 45)).alloc (.cells #[.string ⟨#[]⟩, .string ⟨#[]⟩] 73)) w.heap.size o := (Cel.Box.new (E := OE) w o _).alloc _
 have B2 : Cel.Box EL ((w.alloc (.cells (opc o) 45)).alloc (.cells #[.string ⟨#[]⟩, .string ⟨#[]⟩] 73)) (w.heap.size + 1) ⟨⟨#[]⟩, ⟨#[]⟩⟩ := by
   rw [← z1]
   exact Cel.Box.new (E := EL) _ ⟨⟨#[]⟩, ⟨#[]⟩⟩ _
 have kb : Below w.heap.size w ((w.alloc (.cells (opc o) 45)).alloc (.cells #[.string ⟨#[]⟩, .string ⟨#[]⟩] 73)) := ((Below.refl _ _).alloc (Nat.le_refl _) _).alloc (by simp) _
 have c1 := B1.cell (j := 1) (v := .string o.key) rfl
 have c2 := B1.cell (j := 2) (v := .string o.elem) rfl
 clear z1 B1
 go_enter Tryz.func32, Tryz.ntmps32
 go_wp2_with (first | go_skip | (refine Cel.wpList_store_box EL rfl _ _ rfl (w.heap.size + 1) rfl _ B2 (elO o) rfl ?_; intro w1 B5 f5 g5 s5))
 exact bodyPost_ret (v := .agg (lc (elO o))) (results_el Tryz.results32 _ _ (w.heap.size + 1) _ rfl B5) rfl ⟨rfl, kb.trans (f5 _ (by omega))⟩
end Go.Proofs.YtgmdhaepiclkcaaGreatDoor.EaC
namespace Go.Proofs.YtgmdhaepiclkcaaGreatDoor.EaK
set_option maxRecDepth 100000
open Go Go.RowKit Go.Maps Byt EaC
structure Gd (x : El) : Prop where
 key : x.key.size ≤ maxLen
 elem : x.elem.size ≤ maxLen
theorem laidOut : laidOutB Tryz.prog = true := by kernel_rfl
theorem row : (73 : TypeId) < Tryz.prog.types.size := of_decide_eq_true (by kernel_rfl)
theorem wide : (match Tryz.prog.underlying 73 with | some (.array _ _) | some (.struct _) => true | _ => false) = true := by kernel_rfl
theorem klaw : WideMaps.KeyLaw Tryz.prog 73 := deep_law_laid laidOut (m := 2) (by omega) row (by kernel_rfl) wide
theorem law : Keyed Tryz.prog 73 := Keyed.of_law klaw
theorem types_gt : 2 < Tryz.prog.types.size := of_decide_eq_true (by kernel_rfl)
theorem types_pos : ∃ m, Tryz.prog.types.size = m + 1 := ⟨Tryz.prog.types.size - 1, by have := types_gt; omega⟩
theorem keyT : Tryz.prog.keyType 73 = true := by kernel_rfl
theorem cells_el : Tryz.prog.cellsOf 73 = 2 := by kernel_rfl
theorem cells_str : Tryz.prog.cellsOf 9 = 1 := by kernel_rfl
def key (x : El) : Lit := .string (keyBytes [.string x.key.data.toList, .string x.elem.data.toList])
theorem lits_str (d : Nat) {s : ByteArray} (h : s.size ≤ maxLen) : Tryz.prog.keyLits (d + 1) 9 [.string s] = some [.string s.data.toList] := by
 simp only [Program.keyLits, Tryz.underlying9]
 rw [if_pos h]
theorem lits_el (d : Nat) {x : El} (h : Gd x) : Tryz.prog.keyLits (d + 2) 73 (EL.enc x) = some [.string x.key.data.toList, .string x.elem.data.toList] := by
 unfold Program.keyLits
 simp only [Tryz.underlying73]
 rw [if_pos ⟨by rw [cells_el]; rfl, by kernel_rfl⟩]
 simp [cells_str, EL, lits_str d h.key, lits_str d h.elem]
theorem keyOf_el {x : El} (h : Gd x) : keyOf Tryz.prog 73 (.agg (lc x)) = some (key x) := by
 obtain ⟨m0, hm0⟩ := types_pos
 unfold keyOf
 simp only [Tryz.underlying73]
 rw [if_pos (by simp [keyT, Value.formed, Tryz.underlying73, cells_el, lc]), hm0]
 have e : (Value.agg (lc x)).cells.toList = EL.enc x := rfl
 rw [e, lits_el m0 h]
 rfl
theorem lc_inj {x y : El} (h : lc x = lc y) : x = y := by
 unfold lc at h
 simp only [Array.mk.injEq, List.cons.injEq, Value.string.injEq, and_true] at h
 exact El_ext h.1 h.2
theorem key_inj {x y : El} (hx : Gd x) (hy : Gd y) (h : key x = key y) : x = y := by
 have h1 := keyOf_el hx
 have h2 := keyOf_el hy
 rw [← h] at h2
 have := law.inj h1 h2
 injection this with this
 exact lc_inj this
def R (v : Value) : Option (DataW Value × List MemPlace) := some (.held v, [])
def ValD (D : DataW Value) (f : El → Option Value) : Prop := (∀ x, Gd x → Maps.has D (key x) = (f x).isSome) ∧ ∀ x v, Gd x → f x = some v → ∀ z, D.atKey (key x) z = .held v
def ValIn (w : World) (b n : Nat) (f : El → Option Value) : Prop := ∃ D : DataW Value, w.ownsMap Tryz.prog 73 R b n D ∧ ValD D f
theorem ValIn.made (w : World) : ValIn (w.alloc (.map #[] 0)) w.heap.size 0 fun _ => none := ⟨.map [], World.ownsMap_made _ _ _ _, fun x _ => by simp [Maps.has], fun x v _ hx => by cases hx⟩
theorem ValIn.lt {w : World} {b n : Nat} {f : El → Option Value} (h : ValIn w b n f) : b < w.heap.size := by obtain ⟨D, hD, _⟩ := h; exact hD.lt
theorem ValIn.kept {w w' : World} {b n : Nat} {f : El → Option Value} {row : Option Nat} (h : ValIn w b n f) (hg : w.grownBy w' row) (hne : some b ≠ row) : ValIn w' b n f := by
 obtain ⟨D, hD, hs⟩ := h
 exact ⟨D, hD.kept hg hne, hs⟩
theorem ValIn.below {w w' : World} {b n : Nat} {f : El → Option Value} (h : ValIn w b n f) (hb : Below w.heap.size w w') : ValIn w' b n f := h.kept (grown_of_below hb none) (by simp)
theorem ValIn.alloc {w : World} {b n : Nat} {f : El → Option Value} (h : ValIn w b n f) (o : Obj) : ValIn (w.alloc o) b n f := h.kept (World.grownBy_alloc w o none) (by simp)
theorem ValIn.mono {w : World} {b n m : Nat} {f : El → Option Value} (h : ValIn w b n f) (hm : n ≤ m) : ValIn w b m f := by
 obtain ⟨D, hD, hs⟩ := h
 exact ⟨D, hD.mono hm, hs⟩
def upd (f : El → Option Value) (y : El) (v : Value) : El → Option Value := fun x => if x = y then some v else f x
theorem put_D {D : DataW Value} {f : El → Option Value} (hm : Maps.IsMap D) (h : ValD D f) {y : El} (hy : Gd y) (v : Value) : ValD (D.put (key y) (.held v)) (upd f y v) := by
 have hk : WideAt.IsKeyLit (key y) := law.key (keyOf_el hy)
 refine ⟨fun x hx => ?_, fun x u hx hu z => ?_⟩
 · unfold upd
   by_cases hxy : x = y
   · subst hxy
     rw [Maps.has_put_same hm hk]
     simp
   · rw [Maps.has_put_other (fun e => hxy (key_inj hx hy e)), h.1 x hx]
     simp [hxy]
 · unfold upd at hu
   by_cases hxy : x = y
   · subst hxy
     rw [if_pos rfl] at hu
     injection hu with hu
     subst hu
     exact Maps.atKey_put_same hm hk _ _
   · rw [if_neg hxy] at hu
     rw [Maps.atKey_put_other (fun e => hxy (key_inj hx hy e))]
     exact h.2 x u hx hu z
theorem ValD.at_key {D : DataW Value} {f : El → Option Value} (h : ValD D f) {y : El} (hy : Gd y) (z : Value) : D.atKey (key y) (.held z) = .held ((f y).getD z) := by
 cases hf : f y with
 | some v => exact h.2 y v hy hf _
 | none =>
   have hh := h.1 y hy
   rw [hf] at hh
   rw [Maps.atKey_of_not_has hh]
   rfl
section
variable {T e : TypeId} (hT : Tryz.prog.underlying T = some (.map 73 e)) {zv : Value} (hz : ∀ w : World, (zeroValue e).run Tryz.prog w = .ok zv w)
include hT
theorem run_look {w : World} {b n : Nat} {f : El → Option Value} (h : ValIn w b n f) {y : El} (hy : Gd y) (hz : ∀ w : World, (zeroValue e).run Tryz.prog w = .ok zv w) : (Instr.lookup T (.map (some b)) (.agg (lc y)) false).run Tryz.prog w = .ok ((f y).getD zv) w := by
 obtain ⟨D, hD, hs⟩ := h
 obtain ⟨v, ps, hrun, hv⟩ := hD.lookup law hT (hz w) (show R zv = some (.held zv, []) from rfl) (keyOf_el hy)
 rw [hs.at_key hy] at hv
 unfold R at hv
 simp only [Option.some.injEq, Prod.mk.injEq] at hv
 rw [hrun, MapV.held_inj hv.1]
section
variable (w : World) {ops : Array Oper} {rest : List Oper} {o : Oper} {a : Act} {Q : Exit → Act → World → Prop}
theorem wpList_put (hg : o.guard = none) (m x v : Operand) (hop : o.op = Op.mapUpdate T m x v) (b n : Nat) (f : El → Option Value) (hm : a.eval m = .map (some b)) (h : ValIn w b n f) (hn : n < 3000000000000)
   (y : El) (hy : Gd y) (hx : a.eval x = .agg (lc y)) (u : Value) (hv : a.eval v = u) (hK : ∀ w', ValIn w' b (n + 1) (upd f y u) → w.grownBy w' (some b) → wpList Tryz.prog ops Q rest (a.put o.dst undef) w') : wpList Tryz.prog ops Q (o :: rest) a w := by
 obtain ⟨D, hD, hs⟩ := h
 exact wpList_mapUpdate_own w hg m x v T hop 73 e law hT _ b n D hm hD (by unfold maxLen; omega) _ _ (key y) hx hv (keyOf_el hy) (.held u) [] rfl
   (fun w' h1 h2 => hK w' ⟨_, h1, put_D hD.isMap hs hy u⟩ h2)
end
end
theorem mapT : Tryz.prog.underlying 67 = some (.map 73 71) := Tryz.underlying67
theorem zero_clock (w : World) : (zeroValue 71).run Tryz.prog w = .ok (.agg (DgY.ck fun _ => 0)) w := by kernel_rfl
theorem make_els (w : World) : (Instr.makeMap 67 none).run Tryz.prog w = .ok (.map (some w.heap.size)) (w.alloc (.map #[] 0)) := by kernel_rfl
theorem idsT : Tryz.prog.underlying 118 = some (.map 56 71) := Tryz.underlying118
end Go.Proofs.YtgmdhaepiclkcaaGreatDoor.EaK
