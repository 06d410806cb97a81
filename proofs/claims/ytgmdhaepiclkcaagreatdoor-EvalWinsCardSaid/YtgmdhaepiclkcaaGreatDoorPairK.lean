/- Pairs as keys of a map of numbers. No condition. -/
import Derived.Test.YtgmdhaepiclkcaaGreatDoorEaRJ28
import Derived.DeepKeys4
import Derived.WideKeyEntry
import Derived.Maps.RangeWalk
import Derived.Maps.OwnSet
import Derived.Maps.OwnOps
namespace Go.Proofs.YtgmdhaepiclkcaaGreatDoor.PairK
set_option maxRecDepth 100000
open Go Go.RowKit Go.Maps Byt Rise PairM RowS RowB PairW
abbrev Gd := OpenP.Good
theorem laidOut : laidOutB Tryz.prog = true := by kernel_rfl
theorem row : (58 : TypeId) < Tryz.prog.types.size := of_decide_eq_true (by kernel_rfl)
theorem wide : (match Tryz.prog.underlying 58 with | some (.array _ _) | some (.struct _) => true | _ => false) = true := by kernel_rfl
theorem klaw : WideMaps.KeyLaw Tryz.prog 58 := deep_law_laid laidOut (m := 3) (by omega) row (by kernel_rfl) wide
theorem law : Keyed Tryz.prog 58 := Keyed.of_law klaw
theorem types_gt : 2 < Tryz.prog.types.size := of_decide_eq_true (by kernel_rfl)
theorem types_pos : ∃ m, Tryz.prog.types.size = m + 2 := ⟨Tryz.prog.types.size - 2, by have := types_gt; omega⟩
theorem keyT : Tryz.prog.keyType 58 = true := by kernel_rfl
theorem cells_pair : Tryz.prog.cellsOf 58 = 4 := by kernel_rfl
theorem cells_ev : Tryz.prog.cellsOf 43 = 2 := by kernel_rfl
theorem cells_int : Tryz.prog.cellsOf 3 = 1 := by kernel_rfl
theorem cells_str : Tryz.prog.cellsOf 9 = 1 := by kernel_rfl
theorem wf64 {n : Int} (h : In64 n) : (Lit.int .i64 n).wf = true := by
 unfold In64 at h
 simp [Lit.wf, IntKind.min, IntKind.max, IntKind.bits, IntKind.signed]
 omega
theorem good_of {c : Pr} (h : Fit c) : Gd c := ⟨by have := h.key; unfold maxLen; omega, by have := h.elem; unfold maxLen; omega, h.node, h.seq⟩
def key (x : Pr) : Lit := .string (keyBytes [.string x.key.data.toList, .string x.elem.data.toList, .int .i64 x.node, .int .i64 x.seq])
theorem lits_str (d : Nat) {s : ByteArray} (h : s.size ≤ maxLen) : Tryz.prog.keyLits (d + 1) 9 [.string s] = some [.string s.data.toList] := by
 simp only [Program.keyLits, Tryz.underlying9]
 rw [if_pos h]
theorem lits_int (d : Nat) {n : Int} (h : In64 n) : Tryz.prog.keyLits (d + 1) 3 [.int .i64 n] = some [.int .i64 n] := by
 simp only [Program.keyLits, Tryz.underlying3]
 rw [if_pos ⟨trivial, wf64 h⟩]
theorem lits_ev (d : Nat) {m n : Int} (hm : In64 m) (hn : In64 n) : Tryz.prog.keyLits (d + 2) 43 [.int .i64 m, .int .i64 n] = some [.int .i64 m, .int .i64 n] := by
 unfold Program.keyLits
 simp only [Tryz.underlying43]
 rw [if_pos ⟨by rw [cells_ev]; rfl, by kernel_rfl⟩]
 simp [cells_int, lits_int d hm, lits_int d hn]
theorem lits_pair (d : Nat) {x : Pr} (h : Gd x) : Tryz.prog.keyLits (d + 3) 58 (E.enc x) = some [.string x.key.data.toList, .string x.elem.data.toList, .int .i64 x.node, .int .i64 x.seq] := by
 unfold Program.keyLits
 simp only [Tryz.underlying58]
 rw [if_pos ⟨by rw [cells_pair]; rfl, by kernel_rfl⟩]
 simp [cells_ev, cells_str, E, lits_str (d + 1) h.key, lits_str (d + 1) h.elem, lits_ev d h.node h.seq]
theorem keyOf_pair {x : Pr} (h : Gd x) : keyOf Tryz.prog 58 (.agg (pc x)) = some (key x) := by
 obtain ⟨m0, hm0⟩ := types_pos
 unfold keyOf
 simp only [Tryz.underlying58]
 rw [if_pos (by simp [keyT, Value.formed, Tryz.underlying58, cells_pair, pc]), hm0]
 have e : (Value.agg (pc x)).cells.toList = E.enc x := rfl
 rw [e, lits_pair m0 h]
 rfl
theorem pc_inj {x y : Pr} (h : pc x = pc y) : x = y := by
 unfold pc at h
 simp only [Array.mk.injEq, List.cons.injEq, Value.string.injEq, Value.int.injEq, true_and, and_true] at h
 exact Pr_ext h.1 h.2.1 h.2.2.1 h.2.2.2
theorem key_inj {x y : Pr} (hx : Gd x) (hy : Gd y) (h : key x = key y) : x = y := by
 have h1 := keyOf_pair hx
 have h2 := keyOf_pair hy
 rw [← h] at h2
 have := law.inj h1 h2
 injection this with this
 exact pc_inj this
theorem in_wf {n : Int} (h : (Lit.int .i64 n).wf = true) : In64 n := OpenP.i64_of h
theorem str_of {d : Nat} {cs : List Value} {l : List Lit} (h : Tryz.prog.keyLits d 9 cs = some l) : ∃ s : ByteArray, cs = [.string s] ∧ s.size ≤ maxLen := by
 obtain ⟨s, rfl, _⟩ := keyLits_string' Tryz.underlying9 h
 cases d with
 | zero => simp [Program.keyLits] at h
 | succ d =>
   simp only [Program.keyLits, Tryz.underlying9] at h
   split at h
   · rename_i hs
     exact ⟨s, rfl, hs⟩
   · cases h
theorem int_of {d : Nat} {cs : List Value} {l : List Lit} (h : Tryz.prog.keyLits d 3 cs = some l) : ∃ n : Int, cs = [.int .i64 n] ∧ In64 n := by
 obtain ⟨n, rfl, _⟩ := keyLits_int' Tryz.underlying3 h
 cases d with
 | zero => simp [Program.keyLits] at h
 | succ d =>
   simp only [Program.keyLits, Tryz.underlying3] at h
   split at h
   · rename_i hs
     exact ⟨n, rfl, in_wf hs.2⟩
   · cases h
theorem two_of {α : Type} {l : List α} (h : l.length = 2) : ∃ a b, l = [a, b] := by
 match l, h with
 | [a, b], _ => exact ⟨a, b, rfl⟩
theorem four_of {α : Type} {l : List α} (h : l.length = 4) : ∃ a b c d, l = [a, b, c, d] := by
 match l, h with
 | [a, b, c, d], _ => exact ⟨a, b, c, d, rfl⟩
theorem ev_of {d : Nat} {cs : List Value} {l : List Lit} (h : Tryz.prog.keyLits d 43 cs = some l) : ∃ m n : Int, cs = [.int .i64 m, .int .i64 n] ∧ In64 m ∧ In64 n := by
 cases d with
 | zero => simp [Program.keyLits] at h
 | succ d =>
   unfold Program.keyLits at h
   simp only [Tryz.underlying43] at h
   split at h
   · rename_i hs
     have hl := hs.1
     rw [cells_ev] at hl
     obtain ⟨a, b, rfl⟩ := two_of hl
     rw [Option.map_eq_some_iff] at h
     obtain ⟨ys, hys, _⟩ := h
     simp only [List.mapM_cons, List.mapM_nil, bind, Option.bind_eq_some_iff, cells_int, List.drop_zero, List.drop_succ_cons, List.take_succ_cons, List.take_zero] at hys
     obtain ⟨y0, h0, z0, ⟨y1, h1, _⟩, _⟩ := hys
     obtain ⟨m, e0, w0⟩ := int_of h0
     obtain ⟨n, e1, w1⟩ := int_of h1
     simp only [List.cons.injEq, and_true] at e0 e1
     subst e0 e1
     exact ⟨m, n, rfl, w0, w1⟩
   · cases h
theorem pair_of {d : Nat} {cs : List Value} {l : List Lit} (h : Tryz.prog.keyLits d 58 cs = some l) : ∃ x : Pr, cs = E.enc x ∧ Gd x := by
 cases d with
 | zero => simp [Program.keyLits] at h
 | succ d =>
   unfold Program.keyLits at h
   simp only [Tryz.underlying58] at h
   split at h
   · rename_i hs
     have hl := hs.1
     rw [cells_pair] at hl
     obtain ⟨a, b, c, e, rfl⟩ := four_of hl
     rw [Option.map_eq_some_iff] at h
     obtain ⟨ys, hys, _⟩ := h
     simp only [List.mapM_cons, List.mapM_nil, bind, Option.bind_eq_some_iff, cells_str, cells_ev, List.drop_zero, List.drop_succ_cons, List.take_succ_cons, List.take_zero] at hys
     obtain ⟨y0, h0, z0, ⟨y1, h1, z1, ⟨y2, h2, _⟩, _⟩, _⟩ := hys
     obtain ⟨s, e0, w0⟩ := str_of h0
     obtain ⟨t, e1, w1⟩ := str_of h1
     obtain ⟨m, n, e2, w2, w3⟩ := ev_of h2
     simp only [List.cons.injEq, and_true] at e0 e1 e2
     obtain ⟨e2, e3⟩ := e2
     subst e0 e1 e2 e3
     exact ⟨⟨s, t, m, n⟩, rfl, ⟨w0, w1, w2, w3⟩⟩
   · cases h
theorem keyOf_inv {v : Value} {kl : Lit} (h : keyOf Tryz.prog 58 v = some kl) : ∃ x, Gd x ∧ v = .agg (pc x) ∧ kl = key x := by
 obtain ⟨xs, L, rfl, h1, _⟩ := keyOf_top wide h
 obtain ⟨x, hx, hg⟩ := pair_of h1
 have e : xs = pc x := Array.toList_inj.1 hx
 subst e
 exact ⟨x, hg, rfl, Option.some.inj (h.symm.trans (keyOf_pair hg))⟩
theorem same_self {x : Pr} (h : Gd x) : (key x).sameKey (key x) = true := WideAt.sameKey_self (law.key (keyOf_pair h))
def upd (v : Pr → Int) (y : Pr) (c : Int) : Pr → Int := fun x => if x = y then c else v x
def NumD (D : DataW Unit) (K : List Pr) (v : Pr → Int) : Prop :=
 (∀ x, Gd x → (Maps.has D (key x) = true ↔ x ∈ K)) ∧ (∀ x, x ∈ K → ∀ z, D.atKey (key x) z = .lit (.int .i64 (v x))) ∧ (∀ x, x ∉ K → v x = 0) ∧ ∀ x, x ∈ K → Gd x
def NumIn (w : World) (b n : Nat) (K : List Pr) (v : Pr → Int) : Prop := ∃ D : DataW Unit, w.ownsMap Tryz.prog 58 (plainElem Tryz.prog 3) b n D ∧ NumD D K v
theorem NumIn.made (w : World) : NumIn (w.alloc (.map #[] 0)) w.heap.size 0 [] fun _ => 0 := ⟨.map [], World.ownsMap_made _ _ _ _, fun x _ => by simp [Maps.has], fun x hx => absurd hx (by simp), fun _ _ => rfl, fun x hx => absurd hx (by simp)⟩
theorem NumIn.kept {w w' : World} {b n : Nat} {K : List Pr} {v : Pr → Int} {row : Option Nat} (h : NumIn w b n K v) (hg : w.grownBy w' row) (hne : some b ≠ row) : NumIn w' b n K v := by
 obtain ⟨D, hD, hs⟩ := h
 exact ⟨D, hD.kept hg hne, hs⟩
theorem NumIn.congr {w : World} {b n : Nat} {K K' : List Pr} {v v' : Pr → Int} (h : NumIn w b n K v) (he : ∀ x, x ∈ K ↔ x ∈ K') (hv : ∀ x, v x = v' x) : NumIn w b n K' v' := by
 obtain ⟨D, hD, h1, h2, h3, h4⟩ := h
 exact ⟨D, hD, fun x hx => by rw [h1 x hx]; exact he x, fun x hx z => by rw [h2 x ((he x).2 hx), hv], fun x hx => by rw [← hv]; exact h3 x (fun h => hx ((he x).1 h)), fun x hx => h4 x ((he x).2 hx)⟩
theorem NumIn.up {w : World} {b n m : Nat} {K : List Pr} {v : Pr → Int} (h : NumIn w b n K v) (hm : n ≤ m) : NumIn w b m K v := by
 obtain ⟨D, hD, hs⟩ := h
 exact ⟨D, hD.mono hm, hs⟩
theorem put_D {D : DataW Unit} {K : List Pr} {v : Pr → Int} (hm : Maps.IsMap D) (h : NumD D K v) {y : Pr} (hy : Gd y) (c : Int) : NumD (D.put (key y) (.lit (.int .i64 c))) (y :: K) (upd v y c) := by
 have hk : WideAt.IsKeyLit (key y) := law.key (keyOf_pair hy)
 obtain ⟨g1, g2, g3, g4⟩ := h
 refine ⟨fun x hx => ?_, fun x hx z => ?_, fun x hx => ?_, fun x hx => ?_⟩
 · by_cases hxy : x = y
   · subst hxy
     rw [Maps.has_put_same hm hk]
     simp
   · rw [Maps.has_put_other (fun e => hxy (key_inj hx hy e)), g1 x hx]
     simp [hxy]
 · unfold upd
   by_cases hxy : x = y
   · subst hxy
     rw [if_pos rfl]
     exact Maps.atKey_put_same hm hk _ _
   · have hxK : x ∈ K := by simpa [hxy] using hx
     rw [Maps.atKey_put_other (fun e => hxy (key_inj (g4 x hxK) hy e)), if_neg hxy]
     exact g2 x hxK z
 · simp only [List.mem_cons, not_or] at hx
   unfold upd
   rw [if_neg hx.1]
   exact g3 x hx.2
 · rcases List.mem_cons.1 hx with rfl | hx
   · exact hy
   · exact g4 x hx
theorem zero_int (w : World) : (zeroValue 3).run Tryz.prog w = .ok (.int .i64 0) w := by kernel_rfl
theorem NumD.at_key {D : DataW Unit} {K : List Pr} {f : Pr → Int} (h : NumD D K f) {y : Pr} (hy : Gd y) {c : Int} (hat : D.atKey (key y) (.lit (.int .i64 0)) = .lit (.int .i64 c)) : c = f y := by
 by_cases hyK : y ∈ K
 · rw [h.2.1 y hyK] at hat
   injection hat with hat
   injection hat with _ hat
   exact hat.symm
 · have hh : Maps.has D (key y) = false := by
     rw [← Bool.not_eq_true, h.1 y hy]
     exact hyK
   rw [Maps.atKey_of_not_has hh] at hat
   rw [h.2.2.1 y hyK]
   injection hat with hat
   injection hat with _ hat
   exact hat.symm
theorem upd_self {f : Pr → Int} {y : Pr} {c : Int} (h : c = f y) : upd f y c = f := by
 funext x
 unfold upd
 by_cases e : x = y
 · rw [if_pos e, e, h]
 · rw [if_neg e]
theorem NumIn.ready {w : World} {b n : Nat} {K : List Pr} {f : Pr → Int} (h : NumIn w b n K f) (hn : n < 1000000000) {y : Pr} (hy : Gd y) :
   ∃ (v : Value) (w1 : World) (K' : List Pr), (Instr.mapEntry 141 (.map (some b)) (.agg (pc y))).run Tryz.prog w = .ok v w1 ∧ NumIn w1 b (n + 1) K' f := by
 obtain ⟨D, hD, hs⟩ := h
 have hD0 := hD
 have hkey := keyOf_pair hy
 obtain ⟨c, hlook, hat, _⟩ := hD0.lookup_int law Tryz.underlying141 Tryz.underlying3 (zero_int w) hkey
 have hc := hs.at_key hy hat
 obtain ⟨es, clock, hb, F, hsz, hDD⟩ := hD
 rcases klaw.find w hkey es.toList F.keys with ⟨h1, h2⟩ | ⟨j, e0, h1, h2, h3⟩
 · have h0 : (Instr.lookup 141 (.map (some b)) (.agg (pc y)) false).run Tryz.prog w = .ok (.int .i64 0) w := by
     simp [Instr.lookup, run_underlying Tryz.underlying141, MapKept.run_getObj_map hb, klaw.check w _ hkey, h1, Result.andThen]
   have hc0 : (0 : Int) = f y := by
     rw [← hc]
     rw [h0] at hlook
     injection hlook with hlook _
     injection hlook with _ hlook
   have hm : (Instr.mapEntry 141 (.map (some b)) (.agg (pc y))).run Tryz.prog w = .ok (.tuple #[.int .i64 0, goInt clock]) (ChangeMaps.setBlock w b (.map (es.push ⟨.agg (pc y), .int .i64 0, clock⟩) (clock + 1))) := by
     simp [Instr.mapEntry, run_underlying Tryz.underlying141, MapKept.run_getObj_map hb, klaw.check w false hkey, h1, MapKept.run_setObj_map _ hb, Result.andThen, ChangeMaps.setBlock]
   have hu : (Instr.mapUpdate 141 (.map (some b)) (.agg (pc y)) (.int .i64 0)).run Tryz.prog w = .ok () (ChangeMaps.setBlock w b (.map (es.push ⟨.agg (pc y), .int .i64 0, clock⟩) (clock + 1))) := by
     simp [Instr.mapUpdate, run_underlying Tryz.underlying141, MapKept.run_getObj_map hb, klaw.check w false hkey, h1, MapKept.run_setObj_map _ hb, Result.andThen, ChangeMaps.setBlock]
   obtain ⟨w', u1, u2, _⟩ := hD0.update law Tryz.underlying141 (by unfold maxLen; omega) hkey (plainElem_int (H := Unit) Tryz.underlying3 (wf64 (n := 0) (by unfold In64; omega)))
   rw [hu] at u1
   injection u1 with _ u1
   refine ⟨_, _, y :: K, hm, ⟨_, by rw [u1]; exact u2, ?_⟩⟩
   have := put_D hD0.isMap hs hy 0
   rwa [upd_self hc0] at this
 · have hj : es[j]? = some e0 := by simpa using h2
   have hsame : es.modify j (fun e => { e with key := .agg (pc y) }) = es := by
     apply Array.ext'
     rw [Array.toList_modify]
     refine List.ext_getElem? (fun i => ?_)
     rw [List.getElem?_modify]
     by_cases e : j = i
     · subst e
       rw [h2]
       simp [← h3]
     · simp [e]
   have hm : (Instr.mapEntry 141 (.map (some b)) (.agg (pc y))).run Tryz.prog w = .ok (.tuple #[e0.val, goInt e0.born]) (ChangeMaps.setBlock w b (.map es clock)) := by
     simp [Instr.mapEntry, run_underlying Tryz.underlying141, MapKept.run_getObj_map hb, klaw.check w false hkey, h1, hj, h3, klaw.stays w hkey, hsame, MapKept.run_setObj_map _ hb, Result.andThen, ChangeMaps.setBlock]
   exact ⟨_, _, K, hm, D, ⟨es, clock, ChangeMaps.heap_setBlock_same hb _, F, by omega, hDD⟩, hs⟩
theorem NumIn.entry {w : World} {b n : Nat} {K : List Pr} {f : Pr → Int} (h : NumIn w b n K f) (hn : n < 1000000000) {y : Pr} (hy : Gd y) :
   ∃ (v0 : Value) (st : Nat) (w1 : World), (Instr.mapEntry 141 (.map (some b)) (.agg (pc y))).run Tryz.prog w = .ok (.tuple #[v0, goInt st]) w1 ∧ w.grownBy w1 (some b) ∧ (∃ K', NumIn w1 b (n + 1) K' f) ∧
     ∀ (w2 : World) (c : Int), In64 c → w2.heap[b]? = w1.heap[b]? → ∃ w3, (Instr.entryStore 141 (.map (some b)) (goInt st) (.int .i64 c)).run Tryz.prog w2 = .ok () w3 ∧ NumIn w3 b (n + 1) (y :: K) (upd f y c) ∧ w2.grownBy w3 (some b) := by
 obtain ⟨v, w0, K', r0, r1⟩ := h.ready hn hy
 obtain ⟨D, hD, hs⟩ := h
 have hD0 := hD
 obtain ⟨es, clock, hb, F, hsz, hDD⟩ := hD
 obtain ⟨v0, st, es1, clock1, h1, _, h3⟩ := WideElems.entry_then_store klaw Tryz.underlying141 zero_int hb F (keyOf_pair hy)
 have hw0 : w0 = ChangeMaps.setBlock w b (.map es1 clock1) := by
   rw [h1] at r0
   injection r0 with _ r0
   exact r0.symm
 subst hw0
 refine ⟨v0, st, _, h1, ⟨rfl, rfl, rfl, by simp [ChangeMaps.setBlock], fun i _ hi => ChangeMaps.heap_setBlock_other hb _ (fun e => hi (by rw [e]))⟩, ⟨K', r1⟩, fun w2 c hc h2 => ?_⟩
 rw [ChangeMaps.heap_setBlock_same hb] at h2
 obtain ⟨es', clock', r1, r2⟩ := h3 w2 (.int .i64 c) h2
 obtain ⟨w', u1, u2, _⟩ := hD0.update law Tryz.underlying141 (by unfold maxLen; omega) (keyOf_pair hy) (plainElem_int (H := Unit) Tryz.underlying3 (wf64 hc))
 have e : w' = ChangeMaps.setBlock w b (.map es' clock') := by
   rw [r2] at u1
   injection u1 with _ u1
   exact u1.symm
 subst e
 obtain ⟨e1, c1, hb1, F1, hz1, hd1⟩ := u2
 rw [ChangeMaps.heap_setBlock_same hb] at hb1
 injection hb1 with hb1
 injection hb1 with q1 q2
 subst q1 q2
 refine ⟨_, r1, ⟨_, ⟨es', clock', ChangeMaps.heap_setBlock_same h2 _, F1, hz1, hd1⟩, put_D hD0.isMap hs hy c⟩, ⟨rfl, rfl, rfl, by simp [ChangeMaps.setBlock], fun i _ hi => ChangeMaps.heap_setBlock_other h2 _ (fun e => hi (by rw [e]))⟩⟩
section
variable (w : World) {ops : Array Oper} {rest : List Oper} {o : Oper} {a : Act} {Q : Exit → Act → World → Prop}
theorem wpList_find (hg : o.guard = none) (m x : Operand) (hop : o.op = Op.lookup 141 m x false) (b n : Nat) (K : List Pr) (f : Pr → Int) (hm : a.eval m = .map (some b)) (h : NumIn w b n K f)
   (y : Pr) (hy : Gd y) (hx : a.eval x = .agg (pc y)) (hK : wpList Tryz.prog ops Q rest (a.put o.dst (.int .i64 (f y))) w) : wpList Tryz.prog ops Q (o :: rest) a w := by
 obtain ⟨D, hD, hs⟩ := h
 refine wpList_lookup_own_int w hg m x 141 hop 58 3 .i64 law Tryz.underlying141 Tryz.underlying3 (zero_int w) b n D hm hD _ (key y) hx (keyOf_pair hy) (fun c hat _ => ?_)
 have hc := hs.at_key hy hat
 rw [hc]
 exact hK
theorem wpList_entry (hg : o.guard = none) (m x : Operand) (hop : o.op = Op.mapEntry 141 m x) (b n : Nat) (K : List Pr) (f : Pr → Int) (hm : a.eval m = .map (some b)) (h : NumIn w b n K f) (hn : n < 1000000000)
   (y : Pr) (hy : Gd y) (hx : a.eval x = .agg (pc y))
   (hK : ∀ (v0 : Value) (st : Nat) (w1 : World), w.grownBy w1 (some b) → (∃ K', NumIn w1 b (n + 1) K' f) → (∀ (w2 : World) (c : Int), In64 c → w2.heap[b]? = w1.heap[b]? → ∃ w3, (Instr.entryStore 141 (.map (some b)) (goInt st) (.int .i64 c)).run Tryz.prog w2 = .ok () w3 ∧ NumIn w3 b (n + 1) (y :: K) (upd f y c) ∧ w2.grownBy w3 (some b)) →
     wpList Tryz.prog ops Q rest (a.put o.dst (.tuple #[v0, goInt st])) w1) : wpList Tryz.prog ops Q (o :: rest) a w := by
 obtain ⟨v0, st, w1, hrun, g1, g0, g2⟩ := h.entry hn hy
 refine wpList_plain hg fun K' hK' => ?_
 unfold Oper.wp
 simp [execOp, hop, hm, hx, hrun, Result.andThen]
 exact hK' _ _ (hK v0 st w1 g1 g0 g2)
theorem wpList_stored (hg : o.guard = none) (m s v : Operand) (hop : o.op = Op.entryStore 141 m s v) (b : Nat) (hm : a.eval m = .map (some b)) (st : Nat) (hst : a.eval s = goInt st) (c : Int) (hv : a.eval v = .int .i64 c)
   {C : World → Prop} (hS : ∃ w3, (Instr.entryStore 141 (.map (some b)) (goInt st) (.int .i64 c)).run Tryz.prog w = .ok () w3 ∧ C w3)
   (hK : ∀ w3, C w3 → wpList Tryz.prog ops Q rest (a.put o.dst undef) w3) : wpList Tryz.prog ops Q (o :: rest) a w := by
 obtain ⟨w3, hrun, h3⟩ := hS
 refine wpList_plain hg fun K' hK' => ?_
 unfold Oper.wp
 simp [execOp, hop, hm, hst, hv, hrun, Result.andThen]
 exact hK' _ _ (hK w3 h3)
end
end Go.Proofs.YtgmdhaepiclkcaaGreatDoor.PairK
