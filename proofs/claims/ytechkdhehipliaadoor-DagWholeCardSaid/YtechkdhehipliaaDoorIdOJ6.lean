/- One id in a box: stored, built, handed back beside a value. No condition. | The document's reader of package commit: in memory, and what its Num and ID return: contracts. | What the document's Event of package state returns: a contract. | What the document's Key of package ops returns: a contract. | What the document's May of package ops returns: a contract. | What Less (of ids, and of the document's answers) and order return: contracts. -/
import Derived.Test.YtechkdhehipliaaDoorEvWJ6
import Derived.Test.YtechkdhehipliaaDoorIdMJ2
import Derived.Test.YtechkdhehipliaaDoorOpsKJ2
import Derived.Test.YtechkdhehipliaaDoorOpsC
import Derived.Test.YtechkdhehipliaaDoorArrEqJ2
namespace Go.Proofs.YtechkdhehipliaaDoor.IdJ
set_option maxRecDepth 100000
open Go Go.RowKit IdM Byt IdW IdB

theorem Box.frozen {w : World} {g : Nat} {x : Idn} (h : Box w g x) (i : Nat) : w.frozen? ⟨g, i, none⟩ = false := by
  obtain ⟨t, ht⟩ := h
  exact frozen_of_row w g i (cs x) t ht
theorem Box.put {w : World} {g : Nat} {x y : Idn} (h : Box w g x) (i : Nat) (v : Value) (e : (cs x).setIfInBounds i v = cs y) : Box (w.setCell ⟨g, i, none⟩ v) g y := by
  obtain ⟨t, ht⟩ := h
  exact ⟨t, by rw [heap_setCell_same w g i (cs x) t v ht, e]⟩
theorem Box.other {w : World} {g : Nat} {x : Idn} (h : Box w g x) {a : Addr} (ha : g ≠ a.block) (v : Value) : Box (w.setCell a v) g x := by
  obtain ⟨t, ht⟩ := h
  exact ⟨t, (heap_setCell_other w a g v ha).trans ht⟩
theorem Box.row {w : World} {g : Nat} {x : Idn} (h : Box w g x) (y : Idn) : Box (w.setRow g (cs y)) g y := by
  obtain ⟨t, ht⟩ := h
  exact ⟨t, setRow_heap w g (cs x) (cs y) t (0, 0) ht⟩
theorem below_row {B g : Nat} {w0 w : World} (hb : Below B w0 w) (hg : B ≤ g) (c : Array Value) : Below B w0 (w.setRow g c) :=
  hb.trans ⟨rfl, rfl, rfl, by simp [World.setRow], fun k hk => setRow_other w g k c (by omega)⟩
theorem below_cell {B g i : Nat} {w0 w : World} (hb : Below B w0 w) (hg : B ≤ g) (v : Value) : Below B w0 (w.setCell ⟨g, i, none⟩ v) :=
  hb.trans ⟨rfl, rfl, rfl, by simp [World.setCell], fun k hk => heap_setCell_other w ⟨g, i, none⟩ k v (by simp; omega)⟩
/-- An id stored into a box. -/
theorem wpList_store_box {ops : Array Oper} {rest : List Oper} {o : Oper} {a : Act} {w : World} {Q : Exit → Act → World → Prop} (hgd : o.guard = none) (x y : Operand) (ho : o.op = .store 43 x y)
    (g : Nat) (hx : a.eval x = .pointer (some ⟨g, 0, none⟩)) (old z : Idn) (hb : Box w g old) (hy : a.eval y = .agg (cs z))
    (h : wpList Tryd.prog ops Q rest (a.put o.dst undef) (w.setRow g (cs z))) : wpList Tryd.prog ops Q (o :: rest) a w := by
  obtain ⟨t, ht⟩ := hb
  exact wpList_store_row hgd 43 x y ho g (cs z) hx hy t (cs old) ht (info_cs z) (by rw [cs_size, cs_size]) (cs_one z) h
theorem build0 (w : World) : (Instr.build 43 #[]).run Tryd.prog w = .ok (.agg (cs nought)) w := Go.run_build w 43 _ _ (by kernel_rfl)
theorem wpList_build0 {ops : Array Oper} {rest : List Oper} {o : Oper} {a : Act} {w : World} {Q : Exit → Act → World → Prop} (hgd : o.guard = none) (ho : o.op = .build 43 #[])
    (h : wpList Tryd.prog ops Q rest (a.put o.dst (.agg (cs nought))) w) : wpList Tryd.prog ops Q (o :: rest) a w := by
  refine wpList_plain hgd fun K hK => ?_
  unfold Oper.wp execOp
  simp only [ho, List.map_toArray, List.map_nil, Sem.run_bind, build0, Result.andThen_ok, Sem.run_pure]
  exact hK _ _ h
theorem wpList_alloc_id {ops : Array Oper} {rest : List Oper} {o : Oper} {a : Act} {w : World} {Q : Exit → Act → World → Prop} (hgd : o.guard = none) (ho : o.op = .alloc 43)
    (h : wpList Tryd.prog ops Q rest (a.put o.dst (.pointer (some ⟨w.heap.size, 0, none⟩))) (w.alloc (.cells (cs nought) 43))) : wpList Tryd.prog ops Q (o :: rest) a w := by
  refine wpList_plain hgd fun K hK => ?_
  have zv := zero_v w
  unfold Oper.wp execOp
  simp only [ho, Instr.alloc, newVar, newRow, Sem.run_bind, zv, Result.andThen_ok, Sem.run_pure, Value.cells]
  exact hK _ _ h
theorem results_box {fn : Func} {p q : Tmp} (h : fn.results = #[.cell p 43, .tmp q]) (tmps : Array Value) (w : World) (g : Nat) (x : Idn) (v : Value)
    (hp : tmps.getD p undef = .pointer (some ⟨g, 0, none⟩)) (hq : tmps.getD q undef = v) (hg : Box w g x) : (results fn tmps).run Tryd.prog w = .ok (.tuple #[.agg (cs x), v]) w := by
  obtain ⟨t, ht⟩ := hg
  have hp' : tmps[p]?.getD undef = .pointer (some ⟨g, 0, none⟩) := by simpa using hp
  have hq' : tmps[q]?.getD undef = v := by simpa using hq
  simp [results, h, hp', hq', asAddr, run_loadVar_row w g t 43 (cs x) (0, 0) _ ht Tryd.underlying43 rfl (info_cs x)]
end Go.Proofs.YtechkdhehipliaaDoor.IdJ
namespace Go.Proofs.YtechkdhehipliaaDoor.CmD
set_option maxRecDepth 100000
open Go Go.Sort Go.RowKit Byt EncM EncC IdM IdW IdB OpsM CmM StW CmW

/-- Bytes that are left, in a slice, and whether something was wrong. -/
structure Rd where
  a : Option Addr
  k : Nat
  l : List Int
  bad : Bool
theorem info_b : (Tryd.prog.info? 4).map (·.size) = some 1 := by kernel_rfl
theorem info_s : (Tryd.prog.info? 76).map (·.size) = some 1 := by kernel_rfl
/-- A byte. -/
def isU8 : Value → Bool
  | .int .u8 _ => true
  | _ => false
/-- No cell of a block is a byte. -/
def NoU8 (w : World) (g : Nat) : Prop := ∀ j v, w.cell? ⟨g, j, none⟩ = some v → isU8 v = false
theorem far_cell {w w' : World} {g : Nat} {x : Addr} {n : Int} (h : w.cell? x = some (.int .u8 n)) (hn : NoU8 w g) (hg : w.grownBy w' (some g)) : w'.cell? x = some (.int .u8 n) := by
  have hlt := block_lt_of_cell h
  have hne : some x.block ≠ some g := by
    intro e
    injection e with e
    have hs := World.cell?_spot h
    have : x = ⟨g, x.off, none⟩ := by
      cases x with
      | mk b o s =>
        simp only at e hs
        rw [e, hs]
    rw [this] at h
    have := hn _ _ h
    cases this
  unfold World.cell? at h ⊢
  rw [hg.block _ hlt hne]
  exact h
theorem sl_far {w w' : World} {g cap : Nat} {A : Option Addr} {l : List Int} (h : Sl w A cap l) (hn : NoU8 w g) (hg : w.grownBy w' (some g)) : Sl w' A cap l := by
  obtain ⟨h1, h2, h4, h5⟩ := h
  refine ⟨h1, h2, h4, ?_⟩
  rcases h5 with h5 | ⟨x, rfl, hc⟩
  · exact .inl h5
  · exact .inr ⟨x, rfl, fun i hi => far_cell (hc i hi) hn hg⟩
theorem sli_far {w w' : World} {g cap : Nat} {A : Option Addr} {l : List Idn} (h : SlI w A cap l) (hn : NoU8 w g) (hg : w.grownBy w' (some g)) : SlI w' A cap l := by
  obtain ⟨h1, h2, h5⟩ := h
  refine ⟨h1, h2, ?_⟩
  rcases h5 with h5 | ⟨x, rfl, hc⟩
  · exact .inl h5
  · exact .inr ⟨x, rfl, fun i hi => far_cell (hc i hi) hn hg⟩
theorem no_cm {w : World} {g : Nat} {c : Cv} (h : Cel.Box CE w g c) : NoU8 w g := by
  intro j v hv
  obtain ⟨t, ht⟩ := h
  rw [cell_of_row w g j _ t (0, 0) ht, List.getElem?_toArray] at hv
  match j, hv with
  | 0, hv => simp [CE] at hv; rw [← hv]; rfl
  | 1, hv => simp [CE] at hv; rw [← hv]; rfl
  | 2, hv => simp [CE] at hv; rw [← hv]; rfl
  | 3, hv => simp [CE] at hv; rw [← hv]; rfl
  | 4, hv => simp [CE] at hv; rw [← hv]; rfl
  | 5, hv => simp [CE] at hv; rw [← hv]; rfl
  | 6, hv => simp [CE] at hv; rw [← hv]; rfl
  | 7, hv => simp [CE] at hv; rw [← hv]; rfl
  | j + 8, hv => simp [CE] at hv
/-- What a turn of the reader leaves: its block alone is another one. -/
structure Turned (g : Nat) (w w' : World) : Prop where
  grown : w.grownBy w' (some g)
  below : ∀ B, B ≤ g → Below B w w'
theorem Turned.of_below {g : Nat} {w w' : World} (h : Below w.heap.size w w') (hg : g ≤ w.heap.size) : Turned g w w' := ⟨grown_of_below h _, fun _ hB => h.mono (Nat.le_trans hB hg)⟩
theorem Turned.trans {g : Nat} {w w1 w2 : World} (h : Turned g w w1) (k : Turned g w1 w2) : Turned g w w2 := ⟨h.grown.trans k.grown, fun B hB => (h.below B hB).trans (k.below B hB)⟩
/-- What is behind the first k bytes of a slice, in whatever world. -/
theorem part_any {A A2 : Option Addr} {cap c2 k n : Nat} {l : List Int} (hs : sliced A k n cap 1 = .slice A2 (l.drop k).length c2) (hn : l.length = n) (hk : k ≤ n) (V : World) (S : Sl V A cap l) : Sl V A2 c2 (l.drop k) := by
  subst hn
  obtain ⟨A', c', hs', S', _⟩ := S.part k l.length hk (Nat.le_refl _)
  rw [hs] at hs'
  injection hs' with e1 _ e3
  have e2 : (l.drop k).take (l.length - k) = l.drop k := List.take_of_length_le (by rw [List.length_drop]; omega)
  rw [e2] at S'
  rw [e1, e3]
  exact S'
/-- The id that bytes begin with. -/
def headI (l : List Int) : Idn := if h : 32 ≤ l.length ∧ ∀ x ∈ l.take 32, 0 ≤ x ∧ x ≤ 255 then ⟨l.take 32, by rw [List.length_take]; omega, h.2⟩ else nought
theorem headI_short {l : List Int} (h : l.length < 32) : headI l = nought := by rw [headI, dif_neg (by omega)]
theorem headI_val {l : List Int} (h : 32 ≤ l.length) (hb : ∀ x ∈ l, B x) : (headI l).val = l.take 32 := by
  rw [headI, dif_pos ⟨h, fun x hx => hb x (List.mem_of_mem_take hx)⟩]
def restI (l : List Int) : List Int := if 32 ≤ l.length then l.drop 32 else l
/-- An id's first k bytes, noughts behind them. -/
def part (x : Idn) (k : Nat) : Idn := ⟨(List.range 32).map fun i => if i < k then x.val.getD i 0 else 0, by simp, by
  intro y hy
  simp only [List.mem_map] at hy
  obtain ⟨i, _, rfl⟩ := hy
  have := Idn_at_range x i
  split <;> omega⟩
theorem part_at (x : Idn) (k i : Nat) (hi : i < 32) : (part x k).1.getD i 0 = if i < k then x.1.getD i 0 else 0 := by
  simp [part, List.getD_eq_getElem?_getD, hi]
theorem part_none (x : Idn) : part x 0 = nought := Idn_ext_at fun i hi => by
  rw [part_at x 0 i hi, if_neg (by omega)]
  have e : nought.1 = List.replicate 32 0 := rfl
  rw [e, List.getD_eq_getElem?_getD, List.getElem?_replicate, if_pos hi]
  rfl
theorem part_all (x : Idn) : part x 32 = x := Idn_ext_at fun i hi => by rw [part_at x 32 i hi, if_pos hi]
theorem part_step (x : Idn) (k : Nat) (hk : k < 32) : (cs (part x k)).setIfInBounds k (.int .u8 (x.1.getD k 0)) = cs (part x (k + 1)) := by
  apply Array.ext_getElem?
  intro i
  rw [Array.getElem?_setIfInBounds]
  by_cases hi : i < 32
  · have q := cs_at (part x (k + 1)) i hi
    rw [part_at _ _ i hi] at q
    rw [q]
    by_cases hik : k = i
    · subst hik
      rw [if_pos rfl, if_pos (by rw [cs_size]; exact hi), if_pos (by omega)]
    · rw [if_neg hik, cs_at _ i hi, part_at _ _ i hi]
      by_cases h2 : i < k
      · rw [if_pos h2, if_pos (by omega)]
      · rw [if_neg h2, if_neg (by omega)]
  · have e1 : (cs (part x k))[i]? = none := Array.getElem?_eq_none (by rw [cs_size]; omega)
    have e2 : (cs (part x (k + 1)))[i]? = none := Array.getElem?_eq_none (by rw [cs_size]; omega)
    rw [e1, e2]
    by_cases hik : k = i
    · omega
    · rw [if_neg hik]
theorem Turned.far {g : Nat} {w w' w2 : World} (T : Turned g w w') (hb : Below w.heap.size w' w2) (hg : g ≤ w.heap.size) : Turned g w w2 :=
  ⟨⟨by rw [hb.os, T.grown.os], by rw [hb.tape, T.grown.tape], by rw [hb.output, T.grown.output], Nat.le_trans T.grown.size hb.size, fun k hk hne => (hb.block k hk).trans (T.grown.block k hk hne)⟩, fun B hB => (T.below B hB).trans (hb.mono (Nat.le_trans hB hg))⟩
theorem results_id {fn : Func} {p : Tmp} (h : fn.results = #[.cell p 43]) (tmps : Array Value) (w : World) (g : Nat) (x : Idn)
    (hp : tmps.getD p undef = .pointer (some ⟨g, 0, none⟩)) (hg : Box w g x) : (results fn tmps).run Tryd.prog w = .ok (.agg (cs x)) w := by
  obtain ⟨t, ht⟩ := hg
  have hp' : tmps[p]?.getD undef = .pointer (some ⟨g, 0, none⟩) := by simpa using hp
  simp [results, h, hp', asAddr, run_loadVar_row w g t 43 (cs x) (0, 0) _ ht Tryd.underlying43 rfl (info_cs x)]
theorem box_far {w w' : World} {g b : Nat} {x : Idn} (h : Box w b x) (hg : w.grownBy w' (some g)) (hne : b ≠ g) : Box w' b x := by
  obtain ⟨t, ht⟩ := h
  exact ⟨t, (hg.block _ (Array.getElem?_eq_some_iff.1 ht).1 (fun e => hne (by injection e))).trans ht⟩
end Go.Proofs.YtechkdhehipliaaDoor.CmD
namespace Go.Proofs.YtechkdhehipliaaDoor.StR
set_option maxRecDepth 100000
open Go Go.RowKit Byt StM StW

end Go.Proofs.YtechkdhehipliaaDoor.StR
namespace Go.Proofs.YtechkdhehipliaaDoor.OpsR
set_option maxRecDepth 100000
open Go Go.RowKit Byt OpsM OpsK

end Go.Proofs.YtechkdhehipliaaDoor.OpsR
namespace Go.Proofs.YtechkdhehipliaaDoor.OpsR
set_option maxRecDepth 100000
open Go Go.RowKit Go.Sort Byt OpsM OpsK OpsW OpsC

end Go.Proofs.YtechkdhehipliaaDoor.OpsR
namespace Go.Proofs.YtechkdhehipliaaDoor.IdC
set_option maxRecDepth 100000
open Go Go.Sort Go.RowKit IdM Byt IdW

set_option maxHeartbeats 1000000 in
theorem less_ret (x y : Idn) (w : World) : Calls Tryd.prog 38 #[.agg (cs x), .agg (cs y)] w fun e w' => e = .returned (.bool (less x y)) ∧ Grew w w' := by
  have s1 := cs_size x
  have s2 := cs_size y
  have B1 : Box ((w.alloc (.cells (cs x) 43)).alloc (.cells (cs y) 43)) w.heap.size x := (Box.new w x _).alloc _
  have B2 : Box ((w.alloc (.cells (cs x) 43)).alloc (.cells (cs y) 43)) (w.heap.size + 1) y := by
    have := Box.new (w.alloc (.cells (cs x) 43)) y 43
    simpa using this
  have G : Grew w ((w.alloc (.cells (cs x) 43)).alloc (.cells (cs y) 43)) := ((Grew.refl w).alloc _).alloc _
  obtain ⟨r, hr0⟩ : ∃ r, less x y = r := ⟨_, rfl⟩
  rw [hr0]
  have hr := aside hr0
  clear hr0
  go_enter Tryd.func38, Tryd.ntmps38
  go_wp2_with fail
  go_loopw [6] (fun i wr => ∃ k : Nat, k ≤ 32 ∧ i = .int .i64 k ∧ Hid (∀ j, j < k → x.1.getD j 0 = y.1.getD j 0) ∧ Box wr w.heap.size x ∧ Box wr (w.heap.size + 1) y ∧ Grew w wr) (fun i _ => 32 - (intOf i).toNat)
  case atStart => exact ⟨0, Nat.zero_le _, rfl, aside (fun j hj => absurd hj (Nat.not_lt_zero j)), B1, B2, G⟩
  case round =>
    clear B1 B2 G
    obtain ⟨k, hk, rfl, he, B1, B2, G⟩ := hrel
    by_cases hlt : k < 32
    · have c1 := B1.cell k hlt
      have c2 := B2.cell k hlt
      obtain ⟨a, ha⟩ : ∃ a, x.1.getD k 0 = a := ⟨_, rfl⟩
      obtain ⟨b, hb⟩ : ∃ b, y.1.getD k 0 = b := ⟨_, rfl⟩
      rw [ha] at c1
      rw [hb] at c2
      have HA := aside ha
      have HB := aside hb
      clear ha hb
      have p0 : (k : Int) < 32 := by omega
      have o0 : 0 ≤ (k : Int) := by omega
      have m0 : ((k : Int)).toNat = k := by omega
      by_cases hab : a = b
      · subst hab
        go_wp2
        go_quiet (fail)
        go_wp2
        go_roundw
        case rel =>
          refine ⟨k + 1, by omega, by go_num, aside (fun j hj => ?_), B1.drewN _, B2.drewN _, G.drewN _⟩
          by_cases hjk : j = k
          · subst hjk
            rw [HA.out, HB.out]
          · exact he.out j (by omega)
        case measure => simp [intOf]; omega
      · have hne : (a != b) = true := by simpa using hab
        have hl : less x y = decide (a < b) := by
          rw [less_at k hlt he.out (by rw [HA.out, HB.out]; exact hab), HA.out, HB.out]
        rw [hr.out] at hl
        go_wp2
        go_quiet (fail)
        go_wp2
        go_quiet (fail)
        go_wp2
        go_ret
        exact ⟨by rw [hl]; rfl, (G.drewN _).drewN _⟩
    · have hk' : k = 32 := by omega
      have hxy : x = y := Idn_ext_at (fun i hi => he.out i (by omega))
      have hl : less x y = false := by rw [hxy]; exact less_irrefl _
      rw [hr.out] at hl
      go_wp2
      go_ret
      exact ⟨by rw [hl]; rfl, G⟩


set_option maxHeartbeats 1000000 in
theorem order_ret (x y : Idn) (w : World) : Calls Tryd.prog 41 #[.agg (cs x), .agg (cs y)] w fun e w' => e = .returned (.int .i64 (cf x y)) ∧ Grew w w' := by
  have B1 : Box ((w.alloc (.cells (cs x) 43)).alloc (.cells (cs y) 43)) w.heap.size x := (Box.new w x _).alloc _
  have B2 : Box ((w.alloc (.cells (cs x) 43)).alloc (.cells (cs y) 43)) (w.heap.size + 1) y := by
    have := Box.new (w.alloc (.cells (cs x) 43)) y 43
    simpa using this
  have G : Grew w ((w.alloc (.cells (cs x) 43)).alloc (.cells (cs y) 43)) := ((Grew.refl w).alloc _).alloc _
  have heq := fun W => equal W 9998 x y
  by_cases hxy : x = y
  · subst hxy
    have hc : cf x x = 0 := by simp [cf]
    simp only [decide_true] at heq
    rw [hc]
    go_enter Tryd.func41, Tryd.ntmps41
    go_wp2_with (first | (refine wpList_load_box rfl _ rfl _ rfl _ B1 ?_) | (refine wpList_load_box rfl _ rfl _ rfl _ B2 ?_))
    go_ret
    exact ⟨rfl, G⟩
  · simp only [hxy, decide_false] at heq
    cases hl : less x y with
    | true =>
      have hc : cf x y = -1 := by simp [cf, hxy, hl]
      rw [hc]
      go_enter Tryd.func41, Tryd.ntmps41
      go_wp2_with (first | (refine wpList_load_box rfl _ rfl _ rfl _ B1 ?_) | (refine wpList_load_box rfl _ rfl _ rfl _ B2 ?_))
      refine (less_ret x y _).mono ?_
      rintro e w1 ⟨rfl, h1⟩
      rw [hl]
      go_wp2
      go_ret
      exact ⟨rfl, G.trans h1⟩
    | false =>
      have hc : cf x y = 1 := by simp [cf, hxy, hl]
      rw [hc]
      go_enter Tryd.func41, Tryd.ntmps41
      go_wp2_with (first | (refine wpList_load_box rfl _ rfl _ rfl _ B1 ?_) | (refine wpList_load_box rfl _ rfl _ rfl _ B2 ?_))
      refine (less_ret x y _).mono ?_
      rintro e w1 ⟨rfl, h1⟩
      rw [hl]
      go_wp2
      go_ret
      exact ⟨rfl, G.trans h1⟩
end Go.Proofs.YtechkdhehipliaaDoor.IdC
