/- One id in a box: stored, built, handed back beside a value. No condition. | What the document's Hash of package commit returns: a contract. | What the document's Put and Hash of package commit answer, in the form in which both are told. No condition. | What the document's answer's Get of package enc returns: a contract. | The document's reader of package commit: in memory, and what its Num and ID return: contracts. -/
import Derived.Test.YteojkfbnenfmkaaGreatDoorIdBJ5
import Derived.Test.YteojkfbnenfmkaaGreatDoorCmP
import Derived.Test.YteojkfbnenfmkaaGreatDoorCmXJ8
import Derived.Test.YteojkfbnenfmkaaGreatDoorRefEJ2
import Derived.Test.YteojkfbnenfmkaaGreatDoorEncMJ6
import Derived.Test.YteojkfbnenfmkaaGreatDoorRowFJ7
namespace Go.Proofs.YteojkfbnenfmkaaGreatDoor.IdJ
set_option maxRecDepth 100000
open Go Go.RowKit IdM Byt IdW IdB

theorem Box.put {w : World} {g : Nat} {x y : Idn} (h : Box w g x) (i : Nat) (v : Value) (e : (cs x).setIfInBounds i v = cs y) : Box (w.setCell ⟨g, i, none⟩ v) g y := by
  obtain ⟨t, ht⟩ := h
  exact ⟨t, by rw [heap_setCell_same w g i (cs x) t v ht, e]⟩
theorem Box.row {w : World} {g : Nat} {x : Idn} (h : Box w g x) (y : Idn) : Box (w.setRow g (cs y)) g y := by
  obtain ⟨t, ht⟩ := h
  exact ⟨t, setRow_heap w g (cs x) (cs y) t (0, 0) ht⟩
theorem below_row {B g : Nat} {w0 w : World} (hb : Below B w0 w) (hg : B ≤ g) (c : Array Value) : Below B w0 (w.setRow g c) :=
  hb.trans ⟨rfl, rfl, rfl, by simp [World.setRow], fun k hk => setRow_other w g k c (by omega)⟩
/-- An id stored into a box. -/
theorem wpList_store_box {ops : Array Oper} {rest : List Oper} {o : Oper} {a : Act} {w : World} {Q : Exit → Act → World → Prop} (hgd : o.guard = none) (x y : Operand) (ho : o.op = .store 43 x y)
    (g : Nat) (hx : a.eval x = .pointer (some ⟨g, 0, none⟩)) (old z : Idn) (hb : Box w g old) (hy : a.eval y = .agg (cs z))
    (h : wpList Tryz.prog ops Q rest (a.put o.dst undef) (w.setRow g (cs z))) : wpList Tryz.prog ops Q (o :: rest) a w := by
  obtain ⟨t, ht⟩ := hb
  exact wpList_store_row hgd 43 x y ho g (cs z) hx hy t (cs old) ht (info_cs z) (by rw [cs_size, cs_size]) (cs_one z) h
theorem build0 (w : World) : (Instr.build 43 #[]).run Tryz.prog w = .ok (.agg (cs nought)) w := Go.run_build w 43 _ _ (by kernel_rfl)
theorem wpList_build0 {ops : Array Oper} {rest : List Oper} {o : Oper} {a : Act} {w : World} {Q : Exit → Act → World → Prop} (hgd : o.guard = none) (ho : o.op = .build 43 #[])
    (h : wpList Tryz.prog ops Q rest (a.put o.dst (.agg (cs nought))) w) : wpList Tryz.prog ops Q (o :: rest) a w := by
  refine wpList_plain hgd fun K hK => ?_
  unfold Oper.wp execOp
  simp only [ho, List.map_toArray, List.map_nil, Sem.run_bind, build0, Result.andThen_ok, Sem.run_pure]
  exact hK _ _ h
theorem wpList_alloc_id {ops : Array Oper} {rest : List Oper} {o : Oper} {a : Act} {w : World} {Q : Exit → Act → World → Prop} (hgd : o.guard = none) (ho : o.op = .alloc 43)
    (h : wpList Tryz.prog ops Q rest (a.put o.dst (.pointer (some ⟨w.heap.size, 0, none⟩))) (w.alloc (.cells (cs nought) 43))) : wpList Tryz.prog ops Q (o :: rest) a w := by
  refine wpList_plain hgd fun K hK => ?_
  have zv := zero_v w
  unfold Oper.wp execOp
  simp only [ho, Instr.alloc, newVar, newRow, Sem.run_bind, zv, Result.andThen_ok, Sem.run_pure, Value.cells]
  exact hK _ _ h
theorem results_box {fn : Func} {p q : Tmp} (h : fn.results = #[.cell p 43, .tmp q]) (tmps : Array Value) (w : World) (g : Nat) (x : Idn) (v : Value)
    (hp : tmps.getD p undef = .pointer (some ⟨g, 0, none⟩)) (hq : tmps.getD q undef = v) (hg : Box w g x) : (results fn tmps).run Tryz.prog w = .ok (.tuple #[.agg (cs x), v]) w := by
  obtain ⟨t, ht⟩ := hg
  have hp' : tmps[p]?.getD undef = .pointer (some ⟨g, 0, none⟩) := by simpa using hp
  have hq' : tmps[q]?.getD undef = v := by simpa using hq
  simp [results, h, hp', hq', asAddr, run_loadVar_row w g t 43 (cs x) (0, 0) _ ht Tryz.underlying43 rfl (info_cs x)]
end Go.Proofs.YteojkfbnenfmkaaGreatDoor.IdJ
namespace Go.Proofs.YteojkfbnenfmkaaGreatDoor.CmH
set_option maxRecDepth 100000
open Go Go.RowKit Byt IdM IdW OpsM OpsW CmM StW CmW CmR CmP CmY

/-- The id, or none, and an error's number, are handed back. -/
def Out (c : Com) (w : World) (e : Ending) (w' : World) : Prop :=
  e = .returned (.tuple #[.agg (cs (if mayK c = true then hashK c else nought)), .int .i64 (if mayK c = true then 0 else 1)]) ∧ Below w.heap.size w w'
set_option maxRecDepth 100000 in
set_option maxHeartbeats 8000000 in
theorem hash_no (v : Cv) (w : World) (S : In w v) (ho : Okay v.c) (hm : mayK v.c = false) : Calls Tryz.prog 35 #[.agg (cc v)] w (Out v.c w) := by
  have R0 : Cel.Box CE ((w.alloc (.cells (cc v) 29)).alloc (.cells (cs nought) 43)) w.heap.size v := (Cel.Box.new (E := CE) w v 29).alloc _
  have G0 : IdW.Box ((w.alloc (.cells (cc v) 29)).alloc (.cells (cs nought) 43)) (w.heap.size + 1) nought := by
    have z : (w.alloc (.cells (cc v) 29)).heap.size = w.heap.size + 1 := by simp
    rw [← z]
    exact IdW.Box.new _ nought _
  have k0 : Below w.heap.size w ((w.alloc (.cells (cc v) 29)).alloc (.cells (cs nought) 43)) := ((Below.refl _ _).alloc (Nat.le_refl _) _).alloc (by simp) _
  have S0 := S.below k0
  have cp := fun W T => CmP.put_no v W T ho hm
  have HQ : Hid (mayK v.c = false) := aside hm
  clear S ho hm
  go_enter Tryz.func35, Tryz.ntmps35
  go_wp2_with (first | go_skip | (refine IdJ.wpList_alloc_id rfl rfl ?_) | (refine Cel.wpList_load_box CE rfl _ rfl _ rfl v R0 ?_))
  refine (cp _ S0).mono ?_
  rintro e w1 ⟨rfl, k1⟩
  have G1 := G0.below k1 G0.lt
  have b1 := k0.trans (k1.mono k0.size)
  clear cp R0 G0 k0 S0 k1
  go_wp2_with (first | go_skip | (refine IdJ.wpList_build0 rfl rfl ?_) | (refine IdJ.wpList_store_box rfl _ _ rfl (w.heap.size + 1) rfl nought nought G1 rfl ?_))
  exact bodyPost_ret (v := .tuple #[.agg (cs nought), .int .i64 1]) (IdJ.results_box Tryz.results35 _ _ (w.heap.size + 1) nought _ rfl rfl (IdJ.Box.row G1 nought)) rfl ⟨by rw [HQ.out]; rfl, IdJ.below_row b1 (by omega) _⟩
set_option maxRecDepth 100000 in
set_option maxHeartbeats 8000000 in
theorem hash_yes (v : Cv) (w : World) (S : In w v) (ho : Okay v.c) (hm : mayK v.c = true) : Calls Tryz.prog 35 #[.agg (cc v)] w (Out v.c w) := by
  have R0 : Cel.Box CE ((w.alloc (.cells (cc v) 29)).alloc (.cells (cs nought) 43)) w.heap.size v := (Cel.Box.new (E := CE) w v 29).alloc _
  have G0 : IdW.Box ((w.alloc (.cells (cc v) 29)).alloc (.cells (cs nought) 43)) (w.heap.size + 1) nought := by
    have z : (w.alloc (.cells (cc v) 29)).heap.size = w.heap.size + 1 := by simp
    rw [← z]
    exact IdW.Box.new _ nought _
  have k0 : Below w.heap.size w ((w.alloc (.cells (cc v) 29)).alloc (.cells (cs nought) 43)) := ((Below.refl _ _).alloc (Nat.le_refl _) _).alloc (by simp) _
  have S0 := S.below k0
  have cp := fun W T => CmP.put_yes v W T ho hm
  have HQ : Hid (mayK v.c = true) := aside hm
  have hl := putK_len hm
  clear S ho hm
  go_enter Tryz.func35, Tryz.ntmps35
  go_wp2_with (first | go_skip | (refine IdJ.wpList_alloc_id rfl rfl ?_) | (refine Cel.wpList_load_box CE rfl _ rfl _ rfl v R0 ?_))
  refine (cp _ S0).mono ?_
  rintro _ w1 ⟨pv, rfl, own, k1⟩
  obtain ⟨A1, c1, rfl, S1⟩ := Sl.own own (putK_B _)
  have G1 := G0.below k1 G0.lt
  have b1 := k0.trans (k1.mono k0.size)
  clear cp R0 G0 k0 S0 k1 own
  obtain ⟨n, hn⟩ : ∃ n, (putK v.c).length = n := ⟨_, rfl⟩
  have cs := CmS.dsum S1 rfl (by omega)
  rw [hn] at cs
  rw [hn]
  clear hl hn
  go_wp2_with (first | go_skip | (refine IdJ.wpList_build0 rfl rfl ?_))
  refine cs.mono ?_
  rintro _ w2 ⟨rfl, k2⟩
  have G2 := G1.below k2 G1.lt
  have b2 := b1.trans (k2.mono b1.size)
  clear cs k2 b1 G1
  go_wp2_with (first | go_skip | (refine IdJ.wpList_store_box rfl _ _ rfl (w.heap.size + 1) rfl nought (hashK v.c) G2 rfl ?_))
  exact bodyPost_ret (v := .tuple #[.agg (IdW.cs (hashK v.c)), .int .i64 0]) (IdJ.results_box Tryz.results35 _ _ (w.heap.size + 1) (hashK v.c) _ rfl rfl (IdJ.Box.row G2 (hashK v.c))) rfl ⟨by rw [HQ.out]; rfl, IdJ.below_row b2 (by omega) _⟩
theorem hash_ret (v : Cv) (w : World) (S : In w v) (ho : Okay v.c) : Calls Tryz.prog 35 #[.agg (cc v)] w (Out v.c w) := by
  cases hm : mayK v.c with
  | false => exact hash_no v w S ho hm
  | true => exact hash_yes v w S ho hm
end Go.Proofs.YteojkfbnenfmkaaGreatDoor.CmH
namespace Go.Proofs.YteojkfbnenfmkaaGreatDoor.CmY
set_option maxRecDepth 100000
open Go Go.Sort Go.RowKit Byt IdM IdW OpsM OpsW CmM StW CmW

theorem hash_doc (v : Cv) (w : World) (S : In w v) (ho : CmR.Okay v.c) : Calls Tryz.prog 35 #[.agg (cc v)] w (HashOut v.c w) := CmH.hash_ret v w S ho
end Go.Proofs.YteojkfbnenfmkaaGreatDoor.CmY
namespace Go.Proofs.YteojkfbnenfmkaaGreatDoor.RefF
set_option maxRecDepth 100000
open Go.RowKit Byt BytR EncM EncC RefE


end Go.Proofs.YteojkfbnenfmkaaGreatDoor.RefF
namespace Go.Proofs.YteojkfbnenfmkaaGreatDoor.CmD
set_option maxRecDepth 100000
open Go Go.Sort Go.RowKit Byt EncM EncC IdM IdW IdB OpsM CmM StW CmW

/-- A byte. -/
def isU8 : Value → Bool
  | .int .u8 _ => true
  | _ => false
/-- No cell of a block is a byte. -/
def NoU8 (w : World) (g : Nat) : Prop := ∀ j v, w.cell? ⟨g, j, none⟩ = some v → isU8 v = false
theorem far_cell {w w' : World} {g : Nat} {x : Addr} {n : Int} (h : w.cell? x = some (.int .u8 n)) (hn : NoU8 w g) (hg : w.grownBy w' (some g)) : w'.cell? x = some (.int .u8 n) := by
  have hlt := block_lt_of_cell h
  have hne : some x.block ≠ some g := by
    intro e
    injection e with e
    have hs := World.cell?_spot h
    have : x = ⟨g, x.off, none⟩ := by
      cases x with
      | mk b o s =>
        simp only at e hs
        rw [e, hs]
    rw [this] at h
    have := hn _ _ h
    cases this
  unfold World.cell? at h ⊢
  rw [hg.block _ hlt hne]
  exact h
theorem sli_far {w w' : World} {g cap : Nat} {A : Option Addr} {l : List Idn} (h : SlI w A cap l) (hn : NoU8 w g) (hg : w.grownBy w' (some g)) : SlI w' A cap l := by
  obtain ⟨h1, h2, h5⟩ := h
  refine ⟨h1, h2, ?_⟩
  rcases h5 with h5 | ⟨x, rfl, hc⟩
  · exact .inl h5
  · exact .inr ⟨x, rfl, fun i hi => far_cell (hc i hi) hn hg⟩
theorem no_cm {w : World} {g : Nat} {c : Cv} (h : Cel.Box CE w g c) : NoU8 w g := by
  intro j v hv
  obtain ⟨t, ht⟩ := h
  rw [cell_of_row w g j _ t (0, 0) ht, List.getElem?_toArray] at hv
  match j, hv with
  | 0, hv => simp [CE] at hv; rw [← hv]; rfl
  | 1, hv => simp [CE] at hv; rw [← hv]; rfl
  | 2, hv => simp [CE] at hv; rw [← hv]; rfl
  | 3, hv => simp [CE] at hv; rw [← hv]; rfl
  | 4, hv => simp [CE] at hv; rw [← hv]; rfl
  | 5, hv => simp [CE] at hv; rw [← hv]; rfl
  | 6, hv => simp [CE] at hv; rw [← hv]; rfl
  | 7, hv => simp [CE] at hv; rw [← hv]; rfl
  | j + 8, hv => simp [CE] at hv
/-- What a turn of the reader leaves: its block alone is another one. -/
structure Turned (g : Nat) (w w' : World) : Prop where
  grown : w.grownBy w' (some g)
  below : ∀ B, B ≤ g → Below B w w'
theorem Turned.trans {g : Nat} {w w1 w2 : World} (h : Turned g w w1) (k : Turned g w1 w2) : Turned g w w2 := ⟨h.grown.trans k.grown, fun B hB => (h.below B hB).trans (k.below B hB)⟩
end Go.Proofs.YteojkfbnenfmkaaGreatDoor.CmD
