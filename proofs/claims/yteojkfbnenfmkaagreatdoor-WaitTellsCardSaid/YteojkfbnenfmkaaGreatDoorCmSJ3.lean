/- Sums of bytes as ids: what the project's Sum, and the document's, return. No condition. | What ops.sign and ops.Key return: contracts. | Operations, and tables of functions by kinds, in memory: what a walk reads and makes. No condition. -/
import Derived.Test.YteojkfbnenfmkaaGreatDoorShaH
import Derived.Test.YteojkfbnenfmkaaGreatDoorRefW
import Derived.Test.YteojkfbnenfmkaaGreatDoorArrEqJ2
import Derived.Test.YteojkfbnenfmkaaGreatDoorGrowJ5
import Derived.Test.YteojkfbnenfmkaaGreatDoorRowInJ3
import Derived.Maps.OwnOps
import Derived.Deep.MidRow
import Derived.Deep.WholeRow
import Derived.Laws.Tables
import Derived.OpenShut
namespace Go.Proofs.YteojkfbnenfmkaaGreatDoor.CmS
set_option maxRecDepth 100000
open Go Go.RowKit IdM IdW Byt

theorem four_B (a : Int) (h : 0 ≤ a ∧ a ≤ 4294967295) : ∀ x ∈ PadM.four8 a, 0 ≤ x ∧ x ≤ 255 := by
  intro x hx
  simp only [PadM.four8, List.mem_cons, List.not_mem_nil, or_false] at hx
  rcases hx with rfl | rfl | rfl | rfl <;> omega
theorem sum_B (l : List Int) : ∀ x ∈ ShaH.sumL l, 0 ≤ x ∧ x ≤ 255 := by
  intro x hx
  unfold ShaH.sumL ShaG.idL at hx
  rw [List.mem_flatMap] at hx
  obtain ⟨i, _, hi⟩ := hx
  exact four_B _ (RotM.u_range _) x hi
/-- The id that bytes have. -/
def sumI (l : List Int) : Idn := ⟨ShaH.sumL l, ShaH.sumL_length l, sum_B l⟩
theorem rowL_of {w : World} {A : Option Addr} {cap : Nat} {l : List Int} (h : Sl w A cap l) : RowIn.RowL .u8 w A l.length cap l := by
  obtain ⟨h1, h2, h3, h4⟩ := h
  refine ⟨h1, h2, ⟨Nat.le_refl _, h1⟩, fun x hx => ?_, ?_⟩
  · have := h3 x hx
    simpa [B, Lit.wf, IntKind.min, IntKind.max, IntKind.bits, IntKind.signed] using this
  · rcases h4 with ⟨r1, r2, r3⟩ | ⟨x, r1, r2⟩
    · exact .inl ⟨r1, by rw [r2]; rfl, r3⟩
    · exact .inr ⟨x, r1, r2⟩
theorem psum {w : World} {A : Option Addr} {cap len : Nat} {l : List Int} (h : Sl w A cap l) (hl : l.length = len) (hm : len ≤ 1099511627776) (hK : ShaE.KIn w) :
    Calls Tryz.prog 38 #[.slice A len cap] w fun e w' => e = .returned (.agg (cs (sumI l))) ∧ Below w.heap.size w w' := by
  subst hl
  have := ShaH.sumW (rowL_of h) hm hK
  rw [List.take_of_length_le (Nat.le_refl _)] at this
  exact this
theorem dsum {w : World} {A : Option Addr} {cap len : Nat} {l : List Int} (h : Sl w A cap l) (hl : l.length = len) (hm : len ≤ 1099511627776) :
    Calls Tryz.prog 55 #[.slice A len cap] w fun e w' => e = .returned (.agg (cs (sumI l))) ∧ Below w.heap.size w w' := by
  subst hl
  have := RefW.sumW (rowL_of h) hm
  rw [List.take_of_length_le (Nat.le_refl _)] at this
  exact this
end Go.Proofs.YteojkfbnenfmkaaGreatDoor.CmS
namespace Go.Proofs.YteojkfbnenfmkaaGreatDoor.OpsK
set_option maxRecDepth 100000
open Go.RowKit Byt OpsM

theorem ret_bool {a b : Bool} (h : a = b) : Ending.returned (.bool a) = .returned (.bool b) := by rw [h]
theorem parts {x : Int} (_h : B x) : (x ≤ 47 ∧ signB x = false) ∨ (48 ≤ x ∧ x ≤ 57 ∧ signB x = true) ∨ (58 ≤ x ∧ x ≤ 96 ∧ signB x = false) ∨ (97 ≤ x ∧ x ≤ 122 ∧ signB x = true) ∨ (123 ≤ x ∧ signB x = false) := by
  have hb : signB x = true ↔ (97 ≤ x ∧ x ≤ 122) ∨ (48 ≤ x ∧ x ≤ 57) := by
    unfold signB
    simp only [Bool.or_eq_true, Bool.and_eq_true, decide_eq_true_eq]
  have hf : signB x = false ↔ ¬ ((97 ≤ x ∧ x ≤ 122) ∨ (48 ≤ x ∧ x ≤ 57)) := by
    rw [← hb]
    simp
  rw [hb, hf]
  omega
theorem sign (x : Int) (hx : B x) (w : World) :
    Calls Tryz.prog 88 #[.int .u8 x] w fun e w' => e = .returned (.bool (signB x)) ∧ w = w' := by
  have hB := hx
  unfold B at hB
  obtain ⟨b0, b1⟩ := hB
  rcases parts hx with ⟨h1, hs⟩ | ⟨h1, h2, hs⟩ | ⟨h1, h2, hs⟩ | ⟨h1, h2, hs⟩ | ⟨h1, hs⟩
  all_goals
    have HS := aside hs
    clear hs
    go_enter Tryz.func88, Tryz.ntmps88
    go_wp2
    go_ret
    refine ⟨ret_bool ?_, rfl⟩
    rw [HS.out]
    try (simp; try omega)

theorem all_take (l : List Int) (k : Nat) (h : k < l.length) : (l.take (k + 1)).all signB = ((l.take k).all signB && signB (l.getD k 0)) := by
  rw [List.take_add_one, List.all_append, List.getElem?_eq_getElem h, List.getD_eq_getElem?_getD, List.getElem?_eq_getElem h]
  simp
theorem keyL_all {l : List Int} (h : 1 ≤ l.length ∧ l.length ≤ 8) (ha : l.all signB = true) : keyL l = true := by
  unfold keyL
  simp [h.1, h.2, ha]
theorem all_false {l : List Int} {k : Nat} (h : k < l.length) (hs : signB (l.getD k 0) = false) : l.all signB = false := by
  rw [List.all_eq_false]
  refine ⟨l[k], List.getElem_mem h, ?_⟩
  rw [List.getD_eq_getElem?_getD, List.getElem?_eq_getElem h] at hs
  simpa using hs
theorem keyL_no {l : List Int} {k : Nat} (h : k < l.length) (hs : signB (l.getD k 0) = false) : keyL l = false := by
  unfold keyL
  rw [all_false h hs]
  simp
theorem keyL_out {l : List Int} (h : ¬ (1 ≤ l.length ∧ l.length ≤ 8)) : keyL l = false := by
  unfold keyL
  rw [Bool.and_eq_false_iff]
  left
  rw [Bool.and_eq_false_iff, decide_eq_false_iff_not, decide_eq_false_iff_not]
  omega
theorem byte_at (s : ByteArray) (k : Nat) (h : k < s.size) : (bytesL s).getD k 0 = (s[k].toNat : Int) := by
  unfold bytesL
  have h1 : k < s.data.toList.length := by simpa using h
  rw [List.getD_eq_getElem?_getD, List.getElem?_map, List.getElem?_eq_getElem h1]
  rfl

set_option maxHeartbeats 1000000 in
theorem key (s : ByteArray) (hs : s.size ≤ maxLen) (w : World) :
    Calls Tryz.prog 65 #[.string s] w fun e w' => e = .returned (.bool (keyL (bytesL s))) ∧ w = w' := by
  unfold maxLen at hs
  have hl := bytesL_length s
  by_cases h1 : s.size < 1
  · have HR := aside (keyL_out (l := bytesL s) (by omega))
    clear hl
    go_enter Tryz.func65, Tryz.ntmps65
    go_wp2
    go_ret
    exact ⟨ret_bool HR.out.symm, rfl⟩
  · by_cases h8 : 8 < s.size
    · have HR := aside (keyL_out (l := bytesL s) (by omega))
      clear hl
      go_enter Tryz.func65, Tryz.ntmps65
      go_wp2
      go_ret
      exact ⟨ret_bool HR.out.symm, rfl⟩
    · have HL := aside hl
      clear hl
      go_enter Tryz.func65, Tryz.ntmps65
      go_wp2
      go_loop [14] (fun i => ∃ k : Nat, k ≤ s.size ∧ i = .int .i64 k ∧ Hid (((bytesL s).take k).all signB = true)) (fun i => s.size - (intOf i).toNat)
      case atStart => exact ⟨0, Nat.zero_le _, rfl, aside (by simp)⟩
      case round =>
        obtain ⟨k, hk, rfl, HA⟩ := hrel
        by_cases hlt : k < s.size
        · have hb := byte_at s k hlt
          have hB : B (s[k].toNat : Int) := by have := s[k].toNat_lt; unfold B; omega
          have hsg := sign (s[k].toNat : Int) hB
          cases hs : signB (s[k].toNat : Int) with
          | true =>
            rw [hs] at hsg
            have HS : Hid (signB ((bytesL s).getD k 0) = true) := aside (by rw [hb, hs])
            clear hb hs hB
            go_wp2_with (first | (refine (hsg _).mono ?_; rintro e w' ⟨rfl, rfl⟩))
            go_round
            case rel => exact ⟨k + 1, by omega, by go_num, aside (by rw [all_take _ _ (by rw [HL.out]; exact hlt), HA.out, HS.out]; rfl)⟩
            case measure => simp [intOf]; omega
          | false =>
            rw [hs] at hsg
            have HS : Hid (signB ((bytesL s).getD k 0) = false) := aside (by rw [hb, hs])
            clear hb hs hB
            go_wp2_with (first | (refine (hsg _).mono ?_; rintro e w' ⟨rfl, rfl⟩))
            go_ret
            exact ⟨ret_bool (keyL_no (by rw [HL.out]; exact hlt) HS.out).symm, rfl⟩
        · go_wp2
          go_ret
          refine ⟨ret_bool (keyL_all (by rw [HL.out]; omega) ?_).symm, rfl⟩
          have := HA.out
          rwa [List.take_of_length_le (by rw [HL.out]; omega)] at this
end Go.Proofs.YteojkfbnenfmkaaGreatDoor.OpsK
namespace Go.Proofs.YteojkfbnenfmkaaGreatDoor.OpsW
set_option maxRecDepth 100000
open Go Go.Sort Go.RowKit Go.Maps Go.ChangeMaps Byt OpsM

/-- An operation's cells. -/
def opc (o : Opn) : Array Value := #[.int .i64 o.kind, .string o.key, .string o.elem, .int .i64 o.n]
theorem info_op : (Tryz.prog.info? 27).map (·.size) = some 4 := by kernel_rfl
theorem info_opl (o : Opn) : (Tryz.prog.info? 27).map (·.size) = some (opc o).toList.length := info_op
/-- A block that holds one operation. -/
def OpAt (w : World) (g : Nat) (o : Opn) : Prop := ∃ t, w.heap[g]? = some (.cells (opc o) t (0, 0))
theorem OpAt.lt {w : World} {g : Nat} {o : Opn} (h : OpAt w g o) : g < w.heap.size := by
  obtain ⟨t, ht⟩ := h
  exact (Array.getElem?_eq_some_iff.1 ht).1
theorem OpAt.block {w w' : World} {g B : Nat} {o : Opn} (h : OpAt w g o) (hb : Below B w w') (hg : g < B) : OpAt w' g o := by
  obtain ⟨t, ht⟩ := h
  exact ⟨t, by rw [hb.block g hg, ht]⟩
theorem OpAt.below {w w' : World} {g : Nat} {o : Opn} (h : OpAt w g o) (hb : Below w.heap.size w w') : OpAt w' g o := h.block hb h.lt
theorem OpAt.new (w : World) (o : Opn) (t : TypeId) : OpAt (w.alloc (.cells (opc o) t)) w.heap.size o := ⟨t, heap_alloc_new w _⟩
theorem OpAt.alloc {w : World} {g : Nat} {o : Opn} (h : OpAt w g o) (x : Obj) : OpAt (w.alloc x) g o := h.below ((Below.refl _ _).alloc (Nat.le_refl _) _)
theorem OpAt.range {w : World} {g : Nat} {o : Opn} (h : OpAt w g o) : w.rangeAt g 0 (opc o).toList := fun j v hv => by
  obtain ⟨t, ht⟩ := h
  rw [Nat.zero_add, cell_of_row w g j _ t (0, 0) ht]
  rw [Array.getElem?_toList] at hv
  exact hv
theorem OpAt.kind {w : World} {g : Nat} {o : Opn} (h : OpAt w g o) : w.cell? ⟨g, 0, none⟩ = some (.int .i64 o.kind) := h.range 0 _ rfl
theorem OpAt.key {w : World} {g : Nat} {o : Opn} (h : OpAt w g o) : w.cell? ⟨g, 1, none⟩ = some (.string o.key) := h.range 1 _ rfl
theorem OpAt.elem {w : World} {g : Nat} {o : Opn} (h : OpAt w g o) : w.cell? ⟨g, 2, none⟩ = some (.string o.elem) := h.range 2 _ rfl
theorem OpAt.n {w : World} {g : Nat} {o : Opn} (h : OpAt w g o) : w.cell? ⟨g, 3, none⟩ = some (.int .i64 o.n) := h.range 3 _ rfl
theorem OpAt.load {w : World} {g : Nat} {o : Opn} (h : OpAt w g o) : (Instr.loadAt 27 (.pointer (some ⟨g, 0, none⟩))).run Tryz.prog w = .ok (.agg (opc o)) w :=
  run_loadAt_mid w g 0 27 (opc o).toList _ h.range Tryz.underlying27 rfl (info_opl o)
/-- A load of a whole operation, as the walk meets it; .. inside a region that only reads; .. inside one that grows. -/
theorem wpList_load_op {ops : Array Oper} {rest : List Oper} {o : Oper} {a : Act} {w : World} {Q : Exit → Act → World → Prop} (hgd : o.guard = none) (x : Operand) (ho : o.op = .load 27 x)
    (g : Nat) (hx : a.eval x = .pointer (some ⟨g, 0, none⟩)) (y : Opn) (hc : OpAt w g y) (h : wpList Tryz.prog ops Q rest (a.put o.dst (.agg (opc y))) w) : wpList Tryz.prog ops Q (o :: rest) a w :=
  wpList_load_mid hgd 27 x ho g 0 hx (opc y).toList _ hc.range Tryz.underlying27 rfl (info_opl y) h
theorem wpQuiet_load_op {ops : Array Oper} {C : World → Prop} {Q : Act → Prop} {a : Act} {o : Oper} {rest : List Oper} (hgd : o.guard = none) (x : Operand) (ho : o.op = .load 27 x)
    (g : Nat) (hx : a.eval x = .pointer (some ⟨g, 0, none⟩)) (y : Opn) (hc : ∀ w, C w → OpAt w g y) (h : wpQuiet Tryz.prog ops C Q rest (a.put o.dst (.agg (opc y)))) : wpQuiet Tryz.prog ops C Q (o :: rest) a := by
  refine BigFrame.wpQuiet_want (by simp [Region.wanted, hgd]) (fun K hK => ⟨.agg (opc y), fun w hw => ?_, hK _ h⟩)
  have q := (hc w hw).load
  unfold Oper.quietAt execOp
  simp only [ho, hx, Sem.run_bind, q, Result.andThen_ok, Sem.run_pure]
  exact ⟨rfl, rfl⟩
theorem reads_op {l : List Oper} {i : Nat} {o : Oper} {r : List (Nat × Bool)} {a : Act} {w : World} {Q : Exit → Act → World → Prop} (hn : Grow.nth l i = some o) (hgd : o.guard = none) (x : Operand) (ho : o.op = .load 27 x)
    (g : Nat) (hx : a.eval x = .pointer (some ⟨g, 0, none⟩)) (y : Opn) (hc : OpAt w g y) (h : Grow.Seq Tryz.prog l.toArray Q r (a.put o.dst (.agg (opc y))) w) : Grow.Seq Tryz.prog l.toArray Q ((i, true) :: r) a w :=
  Grow.reads hn (by unfold Grow.plain; rw [ho]) (wpQuiet_load_op hgd x ho g hx y (fun _ ⟨p, e⟩ => by rw [e]; exact hc.below (below_regrown w p.d p.os)) (wpQuiet_nil h))

/-- A block that holds one value. -/
def One (w : World) (g : Nat) (v : Value) : Prop := ∃ t, w.heap[g]? = some (.cells #[v] t (0, 0))
theorem One.block {w w' : World} {g B : Nat} {v : Value} (h : One w g v) (hb : Below B w w') (hg : g < B) : One w' g v := by
  obtain ⟨t, ht⟩ := h
  exact ⟨t, by rw [hb.block g hg, ht]⟩
theorem One.cell {w : World} {g : Nat} {v : Value} (h : One w g v) : w.cell? ⟨g, 0, none⟩ = some v := by
  obtain ⟨t, ht⟩ := h
  rw [cell_of_row w g 0 _ t (0, 0) ht]
  rfl
theorem below_alloc (w : World) (o : Obj) : Below w.heap.size w (w.alloc o) := (Below.refl _ _).alloc (Nat.le_refl _) _
/-- Noughts. -/
def noOp : Opn := ⟨0, ⟨#[]⟩, ⟨#[]⟩, 0⟩
/-- A table of functions by kinds: one of Inc, one of the others. -/
def T4 (f g : Value) : Array MapEntry := #[⟨.int .i64 0, f, 0⟩, ⟨.int .i64 1, g, 1⟩, ⟨.int .i64 2, g, 2⟩, ⟨.int .i64 3, g, 3⟩]
def TabAt (w : World) (m : Nat) (f g : Value) : Prop := w.heap[m]? = some (.map (T4 f g) 4)
theorem TabAt.lt {w : World} {m : Nat} {f g : Value} (h : TabAt w m f g) : m < w.heap.size := (Array.getElem?_eq_some_iff.1 h).1
theorem TabAt.below {w w' : World} {m : Nat} {f g : Value} (h : TabAt w m f g) (hb : Below w.heap.size w w') : TabAt w' m f g := (hb.block m h.lt).trans h
theorem lawI : Keyed Tryz.prog 3 := int_keyed Tryz.underlying3
theorem wf_i64 {k : Int} (h : I64 k) : (Lit.int .i64 k).wf = true := by
  unfold I64 at h
  simp [Lit.wf, IntKind.min, IntKind.max, IntKind.bits, IntKind.signed]
  omega
theorem keyI {k : Int} (h : I64 k) : keyOf Tryz.prog 3 (.int .i64 k) = some (.int .i64 k) := keyOf_int_mk Tryz.underlying3 (wf_i64 h)
theorem find0 (w : World) (f g : Value) : (Instr.findKey 3 (.int .i64 0) (T4 f g).toList).run Tryz.prog w = .ok (some (0, f)) w := by
  simp [Instr.findKey, run_underlying Tryz.underlying3, Instr.findNow, Instr.sameNow, T4, Result.andThen]
theorem find1 (w : World) (f g : Value) {k : Int} (h : k = 1 ∨ k = 2 ∨ k = 3) : ∃ i, (Instr.findKey 3 (.int .i64 k) (T4 f g).toList).run Tryz.prog w = .ok (some (i, g)) w := by
  rcases h with rfl | rfl | rfl
  · exact ⟨1, by simp [Instr.findKey, run_underlying Tryz.underlying3, Instr.findNow, Instr.sameNow, T4, Result.andThen]⟩
  · exact ⟨2, by simp [Instr.findKey, run_underlying Tryz.underlying3, Instr.findNow, Instr.sameNow, T4, Result.andThen]⟩
  · exact ⟨3, by simp [Instr.findKey, run_underlying Tryz.underlying3, Instr.findNow, Instr.sameNow, T4, Result.andThen]⟩
theorem findN (w : World) (f g : Value) {k : Int} (h : k < 0 ∨ 3 < k) : (Instr.findKey 3 (.int .i64 k) (T4 f g).toList).run Tryz.prog w = .ok none w := by
  have h0 : (k == 0) = false := by simp; omega
  have h1 : (k == 1) = false := by simp; omega
  have h2 : (k == 2) = false := by simp; omega
  have h3 : (k == 3) = false := by simp; omega
  simp [Instr.findKey, run_underlying Tryz.underlying3, Instr.findNow, Instr.sameNow, T4, Result.andThen, h0, h1, h2, h3]
theorem OpAt.kind_in {w : World} {g : Nat} {o : Opn} (h : OpAt w g o) : ∀ d os, (grow (redrawn w d) os).cell? ⟨g, 0, none⟩ = some (.int .i64 o.kind) := fun d os => (h.below (below_regrown _ d os)).kind
theorem made (T : TypeId) (w : World) : (Instr.makeMap T none).run Tryz.prog w = .ok (.map (some w.heap.size)) (w.alloc (.map #[] 0)) := by
  simp [Instr.makeMap, go_sem]
section
variable {w : World} {m : Nat} {f g : Value} {T e : TypeId} (hT : Tryz.prog.underlying T = some (.map 3 e))
include hT
theorem look0 (c : Bool) (h : TabAt w m f g) : (Instr.lookup T (.map (some m)) (.int .i64 0) c).run Tryz.prog w = .ok (if c then .tuple #[f, .bool true] else f) w := by
  simp [Instr.lookup, run_underlying hT, MapKept.run_getObj_map h, lawI.check w _ (keyI (k := 0) (by unfold I64; omega)), find0, Result.andThen]
theorem look1 (c : Bool) {k : Int} (hk : k = 1 ∨ k = 2 ∨ k = 3) (h : TabAt w m f g) : (Instr.lookup T (.map (some m)) (.int .i64 k) c).run Tryz.prog w = .ok (if c then .tuple #[g, .bool true] else g) w := by
  obtain ⟨i, hi⟩ := find1 w f g hk
  simp [Instr.lookup, run_underlying hT, MapKept.run_getObj_map h, lawI.check w _ (keyI (k := k) (by unfold I64; omega)), hi, Result.andThen]
theorem lookN (c : Bool) {k : Int} (hI : I64 k) (hk : k < 0 ∨ 3 < k) {z : Value} (hz : (zeroValue e).run Tryz.prog w = .ok z w) (h : TabAt w m f g) : (Instr.lookup T (.map (some m)) (.int .i64 k) c).run Tryz.prog w = .ok (if c then .tuple #[z, .bool false] else z) w := by
  simp [Instr.lookup, run_underlying hT, MapKept.run_getObj_map h, lawI.check w _ (keyI hI), findN w f g hk, hz, Result.andThen]
theorem look0_in (c : Bool) (h : TabAt w m f g) : ∀ d os, (Instr.lookup T (.map (some m)) (.int .i64 0) c).run Tryz.prog (grow (redrawn w d) os) = .ok (if c then .tuple #[f, .bool true] else f) (grow (redrawn w d) os) := fun d os => look0 hT c (h.below (below_regrown _ d os))
theorem look1_in (c : Bool) {k : Int} (hk : k = 1 ∨ k = 2 ∨ k = 3) (h : TabAt w m f g) : ∀ d os, (Instr.lookup T (.map (some m)) (.int .i64 k) c).run Tryz.prog (grow (redrawn w d) os) = .ok (if c then .tuple #[g, .bool true] else g) (grow (redrawn w d) os) := fun d os => look1 hT c hk (h.below (below_regrown _ d os))
theorem lookN_in (c : Bool) {k : Int} (hI : I64 k) (hk : k < 0 ∨ 3 < k) {z : Value} (hz : ∀ u : World, (zeroValue e).run Tryz.prog u = .ok z u) (h : TabAt w m f g) : ∀ d os, (Instr.lookup T (.map (some m)) (.int .i64 k) c).run Tryz.prog (grow (redrawn w d) os) = .ok (if c then .tuple #[z, .bool false] else z) (grow (redrawn w d) os) := fun d os => lookN hT c hI hk (hz _) (h.below (below_regrown _ d os))
/-- An entry put into a map that was just made. -/
theorem wpList_entry {ops : Array Oper} {rest : List Oper} {o : Oper} {a : Act} {w : World} {Q : Exit → Act → World → Prop} (hgd : o.guard = none) (hd : o.dst = none) (x k v : Operand) (ho : o.op = .insert T x k v)
    (w0 : World) (es : Array MapEntry) (n : Nat) (hw : w = w0.alloc (.map es n)) (m : Nat) (hx : a.eval x = .map (some m)) (hm0 : m = w0.heap.size) (i : Int) (hI : I64 i) (hk : a.eval k = .int .i64 i) (hes : Instr.findNow (.int .i64) (.int .i64 i) es.toList 0 = some none) (y : Value) (hv : a.eval v = y)
    (h : wpList Tryz.prog ops Q rest a (w0.alloc (.map (es.push ⟨.int .i64 i, y, n⟩) (n + 1)))) : wpList Tryz.prog ops Q (o :: rest) a w := by
  subst hw
  subst hm0
  refine wpList_plain hgd fun K hK => ?_
  have hm : (w0.alloc (.map es n)).heap[w0.heap.size]? = some (.map es n) := heap_alloc_new w0 _
  have hs : setBlock (w0.alloc (.map es n)) w0.heap.size (.map (es.push ⟨.int .i64 i, y, n⟩) (n + 1)) = w0.alloc (.map (es.push ⟨.int .i64 i, y, n⟩) (n + 1)) := by
    have e : (w0.heap.push (.map es n)).setIfInBounds w0.heap.size (.map (es.push ⟨.int .i64 i, y, n⟩) (n + 1)) = w0.heap.push (.map (es.push ⟨.int .i64 i, y, n⟩) (n + 1)) := by
      apply Array.ext_getElem?
      intro j
      simp only [Array.getElem?_setIfInBounds, Array.getElem?_push, Array.size_push]
      by_cases hj : w0.heap.size = j
      · subst hj; simp
      · rw [if_neg hj, if_neg (fun e => hj e.symm), if_neg (fun e => hj e.symm)]
    show ({ w0 with heap := _ } : World) = { w0 with heap := _ }
    exact congrArg (fun h => ({ w0 with heap := h } : World)) e
  have hf : (Instr.findKey 3 (.int .i64 i) es.toList).run Tryz.prog (w0.alloc (.map es n)) = .ok none (w0.alloc (.map es n)) := by
    simp [Instr.findKey, run_underlying Tryz.underlying3, hes, Result.andThen]
  have hrun : (Instr.mapUpdate T (.map (some w0.heap.size)) (.int .i64 i) y).run Tryz.prog (w0.alloc (.map es n)) = .ok () (w0.alloc (.map (es.push ⟨.int .i64 i, y, n⟩) (n + 1))) := by
    rw [← hs]
    simp [Instr.mapUpdate, run_underlying hT, MapKept.run_getObj_map hm, lawI.check _ _ (keyI hI), hf, MapKept.run_setObj_map _ hm, Result.andThen, setBlock]
  unfold Oper.wp execOp
  simp only [ho, hx, hk, hv, Sem.run_bind, hrun, Result.andThen_ok, Sem.run_pure]
  refine hK _ _ ?_
  rw [hd]
  exact h
end
end Go.Proofs.YteojkfbnenfmkaaGreatDoor.OpsW
