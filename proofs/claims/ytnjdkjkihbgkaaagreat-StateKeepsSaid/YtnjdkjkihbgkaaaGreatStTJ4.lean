/- What package state's Put returns: a contract. No condition but sizes. | The chapter's own example: 'awake' returns true. | How a reading gives an operation that came in. | What the document's May of package ops returns: a contract. -/
import Derived.Test.YtnjdkjkihbgkaaaGreatStP
import Derived.Test.YtnjdkjkihbgkaaaGreatStK
import Derived.Test.YtnjdkjkihbgkaaaGreatStL
import Derived.Test.YtnjdkjkihbgkaaaGreatStYJ3
import Derived.ProofKit
import Derived.OpenShut
import Derived.WideShapes
import Derived.Lib.SmallJoins
import Derived.Test.YtnjdkjkihbgkaaaGreatRowGJ6
namespace Go.Proofs.YtnjdkjkihbgkaaaGreat.StT
set_option maxRecDepth 100000
open Go Go.Sort Go.RowKit Byt EncM EncC Rise RowS StM StN StW StQ StP

theorem app_B {a b : List Int} (ha : ∀ x ∈ a, B x) (hb : ∀ x ∈ b, B x) : ∀ x ∈ a ++ b, B x := fun x hx => (List.mem_append.1 hx).elim (ha x) (hb x)
theorem flat_B {α : Type} (f : α → List Int) (l : List α) (h : ∀ x, ∀ y ∈ f x, B y) : ∀ y ∈ l.flatMap f, B y := fun y hy => by
  obtain ⟨x, _, hx⟩ := List.mem_flatMap.1 hy
  exact h x y hx
theorem C_B (l : List CtrM.Cn) : ∀ y ∈ numL l.length ++ allC l, B y := app_B (num_B _) (flat_B encC l fun _ => app_B (text_B _) (num_B _))
theorem R_B (l : List RegM.Rg) : ∀ y ∈ numL l.length ++ allR l, B y := app_B (num_B _) (flat_B encR l fun _ => app_B (text_B _) (app_B (text_B _) (app_B (numI_B _) (app_B (numI_B _) (numI_B _)))))
theorem P_B (l : List PairM.Pr) : ∀ y ∈ numL l.length ++ allP l, B y := app_B (num_B _) (flat_B encP l fun _ => app_B (text_B _) (app_B (text_B _) (app_B (numI_B _) (numI_B _))))
theorem few_bytes {α : Type} (f : α → List Int) (l : List α) (hl : l.length ≤ 1000) (h : ∀ x ∈ l, (f x).length ≤ 3000) : (numL l.length ++ l.flatMap f).length ≤ 3000010 := by
  have h1 := len_ten hl
  have h2 := flat_short f l h
  rw [List.length_append]
  omega
theorem C_len {s : St} (h : Short s) : (numL s.c.length ++ allC s.c).length ≤ 3000010 := few_bytes encC s.c h.len.c fun x hx => encC_short (h.c x hx) (h.fit.c x hx).2
theorem R_len {s : St} (h : Short s) : (numL s.r.length ++ allR s.r).length ≤ 3000010 := few_bytes encR s.r h.len.r fun x hx => encR_short (h.r x hx).1 (h.r x hx).2
theorem P_len {s : St} (h : Short s) : (numL s.p.length ++ allP s.p).length ≤ 3000010 := few_bytes encP s.p h.len.p fun x hx => encP_short (h.p x hx).1 (h.p x hx).2
theorem run_build3 (w : World) (A0 A1 A2 : Option Addr) (n0 n1 n2 k0 k1 k2 : Nat) : (Instr.buildSlice 93 3 #[(0, .slice A0 n0 k0), (1, .slice A1 n1 k1), (2, .slice A2 n2 k2)]).run Tryz.prog w = .ok (.slice (some ⟨w.heap.size, 0, none⟩) 3 3) (w.alloc (.cells #[.slice A0 n0 k0, .slice A1 n1 k1, .slice A2 n2 k2] 37)) := by kernel_rfl
theorem wpList_build3 {w : World} {ops : Array Oper} {rest : List Oper} {o : Oper} {a : Act} {Q : Exit → Act → World → Prop} (hgd : o.guard = none) (x0 x1 x2 : Operand) (ho : o.op = .buildSlice 93 3 #[(0, x0), (1, x1), (2, x2)])
    (A0 A1 A2 : Option Addr) (n0 n1 n2 k0 k1 k2 : Nat) (h0 : a.eval x0 = .slice A0 n0 k0) (h1 : a.eval x1 = .slice A1 n1 k1) (h2 : a.eval x2 = .slice A2 n2 k2)
    (h : wpList Tryz.prog ops Q rest (a.put o.dst (.slice (some ⟨w.heap.size, 0, none⟩) 3 3)) (w.alloc (.cells #[.slice A0 n0 k0, .slice A1 n1 k1, .slice A2 n2 k2] 37))) : wpList Tryz.prog ops Q (o :: rest) a w := by
  refine wpList_plain hgd fun K hK => ?_
  unfold Oper.wp execOp
  simp only [ho, List.map_toArray, List.map_cons, List.map_nil, h0, h1, h2, Sem.run_bind, run_build3, Result.andThen_ok, Sem.run_pure]
  exact hK _ _ h
set_option maxRecDepth 100000 in
set_option maxHeartbeats 8000000 in
/-- What Put returns. -/
theorem put_is (v : Sv) (w : World) (S : In w v) (hs : Short v.s) : Calls Tryz.prog 13 #[.agg (sc v)] w (Byt.New (putS v.s) w) := by
  have kb := below_alloc w (.cells (sc v) 26)
  have R0 : Cel.Box SE (w.alloc (.cells (sc v) 26)) w.heap.size v := Cel.Box.new w v _
  have S0 := S.below kb
  have q0 := fun W S => counts_ret v.a0 v.k0 v.s.c W S hs.fit.c hs.c hs.len.c
  have q1 := fun W S => regs_ret v.a1 v.k1 v.s.r W S hs.fit.r hs.r hs.len.r
  have q2 := fun W S => pairs_ret v.a2 v.k2 v.s.p W S hs.fit.p hs.p hs.len.p
  have B0 := C_B v.s.c
  have B1 := R_B v.s.r
  have B2 := P_B v.s.p
  have n0 := C_len hs
  have n1 := R_len hs
  have n2 := P_len hs
  have HP : Hid (putS v.s = (numL v.s.c.length ++ allC v.s.c) ++ ((numL v.s.r.length ++ allR v.s.r) ++ (numL v.s.p.length ++ allP v.s.p))) := aside (by simp [putS, List.append_assoc])
  obtain ⟨L0, h0⟩ : ∃ L, numL v.s.c.length ++ allC v.s.c = L := ⟨_, rfl⟩
  obtain ⟨L1, h1⟩ : ∃ L, numL v.s.r.length ++ allR v.s.r = L := ⟨_, rfl⟩
  obtain ⟨L2, h2⟩ : ∃ L, numL v.s.p.length ++ allP v.s.p = L := ⟨_, rfl⟩
  rw [h0] at q0 B0 n0 HP
  rw [h1] at q1 B1 n1 HP
  rw [h2] at q2 B2 n2 HP
  clear h0 h1 h2 hs S
  go_enter Tryz.func13, Tryz.ntmps13
  go_wp2_with fail
  refine Grow.region [(0, true), (1, true), (3, true), (4, true), (6, true), (7, true), (2, false), (5, false), (8, false), (9, false), (10, false), (11, true)] (by kernel_rfl) (by kernel_rfl) rfl (by kernel_rfl) (by intro c a d v w h; cases d <;> exact h) ?_
  change Grow.Seq _ _ _ _ _ (w.alloc (.cells (sc v) 26)).drew
  have dr := below_drew1 (Below.refl (w.alloc (.cells (sc v) 26)).heap.size (w.alloc (.cells (sc v) 26)))
  have R1 := R0.below dr
  have S1 := S0.below dr
  have b1 := kb.trans (dr.mono kb.size)
  generalize (w.alloc (.cells (sc v) 26)).drew = w1 at R1 S1 b1 ⊢
  clear R0 S0 kb dr
  have c0 := Grow.grown (w := w1) (fun y hy => (box_cells (R1.below hy)).1)
  have c1 := Grow.grown (w := w1) (fun y hy => (box_cells (R1.below hy)).2.1)
  have c2 := Grow.grown (w := w1) (fun y hy => (box_cells (R1.below hy)).2.2)
  repeat (refine Grow.reads rfl rfl ?_; go_big_quiet_step (fail); refine wpQuiet_nil ?_)
  clear c0 c1 c2 R1
  refine Grow.acts rfl ?_
  go_wp2_with fail
  refine (q0 _ S1.c).mono ?_
  rintro _ w2 ⟨v2, rfl, own2, k2⟩
  go_wp2_with fail
  refine ⟨k2, ?_⟩
  obtain ⟨A2, C2, rfl, M2⟩ := Sl.own own2 B0
  have S2 := S1.below k2
  have b2 := b1.trans (k2.mono b1.size)
  clear q0 S1 b1 k2 own2
  refine Grow.acts rfl ?_
  go_wp2_with fail
  refine (q1 _ S2.r).mono ?_
  rintro _ w3 ⟨v3, rfl, own3, k3⟩
  go_wp2_with fail
  refine ⟨k3, ?_⟩
  obtain ⟨A3, C3, rfl, N3⟩ := Sl.own own3 B1
  have S3 := S2.below k3
  have M3 := M2.below k3
  have b3 := b2.trans (k3.mono b2.size)
  clear q1 S2 b2 k3 own3 M2
  refine Grow.acts rfl ?_
  go_wp2_with fail
  refine (q2 _ S3.p).mono ?_
  rintro _ w4 ⟨v4, rfl, own4, k4⟩
  go_wp2_with fail
  refine ⟨k4, ?_⟩
  obtain ⟨A4, C4, rfl, O4⟩ := Sl.own own4 B2
  have M4 := M3.below k4
  have N4 := N3.below k4
  have b4 := b3.trans (k4.mono b3.size)
  clear q2 S3 b3 k4 own4 M3 N3
  refine Grow.acts rfl ?_
  go_wp2_with (refine wpList_build3 rfl _ _ _ rfl A2 A3 A4 _ _ _ C2 C3 C4 rfl rfl rfl ?_)
  have k5 := below_alloc w4 (.cells #[.slice A2 L0.length C2, .slice A3 L1.length C3, .slice A4 L2.length C4] 37)
  refine ⟨k5, ?_⟩
  have hT : (w4.alloc (.cells #[.slice A2 L0.length C2, .slice A3 L1.length C3, .slice A4 L2.length C4] 37)).heap[w4.heap.size]? = some (.cells #[.slice A2 L0.length C2, .slice A3 L1.length C3, .slice A4 L2.length C4] 37 (0, 0)) := heap_alloc_new _ _
  have M5 := M4.below k5
  have N5 := N4.below k5
  have O5 := O4.below k5
  have b5 := b4.trans (k5.mono b4.size)
  generalize w4.alloc (.cells #[.slice A2 L0.length C2, .slice A3 L1.length C3, .slice A4 L2.length C4] 37) = w5 at hT M5 N5 O5 b5 ⊢
  have t0 : w5.cell? ⟨w4.heap.size, 0, none⟩ = some (.slice A2 L0.length C2) := by rw [cell_of_row w5 _ 0 _ _ (0, 0) hT]; rfl
  have t1 : w5.cell? ⟨w4.heap.size, 1, none⟩ = some (.slice A3 L1.length C3) := by rw [cell_of_row w5 _ 1 _ _ (0, 0) hT]; rfl
  have t2 : w5.cell? ⟨w4.heap.size, 2, none⟩ = some (.slice A4 L2.length C4) := by rw [cell_of_row w5 _ 2 _ _ (0, 0) hT]; rfl
  have q3 := StG.concat_ret w4.heap.size A2 C2 L0 A3 C3 L1 A4 C4 L2 w5 t0 t1 t2 M5 N5 O5 (by omega) 3
  clear M4 N4 O4 b4 k5 hT t0 t1 t2 M5 N5 O5
  simp only [Act.put, List.setIfInBounds_toArray, List.set_cons_succ, List.set_cons_zero]
  refine Grow.acts rfl ?_
  go_wp2_with fail
  refine q3.mono ?_
  rintro _ w6 ⟨v6, rfl, own6, k6⟩
  go_wp2_with fail
  refine ⟨k6, ?_⟩
  have b6 := b5.trans (k6.mono b5.size)
  repeat (refine Grow.reads rfl rfl ?_; go_big_quiet_step (fail); refine wpQuiet_nil ?_)
  refine Grow.ends ?_
  go_wp2_with fail
  go_ret
  rw [HP.out]
  exact ⟨_, rfl, owns_lower own6 b5.size, b6⟩
end Go.Proofs.YtnjdkjkihbgkaaaGreat.StT
namespace Go.Proofs.YtnjdkjkihbgkaaaGreat.StA
set_option maxRecDepth 100000
open Go Go.RowKit Byt OpsM OpsW Rise RowS StM StN StW StR

def opE : Opn := ⟨1, ⟨#[97]⟩, ⟨#[120]⟩, 0⟩
def evE : Ev := ⟨0, 1⟩
def sE : St := ⟨[], [⟨⟨#[97]⟩, ⟨#[120]⟩, 1, 0, 1⟩], []⟩
theorem do_ex : doS noS opE 0 1 1 = some sE := by kernel_rfl
theorem merge_ex : mergeS noS sE noS = some sE := by kernel_rfl
theorem may_ex : mayS sE = true := by kernel_rfl
theorem same_ex : sameS sE sE = true := by kernel_rfl
theorem other_ex : sameS sE noS = false := by kernel_rfl
theorem put_ex : putS noS = [0, 0, 0] := by kernel_rfl
theorem fits_no : Fits noS := ⟨fun c hc => by simp [noS] at hc, fun c hc => by simp [noS] at hc, fun c hc => by simp [noS] at hc⟩
theorem len_no : Len 1000 noS := ⟨by simp [noS], by simp [noS], by simp [noS]⟩
theorem short_no : StQ.Short noS := ⟨fits_no, len_no, fun c hc => by simp [noS] at hc, fun c hc => by simp [noS] at hc, fun c hc => by simp [noS] at hc⟩
theorem fits_ex : Fits sE := ⟨fun c hc => by simp [sE] at hc, fun c hc => by
  simp only [sE, List.mem_cons, List.not_mem_nil, or_false] at hc
  subst hc
  exact ⟨by decide, by decide, ⟨by decide, by decide⟩, ⟨by decide, by decide⟩, ⟨by decide, by decide⟩⟩, fun c hc => by simp [sE] at hc⟩
theorem len_ex : Len 1000 sE := ⟨by simp [sE], by simp [sE], by simp [sE]⟩
theorem fit_op : OpsC.Fit opE := ⟨⟨by decide, by decide⟩, ⟨by decide, by decide⟩, by decide, by decide⟩
theorem do_call (w : World) : Calls Tryz.prog 8 #[.agg #[.slice none 0 0, .slice none 0 0, .slice none 0 0], .agg #[.int .i64 1, .string ⟨#[97]⟩, .string ⟨#[120]⟩, .int .i64 0], .agg #[.int .i64 0, .int .i64 1], .int .i64 1] w (StW.New (some sE) w) := by
  have := StK.do_ret noV opE evE 1 w (In.none w) fits_no len_no fit_op ⟨by decide, by decide⟩ ⟨by decide, by decide⟩ ⟨by decide, by decide⟩
  rw [show doS noV.s opE evE.node evE.seq 1 = some sE from do_ex] at this
  exact this
theorem merge_call (v : Sv) (w : World) (S : In w v) (h : v.s = sE) : Calls Tryz.prog 15 #[.agg #[.slice none 0 0, .slice none 0 0, .slice none 0 0], .agg (sc v), .agg #[.slice none 0 0, .slice none 0 0, .slice none 0 0]] w (StW.New (some sE) w) := by
  have := StL.merge_ret noV v noV w (In.none w) S (In.none w) fits_no (by rw [h]; exact fits_ex) fits_no len_no (by rw [h]; exact len_ex) len_no
  rw [h, show mergeS noV.s sE noV.s = some sE from merge_ex] at this
  exact this
theorem put_call (w : World) : Calls Tryz.prog 13 #[.agg #[.slice none 0 0, .slice none 0 0, .slice none 0 0]] w fun e w' => ∃ A cap, e = .returned (.slice A 3 cap) ∧ Below w.heap.size w w' := by
  have := StT.put_is noV w (In.none w) short_no
  rw [show putS noV.s = [0, 0, 0] from put_ex] at this
  refine Calls.mono this ?_
  rintro e w' ⟨v, rfl, own, k⟩
  obtain ⟨A, cap, rfl, _⟩ := Sl.own own (by intro x hx; simp at hx; subst hx; exact ⟨by decide, by decide⟩)
  exact ⟨A, cap, rfl, k⟩
theorem other_call (v : Sv) (w : World) (S : In w v) (h : v.s = sE) : Calls Tryz.prog 17 #[.agg (sc v), .agg #[.slice none 0 0, .slice none 0 0, .slice none 0 0]] w fun e w' => e = .returned (.bool false) ∧ Below w.heap.size w w' := by
  have := StE.same_ret v noV w S (In.none w)
  rw [h, show sameS sE noV.s = false from other_ex] at this
  exact this
set_option maxRecDepth 100000 in
set_option maxHeartbeats 8000000 in
theorem awake (w : World) : Calls Tryz.prog 6 #[] w fun e w' => e = .returned (.bool true) ∧ Below w.heap.size w w' := by
  go_enter Tryz.func6, Tryz.ntmps6
  go_wp2_with (first | go_skip)
  refine (do_call _).mono ?_
  rintro _ w1 ⟨v, rfl, hv, S1, k1⟩
  have hv : v.s = sE := hv
  go_wp2_with (first | go_skip | (refine Cel.wpList_store_new SE rfl _ _ rfl _ _ _ rfl v _ rfl rfl rfl rfl ?_; intro w2 B2 k2 g2 s2; have S2 := S1.below k2; have b2 := k1.trans (k2.mono k1.size); clear S1 k1 k2 g2 s2) | (refine CelG.gload SE _ rfl _ rfl v B2 rfl ?_))
  refine (merge_call v _ S2 hv).mono ?_
  rintro _ w3 ⟨m, rfl, hm, M3, k3⟩
  have hm : m.s = sE := hm
  have B3 := B2.below k3
  have S3 := S2.below k3
  have b3 := b2.trans (k3.mono b2.size)
  clear B2 S2 b2 k3
  go_wp2_with (first | go_skip | (refine Cel.wpList_store_new SE rfl _ _ rfl _ _ _ rfl m _ rfl rfl rfl rfl ?_; intro w4 D4 k4 g4 s4; have S4 := S3.below k4; have M4 := M3.below k4; have B4 := B3.below k4; have b4 := b3.trans (k4.mono b3.size); obtain ⟨c0, c1, c2⟩ := box_cells B4; have n0 : v.s.c.length = 0 := (by rw [hv]; rfl); have n1 : v.s.r.length = 1 := (by rw [hv]; rfl); have n2 : v.s.p.length = 0 := (by rw [hv]; rfl); rw [n0] at c0; rw [n1] at c1; rw [n2] at c2; clear S3 M3 B3 b3 k4 g4 s4 n0 n1 n2) | (refine CelG.gload SE _ rfl _ rfl v B4 rfl ?_))
  have q := StE.may_ret v w4 S4 (by rw [hv]; exact fits_ex) (by rw [hv]; exact len_ex)
  rw [hv, may_ex] at q
  refine q.mono ?_
  clear q
  rintro _ w5 ⟨rfl, k5⟩
  have S5 := S4.below k5
  have M5 := M4.below k5
  have B5 := B4.below k5
  have D5 := D4.below k5
  have b5 := b4.trans (k5.mono b4.size)
  clear S4 M4 B4 D4 b4 k5 c0 c1 c2
  go_wp2_with (first | go_skip | (refine CelG.gload SE _ rfl _ rfl v B5 rfl ?_) | (refine CelG.gload SE _ rfl _ rfl m D5 rfl ?_))
  have q := StE.same_ret v m w5 S5 M5
  rw [hv, hm, same_ex] at q
  refine q.mono ?_
  clear q
  rintro _ w6 ⟨rfl, k6⟩
  have S6 := S5.below k6
  have B6 := B5.below k6
  have b6 := b5.trans (k6.mono b5.size)
  clear S5 M5 B5 D5 b5 k6
  go_wp2_with (first | go_skip)
  refine (put_call _).mono ?_
  rintro _ w7 ⟨A, cap, rfl, k7⟩
  have S7 := S6.below k7
  have B7 := B6.below k7
  have b7 := b6.trans (k7.mono b6.size)
  clear S6 B6 b6 k7
  go_wp2_with (first | go_skip | (refine CelG.gload SE _ rfl _ rfl v B7 rfl ?_))
  refine (other_call v _ S7 hv).mono ?_
  rintro _ w8 ⟨rfl, k8⟩
  have b8 := b7.trans (k8.mono b7.size)
  go_wp2_with (first | go_skip)
  go_ret
  exact ⟨by first | rfl | simp, b8⟩
end Go.Proofs.YtnjdkjkihbgkaaaGreat.StA
namespace Go.Proofs.YtnjdkjkihbgkaaaGreat.OpenO
set_option maxRecDepth 100000
open Go Go.Deep Go.Joins Go.ChangeShapes Go.WideShapes Go.ChangeAt Go.RowKit Byt OpsM OpsW OpsC

theorem i64_of {n : Int} (h : (Lit.int .i64 n).wf = true) : I64 n := by
  unfold I64
  simpa [Lit.wf, IntKind.min, IntKind.max, IntKind.bits, IntKind.signed] using h
theorem open_op {H : Type} {enc : TypeId × Value → H} {P : Program} {t : TypeId} {W : World} {base : Nat} {f0 f1 f2 f3 : Field} (hs : P.underlying t = some (.struct #[f0, f1, f2, f3])) (hone : oneCellFields P #[f0, f1, f2, f3] = true) (hC : P.cellsOf t = 4)
    (h0 : P.underlying f0.type = some (.int .i64)) (h1 : P.underlying f1.type = some .string) (h2 : P.underlying f2.type = some .string) (h3 : P.underlying f3.type = some (.int .i64)) {v : Value} {d : DataW H} {p : List MemPlace}
    (hval : Value.okWide P W .any base t v) (h : DataW.Trod enc P W 0 (fun _ => true) true t v d p) : ∃ o : Opn, v = .agg (opc o) ∧ Fit o := by
  obtain ⟨v0, v1, v2, v3, y0, y1, y2, y3, n, rfl, _, _, e0, e1, e2, e3⟩ := open_agg4 hs hone hC hval h
  obtain ⟨a, q0, _, w0⟩ := DataW.trod_int h0 e0
  obtain ⟨b, q3, _, w3⟩ := DataW.trod_int h3 e3
  obtain ⟨s, q1, _, w1⟩ := DataW.trod_string h1 e1
  obtain ⟨u, q2, _, w2⟩ := DataW.trod_string h2 e2
  simp only [List.cons.injEq, and_true] at q0 q1 q2 q3
  subst q0 q1 q2 q3
  exact ⟨⟨a, s, u, b⟩, rfl, ⟨i64_of w0, i64_of w3, w1, w2⟩⟩
end Go.Proofs.YtnjdkjkihbgkaaaGreat.OpenO
namespace Go.Proofs.YtnjdkjkihbgkaaaGreat.OpsR
set_option maxRecDepth 100000
open Go Go.RowKit Go.Sort Byt OpsM OpsK OpsW OpsC

set_option maxRecDepth 100000 in
set_option maxHeartbeats 8000000 in
theorem may_no (o : Opn) (w : World) (hf : Fit o) (h1 : o.key.size ≤ 1099511627776) (h2 : o.elem.size ≤ 1099511627776) (hb : keyL (bytesL o.key) = false) :
    Calls Tryz.prog 28 #[.agg (opc o)] w fun e w' => e = .returned (.bool (mayO o)) ∧ Below w.heap.size w w' := by
  have O1 := OpAt.new w o 28
  have c0 := O1.kind
  have c1 := O1.key
  have c2 := O1.elem
  have c3 := O1.n
  have ck := key o.key h1
  have ce := key o.elem h2
  obtain ⟨n1, n2⟩ := hf.n
  obtain ⟨m1, m2⟩ := hf.kind
  rw [hb] at ck
  have HR := aside (mayO_key hb)
  obtain ⟨r, hr⟩ : ∃ r, mayO o = r := ⟨_, rfl⟩
  rw [hr] at HR ⊢
  clear hr hb h1 h2 hf
  clear m1 m2 n1 n2
  go_enter Tryz.func28, Tryz.ntmps28
  go_wp2_with (first | (refine (ck _).mono ?_; rintro e w' ⟨rfl, rfl⟩; clear ck) | (refine (ce _).mono ?_; rintro e w' ⟨rfl, rfl⟩; clear ce))
  go_ret
  exact ⟨ret_bool HR.out.symm, below_alloc _ _⟩
set_option maxRecDepth 100000 in
set_option maxHeartbeats 8000000 in
theorem may0 (o : Opn) (w : World) (hf : Fit o) (h1 : o.key.size ≤ 1099511627776) (h2 : o.elem.size ≤ 1099511627776) (hb : keyL (bytesL o.key) = true) (hk : o.kind = 0) :
    Calls Tryz.prog 28 #[.agg (opc o)] w fun e w' => e = .returned (.bool (mayO o)) ∧ Below w.heap.size w w' := by
  have O1 := OpAt.new w o 28
  have c0 := O1.kind
  have c1 := O1.key
  have c2 := O1.elem
  have c3 := O1.n
  have ck := key o.key h1
  have ce := key o.elem h2
  obtain ⟨n1, n2⟩ := hf.n
  obtain ⟨m1, m2⟩ := hf.kind
  rw [hb] at ck
  have hm := (mayO_rest hb).trans (restB0 hk)
  rw [hk] at c0
  clear hb h1 h2 hf hk m1 m2
  obtain ⟨r, hr⟩ : ∃ r, mayO o = r := ⟨_, rfl⟩
  obtain ⟨be, hbe⟩ : ∃ b, keyL (bytesL o.elem) = b := ⟨_, rfl⟩
  rw [hbe] at ce
  rw [hr] at hm ⊢
  clear hr hbe
  obtain ⟨n, hn⟩ : ∃ n, o.n = n := ⟨_, rfl⟩
  rw [hn] at c3 hm n1 n2
  clear hn
  by_cases ha : n < -1048576
  · have HR := aside (hm.trans (stepB_no (by omega)))
    clear hm
    go_enter Tryz.func28, Tryz.ntmps28
    go_wp2_with (first | (refine (ck _).mono ?_; rintro e w' ⟨rfl, rfl⟩; clear ck) | (refine (ce _).mono ?_; rintro e w' ⟨rfl, rfl⟩; clear ce))
    go_ret
    exact ⟨ret_bool HR.out.symm, below_alloc _ _⟩
  · by_cases hb : 1048576 < n
    · have HR := aside (hm.trans (stepB_no (by omega)))
      clear hm
      go_enter Tryz.func28, Tryz.ntmps28
      go_wp2_with (first | (refine (ck _).mono ?_; rintro e w' ⟨rfl, rfl⟩; clear ck) | (refine (ce _).mono ?_; rintro e w' ⟨rfl, rfl⟩; clear ce))
      go_ret
      exact ⟨ret_bool HR.out.symm, below_alloc _ _⟩
    · by_cases h0 : n = 0
      · subst h0
        have HR := aside (hm.trans (stepB_no (by omega)))
        clear hm
        go_enter Tryz.func28, Tryz.ntmps28
        go_wp2_with (first | (refine (ck _).mono ?_; rintro e w' ⟨rfl, rfl⟩; clear ck) | (refine (ce _).mono ?_; rintro e w' ⟨rfl, rfl⟩; clear ce))
        go_ret
        exact ⟨ret_bool HR.out.symm, below_alloc _ _⟩
      · have t0 : (n != 0) = true := by simpa using h0
        by_cases he : bytesL o.elem = []
        · have HR := aside (hm.trans (stepB_iff.2 ⟨by omega, by omega, h0, he⟩))
          have e1 := empty_yes he
          have e3 : o.elem.toList.isEmpty = true := by rw [e1]; rfl
          clear he h0 hm
          go_enter Tryz.func28, Tryz.ntmps28
          go_wp2_with (first | (refine (ck _).mono ?_; rintro e w' ⟨rfl, rfl⟩; clear ck) | (refine (ce _).mono ?_; rintro e w' ⟨rfl, rfl⟩; clear ce))
          go_ret
          exact ⟨ret_bool HR.out.symm, below_alloc _ _⟩
        · have HR := aside (hm.trans (stepB_no (fun q => he q.2.2.2)))
          have e1 := empty_no he
          have e3 : o.elem.toList.isEmpty = false := by simpa using e1
          clear he h0 hm
          go_enter Tryz.func28, Tryz.ntmps28
          go_wp2_with (first | (refine (ck _).mono ?_; rintro e w' ⟨rfl, rfl⟩; clear ck) | (refine (ce _).mono ?_; rintro e w' ⟨rfl, rfl⟩; clear ce))
          go_ret
          exact ⟨ret_bool HR.out.symm, below_alloc _ _⟩
set_option maxRecDepth 100000 in
set_option maxHeartbeats 8000000 in
theorem may1 (o : Opn) (w : World) (hf : Fit o) (h1 : o.key.size ≤ 1099511627776) (h2 : o.elem.size ≤ 1099511627776) (hb : keyL (bytesL o.key) = true) (hk : o.kind = 1 ∨ o.kind = 2 ∨ o.kind = 3) :
    Calls Tryz.prog 28 #[.agg (opc o)] w fun e w' => e = .returned (.bool (mayO o)) ∧ Below w.heap.size w w' := by
  have O1 := OpAt.new w o 28
  have c0 := O1.kind
  have c1 := O1.key
  have c2 := O1.elem
  have c3 := O1.n
  have ck := key o.key h1
  have ce := key o.elem h2
  obtain ⟨n1, n2⟩ := hf.n
  obtain ⟨m1, m2⟩ := hf.kind
  rw [hb] at ck
  have hm := (mayO_rest hb).trans (restB1 hk)
  obtain ⟨r, hr⟩ : ∃ r, mayO o = r := ⟨_, rfl⟩
  obtain ⟨be, hbe⟩ : ∃ b, keyL (bytesL o.elem) = b := ⟨_, rfl⟩
  rw [hbe] at ce
  rw [hr] at hm ⊢
  obtain ⟨n, hn⟩ : ∃ n, o.n = n := ⟨_, rfl⟩
  have hm2 : r = (be && decide (n = 0)) := by rw [hm]; unfold elemB; rw [hbe, hn]
  rw [hn] at c3 n1 n2
  have HR := aside hm2
  clear hb h1 h2 hf hr hbe hm hm2 hn m1 m2
  rcases hk with hk | hk | hk
  all_goals
    rw [hk] at c0
    clear hk
    cases be with
    | false =>
      have HR : Hid (r = false) := HR.out
      go_enter Tryz.func28, Tryz.ntmps28
      go_wp2_with (first | (refine (ck _).mono ?_; rintro e w' ⟨rfl, rfl⟩; clear ck) | (refine (ce _).mono ?_; rintro e w' ⟨rfl, rfl⟩; clear ce))
      go_ret
      exact ⟨ret_bool HR.out.symm, below_alloc _ _⟩
    | true =>
      by_cases h0 : n = 0
      · have t0 : (n == 0) = true := by simpa using h0
        have HR : Hid (r = true) := aside (by rw [HR.out, h0]; rfl)
        clear h0
        go_enter Tryz.func28, Tryz.ntmps28
        go_wp2_with (first | (refine (ck _).mono ?_; rintro e w' ⟨rfl, rfl⟩; clear ck) | (refine (ce _).mono ?_; rintro e w' ⟨rfl, rfl⟩; clear ce))
        go_ret
        exact ⟨ret_bool HR.out.symm, below_alloc _ _⟩
      · have t0 : (n == 0) = false := by simpa using h0
        have HR : Hid (r = false) := aside (by rw [HR.out]; simpa using h0)
        clear h0
        go_enter Tryz.func28, Tryz.ntmps28
        go_wp2_with (first | (refine (ck _).mono ?_; rintro e w' ⟨rfl, rfl⟩; clear ck) | (refine (ce _).mono ?_; rintro e w' ⟨rfl, rfl⟩; clear ce))
        go_ret
        exact ⟨ret_bool HR.out.symm, below_alloc _ _⟩
set_option maxRecDepth 100000 in
set_option maxHeartbeats 8000000 in
theorem mayN (o : Opn) (w : World) (hf : Fit o) (h1 : o.key.size ≤ 1099511627776) (h2 : o.elem.size ≤ 1099511627776) (hb : keyL (bytesL o.key) = true) (hk : o.kind < 0 ∨ 3 < o.kind) :
    Calls Tryz.prog 28 #[.agg (opc o)] w fun e w' => e = .returned (.bool (mayO o)) ∧ Below w.heap.size w w' := by
  have O1 := OpAt.new w o 28
  have c0 := O1.kind
  have c1 := O1.key
  have c2 := O1.elem
  have c3 := O1.n
  have ck := key o.key h1
  have ce := key o.elem h2
  obtain ⟨n1, n2⟩ := hf.n
  obtain ⟨m1, m2⟩ := hf.kind
  rw [hb] at ck
  have hm := (mayO_rest hb).trans (restBN hk)
  obtain ⟨r, hr⟩ : ∃ r, mayO o = r := ⟨_, rfl⟩
  rw [hr] at hm ⊢
  have HR := aside hm
  obtain ⟨k, hk'⟩ : ∃ k, o.kind = k := ⟨_, rfl⟩
  rw [hk'] at c0 hk
  have t0 : (k == 0) = false := by simp; omega
  have t1 : (k == 1) = false := by simp; omega
  have t2 : (k == 2) = false := by simp; omega
  have t3 : (k == 3) = false := by simp; omega
  clear hb h1 h2 hf hr hm hk hk' m1 m2 n1 n2
  go_enter Tryz.func28, Tryz.ntmps28
  go_wp2_with (first | (refine (ck _).mono ?_; rintro e w' ⟨rfl, rfl⟩; clear ck) | (refine (ce _).mono ?_; rintro e w' ⟨rfl, rfl⟩; clear ce))
  go_ret
  exact ⟨ret_bool HR.out.symm, below_alloc _ _⟩
/-- What the document's May returns. -/
theorem may (o : Opn) (w : World) (hf : Fit o) (h1 : o.key.size ≤ 1099511627776) (h2 : o.elem.size ≤ 1099511627776) :
    Calls Tryz.prog 28 #[.agg (opc o)] w fun e w' => e = .returned (.bool (mayO o)) ∧ Below w.heap.size w w' := by
  cases hb : keyL (bytesL o.key) with
  | false => exact may_no o w hf h1 h2 hb
  | true =>
    by_cases h0 : o.kind = 0
    · exact may0 o w hf h1 h2 hb h0
    · by_cases h3 : o.kind = 1 ∨ o.kind = 2 ∨ o.kind = 3
      · exact may1 o w hf h1 h2 hb h3
      · exact mayN o w hf h1 h2 hb (by omega)
end Go.Proofs.YtnjdkjkihbgkaaaGreat.OpsR
