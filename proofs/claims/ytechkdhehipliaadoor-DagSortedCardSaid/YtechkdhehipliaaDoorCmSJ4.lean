/- Sums of bytes as ids: what the project's Sum, and the document's, return. No condition. | What the laws on commits ask for: few parents, and short texts: a contract. | What functions on commits answer, in one form for both ways. No condition. | What the project's Get of package commit returns: a contract. -/
import Derived.Test.YtechkdhehipliaaDoorShaHJ9
import Derived.Test.YtechkdhehipliaaDoorArrEqJ2
import Derived.Test.YtechkdhehipliaaDoorCmRJ3
import Derived.Test.YtechkdhehipliaaDoorCmFJ4
import Derived.Defers
import Derived.Recover
namespace Go.Proofs.YtechkdhehipliaaDoor.CmS
set_option maxRecDepth 100000
open Go Go.RowKit IdM IdW Byt

theorem four_B (a : Int) (h : 0 ≤ a ∧ a ≤ 4294967295) : ∀ x ∈ PadM.four8 a, 0 ≤ x ∧ x ≤ 255 := by
  intro x hx
  simp only [PadM.four8, List.mem_cons, List.not_mem_nil, or_false] at hx
  rcases hx with rfl | rfl | rfl | rfl <;> omega
theorem sum_B (l : List Int) : ∀ x ∈ ShaH.sumL l, 0 ≤ x ∧ x ≤ 255 := by
  intro x hx
  unfold ShaH.sumL ShaG.idL at hx
  rw [List.mem_flatMap] at hx
  obtain ⟨i, _, hi⟩ := hx
  exact four_B _ (RotM.u_range _) x hi
/-- The id that bytes have. -/
def sumI (l : List Int) : Idn := ⟨ShaH.sumL l, ShaH.sumL_length l, sum_B l⟩
theorem rowL_of {w : World} {A : Option Addr} {cap : Nat} {l : List Int} (h : Sl w A cap l) : RowIn.RowL .u8 w A l.length cap l := by
  obtain ⟨h1, h2, h3, h4⟩ := h
  refine ⟨h1, h2, ⟨Nat.le_refl _, h1⟩, fun x hx => ?_, ?_⟩
  · have := h3 x hx
    simpa [B, Lit.wf, IntKind.min, IntKind.max, IntKind.bits, IntKind.signed] using this
  · rcases h4 with ⟨r1, r2, r3⟩ | ⟨x, r1, r2⟩
    · exact .inl ⟨r1, by rw [r2]; rfl, r3⟩
    · exact .inr ⟨x, r1, r2⟩
theorem psum {w : World} {A : Option Addr} {cap len : Nat} {l : List Int} (h : Sl w A cap l) (hl : l.length = len) (hm : len ≤ 1099511627776) (hK : ShaE.KIn w) :
    Calls Tryd.prog 43 #[.slice A len cap] w fun e w' => e = .returned (.agg (cs (sumI l))) ∧ Below w.heap.size w w' := by
  subst hl
  have := ShaH.sumW (rowL_of h) hm hK
  rw [List.take_of_length_le (Nat.le_refl _)] at this
  exact this
end Go.Proofs.YtechkdhehipliaaDoor.CmS
namespace Go.Proofs.YtechkdhehipliaaDoor.CmX
set_option maxRecDepth 100000
open Go Go.RowKit Byt IdM IdW OpsM OpsW CmM StW CmW

def fewK (c : Com) : Bool := decide (c.ps.length ≤ 20) && (decide (c.op.key.size ≤ 100) && decide (c.op.elem.size ≤ 100))
theorem fewK_iff {c : Com} : fewK c = true ↔ c.ps.length ≤ 20 ∧ c.op.key.size ≤ 100 ∧ c.op.elem.size ≤ 100 := by
  unfold fewK
  simp only [Bool.and_eq_true, decide_eq_true_eq]
theorem okay {c : Com} (h : fewK c = true) (hf : Fit c) : CmR.Okay c := by
  obtain ⟨h1, h2, h3⟩ := fewK_iff.1 h
  exact ⟨hf, by omega, by omega⟩
set_option maxRecDepth 100000 in
set_option maxHeartbeats 4000000 in
theorem few_ret (v : Cv) (w : World) : Calls Tryd.prog 22 #[.agg (cc v)] w fun e w' => e = .returned (.bool (fewK v.c)) ∧ Below w.heap.size w w' := by
  have R : Cel.Box CE (w.alloc (.cells (cc v) 33)) w.heap.size v := Cel.Box.new w v _
  have kb := StW.below_alloc w (.cells (cc v) 33)
  have c3 := cell_ps R
  have c5 := cell_key R
  have c6 := cell_elem R
  obtain ⟨n, hn⟩ : ∃ n, v.c.ps.length = n := ⟨_, rfl⟩
  have hw : ¬ (n : Int) ≤ 20 ∨ ((n : Int) ≤ 20 ∧ (¬ (v.c.op.key.size : Int) ≤ 100 ∨ ((v.c.op.key.size : Int) ≤ 100 ∧ (¬ (v.c.op.elem.size : Int) ≤ 100 ∨ (v.c.op.elem.size : Int) ≤ 100)))) := by omega
  obtain ⟨r, hr⟩ : ∃ r, fewK v.c = r := ⟨_, rfl⟩
  have HR : Hid (r = (decide (n ≤ 20) && (decide (v.c.op.key.size ≤ 100) && decide (v.c.op.elem.size ≤ 100)))) := aside (by rw [← hr, ← hn]; rfl)
  rw [hr]
  rw [hn] at c3
  clear hn hr R
  rcases hw with p | ⟨p1, p | ⟨p2, p | p⟩⟩
  all_goals
    go_enter Tryd.func22, Tryd.ntmps22
    go_wp2_with (first | go_skip)
    go_ret
    exact ⟨StW.ret_bool (by rw [HR.out]; simp; omega), kb⟩
end Go.Proofs.YtechkdhehipliaaDoor.CmX
namespace Go.Proofs.YtechkdhehipliaaDoor.CmY
set_option maxRecDepth 100000
open Go Go.Sort Go.RowKit Byt IdM IdW OpsM OpsW CmM StW CmW

/-- A commit's id. -/
def hashK (c : Com) : Idn := CmS.sumI (putK c)
/-- An id loaded whole, also where that is guarded, and wanted. -/
theorem gid {ops : Array Oper} {rest : List Oper} {o : Oper} {a : Act} {w : World} {Q : Exit → Act → World → Prop} (x : Operand) (ho : o.op = .load 43 x)
    (b off : Nat) (hx : a.eval x = .pointer (some ⟨b, off, none⟩)) (y : Idn) (hc : w.rangeAt b off (bv y.1)) (hw : Region.wanted o (yielded ops a.tmps) = true) (h : wpList Tryd.prog ops Q rest (a.put o.dst (.agg (cs y))) w) : wpList Tryd.prog ops Q (o :: rest) a w :=
  RowC.unguard hw (wpList_load_id rfl x ho b off hx y hc h)
/-- An operation read whole in a region that draws its order. -/
theorem quiet_op {a : Act} {o : Oper} {K : Act → Prop} {w : World} (x : Operand) (ho : o.op = .load 31 x)
    (b off : Nat) (hx : a.eval x = .pointer (some ⟨b, off, none⟩)) (y : Opn) (hc : w.rangeAt b off (opc y).toList) (hk : K (a.put o.dst (.agg (opc y)))) : o.quiet Tryd.prog a (fun w' => ∃ p : Regrown, w' = grow (redrawn w p.d) p.os) K := by
  refine ⟨.agg (opc y), fun u hu => ?_, hk⟩
  obtain ⟨p, rfl⟩ := hu
  have hr : (grow (redrawn w p.d) p.os).rangeAt b off (opc y).toList := fun j v hv => ((below_regrown w p.d p.os).cell (block_lt_of_cell (hc j v hv))).trans (hc j v hv)
  have q := run_loadAt_mid _ b off 31 (opc y).toList _ hr Tryd.underlying31 rfl (info_opl y)
  unfold Oper.quietAt execOp
  simp only [ho, hx, Sem.run_bind, q, Result.andThen_ok, Sem.run_pure]
  exact ⟨rfl, rfl⟩
/-- The bytes, and the error's number, of Put; what Get hands back. -/
def putB (c : Com) : List Int := if mayK c = true then putK c else []
def putN (c : Com) : Int := if mayK c = true then 0 else 1
def PutOut (c : Com) (w : World) (e : Ending) (w' : World) : Prop :=
  ∃ A cap, e = .returned (.tuple #[.slice A (putB c).length cap, .int .i64 (putN c)]) ∧ Sl w' A cap (putB c) ∧ Below w.heap.size w w'
def hashI (c : Com) : Idn := if mayK c = true then hashK c else nought
def HashOut (c : Com) (w : World) (e : Ending) (w' : World) : Prop :=
  e = .returned (.tuple #[.agg (cs (hashI c)), .int .i64 (putN c)]) ∧ Below w.heap.size w w'
def gotC (q : Option (Com × List Int)) : Com := (q.map (·.1)).getD noK
def gotR (q : Option (Com × List Int)) : List Int := (q.map (·.2)).getD []
def gotN (q : Option (Com × List Int)) : Int := if q.isSome = true then 0 else 2
def GetAll (q : Option (Com × List Int)) (w : World) (e : Ending) (w' : World) : Prop :=
  ∃ v A k, e = .returned (.tuple #[.agg (cc v), .slice A (gotR q).length k, .int .i64 (gotN q)]) ∧ v.c = gotC q ∧ In w' v ∧ Sl w' A k (gotR q) ∧ Below w.heap.size w w'
theorem putB_yes {c : Com} (h : mayK c = true) : putB c = putK c ∧ putN c = 0 ∧ hashI c = hashK c := by
  unfold putB putN hashI
  rw [if_pos h, if_pos h, if_pos h]
  exact ⟨rfl, rfl, rfl⟩
theorem putB_no {c : Com} (h : mayK c = false) : putB c = [] ∧ putN c = 1 ∧ hashI c = nought := by
  have h' : ¬ mayK c = true := by rw [h]; simp
  unfold putB putN hashI
  rw [if_neg h', if_neg h', if_neg h']
  exact ⟨rfl, rfl, rfl⟩
theorem putB_len (c : Com) : (putB c).length ≤ 400 := by
  cases h : mayK c with
  | false => rw [(putB_no h).1]; simp
  | true => rw [(putB_yes h).1]; exact putK_len h
theorem putB_B (c : Com) : ∀ x ∈ putB c, B x := by
  cases h : mayK c with
  | false => rw [(putB_no h).1]; simp
  | true => rw [(putB_yes h).1]; exact putK_B c
end Go.Proofs.YtechkdhehipliaaDoor.CmY
namespace Go.Proofs.YtechkdhehipliaaDoor.CmI
set_option maxRecDepth 100000
open Go Go.Sort Go.RowKit Byt EncM EncC IdM IdW IdB OpsM OpsW CmM StW CmW CmD CmG CmE CmF CmY

/-- One cell stored into a block that holds one. -/
theorem wpList_store_one {ops : Array Oper} {rest : List Oper} {o : Oper} {a : Act} {w : World} {Q : Exit → Act → World → Prop} (hgd : o.guard = none) (hd : o.dst = none) (T : TypeId) (x y : Operand) (ho : o.op = .store T x y) (hi : (Tryd.prog.info? T).map (·.size) = some 1)
    (g : Nat) (hx : a.eval x = .pointer (some ⟨g, 0, none⟩)) (old : Value) (hc : One w g old) (v : Value) (hy : a.eval y = v) (hv : v.cells = #[v]) (h1 : v.oneCell' = true)
    (h : ∀ w', One w' g v → (∀ B, B ≤ g → Below B w w') → w.grownBy w' (some g) → wpList Tryd.prog ops Q rest a w') : wpList Tryd.prog ops Q (o :: rest) a w := by
  have hlt := hc.lt
  obtain ⟨t, ht⟩ := hc
  exact RowH.wpList_store_cell hgd hd T x y ho hi g hx old t ht v hy hv h1 (fun w' h1 h2 => h w' ⟨t, h1⟩ (fun B hB => below_grown (Below.refl B w) (by omega) h2 (fun k hk => by injection hk with hk; omega)) h2)
theorem One.kept {w w' : World} {g b : Nat} {v : Value} (h : One w b v) (hg : w.grownBy w' (some g)) (hne : b ≠ g) : One w' b v := by
  have hlt := h.lt
  obtain ⟨t, ht⟩ := h
  exact ⟨t, (hg.block _ hlt (fun e => hne (by injection e))).trans ht⟩
theorem no_one {w : World} {g : Nat} {v : Value} (h : One w g v) (hv : isU8 v = false) : NoU8 w g := by
  intro j u hu
  obtain ⟨t, ht⟩ := h
  rw [cell_of_row w g j _ t (0, 0) ht] at hu
  match j, hu with
  | 0, hu => simp at hu; rw [← hu]; exact hv
  | j + 1, hu => simp at hu
theorem info_e : (Tryd.prog.info? 58).map (·.size) = some 1 := by kernel_rfl
theorem results_g {fn : Func} {p q r : Tmp} (h : fn.results = #[.cell p 33, .cell q 76, .cell r 58]) (tmps : Array Value) (w : World) (g gb gn : Nat) (v : Cv) (A : Option Addr) (n k : Nat) (m : Int)
    (hp : tmps.getD p undef = .pointer (some ⟨g, 0, none⟩)) (hq : tmps.getD q undef = .pointer (some ⟨gb, 0, none⟩)) (hr : tmps.getD r undef = .pointer (some ⟨gn, 0, none⟩)) (hg : Cel.Box CE w g v) (hb : One w gb (.slice A n k)) (hn : One w gn (.int .i64 m)) :
    (results fn tmps).run Tryd.prog w = .ok (.tuple #[.agg (cc v), .slice A n k, .int .i64 m]) w := by
  have cb := hb.cell
  have cn := hn.cell
  have d0 := cell_node hg
  have d1 := cell_seq hg
  have d2 := cell_gen hg
  have d3 := cell_ps hg
  have d4 := cell_kind hg
  have d5 := cell_key hg
  have d6 := cell_elem hg
  have d7 := cell_n hg
  have hp' : tmps[p]?.getD undef = .pointer (some ⟨g, 0, none⟩) := by simpa using hp
  have hq' : tmps[q]?.getD undef = .pointer (some ⟨gb, 0, none⟩) := by simpa using hq
  have hr' : tmps[r]?.getD undef = .pointer (some ⟨gn, 0, none⟩) := by simpa using hr
  simp [results, h, hp', hq', hr', asAddr, go_sem, cb, cn, d0, d1, d2, d3, d4, d5, d6, d7]
  rfl
/-- What lies in the three variables that the deferred function writes. -/
structure Vars (w : World) (gc gb gn : Nat) (v : Cv) (b : Value) (n : Int) : Prop where
  c : Cel.Box CE w gc v
  b : One w gb b
  n : One w gn (.int .i64 n)
/-- What lies in the variables behind a store into none of them. -/
theorem Vars.below {w w' : World} {gc gb gn : Nat} {v : Cv} {b : Value} {n : Int} (h : Vars w gc gb gn v b n) (k : Below w.heap.size w w') : Vars w' gc gb gn v b n := ⟨h.c.below k, h.b.below k, h.n.below k⟩
def tree : Forks.Tree := .free 1 (.two 0 (.act 2 (.act 3 (.act 4 (.act 5 (.act 6 .ends))))) 2 (.two 0 (.act 3 (.act 4 (.act 5 (.act 6 .ends)))) 3 (.act 0 (.act 4 (.act 5 (.act 6 .ends))))))
/-- The post of a region in which nothing panics. -/
def Calm (Q : Exit → Act → World → Prop) : Exit → Act → World → Prop
  | .normal, a, w => Q .normal a w
  | _, _, _ => False
theorem calm {P : Program} {c : Code} {Q : Exit → Act → World → Prop} {a : Act} {w : World} (h : c.wp P (Calm Q) a w) : c.wp P Q a w := wp_mono h (fun e a w hq => by
  cases e with
  | normal => exact hq
  | _ => exact hq.elim)
theorem calm_in {Q : Exit → Act → World → Prop} {a : Act} {w : World} (h : Q .normal a w) : Calm Q .normal a w := h
end Go.Proofs.YtechkdhehipliaaDoor.CmI
