/- How a reading gives a commit that came in. No condition. | Lists of commits in memory. No condition. | What the laws' Two of package dag returns: a contract. | What the document's Put of package ops returns: contracts. | What the document's Put of package commit returns: a contract. | What the document's Hash of package commit returns: a contract. | What the document's Put and Hash of package commit answer, in the form in which both are told. No condition. -/
import Derived.Test.YtechkdhehipliaaDoorEvWJ6
import Derived.Test.YtechkdhehipliaaDoorRowGJ5
import Derived.Test.YtechkdhehipliaaDoorCmSJ4
import Derived.Test.YtechkdhehipliaaDoorRowC
import Derived.Test.YtechkdhehipliaaDoorCmAJ2
import Derived.Test.YtechkdhehipliaaDoorDgJ
import Derived.Test.YtechkdhehipliaaDoorIdOJ6
import Derived.Test.YtechkdhehipliaaDoorOpsP
import Derived.Test.YtechkdhehipliaaDoorCmRJ3
namespace Go.Proofs.YtechkdhehipliaaDoor.OpenK
set_option maxRecDepth 100000
open Go Go.Deep Go.ChangeShapes Go.WideShapes Go.ChangeAt Go.RowKit IdM Byt IdW OpsM OpsW CmM StW CmW

section
variable {H : Type} {enc : TypeId × Value → H} {W : World}
theorem read_ids {P : Program} {t e s : TypeId} (hs : P.underlying s = some (.slice t)) (ht : P.underlying t = some (.array 32 e)) (he : P.underlying e = some (.int .u8)) (hc : P.cellsOf e = 1) (hC : P.cellsOf t = 32) (fuel : Nat) (cs : List Value) (y : DataW H × List MemPlace)
    (hf : DataW.trod enc P W 0 (fun _ => true) true fuel s cs = some y) : ∃ A cap l, cs = [.slice A (List.length l) cap] ∧ SlI W A cap l := by
  rcases DataW.trod_slice hs hf with ⟨rfl, _⟩ | ⟨x, len, cap, elems, rest, n, _, rfl, _, _, hl, hm, hel, hcell, _, _⟩
  · exact ⟨none, 0, [], rfl, SlI.nil W⟩
  · rw [hC] at hcell
    have key : ∀ i, i < len → ∃ y : Idn, ∀ j, j < 32 → W.cell? (x.add (i * 32 + j)) = some (.int .u8 (y.1.getD j 0)) := by
      intro i hi
      have hi1 := hcell i hi
      rw [List.getElem?_eq_getElem (by omega)] at hi1
      rw [Option.bind_eq_some_iff] at hi1
      obtain ⟨cl, hcl, htr⟩ := hi1
      obtain ⟨y, rfl⟩ := OpenI.cells_id ht he hc hC htr
      refine ⟨y, fun j hj => ?_⟩
      obtain ⟨_, _, hg⟩ := World.cells?_some hcl
      have := hg j hj
      rw [Addr.add_add, bv_at _ (by rw [Idn_len]; exact hj)] at this
      exact this
    obtain ⟨l, hll, hp⟩ := OpenI.list_of len key
    refine ⟨some x, cap, l, by rw [hll], by omega, hm, .inr ⟨x, rfl, fun i hi => ?_⟩⟩
    rw [flat_length, hll] at hi
    have f := flat_at l (i / 32) (i % 32) (by rw [hll]; omega) (by omega)
    have q := hp (i / 32) (by omega) (i % 32) (by omega)
    rw [show i / 32 * 32 + i % 32 = i by omega] at f q
    rw [q, f]
theorem read_ev {t : TypeId} {f0 f1 : Field} (hs : Tryd.prog.underlying t = some (.struct #[f0, f1])) (hC : Tryd.prog.cellsOf t = 2)
    (o0 : f0.offset = 0) (o1 : f1.offset = 1) (k0 : Tryd.prog.cellsOf f0.type = 1) (k1 : Tryd.prog.cellsOf f1.type = 1)
    (h0 : Tryd.prog.underlying f0.type = some (.int .i64)) (h1 : Tryd.prog.underlying f1.type = some (.int .i64)) (fuel : Nat) (cs : List Value) (y : DataW H × List MemPlace)
    (h : DataW.trod enc Tryd.prog W 0 (fun _ => true) true fuel t cs = some y) : ∃ m n : Int, cs = [.int .i64 m, .int .i64 n] ∧ I64 m ∧ I64 n := by
  obtain ⟨xs, n, _, _, hl, hlen, hf⟩ := DataW.trod_struct hs h
  rw [hC] at hl
  obtain ⟨a, b, rfl⟩ : ∃ a b, cs = [a, b] := by
    match cs, hl with
    | [a, b], _ => exact ⟨a, b, rfl⟩
  obtain ⟨y0, y1, rfl⟩ : ∃ a b, xs = [a, b] := by
    match xs, hlen with
    | [a, b], _ => exact ⟨a, b, rfl⟩
  have e0 := hf 0 f0 rfl
  have e1 := hf 1 f1 rfl
  rw [o0, k0] at e0
  rw [o1, k1] at e1
  simp only [List.drop_zero, List.take_succ_cons, List.take_zero, List.drop_succ_cons, List.getElem?_cons_zero, List.getElem?_cons_succ] at e0 e1
  obtain ⟨s, q0, _, w0⟩ := DataW.trod_int h0 e0
  obtain ⟨m, q1, _, w1⟩ := DataW.trod_int h1 e1
  simp only [List.cons.injEq, and_true] at q0 q1
  subst q0 q1
  exact ⟨s, m, rfl, OpenO.i64_of w0, OpenO.i64_of w1⟩
theorem read_op {t : TypeId} {f0 f1 f2 f3 : Field} (hs : Tryd.prog.underlying t = some (.struct #[f0, f1, f2, f3])) (hC : Tryd.prog.cellsOf t = 4)
    (o0 : f0.offset = 0) (o1 : f1.offset = 1) (o2 : f2.offset = 2) (o3 : f3.offset = 3) (k0 : Tryd.prog.cellsOf f0.type = 1) (k1 : Tryd.prog.cellsOf f1.type = 1) (k2 : Tryd.prog.cellsOf f2.type = 1) (k3 : Tryd.prog.cellsOf f3.type = 1)
    (h0 : Tryd.prog.underlying f0.type = some (.int .i64)) (h1 : Tryd.prog.underlying f1.type = some .string) (h2 : Tryd.prog.underlying f2.type = some .string) (h3 : Tryd.prog.underlying f3.type = some (.int .i64)) (fuel : Nat) (cs : List Value) (y : DataW H × List MemPlace)
    (h : DataW.trod enc Tryd.prog W 0 (fun _ => true) true fuel t cs = some y) : ∃ o : Opn, cs = (opc o).toList ∧ OpsC.Fit o := by
  obtain ⟨xs, n, _, _, hl, hlen, hf⟩ := DataW.trod_struct hs h
  rw [hC] at hl
  obtain ⟨a, b, c, d, rfl⟩ : ∃ a b c d, cs = [a, b, c, d] := by
    match cs, hl with
    | [a, b, c, d], _ => exact ⟨a, b, c, d, rfl⟩
  obtain ⟨y0, y1, y2, y3, rfl⟩ : ∃ a b c d, xs = [a, b, c, d] := by
    match xs, hlen with
    | [a, b, c, d], _ => exact ⟨a, b, c, d, rfl⟩
  have e0 := hf 0 f0 rfl
  have e1 := hf 1 f1 rfl
  have e2 := hf 2 f2 rfl
  have e3 := hf 3 f3 rfl
  rw [o0, k0] at e0
  rw [o1, k1] at e1
  rw [o2, k2] at e2
  rw [o3, k3] at e3
  simp only [List.drop_zero, List.take_succ_cons, List.take_zero, List.drop_succ_cons, List.getElem?_cons_zero, List.getElem?_cons_succ] at e0 e1 e2 e3
  obtain ⟨s, q0, _, w0⟩ := DataW.trod_int h0 e0
  obtain ⟨s1, q1, _, w1⟩ := DataW.trod_string h1 e1
  obtain ⟨s2, q2, _, w2⟩ := DataW.trod_string h2 e2
  obtain ⟨m, q3, _, w3⟩ := DataW.trod_int h3 e3
  simp only [List.cons.injEq, and_true] at q0 q1 q2 q3
  subst q0 q1 q2 q3
  exact ⟨⟨s, s1, s2, m⟩, rfl, ⟨OpenO.i64_of w0, OpenO.i64_of w3, w1, w2⟩⟩
theorem read_fields {t : TypeId} {f0 f1 f2 f3 : Field} (hs : Tryd.prog.underlying t = some (.struct #[f0, f1, f2, f3])) (hC : Tryd.prog.cellsOf t = 8)
    (o0 : f0.offset = 0) (o1 : f1.offset = 2) (o2 : f2.offset = 3) (o3 : f3.offset = 4) (k0 : Tryd.prog.cellsOf f0.type = 2) (k1 : Tryd.prog.cellsOf f1.type = 1) (k2 : Tryd.prog.cellsOf f2.type = 1) (k3 : Tryd.prog.cellsOf f3.type = 4)
    (t0 : f0.type = 28) (t1 : f1.type = 3) (t2 : f2.type = 29) (t3 : f3.type = 31) (fuel : Nat) (cs : List Value) (y : DataW H × List MemPlace)
    (h : DataW.trod enc Tryd.prog W 0 (fun _ => true) true fuel t cs = some y) : ∃ v : Cv, cs = CE.enc v ∧ In W v ∧ Fit v.c := by
  obtain ⟨xs, n, _, _, hl, hlen, hf⟩ := DataW.trod_struct hs h
  rw [hC] at hl
  obtain ⟨a, b, c, d, p, q, r, s, rfl⟩ : ∃ a b c d p q r s, cs = [a, b, c, d, p, q, r, s] := by
    match cs, hl with
    | [a, b, c, d, p, q, r, s], _ => exact ⟨a, b, c, d, p, q, r, s, rfl⟩
  obtain ⟨y0, y1, y2, y3, rfl⟩ : ∃ a b c d, xs = [a, b, c, d] := by
    match xs, hlen with
    | [a, b, c, d], _ => exact ⟨a, b, c, d, rfl⟩
  have e0 := hf 0 f0 rfl
  have e1 := hf 1 f1 rfl
  have e2 := hf 2 f2 rfl
  have e3 := hf 3 f3 rfl
  rw [o0, k0, t0] at e0
  rw [o1, k1, t1] at e1
  rw [o2, k2, t2] at e2
  rw [o3, k3, t3] at e3
  simp only [List.drop_zero, List.take_succ_cons, List.take_zero, List.drop_succ_cons, List.getElem?_cons_zero, List.getElem?_cons_succ] at e0 e1 e2 e3
  obtain ⟨m1, m2, q0, w0, w1⟩ := read_ev Tryd.underlying28 (by kernel_rfl) rfl rfl (by kernel_rfl) (by kernel_rfl) Tryd.underlying3 Tryd.underlying3 _ _ _ e0
  obtain ⟨g, q1, _, w2⟩ := DataW.trod_int Tryd.underlying3 e1
  obtain ⟨A, cap, l, q2, S⟩ := read_ids Tryd.underlying29 Tryd.underlying43 Tryd.underlying5 (by kernel_rfl) (by kernel_rfl) _ _ _ e2
  obtain ⟨o, q3, w3⟩ := read_op Tryd.underlying31 (by kernel_rfl) rfl rfl rfl rfl (by kernel_rfl) (by kernel_rfl) (by kernel_rfl) (by kernel_rfl) Tryd.underlying3 Tryd.underlying9 Tryd.underlying9 Tryd.underlying3 _ _ _ e3
  simp only [opc, List.cons.injEq, and_true] at q0 q1 q2 q3
  obtain ⟨rfl, rfl⟩ := q0
  obtain rfl := q1
  obtain rfl := q2
  obtain ⟨rfl, rfl, rfl, rfl⟩ := q3
  exact ⟨⟨A, cap, ⟨m1, m2, g, l, o⟩⟩, rfl, S, ⟨w0, w1, OpenO.i64_of w2, w3⟩⟩
theorem read_com (fuel : Nat) (cs : List Value) (y : DataW H × List MemPlace)
    (h : DataW.trod enc Tryd.prog W 0 (fun _ => true) true fuel 33 cs = some y) : ∃ v : Cv, cs = CE.enc v ∧ In W v ∧ Fit v.c :=
  read_fields Tryd.underlying33 (by kernel_rfl) rfl rfl rfl rfl (by kernel_rfl) (by kernel_rfl) (by kernel_rfl) (by kernel_rfl) rfl rfl rfl rfl fuel cs y h
theorem open_com {base : Nat} {v : Value} {d : DataW H} {p : List MemPlace}
    (hval : Value.okWide Tryd.prog W .any base 33 v) (h : DataW.Trod enc Tryd.prog W 0 (fun _ => true) true 33 v d p) : ∃ x : Cv, v = .agg (cc x) ∧ In W x ∧ Fit x.c := by
  obtain ⟨cs, rfl, hsz⟩ := okWide_struct Tryd.underlying33 hval
  obtain ⟨fuel, hf⟩ := h
  obtain ⟨x, hx, hi, hg⟩ := read_com fuel _ _ hf
  refine ⟨x, ?_, hi, hg⟩
  have hx2 : cs.toList = CE.enc x := by simpa [Value.cells] using hx
  have : cs.toList = (cc x).toList := hx2
  rw [show cs = cc x from Array.toList_inj.1 this]
end
end Go.Proofs.YtechkdhehipliaaDoor.OpenK
namespace Go.Proofs.YtechkdhehipliaaDoor.DgW
set_option maxRecDepth 100000
open Go Go.Sort Go.ChangeShapes Go.WideShapes Go.ChangeAt Go.RowKit Byt IdM IdW OpsM OpsW RowS CmM StW CmW CmX CmY

/-- How a commit lies in a row. -/
def KE : RowS.Enc Cv where
  T := 33
  S := 22
  k := 8
  bytes := 96
  d := _
  enc v := [.int .i64 v.c.node, .int .i64 v.c.seq, .int .i64 v.c.gen, .slice v.a v.c.ps.length v.k, .int .i64 v.c.op.kind, .string v.c.op.key, .string v.c.op.elem, .int .i64 v.c.op.n]
  zero := noV
  len _ := rfl
  one c v hv := by
    simp only [List.mem_cons, List.not_mem_nil, or_false] at hv
    rcases hv with rfl | rfl | rfl | rfl | rfl | rfl | rfl | rfl <;> rfl
  pos := by omega
  small := by omega
  info := by kernel_rfl
  slice := Tryd.underlying22
  under := Tryd.underlying33
  row := rfl
/-- The slice holds these commits, whose parents lie in slices. -/
structure SlK (w : World) (A : Option Addr) (cap : Nat) (l : List Cv) : Prop where
  row : SlR KE w A cap l
  each : ∀ v ∈ l, In w v ∧ Fit v.c
theorem SlK.below {w w' : World} {A : Option Addr} {cap : Nat} {l : List Cv} (h : SlK w A cap l) (hb : Below w.heap.size w w') : SlK w' A cap l :=
  ⟨h.row.below hb, fun v hv => ⟨(h.each v hv).1.below hb, (h.each v hv).2⟩⟩
theorem SlK.nil (w : World) : SlK w none 0 [] := ⟨SlR.nil KE w, by simp⟩
def coms (l : List Cv) : List Com := l.map (·.c)
theorem coms_len (l : List Cv) : (coms l).length = l.length := List.length_map ..
theorem coms_at {l : List Cv} {i : Nat} {x : Cv} (h : l[i]? = some x) : (coms l)[i]? = some x.c := by
  unfold coms
  rw [List.getElem?_map, h]
  rfl
section
variable {H : Type} {enc : TypeId × Value → H} {W : World}
theorem open_coms {base : Nat} {v : Value} {d : DataW H} {p : List MemPlace}
    (hval : Value.okWide Tryd.prog W .any base 22 v) (h : DataW.Trod enc Tryd.prog W 0 (fun _ => true) true 22 v d p) : ∃ A cap l, v = .slice A (List.length l) cap ∧ SlK W A cap l := by
  obtain ⟨A, cap, l, e, S, hg⟩ := OpenR.open_rows KE (good := fun x => In W x ∧ Fit x.c) (by kernel_rfl) (fun fuel cs y hh => OpenK.read_com fuel cs y hh) hval h
  exact ⟨A, cap, l, e, S, hg⟩
end
/-- Are there at most so many, each with few parents and short texts? -/
def fewD (l : List Com) (m : Int) : Bool := decide ((l.length : Int) ≤ m) && l.all fewK
theorem SlK.plain {w : World} {A : Option Addr} {cap : Nat} {l : List Cv} (h : SlK w A cap l) (hp : 0 < l.length) :
    ∃ b off, A = some ⟨b, off, none⟩ ∧ b < w.heap.size ∧ ∀ i x, l[i]? = some x → w.rangeAt b (off + i * 8) (cc x).toList := h.row.plain hp
theorem SlK.len {w : World} {A : Option Addr} {cap : Nat} {l : List Cv} (h : SlK w A cap l) : l.length ≤ 9223372036854775807 := by
  have h1 := h.row.1
  have h2 := h.row.2.1
  unfold maxLen at h2
  omega
theorem range_on {w w' : World} {b off : Nat} {x : Cv} (h : w.rangeAt b off (cc x).toList) (hb : Below w.heap.size w w') : w'.rangeAt b off (cc x).toList := RowS.range_below h hb
section
variable {ops : Array Oper} {rest : List Oper} {o : Oper} {a : Act} {w : World} {Q : Exit → Act → World → Prop}
/-- A commit loaded whole out of a row, also where that is guarded, and wanted. -/
theorem load_at (hgd : o.guard = none) (x : Operand) (ho : o.op = .load 33 x)
    (b off : Nat) (hx : a.eval x = .pointer (some ⟨b, off, none⟩)) (y : Cv) (hc : w.rangeAt b off (cc y).toList) (h : wpList Tryd.prog ops Q rest (a.put o.dst (.agg (cc y))) w) : wpList Tryd.prog ops Q (o :: rest) a w :=
  RowS.wpList_load_at KE hgd x ho b off hx y hc h
end
/-- A commit read whole in a region that draws its order. -/
theorem quiet_com {a : Act} {o : Oper} {K : Act → Prop} {w : World} (x : Operand) (ho : o.op = .load 33 x)
    (b off : Nat) (hx : a.eval x = .pointer (some ⟨b, off, none⟩)) (y : Cv) (hc : w.rangeAt b off (cc y).toList) (hk : K (a.put o.dst (.agg (cc y)))) : o.quiet Tryd.prog a (fun w' => ∃ p : Regrown, w' = grow (redrawn w p.d) p.os) K :=
  RowK.quiet_row KE x ho b off hx y hc hk
theorem drop_at {α : Type} {l : List α} {i : Nat} {x : α} (h : l[i]? = some x) : l.drop i = x :: l.drop (i + 1) := by
  obtain ⟨hi, e⟩ := List.getElem?_eq_some_iff.1 h
  rw [← e]
  exact List.drop_eq_getElem_cons hi
/-- A slice of one id, made: the world behind it under a name of its own. -/
theorem build_one {w : World} {ops : Array Oper} {rest : List Oper} {o : Oper} {a : Act} {Q : Exit → Act → World → Prop} (hgd : o.guard = none) (x : Operand) (ho : o.op = .buildSlice 29 1 #[(0, x)])
    (y : Idn) (hx : a.eval x = .agg (cs y)) (h : ∀ w1, SlI w1 (some ⟨w.heap.size, 0, none⟩) 1 [y] → Below w.heap.size w w1 → wpList Tryd.prog ops Q rest (a.put o.dst (.slice (some ⟨w.heap.size, 0, none⟩) 1 1)) w1) : wpList Tryd.prog ops Q (o :: rest) a w :=
  IdB.wpList_build1 hgd x ho y hx (h _ (SlI.new1 w y _) ((Below.refl _ _).alloc (Nat.le_refl _) _))
/-- The ids of commits, if all may be. -/
def idsD (l : List Com) : List Idn := if l.all mayK = true then l.map hashK else []
/-- Are two lists of commits the same? -/
def listB : List Com → List Com → Bool
  | [], [] => true
  | a :: l, b :: m => CmR.sameK a b && listB l m
  | _, _ => false
theorem listB_iff : ∀ {l m : List Com}, listB l m = true ↔ l = m
  | [], [] => by simp [listB]
  | [], b :: m => by simp [listB]
  | a :: l, [] => by simp [listB]
  | a :: l, b :: m => by rw [listB, Bool.and_eq_true, CmR.sameK_iff, listB_iff, List.cons.injEq]
theorem listB_len {l m : List Com} (h : l.length ≠ m.length) : listB l m = false := by
  cases hb : listB l m with
  | false => rfl
  | true => exact absurd (by rw [listB_iff.1 hb]) h
end Go.Proofs.YtechkdhehipliaaDoor.DgW
namespace Go.Proofs.YtechkdhehipliaaDoor.DgE
set_option maxRecDepth 100000
open Go Go.Sort Go.RowKit Byt IdM IdW OpsM OpsW CmM StW CmW CmX CmY CmA DgM DgW DgJ

set_option maxRecDepth 100000 in
set_option maxHeartbeats 16000000 in
theorem two_ret (w : World) (hK : ShaE.KIn w) : Calls Tryd.prog 20 #[] w fun e w' => ∃ A cap l, e = .returned (.slice A (List.length l) cap) ∧ SlK w' A cap l ∧ coms l = two ∧ Below w.heap.size w w' := by
  have hch := fun W K => hash_ret v1 W (in1 W) fit1 K
  unfold HashOut at hch
  obtain ⟨y1, y2, y3⟩ := putB_yes may1
  rw [show hashI v1.c = I1 from y3.trans id1, show putN v1.c = 0 from y2] at hch
  clear y1 y2 y3
  have F2 : CmW.Fit (c2 I1) := ⟨⟨by decide, by decide⟩, ⟨by decide, by decide⟩, ⟨by decide, by decide⟩, ⟨⟨by decide, by decide⟩, ⟨by decide, by decide⟩, of_decide_eq_true (by kernel_rfl), of_decide_eq_true (by kernel_rfl)⟩⟩
  have HF2 := aside F2
  clear F2
  obtain ⟨I, hI⟩ : ∃ I, I1 = I := ⟨_, rfl⟩
  rw [hI] at hch HF2
  have HI := aside hI
  clear hI
  go_enter Tryd.func20, Tryd.ntmps20
  go_wp2_with (first | go_skip)
  refine (some_ret _).mono ?_
  rintro e w1 ⟨rfl, k1⟩
  go_wp2_with (first | go_skip | (refine Cel.wpList_store_new CE rfl _ _ rfl w1 _ _ rfl v1 _ rfl rfl rfl rfl ?_; intro w2 B2 k2 g2 s2; have b2 := k1.trans (k2.mono k1.size); clear s2) | (refine Cel.wpList_load_box CE rfl _ rfl _ rfl v1 B2 ?_))
  refine (hch _ (hK.below b2)).mono ?_
  rintro e w3 ⟨rfl, k3⟩
  have b3 := b2.trans (k3.mono b2.size)
  have B3 := B2.below k3
  clear hch g2 B2 k3 b2
  go_wp2_with (first | go_skip | (refine IdJ.wpList_alloc_id rfl rfl ?_) | (refine CmG.wpList_store_id rfl _ _ rfl _ nought _ rfl I _ rfl rfl rfl ?_; intro w4 G4 k4 s4; have b4 := b3.trans (k4.mono b3.size); have B4 := B3.below k4; clear s4) | (refine Cel.wpList_load_box CE rfl _ rfl _ rfl v1 B4 ?_) | (refine wpList_load_id rfl _ rfl _ _ rfl I G4.range ?_) | (refine build_one rfl _ rfl I rfl ?_; intro w5 S5 k5; have b5 := b4.trans (k5.mono b4.size)) | (refine RowC.wpList_lit2 KE (of_decide_eq_true rfl) rfl _ _ rfl v1 (⟨some ⟨w4.heap.size, 0, none⟩, 1, c2 I⟩ : Cv) rfl rfl ?_; intro w6 S6 k6; have b6 := b5.trans (k6.mono b5.size)))
  go_ret
  refine ⟨some ⟨w5.heap.size, 0, none⟩, 2, [v1, ⟨some ⟨w4.heap.size, 0, none⟩, 1, c2 I⟩], rfl, ⟨S6, fun v hv => ?_⟩, ?_, b6⟩
  · rcases List.mem_cons.1 hv with rfl | hv
    · exact ⟨in1 _, fit1⟩
    · rw [List.mem_singleton] at hv
      subst hv
      exact ⟨S5.below k6, HF2.out⟩
  · rw [two, HI.out]
    rfl
end Go.Proofs.YtechkdhehipliaaDoor.DgE
namespace Go.Proofs.YtechkdhehipliaaDoor.OpsS
set_option maxRecDepth 100000
open Go Go.RowKit Go.Sort Byt OpsM OpsK OpsW OpsC EncM EncC OpsP





end Go.Proofs.YtechkdhehipliaaDoor.OpsS
namespace Go.Proofs.YtechkdhehipliaaDoor.CmP
set_option maxRecDepth 100000
open Go Go.RowKit Byt EncM EncC EncT IdM IdW OpsM OpsW CmM StW CmW CmR

/-- A row of one's own stays so, whatever is made besides. -/
theorem owns_on {w w' : World} {b n : Nat} {v : Value} {l : List Value} (h : w.ownsRow b 5 1 v n l) (k : Below w.heap.size w w') : w'.ownsRow b 5 1 v n l := owns_below h k
theorem num_B (n : Nat) : ∀ x ∈ numL n, B x := numL_range n
theorem one_next {l : List Int} {k : Nat} (h : k < l.length) : l.take (k + 1) = l.take k ++ [l.getD k 0] := by
  rw [List.take_succ_eq_append_getElem h, List.getD_eq_getElem?_getD, List.getElem?_eq_getElem h]
  rfl
theorem ids_next {l : List Idn} {j : Nat} (h : j < l.length) : flatL (l.take (j + 1)) = flatL (l.take j) ++ (l.getD j nought).val := by
  rw [List.take_succ_eq_append_getElem h, flatL_append, List.getD_eq_getElem?_getD, List.getElem?_eq_getElem h]
  simp [flatL]
/-- A commit in bytes, in a row of one's own; none. -/
def Yes (c : Com) (w : World) (e : Ending) (w' : World) : Prop :=
  ∃ v, e = .returned (.tuple #[v, .int .i64 0]) ∧ w'.ownsRow w.heap.size 5 1 v (putK c).length (bv (putK c)) ∧ Below w.heap.size w w'
def No (w : World) (e : Ending) (w' : World) : Prop := e = .returned (.tuple #[.slice none 0 0, .int .i64 1]) ∧ Below w.heap.size w w'
theorem owns_lower {w : World} {b c n : Nat} {e : TypeId} {v : Value} {l : List Value} (h : w.ownsRow b e 1 v n l) (hc : c ≤ b) : w.ownsRow c e 1 v n l := by
  refine ⟨h.1, ?_⟩
  rcases h.2 with h | ⟨q, cap, cur, hv, hb, h⟩
  · exact Or.inl h
  · exact Or.inr ⟨q, cap, cur, hv, Nat.le_trans hc hb, h⟩
end Go.Proofs.YtechkdhehipliaaDoor.CmP
namespace Go.Proofs.YtechkdhehipliaaDoor.CmH
set_option maxRecDepth 100000
open Go Go.RowKit Byt IdM IdW OpsM OpsW CmM StW CmW CmR CmP CmY

/-- The id, or none, and an error's number, are handed back. -/
def Out (c : Com) (w : World) (e : Ending) (w' : World) : Prop :=
  e = .returned (.tuple #[.agg (cs (if mayK c = true then hashK c else nought)), .int .i64 (if mayK c = true then 0 else 1)]) ∧ Below w.heap.size w w'
end Go.Proofs.YtechkdhehipliaaDoor.CmH
namespace Go.Proofs.YtechkdhehipliaaDoor.CmY
set_option maxRecDepth 100000
open Go Go.Sort Go.RowKit Byt IdM IdW OpsM OpsW CmM StW CmW

end Go.Proofs.YtechkdhehipliaaDoor.CmY
