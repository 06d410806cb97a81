/- How a reading gives a commit that came in. No condition. | Lists of commits in memory. No condition. | What the laws' Two of package dag returns: a contract. | What the document's Put of package ops returns: contracts. -/
import Derived.Test.YtechkdhehipliaaGreatDoorRowFJ7
import Derived.Test.YtechkdhehipliaaGreatDoorDgJJ6
import Derived.Test.YtechkdhehipliaaGreatDoorRefWJ5
import Derived.Test.YtechkdhehipliaaGreatDoorRowSJ3
import Derived.Test.YtechkdhehipliaaGreatDoorCmAJ3
import Derived.Test.YtechkdhehipliaaGreatDoorRefEJ5
import Derived.Test.YtechkdhehipliaaGreatDoorEvRJ4
import Derived.Test.YtechkdhehipliaaGreatDoorCmQJ3
namespace Go.Proofs.YtechkdhehipliaaGreatDoor.OpenK
set_option maxRecDepth 100000
open Go Go.Deep Go.ChangeShapes Go.WideShapes Go.ChangeAt Go.RowKit IdM Byt IdW OpsM OpsW CmM StW CmW

section
variable {H : Type} {enc : TypeId × Value → H} {W : World}
theorem read_ids {P : Program} {t e s : TypeId} (hs : P.underlying s = some (.slice t)) (ht : P.underlying t = some (.array 32 e)) (he : P.underlying e = some (.int .u8)) (hc : P.cellsOf e = 1) (hC : P.cellsOf t = 32) (fuel : Nat) (cs : List Value) (y : DataW H × List MemPlace)
    (hf : DataW.trod enc P W 0 (fun _ => true) true fuel s cs = some y) : ∃ A cap l, cs = [.slice A (List.length l) cap] ∧ SlI W A cap l := by
  rcases DataW.trod_slice hs hf with ⟨rfl, _⟩ | ⟨x, len, cap, elems, rest, n, _, rfl, _, _, hl, hm, hel, hcell, _, _⟩
  · exact ⟨none, 0, [], rfl, SlI.nil W⟩
  · rw [hC] at hcell
    have key : ∀ i, i < len → ∃ y : Idn, ∀ j, j < 32 → W.cell? (x.add (i * 32 + j)) = some (.int .u8 (y.1.getD j 0)) := by
      intro i hi
      have hi1 := hcell i hi
      rw [List.getElem?_eq_getElem (by omega)] at hi1
      rw [Option.bind_eq_some_iff] at hi1
      obtain ⟨cl, hcl, htr⟩ := hi1
      obtain ⟨y, rfl⟩ := OpenI.cells_id ht he hc hC htr
      refine ⟨y, fun j hj => ?_⟩
      obtain ⟨_, _, hg⟩ := World.cells?_some hcl
      have := hg j hj
      rw [Addr.add_add, bv_at _ (by rw [Idn_len]; exact hj)] at this
      exact this
    obtain ⟨l, hll, hp⟩ := OpenI.list_of len key
    refine ⟨some x, cap, l, by rw [hll], by omega, hm, .inr ⟨x, rfl, fun i hi => ?_⟩⟩
    rw [flat_length, hll] at hi
    have f := flat_at l (i / 32) (i % 32) (by rw [hll]; omega) (by omega)
    have q := hp (i / 32) (by omega) (i % 32) (by omega)
    rw [show i / 32 * 32 + i % 32 = i by omega] at f q
    rw [q, f]
theorem read_ev {t : TypeId} {f0 f1 : Field} (hs : Tryz.prog.underlying t = some (.struct #[f0, f1])) (hC : Tryz.prog.cellsOf t = 2)
    (o0 : f0.offset = 0) (o1 : f1.offset = 1) (k0 : Tryz.prog.cellsOf f0.type = 1) (k1 : Tryz.prog.cellsOf f1.type = 1)
    (h0 : Tryz.prog.underlying f0.type = some (.int .i64)) (h1 : Tryz.prog.underlying f1.type = some (.int .i64)) (fuel : Nat) (cs : List Value) (y : DataW H × List MemPlace)
    (h : DataW.trod enc Tryz.prog W 0 (fun _ => true) true fuel t cs = some y) : ∃ m n : Int, cs = [.int .i64 m, .int .i64 n] ∧ I64 m ∧ I64 n := by
  obtain ⟨xs, n, _, _, hl, hlen, hf⟩ := DataW.trod_struct hs h
  rw [hC] at hl
  obtain ⟨a, b, rfl⟩ : ∃ a b, cs = [a, b] := by
    match cs, hl with
    | [a, b], _ => exact ⟨a, b, rfl⟩
  obtain ⟨y0, y1, rfl⟩ : ∃ a b, xs = [a, b] := by
    match xs, hlen with
    | [a, b], _ => exact ⟨a, b, rfl⟩
  have e0 := hf 0 f0 rfl
  have e1 := hf 1 f1 rfl
  rw [o0, k0] at e0
  rw [o1, k1] at e1
  simp only [List.drop_zero, List.take_succ_cons, List.take_zero, List.drop_succ_cons, List.getElem?_cons_zero, List.getElem?_cons_succ] at e0 e1
  obtain ⟨s, q0, _, w0⟩ := DataW.trod_int h0 e0
  obtain ⟨m, q1, _, w1⟩ := DataW.trod_int h1 e1
  simp only [List.cons.injEq, and_true] at q0 q1
  subst q0 q1
  exact ⟨s, m, rfl, OpenO.i64_of w0, OpenO.i64_of w1⟩
theorem read_op {t : TypeId} {f0 f1 f2 f3 : Field} (hs : Tryz.prog.underlying t = some (.struct #[f0, f1, f2, f3])) (hC : Tryz.prog.cellsOf t = 4)
    (o0 : f0.offset = 0) (o1 : f1.offset = 1) (o2 : f2.offset = 2) (o3 : f3.offset = 3) (k0 : Tryz.prog.cellsOf f0.type = 1) (k1 : Tryz.prog.cellsOf f1.type = 1) (k2 : Tryz.prog.cellsOf f2.type = 1) (k3 : Tryz.prog.cellsOf f3.type = 1)
    (h0 : Tryz.prog.underlying f0.type = some (.int .i64)) (h1 : Tryz.prog.underlying f1.type = some .string) (h2 : Tryz.prog.underlying f2.type = some .string) (h3 : Tryz.prog.underlying f3.type = some (.int .i64)) (fuel : Nat) (cs : List Value) (y : DataW H × List MemPlace)
    (h : DataW.trod enc Tryz.prog W 0 (fun _ => true) true fuel t cs = some y) : ∃ o : Opn, cs = (opc o).toList ∧ OpsC.Fit o := by
  obtain ⟨xs, n, _, _, hl, hlen, hf⟩ := DataW.trod_struct hs h
  rw [hC] at hl
  obtain ⟨a, b, c, d, rfl⟩ : ∃ a b c d, cs = [a, b, c, d] := by
    match cs, hl with
    | [a, b, c, d], _ => exact ⟨a, b, c, d, rfl⟩
  obtain ⟨y0, y1, y2, y3, rfl⟩ : ∃ a b c d, xs = [a, b, c, d] := by
    match xs, hlen with
    | [a, b, c, d], _ => exact ⟨a, b, c, d, rfl⟩
  have e0 := hf 0 f0 rfl
  have e1 := hf 1 f1 rfl
  have e2 := hf 2 f2 rfl
  have e3 := hf 3 f3 rfl
  rw [o0, k0] at e0
  rw [o1, k1] at e1
  rw [o2, k2] at e2
  rw [o3, k3] at e3
  simp only [List.drop_zero, List.take_succ_cons, List.take_zero, List.drop_succ_cons, List.getElem?_cons_zero, List.getElem?_cons_succ] at e0 e1 e2 e3
  obtain ⟨s, q0, _, w0⟩ := DataW.trod_int h0 e0
  obtain ⟨s1, q1, _, w1⟩ := DataW.trod_string h1 e1
  obtain ⟨s2, q2, _, w2⟩ := DataW.trod_string h2 e2
  obtain ⟨m, q3, _, w3⟩ := DataW.trod_int h3 e3
  simp only [List.cons.injEq, and_true] at q0 q1 q2 q3
  subst q0 q1 q2 q3
  exact ⟨⟨s, s1, s2, m⟩, rfl, ⟨OpenO.i64_of w0, OpenO.i64_of w3, w1, w2⟩⟩
theorem read_fields {t : TypeId} {f0 f1 f2 f3 : Field} (hs : Tryz.prog.underlying t = some (.struct #[f0, f1, f2, f3])) (hC : Tryz.prog.cellsOf t = 8)
    (o0 : f0.offset = 0) (o1 : f1.offset = 2) (o2 : f2.offset = 3) (o3 : f3.offset = 4) (k0 : Tryz.prog.cellsOf f0.type = 2) (k1 : Tryz.prog.cellsOf f1.type = 1) (k2 : Tryz.prog.cellsOf f2.type = 1) (k3 : Tryz.prog.cellsOf f3.type = 4)
    (t0 : f0.type = 34) (t1 : f1.type = 3) (t2 : f2.type = 23) (t3 : f3.type = 36) (fuel : Nat) (cs : List Value) (y : DataW H × List MemPlace)
    (h : DataW.trod enc Tryz.prog W 0 (fun _ => true) true fuel t cs = some y) : ∃ v : Cv, cs = CE.enc v ∧ In W v ∧ Fit v.c := by
  obtain ⟨xs, n, _, _, hl, hlen, hf⟩ := DataW.trod_struct hs h
  rw [hC] at hl
  obtain ⟨a, b, c, d, p, q, r, s, rfl⟩ : ∃ a b c d p q r s, cs = [a, b, c, d, p, q, r, s] := by
    match cs, hl with
    | [a, b, c, d, p, q, r, s], _ => exact ⟨a, b, c, d, p, q, r, s, rfl⟩
  obtain ⟨y0, y1, y2, y3, rfl⟩ : ∃ a b c d, xs = [a, b, c, d] := by
    match xs, hlen with
    | [a, b, c, d], _ => exact ⟨a, b, c, d, rfl⟩
  have e0 := hf 0 f0 rfl
  have e1 := hf 1 f1 rfl
  have e2 := hf 2 f2 rfl
  have e3 := hf 3 f3 rfl
  rw [o0, k0, t0] at e0
  rw [o1, k1, t1] at e1
  rw [o2, k2, t2] at e2
  rw [o3, k3, t3] at e3
  simp only [List.drop_zero, List.take_succ_cons, List.take_zero, List.drop_succ_cons, List.getElem?_cons_zero, List.getElem?_cons_succ] at e0 e1 e2 e3
  obtain ⟨m1, m2, q0, w0, w1⟩ := read_ev Tryz.underlying34 (by kernel_rfl) rfl rfl (by kernel_rfl) (by kernel_rfl) Tryz.underlying3 Tryz.underlying3 _ _ _ e0
  obtain ⟨g, q1, _, w2⟩ := DataW.trod_int Tryz.underlying3 e1
  obtain ⟨A, cap, l, q2, S⟩ := read_ids Tryz.underlying23 Tryz.underlying42 Tryz.underlying5 (by kernel_rfl) (by kernel_rfl) _ _ _ e2
  obtain ⟨o, q3, w3⟩ := read_op Tryz.underlying36 (by kernel_rfl) rfl rfl rfl rfl (by kernel_rfl) (by kernel_rfl) (by kernel_rfl) (by kernel_rfl) Tryz.underlying3 Tryz.underlying9 Tryz.underlying9 Tryz.underlying3 _ _ _ e3
  simp only [opc, List.cons.injEq, and_true] at q0 q1 q2 q3
  obtain ⟨rfl, rfl⟩ := q0
  obtain rfl := q1
  obtain rfl := q2
  obtain ⟨rfl, rfl, rfl, rfl⟩ := q3
  exact ⟨⟨A, cap, ⟨m1, m2, g, l, o⟩⟩, rfl, S, ⟨w0, w1, OpenO.i64_of w2, w3⟩⟩
theorem read_com (fuel : Nat) (cs : List Value) (y : DataW H × List MemPlace)
    (h : DataW.trod enc Tryz.prog W 0 (fun _ => true) true fuel 38 cs = some y) : ∃ v : Cv, cs = CE.enc v ∧ In W v ∧ Fit v.c :=
  read_fields Tryz.underlying38 (by kernel_rfl) rfl rfl rfl rfl (by kernel_rfl) (by kernel_rfl) (by kernel_rfl) (by kernel_rfl) rfl rfl rfl rfl fuel cs y h
theorem open_com {base : Nat} {v : Value} {d : DataW H} {p : List MemPlace}
    (hval : Value.okWide Tryz.prog W .any base 38 v) (h : DataW.Trod enc Tryz.prog W 0 (fun _ => true) true 38 v d p) : ∃ x : Cv, v = .agg (cc x) ∧ In W x ∧ Fit x.c := by
  obtain ⟨cs, rfl, hsz⟩ := okWide_struct Tryz.underlying38 hval
  obtain ⟨fuel, hf⟩ := h
  obtain ⟨x, hx, hi, hg⟩ := read_com fuel _ _ hf
  refine ⟨x, ?_, hi, hg⟩
  have hx2 : cs.toList = CE.enc x := by simpa [Value.cells] using hx
  have : cs.toList = (cc x).toList := hx2
  rw [show cs = cc x from Array.toList_inj.1 this]
end
end Go.Proofs.YtechkdhehipliaaGreatDoor.OpenK
namespace Go.Proofs.YtechkdhehipliaaGreatDoor.DgW
set_option maxRecDepth 100000
open Go Go.Sort Go.ChangeShapes Go.WideShapes Go.ChangeAt Go.RowKit Byt IdM IdW OpsM OpsW RowS CmM StW CmW CmX CmY

/-- How a commit lies in a row. -/
def KE : RowS.Enc Cv where
  T := 38
  S := 22
  k := 8
  bytes := 96
  d := _
  enc v := [.int .i64 v.c.node, .int .i64 v.c.seq, .int .i64 v.c.gen, .slice v.a v.c.ps.length v.k, .int .i64 v.c.op.kind, .string v.c.op.key, .string v.c.op.elem, .int .i64 v.c.op.n]
  zero := noV
  len _ := rfl
  one c v hv := by
    simp only [List.mem_cons, List.not_mem_nil, or_false] at hv
    rcases hv with rfl | rfl | rfl | rfl | rfl | rfl | rfl | rfl <;> rfl
  pos := by omega
  small := by omega
  info := by kernel_rfl
  slice := Tryz.underlying22
  under := Tryz.underlying38
  row := rfl
/-- The slice holds these commits, whose parents lie in slices. -/
structure SlK (w : World) (A : Option Addr) (cap : Nat) (l : List Cv) : Prop where
  row : SlR KE w A cap l
  each : ∀ v ∈ l, In w v ∧ Fit v.c
theorem SlK.below {w w' : World} {A : Option Addr} {cap : Nat} {l : List Cv} (h : SlK w A cap l) (hb : Below w.heap.size w w') : SlK w' A cap l :=
  ⟨h.row.below hb, fun v hv => ⟨(h.each v hv).1.below hb, (h.each v hv).2⟩⟩
theorem SlK.nil (w : World) : SlK w none 0 [] := ⟨SlR.nil KE w, by simp⟩
def coms (l : List Cv) : List Com := l.map (·.c)
theorem coms_len (l : List Cv) : (coms l).length = l.length := List.length_map ..
theorem coms_at {l : List Cv} {i : Nat} {x : Cv} (h : l[i]? = some x) : (coms l)[i]? = some x.c := by
  unfold coms
  rw [List.getElem?_map, h]
  rfl
section
variable {H : Type} {enc : TypeId × Value → H} {W : World}
theorem open_coms {base : Nat} {v : Value} {d : DataW H} {p : List MemPlace}
    (hval : Value.okWide Tryz.prog W .any base 22 v) (h : DataW.Trod enc Tryz.prog W 0 (fun _ => true) true 22 v d p) : ∃ A cap l, v = .slice A (List.length l) cap ∧ SlK W A cap l := by
  obtain ⟨A, cap, l, e, S, hg⟩ := OpenR.open_rows KE (good := fun x => In W x ∧ Fit x.c) (by kernel_rfl) (fun fuel cs y hh => OpenK.read_com fuel cs y hh) hval h
  exact ⟨A, cap, l, e, S, hg⟩
end
/-- Are there at most so many, each with few parents and short texts? -/
def fewD (l : List Com) (m : Int) : Bool := decide ((l.length : Int) ≤ m) && l.all fewK
theorem SlK.plain {w : World} {A : Option Addr} {cap : Nat} {l : List Cv} (h : SlK w A cap l) (hp : 0 < l.length) :
    ∃ b off, A = some ⟨b, off, none⟩ ∧ b < w.heap.size ∧ ∀ i x, l[i]? = some x → w.rangeAt b (off + i * 8) (cc x).toList := h.row.plain hp
theorem SlK.len {w : World} {A : Option Addr} {cap : Nat} {l : List Cv} (h : SlK w A cap l) : l.length ≤ 9223372036854775807 := by
  have h1 := h.row.1
  have h2 := h.row.2.1
  unfold maxLen at h2
  omega
theorem range_on {w w' : World} {b off : Nat} {x : Cv} (h : w.rangeAt b off (cc x).toList) (hb : Below w.heap.size w w') : w'.rangeAt b off (cc x).toList := RowS.range_below h hb
section
variable {ops : Array Oper} {rest : List Oper} {o : Oper} {a : Act} {w : World} {Q : Exit → Act → World → Prop}
/-- A commit loaded whole out of a row, also where that is guarded, and wanted. -/
theorem load_at (hgd : o.guard = none) (x : Operand) (ho : o.op = .load 38 x)
    (b off : Nat) (hx : a.eval x = .pointer (some ⟨b, off, none⟩)) (y : Cv) (hc : w.rangeAt b off (cc y).toList) (h : wpList Tryz.prog ops Q rest (a.put o.dst (.agg (cc y))) w) : wpList Tryz.prog ops Q (o :: rest) a w :=
  RowS.wpList_load_at KE hgd x ho b off hx y hc h
end
/-- A commit read whole in a region that draws its order. -/
theorem quiet_com {a : Act} {o : Oper} {K : Act → Prop} {w : World} (x : Operand) (ho : o.op = .load 38 x)
    (b off : Nat) (hx : a.eval x = .pointer (some ⟨b, off, none⟩)) (y : Cv) (hc : w.rangeAt b off (cc y).toList) (hk : K (a.put o.dst (.agg (cc y)))) : o.quiet Tryz.prog a (fun w' => ∃ p : Regrown, w' = grow (redrawn w p.d) p.os) K :=
  RowK.quiet_row KE x ho b off hx y hc hk
theorem drop_at {α : Type} {l : List α} {i : Nat} {x : α} (h : l[i]? = some x) : l.drop i = x :: l.drop (i + 1) := by
  obtain ⟨hi, e⟩ := List.getElem?_eq_some_iff.1 h
  rw [← e]
  exact List.drop_eq_getElem_cons hi
/-- A slice of one id, made: the world behind it under a name of its own. -/
theorem build_one {w : World} {ops : Array Oper} {rest : List Oper} {o : Oper} {a : Act} {Q : Exit → Act → World → Prop} (hgd : o.guard = none) (x : Operand) (ho : o.op = .buildSlice 23 1 #[(0, x)])
    (y : Idn) (hx : a.eval x = .agg (cs y)) (h : ∀ w1, SlI w1 (some ⟨w.heap.size, 0, none⟩) 1 [y] → Below w.heap.size w w1 → wpList Tryz.prog ops Q rest (a.put o.dst (.slice (some ⟨w.heap.size, 0, none⟩) 1 1)) w1) : wpList Tryz.prog ops Q (o :: rest) a w :=
  IdB.wpList_build1 hgd x ho y hx (h _ (SlI.new1 w y _) ((Below.refl _ _).alloc (Nat.le_refl _) _))
/-- The ids of commits, if all may be. -/
def idsD (l : List Com) : List Idn := if l.all mayK = true then l.map hashK else []
/-- Are two lists of commits the same? -/
def listB : List Com → List Com → Bool
  | [], [] => true
  | a :: l, b :: m => CmR.sameK a b && listB l m
  | _, _ => false
theorem listB_iff : ∀ {l m : List Com}, listB l m = true ↔ l = m
  | [], [] => by simp [listB]
  | [], b :: m => by simp [listB]
  | a :: l, [] => by simp [listB]
  | a :: l, b :: m => by rw [listB, Bool.and_eq_true, CmR.sameK_iff, listB_iff, List.cons.injEq]
theorem listB_len {l m : List Com} (h : l.length ≠ m.length) : listB l m = false := by
  cases hb : listB l m with
  | false => rfl
  | true => exact absurd (by rw [listB_iff.1 hb]) h
end Go.Proofs.YtechkdhehipliaaGreatDoor.DgW
namespace Go.Proofs.YtechkdhehipliaaGreatDoor.DgE
set_option maxRecDepth 100000
open Go Go.Sort Go.RowKit Byt IdM IdW OpsM OpsW CmM StW CmW CmX CmY CmA DgM DgW DgJ

set_option maxRecDepth 100000 in
set_option maxHeartbeats 16000000 in
theorem two_ret (w : World) (hK : ShaE.KIn w) : Calls Tryz.prog 49 #[] w fun e w' => ∃ A cap l, e = .returned (.slice A (List.length l) cap) ∧ SlK w' A cap l ∧ coms l = two ∧ Below w.heap.size w w' := by
  have hch := fun W K => hash_ret v1 W (in1 W) fit1 K
  unfold HashOut at hch
  obtain ⟨y1, y2, y3⟩ := putB_yes may1
  rw [show hashI v1.c = I1 from y3.trans id1, show putN v1.c = 0 from y2] at hch
  clear y1 y2 y3
  have F2 : CmW.Fit (c2 I1) := ⟨⟨by decide, by decide⟩, ⟨by decide, by decide⟩, ⟨by decide, by decide⟩, ⟨⟨by decide, by decide⟩, ⟨by decide, by decide⟩, of_decide_eq_true (by kernel_rfl), of_decide_eq_true (by kernel_rfl)⟩⟩
  have HF2 := aside F2
  clear F2
  obtain ⟨I, hI⟩ : ∃ I, I1 = I := ⟨_, rfl⟩
  rw [hI] at hch HF2
  have HI := aside hI
  clear hI
  go_enter Tryz.func49, Tryz.ntmps49
  go_wp2_with (first | go_skip)
  refine (some_ret _).mono ?_
  rintro e w1 ⟨rfl, k1⟩
  go_wp2_with (first | go_skip | (refine Cel.wpList_store_new CE rfl _ _ rfl w1 _ _ rfl v1 _ rfl rfl rfl rfl ?_; intro w2 B2 k2 g2 s2; have b2 := k1.trans (k2.mono k1.size); clear s2) | (refine Cel.wpList_load_box CE rfl _ rfl _ rfl v1 B2 ?_))
  refine (hch _ (hK.below b2)).mono ?_
  rintro e w3 ⟨rfl, k3⟩
  have b3 := b2.trans (k3.mono b2.size)
  have B3 := B2.below k3
  clear hch g2 B2 k3 b2
  go_wp2_with (first | go_skip | (refine IdJ.wpList_alloc_id rfl rfl ?_) | (refine CmG.wpList_store_id rfl _ _ rfl _ nought _ rfl I _ rfl rfl rfl ?_; intro w4 G4 k4 s4; have b4 := b3.trans (k4.mono b3.size); have B4 := B3.below k4; clear s4) | (refine Cel.wpList_load_box CE rfl _ rfl _ rfl v1 B4 ?_) | (refine wpList_load_id rfl _ rfl _ _ rfl I G4.range ?_) | (refine build_one rfl _ rfl I rfl ?_; intro w5 S5 k5; have b5 := b4.trans (k5.mono b4.size)) | (refine RowC.wpList_lit2 KE (of_decide_eq_true rfl) rfl _ _ rfl v1 (⟨some ⟨w4.heap.size, 0, none⟩, 1, c2 I⟩ : Cv) rfl rfl ?_; intro w6 S6 k6; have b6 := b5.trans (k6.mono b5.size)))
  go_ret
  refine ⟨some ⟨w5.heap.size, 0, none⟩, 2, [v1, ⟨some ⟨w4.heap.size, 0, none⟩, 1, c2 I⟩], rfl, ⟨S6, fun v hv => ?_⟩, ?_, b6⟩
  · rcases List.mem_cons.1 hv with rfl | hv
    · exact ⟨in1 _, fit1⟩
    · rw [List.mem_singleton] at hv
      subst hv
      exact ⟨S5.below k6, HF2.out⟩
  · rw [two, HI.out]
    rfl
end Go.Proofs.YtechkdhehipliaaGreatDoor.DgE
namespace Go.Proofs.YtechkdhehipliaaGreatDoor.OpsS
set_option maxRecDepth 100000
open Go Go.RowKit Go.Sort Byt OpsM OpsK OpsW OpsC EncM EncC OpsP

theorem num_of {k : Int} (h0 : 0 ≤ k) (h1 : k ≤ 18446744073709551615) (w : World) : Calls Tryz.prog 105 #[.int .u64 k] w (New (numL k.toNat) w) := by
  have := RefE.num k.toNat (by unfold Fits; omega) w
  rwa [show ((k.toNat : Nat) : Int) = k by omega] at this

set_option maxRecDepth 100000 in
set_option maxHeartbeats 2000000 in
theorem put_no (o : Opn) (w : World) (hf : Fit o) (h1 : o.key.size ≤ 1099511627776) (h2 : o.elem.size ≤ 1099511627776) (hm : mayO o = false) :
    Calls Tryz.prog 107 #[.agg (opc o)] w (PutNo w) := by
  have O1 := OpAt.new w o 36
  have cm := fun W => OpsR.may o W hf h1 h2
  rw [hm] at cm
  clear hm
  go_enter Tryz.func107, Tryz.ntmps107
  go_wp2_with (refine wpList_load_op rfl _ rfl _ rfl o O1 ?_)
  refine (cm _).mono ?_
  rintro e w1 ⟨rfl, h1⟩
  have k1 : Below w.heap.size w w1 := Below.trans ((Below.refl _ _).alloc (Nat.le_refl _) _) (h1.mono (by simp))
  clear h1
  go_wp2_with fail
  go_ret2
  exact ⟨rfl, k1⟩

set_option maxRecDepth 100000 in
set_option maxHeartbeats 8000000 in
theorem put0 (o : Opn) (w : World) (hf : Fit o) (h1 : o.key.size ≤ 1099511627776) (h2 : o.elem.size ≤ 1099511627776) (hm : mayO o = true) (hk : o.kind = 0) :
    Calls Tryz.prog 107 #[.agg (opc o)] w (PutYes o w) := by
  have O1 := OpAt.new w o 36
  have cm := fun W => OpsR.may o W hf h1 h2
  rw [hm] at cm
  obtain ⟨hkey, hrest⟩ := mayO_kind hm
  have hkl := keyL_len hkey
  have hk0 : 0 ≤ o.kind ∧ o.kind ≤ 3 := by omega
  have cn := OpsS.num_of hk0.1 (by omega)
  have ct := RefE.text o.key h1
  have ln := numL_ten (n := o.kind.toNat) (by omega)
  have lt := EncT.textL_length (bytesL o.key) (by omega)
  have bt : ∀ x ∈ textL (bytesL o.key), B x := EncT.textL_B (bytesL_B _)
  have hn := hf.n
  have hbd := foldI_bd hn
  have cf := RefE.fold o.n hn
  have cz := OpsS.num_of hbd.1 hbd.2
  have lz := numL_ten (n := (foldI o.n).toNat) (by omega)
  have bz : ∀ x ∈ numL (foldI o.n).toNat, B x := numL_range _
  obtain ⟨Z, hZ⟩ : ∃ Z, numL (foldI o.n).toNat = Z := ⟨_, rfl⟩
  rw [hZ] at cz lz bz
  have HZ := aside hZ
  have HZB := aside bz
  clear hZ bz hn hbd
  obtain ⟨X, hX⟩ : ∃ X, numL o.kind.toNat = X := ⟨_, rfl⟩
  obtain ⟨T, hT⟩ : ∃ T, textL (bytesL o.key) = T := ⟨_, rfl⟩
  have hput : putL o = X ++ T ++ tailL o := by unfold putL; rw [hX, hT]
  rw [hX] at cn ln
  rw [hT] at ct lt bt
  have lt' : T.length ≤ 20 := by omega
  have HK := aside hk
  have HB := aside bt
  have HP := aside hput
  obtain ⟨kb0, kb1⟩ := hk0
  clear hX hT hput bt lt hkl hkey hrest hm hk h1 h2
  go_enter Tryz.func107, Tryz.ntmps107
  go_wp2_with (refine wpList_load_op rfl _ rfl _ rfl o O1 ?_)
  refine (cm _).mono ?_
  rintro e w1 ⟨rfl, h1⟩
  have k1 : Below w.heap.size w w1 := Below.trans ((Below.refl _ _).alloc (Nat.le_refl _) _) (h1.mono (by simp))
  have O2 := O1.below h1
  clear h1 O1 cm
  go_wp2_with fail
  refine GrowB.region (w.heap.size + 1) [(0, true), (1, true), (2, true), (4, true), (5, true), (3, false), (6, false), (7, false), (8, true)] (by kernel_rfl) (by kernel_rfl) rfl (by kernel_rfl) (by intro c a d v w h; cases d <;> exact h) ?_
  have kd := below_drew1 k1
  have O3 : OpAt w1.drew w.heap.size o := O2
  obtain ⟨W1, hW1⟩ : ∃ W, w1.drew = W := ⟨_, rfl⟩
  rw [hW1] at kd O3 ⊢
  clear hW1 k1 O2
  have hs1 : w.heap.size + 1 ≤ W1.heap.size := O3.lt
  have q0 : ∀ p : GrowB.UpTo (w.heap.size + 1) W1, p.u.cell? ⟨w.heap.size, 0, none⟩ = some (.int .i64 o.kind) := fun p => (O3.block p.h (by omega)).kind
  have q1 : ∀ p : GrowB.UpTo (w.heap.size + 1) W1, p.u.cell? ⟨w.heap.size, 1, none⟩ = some (.string o.key) := fun p => (O3.block p.h (by omega)).key
  repeat (refine GrowB.reads_below rfl rfl ?_; go_big_quiet_step (fail); refine wpQuiet_nil ?_)
  clear q0 q1
  refine GrowB.acts rfl ?_
  go_wp2_with fail
  refine (cn _).mono ?_
  rintro e w2 ⟨v2, rfl, own2, h2⟩
  have O4 := O3.below h2
  have k2 := kd.trans (h2.mono kd.size)
  have hs2 := h2.size
  have R2 := aside own2
  clear own2 cn O3
  go_wp2_with fail
  refine ⟨h2.mono hs1, ?_⟩
  clear h2
  refine GrowB.acts rfl ?_
  go_wp2_with fail
  refine (ct _).mono ?_
  rintro e w3 ⟨v3, rfl, own3, h3⟩
  have O5 := O4.below h3
  have k3 := k2.trans (h3.mono k2.size)
  have hs3 := h3.size
  have R3 := aside (owns_below R2.out h3)
  obtain ⟨A3, c3, rfl, S3⟩ := Sl.own own3 HB.out
  clear own3 ct O4 R2
  go_wp2_with fail
  refine ⟨h3.mono (by omega), ?_⟩
  clear h3
  refine GrowB.acts rfl ?_
  refine wpList_append_sl rfl _ _ 53 rfl W1.heap.size 5 Tryz.underlying53 zero_u8 v2 _ X rfl R3.out _ _ _ T rfl rfl S3 (by omega) (by omega) ?_
  intro v4 w4 own4 g4
  have r4 : ∀ k, v2.ownBlock = some k → W1.heap.size ≤ k := fun k hk => (R3.out.lt k hk).1
  have h4 : Below (w.heap.size + 1) w3 w4 := below_grown (Below.refl _ _) (by omega) g4 (fun k hk => by have := r4 k hk; omega)
  have k4 : Below w.heap.size w w4 := k3.trans (h4.mono (by omega))
  have O6 := O5.block h4 (by omega)
  have hs4 := g4.size
  have R4 := aside own4
  clear own4 g4 r4 R3 S3 O5
  simp only [Act.put, List.setIfInBounds_toArray, List.set_cons_succ, List.set_cons_zero]
  refine ⟨h4, ?_⟩
  clear h4
  repeat (refine GrowB.reads rfl rfl ?_; go_big_quiet_step (fail); refine wpQuiet_nil ?_)
  refine GrowB.ends ?_
  have r0 := O6.kind
  have r3 := O6.n
  rw [HK.out] at r0
  go_wp2_with fail
  refine (cf _).mono ?_
  rintro e w' ⟨rfl, rfl⟩
  go_wp2_with fail
  refine (cz _).mono ?_
  rintro e w6 ⟨v6, rfl, own6, h6⟩
  have k6 := k4.trans (h6.mono k4.size)
  have R7 := aside (owns_below R4.out h6)
  have hs7 := h6.size
  obtain ⟨A6, c6, rfl, S6⟩ := Sl.own own6 HZB.out
  clear own6 R4 h6 O6
  go_wp2_with (refine wpList_append_sl rfl _ _ 53 rfl W1.heap.size 5 Tryz.underlying53 zero_u8 _ _ (X ++ T) rfl R7.out _ _ _ Z rfl rfl S6 (by omega) (by omega) ?_; intro v8 w8 own8 g8; have k8 : Below w.heap.size w w8 := below_grown k6 (by omega) g8 (fun k hk => by have := (R7.out.lt k hk).1; omega); have R8 := aside own8; clear own8 g8)
  go_ret2
  refine ⟨v8, rfl, ?_, k8⟩
  rw [HP.out, tail0 HK.out, HZ.out, List.length_append, List.length_append]
  exact owns_less R8.out (by omega)

set_option maxRecDepth 100000 in
set_option maxHeartbeats 8000000 in
theorem put1 (o : Opn) (w : World) (hf : Fit o) (h1 : o.key.size ≤ 1099511627776) (h2 : o.elem.size ≤ 1099511627776) (hm : mayO o = true) (hk : o.kind = 1 ∨ o.kind = 2 ∨ o.kind = 3) :
    Calls Tryz.prog 107 #[.agg (opc o)] w (PutYes o w) := by
  have O1 := OpAt.new w o 36
  have cm := fun W => OpsR.may o W hf h1 h2
  rw [hm] at cm
  obtain ⟨hkey, hrest⟩ := mayO_kind hm
  have hkl := keyL_len hkey
  have hk0 : 0 ≤ o.kind ∧ o.kind ≤ 3 := by omega
  have cn := OpsS.num_of hk0.1 (by omega)
  have ct := RefE.text o.key h1
  have ln := numL_ten (n := o.kind.toNat) (by omega)
  have lt := EncT.textL_length (bytesL o.key) (by omega)
  have bt : ∀ x ∈ textL (bytesL o.key), B x := EncT.textL_B (bytesL_B _)
  have hel : elemB o.n o.elem = true := by rcases hrest with ⟨h0, _⟩ | ⟨_, h⟩; (· omega); exact h
  have hkl2 := keyL_len (elemB_iff.1 hel).1
  have cz := RefE.text o.elem h2
  have lz := EncT.textL_length (bytesL o.elem) (by omega)
  have bz : ∀ x ∈ textL (bytesL o.elem), B x := EncT.textL_B (bytesL_B _)
  obtain ⟨Z, hZ⟩ : ∃ Z, textL (bytesL o.elem) = Z := ⟨_, rfl⟩
  rw [hZ] at cz lz bz
  have lz' : Z.length ≤ 20 := by omega
  have HZ := aside hZ
  have HZB := aside bz
  clear hZ bz hel hkl2 lz
  obtain ⟨X, hX⟩ : ∃ X, numL o.kind.toNat = X := ⟨_, rfl⟩
  obtain ⟨T, hT⟩ : ∃ T, textL (bytesL o.key) = T := ⟨_, rfl⟩
  have hput : putL o = X ++ T ++ tailL o := by unfold putL; rw [hX, hT]
  rw [hX] at cn ln
  rw [hT] at ct lt bt
  have lt' : T.length ≤ 20 := by omega
  have HK := aside hk
  have HB := aside bt
  have HP := aside hput
  obtain ⟨kb0, kb1⟩ := hk0
  clear hX hT hput bt lt hkl hkey hrest hm hk h1 h2
  go_enter Tryz.func107, Tryz.ntmps107
  go_wp2_with (refine wpList_load_op rfl _ rfl _ rfl o O1 ?_)
  refine (cm _).mono ?_
  rintro e w1 ⟨rfl, h1⟩
  have k1 : Below w.heap.size w w1 := Below.trans ((Below.refl _ _).alloc (Nat.le_refl _) _) (h1.mono (by simp))
  have O2 := O1.below h1
  clear h1 O1 cm
  go_wp2_with fail
  refine GrowB.region (w.heap.size + 1) [(0, true), (1, true), (2, true), (4, true), (5, true), (3, false), (6, false), (7, false), (8, true)] (by kernel_rfl) (by kernel_rfl) rfl (by kernel_rfl) (by intro c a d v w h; cases d <;> exact h) ?_
  have kd := below_drew1 k1
  have O3 : OpAt w1.drew w.heap.size o := O2
  obtain ⟨W1, hW1⟩ : ∃ W, w1.drew = W := ⟨_, rfl⟩
  rw [hW1] at kd O3 ⊢
  clear hW1 k1 O2
  have hs1 : w.heap.size + 1 ≤ W1.heap.size := O3.lt
  have q0 : ∀ p : GrowB.UpTo (w.heap.size + 1) W1, p.u.cell? ⟨w.heap.size, 0, none⟩ = some (.int .i64 o.kind) := fun p => (O3.block p.h (by omega)).kind
  have q1 : ∀ p : GrowB.UpTo (w.heap.size + 1) W1, p.u.cell? ⟨w.heap.size, 1, none⟩ = some (.string o.key) := fun p => (O3.block p.h (by omega)).key
  repeat (refine GrowB.reads_below rfl rfl ?_; go_big_quiet_step (fail); refine wpQuiet_nil ?_)
  clear q0 q1
  refine GrowB.acts rfl ?_
  go_wp2_with fail
  refine (cn _).mono ?_
  rintro e w2 ⟨v2, rfl, own2, h2⟩
  have O4 := O3.below h2
  have k2 := kd.trans (h2.mono kd.size)
  have hs2 := h2.size
  have R2 := aside own2
  clear own2 cn O3
  go_wp2_with fail
  refine ⟨h2.mono hs1, ?_⟩
  clear h2
  refine GrowB.acts rfl ?_
  go_wp2_with fail
  refine (ct _).mono ?_
  rintro e w3 ⟨v3, rfl, own3, h3⟩
  have O5 := O4.below h3
  have k3 := k2.trans (h3.mono k2.size)
  have hs3 := h3.size
  have R3 := aside (owns_below R2.out h3)
  obtain ⟨A3, c3, rfl, S3⟩ := Sl.own own3 HB.out
  clear own3 ct O4 R2
  go_wp2_with fail
  refine ⟨h3.mono (by omega), ?_⟩
  clear h3
  refine GrowB.acts rfl ?_
  refine wpList_append_sl rfl _ _ 53 rfl W1.heap.size 5 Tryz.underlying53 zero_u8 v2 _ X rfl R3.out _ _ _ T rfl rfl S3 (by omega) (by omega) ?_
  intro v4 w4 own4 g4
  have r4 : ∀ k, v2.ownBlock = some k → W1.heap.size ≤ k := fun k hk => (R3.out.lt k hk).1
  have h4 : Below (w.heap.size + 1) w3 w4 := below_grown (Below.refl _ _) (by omega) g4 (fun k hk => by have := r4 k hk; omega)
  have k4 : Below w.heap.size w w4 := k3.trans (h4.mono (by omega))
  have O6 := O5.block h4 (by omega)
  have hs4 := g4.size
  have R4 := aside own4
  clear own4 g4 r4 R3 S3 O5
  simp only [Act.put, List.setIfInBounds_toArray, List.set_cons_succ, List.set_cons_zero]
  refine ⟨h4, ?_⟩
  clear h4
  repeat (refine GrowB.reads rfl rfl ?_; go_big_quiet_step (fail); refine wpQuiet_nil ?_)
  refine GrowB.ends ?_
  have r0 := O6.kind
  have r2 := O6.elem
  have t0 : (o.kind == 0) = false := by simp; have := HK.out; omega
  go_wp2_with fail
  refine (cz _).mono ?_
  rintro e w6 ⟨v6, rfl, own6, h6⟩
  have k6 := k4.trans (h6.mono k4.size)
  have R7 := aside (owns_below R4.out h6)
  have hs7 := h6.size
  obtain ⟨A6, c6, rfl, S6⟩ := Sl.own own6 HZB.out
  clear own6 R4 h6 O6
  go_wp2_with (refine wpList_append_sl rfl _ _ 53 rfl W1.heap.size 5 Tryz.underlying53 zero_u8 _ _ (X ++ T) rfl R7.out _ _ _ Z rfl rfl S6 (by omega) (by omega) ?_; intro v8 w8 own8 g8; have k8 : Below w.heap.size w w8 := below_grown k6 (by omega) g8 (fun k hk => by have := (R7.out.lt k hk).1; omega); have R8 := aside own8; clear own8 g8)
  go_ret2
  refine ⟨v8, rfl, ?_, k8⟩
  rw [HP.out, tail1 HK.out, HZ.out, List.length_append, List.length_append]
  exact owns_less R8.out (by omega)

theorem put_yes (o : Opn) (w : World) (hf : Fit o) (h1 : o.key.size ≤ 1099511627776) (h2 : o.elem.size ≤ 1099511627776) (hm : mayO o = true) : Calls Tryz.prog 107 #[.agg (opc o)] w (PutYes o w) := by
  obtain ⟨_, h | h⟩ := mayO_kind hm
  · exact put0 o w hf h1 h2 hm h.1
  · exact put1 o w hf h1 h2 hm h.1
end Go.Proofs.YtechkdhehipliaaGreatDoor.OpsS
