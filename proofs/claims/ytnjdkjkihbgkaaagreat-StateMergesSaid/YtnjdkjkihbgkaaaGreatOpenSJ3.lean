/- How a reading gives a state, and an event, that came in. No condition. | What the laws on states ask of them: few of each; a contract. No condition but sizes that come with every argument. | What the document's answer's Num, Fold, Unfold and Text of package enc return: contracts. -/
import Derived.Test.YtnjdkjkihbgkaaaGreatRowGJ6
import Derived.Test.YtnjdkjkihbgkaaaGreatCtrQJ4
import Derived.Test.YtnjdkjkihbgkaaaGreatRegUJ3
import Derived.Test.YtnjdkjkihbgkaaaGreatPairUJ4
import Derived.Test.YtnjdkjkihbgkaaaGreatCtrRJ2
import Derived.Test.YtnjdkjkihbgkaaaGreatRegSJ3
import Derived.Test.YtnjdkjkihbgkaaaGreatEncMJ6
namespace Go.Proofs.YtnjdkjkihbgkaaaGreat.OpenS
set_option maxRecDepth 100000
open Go Go.Deep Go.ChangeShapes Go.WideShapes Go.ChangeAt Go.RowKit Byt RowS StM StW

/-- A state that came in. -/
structure Good (s : St) : Prop where
  c : ∀ x ∈ s.c, OpenC.Good x
  r : ∀ x ∈ s.r, OpenG.Good x
  p : ∀ x ∈ s.p, OpenP.Good x
section
variable {H : Type} {enc : TypeId × Value → H} {W : World} {α : Type}
set_option maxRecDepth 100000 in
theorem read_rows (E : Enc α) {good : α → Prop} (hC : Tryz.prog.cellsOf E.T = E.k)
    (hread : ∀ (fuel : Nat) (cs : List Value) (y : DataW H × List MemPlace), DataW.trod enc Tryz.prog W 0 (fun _ => true) true fuel E.T cs = some y → ∃ x, cs = E.enc x ∧ good x) (fuel : Nat) (cs : List Value) (y : DataW H × List MemPlace)
    (hf : DataW.trod enc Tryz.prog W 0 (fun _ => true) true fuel E.S cs = some y) : ∃ A cap l, cs = [.slice A (List.length l) cap] ∧ SlR E W A cap l ∧ ∀ x ∈ l, good x := by
  rcases DataW.trod_slice E.slice hf with ⟨rfl, _⟩ | ⟨x, len, cap, elems, rest, n, _, rfl, _, _, hl, hm, hel, hcell, _, _⟩
  · exact ⟨none, 0, [], rfl, SlR.nil E W, by simp⟩
  · rw [hC] at hcell
    have key : ∀ i, i < len → ∃ y : α, good y ∧ ∀ j u, (E.enc y)[j]? = some u → W.cell? (x.add (i * E.k + j)) = some u := by
      intro i hi
      have hi1 := hcell i hi
      rw [List.getElem?_eq_getElem (by omega)] at hi1
      rw [Option.bind_eq_some_iff] at hi1
      obtain ⟨cl, hcl, htr⟩ := hi1
      obtain ⟨y, rfl, hy⟩ := hread _ _ _ htr
      refine ⟨y, hy, fun j u hj => ?_⟩
      obtain ⟨_, _, hg⟩ := World.cells?_some hcl
      have hjl := (List.getElem?_eq_some_iff.1 hj).1
      rw [E.len] at hjl
      have := hg j hjl
      rw [Addr.add_add, hj] at this
      exact this
    obtain ⟨l, hll, hp⟩ := OpenR.list_of len key
    refine ⟨some x, cap, l, by rw [hll], ⟨by omega, hm, .inr ⟨x, rfl, fun i u hu => ?_⟩⟩, fun y hy => ?_⟩
    · obtain ⟨m, j, y, rfl, hy, hj⟩ := OpenR.flat_split E hu
      exact (hp m y hy).2 j u hj
    · obtain ⟨i, hi⟩ := List.mem_iff_getElem?.1 hy
      exact (hp i y hi).1
theorem read_fields {t : TypeId} {f0 f1 f2 : Field} (hs : Tryz.prog.underlying t = some (.struct #[f0, f1, f2])) (hC : Tryz.prog.cellsOf t = 3)
    (o0 : f0.offset = 0) (o1 : f1.offset = 1) (o2 : f2.offset = 2) (k0 : Tryz.prog.cellsOf f0.type = 1) (k1 : Tryz.prog.cellsOf f1.type = 1) (k2 : Tryz.prog.cellsOf f2.type = 1)
    (t0 : f0.type = CtrW.E.S) (t1 : f1.type = RegW.E.S) (t2 : f2.type = PairW.E.S) (fuel : Nat) (cs : List Value) (y : DataW H × List MemPlace)
    (h : DataW.trod enc Tryz.prog W 0 (fun _ => true) true fuel t cs = some y) : ∃ v : Sv, cs = SE.enc v ∧ In W v ∧ Good v.s := by
  obtain ⟨xs, n, _, _, hl, hlen, hf⟩ := DataW.trod_struct hs h
  rw [hC] at hl
  obtain ⟨a, b, c, rfl⟩ : ∃ a b c, cs = [a, b, c] := by
    match cs, hl with
    | [a, b, c], _ => exact ⟨a, b, c, rfl⟩
  obtain ⟨y0, y1, y2, rfl⟩ : ∃ a b c, xs = [a, b, c] := by
    match xs, hlen with
    | [a, b, c], _ => exact ⟨a, b, c, rfl⟩
  have e0 := hf 0 f0 rfl
  have e1 := hf 1 f1 rfl
  have e2 := hf 2 f2 rfl
  rw [o0, k0, t0] at e0
  rw [o1, k1, t1] at e1
  rw [o2, k2, t2] at e2
  simp only [List.drop_zero, List.take_succ_cons, List.take_zero, List.drop_succ_cons, List.getElem?_cons_zero, List.getElem?_cons_succ] at e0 e1 e2
  obtain ⟨A0, c0, l0, q0, s0, g0⟩ := read_rows CtrW.E (by kernel_rfl) (fun fuel cs y => OpenC.read_ctr Tryz.underlying75 (by kernel_rfl) (by kernel_rfl) Tryz.underlying9 Tryz.underlying3 fuel cs y) _ _ _ e0
  obtain ⟨A1, c1, l1, q1, s1, g1⟩ := read_rows RegW.E (by kernel_rfl) OpenG.read_reg _ _ _ e1
  obtain ⟨A2, c2, l2, q2, s2, g2⟩ := read_rows PairW.E (by kernel_rfl) OpenP.read_pair _ _ _ e2
  simp only [List.cons.injEq, and_true] at q0 q1 q2
  subst q0 q1 q2
  exact ⟨⟨A0, c0, A1, c1, A2, c2, ⟨l0, l1, l2⟩⟩, rfl, ⟨s0, s1, s2⟩, ⟨g0, g1, g2⟩⟩
theorem read_state (fuel : Nat) (cs : List Value) (y : DataW H × List MemPlace)
    (h : DataW.trod enc Tryz.prog W 0 (fun _ => true) true fuel 26 cs = some y) : ∃ v : Sv, cs = SE.enc v ∧ In W v ∧ Good v.s :=
  read_fields Tryz.underlying26 (by kernel_rfl) rfl rfl rfl (by kernel_rfl) (by kernel_rfl) (by kernel_rfl) rfl rfl rfl fuel cs y h
theorem open_state {base : Nat} {v : Value} {d : DataW H} {p : List MemPlace}
    (hval : Value.okWide Tryz.prog W .any base 26 v) (h : DataW.Trod enc Tryz.prog W 0 (fun _ => true) true 26 v d p) : ∃ x : Sv, v = .agg (sc x) ∧ In W x ∧ Good x.s := by
  obtain ⟨cs, rfl, hsz⟩ := okWide_struct Tryz.underlying26 hval
  obtain ⟨fuel, hf⟩ := h
  obtain ⟨x, hx, hi, hg⟩ := read_state fuel _ _ hf
  refine ⟨x, ?_, hi, hg⟩
  have hx2 : cs.toList = SE.enc x := by simpa [Value.cells] using hx
  have : cs.toList = (sc x).toList := hx2
  rw [show cs = sc x from Array.toList_inj.1 this]
/-- An event that came in. -/
structure GoodE (e : Ev) : Prop where
  node : PairW.In64 e.node
  seq : PairW.In64 e.seq
theorem open_event {base : Nat} {v : Value} {d : DataW H} {p : List MemPlace}
    (hval : Value.okWide Tryz.prog W .any base 30 v) (h : DataW.Trod enc Tryz.prog W 0 (fun _ => true) true 30 v d p) : ∃ e : Ev, v = .agg (ec e) ∧ GoodE e := by
  obtain ⟨cs, rfl, hsz⟩ := okWide_struct Tryz.underlying30 hval
  obtain ⟨fuel, hf⟩ := h
  obtain ⟨m, k, hx, h0, h1⟩ := OpenP.read_ev Tryz.underlying30 (by kernel_rfl) (by kernel_rfl) Tryz.underlying3 Tryz.underlying3 fuel _ _ hf
  refine ⟨⟨m, k⟩, ?_, ⟨h0, h1⟩⟩
  have hx2 : cs.toList = [.int .i64 m, .int .i64 k] := by simpa [Value.cells] using hx
  have : cs.toList = (ec ⟨m, k⟩).toList := hx2
  rw [show cs = ec ⟨m, k⟩ from Array.toList_inj.1 this]
end
end Go.Proofs.YtnjdkjkihbgkaaaGreat.OpenS
namespace Go.Proofs.YtnjdkjkihbgkaaaGreat.StX
set_option maxRecDepth 100000
open Go Go.RowKit Byt Rise RowS StM StN StW

/-- At most 30 of each, of at most 100 bytes a text. -/
def fewS (s : St) : Bool := CtrS.fewB s.c && RegS.fewB s.r && PairS.fewB s.p
theorem few_parts {s : St} (h : fewS s = true) : CtrS.fewB s.c = true ∧ RegS.fewB s.r = true ∧ PairS.fewB s.p = true := by
  unfold fewS at h
  simp only [Bool.and_eq_true] at h
  exact ⟨h.1.1, h.1.2, h.2⟩
theorem few_len {s : St} (h : fewS s = true) : Len 30 s := by
  obtain ⟨a, b, c⟩ := few_parts h
  unfold CtrS.fewB at a
  unfold RegS.fewB at b
  unfold PairS.fewB at c
  simp only [Bool.and_eq_true, decide_eq_true_eq] at a b c
  exact ⟨a.1, b.1, c.1⟩
theorem few_texts {s : St} (h : fewS s = true) : (∀ c ∈ s.c, c.key.size ≤ 100) ∧ (∀ c ∈ s.r, c.key.size ≤ 100 ∧ c.elem.size ≤ 100) ∧ (∀ c ∈ s.p, c.key.size ≤ 100 ∧ c.elem.size ≤ 100) := by
  obtain ⟨a, b, c⟩ := few_parts h
  unfold CtrS.fewB at a
  unfold RegS.fewB at b
  unfold PairS.fewB at c
  simp only [Bool.and_eq_true, List.all_eq_true, decide_eq_true_eq] at a b c
  exact ⟨a.2, b.2, c.2⟩
theorem fits {s : St} (hf : fewS s = true) (h : OpenS.Good s) : Fits s := by
  obtain ⟨a, b, d⟩ := few_texts hf
  exact ⟨fun c hc => ⟨by have := a c hc; omega, (h.c c hc).2⟩, fun c hc => ⟨by have := b c hc; omega, by have := b c hc; omega, (h.r c hc).gen, (h.r c hc).node, (h.r c hc).seq⟩,
    fun c hc => ⟨by have := d c hc; omega, by have := d c hc; omega, (h.p c hc).node, (h.p c hc).seq⟩⟩
set_option maxRecDepth 100000 in
set_option maxHeartbeats 8000000 in
theorem few_ret (v : Sv) (w : World) (S : In w v) (hg : OpenS.Good v.s) : Calls Tryz.prog 7 #[.agg (sc v)] w fun e w' => e = .returned (.bool (fewS v.s)) ∧ Below w.heap.size w w' := by
  have kb := below_alloc w (.cells (sc v) 26)
  have R : Cel.Box SE (w.alloc (.cells (sc v) 26)) w.heap.size v := Cel.Box.new w v _
  have S0 := S.below kb
  obtain ⟨c0, c1, c2⟩ := box_cells R
  clear R
  obtain ⟨W0, hW0⟩ : ∃ W, w.alloc (.cells (sc v) 26) = W := ⟨_, rfl⟩
  rw [hW0] at kb S0 c0 c1 c2
  have q0 := CtrS.few_ret _ _ _ W0 S0.c (fun c hc => (hg.c c hc).1)
  have q1 := RegS.few_ret _ _ _ W0 S0.r (fun c hc => ⟨(hg.r c hc).key, (hg.r c hc).elem⟩)
  have q2 := PairS.few_ret _ _ _ W0 S0.p (fun c hc => ⟨(hg.p c hc).key, (hg.p c hc).elem⟩)
  have HF : Hid (fewS v.s = (CtrS.fewB v.s.c && RegS.fewB v.s.r && PairS.fewB v.s.p)) := aside rfl
  obtain ⟨x0, hx0⟩ : ∃ b, CtrS.fewB v.s.c = b := ⟨_, rfl⟩
  obtain ⟨x1, hx1⟩ : ∃ b, RegS.fewB v.s.r = b := ⟨_, rfl⟩
  obtain ⟨x2, hx2⟩ : ∃ b, PairS.fewB v.s.p = b := ⟨_, rfl⟩
  rw [hx0] at q0 HF
  rw [hx1] at q1 HF
  rw [hx2] at q2 HF
  clear hx0 hx1 hx2 S S0 hg
  cases x0 <;> cases x1 <;> cases x2 <;>
    (go_enter Tryz.func7, Tryz.ntmps7
     go_wp2_with fail
     refine q0.mono ?_
     rintro _ _ ⟨rfl, rfl⟩
     go_wp2_with fail
     refine q1.mono ?_
     rintro _ _ ⟨rfl, rfl⟩
     go_wp2_with fail
     refine q2.mono ?_
     rintro _ _ ⟨rfl, rfl⟩
     go_wp2_with fail
     go_ret
     exact ⟨ret_bool HF.out.symm, kb⟩)
end Go.Proofs.YtnjdkjkihbgkaaaGreat.StX
namespace Go.Proofs.YtnjdkjkihbgkaaaGreat.RefE
set_option maxRecDepth 100000
open Go.RowKit Byt EncM EncC

set_option maxHeartbeats 1000000 in
set_option maxRecDepth 100000 in
theorem num (n : Nat) (hn : Fits n) (w : World) :
    Calls Tryz.prog 49 #[.int .u64 n] w (New (numL n) w) := by
  have hten := numL_ten hn.lt
  go_enter Tryz.func49, Tryz.ntmps49
  go_wp2_with fail
  go_loopw [0, 3] (fun k v wr => ∃ (m : Nat) (pre : List Int), k = .int .u64 m ∧ Fits m ∧ Hid (numL n = pre ++ numL m) ∧ Hid (wr.ownsRow w.heap.size 5 1 v pre.length (bv pre)) ∧ Below w.heap.size w wr) (fun k _ _ => (intOf k).toNat)
  case atStart => exact ⟨n, [], rfl, hn, rfl, World.ownsRow_nil _ _ _ _, Below.refl _ _⟩
  case round =>
    obtain ⟨m, pre, rfl, hm, HN, HO, hb⟩ := hrel
    have hlen : pre.length + (numL m).length ≤ 10 := by
      have := HN.out
      rw [this, List.length_append] at hten
      exact hten
    have hs := hb.size
    by_cases hlt : m < 128
    · go_wp2_with (refine wpList_append_sl rfl (.tmp 15) (.tmp 18) 37 rfl w.heap.size 5 Tryz.underlying37 zero_u8 _ pre.length pre rfl (HO.out.alloc _) _ 1 1 [(m : Int)] rfl rfl (Sl.new1 _ _ _ ?c1) (by omega) (by simp; omega) ?_; (case c1 => unfold B; omega); intro v1 w1 hown1 hg1; have hb1 : Below w.heap.size w w1 := below_grown (hb.alloc hs _) (by simp; omega) hg1 (fun k hk => (HO.out.lt k hk).1); have HO1 := aside hown1; clear hown1 hg1)
      go_ret
      refine ⟨v1, rfl, ?_, hb1⟩
      rw [HN.out, numL_one hlt]
      simpa using HO1.out
    · have he : [(m : Int) % 128 + 128] = [((m % 128 + 128 : Nat) : Int)] := by congr 1
      have HE := aside he
      clear he
      have hw : IntKind.u64.wrap ((m : Int) / 128) = (m : Int) / 128 := by rw [IntKind.wrap_u64]; have := hm.lt; omega
      go_wp2_with (refine wpList_append_sl rfl (.tmp 6) (.tmp 11) 37 rfl w.heap.size 5 Tryz.underlying37 zero_u8 _ pre.length pre rfl (HO.out.alloc _) _ 1 1 [(m : Int) % 128 + 128] rfl rfl (Sl.new1 _ _ _ ?c1) (by omega) (by simp; omega) ?_; (case c1 => unfold B; omega); intro v1 w1 hown1 hg1; rw [HE.out] at hown1; have hb1 : Below w.heap.size w w1 := below_grown (hb.alloc hs _) (by simp; omega) hg1 (fun k hk => (HO.out.lt k hk).1); have HO1 := aside hown1; clear hown1 hg1)
      go_roundw
      case rel =>
        refine ⟨m / 128, pre ++ [((m % 128 + 128 : Nat) : Int)], by simp, hm.le (by omega), ?_, by simpa using HO1, hb1⟩
        have := HN.out
        rw [numL_more (n := m) (by omega)] at this
        exact aside (by rw [this]; simp)
      case measure => simp [intOf]; omega

set_option maxRecDepth 100000 in
theorem fold (k : Int) (hk : -9223372036854775808 ≤ k ∧ k ≤ 9223372036854775807) (w : World) :
    Calls Tryz.prog 50 #[.int .i64 k] w fun e w' => e = .returned (.int .u64 (foldI k)) ∧ w = w' := by
  obtain ⟨h1, h2⟩ := hk
  by_cases h0 : 0 ≤ k
  · go_enter Tryz.func50, Tryz.ntmps50
    go_wp2
    go_ret
    exact ⟨ret_int (by unfold foldI; rw [if_pos h0]), rfl⟩
  · go_enter Tryz.func50, Tryz.ntmps50
    go_wp2
    go_ret
    exact ⟨ret_int (by unfold foldI; rw [if_neg (by omega)]), rfl⟩

set_option maxRecDepth 100000 in
theorem text (s : ByteArray) (hs : s.size ≤ 1099511627776) (w : World) :
    Calls Tryz.prog 48 #[.string s] w (New (textL (bytesL s)) w) := by
  have hn := num s.size (by unfold Fits; omega) w
  have hl := numL_len 9 s.size (by omega)
  go_enter Tryz.func48, Tryz.ntmps48
  go_wp2_with fail
  refine hn.mono ?_
  clear hn
  rintro e w1 ⟨v, rfl, hown, hb⟩
  have HO := aside hown
  clear hown
  have hs1 := hb.size
  go_wp2_with (refine wpList_append_str rfl (.tmp 6) (.tmp 7) 37 9 rfl w.heap.size 5 Tryz.underlying37 Tryz.underlying9 zero_u8 v _ (numL s.size) rfl HO.out s rfl (by omega) hs1 ?_; intro v2 w2 hown2 hg2; have hb2 : Below w.heap.size w w2 := below_grown hb hs1 hg2 (fun k hk => (HO.out.lt k hk).1); have HO2 := aside hown2; clear hown2 hg2)
  go_ret
  refine ⟨v2, rfl, ?_, hb2⟩
  have h := HO2.out
  unfold textL
  rw [bytesL_length, List.length_append, bytesL_length]
  exact h
end Go.Proofs.YtnjdkjkihbgkaaaGreat.RefE
