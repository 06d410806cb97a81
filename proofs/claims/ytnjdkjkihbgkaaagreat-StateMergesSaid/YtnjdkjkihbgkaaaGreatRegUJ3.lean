/- What the document's Merge of package reg returns: a contract. | How a reading gives registers, and one register, that came in. No condition. | What the laws on registers ask of lists. No condition. -/
import Derived.Test.YtnjdkjkihbgkaaaGreatRegQ
import Derived.Test.YtnjdkjkihbgkaaaGreatEvWJ3
import Derived.Test.YtnjdkjkihbgkaaaGreatCtrQJ4
import Derived.Deep.Fields
namespace Go.Proofs.YtnjdkjkihbgkaaaGreat.RegU
set_option maxRecDepth 100000
open Go Go.RowKit Byt OpsM OpsK Rise RegM RegL RowS RowB RegW RegR RegG RegQ

theorem ins_sub {c : Rg} : ∀ (d : Bool) (l : List Rg) {x : Rg}, x ∈ ins c d l → x = c ∨ x ∈ l
  | d, [], x, h => by
    rw [ins_end] at h
    split at h
    · simp at h
    · simp at h; exact .inl h
  | d, y :: l, x, h => by
    rw [ins_step] at h
    rcases List.mem_append.1 h with h | h
    · split at h
      · simp at h; exact .inl h
      · simp at h
    · split at h
      · rcases List.mem_cons.1 h with h | h
        · exact .inr (by simp [h])
        · exact (ins_sub _ l h).imp id (fun h => by simp [h])
      · rcases List.mem_cons.1 h with h | h
        · rcases best_or c y with e | e
          · exact .inl (h.trans e)
          · exact .inr (by simp [h.trans e])
        · exact (ins_sub _ l h).imp id (fun h => by simp [h])
theorem put_sub {l : List Rg} {c x : Rg} (h : x ∈ putR l c) : x = c ∨ x ∈ l := by
  unfold putR at h
  split at h
  · exact ins_sub _ _ h
  · simp at h
theorem put_fits {l : List Rg} {c : Rg} (hl : Fits l) (hc : Fit c) : Fits (putR l c) := fun x hx => (put_sub hx).elim (fun e => by rw [e]; exact hc) (fun h => hl x h)
theorem fold_fits : ∀ (m l : List Rg), Fits l → Fits m → Fits (m.foldl putR l)
  | [], _, hl, _ => hl
  | c :: m, l, hl, hm => fold_fits m (putR l c) (put_fits hl (hm c (by simp))) (fun x hx => hm x (by simp [hx]))
theorem fold_take {l m : List Rg} {j : Nat} {x : Rg} (h : m[j]? = some x) : (m.take (j + 1)).foldl putR l = putR ((m.take j).foldl putR l) x := by
  obtain ⟨hj, rfl⟩ := List.getElem?_eq_some_iff.1 h
  rw [List.take_succ_eq_append_getElem hj, List.foldl_append]
  rfl

set_option maxRecDepth 100000 in
set_option maxHeartbeats 8000000 in
theorem merge_none (A : Option Addr) (cap : Nat) (l : List Rg) (B : Option Addr) (dap : Nat) (m : List Rg) (w : World) (S : SlR E w A cap l) (T : SlR E w B dap m) (hf : Fits l) (hg : Fits m) (hno : mayR l = false ∨ (mayR l = true ∧ mayR m = false)) :
    Calls Tryz.prog 55 #[.slice A l.length cap, .slice B m.length dap] w (NewS E [] w) := by
  have ca := may_ret A cap l w S hf
  have cb := fun W T => may_ret B dap m W T hg
  obtain ⟨bm, hbm⟩ : ∃ b, mayR m = b := ⟨_, rfl⟩
  rw [hbm] at cb hno
  clear hbm
  rcases hno with h | ⟨h, rfl⟩
  all_goals
    rw [h] at ca
    clear h
    go_enter Tryz.func55, Tryz.ntmps55
    go_wp2_with fail
    refine ca.mono ?_
    rintro e w1 ⟨rfl, h1⟩
    have T1 := T.below h1
    go_wp2_with fail
    refine (cb _ T1).mono ?_
    rintro e w2 ⟨rfl, h2⟩
    have k2 := h1.trans (h2.mono h1.size)
    clear T1 h1 h2 ca cb S T hf hg
    go_wp2_with fail
    go_ret
    exact ⟨none, 0, rfl, SlR.nil E _, k2⟩

set_option maxRecDepth 100000 in
set_option maxHeartbeats 8000000 in
theorem merge_yes (A : Option Addr) (cap : Nat) (l : List Rg) (B : Option Addr) (dap : Nat) (m : List Rg) (w : World) (S : SlR E w A cap l) (T : SlR E w B dap m) (hf : Fits l) (hg : Fits m) (hl : l.length ≤ 100000) (hm : m.length ≤ 100000) (ml : mayR l = true) (mm : mayR m = true) :
    Calls Tryz.prog 55 #[.slice A l.length cap, .slice B m.length dap] w (NewS E (m.foldl putR l) w) := by
  have ca := may_ret A cap l w S hf
  have cb := fun W T => may_ret B dap m W T hg
  rw [ml] at ca
  rw [mm] at cb
  obtain ⟨R, hR⟩ : ∃ R, m.foldl putR l = R := ⟨_, rfl⟩
  rw [hR]
  have HR := aside hR
  clear hR ml mm
  go_enter Tryz.func55, Tryz.ntmps55
  go_wp2_with fail
  refine ca.mono ?_
  rintro e w1 ⟨rfl, h1⟩
  have T1 := T.below h1
  have S1 := S.below h1
  go_wp2_with fail
  refine (cb _ T1).mono ?_
  rintro e w2 ⟨rfl, h2⟩
  have k2 := h1.trans (h2.mono h1.size)
  have S2 := S1.below h2
  have T2 := T1.below h2
  have hz2 := k2.size
  clear T1 S1 h1 h2 ca cb S T
  go_wp2_with (first | (refine wpList_append E rfl (.const (.slice none 0 0)) (.tmp 19) rfl w2.heap.size (.slice none 0 0) 0 [] rfl (World.ownsRow_nil _ _ _ _) A l.length cap l rfl rfl S2 (by omega) (Nat.le_refl _) ?_; intro v3 w3 own3 g3))
  have k3 : Below w2.heap.size w2 w3 := below_grown (Below.refl _ _) (Nat.le_refl _) g3 (fun q hq => by cases hq)
  have T3 := T2.below k3
  rw [Nat.zero_add, List.nil_append] at own3
  obtain ⟨A3, c3, rfl, S3⟩ := SlR.own own3
  clear own3 g3 S2 T2
  have hTc := T3.1
  go_loopw [7, 8] (fun v i wr => ∃ (j : Nat) (pre : List Rg) (A : Option Addr) (c : Nat), j ≤ m.length ∧ i = .int .i64 j ∧ v = .slice A pre.length c ∧ pre.length ≤ l.length + j ∧ Hid ((m.take j).foldl putR l = pre) ∧ Hid (Fits pre) ∧ SlR E wr A c pre ∧ Below w3.heap.size w3 wr) (fun _ i _ => m.length - (intOf i).toNat)
  case atStart => exact ⟨0, l, A3, c3, Nat.zero_le _, rfl, rfl, by omega, aside rfl, aside hf, S3, Below.refl _ _⟩
  case round =>
    obtain ⟨j, pre, A4, c4, hj, rfl, rfl, hpl, HP, HF, SP, kb⟩ := hrel
    by_cases hlt : j < m.length
    · obtain ⟨g, off, rfl, hbw, hr⟩ := RegW.plain T3 (by omega)
      obtain ⟨x, hx⟩ : ∃ x, m[j]? = some x := ⟨_, List.getElem?_eq_getElem hlt⟩
      have hr1 := range_below (hr j x hx) kb
      have HX := aside (hg x (List.mem_of_getElem? hx))
      have HS := aside (fold_take (l := l) hx)
      have p0 : (j : Int) < m.length := by omega
      have m0 : ((j : Int)).toNat = j := by omega
      have cp := put_ret A4 c4 pre x wr SP HF.out HX.out (by omega)
      have hle := put_length pre x
      obtain ⟨P, hP⟩ : ∃ P, putR pre x = P := ⟨_, rfl⟩
      rw [hP] at cp hle
      have HP2 : Hid ((m.take (j + 1)).foldl putR l = P) := aside (by rw [HS.out, HP.out, hP])
      have HF2 : Hid (Fits P) := aside (by rw [← hP]; exact put_fits HF.out HX.out)
      clear hr T3 hx hP HS HX HF HP SP S3 hf hg
      go_wp2_with (first | (refine wpList_load_reg rfl _ rfl _ _ rfl x hr1 ?_))
      refine cp.mono ?_
      rintro e w5 ⟨A5, c5, rfl, S5, h5⟩
      have k5 := kb.trans (h5.mono kb.size)
      clear h5 cp hr1
      go_wp2_with fail
      go_roundw
      case rel => exact ⟨j + 1, P, A5, c5, by omega, by go_num, rfl, by omega, HP2, HF2, S5, k5⟩
      case measure => simp [intOf]; omega
    · have e : j = m.length := by omega
      have HR2 : Hid (R = pre) := aside (by rw [← HR.out, ← HP.out, e, List.take_length])
      have k9 := k2.trans ((k3.trans (kb.mono k3.size)).mono k2.size)
      clear HP HR T3 S3 hf hg
      go_wp2
      go_ret
      rw [HR2.out]
      exact ⟨A4, c4, rfl, SP, k9⟩
theorem merge_ret (A : Option Addr) (cap : Nat) (l : List Rg) (B : Option Addr) (dap : Nat) (m : List Rg) (w : World) (S : SlR E w A cap l) (T : SlR E w B dap m) (hf : Fits l) (hg : Fits m) (hl : l.length ≤ 100000) (hm : m.length ≤ 100000) :
    Calls Tryz.prog 55 #[.slice A l.length cap, .slice B m.length dap] w (NewS E (mergeR l m) w) := by
  cases h1 : mayR l with
  | false => rw [merge_no (.inl h1)]; exact merge_none A cap l B dap m w S T hf hg (.inl h1)
  | true =>
    cases h2 : mayR m with
    | false => rw [merge_no (.inr h2)]; exact merge_none A cap l B dap m w S T hf hg (.inr ⟨h1, h2⟩)
    | true =>
      have e : mergeR l m = m.foldl putR l := if_pos ⟨h1, h2⟩
      rw [e]
      exact merge_yes A cap l B dap m w S T hf hg hl hm h1 h2
end Go.Proofs.YtnjdkjkihbgkaaaGreat.RegU
namespace Go.Proofs.YtnjdkjkihbgkaaaGreat.OpenG
set_option maxRecDepth 100000
open Go Go.Deep Go.ChangeShapes Go.WideShapes Go.ChangeAt Go.RowKit Byt RegM RowS RegW

/-- A register that came in. -/
structure Good (c : Rg) : Prop where
  key : c.key.size ≤ maxLen
  elem : c.elem.size ≤ maxLen
  gen : In64 c.gen
  node : In64 c.node
  seq : In64 c.seq
theorem i64_of {n : Int} (h : (Lit.int .i64 n).wf = true) : In64 n := by
  unfold In64
  simpa [Lit.wf, IntKind.min, IntKind.max, IntKind.bits, IntKind.signed] using h
section
variable {H : Type} {enc : TypeId × Value → H} {W : World} {sp : Nat → Bool} {hd : Bool}
theorem read_ev {t : TypeId} {f0 f1 : Field} (hs : Tryz.prog.underlying t = some (.struct #[f0, f1])) (hone : oneCellFields Tryz.prog #[f0, f1] = true) (hC : Tryz.prog.cellsOf t = 2)
    (h0 : Tryz.prog.underlying f0.type = some (.int .i64)) (h1 : Tryz.prog.underlying f1.type = some (.int .i64)) (fuel : Nat) (cs : List Value) (y : DataW H × List MemPlace)
    (h : DataW.trod enc Tryz.prog W 0 sp hd fuel t cs = some y) : ∃ m n : Int, cs = [.int .i64 m, .int .i64 n] ∧ In64 m ∧ In64 n := by
  obtain ⟨xs, n, _, _, hl, hlen, hf⟩ := DataW.trod_struct hs h
  rw [hC] at hl
  obtain ⟨a, b, rfl⟩ : ∃ a b, cs = [a, b] := by
    match cs, hl with
    | [a, b], _ => exact ⟨a, b, rfl⟩
  obtain ⟨y0, y1, rfl⟩ : ∃ a b, xs = [a, b] := by
    match xs, hlen with
    | [a, b], _ => exact ⟨a, b, rfl⟩
  obtain ⟨o0, k0⟩ := hone_of hone 0 f0 rfl
  obtain ⟨o1, k1⟩ := hone_of hone 1 f1 rfl
  have e0 := hf 0 f0 rfl
  have e1 := hf 1 f1 rfl
  rw [o0, k0] at e0
  rw [o1, k1] at e1
  simp only [List.drop_zero, List.take_succ_cons, List.take_zero, List.drop_succ_cons, List.getElem?_cons_zero, List.getElem?_cons_succ] at e0 e1
  obtain ⟨s, q0, _, w0⟩ := DataW.trod_int h0 e0
  obtain ⟨m, q1, _, w1⟩ := DataW.trod_int h1 e1
  simp only [List.cons.injEq, and_true] at q0 q1
  subst q0 q1
  exact ⟨s, m, rfl, i64_of w0, i64_of w1⟩
theorem read_fields {t u : TypeId} {f0 f1 f2 f3 g0 g1 : Field} (hs : Tryz.prog.underlying t = some (.struct #[f0, f1, f2, f3])) (hC : Tryz.prog.cellsOf t = 5)
    (o0 : f0.offset = 0) (o1 : f1.offset = 1) (o2 : f2.offset = 2) (o3 : f3.offset = 3) (k0 : Tryz.prog.cellsOf f0.type = 1) (k1 : Tryz.prog.cellsOf f1.type = 1) (k2 : Tryz.prog.cellsOf f2.type = 1)
    (h0 : Tryz.prog.underlying f0.type = some .string) (h1 : Tryz.prog.underlying f1.type = some .string) (h2 : Tryz.prog.underlying f2.type = some (.int .i64))
    (h3 : f3.type = u) (hu : Tryz.prog.underlying u = some (.struct #[g0, g1])) (hone : oneCellFields Tryz.prog #[g0, g1] = true) (k3 : Tryz.prog.cellsOf u = 2) (h4 : Tryz.prog.underlying g0.type = some (.int .i64)) (h5 : Tryz.prog.underlying g1.type = some (.int .i64))
    (fuel : Nat) (cs : List Value) (y : DataW H × List MemPlace) (h : DataW.trod enc Tryz.prog W 0 sp hd fuel t cs = some y) : ∃ x : Rg, cs = E.enc x ∧ Good x := by
  obtain ⟨xs, n, _, _, hl, hlen, hf⟩ := DataW.trod_struct hs h
  rw [hC] at hl
  obtain ⟨a, b, c, d, e, rfl⟩ : ∃ a b c d e, cs = [a, b, c, d, e] := by
    match cs, hl with
    | [a, b, c, d, e], _ => exact ⟨a, b, c, d, e, rfl⟩
  obtain ⟨y0, y1, y2, y3, rfl⟩ : ∃ a b c d, xs = [a, b, c, d] := by
    match xs, hlen with
    | [a, b, c, d], _ => exact ⟨a, b, c, d, rfl⟩
  have e0 := hf 0 f0 rfl
  have e1 := hf 1 f1 rfl
  have e2 := hf 2 f2 rfl
  have e3 := hf 3 f3 rfl
  rw [o0, k0] at e0
  rw [o1, k1] at e1
  rw [o2, k2] at e2
  rw [o3, h3, k3] at e3
  simp only [List.drop_zero, List.take_succ_cons, List.take_zero, List.drop_succ_cons, List.getElem?_cons_zero, List.getElem?_cons_succ] at e0 e1 e2 e3
  obtain ⟨s, q0, _, w0⟩ := DataW.trod_string h0 e0
  obtain ⟨v, q1, _, w1⟩ := DataW.trod_string h1 e1
  obtain ⟨g, q2, _, w2⟩ := DataW.trod_int h2 e2
  obtain ⟨m, k, q3, w3, w4⟩ := read_ev hu hone k3 h4 h5 _ _ _ e3
  simp only [List.cons.injEq, and_true] at q0 q1 q2 q3
  obtain ⟨q3, q4⟩ := q3
  subst q0 q1 q2 q3 q4
  exact ⟨⟨s, v, g, m, k⟩, rfl, ⟨w0, w1, i64_of w2, w3, w4⟩⟩
theorem read_reg (fuel : Nat) (cs : List Value) (y : DataW H × List MemPlace)
    (h : DataW.trod enc Tryz.prog W 0 sp hd fuel 43 cs = some y) : ∃ x : Rg, cs = E.enc x ∧ Good x :=
  read_fields Tryz.underlying43 (by kernel_rfl) rfl rfl rfl rfl (by kernel_rfl) (by kernel_rfl) (by kernel_rfl) Tryz.underlying9 Tryz.underlying9 Tryz.underlying3
    rfl Tryz.underlying30 (by kernel_rfl) (by kernel_rfl) Tryz.underlying3 Tryz.underlying3 fuel cs y h
theorem open_regs {base : Nat} {v : Value} {d : DataW H} {p : List MemPlace}
    (hval : Value.okWide Tryz.prog W .any base 23 v) (h : DataW.Trod enc Tryz.prog W 0 (fun _ => true) true 23 v d p) : ∃ A cap l, v = .slice A (List.length l) cap ∧ SlR E W A cap l ∧ ∀ x ∈ l, Good x :=
  OpenR.open_rows E (by kernel_rfl) read_reg hval h
theorem open_reg {base : Nat} {v : Value} {d : DataW H} {p : List MemPlace}
    (hval : Value.okWide Tryz.prog W .any base 43 v) (h : DataW.Trod enc Tryz.prog W 0 (fun _ => true) true 43 v d p) : ∃ c : Rg, v = .agg (rc c) ∧ Good c := by
  obtain ⟨cs, rfl, hsz⟩ := okWide_struct Tryz.underlying43 hval
  obtain ⟨fuel, hf⟩ := h
  obtain ⟨x, hx, hg⟩ := read_reg fuel _ _ hf
  refine ⟨x, ?_, hg⟩
  have hx2 : cs.toList = E.enc x := by simpa [Value.cells] using hx
  have : cs.toList = (rc x).toList := hx2
  rw [show cs = rc x from Array.toList_inj.1 this]
end
end Go.Proofs.YtnjdkjkihbgkaaaGreat.OpenG
namespace Go.Proofs.YtnjdkjkihbgkaaaGreat.RegX
set_option maxRecDepth 100000
open Go Go.RowKit Byt OpsM Rise RegM RegL RowS RowB RegW RegG RegS RegQ RegU

theorem max_of {l : List Rg} (h : ∀ c ∈ l, OpenG.Good c) : ∀ c ∈ l, c.key.size ≤ maxLen ∧ c.elem.size ≤ maxLen := fun c hc => ⟨(h c hc).key, (h c hc).elem⟩
theorem few_len {l : List Rg} (h : fewB l = true) : l.length ≤ 30 := by
  unfold fewB at h
  simp only [Bool.and_eq_true, decide_eq_true_eq] at h
  exact h.1
theorem few_fits {l : List Rg} (h : fewB l = true) (hg : ∀ c ∈ l, OpenG.Good c) : Fits l := by
  unfold fewB at h
  simp only [Bool.and_eq_true, decide_eq_true_eq, List.all_eq_true] at h
  intro c hc
  have h1 := h.2 c hc
  have h2 := hg c hc
  exact ⟨by omega, by omega, h2.gen, h2.node, h2.seq⟩
theorem one_of {c : Rg} (h : OpenG.Good c) : ∀ x ∈ [c], OpenG.Good x := fun x hx => by
  simp at hx
  rw [hx]
  exact h
theorem two_of {c d : Rg} (h : OpenG.Good c) (h2 : OpenG.Good d) : ∀ x ∈ [c, d], OpenG.Good x := fun x hx => by
  simp at hx
  rcases hx with rfl | rfl
  · exact h
  · exact h2
theorem fit_one {c : Rg} (h : fewB [c] = true) (hg : OpenG.Good c) : Fit c := few_fits h (one_of hg) c (by simp)
theorem fit_two {c d : Rg} (h : fewB [c, d] = true) (hg : OpenG.Good c) (hg2 : OpenG.Good d) : Fit c ∧ Fit d := ⟨few_fits h (two_of hg hg2) c (by simp), few_fits h (two_of hg hg2) d (by simp)⟩
theorem fits_one {c : Rg} (h : Fit c) : Fits [c] := fun x hx => by
  simp at hx
  rw [hx]
  exact h
theorem may_one {c : Rg} : mayR [c] = oneR c := by
  unfold mayR
  simp [risesB]
theorem merge_fits {a b : List Rg} (ha : Fits a) (hb : Fits b) : Fits (mergeR a b) := by
  unfold mergeR
  split
  · exact fold_fits b a ha hb
  · intro x hx; simp at hx
/-- What a key has, as a register, and whether it has one. -/
def vR (o : Option Rg) : Rg := o.getD noR
theorem gv_eq (o : Option Rg) : gv o = .tuple #[.agg (rc (vR o)), .bool o.isSome] := by cases o <;> rfl
theorem equal_yes {x y : Rg} (h : x = y) (w : World) : (Op.equalIn 10000 43 (.agg (E.enc x).toArray) (.agg (E.enc y).toArray)).run Tryz.prog w = .ok true w := by
  have := equal w x y
  rw [sameN_iff.2 h] at this
  exact this
theorem equal_no {x y : Rg} (h : x ≠ y) (w : World) : (Op.equalIn 10000 43 (.agg (E.enc x).toArray) (.agg (E.enc y).toArray)).run Tryz.prog w = .ok false w := by
  have := equal w x y
  cases e : sameN x y with
  | false =>
    rw [e] at this
    exact this
  | true => exact absurd (sameN_iff.1 e) h
/-- Two registers compared. -/
theorem equal_is {x y : Rg} {b : Bool} (h : b = true ↔ x = y) (w : World) : (Op.equalIn 10000 43 (.agg (E.enc x).toArray) (.agg (E.enc y).toArray)).run Tryz.prog w = .ok b w := by
  cases b with
  | true => exact equal_yes (h.1 rfl) w
  | false => exact equal_no (fun e => by cases h.2 e) w
/-- The chapter's example. -/
def ax : Rg := ⟨⟨#[97]⟩, ⟨#[120]⟩, 2, 0, 1⟩
def ay : Rg := ⟨⟨#[97]⟩, ⟨#[121]⟩, 1, 1, 1⟩
theorem merge_ex : mergeR [ay] [ax] = [ax] := by kernel_rfl
theorem newer_ex : newerB ax ay = true := by kernel_rfl
theorem may_ex : mayR [ax] = true := by kernel_rfl
theorem put_ex : putR [ax] ay = [ax] := by kernel_rfl
theorem get_ex : getR [ax] ⟨#[97]⟩ = some ax := by kernel_rfl
end Go.Proofs.YtnjdkjkihbgkaaaGreat.RegX
