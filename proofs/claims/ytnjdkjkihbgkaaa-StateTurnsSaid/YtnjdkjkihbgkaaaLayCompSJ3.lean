/- A contract of the library's, laid at this program: slices.Compact at texts. | slices.Compact at texts: the library's contract, laid at this program: a contract on a new row. No condition. | What Del and Elems of the project's package pair return: contracts. -/
import Derived.Shelf.SlLaysN
import Derived.Test.YtnjdkjkihbgkaaaProg
import Derived.Test.YtnjdkjkihbgkaaaPairPJ6
import Derived.Shelf.SlicesG.CompactS
import Derived.Sort.OwnSorted
import Derived.Test.YtnjdkjkihbgkaaaPairV
namespace Go.Proofs
set_option maxRecDepth 100000
open Go.Shelf
end Go.Proofs
namespace Go.Proofs.Ytnjdkjkihbgkaaa.StrC
set_option maxRecDepth 100000
open Go Go.RowKit Go.Sort Go.Shelf Go.Lib Go.Proofs Byt Txt

def raw (l : List ByteArray) : List (List UInt8) := l.map fun x => x.data.toList
def cook (l : List (List UInt8)) : List ByteArray := l.map fun x => ⟨x.toArray⟩
theorem cook_raw (l : List ByteArray) : cook (raw l) = l := by
  unfold cook raw
  rw [List.map_map]
  have : ((fun x : List UInt8 => (⟨x.toArray⟩ : ByteArray)) ∘ fun x : ByteArray => x.data.toList) = id := by
    funext x
    cases x
    simp
  rw [this, List.map_id]
theorem enc_cook (l : List (List UInt8)) : l.map encStr = ts (cook l) := by
  unfold ts cook
  rw [List.map_map]
  rfl
theorem enc_raw (l : List ByteArray) : (raw l).map encStr = ts l := by rw [enc_cook, cook_raw]
theorem raw_inj {a b : ByteArray} (h : a.data.toList = b.data.toList) : a = b := by
  cases a; cases b
  congr 1
  exact Array.ext' h
/-- Each text that is another one than the one ahead of it. -/
def once : Option ByteArray → List ByteArray → List ByteArray
  | _, [] => []
  | o, x :: r => if o = some x then once o r else x :: once (some x) r
theorem once_snoc : ∀ (l : List ByteArray) (o : Option ByteArray) (x : ByteArray), once o (l ++ [x]) = once o l ++ (if (l.getLast?.or o) = some x then [] else [x])
  | [], o, x => by
    show once o [x] = _
    unfold once
    by_cases h : o = some x <;> simp [h, once]
  | y :: r, o, x => by
    rw [List.cons_append]
    unfold once
    have e : ∀ q : Option ByteArray, (y :: r).getLast?.or q = r.getLast?.or (some y) := by
      intro q
      cases hr : r.getLast? with
      | none =>
        have : r = [] := by simpa using hr
        subst this
        simp
      | some z =>
        have : (y :: r).getLast? = some z := by
          rw [List.getLast?_cons, hr]
          rfl
        rw [this]
        rfl
    by_cases h : o = some y
    · rw [if_pos h, if_pos h, once_snoc r o x, e, h]
    · rw [if_neg h, if_neg h, once_snoc r (some y) x, e]
      rfl
theorem at_raw (l : List ByteArray) (i : Nat) (hi : i < l.length) : (raw l).toArray[i]! = l[i].data.toList := by
  have : i < (raw l).length := by simpa [raw] using hi
  rw [Array.getElem!_eq_getD, Array.getD_eq_getD_getElem?, List.getElem?_toArray, List.getElem?_eq_getElem this]
  simp [raw]
theorem up_to (l : List ByteArray) : ∀ m, m ≤ l.length → compactUpTo (raw l).toArray m = raw (once none (l.take m))
  | 0, _ => by simp [compactUpTo, once, raw]
  | m + 1, h => by
    have hm : m < l.length := h
    rw [compactUpTo_succ, up_to l m (by omega), List.take_succ_eq_append_getElem hm, once_snoc]
    have e : (raw l).toArray[m]! = l[m].data.toList := at_raw l m hm
    unfold raw
    rw [List.map_append]
    congr 1
    change (if keeps (raw l).toArray m = true then [(raw l).toArray[m]!] else []) = _
    rw [e]
    by_cases h0 : m = 0
    · subst h0
      simp [keeps]
    · have hp : m - 1 < l.length := by omega
      have e2 : (raw l).toArray[m - 1]! = l[m - 1].data.toList := at_raw l (m - 1) hp
      have hl : (l.take m).getLast? = some l[m - 1] := by
        rw [List.getLast?_eq_getElem?, List.length_take, Nat.min_eq_left (by omega), List.getElem?_take, if_pos (by omega), List.getElem?_eq_getElem hp]
      rw [hl]
      unfold keeps
      rw [e, e2]
      by_cases hq : l[m] = l[m - 1]
      · rw [if_neg (by simp [h0, hq]), if_pos (by simp [hq])]
        rfl
      · rw [if_pos (by simp; exact .inr (fun q => hq (raw_inj (by rw [q])))), if_neg (by simp; exact fun q => hq q.symm)]
        rfl
theorem compact_is (l : List ByteArray) : Lib.compact (raw l) = raw (once none l) := by
  unfold Lib.compact
  have h := up_to l l.length (Nat.le_refl _)
  rw [List.take_length] at h
  rw [show (raw l).length = l.length by simp [raw]]
  exact h
theorem once_le : ∀ (l : List ByteArray) (o : Option ByteArray), (once o l).length ≤ l.length
  | [], _ => by simp [once]
  | x :: r, o => by
    unfold once
    split
    · have := once_le r o
      simp only [List.length_cons]
      omega
    · have := once_le r (some x)
      simp only [List.length_cons]
      omega
theorem raw_len (l : List ByteArray) : (raw l).length = l.length := by simp [raw]
end Go.Proofs.Ytnjdkjkihbgkaaa.StrC
namespace Go.Proofs.Ytnjdkjkihbgkaaa.PairY
set_option maxRecDepth 100000
open Go Go.RowKit Byt OpsM OpsK Rise PairM PairN RowS RowB PairW PairS PairX PairB Txt PairQ StrC

/-- A key and an element, as a pair without an event. -/
def gone (k e : ByteArray) : Pr := ⟨k, e, 0, 0⟩
theorem bare_gone (x : Pr) (k e : ByteArray) : offB k e x = false ↔ bareP x = gone k e := by
  unfold offB bareP gone
  by_cases h1 : x.key = k <;> by_cases h2 : x.elem = e <;> simp [h1, h2]
set_option maxRecDepth 100000 in
set_option maxHeartbeats 8000000 in
theorem del_ret (A : Option Addr) (cap : Nat) (l : List Pr) (k e : ByteArray) (w : World) (S : SlR E w A cap l) (hf : Fits l) (hl : l.length ≤ 200000) :
    Calls Try.prog 59 #[.slice A l.length cap, .string k, .string e] w (NewS E (delP l k e) w) := by
  have cm := fun W S => PairV.may_ret A cap l W S hf (by omega)
  have hcap := S.1
  obtain ⟨i, hi, z0, z1, z2⟩ := info_parts E.info
  have hmk0 := fun (W : World) => run_make_own (P := Try.prog) W W.heap.size 24 41 i (.agg (E.enc E.zero).toArray) 4 Try.underlying24 hi z0 z1 .i64 .i64 l.length (by rw [z2]; show 48 * _ ≤ _; omega) (by unfold maxLen; omega) (Nat.le_refl _)
  clear hf hi z0 z1 z2
  obtain ⟨m, hm⟩ : ∃ m, mayP l = m := ⟨_, rfl⟩
  rw [hm] at cm
  have HD : Hid (delP l k e = if m = true then l.filter (offB k e) else []) := aside (by rw [← hm]; rfl)
  clear hm
  go_enter Try.func59, Try.ntmps59
  go_wp2_with fail
  refine (cm _ S).mono ?_
  rintro x w1 ⟨rfl, k1⟩
  have S1 := S.below k1
  clear S cm
  cases m with
  | false =>
    have HE : Hid (delP l k e = []) := aside HD.out
    clear S1
    go_wp2
    go_ret
    rw [HE.out]
    exact ⟨none, 0, rfl, SlR.nil E _, k1⟩
  | true =>
    have HE : Hid (delP l k e = l.filter (offB k e)) := aside HD.out
    clear HD
    go_wp2_with (first
      | (refine wpList_store_new E rfl _ _ rfl _ _ _ rfl (gone k e) _ rfl rfl rfl rfl ?_; intro w2 bg kg gg sg; obtain ⟨w3, hmk, own3, g3⟩ := hmk0 w2))
    have HS2 := aside (S1.below kg)
    have k2 := k1.trans (kg.mono k1.size)
    have kb3 : Below w2.heap.size w2 w3 := below_grown (Below.refl _ _) (Nat.le_refl _) g3 (fun q hq => by cases hq)
    clear S1 hmk0 hmk g3 kg gg k1
    have own4 : w3.ownsRow w2.heap.size E.T 4 (.slice (some ⟨w1.heap.size + 1, 0, none⟩) 0 l.length) 0 [] := by
      rw [show w2.heap.size = w1.heap.size + 1 from sg] at own3 ⊢
      exact own3
    have HG := aside bg
    clear bg own3
    go_loopw [8, 22] (fun v i wr => ∃ (j : Nat) (acc : List Pr), j ≤ l.length ∧ i = .int .i64 j ∧ acc.length ≤ j ∧ Hid (acc = (l.take j).filter (offB k e)) ∧ Hid (wr.ownsRow w2.heap.size E.T 4 v acc.length (flat E acc)) ∧ Below w2.heap.size w2 wr) (fun _ i _ => l.length - (intOf i).toNat)
    case atStart => exact ⟨0, [], Nat.zero_le _, rfl, Nat.le_refl _, aside rfl, aside own4, kb3⟩
    case round =>
      clear own4 kb3
      obtain ⟨j, acc, hj, rfl, hle, HA, HO, kb⟩ := hrel
      have HS := aside (HS2.out.below kb)
      by_cases hlt : j < l.length
      · obtain ⟨b, off, rfl, hbw, hr⟩ := PairW.plain HS.out (by omega)
        obtain ⟨x, hx⟩ : ∃ x, l[j]? = some x := ⟨_, List.getElem?_eq_getElem hlt⟩
        have hr1 := hr j x hx
        have p0 : (j : Int) < l.length := by omega
        have m0 : ((j : Int)).toNat = j := by omega
        have HF := aside (filter_take (q := offB k e) hx)
        have cb := fun W => bare_ret x W
        have hgo := bare_gone x k e
        clear hr hx
        obtain ⟨z, hz⟩ : ∃ z, offB k e x = z := ⟨_, rfl⟩
        rw [hz] at HF hgo
        have HB2 := aside (HG.out.below kb)
        clear hz
        cases z with
        | true =>
          have HA2 : Hid (acc ++ [x] = (l.take (j + 1)).filter (offB k e)) := aside (by rw [HF.out, ← HA.out]; rfl)
          have heq : ∀ W, (Op.equalIn 10000 41 (.agg (pc (bareP x))) (.agg (E.enc (gone k e)).toArray)).run Try.prog W = .ok false W := equal_no (x := bareP x) (y := gone k e) (fun q => by cases hgo.2 q)
          clear HA HF hgo
          go_wp2_with (first
            | (refine wpList_load_at E rfl _ rfl b _ rfl x hr1 ?_)
            | (refine wpList_store_new E rfl _ _ rfl _ _ _ rfl x _ rfl rfl rfl rfl ?_; intro w5 bx kx gx sx))
          have k5 := kb.trans (kx.mono kb.size)
          have O5 := HO.out.kept gx (Classical.em _)
          have G5 := HB2.out.below kx
          have HX := aside bx
          clear hr1 HS HO HB2 kx gx bx
          refine Grow.region [(0, true), (2, true), (1, false), (3, true)] (by kernel_rfl) (by kernel_rfl) rfl (by kernel_rfl) (by intro c a d v w h; cases d <;> exact h) ?_
          rename World => V
          have dr := below_drew1 (Below.refl V.heap.size V)
          have kd := k5.trans (dr.mono k5.size)
          have Od : V.drew.ownsRow w2.heap.size E.T 4 _ acc.length (flat E acc) := O5.kept (grown_of_below dr none) (Classical.em _)
          have rg := (G5.below dr).range
          have rx := (HX.out.below dr).range
          have Bd := HX.out.below dr
          have hsz := kd.size
          generalize V.drew = wd at kd Od rg rx Bd hsz ⊢
          clear k5 O5 G5 HX dr
          repeat (first | (refine RowG.reads_row E rfl rfl _ rfl _ _ rfl x rx ?_; simp only [Act.put, List.setIfInBounds_toArray, List.set_cons_succ, List.set_cons_zero]) | (refine RowG.reads_row E rfl rfl _ rfl _ _ rfl (gone k e) rg ?_; simp only [Act.put, List.setIfInBounds_toArray, List.set_cons_succ, List.set_cons_zero]) | (refine Grow.reads rfl rfl ?_; go_big_quiet_step (fail); refine wpQuiet_nil ?_))
          refine Grow.acts rfl ?_
          go_wp2_with fail
          refine (cb _).mono ?_
          rintro _ w6 ⟨rfl, k6⟩
          have kd6 := kd.trans (k6.mono kd.size)
          have O6 := aside (Od.kept (grown_of_below k6 none) (Classical.em _))
          have B6 := Bd.below k6
          clear rg rx Od Bd kd cb
          go_wp2_with fail
          refine ⟨k6, ?_⟩
          repeat (refine Grow.reads rfl rfl ?_; go_big_quiet_step (fail); refine wpQuiet_nil ?_)
          refine Grow.ends ?_
          clear k6 hsz
          have hs6 := kd6.size
          go_wp2_with (first
            | (refine wpList_load_box E rfl _ rfl _ rfl x B6 ?_)
            | (refine RowC.wpList_build1 E (of_decide_eq_true rfl) rfl _ rfl x rfl ?_)
            | (refine wpList_append_new E rfl (.tmp 30) (.tmp 32) rfl w2.heap.size _ acc.length acc rfl w6 x _ rfl rfl O6.out (by omega) hs6 ?_; intro v' w7 own7 h7))
          have k7 := kd6.trans h7
          have HO7 := aside own7
          clear h7 own7 kd6
          go_roundw
          case rel => exact ⟨j + 1, acc ++ [x], by omega, by go_num, by simp; omega, HA2, aside (by rw [List.length_append]; exact HO7.out), k7⟩
          case measure => simp [intOf]; omega
        | false =>
          have HA2 : Hid (acc = (l.take (j + 1)).filter (offB k e)) := aside (by rw [HF.out, ← HA.out]; simp)
          have heq : ∀ W, (Op.equalIn 10000 41 (.agg (pc (bareP x))) (.agg (E.enc (gone k e)).toArray)).run Try.prog W = .ok true W := equal_yes (x := bareP x) (y := gone k e) (hgo.1 rfl)
          clear HA HF hgo
          go_wp2_with (first
            | (refine wpList_load_at E rfl _ rfl b _ rfl x hr1 ?_)
            | (refine wpList_store_new E rfl _ _ rfl _ _ _ rfl x _ rfl rfl rfl rfl ?_; intro w5 bx kx gx sx))
          have k5 := kb.trans (kx.mono kb.size)
          have O5 := HO.out.kept gx (Classical.em _)
          have G5 := HB2.out.below kx
          have HX := aside bx
          clear hr1 HS HO HB2 kx gx bx
          refine Grow.region [(0, true), (2, true), (1, false), (3, true)] (by kernel_rfl) (by kernel_rfl) rfl (by kernel_rfl) (by intro c a d v w h; cases d <;> exact h) ?_
          rename World => V
          have dr := below_drew1 (Below.refl V.heap.size V)
          have kd := k5.trans (dr.mono k5.size)
          have Od : V.drew.ownsRow w2.heap.size E.T 4 _ acc.length (flat E acc) := O5.kept (grown_of_below dr none) (Classical.em _)
          have rg := (G5.below dr).range
          have rx := (HX.out.below dr).range
          have Bd := HX.out.below dr
          have hsz := kd.size
          generalize V.drew = wd at kd Od rg rx Bd hsz ⊢
          clear k5 O5 G5 HX dr
          repeat (first | (refine RowG.reads_row E rfl rfl _ rfl _ _ rfl x rx ?_; simp only [Act.put, List.setIfInBounds_toArray, List.set_cons_succ, List.set_cons_zero]) | (refine RowG.reads_row E rfl rfl _ rfl _ _ rfl (gone k e) rg ?_; simp only [Act.put, List.setIfInBounds_toArray, List.set_cons_succ, List.set_cons_zero]) | (refine Grow.reads rfl rfl ?_; go_big_quiet_step (fail); refine wpQuiet_nil ?_))
          refine Grow.acts rfl ?_
          go_wp2_with fail
          refine (cb _).mono ?_
          rintro _ w6 ⟨rfl, k6⟩
          have kd6 := kd.trans (k6.mono kd.size)
          have O6 := aside (Od.kept (grown_of_below k6 none) (Classical.em _))
          have B6 := Bd.below k6
          clear rg rx Od Bd kd cb
          go_wp2_with fail
          refine ⟨k6, ?_⟩
          repeat (refine Grow.reads rfl rfl ?_; go_big_quiet_step (fail); refine wpQuiet_nil ?_)
          refine Grow.ends ?_
          clear k6 hsz
          have hs6 := kd6.size
          clear hs6
          go_wp2_with (first | go_skip)
          go_roundw
          case rel => exact ⟨j + 1, acc, by omega, by go_num, by omega, HA2, O6, kd6⟩
          case measure => simp [intOf]; omega
      · have HE2 : Hid (acc = delP l k e) := aside (by rw [HE.out, HA.out, List.take_of_length_le (by omega)])
        obtain ⟨A5, c5, rfl, S5⟩ := SlR.own HO.out
        clear HS HA
        go_wp2_with fail
        go_ret
        rw [← HE2.out]
        exact ⟨A5, c5, rfl, S5, k2.trans (kb.mono k2.size)⟩

theorem once_elems (k : ByteArray) : ∀ (l : List Pr) (o : Option ByteArray), once o ((l.filter fun x => decide (x.key = k)).map Pr.elem) = elemsF k o l
  | [], o => by simp [once, elemsF]
  | x :: r, o => by
    unfold elemsF
    by_cases h : x.key = k
    · rw [List.filter_cons, if_pos (by simpa using h), List.map_cons]
      unfold once
      by_cases ho : o = some x.elem
      · rw [if_pos ho, if_pos (.inr ho), once_elems k r o]
      · rw [if_neg ho, if_neg (by
          rintro (q | q)
          · exact q h
          · exact ho q), once_elems k r (some x.elem)]
    · rw [List.filter_cons, if_neg (by simpa using h), if_pos (.inl h), once_elems k r o]
/-- The elements of a key, in order, with repeats. -/
def els (k : ByteArray) (l : List Pr) : List ByteArray := (l.filter fun x => decide (x.key = k)).map Pr.elem
theorem els_yes {k : ByteArray} {l : List Pr} {j : Nat} {x : Pr} (h : l[j]? = some x) (hk : x.key = k) : els k (l.take (j + 1)) = els k (l.take j) ++ [x.elem] := by
  obtain ⟨hj, rfl⟩ := List.getElem?_eq_some_iff.1 h
  unfold els
  rw [List.take_succ_eq_append_getElem hj, List.filter_append]
  simp [hk]
theorem els_no {k : ByteArray} {l : List Pr} {j : Nat} {x : Pr} (h : l[j]? = some x) (hk : x.key ≠ k) : els k (l.take (j + 1)) = els k (l.take j) := by
  obtain ⟨hj, rfl⟩ := List.getElem?_eq_some_iff.1 h
  unfold els
  rw [List.take_succ_eq_append_getElem hj, List.filter_append]
  simp [hk]
theorem own_empty (w : World) : (w.alloc (.cells #[] 9)).ownsRow w.heap.size 9 1 (.slice (some ⟨w.heap.size, 0, none⟩) 0 0) 0 (ts []) :=
  ⟨rfl, .inr ⟨w.heap.size, 0, #[], rfl, Nat.le_refl _, heap_alloc_new w _, Nat.le_refl _, Nat.zero_le _, rfl, rfl⟩⟩
end Go.Proofs.Ytnjdkjkihbgkaaa.PairY
