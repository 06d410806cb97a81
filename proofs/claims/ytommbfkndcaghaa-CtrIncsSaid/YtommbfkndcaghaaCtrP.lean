/- What the document's put, Inc and Merge of package ctr return: contracts. -/
import Derived.Test.YtommbfkndcaghaaCtrR
namespace Go.Proofs.Ytommbfkndcaghaa.CtrP
open Go Go.RowKit Byt OpsM OpsK Rise CtrM RowS CtrW CtrR

theorem put_step (k : ByteArray) (n : Int) (d : Bool) (x : Cn) (r : List Cn) : putC k n d (x :: r) = (if d = false ∧ ltS x.key k = false then one k n else []) ++ (if x.key = k then [] else [x]) ++ putC k n (d || !ltS x.key k) r := rfl
theorem bne_yes {a b : ByteArray} (h : a = b) : (a.toList != b.toList) = false := by rw [bne, str_yes h]; rfl
theorem bne_no {a b : ByteArray} (h : a ≠ b) : (a.toList != b.toList) = true := by rw [bne, str_no h]; rfl
theorem one_yes {k : ByteArray} {n : Int} (h : n ≠ 0) : one k n = [⟨k, n⟩] := by unfold one; rw [if_pos h]
theorem one_no {k : ByteArray} {n : Int} (h : n = 0) : one k n = [] := by unfold one; rw [if_neg (by simp [h])]

/-- A range below all rows stays behind an append. -/
theorem range_kept {w wr w1 : World} {g o n : Nat} {v : Value} {cs : List Value} {xs : List Value} {x : Obj} {T : TypeId} {k : Nat} (hg : g < w.heap.size) (h : wr.rangeAt g o cs) (HO : wr.ownsRow w.heap.size T k v n xs) (g1 : (wr.alloc x).grownBy w1 v.ownBlock) : w1.rangeAt g o cs := fun j u hu => by
  have hc := h j u hu
  have hlt := block_lt_of_cell hc
  have hc2 : (wr.alloc x).cell? ⟨g, o + j, none⟩ = some u := (((Below.refl _ wr).alloc (Nat.le_refl _) x).cell hlt).trans hc
  rw [World.cell?_of_block (g1.block g (by simp at hlt ⊢; omega) (fun e => by have := (HO.lt g e.symm).1; omega))]
  exact hc2
set_option maxRecDepth 100000 in
set_option maxHeartbeats 8000000 in
theorem put_ret (A : Option Addr) (cap : Nat) (l : List Cn) (k : ByteArray) (n : Int) (w : World) (S : SlR E w A cap l) (hl : l.length ≤ 1000000) :
    Calls Try.prog 24 #[.slice A l.length cap, .string k, .int .i64 n] w (NewR E (putC k n false l) w) := by
  have hcap := S.1
  obtain ⟨R, hR⟩ : ∃ R, putC k n false l = R := ⟨_, rfl⟩
  rw [hR]
  have HR := aside hR
  clear hR
  go_enter Try.func24, Try.ntmps24
  go_wp2
  go_loopw [7, 8, 9] (fun v d i wr => ∃ (j : Nat) (b : Bool) (pre : List Cn), j ≤ l.length ∧ i = .int .i64 j ∧ d = .bool b ∧ pre.length ≤ 2 * j ∧ Hid (R = pre ++ putC k n b (l.drop j)) ∧ Hid (wr.ownsRow w.heap.size E.T E.k v pre.length (flat E pre)) ∧ Below w.heap.size w wr) (fun _ _ i _ => l.length - (intOf i).toNat)
  case atStart => exact ⟨0, false, [], Nat.zero_le _, rfl, rfl, Nat.zero_le _, HR.out.symm, World.ownsRow_nil _ _ _ _, Below.refl _ _⟩
  case round =>
    obtain ⟨j, b, pre, hj, rfl, rfl, hpl, HP, HO, kb⟩ := hrel
    have hsz := kb.size
    by_cases hlt : j < l.length
    · obtain ⟨g, off, rfl, hbw, hr⟩ := CtrW.plain S (by omega)
      obtain ⟨x, hx⟩ : ∃ x, l[j]? = some x := ⟨_, List.getElem?_eq_getElem hlt⟩
      have hrx := range_below (hr j x hx) kb
      obtain ⟨c0, c1⟩ := cells hrx
      have p0 : (j : Int) < l.length := by omega
      have m0 : ((j : Int)).toNat = j := by omega
      have hP := HP.out
      rw [getD_drop hx, put_step] at hP
      have HX := aside hrx
      clear hr S hx HP hrx
      by_cases hk : x.key = k
      · cases b with
        | true =>
          have e0 := str_yes hk
          have e1 := bne_yes hk
          have HP2 : Hid (R = (pre) ++ putC k n true (l.drop (j + 1))) := aside (by
            rw [hP]
            rw [if_neg (by simp)]
            rw [if_pos hk]
            simp)
          clear hP hk
          go_wp2
          go_roundw
          case rel => exact ⟨j + 1, true, pre, by omega, by go_num, rfl, by omega, HP2, HO, kb⟩
          case measure => simp [intOf]; omega
        | false =>
          cases hlt2 : ltS x.key k with
          | true => exact absurd hk (strictS.ne hlt2)
          | false =>
            by_cases hn : n = 0
            · skip
              have e0 := str_yes hk
              have e1 := bne_yes hk
              have HP2 : Hid (R = (pre) ++ putC k n true (l.drop (j + 1))) := aside (by
                rw [hP]
                rw [if_pos ⟨rfl, hlt2⟩, one_no hn]
                rw [if_pos hk]
                simp [hlt2])
              have h2 : Op.bytesLess x.key.toList k.toList = false := hlt2
              have t0 : (n != 0) = false := by simpa using hn
              clear hP hlt2 hn hk
              go_wp2
              go_roundw
              case rel => exact ⟨j + 1, true, pre, by omega, by go_num, rfl, by omega, HP2, HO, kb⟩
              case measure => simp [intOf]; omega
            · skip
              have e0 := str_yes hk
              have e1 := bne_yes hk
              have HP2 : Hid (R = (pre ++ [(⟨k, n⟩ : Cn)]) ++ putC k n true (l.drop (j + 1))) := aside (by
                rw [hP]
                rw [if_pos ⟨rfl, hlt2⟩, one_yes hn]
                rw [if_pos hk]
                simp [hlt2])
              have h2 : Op.bytesLess x.key.toList k.toList = false := hlt2
              have t0 : (n != 0) = true := by simpa using hn
              clear hP hlt2 hn hk
              go_wp2_with (first | (refine wpList_append E rfl (.tmp 29) (.tmp 33) rfl w.heap.size _ _ pre rfl (HO.out.alloc _) _ 1 1 [⟨k, n⟩] rfl rfl (SlR.new1 E wr ⟨k, n⟩ _) (by omega) (by simp; omega) ?_; intro v2 w2 own1 g1; have k2 : Below w.heap.size w w2 := below_grown (kb.alloc hsz _) (by simp; omega) g1 (fun q hq => (HO.out.lt q hq).1); have O2 := aside own1; have HX1 := aside (range_kept hbw HX.out HO.out g1); have cc := cells HX1.out; have c0' := cc.1; have c1' := cc.2; clear own1 g1 cc))
              go_roundw
              case rel => exact ⟨j + 1, true, pre ++ [(⟨k, n⟩ : Cn)], by omega, by go_num, rfl, by simp; omega, HP2, aside (by have := O2.out; simpa using this), k2⟩
              case measure => simp [intOf]; omega
      · cases b with
        | true =>
          have e0 := str_no hk
          have e1 := bne_no hk
          have HP2 : Hid (R = (pre ++ [x]) ++ putC k n true (l.drop (j + 1))) := aside (by
            rw [hP]
            rw [if_neg (by simp)]
            rw [if_neg hk]
            simp)
          clear hP hk
          go_wp2_with (first | (refine wpList_append E rfl (.tmp 42) (.tmp 47) rfl w.heap.size _ _ pre rfl (HO.out.alloc _) _ 1 1 [x] rfl rfl (SlR.new1 E wr x _) (by omega) (by simp; omega) ?_; intro v2 w2 own2 g2; have k2 : Below w.heap.size w w2 := below_grown (kb.alloc hsz _) (by simp; omega) g2 (fun q hq => (HO.out.lt q hq).1); have O2 := aside own2; clear own2 g2))
          go_roundw
          case rel => exact ⟨j + 1, true, pre ++ [x], by omega, by go_num, rfl, by simp; omega, HP2, aside (by have := O2.out; simpa using this), k2⟩
          case measure => simp [intOf]; omega
        | false =>
          cases hlt2 : ltS x.key k with
          | true =>
            have e0 := str_no hk
            have e1 := bne_no hk
            have HP2 : Hid (R = (pre ++ [x]) ++ putC k n false (l.drop (j + 1))) := aside (by
              rw [hP]
              rw [if_neg (by rw [hlt2]; simp)]
              rw [if_neg hk]
              simp [hlt2])
            have h2 : Op.bytesLess x.key.toList k.toList = true := hlt2
            clear hP hlt2 hk
            go_wp2_with (first | (refine wpList_append E rfl (.tmp 42) (.tmp 47) rfl w.heap.size _ _ pre rfl (HO.out.alloc _) _ 1 1 [x] rfl rfl (SlR.new1 E wr x _) (by omega) (by simp; omega) ?_; intro v2 w2 own2 g2; have k2 : Below w.heap.size w w2 := below_grown (kb.alloc hsz _) (by simp; omega) g2 (fun q hq => (HO.out.lt q hq).1); have O2 := aside own2; clear own2 g2))
            go_roundw
            case rel => exact ⟨j + 1, false, pre ++ [x], by omega, by go_num, rfl, by simp; omega, HP2, aside (by have := O2.out; simpa using this), k2⟩
            case measure => simp [intOf]; omega
          | false =>
            by_cases hn : n = 0
            · skip
              have e0 := str_no hk
              have e1 := bne_no hk
              have HP2 : Hid (R = (pre ++ [x]) ++ putC k n true (l.drop (j + 1))) := aside (by
                rw [hP]
                rw [if_pos ⟨rfl, hlt2⟩, one_no hn]
                rw [if_neg hk]
                simp [hlt2])
              have h2 : Op.bytesLess x.key.toList k.toList = false := hlt2
              have t0 : (n != 0) = false := by simpa using hn
              clear hP hlt2 hn hk
              go_wp2_with (first | (refine wpList_append E rfl (.tmp 42) (.tmp 47) rfl w.heap.size _ _ pre rfl (HO.out.alloc _) _ 1 1 [x] rfl rfl (SlR.new1 E wr x _) (by omega) (by simp; omega) ?_; intro v2 w2 own2 g2; have k2 : Below w.heap.size w w2 := below_grown (kb.alloc hsz _) (by simp; omega) g2 (fun q hq => (HO.out.lt q hq).1); have O2 := aside own2; clear own2 g2))
              go_roundw
              case rel => exact ⟨j + 1, true, pre ++ [x], by omega, by go_num, rfl, by simp; omega, HP2, aside (by have := O2.out; simpa using this), k2⟩
              case measure => simp [intOf]; omega
            · skip
              have e0 := str_no hk
              have e1 := bne_no hk
              have HP2 : Hid (R = (pre ++ [(⟨k, n⟩ : Cn)] ++ [x]) ++ putC k n true (l.drop (j + 1))) := aside (by
                rw [hP]
                rw [if_pos ⟨rfl, hlt2⟩, one_yes hn]
                rw [if_neg hk]
                simp [hlt2])
              have h2 : Op.bytesLess x.key.toList k.toList = false := hlt2
              have t0 : (n != 0) = true := by simpa using hn
              clear hP hlt2 hn hk
              go_wp2_with (first | (refine wpList_append E rfl (.tmp 29) (.tmp 33) rfl w.heap.size _ _ pre rfl (HO.out.alloc _) _ 1 1 [⟨k, n⟩] rfl rfl (SlR.new1 E wr ⟨k, n⟩ _) (by omega) (by simp; omega) ?_; intro v1 w1 own1 g1; have k1 : Below w.heap.size w w1 := below_grown (kb.alloc hsz _) (by simp; omega) g1 (fun q hq => (HO.out.lt q hq).1); have O1 := aside own1; have HX1 := aside (range_kept hbw HX.out HO.out g1); have cc := cells HX1.out; have c0' := cc.1; have c1' := cc.2; have s1 := k1.size; clear own1 g1 cc) | (refine wpList_append E rfl (.tmp 42) (.tmp 47) rfl w.heap.size _ _ (pre ++ [⟨k, n⟩]) rfl (O1.out.alloc _) _ 1 1 [x] rfl rfl (SlR.new1 E w1 x _) (by omega) (by simp; omega) ?_; intro v2 w2 own2 g2; have k2 : Below w.heap.size w w2 := below_grown (k1.alloc s1 _) (by simp; omega) g2 (fun q hq => (O1.out.lt q hq).1); have O2 := aside own2; clear own2 g2))
              go_roundw
              case rel => exact ⟨j + 1, true, pre ++ [(⟨k, n⟩ : Cn)] ++ [x], by omega, by go_num, rfl, by simp; omega, HP2, aside (by have := O2.out; simpa using this), k2⟩
              case measure => simp [intOf]; omega
    · have hP := HP.out
      rw [List.drop_of_length_le (by omega)] at hP
      clear HP S
      cases b with
      | true =>
        have HP2 : Hid (R = pre) := aside (by rw [hP]; simp [putC])
        clear hP
        go_wp2
        go_ret
        exact ⟨_, rfl, by rw [HP2.out]; exact HO.out, kb⟩
      | false =>
        by_cases hn : n = 0
        · subst hn
          have t0 : ((0 : Int) != 0) = false := by simp
          have HP2 : Hid (R = pre) := aside (by rw [hP]; simp [putC, one])
          clear hP
          go_wp2
          go_ret
          exact ⟨_, rfl, by rw [HP2.out]; exact HO.out, kb⟩
        · have t0 : (n != 0) = true := by simpa using hn
          have HP2 : Hid (R = pre ++ [⟨k, n⟩]) := aside (by rw [hP]; simp [putC, one_yes hn])
          clear hP hn
          go_wp2_with (first | (refine wpList_append E rfl (.tmp 55) (.tmp 59) rfl w.heap.size _ _ pre rfl (HO.out.alloc _) _ 1 1 [⟨k, n⟩] rfl rfl (SlR.new1 E wr ⟨k, n⟩ _) (by omega) (by simp; omega) ?_; intro v2 w2 own2 g2; have k2 : Below w.heap.size w w2 := below_grown (kb.alloc hsz _) (by simp; omega) g2 (fun q hq => (HO.out.lt q hq).1); have O2 := aside own2; clear own2 g2))
          go_ret
          exact ⟨_, rfl, by rw [HP2.out]; have := O2.out; simpa using this, k2⟩
end Go.Proofs.Ytommbfkndcaghaa.CtrP
