/- What the document's answers Both, some, Common and Without return: contracts. -/
import Derived.Test.YtbggegpbcgcknaaIdX
namespace Go.Proofs.Ytbggegpbcgcknaa.IdY
open Go Go.Sort Go.RowKit IdM Byt IdW IdC IdV IdB IdX

theorem NewI.mono {l : List Idn} {w w1 : World} {e : Ending} {w' : World} (h : NewI l w1 e w') (hb : Below w.heap.size w w1) : NewI l w e w' := by
  obtain ⟨v, rfl, h1, h2⟩ := h
  exact ⟨v, rfl, owns_less h1 hb.size, hb.trans (h2.mono hb.size)⟩

set_option maxHeartbeats 1000000 in
theorem rboth_ret (A A' : Option Addr) (cap cap' : Nat) (l l' : List Idn) (w : World) (S : SlI w A cap l) (S' : SlI w A' cap' l') (hl : l.length ≤ 500) (hl' : l'.length ≤ 500) :
    Calls Try.prog 14 #[.slice A l.length cap, .slice A' l'.length cap'] w fun e w' => NewI (both l l') w e w' := by
  go_enter Try.func14, Try.ntmps14
  go_wp2_with (first | (refine wpList_append_ids rfl _ _ rfl w.heap.size _ 0 [] rfl (nil_own _ _) _ _ _ l rfl rfl S (by omega) (Nat.le_refl _) ?_; intro v5 w5 o5 g5; have k5 : Below w.heap.size w w5 := below_grown (Below.refl _ _) (Nat.le_refl _) g5 (fun k hk => by cases hk)) | (refine wpList_append_ids rfl _ _ rfl w.heap.size _ _ _ rfl o5 _ _ _ l' rfl rfl (S'.below k5) (by omega) k5.size ?_; intro v6 w6 o6 g6; have k6 : Below w.heap.size w w6 := below_grown k5 k5.size g6 (fun k hk => (o5.lt k hk).1)))
  rw [List.nil_append] at o6
  obtain ⟨A6, c6, rfl, S6⟩ := SlI.own o6
  refine (rsort_ret A6 c6 (l ++ l') w6 S6 (by simp; omega)).mono ?_
  rintro e w7 h7
  obtain ⟨v, rfl, o7, k7⟩ := NewI.mono h7 k6
  go_wp2_with fail
  go_ret
  exact ⟨_, rfl, o7, k7⟩

theorem filter_take_succ (p : Idn → Bool) {l : List Idn} {k : Nat} (h : k < l.length) : (l.take (k + 1)).filter p = (l.take k).filter p ++ [l.getD k nought].filter p := by
  rw [List.take_add_one, List.filter_append, List.getD_eq_getElem?_getD, List.getElem?_eq_getElem h]
  rfl
theorem filter_take_le (p : Idn → Bool) (l : List Idn) (k : Nat) : ((l.take k).filter p).length ≤ k := Nat.le_trans (List.length_filter_le _ _) (by simp; omega)

set_option maxHeartbeats 1000000 in
theorem some_ret (A A' : Option Addr) (cap cap' : Nat) (l l' : List Idn) (want : Bool) (w : World) (S : SlI w A cap l) (S' : SlI w A' cap' l') (hl : l.length ≤ 500) :
    Calls Try.prog 31 #[.slice A l.length cap, .slice A' l'.length cap', .bool want] w fun e w' => NewI (IdM.sort (l.filter fun x => decide (x ∈ l') == want)) w e w' := by
  obtain ⟨p, hp⟩ : ∃ p : Idn → Bool, (fun x => decide (x ∈ l') == want) = p := ⟨_, rfl⟩
  rw [hp]
  have HP := aside hp
  clear hp
  go_enter Try.func31, Try.ntmps31
  go_wp2_with fail
  go_loopw [7, 8] (fun v i wr => ∃ k : Nat, k ≤ l.length ∧ i = .int .i64 k ∧ wr.ownsRow w.heap.size 24 32 v ((l.take k).filter p).length (bv (flat ((l.take k).filter p))) ∧ Below w.heap.size w wr) (fun _ i _ => l.length - (intOf i).toNat)
  case atStart => exact ⟨0, Nat.zero_le _, rfl, nil_own _ _, Below.refl _ _⟩
  case round =>
    obtain ⟨k, hk, rfl, hrow, kb⟩ := hrel
    have hle := filter_take_le p l k
    by_cases hlt : k < l.length
    · have hstep := filter_take_succ p hlt
      obtain ⟨b, off, rfl, hbw, hrg⟩ := S.plain (by omega)
      have hrg1 := range_below (hrg k hlt) kb
      obtain ⟨x, hx⟩ : ∃ x, l.getD k nought = x := ⟨_, rfl⟩
      rw [hx] at hrg1 hstep
      have HSt := aside hstep
      generalize (l.take k).filter p = acc at hrow hle HSt
      have p0 : (k : Int) < l.length := by omega
      have m0 : ((k : Int)).toNat = k := by omega
      clear hrg S hx hstep
      have hpx : p x = (decide (x ∈ l') == want) := by rw [← HP.out]
      go_wp2_with (refine wpList_load_id rfl _ rfl _ _ rfl x hrg1 ?_)
      refine (rhas_ret A' cap' l' x wr (S'.below kb)).mono ?_
      rintro e w1 ⟨rfl, k1⟩
      have hrg2 := range_below hrg1 k1
      have hrow1 := owns_below hrow k1
      have kb1 := kb.trans (k1.mono kb.size)
      cases hq : p x with
      | true =>
        rw [hq] at hpx
        generalize decide (x ∈ l') = c at hpx
        have hpx' := hpx.symm
        clear hpx
        go_wp2_with (first | (refine wpList_load_id rfl _ rfl _ _ rfl x hrg2 ?_) | (refine wpList_build1 rfl _ rfl x rfl ?_) | (refine wpList_append_ids rfl _ _ rfl w.heap.size _ _ acc rfl (hrow1.alloc _) _ 1 1 [x] rfl rfl (SlI.new1 _ x _) (by omega) (by have := kb1.size; simp; omega) ?_; intro v6 w6 o6 g6))
        go_roundw
        case rel =>
          refine ⟨k + 1, by omega, by go_num, ?_, below_grown (kb1.alloc kb1.size _) (by have := kb1.size; simp; omega) g6 (fun k hk => (hrow.lt k hk).1)⟩
          have e : [x].filter p = [x] := by simp [hq]
          rw [HSt.out, e]
          simpa using o6
        case measure => simp [intOf]; omega
      | false =>
        rw [hq] at hpx
        generalize decide (x ∈ l') = c at hpx
        have hpx' := hpx.symm
        clear hpx
        go_wp2_with fail
        go_roundw
        case rel =>
          refine ⟨k + 1, by omega, by go_num, ?_, kb1⟩
          have e : [x].filter p = [] := by simp [hq]
          rw [HSt.out, e, List.append_nil]
          exact hrow1
        case measure => simp [intOf]; omega
    · have e : k = l.length := by omega
      subst e
      rw [List.take_length] at hrow hle
      obtain ⟨A6, c6, rfl, S6⟩ := SlI.own hrow
      go_wp2_with fail
      refine (rsort_ret A6 c6 (l.filter p) wr S6 (by omega)).mono ?_
      rintro e w7 h7
      obtain ⟨v, rfl, o7, k7⟩ := NewI.mono h7 kb
      go_wp2_with fail
      go_ret
      exact ⟨_, rfl, o7, k7⟩

theorem rcommon_ret (A A' : Option Addr) (cap cap' : Nat) (l l' : List Idn) (w : World) (S : SlI w A cap l) (S' : SlI w A' cap' l') (hl : l.length ≤ 500) :
    Calls Try.prog 16 #[.slice A l.length cap, .slice A' l'.length cap'] w fun e w' => NewI (common l l') w e w' := by
  have q := some_ret A A' cap cap' l l' true w S S' hl
  have e : (fun x => decide (x ∈ l') == true) = fun x => decide (x ∈ l') := by funext x; simp
  rw [e] at q
  go_enter Try.func16, Try.ntmps16
  go_wp2_with fail
  refine q.mono ?_
  rintro e w1 ⟨v, rfl, o1, k1⟩
  go_wp2_with fail
  go_ret
  exact ⟨_, rfl, o1, k1⟩
theorem rwithout_ret (A A' : Option Addr) (cap cap' : Nat) (l l' : List Idn) (w : World) (S : SlI w A cap l) (S' : SlI w A' cap' l') (hl : l.length ≤ 500) :
    Calls Try.prog 18 #[.slice A l.length cap, .slice A' l'.length cap'] w fun e w' => NewI (without l l') w e w' := by
  have q := some_ret A A' cap cap' l l' false w S S' hl
  have e : (fun x => decide (x ∈ l') == false) = fun x => decide (x ∉ l') := by funext x; by_cases h : x ∈ l' <;> simp [h]
  rw [e] at q
  go_enter Try.func18, Try.ntmps18
  go_wp2_with fail
  refine q.mono ?_
  rintro e w1 ⟨v, rfl, o1, k1⟩
  go_wp2_with fail
  go_ret
  exact ⟨_, rfl, o1, k1⟩
end Go.Proofs.Ytbggegpbcgcknaa.IdY
