/- What Sort, Both, Common and Without return: contracts. -/
import Derived.Test.YtbggegpbcgcknaaIdT
namespace Go.Proofs.Ytbggegpbcgcknaa.IdU
open Go Go.RowKit IdM Byt IdW IdK IdS IdT

theorem NewI.mono {l : List Idn} {w w1 : World} {e : Ending} {w' : World} (h : NewI l w1 e w') (hb : Below w.heap.size w w1) : NewI l w e w' := by
  obtain ⟨v, rfl, h1, h2⟩ := h
  exact ⟨v, rfl, owns_less h1 hb.size, hb.trans (h2.mono hb.size)⟩

set_option maxHeartbeats 1000000 in
theorem sort_ret (A : Option Addr) (cap : Nat) (l : List Idn) (w : World) (S : SlI w A cap l) (hl : l.length ≤ 1000) :
    Calls Try.prog 11 #[.slice A l.length cap] w fun e w' => NewI (IdM.sort l) w e w' := by
  have hs := set_ret A cap l w S hl
  go_enter Try.func11, Try.ntmps11
  go_wp2_with fail
  refine hs.mono ?_
  rintro e w1 ⟨b, rfl, hb, s1, k1⟩
  go_wp2_with fail
  refine (rising_ret b _ l w1 s1 (by omega)).mono ?_
  rintro e w2 h2
  obtain ⟨v, rfl, o2, k2⟩ := NewI.mono h2 k1
  go_wp2_with fail
  go_ret
  exact ⟨_, rfl, o2, k2⟩

set_option maxHeartbeats 1000000 in
theorem both_ret (A A' : Option Addr) (cap cap' : Nat) (l l' : List Idn) (w : World) (S : SlI w A cap l) (S' : SlI w A' cap' l') (hl : l.length ≤ 500) (hl' : l'.length ≤ 500) :
    Calls Try.prog 13 #[.slice A l.length cap, .slice A' l'.length cap'] w fun e w' => NewI (both l l') w e w' := by
  have hs := set_ret A cap l w S (by omega)
  clear S
  go_enter Try.func13, Try.ntmps13
  go_wp2_with fail
  refine hs.mono ?_
  rintro e w1 ⟨b, rfl, hb, s1, k1⟩
  clear hs
  go_wp2_with fail
  go_loopw [12] (fun i wr => ∃ k : Nat, k ≤ l'.length ∧ i = .int .i64 k ∧ SetIn wr b (l.length + k) (l ++ l'.take k) ∧ Below w.heap.size w wr) (fun i _ => l'.length - (intOf i).toNat)
  case atStart => exact ⟨0, Nat.zero_le _, rfl, by simpa using s1, k1⟩
  case round =>
    clear s1 k1
    obtain ⟨k, hk, rfl, hset, kb⟩ := hrel
    by_cases hlt : k < l'.length
    · obtain ⟨g, off, rfl, hbw, hr⟩ := S'.plain (by omega)
      have hr1 := range_below (hr k hlt) kb
      obtain ⟨x, hx⟩ : ∃ x, l'.getD k nought = x := ⟨_, rfl⟩
      rw [hx] at hr1
      have HX := aside hx
      have p0 : (k : Int) < l'.length := by omega
      have m0 : ((k : Int)).toNat = k := by omega
      clear hr S' hx
      go_wp2_with (first | (refine wpList_load_id rfl _ rfl _ _ rfl x hr1 ?_) | (refine wpList_store_new rfl _ _ rfl _ _ x _ rfl _ rfl (by simp) rfl rfl ?_) | (refine wpList_load_box rfl _ rfl _ rfl x (Box.new wr x _) ?_) | (refine wpList_put _ rfl _ _ _ rfl b _ _ rfl (hset.alloc _) (by omega) x rfl rfl ?_; intro w2 hs1 hg1))
      go_roundw
      case rel =>
        refine ⟨k + 1, by omega, by go_num, hs1.congr (fun z => ?_), ?_⟩
        · have := mem_take_succ hlt z
          rw [HX.out] at this
          simp only [List.mem_cons, List.mem_append] at this ⊢
          rw [← this]
          constructor
          · rintro (h | h | h)
            · exact .inr (.inl h)
            · exact .inl h
            · exact .inr (.inr h)
          · rintro (h | h | h)
            · exact .inr (.inl h)
            · exact .inl h
            · exact .inr (.inr h)
        · exact below_grown (kb.alloc kb.size _) (by have := kb.size; simp; omega) hg1 (fun j hj => by cases hj; exact hb)
      case measure => simp [intOf]; omega
    · have e : k = l'.length := by omega
      subst e
      rw [List.take_length] at hset
      go_wp2_with fail
      refine (rising_ret b _ _ wr hset (by omega)).mono ?_
      rintro e w2 h2
      obtain ⟨v, rfl, o2, k2⟩ := NewI.mono h2 kb
      go_wp2_with fail
      go_ret
      exact ⟨_, rfl, o2, k2⟩

set_option maxHeartbeats 1000000 in
theorem common_ret (A A' : Option Addr) (cap cap' : Nat) (l l' : List Idn) (w : World) (S : SlI w A cap l) (S' : SlI w A' cap' l') (hl : l.length ≤ 500) (hl' : l'.length ≤ 500) :
    Calls Try.prog 15 #[.slice A l.length cap, .slice A' l'.length cap'] w fun e w' => NewI (common l l') w e w' := by
  have hs := set_ret A cap l w S (by omega)
  clear S
  go_enter Try.func15, Try.ntmps15
  go_wp2_with fail
  refine hs.mono ?_
  rintro e w1 ⟨b, rfl, hb, s1, k1⟩
  clear hs
  go_wp2_with fail
  refine (set_ret none 0 [] w1 (SlI.nil w1) (by simp)).mono ?_
  rintro e w2 ⟨c, rfl, hc, s2, k2⟩
  have hbc : b ≠ c := by have := s1.lt; omega
  have s1' := s1.below k2
  have k3 := k1.trans (k2.mono k1.size)
  have hwc : w.heap.size ≤ c := Nat.le_trans k1.size hc
  clear s1 k1 k2 hc
  go_wp2_with fail
  go_loopw [14] (fun i wr => ∃ k : Nat, k ≤ l'.length ∧ i = .int .i64 k ∧ SetIn wr b l.length l ∧ SetIn wr c k ((l'.take k).filter fun x => decide (x ∈ l)) ∧ Below w.heap.size w wr) (fun i _ => l'.length - (intOf i).toNat)
  case atStart => exact ⟨0, Nat.zero_le _, rfl, s1', by simpa using s2, k3⟩
  case round =>
    clear s1' s2 k3
    obtain ⟨k, hk, rfl, hsl, hset, kb⟩ := hrel
    by_cases hlt : k < l'.length
    · obtain ⟨g, off, rfl, hbw, hr⟩ := S'.plain (by omega)
      have hr1 := range_below (hr k hlt) kb
      obtain ⟨x, hx⟩ : ∃ x, l'.getD k nought = x := ⟨_, rfl⟩
      rw [hx] at hr1
      have HX := aside hx
      have p0 : (k : Int) < l'.length := by omega
      have m0 : ((k : Int)).toNat = k := by omega
      clear hr S' hx
      by_cases hxl : x ∈ l
      · go_wp2_with (first | (refine wpList_load_id rfl _ rfl _ _ rfl x hr1 ?_) | (refine wpList_store_new rfl _ _ rfl _ _ x _ rfl _ rfl (by simp) rfl rfl ?_) | (refine wpList_load_box rfl _ rfl _ rfl x (Box.new wr x _) ?_) | (refine wpList_find _ rfl _ _ rfl b _ l rfl (hsl.alloc _) x rfl ?_; rw [if_pos hxl]) | (refine wpList_put _ rfl _ _ _ rfl c _ _ rfl (hset.alloc _) (by omega) x rfl rfl ?_; intro w2 hs1 hg1))
        go_roundw
        case rel =>
          refine ⟨k + 1, by omega, by go_num, (hsl.alloc _).kept hg1 (by simpa using hbc), hs1.congr (fun z => ?_), ?_⟩
          · have := mem_take_succ hlt z
            rw [HX.out] at this
            simp only [List.mem_cons, List.mem_filter, decide_eq_true_eq] at this ⊢
            rw [← this]
            constructor
            · rintro (rfl | h)
              · exact ⟨.inl rfl, hxl⟩
              · exact ⟨.inr h.1, h.2⟩
            · rintro ⟨rfl | h, h2⟩
              · exact .inl rfl
              · exact .inr ⟨h, h2⟩
          · exact below_grown (kb.alloc kb.size _) (by have := kb.size; simp; omega) hg1 (fun j hj => by cases hj; exact hwc)
        case measure => simp [intOf]; omega
      · go_wp2_with (first | (refine wpList_load_id rfl _ rfl _ _ rfl x hr1 ?_) | (refine wpList_store_new rfl _ _ rfl _ _ x _ rfl _ rfl (by simp) rfl rfl ?_) | (refine wpList_load_box rfl _ rfl _ rfl x (Box.new wr x _) ?_) | (refine wpList_find _ rfl _ _ rfl b _ l rfl (hsl.alloc _) x rfl ?_; rw [if_neg hxl]))
        go_roundw
        case rel =>
          refine ⟨k + 1, by omega, by go_num, hsl.alloc _, ((hset.alloc _).congr (fun z => ?_)).up, kb.alloc kb.size _⟩
          have := mem_take_succ hlt z
          rw [HX.out] at this
          simp only [List.mem_cons, List.mem_filter, decide_eq_true_eq] at this ⊢
          rw [← this]
          constructor
          · rintro h
            exact ⟨.inr h.1, h.2⟩
          · rintro ⟨rfl | h, h2⟩
            · exact absurd h2 hxl
            · exact ⟨h, h2⟩
        case measure => simp [intOf]; omega
    · have e : k = l'.length := by omega
      subst e
      rw [List.take_length] at hset
      have hset' : SetIn wr c l'.length (l.filter fun x => decide (x ∈ l')) := hset.congr (fun z => by simp [and_comm])
      clear hset
      go_wp2_with fail
      refine (rising_ret c _ _ wr hset' (by omega)).mono ?_
      rintro e w2 h2
      obtain ⟨v, rfl, o2, k2⟩ := NewI.mono h2 kb
      go_wp2_with fail
      go_ret
      exact ⟨_, rfl, o2, k2⟩

set_option maxHeartbeats 1000000 in
theorem without_ret (A A' : Option Addr) (cap cap' : Nat) (l l' : List Idn) (w : World) (S : SlI w A cap l) (S' : SlI w A' cap' l') (hl : l.length ≤ 500) (hl' : l'.length ≤ 500) :
    Calls Try.prog 17 #[.slice A l.length cap, .slice A' l'.length cap'] w fun e w' => NewI (without l l') w e w' := by
  have hs := set_ret A cap l w S (by omega)
  clear S
  go_enter Try.func17, Try.ntmps17
  go_wp2_with fail
  refine hs.mono ?_
  rintro e w1 ⟨b, rfl, hb, s1, k1⟩
  clear hs
  go_wp2_with fail
  go_loopw [12] (fun i wr => ∃ k : Nat, k ≤ l'.length ∧ i = .int .i64 k ∧ SetIn wr b l.length (l.filter fun x => decide (x ∉ l'.take k)) ∧ Below w.heap.size w wr) (fun i _ => l'.length - (intOf i).toNat)
  case atStart => exact ⟨0, Nat.zero_le _, rfl, s1.congr (fun z => by simp), k1⟩
  case round =>
    clear s1 k1
    obtain ⟨k, hk, rfl, hset, kb⟩ := hrel
    by_cases hlt : k < l'.length
    · obtain ⟨g, off, rfl, hbw, hr⟩ := S'.plain (by omega)
      have hr1 := range_below (hr k hlt) kb
      obtain ⟨x, hx⟩ : ∃ x, l'.getD k nought = x := ⟨_, rfl⟩
      rw [hx] at hr1
      have HX := aside hx
      have p0 : (k : Int) < l'.length := by omega
      have m0 : ((k : Int)).toNat = k := by omega
      clear hr S' hx
      go_wp2_with (first | (refine wpList_load_id rfl _ rfl _ _ rfl x hr1 ?_) | (refine wpList_store_new rfl _ _ rfl _ _ x _ rfl _ rfl (by simp) rfl rfl ?_) | (refine wpList_load_box rfl _ rfl _ rfl x (Box.new wr x _) ?_) | (refine wpList_take _ rfl _ _ rfl b _ _ rfl (hset.alloc _) x rfl ?_; intro w2 hs1 hg1))
      go_roundw
      case rel =>
        refine ⟨k + 1, by omega, by go_num, hs1.congr (fun z => ?_), ?_⟩
        · have := mem_take_succ hlt z
          rw [HX.out] at this
          simp only [List.mem_cons, List.mem_filter, decide_eq_true_eq] at this ⊢
          rw [← this]
          constructor
          · rintro ⟨⟨h1, h2⟩, h3⟩
            exact ⟨h1, fun h => h.elim h3 h2⟩
          · rintro ⟨h1, h2⟩
            exact ⟨⟨h1, fun h => h2 (.inr h)⟩, fun h => h2 (.inl h)⟩
        · exact below_grown (kb.alloc kb.size _) (by have := kb.size; simp; omega) hg1 (fun j hj => by cases hj; exact hb)
      case measure => simp [intOf]; omega
    · have e : k = l'.length := by omega
      subst e
      rw [List.take_length] at hset
      go_wp2_with fail
      refine (rising_ret b _ _ wr hset (by omega)).mono ?_
      rintro e w2 h2
      obtain ⟨v, rfl, o2, k2⟩ := NewI.mono h2 kb
      go_wp2_with fail
      go_ret
      exact ⟨_, rfl, o2, k2⟩
end Go.Proofs.Ytbggegpbcgcknaa.IdU
