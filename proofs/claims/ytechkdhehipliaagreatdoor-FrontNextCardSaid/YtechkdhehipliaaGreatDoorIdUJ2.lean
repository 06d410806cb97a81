/- What Sort, Both, Common and Without return: contracts. | What the project's without, last and above of package front return: contracts. No condition but sizes. -/
import Derived.Test.YtechkdhehipliaaGreatDoorLaySortJ4
import Derived.Test.YtechkdhehipliaaGreatDoorFrAJ5
import Derived.Test.YtechkdhehipliaaGreatDoorDgR
namespace Go.Proofs.YtechkdhehipliaaGreatDoor.IdU
set_option maxRecDepth 100000
open Go Go.RowKit IdM Byt IdW IdK IdS IdT

theorem NewI.mono {l : List Idn} {w w1 : World} {e : Ending} {w' : World} (h : NewI l w1 e w') (hb : Below w.heap.size w w1) : NewI l w e w' := by
  obtain ⟨v, rfl, h1, h2⟩ := h
  exact ⟨v, rfl, owns_less h1 hb.size, hb.trans (h2.mono hb.size)⟩

set_option maxHeartbeats 1000000 in
theorem sort_ret (A : Option Addr) (cap : Nat) (l : List Idn) (w : World) (S : SlI w A cap l) (hl : l.length ≤ 1000) :
    Calls Tryz.prog 46 #[.slice A l.length cap] w fun e w' => NewI (IdM.sort l) w e w' := by
  have hs := set_ret A cap l w S hl
  go_enter Tryz.func46, Tryz.ntmps46
  go_wp2_with fail
  refine hs.mono ?_
  rintro e w1 ⟨b, rfl, hb, s1, k1⟩
  go_wp2_with fail
  refine (rising_ret b _ l w1 s1 (by omega)).mono ?_
  rintro e w2 h2
  obtain ⟨v, rfl, o2, k2⟩ := NewI.mono h2 k1
  go_wp2_with fail
  go_ret
  exact ⟨_, rfl, o2, k2⟩

set_option maxHeartbeats 1000000 in
theorem both_ret (A A' : Option Addr) (cap cap' : Nat) (l l' : List Idn) (w : World) (S : SlI w A cap l) (S' : SlI w A' cap' l') (hl : l.length ≤ 500) (hl' : l'.length ≤ 500) :
    Calls Tryz.prog 29 #[.slice A l.length cap, .slice A' l'.length cap'] w fun e w' => NewI (both l l') w e w' := by
  have hs := set_ret A cap l w S (by omega)
  clear S
  go_enter Tryz.func29, Tryz.ntmps29
  go_wp2_with fail
  refine hs.mono ?_
  rintro e w1 ⟨b, rfl, hb, s1, k1⟩
  clear hs
  go_wp2_with fail
  go_loopw [12] (fun i wr => ∃ k : Nat, k ≤ l'.length ∧ i = .int .i64 k ∧ SetIn wr b (l.length + k) (l ++ l'.take k) ∧ Below w.heap.size w wr) (fun i _ => l'.length - (intOf i).toNat)
  case atStart => exact ⟨0, Nat.zero_le _, rfl, by simpa using s1, k1⟩
  case round =>
    clear s1 k1
    obtain ⟨k, hk, rfl, hset, kb⟩ := hrel
    by_cases hlt : k < l'.length
    · obtain ⟨g, off, rfl, hbw, hr⟩ := S'.plain (by omega)
      have hr1 := range_below (hr k hlt) kb
      obtain ⟨x, hx⟩ : ∃ x, l'.getD k nought = x := ⟨_, rfl⟩
      rw [hx] at hr1
      have HX := aside hx
      have p0 : (k : Int) < l'.length := by omega
      have m0 : ((k : Int)).toNat = k := by omega
      clear hr S' hx
      go_wp2_with (first | (refine wpList_load_id rfl _ rfl _ _ rfl x hr1 ?_) | (refine wpList_store_new rfl _ _ rfl _ _ x _ rfl _ rfl (by simp) rfl rfl ?_) | (refine wpList_load_box rfl _ rfl _ rfl x (Box.new wr x _) ?_) | (refine wpList_put _ rfl _ _ _ rfl b _ _ rfl (hset.alloc _) (by omega) x rfl rfl ?_; intro w2 hs1 hg1))
      go_roundw
      case rel =>
        refine ⟨k + 1, by omega, by go_num, hs1.congr (fun z => ?_), ?_⟩
        · have := mem_take_succ hlt z
          rw [HX.out] at this
          simp only [List.mem_cons, List.mem_append] at this ⊢
          rw [← this]
          constructor
          · rintro (h | h | h)
            · exact .inr (.inl h)
            · exact .inl h
            · exact .inr (.inr h)
          · rintro (h | h | h)
            · exact .inr (.inl h)
            · exact .inl h
            · exact .inr (.inr h)
        · exact below_grown (kb.alloc kb.size _) (by have := kb.size; simp; omega) hg1 (fun j hj => by cases hj; exact hb)
      case measure => simp [intOf]; omega
    · have e : k = l'.length := by omega
      subst e
      rw [List.take_length] at hset
      go_wp2_with fail
      refine (rising_ret b _ _ wr hset (by omega)).mono ?_
      rintro e w2 h2
      obtain ⟨v, rfl, o2, k2⟩ := NewI.mono h2 kb
      go_wp2_with fail
      go_ret
      exact ⟨_, rfl, o2, k2⟩

set_option maxHeartbeats 1000000 in
theorem common_ret (A A' : Option Addr) (cap cap' : Nat) (l l' : List Idn) (w : World) (S : SlI w A cap l) (S' : SlI w A' cap' l') (hl : l.length ≤ 500) (hl' : l'.length ≤ 500) :
    Calls Tryz.prog 30 #[.slice A l.length cap, .slice A' l'.length cap'] w fun e w' => NewI (common l l') w e w' := by
  have hs := set_ret A cap l w S (by omega)
  clear S
  go_enter Tryz.func30, Tryz.ntmps30
  go_wp2_with fail
  refine hs.mono ?_
  rintro e w1 ⟨b, rfl, hb, s1, k1⟩
  clear hs
  go_wp2_with fail
  refine (set_ret none 0 [] w1 (SlI.nil w1) (by simp)).mono ?_
  rintro e w2 ⟨c, rfl, hc, s2, k2⟩
  have hbc : b ≠ c := by have := s1.lt; omega
  have s1' := s1.below k2
  have k3 := k1.trans (k2.mono k1.size)
  have hwc : w.heap.size ≤ c := Nat.le_trans k1.size hc
  clear s1 k1 k2 hc
  go_wp2_with fail
  go_loopw [14] (fun i wr => ∃ k : Nat, k ≤ l'.length ∧ i = .int .i64 k ∧ SetIn wr b l.length l ∧ SetIn wr c k ((l'.take k).filter fun x => decide (x ∈ l)) ∧ Below w.heap.size w wr) (fun i _ => l'.length - (intOf i).toNat)
  case atStart => exact ⟨0, Nat.zero_le _, rfl, s1', by simpa using s2, k3⟩
  case round =>
    clear s1' s2 k3
    obtain ⟨k, hk, rfl, hsl, hset, kb⟩ := hrel
    by_cases hlt : k < l'.length
    · obtain ⟨g, off, rfl, hbw, hr⟩ := S'.plain (by omega)
      have hr1 := range_below (hr k hlt) kb
      obtain ⟨x, hx⟩ : ∃ x, l'.getD k nought = x := ⟨_, rfl⟩
      rw [hx] at hr1
      have HX := aside hx
      have p0 : (k : Int) < l'.length := by omega
      have m0 : ((k : Int)).toNat = k := by omega
      clear hr S' hx
      by_cases hxl : x ∈ l
      · go_wp2_with (first | (refine wpList_load_id rfl _ rfl _ _ rfl x hr1 ?_) | (refine wpList_store_new rfl _ _ rfl _ _ x _ rfl _ rfl (by simp) rfl rfl ?_) | (refine wpList_load_box rfl _ rfl _ rfl x (Box.new wr x _) ?_) | (refine wpList_find _ rfl _ _ rfl b _ l rfl (hsl.alloc _) x rfl ?_; rw [if_pos hxl]) | (refine wpList_put _ rfl _ _ _ rfl c _ _ rfl (hset.alloc _) (by omega) x rfl rfl ?_; intro w2 hs1 hg1))
        go_roundw
        case rel =>
          refine ⟨k + 1, by omega, by go_num, (hsl.alloc _).kept hg1 (by simpa using hbc), hs1.congr (fun z => ?_), ?_⟩
          · have := mem_take_succ hlt z
            rw [HX.out] at this
            simp only [List.mem_cons, List.mem_filter, decide_eq_true_eq] at this ⊢
            rw [← this]
            constructor
            · rintro (rfl | h)
              · exact ⟨.inl rfl, hxl⟩
              · exact ⟨.inr h.1, h.2⟩
            · rintro ⟨rfl | h, h2⟩
              · exact .inl rfl
              · exact .inr ⟨h, h2⟩
          · exact below_grown (kb.alloc kb.size _) (by have := kb.size; simp; omega) hg1 (fun j hj => by cases hj; exact hwc)
        case measure => simp [intOf]; omega
      · go_wp2_with (first | (refine wpList_load_id rfl _ rfl _ _ rfl x hr1 ?_) | (refine wpList_store_new rfl _ _ rfl _ _ x _ rfl _ rfl (by simp) rfl rfl ?_) | (refine wpList_load_box rfl _ rfl _ rfl x (Box.new wr x _) ?_) | (refine wpList_find _ rfl _ _ rfl b _ l rfl (hsl.alloc _) x rfl ?_; rw [if_neg hxl]))
        go_roundw
        case rel =>
          refine ⟨k + 1, by omega, by go_num, hsl.alloc _, ((hset.alloc _).congr (fun z => ?_)).up, kb.alloc kb.size _⟩
          have := mem_take_succ hlt z
          rw [HX.out] at this
          simp only [List.mem_cons, List.mem_filter, decide_eq_true_eq] at this ⊢
          rw [← this]
          constructor
          · rintro h
            exact ⟨.inr h.1, h.2⟩
          · rintro ⟨rfl | h, h2⟩
            · exact absurd h2 hxl
            · exact ⟨h, h2⟩
        case measure => simp [intOf]; omega
    · have e : k = l'.length := by omega
      subst e
      rw [List.take_length] at hset
      have hset' : SetIn wr c l'.length (l.filter fun x => decide (x ∈ l')) := hset.congr (fun z => by simp [and_comm])
      clear hset
      go_wp2_with fail
      refine (rising_ret c _ _ wr hset' (by omega)).mono ?_
      rintro e w2 h2
      obtain ⟨v, rfl, o2, k2⟩ := NewI.mono h2 kb
      go_wp2_with fail
      go_ret
      exact ⟨_, rfl, o2, k2⟩

set_option maxHeartbeats 1000000 in
theorem without_ret (A A' : Option Addr) (cap cap' : Nat) (l l' : List Idn) (w : World) (S : SlI w A cap l) (S' : SlI w A' cap' l') (hl : l.length ≤ 500) (hl' : l'.length ≤ 100000) :
    Calls Tryz.prog 116 #[.slice A l.length cap, .slice A' l'.length cap'] w fun e w' => NewI (without l l') w e w' := by
  have hs := set_ret A cap l w S (by omega)
  clear S
  go_enter Tryz.func116, Tryz.ntmps116
  go_wp2_with fail
  refine hs.mono ?_
  rintro e w1 ⟨b, rfl, hb, s1, k1⟩
  clear hs
  go_wp2_with fail
  go_loopw [12] (fun i wr => ∃ k : Nat, k ≤ l'.length ∧ i = .int .i64 k ∧ SetIn wr b l.length (l.filter fun x => decide (x ∉ l'.take k)) ∧ Below w.heap.size w wr) (fun i _ => l'.length - (intOf i).toNat)
  case atStart => exact ⟨0, Nat.zero_le _, rfl, s1.congr (fun z => by simp), k1⟩
  case round =>
    clear s1 k1
    obtain ⟨k, hk, rfl, hset, kb⟩ := hrel
    by_cases hlt : k < l'.length
    · obtain ⟨g, off, rfl, hbw, hr⟩ := S'.plain (by omega)
      have hr1 := range_below (hr k hlt) kb
      obtain ⟨x, hx⟩ : ∃ x, l'.getD k nought = x := ⟨_, rfl⟩
      rw [hx] at hr1
      have HX := aside hx
      have p0 : (k : Int) < l'.length := by omega
      have m0 : ((k : Int)).toNat = k := by omega
      clear hr S' hx
      go_wp2_with (first | (refine wpList_load_id rfl _ rfl _ _ rfl x hr1 ?_) | (refine wpList_store_new rfl _ _ rfl _ _ x _ rfl _ rfl (by simp) rfl rfl ?_) | (refine wpList_load_box rfl _ rfl _ rfl x (Box.new wr x _) ?_) | (refine wpList_take _ rfl _ _ rfl b _ _ rfl (hset.alloc _) x rfl ?_; intro w2 hs1 hg1))
      go_roundw
      case rel =>
        refine ⟨k + 1, by omega, by go_num, hs1.congr (fun z => ?_), ?_⟩
        · have := mem_take_succ hlt z
          rw [HX.out] at this
          simp only [List.mem_cons, List.mem_filter, decide_eq_true_eq] at this ⊢
          rw [← this]
          constructor
          · rintro ⟨⟨h1, h2⟩, h3⟩
            exact ⟨h1, fun h => h.elim h3 h2⟩
          · rintro ⟨h1, h2⟩
            exact ⟨⟨h1, fun h => h2 (.inr h)⟩, fun h => h2 (.inl h)⟩
        · exact below_grown (kb.alloc kb.size _) (by have := kb.size; simp; omega) hg1 (fun j hj => by cases hj; exact hb)
      case measure => simp [intOf]; omega
    · have e : k = l'.length := by omega
      subst e
      rw [List.take_length] at hset
      go_wp2_with fail
      refine (rising_ret b _ _ wr hset (by omega)).mono ?_
      rintro e w2 h2
      obtain ⟨v, rfl, o2, k2⟩ := NewI.mono h2 kb
      go_wp2_with fail
      go_ret
      exact ⟨_, rfl, o2, k2⟩
end Go.Proofs.YtechkdhehipliaaGreatDoor.IdU
namespace Go.Proofs.YtechkdhehipliaaGreatDoor.FrV
set_option maxRecDepth 100000
open Go Go.Sort Go.RowKit Byt IdM IdW IdU OpsM OpsW CmM StW CmW CmX CmY DgM DgW DgX FrM FrN FrK FrP

set_option maxRecDepth 100000 in
set_option maxHeartbeats 4000000 in
theorem without_ret (A A' : Option Addr) (cap cap' : Nat) (own : List Idn) (l : List Pv) (w : World) (T : SlI w A cap own) (S : SlP w A' cap' l) (ho : own.length ≤ 500) (hl : l.length ≤ 1000) (hc : (cat l).length ≤ 100000) :
    Calls Tryz.prog 91 #[.slice A own.length cap, .slice A' l.length cap'] w (NewI (without own (cat l)) w) := by
  have q := FrQ.concat_ret A' cap' l w S (by omega) (by omega)
  go_enter Tryz.func91, Tryz.ntmps91
  go_wp2_with (first | go_skip)
  refine q.mono ?_
  rintro e w1 ⟨v, rfl, o1, k1⟩
  obtain ⟨A1, c1, rfl, S1⟩ := SlI.own o1
  clear q o1
  go_wp2_with (first | go_skip)
  refine (IdU.without_ret A A1 cap c1 own (cat l) w1 (T.below k1) S1 ho hc).mono ?_
  rintro e w2 h2
  obtain ⟨v2, rfl, o2, k2⟩ := NewI.mono h2 k1
  go_wp2_with (first | go_skip)
  go_ret
  exact ⟨_, rfl, o2, k2⟩
/-- A commit's parents, as a slice. -/
def pv (x : Cv) : Pv := ⟨x.a, x.k, x.c.ps⟩
theorem cat_pv (l : List Cv) : cat (l.map pv) = pars (coms l) := by
  unfold cat pars coms
  rw [List.flatMap_map, List.flatMap_map]
  rfl
theorem pv_next {l : List Cv} {k : Nat} {x : Cv} (h : l[k]? = some x) : (l.take (k + 1)).map pv = (l.take k).map pv ++ [pv x] := by
  obtain ⟨hk, e⟩ := List.getElem?_eq_some_iff.1 h
  rw [List.take_succ_eq_append_getElem hk, e, List.map_append]
  rfl
set_option maxRecDepth 100000 in
set_option maxHeartbeats 16000000 in
theorem last_ret (A A' : Option Addr) (cap cap' : Nat) (own : List Idn) (l : List Cv) (w : World) (T : SlI w A cap own) (S : SlK w A' cap' l) (ho : own.length ≤ 500) (hl : l.length ≤ 1000) (hc : (pars (coms l)).length ≤ 100000) :
    Calls Tryz.prog 67 #[.slice A own.length cap, .slice A' l.length cap'] w (NewI (without own (pars (coms l))) w) := by
  obtain ⟨i, hi, z0, z1, z2⟩ := info_parts zero_ps
  obtain ⟨w1, hmk, own1, g1⟩ := run_make_own (P := Tryz.prog) w w.heap.size 102 23 i (.slice none 0 0) 1 Tryz.underlying102 hi z0 z1 .i64 .i64 l.length (by rw [z2]; omega) (by unfold maxLen; omega) (Nat.le_refl _)
  have kb1 : Below w.heap.size w w1 := below_grown (Below.refl _ _) (Nat.le_refl _) g1 (fun k hk => by cases hk)
  have O1 := aside own1
  have hcp := cat_pv l
  clear hi z0 z1 z2 g1 own1
  go_enter Tryz.func67, Tryz.ntmps67
  go_wp2_with (first | go_skip)
  go_loopw [5, 13] (fun o i wr => ∃ k : Nat, k ≤ l.length ∧ i = .int .i64 k ∧ Hid (wr.ownsRow w.heap.size 23 1 o k (hds ((l.take k).map pv))) ∧ Below w.heap.size w wr) (fun _ i _ => l.length - (intOf i).toNat)
  case atStart => exact ⟨0, Nat.zero_le _, rfl, O1, kb1⟩
  case round =>
    clear O1 kb1 hmk
    obtain ⟨k, hk, rfl, HO, kb⟩ := hrel
    by_cases hlt : k < l.length
    · obtain ⟨b, off, rfl, hbw, hrg⟩ := S.plain (by omega)
      obtain ⟨x, hx⟩ : ∃ x, l[k]? = some x := ⟨_, List.getElem?_eq_getElem hlt⟩
      have rx := range_on (hrg k x hx) kb
      have p0 : (k : Int) < l.length := by omega
      have m0 : ((k : Int)).toNat = k := by omega
      have HN := aside (pv_next hx)
      obtain ⟨xs, hxs⟩ : ∃ xs, (l.take k).map pv = xs := ⟨_, rfl⟩
      rw [hxs] at HO HN
      clear hrg hx hxs hcp
      go_wp2_with (first | go_skip | (refine load_at rfl _ rfl _ _ rfl x rx ?_) | (refine Cel.wpList_store_new CE rfl _ _ rfl wr _ _ rfl x _ rfl rfl rfl rfl ?_; intro w3 B3 k3 g3 s3; have b3 := kb.trans (k3.mono kb.size); have O3 := aside (owns_below HO.out k3); have c3 := cell_ps B3; have hz3 : w.heap.size ≤ w3.heap.size := b3.size; clear g3 s3 HO) | (refine wpList_append_ps rfl (.tmp 17) (.tmp 20) rfl w.heap.size _ k xs rfl (owns_below O3.out ((Below.refl w3.heap.size w3).alloc (Nat.le_refl _) _)) _ (pv x) rfl (new1 _ _ _) (by omega) (by simp; omega) ?_; intro v4 w4 o4 g4))
      have b4 : Below w.heap.size w w4 := below_grown (b3.trans ((StW.below_alloc w3 _).mono b3.size)) (by simp; omega) g4 (fun q hq => (O3.out.lt q hq).1)
      have O4 := aside (show w4.ownsRow w.heap.size 23 1 v4 (k + 1) (hds ((l.take (k + 1)).map pv)) by rw [HN.out]; exact o4)
      clear o4 g4 O3 HN
      go_roundw
      case rel => exact ⟨k + 1, by omega, by go_num, O4, b4⟩
      case measure => simp [intOf]; omega
    · obtain rfl : k = l.length := by omega
      have O5 := HO.out
      rw [List.take_length] at O5
      have hlen : (l.map pv).length = l.length := List.length_map ..
      obtain ⟨A5, c5, rfl, S5⟩ := SlP.own O5 (fun v hv => by
        obtain ⟨x, hx, rfl⟩ := List.mem_map.1 hv
        exact ((S.each x hx).1.below kb))
      have q := without_ret A A5 cap c5 own (l.map pv) wr (T.below kb) S5 ho (by rw [hlen]; exact hl) (by rw [hcp]; exact hc)
      rw [hcp, hlen] at q
      clear HO O5 S5 hcp
      go_wp2_with (first | go_skip)
      refine q.mono ?_
      rintro e w6 h6
      obtain ⟨v6, rfl, o6, k6⟩ := NewI.mono h6 kb
      clear q
      go_wp2_with (first | go_skip)
      go_ret
      exact ⟨_, rfl, o6, k6⟩
theorem most_more {l : List Com} {k : Nat} {x : Com} (hx : l[k]? = some x) : most ((l.take (k + 1)).map (·.gen)) = max (most ((l.take k).map (·.gen))) x.gen := by
  obtain ⟨hk, e⟩ := List.getElem?_eq_some_iff.1 hx
  rw [List.take_succ_eq_append_getElem hk, e, List.map_append]
  exact DgX.most_snoc _ _
set_option maxRecDepth 100000 in
set_option maxHeartbeats 16000000 in
theorem above_ret (A : Option Addr) (cap : Nat) (l : List Cv) (w : World) (S : SlK w A cap l) :
    Calls Tryz.prog 69 #[.slice A l.length cap] w fun e w' => e = .returned (.int .i64 (IntKind.i64.wrap (most ((coms l).map (·.gen)) + 1))) ∧ Below w.heap.size w w' := by
  have hmax := S.len
  have hlc := coms_len l
  go_enter Tryz.func69, Tryz.ntmps69
  go_wp2_with (first | go_skip)
  go_loopw [3, 8] (fun s i wr => ∃ k : Nat, k ≤ l.length ∧ s = .int .i64 (most (((coms l).take k).map (·.gen))) ∧ i = .int .i64 k ∧ Below w.heap.size w wr) (fun _ i _ => l.length - (intOf i).toNat)
  case atStart => exact ⟨0, Nat.zero_le _, rfl, rfl, Below.refl _ _⟩
  case round =>
    obtain ⟨k, hk, rfl, rfl, kb⟩ := hrel
    by_cases hlt : k < l.length
    · obtain ⟨b, off, rfl, hbw, hrg⟩ := S.plain (by omega)
      obtain ⟨x, hx⟩ : ∃ x, l[k]? = some x := ⟨_, List.getElem?_eq_getElem hlt⟩
      have rx := range_on (hrg k x hx) kb
      have p0 : (k : Int) < l.length := by omega
      have m0 : ((k : Int)).toNat = k := by omega
      have HN := aside (most_more (coms_at hx))
      obtain ⟨g, hg⟩ : ∃ g, most (((coms l).take k).map (·.gen)) = g := ⟨_, rfl⟩
      obtain ⟨n, hxn⟩ : ∃ n, x.c.gen = n := ⟨_, rfl⟩
      rw [hg, hxn] at HN
      rw [hg]
      have HXN := aside hxn
      clear hrg hx hg hxn
      go_wp2_with (first | go_skip | (refine load_at rfl _ rfl _ _ rfl x rx ?_) | (refine Cel.wpList_store_new CE rfl _ _ rfl wr _ _ rfl x _ rfl rfl rfl rfl ?_; intro w3 B3 k3 g3 s3; have b3 := kb.trans (k3.mono kb.size); have c3 := cell_gen B3; rw [HXN.out] at c3; clear g3 s3))
      go_roundw
      case rel => exact ⟨k + 1, by omega, by rw [HN.out], by go_num, b3⟩
      case measure => simp [intOf]; omega
    · obtain rfl : k = l.length := by omega
      rw [List.take_of_length_le (by omega)]
      go_wp2_with (first | go_skip)
      go_ret
      exact ⟨congrArg (fun x => Ending.returned (.int .i64 x)) (show wrap64 _ = _ by rw [IntKind.wrap_i64]; unfold wrap64; rfl), kb⟩
end Go.Proofs.YtechkdhehipliaaGreatDoor.FrV
