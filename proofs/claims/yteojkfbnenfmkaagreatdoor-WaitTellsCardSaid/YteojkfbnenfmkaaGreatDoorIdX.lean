/- What the document's answers Sort, Both, Common and Without return: contracts. -/
import Derived.Test.YteojkfbnenfmkaaGreatDoorIdV
import Derived.Test.YteojkfbnenfmkaaGreatDoorIdBJ5
import Derived.Maps.AppendAt
namespace Go.Proofs.YteojkfbnenfmkaaGreatDoor.IdX
set_option maxRecDepth 100000
open Go Go.Sort Go.RowKit IdM Byt IdW IdC IdV IdB

/-- A part of a slice of ids. -/
theorem SlI.part {w : World} {A : Option Addr} {cap : Nat} {l : List Idn} (h : SlI w A cap l) (i j : Nat) (hij : i ≤ j) (hj : j ≤ l.length) :
    ∃ A' cap', sliced A i j cap 32 = .slice A' (j - i) cap' ∧ SlI w A' cap' ((l.drop i).take (j - i)) ∧ ((l.drop i).take (j - i)).length = j - i := by
  obtain ⟨h1, h2, h5⟩ := h
  have hl : ((l.drop i).take (j - i)).length = j - i := by simp; omega
  rcases h5 with ⟨rfl, rfl, rfl⟩ | ⟨x, rfl, hc⟩
  · simp at hj
    obtain rfl : j = 0 := hj
    obtain rfl : i = 0 := by omega
    exact ⟨none, 0, by simp [sliced], by simpa using SlI.nil w, hl⟩
  · by_cases hci : cap = i
    · refine ⟨some x, cap - i, by simp [sliced, hci], ⟨by rw [hl]; omega, by omega, .inr ⟨x, rfl, fun k hk => ?_⟩⟩, hl⟩
      rw [flat_length, hl] at hk
      omega
    · refine ⟨some (x.add (i * 32)), cap - i, by simp [sliced, hci], ⟨by rw [hl]; omega, by omega, .inr ⟨_, rfl, fun k hk => ?_⟩⟩, hl⟩
      have hk' := hk
      rw [flat_length, hl] at hk'
      rw [Addr.add_add, hc (i * 32 + k) (by rw [flat_length]; omega)]
      congr 2
      rw [flat_take, flat_drop, List.getD_eq_getElem?_getD, List.getD_eq_getElem?_getD, List.getElem?_take, if_pos (by omega), List.getElem?_drop]
theorem elem_id : Tryz.prog.elem 25 = 43 := by kernel_rfl
theorem under_id : Tryz.prog.underlying 25 = some (.slice (Tryz.prog.elem 25)) := by kernel_rfl
theorem size_id (w : World) : (sizeOf (Tryz.prog.elem 25)).run Tryz.prog w = .ok 32 w := by rw [elem_id]; exact size_v w
theorem run_part_h (w : World) (A : Option Addr) (len cap : Nat) (k : IntKind) (j : Nat) (hj : j ≤ cap) :
    (Instr.sliceAt 25 (.slice A len cap) none (some (.int k j)) none).run Tryz.prog w = .ok (sliced A 0 j cap 32) w := by
  rw [run_sliceAt_slice w _ _ _ _ _ under_id, run_slice_h w _ A len cap under_id k j (by omega) (by omega), size_id]
  simp [Result.andThen]
theorem run_part_l (w : World) (A : Option Addr) (len cap : Nat) (k : IntKind) (i : Nat) (hi : i ≤ len) :
    (Instr.sliceAt 25 (.slice A len cap) (some (.int k i)) none none).run Tryz.prog w = .ok (sliced A i len cap 32) w := by
  rw [run_sliceAt_slice w _ _ _ _ _ under_id, run_slice_l w _ A len cap under_id k i (by omega) (by omega), size_id]
  simp [Result.andThen]
theorem nil_own (w : World) (base : Nat) : w.ownsRow base 43 32 (.slice none 0 0) 0 (bv (flat [])) := ⟨rfl, .inl ⟨rfl, rfl⟩⟩
/-- Put in at its place. -/
theorem rising_put {out : List Idn} {x : Idn} {m : Nat} (hr : Rising out) (hx : x ∉ out) (hm : m ≤ out.length) (h1 : ∀ j, m ≤ j → j < out.length → less x (out.getD j nought) = true) (h2 : m = 0 ∨ less x (out.getD (m - 1) nought) = false) :
    Rising (out.take m ++ [x] ++ out.drop m) ∧ ∀ z, z ∈ out.take m ++ [x] ++ out.drop m ↔ z = x ∨ z ∈ out := by
  have hmem : ∀ z, z ∈ out ↔ z ∈ out.take m ∨ z ∈ out.drop m := fun z => by
    conv => lhs; rw [← List.take_append_drop m out]
    rw [List.mem_append]
  have hd : ∀ z ∈ out.drop m, less x z = true := by
    intro z hz
    obtain ⟨i, hi, e⟩ := List.getElem_of_mem hz
    rw [List.getElem_drop] at e
    have hi' : m + i < out.length := by simp at hi; omega
    have := h1 (m + i) (by omega) hi'
    rw [List.getD_eq_getElem?_getD, List.getElem?_eq_getElem hi', Option.getD_some, e] at this
    exact this
  have ht : ∀ z ∈ out.take m, less z x = true := by
    intro z hz
    obtain ⟨i, hi, e⟩ := List.getElem_of_mem hz
    rw [List.getElem_take] at e
    have hi' : i < m := by simp at hi; omega
    have hl : less (out.getD (m - 1) nought) x = true := by
      rcases h2 with h2 | h2
      · omega
      · refine less_of_ne h2 (fun e => hx ?_)
        rw [e]
        exact mem_iff_get.2 ⟨m - 1, by omega, rfl⟩
    have e' : out.getD i nought = z := by
      rw [List.getD_eq_getElem?_getD, List.getElem?_eq_getElem (by omega), Option.getD_some, e]
    by_cases him : i = m - 1
    · rw [← e', him]; exact hl
    · have := rising_get hr (i := i) (j := m - 1) (by omega) (by omega)
      rw [e'] at this
      exact less_trans this hl
  constructor
  · unfold Rising
    rw [List.append_assoc, List.pairwise_append]
    refine ⟨List.Pairwise.sublist (List.take_sublist m out) hr, ?_, ?_⟩
    · rw [List.singleton_append, List.pairwise_cons]
      exact ⟨hd, List.Pairwise.sublist (List.drop_sublist m out) hr⟩
    · intro a ha b hb
      rw [List.singleton_append, List.mem_cons] at hb
      rcases hb with rfl | hb
      · exact ht a ha
      · exact less_trans (ht a ha) (hd b hb)
  · intro z
    rw [List.append_assoc, List.mem_append, List.singleton_append, List.mem_cons, hmem z]
    constructor
    · rintro (h | h | h)
      · exact .inr (.inl h)
      · exact .inl h
      · exact .inr (.inr h)
    · rintro (h | h | h)
      · exact .inr (.inl h)
      · exact .inl h
      · exact .inr (.inr h)

theorem mem_take_succ {l : List Idn} {k : Nat} (h : k < l.length) (z : Idn) : z ∈ l.getD k nought :: l.take k ↔ z ∈ l.take (k + 1) := by
  rw [List.take_add_one, List.mem_append, List.mem_cons, List.getD_eq_getElem?_getD, List.getElem?_eq_getElem h]
  simp [or_comm]

set_option maxHeartbeats 2000000 in
theorem rsort_ret (A : Option Addr) (cap : Nat) (l : List Idn) (w : World) (S : SlI w A cap l) (hl : l.length ≤ 1000) :
    Calls Tryz.prog 69 #[.slice A l.length cap] w fun e w' => NewI (IdM.sort l) w e w' := by
  have hcap := S.1
  go_enter Tryz.func69, Tryz.ntmps69
  go_wp2_with fail
  go_loopw [3, 4] (fun v i wr => ∃ (k : Nat) (out : List Idn), k ≤ l.length ∧ i = .int .i64 k ∧ wr.ownsRow w.heap.size 43 32 v out.length (bv (flat out)) ∧ Rising out ∧ Hid (∀ z, z ∈ out ↔ z ∈ l.take k) ∧ out.length ≤ k ∧ Below w.heap.size w wr) (fun _ i _ => l.length - (intOf i).toNat)
  case atStart => exact ⟨0, [], Nat.zero_le _, rfl, nil_own _ _, List.Pairwise.nil, aside (fun z => by simp), Nat.le_refl _, Below.refl _ _⟩
  case round =>
    obtain ⟨k, out, hk, rfl, hrow, hris, hmem, hlen, kb⟩ := hrel
    rename World => w0
    by_cases hlt : k < l.length
    · obtain ⟨b, off, rfl, hbw, hrg⟩ := S.plain (by omega)
      obtain ⟨A3, c3, rfl, S3⟩ := SlI.own hrow
      have hrg1 := range_below (hrg k hlt) kb
      obtain ⟨x, hx⟩ : ∃ x, l.getD k nought = x := ⟨_, rfl⟩
      rw [hx] at hrg1
      have HX := aside hx
      have p0 : (k : Int) < l.length := by omega
      have m0 : ((k : Int)).toNat = k := by omega
      have hmx := S3.1
      have hmax := S3.2.1
      unfold maxLen at hmax
      clear hrg S hx
      go_wp2_with (refine wpList_load_id rfl _ rfl _ _ rfl x hrg1 ?_)
      refine (rhas_ret A3 c3 out x w0 S3).mono ?_
      rintro e w1 ⟨rfl, k1⟩
      have kb1 := kb.trans (k1.mono kb.size)
      by_cases hxo : x ∈ out
      · simp only [hxo, decide_true]
        go_wp2
        go_roundw
        case rel =>
          refine ⟨k + 1, out, by omega, by go_num, owns_below hrow k1, hris, aside (fun z => ?_), by omega, kb1⟩
          have := mem_take_succ hlt z
          rw [HX.out, List.mem_cons] at this
          rw [← this, ← hmem.out z]
          constructor
          · exact .inr
          · rintro (rfl | h)
            · exact hxo
            · exact h
        case measure => simp [intOf]; omega
      · simp only [hxo, decide_false]
        have S4 := S3.below k1
        have r4 := range_below hrg1 k1
        go_wp2_with fail
        go_loopw [6] (fun a W => ∃ m : Nat, m ≤ out.length ∧ a = .int .i64 m ∧ Hid (∀ j, m ≤ j → j < out.length → less x (out.getD j nought) = true) ∧ Below w0.heap.size w0 W) (fun a _ => (intOf a).toNat)
        case atStart => exact ⟨out.length, Nat.le_refl _, rfl, aside (fun j h1 h2 => absurd h2 (by omega)), k1⟩
        case round =>
          obtain ⟨m, hm, rfl, hge, hwW⟩ := hrel
          by_cases hm0 : m = 0
          · have g0 : ¬ (0 < (m : Int)) := by omega
            have HM := aside hm0
            clear hm0
            have kW := kb.trans ((hwW).mono kb.size)
            have Sw := S3.below (hwW)
            obtain ⟨pA, pc, ep, Sp, lp⟩ := SlI.part Sw 0 m (Nat.zero_le _) hm
            obtain ⟨qA, qc, eq', Sq, lq⟩ := SlI.part Sw m out.length hm (Nat.le_refl _)
            have hp1 : ∀ V, (Instr.sliceAt 25 (.slice A3 out.length c3) none (some (.int .i64 m)) none).run Tryz.prog V = .ok (.slice pA m pc) V := fun V => by rw [run_part_h V _ out.length c3 .i64 m (by have := S3.1; omega), ep, Nat.sub_zero]
            have hq1 : ∀ V, (Instr.sliceAt 25 (.slice A3 out.length c3) (some (.int .i64 m)) none none).run Tryz.prog V = .ok (.slice qA (out.length - m) qc) V := fun V => by rw [run_part_l V _ out.length c3 .i64 m hm, eq']
            rw [Nat.sub_zero, List.drop_zero] at Sp lp
            have hrg2 := range_below hrg1 (hwW)
            have HS := aside (And.intro Sp Sq)
            have hput := rising_put hris hxo hm hge.out (.inl HM.out)
            clear ep eq' Sp Sq Sw
            go_wp2_with (first | (refine wpList_append_ids rfl _ _ rfl wr.heap.size _ 0 [] rfl (nil_own _ _) _ _ _ (out.take m) rfl lp HS.out.1 (by omega) (Nat.le_refl _) ?_; intro v5 w5 o5 g5; have k5 : Below wr.heap.size wr w5 := below_grown (Below.refl _ _) (Nat.le_refl _) g5 (fun k hk => by cases hk); have r5 := range_below hrg2 k5) | (refine wpList_load_id rfl _ rfl _ _ rfl x r5 ?_) | (refine wpList_build1 rfl _ rfl x rfl ?_) | (refine wpList_append_ids rfl _ _ rfl wr.heap.size _ _ _ rfl (o5.alloc _) _ 1 1 [x] rfl rfl (SlI.new1 _ x _) (by omega) (by have := k5.size; simp; omega) ?_; intro v6 w6 o6 g6; have k6 : Below wr.heap.size wr w6 := below_grown (k5.alloc k5.size _) (by have := k5.size; simp; omega) g6 (fun k hk => (o5.lt k hk).1)) | (refine wpList_append_ids rfl _ _ rfl wr.heap.size _ _ _ rfl o6 _ _ _ _ rfl lq (HS.out.2.below k6) (by omega) k6.size ?_; intro v7 w7 o7 g7; have k7 : Below wr.heap.size wr w7 := below_grown k6 k6.size g7 (fun k hk => (o6.lt k hk).1)))
            go_roundw
            case rel =>
              have elen : 0 + m + 1 + (out.length - m) = ([] ++ out.take m ++ [x] ++ (out.drop m).take (out.length - m)).length := by simp; omega
              have edrop : (out.drop m).take (out.length - m) = out.drop m := List.take_of_length_le (by simp)
              rw [elen] at o7
              rw [edrop, List.nil_append] at o7
              refine ⟨k + 1, out.take m ++ [x] ++ out.drop m, by omega, by go_num, owns_less o7 kW.size, hput.1, aside (fun z => ?_), by simp; omega, kW.trans (k7.mono kW.size)⟩
              rw [hput.2 z, hmem.out z]
              have := mem_take_succ hlt z
              rw [HX.out, List.mem_cons] at this
              exact this
            case measure => simp [intOf]; omega
          · obtain ⟨b3, off3, rfl, hbw3, hrg3⟩ := (S3.below hwW).plain (by omega)
            have ra := range_below hrg1 hwW
            have rb := hrg3 (m - 1) (by omega)
            obtain ⟨y, hy⟩ : ∃ y, out.getD (m - 1) nought = y := ⟨_, rfl⟩
            rw [hy] at rb
            have HY := aside hy
            have g0 : 0 < (m : Int) := by omega
            have p1 : (m : Int) - 1 < out.length := by omega
            have o1 : 0 ≤ (m : Int) - 1 := by omega
            have m1 : ((m : Int) - 1).toNat = m - 1 := by omega
            clear hrg3 hy
            cases hlx : less x y with
            | true =>
              go_wp2
              refine Grow.region [(0, true), (1, true), (2, true), (3, true), (4, true), (5, true), (6, true), (7, true), (8, true), (9, false), (10, true)] (by kernel_rfl) (by kernel_rfl) rfl (by kernel_rfl) (by intro c a d v w h; cases d <;> exact h) ?_
              have ra' : wr.drew.rangeAt b (off + k * 32) (bv x.1) := ra
              have rb' : wr.drew.rangeAt b3 (off3 + (m - 1) * 32) (bv y.1) := rb
              have hwd := below_drew1 hwW
              generalize wr.drew = V at ra' rb' hwd ⊢
              repeat (first | (refine reads_id rfl rfl _ rfl _ _ rfl x ra' ?_; simp only [Act.put, List.setIfInBounds_toArray, List.set_cons_succ, List.set_cons_zero]) | (refine reads_id rfl rfl _ rfl _ _ rfl y rb' ?_; simp only [Act.put, List.setIfInBounds_toArray, List.set_cons_succ, List.set_cons_zero]) | (refine Grow.reads rfl rfl ?_; go_big_quiet_step (fail); refine wpQuiet_nil ?_))
              refine Grow.acts rfl ?_
              go_wp2_with fail
              refine (rless_ret x y V).mono ?_
              rintro e w2 ⟨rfl, g2⟩
              rw [hlx]
              go_wp2_with fail
              refine ⟨g2.below, ?_⟩
              have hw2 := hwd.trans (g2.below.mono hwd.size)
              refine Grow.reads rfl rfl ?_
              go_big_quiet_step (fail)
              refine wpQuiet_nil ?_
              refine Grow.ends ?_
              go_wp2
              go_roundw
              case rel =>
                refine ⟨m - 1, by omega, by go_num, aside (fun j h1 h2 => ?_), hw2⟩
                by_cases hjm : j = m - 1
                · subst hjm
                  rw [HY.out]
                  exact hlx
                · exact hge.out j (by omega) h2
              case measure => simp [intOf]; omega
            | false =>
              go_wp2
              refine Grow.region [(0, true), (1, true), (2, true), (3, true), (4, true), (5, true), (6, true), (7, true), (8, true), (9, false), (10, true)] (by kernel_rfl) (by kernel_rfl) rfl (by kernel_rfl) (by intro c a d v w h; cases d <;> exact h) ?_
              have ra' : wr.drew.rangeAt b (off + k * 32) (bv x.1) := ra
              have rb' : wr.drew.rangeAt b3 (off3 + (m - 1) * 32) (bv y.1) := rb
              have hwd := below_drew1 hwW
              generalize wr.drew = V at ra' rb' hwd ⊢
              repeat (first | (refine reads_id rfl rfl _ rfl _ _ rfl x ra' ?_; simp only [Act.put, List.setIfInBounds_toArray, List.set_cons_succ, List.set_cons_zero]) | (refine reads_id rfl rfl _ rfl _ _ rfl y rb' ?_; simp only [Act.put, List.setIfInBounds_toArray, List.set_cons_succ, List.set_cons_zero]) | (refine Grow.reads rfl rfl ?_; go_big_quiet_step (fail); refine wpQuiet_nil ?_))
              refine Grow.acts rfl ?_
              go_wp2_with fail
              refine (rless_ret x y V).mono ?_
              rintro e w2 ⟨rfl, g2⟩
              rw [hlx]
              go_wp2_with fail
              refine ⟨g2.below, ?_⟩
              have hw2 := hwd.trans (g2.below.mono hwd.size)
              refine Grow.reads rfl rfl ?_
              go_big_quiet_step (fail)
              refine wpQuiet_nil ?_
              refine Grow.ends ?_
              have kW := kb.trans ((hw2).mono kb.size)
              have Sw := S3.below (hw2)
              obtain ⟨pA, pc, ep, Sp, lp⟩ := SlI.part Sw 0 m (Nat.zero_le _) hm
              obtain ⟨qA, qc, eq', Sq, lq⟩ := SlI.part Sw m out.length hm (Nat.le_refl _)
              have hp1 : ∀ V, (Instr.sliceAt 25 (.slice (some ⟨b3, off3, none⟩) out.length c3) none (some (.int .i64 m)) none).run Tryz.prog V = .ok (.slice pA m pc) V := fun V => by rw [run_part_h V _ out.length c3 .i64 m (by have := S3.1; omega), ep, Nat.sub_zero]
              have hq1 : ∀ V, (Instr.sliceAt 25 (.slice (some ⟨b3, off3, none⟩) out.length c3) (some (.int .i64 m)) none none).run Tryz.prog V = .ok (.slice qA (out.length - m) qc) V := fun V => by rw [run_part_l V _ out.length c3 .i64 m hm, eq']
              rw [Nat.sub_zero, List.drop_zero] at Sp lp
              have hrg2 := range_below hrg1 (hw2)
              have HS := aside (And.intro Sp Sq)
              have hput := rising_put hris hxo hm hge.out (.inr (by rw [HY.out]; exact hlx))
              clear ep eq' Sp Sq Sw
              go_wp2_with (first | (refine wpList_append_ids rfl _ _ rfl w2.heap.size _ 0 [] rfl (nil_own _ _) _ _ _ (out.take m) rfl lp HS.out.1 (by omega) (Nat.le_refl _) ?_; intro v5 w5 o5 g5; have k5 : Below w2.heap.size w2 w5 := below_grown (Below.refl _ _) (Nat.le_refl _) g5 (fun k hk => by cases hk); have r5 := range_below hrg2 k5) | (refine wpList_load_id rfl _ rfl _ _ rfl x r5 ?_) | (refine wpList_build1 rfl _ rfl x rfl ?_) | (refine wpList_append_ids rfl _ _ rfl w2.heap.size _ _ _ rfl (o5.alloc _) _ 1 1 [x] rfl rfl (SlI.new1 _ x _) (by omega) (by have := k5.size; simp; omega) ?_; intro v6 w6 o6 g6; have k6 : Below w2.heap.size w2 w6 := below_grown (k5.alloc k5.size _) (by have := k5.size; simp; omega) g6 (fun k hk => (o5.lt k hk).1)) | (refine wpList_append_ids rfl _ _ rfl w2.heap.size _ _ _ rfl o6 _ _ _ _ rfl lq (HS.out.2.below k6) (by omega) k6.size ?_; intro v7 w7 o7 g7; have k7 : Below w2.heap.size w2 w7 := below_grown k6 k6.size g7 (fun k hk => (o6.lt k hk).1)))
              go_roundw
              case rel =>
                have elen : 0 + m + 1 + (out.length - m) = ([] ++ out.take m ++ [x] ++ (out.drop m).take (out.length - m)).length := by simp; omega
                have edrop : (out.drop m).take (out.length - m) = out.drop m := List.take_of_length_le (by simp)
                rw [elen] at o7
                rw [edrop, List.nil_append] at o7
                refine ⟨k + 1, out.take m ++ [x] ++ out.drop m, by omega, by go_num, owns_less o7 kW.size, hput.1, aside (fun z => ?_), by simp; omega, kW.trans (k7.mono kW.size)⟩
                rw [hput.2 z, hmem.out z]
                have := mem_take_succ hlt z
                rw [HX.out, List.mem_cons] at this
                exact this
              case measure => simp [intOf]; omega
    · have e : k = l.length := by omega
      subst e
      rw [List.take_length] at hmem
      have := eq_sort hris hmem.out
      subst this
      go_wp2
      go_ret
      exact ⟨_, rfl, hrow, kb⟩
end Go.Proofs.YteojkfbnenfmkaaGreatDoor.IdX
