/- What the document's has and May of package pair return: contracts. -/
import Derived.Test.YtnjdkjkihbgkaaaGreatRegSJ3
import Derived.Test.YtnjdkjkihbgkaaaGreatRowGJ6
namespace Go.Proofs.YtnjdkjkihbgkaaaGreat.PairG
set_option maxRecDepth 100000
open Go Go.RowKit Byt OpsM OpsK Rise PairM PairN RowS RowB PairW PairR PairS

theorem sameN_no {x y : Pr} (h : x ≠ y) : sameN x y = false := by
  cases e : sameN x y with
  | false => rfl
  | true => exact absurd (sameN_iff.1 e) h
set_option maxRecDepth 100000 in
set_option maxHeartbeats 4000000 in
theorem has_ret (A : Option Addr) (cap : Nat) (l : List Pr) (p : Pr) (w : World) (S : SlR E w A cap l) :
    Calls Tryz.prog 97 #[.slice A l.length cap, .agg (pc p)] w fun e w' => e = .returned (.bool (decide (p ∈ l))) ∧ Below w.heap.size w w' := by
  have Z : Below w.heap.size w (w.alloc (.cells (pc p) 63)) := below_alloc _ _
  have N : Box E (w.alloc (.cells (pc p) 63)) w.heap.size p := Box.new w p _
  have S0 := S.below Z
  obtain ⟨W0, hW0⟩ : ∃ W, w.alloc (.cells (pc p) 63) = W := ⟨_, rfl⟩
  have hcap := S.1
  have hmax : l.length ≤ 9223372036854775807 := by have := S.2.1; unfold maxLen at this; omega
  obtain ⟨r, hr0⟩ : ∃ r, decide (p ∈ l) = r := ⟨_, rfl⟩
  rw [hr0]
  have HR0 := aside hr0
  clear hr0 S
  go_enter Tryz.func97, Tryz.ntmps97
  go_wp2
  rw [hW0] at Z N S0
  clear hW0
  go_loopw [5] (fun i wr => ∃ j : Nat, j ≤ l.length ∧ i = .int .i64 j ∧ Hid (p ∉ l.take j) ∧ Below W0.heap.size W0 wr) (fun i _ => l.length - (intOf i).toNat)
  case atStart => exact ⟨0, Nat.zero_le _, rfl, aside (by simp), Below.refl _ _⟩
  case round =>
    obtain ⟨j, hj, rfl, HG, kb⟩ := hrel
    by_cases hlt : j < l.length
    · obtain ⟨g, off, rfl, hbw, hr⟩ := PairW.plain S0 (by omega)
      obtain ⟨x, hx⟩ : ∃ x, l[j]? = some x := ⟨_, List.getElem?_eq_getElem hlt⟩
      obtain ⟨c0, c1, c2, c3⟩ := cells (range_below (hr j x hx) kb)
      obtain ⟨d0, d1, d2, d3⟩ := box_cells (N.below kb)
      have p0 : (j : Int) < l.length := by omega
      have m0 : ((j : Int)).toNat = j := by omega
      have heq := fun W => equal W x p
      unfold pc at heq
      have hxm := List.mem_of_getElem? hx
      have htk : l.take (j + 1) = l.take j ++ [x] := by
        obtain ⟨hj2, rfl⟩ := List.getElem?_eq_some_iff.1 hx
        exact List.take_succ_eq_append_getElem hj2
      by_cases hs : x = p
      · rw [sameN_iff.2 hs] at heq
        have HR : Hid (r = true) := aside (by rw [← HR0.out, decide_eq_true_eq, ← hs]; exact hxm)
        clear hr S0 hx hs htk hxm HG
        go_wp2
        go_quiet (fail)
        go_wp2
        go_ret
        exact ⟨ret_bool HR.out.symm, below_drew (Z.trans (kb.mono Z.size)) _⟩
      · rw [sameN_no hs] at heq
        have HG2 : Hid (p ∉ l.take (j + 1)) := aside (by
          rw [htk, List.mem_append, List.mem_singleton]
          rintro (h | h)
          · exact HG.out h
          · exact hs h.symm)
        clear hr S0 hx hs htk hxm HG
        go_wp2
        go_quiet (fail)
        go_wp2
        go_roundw
        case rel => exact ⟨j + 1, by omega, by go_num, HG2, below_drew kb _⟩
        case measure => simp [intOf]; omega
    · have HR : Hid (r = false) := aside (by
        have := HG.out
        rw [List.take_of_length_le (by omega)] at this
        rw [← HR0.out, decide_eq_false_iff_not]
        exact this)
      clear S0 HG
      go_wp2
      go_ret
      exact ⟨ret_bool HR.out.symm, Z.trans (kb.mono Z.size)⟩

theorem one_is (p : Pr) : oneP p = (keyL (bytesL p.key) && (keyL (bytesL p.elem) && (decide (0 ≤ p.node) && (decide (p.node < 8) && decide (1 ≤ p.seq))))) := rfl
/-- What one place of a list says of the whole. -/
structure Place (l : List Pr) (r : Bool) (j : Nat) (x : Pr) : Prop where
  bad : oneP x = false → r = false
  first : j = 0 → oneP x = true → mayP (l.take (j + 1)) = true
  next : ∀ y, 0 < j → l[j - 1]? = some y → mayP (l.take j) = true → oneP x = true → lessP y x = true → mayP (l.take (j + 1)) = true
  fall : ∀ y, 0 < j → l[j - 1]? = some y → lessP y x = false → r = false
theorem place {l : List Pr} {r : Bool} {j : Nat} {x : Pr} (hr : mayP l = r) (hx : l[j]? = some x) : Place l r j x := by
  obtain ⟨hj, rfl⟩ := List.getElem?_eq_some_iff.1 hx
  subst hr
  refine ⟨fun h => may_bad hj h, fun h0 h => ?_, fun y h0 hy hm ho hl => ?_, fun y h0 hy hl => ?_⟩
  · subst h0
    rw [may_first hj]
    exact h
  · obtain ⟨m, rfl⟩ : ∃ m, j = m + 1 := ⟨j - 1, by omega⟩
    obtain ⟨hm2, rfl⟩ := List.getElem?_eq_some_iff.1 hy
    rw [may_next hj hm, ho]
    simpa using hl
  · obtain ⟨m, rfl⟩ : ∃ m, j = m + 1 := ⟨j - 1, by omega⟩
    obtain ⟨hm2, rfl⟩ := List.getElem?_eq_some_iff.1 hy
    exact may_fall hj hl
set_option maxRecDepth 100000 in
set_option maxHeartbeats 16000000 in
theorem may_ret (A : Option Addr) (cap : Nat) (l : List Pr) (w : World) (S : SlR E w A cap l) (hf : Fits l) :
    Calls Tryz.prog 39 #[.slice A l.length cap] w fun e w' => e = .returned (.bool (mayP l)) ∧ Below w.heap.size w w' := by
  have hcap := S.1
  have hmax : l.length ≤ 9223372036854775807 := by have := S.2.1; unfold maxLen at this; omega
  obtain ⟨r, hr0⟩ : ∃ r, mayP l = r := ⟨_, rfl⟩
  rw [hr0]
  have HR0 := aside hr0
  clear hr0
  go_enter Tryz.func39, Tryz.ntmps39
  go_wp2
  go_loopw [3] (fun i wr => ∃ j : Nat, j ≤ l.length ∧ i = .int .i64 j ∧ Hid (0 < j → mayP (l.take j) = true) ∧ Below w.heap.size w wr) (fun i _ => l.length - (intOf i).toNat)
  case atStart => exact ⟨0, Nat.zero_le _, rfl, aside (fun h => absurd h (by omega)), Below.refl _ _⟩
  case round =>
    obtain ⟨j, hj, rfl, HM, kb⟩ := hrel
    by_cases hlt : j < l.length
    · obtain ⟨g, off, rfl, hbw, hr⟩ := PairW.plain S (by omega)
      obtain ⟨x, hx⟩ : ∃ x, l[j]? = some x := ⟨_, List.getElem?_eq_getElem hlt⟩
      have hxm := List.mem_of_getElem? hx
      have hkk := OpsR.key x.key (hf _ hxm).key
      have hke := OpsR.key x.elem (hf _ hxm).elem
      have hr1 := range_below (hr j _ hx) kb
      have p0 : (j : Int) < l.length := by omega
      have m0 : ((j : Int)).toNat = j := by omega
      have HP := aside (place HR0.out hx)
      have HCr := aside hr
      have ho := one_is x
      obtain ⟨kk, hkx⟩ : ∃ b, keyL (bytesL x.key) = b := ⟨_, rfl⟩
      obtain ⟨ke, hex⟩ : ∃ b, keyL (bytesL x.elem) = b := ⟨_, rfl⟩
      rw [hkx] at hkk ho
      rw [hex] at hke ho
      clear hkx hex hr hxm hf hx S
      by_cases hbad : kk = false ∨ (kk = true ∧ ke = false) ∨ (kk = true ∧ ke = true ∧ x.node < 0) ∨ (kk = true ∧ ke = true ∧ 0 ≤ x.node ∧ 8 ≤ x.node) ∨ (kk = true ∧ ke = true ∧ 0 ≤ x.node ∧ x.node < 8 ∧ x.seq < 1)
      · have HR : Hid (r = false) := aside (HP.out.bad (by
          rw [ho]
          rcases hbad with rfl | ⟨rfl, rfl⟩ | ⟨rfl, rfl, h⟩ | ⟨rfl, rfl, h, h2⟩ | ⟨rfl, rfl, h, h2, h3⟩ <;> simp <;> omega))
        clear ho
        rcases hbad with rfl | ⟨rfl, rfl⟩ | ⟨rfl, rfl, h⟩ | ⟨rfl, rfl, h, h2⟩ | ⟨rfl, rfl, h, h2, h3⟩
        all_goals
          go_wp2_with (first
            | (refine wpList_load_at E rfl _ rfl g _ rfl x hr1 ?_)
            | (refine wpList_store_new E rfl _ _ rfl _ _ _ rfl x _ rfl rfl rfl rfl ?_; intro w2 bx kx gx sx; obtain ⟨c0, c1, c2, c3⟩ := box_cells bx; have k2 := kb.trans (kx.mono kb.size); clear kx gx))
          refine (hkk _).mono ?_
          rintro e w' ⟨rfl, rfl⟩
          go_wp2_with fail
          refine (hke _).mono ?_
          rintro e w' ⟨rfl, rfl⟩
          go_wp2_with (first | go_skip)
          go_ret
          exact ⟨ret_bool HR.out.symm, k2⟩
      · have hok : kk = true ∧ ke = true ∧ 0 ≤ x.node ∧ x.node < 8 ∧ 1 ≤ x.seq := by
          cases kk <;> cases ke <;> simp at hbad ⊢ <;> omega
        obtain ⟨rfl, rfl, n1, n2, n3⟩ := hok
        have HOk : Hid (oneP x = true) := aside (by rw [ho]; simp [n1, n2, n3])
        clear ho hbad
        by_cases hj0 : j = 0
        · have q0 : ¬ ((0 : Int) < 0) := by omega
          have HM2 : Hid (0 < j + 1 → mayP (l.take (j + 1)) = true) := aside (fun _ => HP.out.first hj0 HOk.out)
          subst hj0
          rw [Nat.zero_mul, Nat.add_zero] at hr1
          go_wp2_with (first
            | (refine wpList_load_at E rfl _ rfl g _ rfl x hr1 ?_)
            | (refine wpList_store_new E rfl _ _ rfl _ _ _ rfl x _ rfl rfl rfl rfl ?_; intro w2 bx kx gx sx; obtain ⟨c0, c1, c2, c3⟩ := box_cells bx; have k2 := kb.trans (kx.mono kb.size); clear kx gx))
          refine (hkk _).mono ?_
          rintro e w' ⟨rfl, rfl⟩
          go_wp2_with fail
          refine (hke _).mono ?_
          rintro e w' ⟨rfl, rfl⟩
          go_wp2_with (first | go_skip)
          go_roundw
          case rel => exact ⟨1, by omega, by go_num, HM2, k2⟩
          case measure => simp [intOf]; omega
        · obtain ⟨m, hm⟩ : ∃ m, m + 1 = j := ⟨j - 1, by omega⟩
          obtain ⟨y, hy⟩ : ∃ y, l[m]? = some y := ⟨_, List.getElem?_eq_getElem (by omega)⟩
          have HY := aside (range_below (HCr.out m y hy) kb)
          have hy2 : l[j - 1]? = some y := by rw [← hm]; exact hy
          have q0 : 0 < (j : Int) := by omega
          have q1 : (m : Int) < l.length := by omega
          have q3 : ((m : Int)).toNat = m := by omega
          have hwr : IntKind.i64.wrap ((j : Int) - 1) = (m : Int) := by rw [IntKind.wrap_i64]; omega
          have cn := fun W => less_ret y x W
          have HB : Hid (0 < j) := aside (by omega)
          have HMm := aside (HM.out HB.out)
          have HN := aside (HP.out.next y HB.out hy2 HMm.out HOk.out)
          have HF := aside (HP.out.fall y HB.out hy2)
          clear HM HP HOk hj0 hy hy2 hm HCr
          obtain ⟨z, hz⟩ : ∃ z, lessP y x = z := ⟨_, rfl⟩
          rw [hz] at cn
          have HZ := aside hz
          clear hz
          cases z with
          | true =>
            have HM2 : Hid (0 < j + 1 → mayP (l.take (j + 1)) = true) := aside (fun _ => HN.out HZ.out)
            go_wp2_with (first
              | (refine wpList_load_at E rfl _ rfl g _ rfl x hr1 ?_)
              | (refine wpList_store_new E rfl _ _ rfl _ _ _ rfl x _ rfl rfl rfl rfl ?_; intro w2 bx kx gx sx; obtain ⟨c0, c1, c2, c3⟩ := box_cells bx; have ry := range_below HY.out kx; have k2 := kb.trans (kx.mono kb.size); clear kx gx))
            refine (hkk _).mono ?_
            rintro e w' ⟨rfl, rfl⟩
            go_wp2_with fail
            refine (hke _).mono ?_
            rintro e w' ⟨rfl, rfl⟩
            go_wp2_with (first | go_skip)
            refine Grow.region [(0, true), (1, true), (2, true), (3, true), (4, true), (5, true), (6, false), (7, true)] (by kernel_rfl) (by kernel_rfl) rfl (by kernel_rfl) (by intro c a d v w h; cases d <;> exact h) ?_
            have kd := below_drew1 k2
            have rx : w2.drew.rangeAt _ _ (E.enc x) := bx.range
            change w2.drew.rangeAt _ _ (E.enc y) at ry
            generalize w2.drew = wd at kd rx ry ⊢
            clear c0 c1 c2 c3 bx k2
            repeat (first | (refine RowG.reads_row E rfl rfl _ rfl _ _ rfl y ry ?_; simp only [Act.put, List.setIfInBounds_toArray, List.set_cons_succ, List.set_cons_zero]) | (refine RowG.reads_row E rfl rfl _ rfl _ _ rfl x rx ?_; simp only [Act.put, List.setIfInBounds_toArray, List.set_cons_succ, List.set_cons_zero]) | (refine Grow.reads rfl rfl ?_; go_big_quiet_step (fail); refine wpQuiet_nil ?_))
            refine Grow.acts rfl ?_
            go_wp2_with fail
            refine (cn _).mono ?_
            rintro e we ⟨rfl, he⟩
            have ke := kd.trans (he.mono kd.size)
            clear rx ry kd
            go_wp2_with fail
            refine ⟨he, ?_⟩
            clear he
            repeat (first | (refine Grow.reads rfl rfl ?_; go_big_quiet_step (fail); refine wpQuiet_nil ?_))
            refine Grow.ends ?_
            go_wp2_with fail
            go_roundw
            case rel => exact ⟨j + 1, by omega, by go_num, HM2, ke⟩
            case measure => simp [intOf]; omega
          | false =>
            have HR : Hid (r = false) := aside (HF.out HZ.out)
            go_wp2_with (first
              | (refine wpList_load_at E rfl _ rfl g _ rfl x hr1 ?_)
              | (refine wpList_store_new E rfl _ _ rfl _ _ _ rfl x _ rfl rfl rfl rfl ?_; intro w2 bx kx gx sx; obtain ⟨c0, c1, c2, c3⟩ := box_cells bx; have ry := range_below HY.out kx; have k2 := kb.trans (kx.mono kb.size); clear kx gx))
            refine (hkk _).mono ?_
            rintro e w' ⟨rfl, rfl⟩
            go_wp2_with fail
            refine (hke _).mono ?_
            rintro e w' ⟨rfl, rfl⟩
            go_wp2_with (first | go_skip)
            refine Grow.region [(0, true), (1, true), (2, true), (3, true), (4, true), (5, true), (6, false), (7, true)] (by kernel_rfl) (by kernel_rfl) rfl (by kernel_rfl) (by intro c a d v w h; cases d <;> exact h) ?_
            have kd := below_drew1 k2
            have rx : w2.drew.rangeAt _ _ (E.enc x) := bx.range
            change w2.drew.rangeAt _ _ (E.enc y) at ry
            generalize w2.drew = wd at kd rx ry ⊢
            clear c0 c1 c2 c3 bx k2
            repeat (first | (refine RowG.reads_row E rfl rfl _ rfl _ _ rfl y ry ?_; simp only [Act.put, List.setIfInBounds_toArray, List.set_cons_succ, List.set_cons_zero]) | (refine RowG.reads_row E rfl rfl _ rfl _ _ rfl x rx ?_; simp only [Act.put, List.setIfInBounds_toArray, List.set_cons_succ, List.set_cons_zero]) | (refine Grow.reads rfl rfl ?_; go_big_quiet_step (fail); refine wpQuiet_nil ?_))
            refine Grow.acts rfl ?_
            go_wp2_with fail
            refine (cn _).mono ?_
            rintro e we ⟨rfl, he⟩
            have ke := kd.trans (he.mono kd.size)
            clear rx ry kd
            go_wp2_with fail
            refine ⟨he, ?_⟩
            clear he
            repeat (first | (refine Grow.reads rfl rfl ?_; go_big_quiet_step (fail); refine wpQuiet_nil ?_))
            refine Grow.ends ?_
            go_wp2_with fail
            go_ret
            exact ⟨ret_bool HR.out.symm, ke⟩
    · have e : j = l.length := by omega
      have HR : Hid (r = true) := aside (by
        rw [← HR0.out]
        by_cases h0 : 0 < j
        · have := HM.out h0
          rwa [e, List.take_length] at this
        · have : l = [] := List.eq_nil_of_length_eq_zero (by omega)
          rw [this]; rfl)
      clear S HM
      go_wp2
      go_ret
      exact ⟨ret_bool HR.out.symm, kb⟩
end Go.Proofs.YtnjdkjkihbgkaaaGreat.PairG
