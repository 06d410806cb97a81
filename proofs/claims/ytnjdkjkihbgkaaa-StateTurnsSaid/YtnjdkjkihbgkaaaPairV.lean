/- What the project's May of package pair returns: a contract. -/
import Derived.Test.YtnjdkjkihbgkaaaGrewMJ4
namespace Go.Proofs.Ytnjdkjkihbgkaaa.PairV
set_option maxRecDepth 100000
open Go Go.RowKit Byt OpsM OpsK Rise PairM PairN RowS RowB PairW PairS PairX PairB

theorem less_below (a b : Pr) (w : World) : Calls Try.prog 36 #[.agg (pc a), .agg (pc b)] w fun e w' => e = .returned (.bool (lessP a b)) ∧ Below w.heap.size w w' :=
  (PairO.less_ret a b w).mono fun _ _ h => ⟨h.1, h.2.below⟩
set_option maxRecDepth 100000 in
set_option maxHeartbeats 16000000 in
theorem may_ret (A : Option Addr) (cap : Nat) (l : List Pr) (w : World) (S : SlR E w A cap l) (hf : Fits l) (hl : l.length ≤ 1000000) :
    Calls Try.prog 18 #[.slice A l.length cap] w fun e w' => e = .returned (.bool (mayP l)) ∧ Below w.heap.size w w' := by
  have hcap := S.1
  obtain ⟨r, hr0⟩ : ∃ r, mayP l = r := ⟨_, rfl⟩
  rw [hr0]
  have HR0 := aside hr0
  clear hr0
  go_enter Try.func18, Try.ntmps18
  go_wp2
  go_loopw [7] (fun i wr => ∃ j : Nat, j ≤ l.length ∧ i = .int .i64 j ∧ Hid (0 < j → mayP (l.take j) = true) ∧ Below w.heap.size w wr) (fun i _ => l.length - (intOf i).toNat)
  case atStart => exact ⟨0, Nat.zero_le _, rfl, aside (fun h => absurd h (by omega)), Below.refl _ _⟩
  case round =>
    obtain ⟨j, hj, rfl, HM, kb⟩ := hrel
    by_cases hlt : j < l.length
    · obtain ⟨b, off, rfl, hbw, hr⟩ := PairW.plain S (by omega)
      have hx : l[j]? = some l[j] := List.getElem?_eq_getElem hlt
      have hxm : l[j] ∈ l := List.getElem_mem hlt
      have hk0 := fun W => alone_ret l[j] W (hf _ hxm)
      have HJ := aside (range_below (hr j _ hx) kb)
      have p0 : (j : Int) < l.length := by omega
      have m0 : ((j : Int)).toNat = j := by omega
      have hno := fun q => HR0.out.symm.trans (may_bad hlt q)
      have hfall := fun (m : Nat) (e : m + 1 = j) (q : lessP (l[m]'(by omega)) (l[m + 1]'(by omega)) = false) => HR0.out.symm.trans (may_fall (l := l) (k := m) (by omega) q)
      have hnext := fun (m : Nat) (e : m + 1 = j) (q : mayP (l.take (m + 1)) = true) => may_next (l := l) (k := m) (by omega) q
      have hfirst := fun (q : 0 < l.length) => may_first (l := l) q
      obtain ⟨kx, hkx⟩ : ∃ b, oneP l[j] = b := ⟨_, rfl⟩
      rw [hkx] at hk0
      have HNo := aside hno
      have HOk := aside hkx
      have HFa := aside hfall
      have HNx := aside hnext
      have HFi := aside hfirst
      have HCr := aside hr
      obtain ⟨x, hxx⟩ : ∃ x, l[j] = x := ⟨_, rfl⟩
      rw [hxx] at HJ hk0
      have HXX := aside hxx
      clear hno hfall hnext hfirst hkx hr hxm hf hx S hxx
      cases kx with
      | false =>
        have HR : Hid (r = false) := aside (HNo.out HOk.out)
        go_wp2_with (first
          | (refine (hk0 _).mono ?_; rintro e w' ⟨rfl, k1⟩; have k3 := k2.trans (k1.mono k2.size); clear k1)
          | (refine wpList_load_at E rfl _ rfl b _ rfl x HJ.out ?_)
          | (refine wpList_load_box E rfl _ rfl _ rfl x bx ?_)
          | (refine wpList_store_new E rfl _ _ rfl _ _ _ rfl x _ rfl rfl rfl rfl ?_; intro w2 bx kx gx sx; have k2 := kb.trans (kx.mono kb.size); clear kx gx))
        go_ret
        exact ⟨ret_bool HR.out.symm, k3⟩
      | true =>
        by_cases hj0 : j = 0
        · subst hj0
          have HM2 : Hid (0 < 1 → mayP (l.take 1) = true) := aside (fun _ => by rw [HFi.out hlt]; exact HOk.out)
          have HJ0 : Hid (wr.rangeAt b off (E.enc x)) := aside (by have := HJ.out; simpa using this)
          clear HJ
          go_wp2_with (first
            | (refine (hk0 _).mono ?_; rintro e w' ⟨rfl, k1⟩; have k3 := k2.trans (k1.mono k2.size); have b3 := bx.below k1; clear k1)
            | (refine wpList_load_at E rfl _ rfl b _ rfl x HJ0.out ?_)
            | (refine wpList_load_box E rfl _ rfl _ rfl x bx ?_)
            | (refine wpList_store_new E rfl _ _ rfl _ _ _ rfl x _ rfl rfl rfl rfl ?_; intro w2 bx kx gx sx; have k2 := kb.trans (kx.mono kb.size); clear kx gx))
          refine Grow.region [(0, true), (1, true), (2, true), (3, true), (4, true), (5, true), (6, true), (7, true), (8, true), (9, false), (10, true), (11, true)] (by kernel_rfl) (by kernel_rfl) rfl (by kernel_rfl) (by intro c a d v w h; cases d <;> exact h) ?_
          rename World => V
          have kd := below_drew1 k3
          generalize V.drew = wd at kd ⊢
          repeat (refine Grow.reads rfl rfl ?_; go_big_quiet_step (fail); refine wpQuiet_nil ?_)
          refine Grow.acts rfl ?_
          go_wp2_with (first | go_skip)
          refine ⟨Below.refl _ _, ?_⟩
          repeat (refine Grow.reads rfl rfl ?_; go_big_quiet_step (fail); refine wpQuiet_nil ?_)
          refine Grow.ends ?_
          go_wp2_with fail
          go_roundw
          case rel => exact ⟨1, by omega, by go_num, HM2, kd⟩
          case measure => simp [intOf]; omega
        · obtain ⟨m, hm⟩ : ∃ m, m + 1 = j := ⟨j - 1, by omega⟩
          have hml : m < l.length := by omega
          have hy : l[m]? = some (l[m]'hml) := List.getElem?_eq_getElem hml
          obtain ⟨y, hyy⟩ : ∃ y, l[m]'hml = y := ⟨_, rfl⟩
          have HY := aside (HCr.out m _ hy)
          rw [hyy] at HY
          have HYY := aside hyy
          have q0 : decide (0 < (j : Int)) = true := by simp; omega
          have q00 : 0 < j := by omega
          have HMm : Hid (mayP (l.take (m + 1)) = true) := aside (by have := HM.out (by omega); rwa [← hm] at this)
          have q1 : (m : Int) < l.length := by omega
          have q3 : ((m : Int)).toNat = m := by omega
          have hwr : IntKind.i64.wrap ((j : Int) - 1) = (m : Int) := by rw [IntKind.wrap_i64]; omega
          have HMJ := aside hm
          have cn := fun W => less_below y x W
          obtain ⟨z, hz⟩ : ∃ z, lessP y x = z := ⟨_, rfl⟩
          rw [hz] at cn
          have HZ : Hid (lessP (l[m]'hml) l[j] = z) := aside (by rw [HYY.out, HXX.out]; exact hz)
          clear HM hj0 hy hm hyy hz
          cases z with
          | true =>
            have HM2 : Hid (0 < j + 1 → mayP (l.take (j + 1)) = true) := aside (fun _ => by
              have hm := HMJ.out
              subst hm
              rw [HNx.out m rfl HMm.out, HOk.out, HZ.out]; rfl)
            go_wp2_with (first
              | (refine (hk0 _).mono ?_; rintro e w' ⟨rfl, k1⟩; have k3 := k2.trans (k1.mono k2.size); have b3 := bx.below k1; have d0 := range_below HY.out k3; clear k1)
              | (refine wpList_load_at E rfl _ rfl b _ rfl x HJ.out ?_)
              | (refine wpList_load_box E rfl _ rfl _ rfl x bx ?_)
              | (refine wpList_store_new E rfl _ _ rfl _ _ _ rfl x _ rfl rfl rfl rfl ?_; intro w2 bx kx gx sx; have k2 := kb.trans (kx.mono kb.size); clear kx gx))
            refine Grow.region [(0, true), (1, true), (2, true), (3, true), (4, true), (5, true), (6, true), (7, true), (8, true), (9, false), (10, true), (11, true)] (by kernel_rfl) (by kernel_rfl) rfl (by kernel_rfl) (by intro c a d v w h; cases d <;> exact h) ?_
            rename World => V
            have kd := below_drew1 k3
            have rx := (b3.below (below_drew1 (Below.refl V.heap.size V))).range
            have ry := range_below d0 (below_drew1 (Below.refl V.heap.size V))
            generalize V.drew = wd at kd rx ry ⊢
            repeat (first | (refine Grow.reads rfl rfl ?_; go_big_quiet_want; refine RowK.quiet_row E _ rfl _ _ rfl y ry ?_; go_big_quiet_on; refine wpQuiet_nil ?_; simp only [Act.put, List.setIfInBounds_toArray, List.set_cons_succ, List.set_cons_zero]) | (refine Grow.reads rfl rfl ?_; go_big_quiet_want; refine RowK.quiet_row E _ rfl _ _ rfl x rx ?_; go_big_quiet_on; refine wpQuiet_nil ?_; simp only [Act.put, List.setIfInBounds_toArray, List.set_cons_succ, List.set_cons_zero]) | (refine Grow.reads rfl rfl ?_; go_big_quiet_step (fail); refine wpQuiet_nil ?_))
            refine Grow.acts rfl ?_
            go_wp2_with fail
            refine (cn _).mono ?_
            rintro e we ⟨rfl, he⟩
            have ke := kd.trans (he.mono kd.size)
            clear rx ry kd
            go_wp2_with fail
            refine ⟨he, ?_⟩
            clear he
            repeat (refine Grow.reads rfl rfl ?_; go_big_quiet_step (fail); refine wpQuiet_nil ?_)
            refine Grow.ends ?_
            go_wp2_with fail
            go_roundw
            case rel => exact ⟨j + 1, by omega, by go_num, HM2, ke⟩
            case measure => simp [intOf]; omega
          | false =>
            have HR : Hid (r = false) := aside (by have hm := HMJ.out; subst hm; exact HFa.out m rfl HZ.out)
            go_wp2_with (first
              | (refine (hk0 _).mono ?_; rintro e w' ⟨rfl, k1⟩; have k3 := k2.trans (k1.mono k2.size); have b3 := bx.below k1; have d0 := range_below HY.out k3; clear k1)
              | (refine wpList_load_at E rfl _ rfl b _ rfl x HJ.out ?_)
              | (refine wpList_load_box E rfl _ rfl _ rfl x bx ?_)
              | (refine wpList_store_new E rfl _ _ rfl _ _ _ rfl x _ rfl rfl rfl rfl ?_; intro w2 bx kx gx sx; have k2 := kb.trans (kx.mono kb.size); clear kx gx))
            refine Grow.region [(0, true), (1, true), (2, true), (3, true), (4, true), (5, true), (6, true), (7, true), (8, true), (9, false), (10, true), (11, true)] (by kernel_rfl) (by kernel_rfl) rfl (by kernel_rfl) (by intro c a d v w h; cases d <;> exact h) ?_
            rename World => V
            have kd := below_drew1 k3
            have rx := (b3.below (below_drew1 (Below.refl V.heap.size V))).range
            have ry := range_below d0 (below_drew1 (Below.refl V.heap.size V))
            generalize V.drew = wd at kd rx ry ⊢
            repeat (first | (refine Grow.reads rfl rfl ?_; go_big_quiet_want; refine RowK.quiet_row E _ rfl _ _ rfl y ry ?_; go_big_quiet_on; refine wpQuiet_nil ?_; simp only [Act.put, List.setIfInBounds_toArray, List.set_cons_succ, List.set_cons_zero]) | (refine Grow.reads rfl rfl ?_; go_big_quiet_want; refine RowK.quiet_row E _ rfl _ _ rfl x rx ?_; go_big_quiet_on; refine wpQuiet_nil ?_; simp only [Act.put, List.setIfInBounds_toArray, List.set_cons_succ, List.set_cons_zero]) | (refine Grow.reads rfl rfl ?_; go_big_quiet_step (fail); refine wpQuiet_nil ?_))
            refine Grow.acts rfl ?_
            go_wp2_with fail
            refine (cn _).mono ?_
            rintro e we ⟨rfl, he⟩
            have ke := kd.trans (he.mono kd.size)
            clear rx ry kd
            go_wp2_with fail
            refine ⟨he, ?_⟩
            clear he
            repeat (refine Grow.reads rfl rfl ?_; go_big_quiet_step (fail); refine wpQuiet_nil ?_)
            refine Grow.ends ?_
            go_wp2_with fail
            go_ret
            exact ⟨ret_bool HR.out.symm, ke⟩
    · have e : j = l.length := by omega
      have HR : Hid (r = true) := aside (by
        rw [← HR0.out]
        by_cases h0 : 0 < j
        · have := HM.out h0
          rwa [e, List.take_length] at this
        · have : l = [] := List.eq_nil_of_length_eq_zero (by omega)
          rw [this]; rfl)
      clear S HM
      go_wp2
      go_ret
      exact ⟨ret_bool HR.out.symm, kb⟩
end Go.Proofs.Ytnjdkjkihbgkaaa.PairV
