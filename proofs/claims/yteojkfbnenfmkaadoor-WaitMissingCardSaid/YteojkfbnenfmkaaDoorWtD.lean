/- WaitMissing's walk: what is missing is a parent of one that waits, is not there, and does not wait itself, where package wait's Missing returns what Missing1 says. No condition. -/
import Derived.Test.YteojkfbnenfmkaaDoorDgKJ8
import Derived.Test.YteojkfbnenfmkaaDoorWtX
import Derived.Test.YteojkfbnenfmkaaDoorCmA
import Derived.Test.YteojkfbnenfmkaaDoorGrow
import Derived.Test.YteojkfbnenfmkaaDoorIdV
namespace Go.Proofs.YteojkfbnenfmkaaDoor.WtD
set_option maxRecDepth 100000
open Go Go.Sort Go.RowKit Byt IdM IdW OpsM OpsW CmM StW CmW CmX CmY CmA DgM DgW DgR DgF WtM WtF WtN WtX
open Classical

theorem gid {ops : Array Oper} {rest : List Oper} {o : Oper} {a : Act} {w : World} {Q : Exit → Act → World → Prop} (x : Operand) (ho : o.op = .load 42 x)
    (g : Nat) (hx : a.eval x = .pointer (some ⟨g, 0, none⟩)) (y : Idn) (hb : IdW.Box w g y) (hw : Region.wanted o (yielded ops a.tmps) = true) (h : wpList Tryd.prog ops Q rest (a.put o.dst (.agg (cs y))) w) : wpList Tryd.prog ops Q (o :: rest) a w :=
  RowC.unguard hw (IdW.wpList_load_box rfl x ho g hx y hb h)
set_option maxRecDepth 100000 in
set_option maxHeartbeats 32000000 in
theorem within (Z : Aw) (V : Missing1) (A A' : Option Addr) (cap cap' : Nat) (l : List Cv) (h : List Idn) (a : Idn) (w : World) (S : SlK w A cap l) (T : SlI w A' cap' h) (hl : l.length ≤ 20) (hp : ∀ u ∈ l, fewK u.c = true) (hh : h.length ≤ 20) (hK : ShaE.KIn w) :
    Calls Tryd.prog 5 #[.slice A l.length cap, .slice A' h.length cap', .agg (cs a)] w fun e w' => e = .returned (.bool true) ∧ Below w.heap.size w w' := by
  have kb0 := StW.below_alloc w (.cells (cs a) 42)
  have B0 : IdW.Box (w.alloc (.cells (cs a) 42)) w.heap.size a := IdW.Box.new w a _
  have qa := Z _ (hK.below kb0)
  have hfl : fewD (coms l) 20 = true := by
    unfold fewD
    rw [Bool.and_eq_true, decide_eq_true_eq, coms_len]
    exact ⟨by omega, List.all_eq_true.2 fun c hc => by unfold coms at hc; obtain ⟨u, hu, rfl⟩ := List.mem_map.1 hc; exact hp u hu⟩
  have q1 := fun W S => DgR.few_ret A cap l 20 W S
  rw [hfl] at q1
  have hf20 : Few20 l := ⟨hl, fun u hu => (fewK_iff.1 (hp u hu)).1⟩
  have r3 := fun W (S : SlK W A cap l) (T : SlI W A' cap' h) K => V.missing A A' cap cap' l h W S hf20 T hh K
  unfold DgR.NewD at r3
  obtain ⟨m, hm⟩ : ∃ m, missW hashK (coms l) h = m := ⟨_, rfl⟩
  have HMI := aside (miss_is (coms l) h a)
  have hri : risesB m = true := by rw [← hm]; exact risesB_of_rising (rising_missW _ _ _)
  rw [hm] at r3 HMI
  have hnh : ¬ (20 : Int) < (h.length : Int) := by omega
  have HLC := aside (coms_len l)
  have hmax := S.len
  have hks := kb0.size
  clear hfl hp hf20 hm hl hh
  go_enter Tryd.func5, Tryd.ntmps5
  go_wp2_with (first | go_skip)
  refine qa.mono ?_
  rintro e w1 ⟨rfl, k1⟩
  have B1 := B0.below k1 B0.lt
  have b1 := kb0.trans (k1.mono hks)
  clear qa B0 kb0 k1 hks
  go_wp2_with (first | go_skip)
  refine (q1 _ (S.below b1)).mono ?_
  rintro e w2 ⟨rfl, k2⟩
  have B2 := B1.below k2 B1.lt
  have b2 := b1.trans (k2.mono b1.size)
  clear q1 B1 b1 k2
  go_wp2_with (first | go_skip)
  refine (r3 _ (S.below b2) (T.below b2) (hK.below b2)).mono ?_
  rintro e w4 ⟨A4, c4, rfl, S4, k4⟩
  have B4 := B2.below k4 B2.lt
  have b4 := b2.trans (k4.mono b2.size)
  clear r3 B2 b2 k4 hnh
  go_wp2_with (first | go_skip)
  go_loopw [10, 11, 12] (fun s t i wr => ∃ (k : Nat) (p q : Bool), k ≤ l.length ∧ i = .int .i64 k ∧ s = .bool p ∧ t = .bool q ∧ Hid (p = ((coms l).take k).any fun c => decide (a ∈ c.ps)) ∧ Hid (q = ((coms l).take k).any fun c => mayK c && decide (hashK c = a)) ∧ Below w4.heap.size w4 wr) (fun _ _ i _ => l.length - (intOf i).toNat)
  case atStart => exact ⟨0, false, false, Nat.zero_le _, rfl, rfl, rfl, aside (by simp), aside (by simp), Below.refl _ _⟩
  case round =>
    obtain ⟨k, p, q, hk, rfl, rfl, rfl, HP, HQ, kc⟩ := hrel
    have kb := b4.trans (kc.mono b4.size)
    have BR := B4.below kc B4.lt
    have SR := S4.below kc
    by_cases hlt : k < l.length
    · obtain ⟨bb, off, rfl, hbw, hrg⟩ := S.plain (by omega)
      obtain ⟨x, hx⟩ : ∃ x, l[k]? = some x := ⟨_, List.getElem?_eq_getElem hlt⟩
      have hxm := List.mem_of_getElem? hx
      have rx := range_on (hrg k x hx) kb
      have IX := (S.each x hxm).1.below kb
      have qh := CmA.hash_ret x wr IX (S.each x hxm).2 (hK.below kb)
      unfold HashOut at qh
      have HPS := aside (any_step (fun c : Com => decide (a ∈ c.ps)) (coms_at hx))
      have HQS := aside (any_step (fun c : Com => mayK c && decide (hashK c = a)) (coms_at hx))
      have HOI := aside (own_iff x.c a)
      have p0 : (k : Int) < l.length := by omega
      have m0 : ((k : Int)).toNat = k := by omega
      obtain ⟨hi, hhi⟩ : ∃ y, hashI x.c = y := ⟨_, rfl⟩
      obtain ⟨ni, hni⟩ : ∃ y, putN x.c = y := ⟨_, rfl⟩
      rw [hhi, hni] at qh HOI
      obtain ⟨z1, hz1⟩ : ∃ z, decide (a ∈ x.c.ps) = z := ⟨_, rfl⟩
      have HZ1 := aside hz1
      have heq : ∀ W, (Op.equalIn 10000 42 (.agg (cs hi)) (.agg (cs a))).run Tryd.prog W = .ok (decide (hi = a)) W := fun W => IdW.equal W 9998 hi a
      clear hrg hx hxm SR hhi hni hz1
      go_wp2_with (first | go_skip | (refine load_at rfl _ rfl _ _ rfl x rx ?_))
      refine qh.mono ?_
      rintro e w5 ⟨rfl, k5⟩
      have rx5 := range_on rx k5
      have IX5 := IX.below k5
      have B5 := BR.below k5 BR.lt
      have c5 := kc.trans (k5.mono kc.size)
      have b5 := kb.trans (k5.mono kb.size)
      clear qh rx IX BR kc kb k5
      go_wp2_with (first | go_skip | (refine IdJ.wpList_alloc_id rfl rfl ?_) | (refine CmG.wpList_store_id rfl _ _ rfl w5 nought _ rfl hi _ rfl rfl rfl ?_; intro w6 I6 k6 s6; have rx6 := range_on rx5 k6; have IX6 := IX5.below k6; have B6 := B5.below k6 B5.lt; have c6 := c5.trans (k6.mono c5.size); have b6 := b5.trans (k6.mono b5.size); clear rx5 IX5 B5 c5 b5 k6 s6))
      cases p with
      | true =>
        have HP2 : Hid (true = ((coms l).take (k + 1)).any fun c => decide (a ∈ c.ps)) := aside (by rw [HPS.out, ← HP.out]; rfl)
        clear HP HPS HZ1 rx6 IX6
        refine Grow.region [(0, true), (1, true), (2, true), (3, true), (4, true), (5, true), (6, true), (7, true), (8, false), (9, true), (10, true)] (by kernel_rfl) (by kernel_rfl) rfl (by kernel_rfl) (by intro c a d v w h; cases d <;> exact h) ?_
        have kd := below_drew1 (Below.refl w6.heap.size w6)
        have c7 := c6.trans (kd.mono c6.size)
        have I7 := I6.below kd I6.lt
        have B7 := B6.below kd B6.lt
        generalize w6.drew = w7 at c7 I7 B7 ⊢
        clear kd c6 I6 B6 b6
        (try simp only [Act.put, List.setIfInBounds_toArray, List.set_cons_succ, List.set_cons_zero])
        repeat (refine Grow.reads rfl rfl ?_; go_big_quiet_step (fail); refine wpQuiet_nil ?_)
        refine Grow.acts rfl ?_
        go_wp2_with (first | go_skip)
        refine ⟨Below.refl _ _, ?_⟩
        (try simp only [Act.put, List.setIfInBounds_toArray, List.set_cons_succ, List.set_cons_zero])
        repeat (refine Grow.reads rfl rfl ?_; go_big_quiet_step (fail); refine wpQuiet_nil ?_)
        refine Grow.ends ?_
        cases q with
        | true =>
          have HQ2 : Hid (true = ((coms l).take (k + 1)).any fun c => mayK c && decide (hashK c = a)) := aside (by rw [HQS.out, ← HQ.out]; rfl)
          clear HQ HQS HOI heq I7 B7
          go_wp2_with (first | go_skip)
          go_roundw
          case rel => exact ⟨k + 1, true, true, by omega, by go_num, rfl, rfl, HP2, HQ2, c7⟩
          case measure => simp [intOf]; omega
        | false =>
          by_cases hn0 : ni = 0
          · obtain ⟨z2, hz2⟩ : ∃ z, decide (hi = a) = z := ⟨_, rfl⟩
            have HQ2 : Hid (z2 = ((coms l).take (k + 1)).any fun c => mayK c && decide (hashK c = a)) := aside (by rw [HQS.out, ← HQ.out, ← HOI.out, hn0, ← hz2]; simp)
            rw [hz2] at heq
            subst hn0
            clear HQ HQS HOI hz2
            go_wp2_with (first | go_skip | (refine gid _ rfl _ rfl hi I7 rfl ?_) | (refine gid _ rfl _ rfl a B7 rfl ?_))
            go_roundw
            case rel => exact ⟨k + 1, true, z2, by omega, by go_num, rfl, rfl, HP2, HQ2, c7⟩
            case measure => simp [intOf]; omega
          · have HQ2 : Hid (false = ((coms l).take (k + 1)).any fun c => mayK c && decide (hashK c = a)) := aside (by rw [HQS.out, ← HQ.out, ← HOI.out, decide_eq_false hn0]; rfl)
            clear HQ HQS HOI heq I7 B7
            go_wp2_with (first | go_skip)
            go_roundw
            case rel => exact ⟨k + 1, true, false, by omega, by go_num, rfl, rfl, HP2, HQ2, c7⟩
            case measure => simp [intOf]; omega
      | false =>
        have HP2 : Hid (z1 = ((coms l).take (k + 1)).any fun c => decide (a ∈ c.ps)) := aside (by rw [HPS.out, ← HP.out, HZ1.out]; rfl)
        refine Grow.region [(0, true), (1, true), (2, true), (3, true), (4, true), (5, true), (6, true), (7, true), (8, false), (9, true), (10, true)] (by kernel_rfl) (by kernel_rfl) rfl (by kernel_rfl) (by intro c a d v w h; cases d <;> exact h) ?_
        have kd := below_drew1 (Below.refl w6.heap.size w6)
        have c6' := c6.trans (kd.mono c6.size)
        have I6' := I6.below kd I6.lt
        have B6' := B6.below kd B6.lt
        have vx := range_on rx6 kd 3 _ rfl
        have qs := IdV.has_ret x.a x.k x.c.ps a _ (IX6.below kd)
        rw [HZ1.out] at qs
        have hbz : bb < w6.drew.heap.size := World.block_lt_of_cell? _ _ vx
        generalize w6.drew = wz at c6' I6' B6' vx qs hbz ⊢
        have hc := Grow.grown (w := wz) (fun u hu => (hu.cell (p := ⟨bb, off + k * 8 + 3, none⟩) hbz).trans vx)
        clear kd c6 I6 B6 b6 HP HPS HZ1 rx6 IX6
        (try simp only [Act.put, List.setIfInBounds_toArray, List.set_cons_succ, List.set_cons_zero])
        repeat (first | (refine Grow.reads rfl rfl ?_; go_big_quiet_want; refine quiet_id _ rfl _ _ rfl a B6'.range ?_; go_big_quiet_on; refine wpQuiet_nil ?_; (try simp only [Act.put, List.setIfInBounds_toArray, List.set_cons_succ, List.set_cons_zero])) | (refine Grow.reads rfl rfl ?_; go_big_quiet_step (fail); refine wpQuiet_nil ?_))
        refine Grow.acts rfl ?_
        go_wp2_with (first | go_skip)
        refine qs.mono ?_
        rintro e w7 ⟨rfl, k7⟩
        have c7 := c6'.trans (k7.mono c6'.size)
        have I7 := I6'.below k7 I6'.lt
        have B7 := B6'.below k7 B6'.lt
        clear qs c6' I6' B6' vx hc hbz
        go_wp2_with (first | go_skip)
        refine ⟨k7, ?_⟩
        clear k7
        (try simp only [Act.put, List.setIfInBounds_toArray, List.set_cons_succ, List.set_cons_zero])
        repeat (refine Grow.reads rfl rfl ?_; go_big_quiet_step (fail); refine wpQuiet_nil ?_)
        refine Grow.ends ?_
        cases q with
        | true =>
          have HQ2 : Hid (true = ((coms l).take (k + 1)).any fun c => mayK c && decide (hashK c = a)) := aside (by rw [HQS.out, ← HQ.out]; rfl)
          clear HQ HQS HOI heq I7 B7
          go_wp2_with (first | go_skip)
          go_roundw
          case rel => exact ⟨k + 1, z1, true, by omega, by go_num, rfl, rfl, HP2, HQ2, c7⟩
          case measure => simp [intOf]; omega
        | false =>
          by_cases hn0 : ni = 0
          · obtain ⟨z2, hz2⟩ : ∃ z, decide (hi = a) = z := ⟨_, rfl⟩
            have HQ2 : Hid (z2 = ((coms l).take (k + 1)).any fun c => mayK c && decide (hashK c = a)) := aside (by rw [HQS.out, ← HQ.out, ← HOI.out, hn0, ← hz2]; simp)
            rw [hz2] at heq
            subst hn0
            clear HQ HQS HOI hz2
            go_wp2_with (first | go_skip | (refine gid _ rfl _ rfl hi I7 rfl ?_) | (refine gid _ rfl _ rfl a B7 rfl ?_))
            go_roundw
            case rel => exact ⟨k + 1, z1, z2, by omega, by go_num, rfl, rfl, HP2, HQ2, c7⟩
            case measure => simp [intOf]; omega
          · have HQ2 : Hid (false = ((coms l).take (k + 1)).any fun c => mayK c && decide (hashK c = a)) := aside (by rw [HQS.out, ← HQ.out, ← HOI.out, decide_eq_false hn0]; rfl)
            clear HQ HQS HOI heq I7 B7
            go_wp2_with (first | go_skip)
            go_roundw
            case rel => exact ⟨k + 1, z1, false, by omega, by go_num, rfl, rfl, HP2, HQ2, c7⟩
            case measure => simp [intOf]; omega
    · obtain rfl : k = l.length := by omega
      have HE : Hid (decide (a ∈ m) = (p && (!q && !decide (a ∈ h)))) := aside (by
        have h1 := HP.out
        have h2 := HQ.out
        rw [List.take_of_length_le (by rw [HLC.out]; omega)] at h1 h2
        rw [HMI.out, ← h1, ← h2])
      have qr := IdV.rises_ret A4 c4 m wr SR
      rw [hri] at qr
      obtain ⟨zm, hzm⟩ : ∃ z, decide (a ∈ m) = z := ⟨_, rfl⟩
      obtain ⟨zh, hzh⟩ : ∃ z, decide (a ∈ h) = z := ⟨_, rfl⟩
      rw [hzm, hzh] at HE
      have HZM := aside hzm
      have HZH := aside hzh
      clear HP HQ HMI hri hzm hzh
      go_wp2_with (first | go_skip)
      refine qr.mono ?_
      rintro e w5 ⟨rfl, k5⟩
      have S5 := SR.below k5
      have B5 := BR.below k5 BR.lt
      have b5 := kb.trans (k5.mono kb.size)
      have qm := IdV.has_ret A4 c4 m a w5 S5
      rw [HZM.out] at qm
      clear qr SR BR kb kc k5
      go_wp2_with (first | go_skip | (refine gid _ rfl _ rfl a B5 rfl ?_))
      refine qm.mono ?_
      rintro e w6 ⟨rfl, k6⟩
      have B6 := B5.below k6 B5.lt
      have b6 := b5.trans (k6.mono b5.size)
      clear qm S5 B5 b5 k6
      cases p with
      | false =>
        obtain rfl : zm = false := by rw [HE.out]; rfl
        clear HE HZM HZH
        go_wp2_with (first | go_skip)
        go_ret
        exact ⟨rfl, b6⟩
      | true =>
        cases q with
        | true =>
          obtain rfl : zm = false := by rw [HE.out]; rfl
          clear HE HZM HZH
          go_wp2_with (first | go_skip)
          go_ret
          exact ⟨rfl, b6⟩
        | false =>
          obtain rfl : zm = !zh := by rw [HE.out]; rfl
          have qn := IdV.has_ret A' cap' h a w6 (T.below b6)
          rw [HZH.out] at qn
          clear HE HZM HZH
          go_wp2_with (first | go_skip | (refine gid _ rfl _ rfl a B6 rfl ?_))
          refine qn.mono ?_
          rintro e w7 ⟨rfl, k7⟩
          have b7 := b6.trans (k7.mono b6.size)
          clear qn
          cases zh with
          | true =>
            go_wp2_with (first | go_skip)
            go_ret
            exact ⟨rfl, b7⟩
          | false =>
            go_wp2_with (first | go_skip)
            go_ret
            exact ⟨rfl, b7⟩
set_option maxRecDepth 100000 in
set_option maxHeartbeats 16000000 in
theorem no_list (Z : Aw) (A A' : Option Addr) (cap cap' : Nat) (l : List Cv) (h : List Idn) (a : Idn) (w : World) (S : SlK w A cap l) (hfl : fewD (coms l) 20 = false) (hK : ShaE.KIn w) :
    Calls Tryd.prog 5 #[.slice A l.length cap, .slice A' h.length cap', .agg (cs a)] w fun e w' => e = .returned (.bool true) ∧ Below w.heap.size w w' := by
  have kb0 := StW.below_alloc w (.cells (cs a) 42)
  have qa := Z _ (hK.below kb0)
  have q1 := fun W S => DgR.few_ret A cap l 20 W S
  rw [hfl] at q1
  have hks := kb0.size
  go_enter Tryd.func5, Tryd.ntmps5
  go_wp2_with (first | go_skip)
  refine qa.mono ?_
  rintro e w1 ⟨rfl, k1⟩
  have b1 := kb0.trans (k1.mono hks)
  clear qa kb0 k1
  go_wp2_with (first | go_skip)
  refine (q1 _ (S.below b1)).mono ?_
  rintro e w2 ⟨rfl, k2⟩
  have b2 := b1.trans (k2.mono b1.size)
  clear q1 b1 k2
  go_wp2_with (first | go_skip)
  go_ret
  exact ⟨rfl, b2⟩
set_option maxRecDepth 100000 in
set_option maxHeartbeats 16000000 in
theorem no_ids (Z : Aw) (A A' : Option Addr) (cap cap' : Nat) (l : List Cv) (h : List Idn) (a : Idn) (w : World) (S : SlK w A cap l) (hfl : fewD (coms l) 20 = true) (hh : 20 < h.length) (hK : ShaE.KIn w) :
    Calls Tryd.prog 5 #[.slice A l.length cap, .slice A' h.length cap', .agg (cs a)] w fun e w' => e = .returned (.bool true) ∧ Below w.heap.size w w' := by
  have kb0 := StW.below_alloc w (.cells (cs a) 42)
  have qa := Z _ (hK.below kb0)
  have q1 := fun W S => DgR.few_ret A cap l 20 W S
  rw [hfl] at q1
  have p0 : (20 : Int) < (h.length : Int) := by omega
  have hks := kb0.size
  go_enter Tryd.func5, Tryd.ntmps5
  go_wp2_with (first | go_skip)
  refine qa.mono ?_
  rintro e w1 ⟨rfl, k1⟩
  have b1 := kb0.trans (k1.mono hks)
  clear qa kb0 k1
  go_wp2_with (first | go_skip)
  refine (q1 _ (S.below b1)).mono ?_
  rintro e w2 ⟨rfl, k2⟩
  have b2 := b1.trans (k2.mono b1.size)
  clear q1 b1 k2
  go_wp2_with (first | go_skip)
  go_ret
  exact ⟨rfl, b2⟩
theorem walk (Z : Aw) (V : Missing1) (A : Option Addr) (cap : Nat) (l : List Cv) (A' : Option Addr) (cap' : Nat) (h : List Idn) (a : Idn) (w : World) (S : SlK w A cap l) (T : SlI w A' cap' h) (hK : ShaE.KIn w) :
    Calls Tryd.prog 5 #[.slice A l.length cap, .slice A' h.length cap', .agg (cs a)] w fun e w' => e = .returned (.bool true) ∧ Below w.heap.size w w' := by
  cases hfl : fewD (coms l) 20 with
  | false => exact no_list Z A A' cap cap' l h a w S hfl hK
  | true =>
    by_cases hh : h.length ≤ 20
    · have hfl2 := hfl
      unfold fewD at hfl2
      rw [Bool.and_eq_true, decide_eq_true_eq, coms_len] at hfl2
      exact within Z V A A' cap cap' l h a w S T (by omega) (fun u hu => List.all_eq_true.1 hfl2.2 _ (List.mem_map_of_mem (f := (·.c)) hu)) hh hK
    · exact no_ids Z A A' cap cap' l h a w S hfl (by omega) hK
end Go.Proofs.YteojkfbnenfmkaaDoor.WtD
