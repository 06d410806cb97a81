/- What the functions of package pair return: contracts. | What package state's event, May and Same return: contracts. -/
import Derived.Test.YtnjdkjkihbgkaaaGreatPairOJ4
import Derived.Test.YtnjdkjkihbgkaaaGreatPairJJ3
import Derived.Test.YtnjdkjkihbgkaaaGreatPairY
import Derived.Test.YtnjdkjkihbgkaaaGreatStRJ2
import Derived.Test.YtnjdkjkihbgkaaaGreatCtrDJ2
import Derived.Test.YtnjdkjkihbgkaaaGreatRegHJ3
namespace Go.Proofs.YtnjdkjkihbgkaaaGreat.PairD
set_option maxRecDepth 100000
open Go Go.RowKit Byt OpsM OpsK Rise PairM PairN RowS RowB PairW PairS PairX PairB PairK PairT PairJ Txt PairQ

theorem less_ret (a b : Pr) (w : World) : Calls Tryz.prog 82 #[.agg (pc a), .agg (pc b)] w fun e w' => e = .returned (.bool (lessP a b)) ∧ Below w.heap.size w w' := PairV.less_below a b w
theorem may_ret (A : Option Addr) (cap : Nat) (l : List Pr) (w : World) (S : SlR E w A cap l) (hf : Fits l) (hl : l.length ≤ 1000000) :
    Calls Tryz.prog 42 #[.slice A l.length cap] w fun e w' => e = .returned (.bool (mayP l)) ∧ Below w.heap.size w w' := PairV.may_ret A cap l w S hf hl

theorem none_ret {l : List Pr} {w w' : World} (h : l = []) (k : Below w.heap.size w w') : NewS E l w (.returned (.slice none 0 0)) w' := by
  subst h
  exact ⟨none, 0, rfl, SlR.nil E _, k⟩
theorem new0 (w : World) : (Instr.makeMap 105 none).run Tryz.prog w = .ok (.map (some w.heap.size)) (w.alloc (.map #[] 0)) := by
  simp [Instr.makeMap, go_sem]
def zer : Pr → Int := fun _ => 0
/-- The bits that three lists leave. -/
theorem bits_are (base a b : List Pr) (x : Pr) : noted 4 (noted 2 (noted 1 zer base) a) b x = (if x ∈ base then 1 else 0) + (if x ∈ a then 2 else 0) + (if x ∈ b then 4 else 0) := by
  unfold noted zer
  by_cases h0 : x ∈ base <;> by_cases h1 : x ∈ a <;> by_cases h2 : x ∈ b <;> simp [h0, h1, h2]
theorem bits_in {base a b : List Pr} (m0 : mayP base = true) (m1 : mayP a = true) (m2 : mayP b = true) (x : Pr) : x ∈ mergeP base a b ↔ x ∈ (([] ++ base) ++ a) ++ b ∧ stB (noted 4 (noted 2 (noted 1 zer base) a) b x) = true := by
  rw [merge_mem m0 m1 m2, bits_are]
  unfold inM
  simp only [List.nil_append, List.mem_append]
  by_cases h0 : x ∈ base <;> by_cases h1 : x ∈ a <;> by_cases h2 : x ∈ b <;> simp [h0, h1, h2, stB]
theorem low1 (x : Pr) : 0 ≤ zer x ∧ zer x < 1 := by unfold zer; omega
theorem low2 (base : List Pr) (x : Pr) : 0 ≤ noted 1 zer base x ∧ noted 1 zer base x < 2 := by
  unfold noted zer
  split <;> omega
theorem low4 (base a : List Pr) (x : Pr) : 0 ≤ noted 2 (noted 1 zer base) a x ∧ noted 2 (noted 1 zer base) a x < 4 := by
  unfold noted zer
  split <;> split <;> omega
theorem low8 (base a b : List Pr) (x : Pr) : 0 ≤ noted 4 (noted 2 (noted 1 zer base) a) b x ∧ noted 4 (noted 2 (noted 1 zer base) a) b x < 8 := by
  rw [bits_are]
  split <;> split <;> split <;> omega

set_option maxRecDepth 100000 in
set_option maxHeartbeats 8000000 in
theorem merge_none (A0 : Option Addr) (c0 : Nat) (l0 : List Pr) (A1 : Option Addr) (c1 : Nat) (l1 : List Pr) (A2 : Option Addr) (c2 : Nat) (l2 : List Pr) (w : World) (S0 : SlR E w A0 c0 l0) (S1 : SlR E w A1 c1 l1) (S2 : SlR E w A2 c2 l2) (f0 : Fits l0) (f1 : Fits l1) (f2 : Fits l2) (b0 : l0.length ≤ 200000) (b1 : l1.length ≤ 200000) (b2 : l2.length ≤ 200000)
    (h : mayP l0 = false ∨ (mayP l0 = true ∧ mayP l1 = false) ∨ (mayP l0 = true ∧ mayP l1 = true ∧ mayP l2 = false)) :
    Calls Tryz.prog 53 #[.slice A0 l0.length c0, .slice A1 l1.length c1, .slice A2 l2.length c2] w (NewS E [] w) := by
  have q0 := may_ret A0 c0 l0 w S0 f0 (by omega)
  have q1 := fun W S => may_ret A1 c1 l1 W S f1 (by omega)
  have q2 := fun W S => may_ret A2 c2 l2 W S f2 (by omega)
  rcases h with m0 | ⟨m0, m1⟩ | ⟨m0, m1, m2⟩
  · rw [m0] at q0
    clear m0
    go_enter Tryz.func53, Tryz.ntmps53
    go_wp2_with fail
    refine q0.mono ?_
    rintro e w1 ⟨rfl, k1⟩
    go_wp2_with (first | go_skip)
    go_ret
    exact none_ret rfl k1
  · rw [m0] at q0
    rw [m1] at q1
    clear m0 m1
    go_enter Tryz.func53, Tryz.ntmps53
    go_wp2_with fail
    refine q0.mono ?_
    rintro e w1 ⟨rfl, k1⟩
    have T1 := S1.below k1
    go_wp2_with fail
    refine (q1 _ T1).mono ?_
    rintro e w2 ⟨rfl, h2⟩
    have k2 := k1.trans (h2.mono k1.size)
    clear T1 h2 k1
    go_wp2_with (first | go_skip)
    go_ret
    exact none_ret rfl k2
  · rw [m0] at q0
    rw [m1] at q1
    rw [m2] at q2
    clear m0 m1 m2
    go_enter Tryz.func53, Tryz.ntmps53
    go_wp2_with fail
    refine q0.mono ?_
    rintro e w1 ⟨rfl, k1⟩
    have T1 := S1.below k1
    go_wp2_with fail
    refine (q1 _ T1).mono ?_
    rintro e w2 ⟨rfl, h2⟩
    have k2 := k1.trans (h2.mono k1.size)
    have T2 := S2.below k2
    clear T1 h2 k1
    go_wp2_with fail
    refine (q2 _ T2).mono ?_
    rintro e w3 ⟨rfl, h3⟩
    have k3 := k2.trans (h3.mono k2.size)
    clear T2 h3 k2
    go_wp2_with (first | go_skip)
    go_ret
    exact none_ret rfl k3
set_option maxRecDepth 100000 in
set_option maxHeartbeats 8000000 in
theorem merge_yes (A0 : Option Addr) (c0 : Nat) (l0 : List Pr) (A1 : Option Addr) (c1 : Nat) (l1 : List Pr) (A2 : Option Addr) (c2 : Nat) (l2 : List Pr) (w : World) (S0 : SlR E w A0 c0 l0) (S1 : SlR E w A1 c1 l1) (S2 : SlR E w A2 c2 l2) (f0 : Fits l0) (f1 : Fits l1) (f2 : Fits l2) (b0 : l0.length ≤ 200000) (b1 : l1.length ≤ 200000) (b2 : l2.length ≤ 200000)
    (m0 : mayP l0 = true) (m1 : mayP l1 = true) (m2 : mayP l2 = true) :
    Calls Tryz.prog 53 #[.slice A0 l0.length c0, .slice A1 l1.length c1, .slice A2 l2.length c2] w (NewS E (mergeP l0 l1 l2) w) := by
  have q0 := may_ret A0 c0 l0 w S0 f0 (by omega)
  have q1 := fun W S => may_ret A1 c1 l1 W S f1 (by omega)
  have q2 := fun W S => may_ret A2 c2 l2 W S f2 (by omega)
  have HMR := aside (ris (merge_may m0 m1 m2))
  have HG := aside (bits_in m0 m1 m2)
  obtain ⟨R, hR⟩ : ∃ R, mergeP l0 l1 l2 = R := ⟨_, rfl⟩
  rw [hR] at HMR HG ⊢
  rw [m0] at q0
  rw [m1] at q1
  rw [m2] at q2
  clear m0 m1 m2 hR
  go_enter Tryz.func53, Tryz.ntmps53
  go_wp2_with fail
  refine q0.mono ?_
  rintro e w1 ⟨rfl, k1⟩
  have T1 := S1.below k1
  go_wp2_with fail
  refine (q1 _ T1).mono ?_
  rintro e w2 ⟨rfl, h2⟩
  have k2 := k1.trans (h2.mono k1.size)
  have T2 := S2.below k2
  clear T1 h2 k1 q1 q0
  go_wp2_with fail
  refine (q2 _ T2).mono ?_
  rintro e w3 ⟨rfl, h3⟩
  have k3 := k2.trans (h3.mono k2.size)
  clear T2 h3 k2 q2
  have hs3 := k3.size
  have hmm := new0 w3
  go_wp2_with fail
  have k4 := k3.alloc hs3 (.map #[] 0)
  have kg := fun (w' : World) (h : (w3.alloc (.map #[] 0)).grownBy w' (some w3.heap.size)) => below_grown k4 k4.size h (fun j hj => by cases hj; exact hs3)
  refine (note_ret w3.heap.size 0 [] zer A0 c0 l0 1 _ (NumIn.made w3) (S0.below k4) f0 (.inl rfl) low1 (by omega) (by omega)).mono ?_
  rintro e w5 ⟨rfl, n5, g5⟩
  have k5 := kg w5 g5
  go_wp2_with fail
  refine (note_ret w3.heap.size _ _ _ A1 c1 l1 2 w5 n5 (S1.below k5) f1 (.inr (.inl rfl)) (low2 l0) (by omega) (by omega)).mono ?_
  rintro e w6 ⟨rfl, n6, g6⟩
  have k6 := kg w6 (g5.trans g6)
  go_wp2_with fail
  refine (note_ret w3.heap.size _ _ _ A2 c2 l2 4 w6 n6 (S2.below k6) f2 (.inr (.inr rfl)) (low4 l0 l1) (by omega) (by omega)).mono ?_
  rintro e w7 ⟨rfl, n7, g7⟩
  have k7 := kg w7 ((g5.trans g6).trans g7)
  clear g5 g6 g7 n5 n6 k5 k6 k4 k3 kg
  go_wp2_with fail
  refine (staying_ret w3.heap.size _ _ _ R w7 n7 (by omega) (low8 l0 l1 l2) HMR.out HG.out).mono ?_
  rintro e w8 h8
  obtain ⟨A8, c8, rfl, S8, k8⟩ := h8.s
  have k9 := k7.trans (k8.mono k7.size)
  clear k7 k8 n7 h8
  go_wp2_with fail
  go_ret
  exact ⟨A8, c8, rfl, S8, k9⟩
theorem merge_ret (A0 : Option Addr) (c0 : Nat) (l0 : List Pr) (A1 : Option Addr) (c1 : Nat) (l1 : List Pr) (A2 : Option Addr) (c2 : Nat) (l2 : List Pr) (w : World) (S0 : SlR E w A0 c0 l0) (S1 : SlR E w A1 c1 l1) (S2 : SlR E w A2 c2 l2) (f0 : Fits l0) (f1 : Fits l1) (f2 : Fits l2) (b0 : l0.length ≤ 200000) (b1 : l1.length ≤ 200000) (b2 : l2.length ≤ 200000) :
    Calls Tryz.prog 53 #[.slice A0 l0.length c0, .slice A1 l1.length c1, .slice A2 l2.length c2] w (NewS E (mergeP l0 l1 l2) w) := by
  cases m0 : mayP l0 with
  | false => rw [merge_no (.inl m0)]; exact merge_none A0 c0 l0 A1 c1 l1 A2 c2 l2 w S0 S1 S2 f0 f1 f2 b0 b1 b2 (.inl m0)
  | true =>
    cases m1 : mayP l1 with
    | false => rw [merge_no (.inr (.inl m1))]; exact merge_none A0 c0 l0 A1 c1 l1 A2 c2 l2 w S0 S1 S2 f0 f1 f2 b0 b1 b2 (.inr (.inl ⟨m0, m1⟩))
    | true =>
      cases m2 : mayP l2 with
      | false => rw [merge_no (.inr (.inr m2))]; exact merge_none A0 c0 l0 A1 c1 l1 A2 c2 l2 w S0 S1 S2 f0 f1 f2 b0 b1 b2 (.inr (.inr ⟨m0, m1, m2⟩))
      | true => exact merge_yes A0 c0 l0 A1 c1 l1 A2 c2 l2 w S0 S1 S2 f0 f1 f2 b0 b1 b2 m0 m1 m2

/-- One more is what comes of pairs, and of it, from nothing. -/
theorem add_merge (l : List Pr) (p : Pr) : mergeP [] l [p] = addP l p := by
  cases h1 : mayP l with
  | false => rw [merge_no (.inr (.inl h1)), add_no (.inl h1)]
  | true =>
    cases h2 : oneP p with
    | false => rw [merge_no (.inr (.inr (by rw [may_one]; exact h2))), add_no (.inr h2)]
    | true =>
      have m2 : mayP [p] = true := by rw [may_one]; exact h2
      refine (merge_is may_nil h1 m2 (ris (add_may l p)) (fun x => ?_)).symm
      rw [add_mem h1 h2]
      unfold inM
      by_cases hx : x = p
      · subst hx
        by_cases hl : x ∈ l <;> simp [hl]
      · by_cases hl : x ∈ l <;> simp [hx, hl]
set_option maxRecDepth 100000 in
set_option maxHeartbeats 4000000 in
theorem add_ret (A : Option Addr) (cap : Nat) (l : List Pr) (p : Pr) (w : World) (S : SlR E w A cap l) (hf : Fits l) (hp : Fit p) (hl : l.length ≤ 200000) :
    Calls Tryz.prog 70 #[.slice A l.length cap, .agg (pc p)] w (NewS E (addP l p) w) := by
  have Z : Below w.heap.size w (w.alloc (.cells (pc p) 63)) := below_alloc _ _
  have N : Box E (w.alloc (.cells (pc p) 63)) w.heap.size p := Box.new w p _
  have S0 := S.below Z
  have cm := fun (C : Option Addr) (c : Nat) (W : World) (S : SlR E W A cap l) (T : SlR E W C c [p]) => merge_ret none 0 [] A cap l C c [p] W (SlR.nil E W) S T (fun x hx => by simp at hx) hf (fits_one hp) (by simp) hl (by simp)
  rw [add_merge] at cm
  have hcap := S.1
  obtain ⟨R, hR⟩ : ∃ R, addP l p = R := ⟨_, rfl⟩
  rw [hR] at cm ⊢
  have hz := Z.size
  clear S hf hp hR
  go_enter Tryz.func70, Tryz.ntmps70
  go_wp2_with (first
    | (refine wpList_load_box E rfl _ rfl _ rfl p N ?_)
    | (refine RowC.wpList_lit1 E (of_decide_eq_true rfl) rfl _ rfl p rfl ?_; intro w1 T1 k1; have S1 := S0.below k1; have k2 := Z.trans (k1.mono hz)))
  have T2 : SlR E w1 (some ⟨w.heap.size + 1, 0, none⟩) 1 [p] := by
    have e : (w.alloc (.cells (pc p) 63)).heap.size = w.heap.size + 1 := by simp
    rw [e] at T1
    exact T1
  have h := cm _ _ _ S1 T2
  refine h.mono ?_
  rintro e w3 ⟨A3, c3, rfl, S3, k3⟩
  have k4 := k2.trans (k3.mono k2.size)
  clear cm h N S0 S1 T1 T2 k1 k2 k3
  go_wp2_with fail
  go_ret
  exact ⟨A3, c3, rfl, S3, k4⟩
theorem del_ret (A : Option Addr) (cap : Nat) (l : List Pr) (k e : ByteArray) (w : World) (S : SlR E w A cap l) (hf : Fits l) (_hk : k.size ≤ 100) (_he : e.size ≤ 100) (hl : l.length ≤ 200000) :
    Calls Tryz.prog 72 #[.slice A l.length cap, .string k, .string e] w (NewS E (delP l k e) w) := PairY.del_ret A cap l k e w S hf hl
theorem elems_ret (A : Option Addr) (cap : Nat) (l : List Pr) (k : ByteArray) (w : World) (S : SlR E w A cap l) (_hf : Fits l) (_hk : k.size ≤ 100) (hl : l.length ≤ 200000) :
    Calls Tryz.prog 19 #[.slice A l.length cap, .string k] w (NewT (elemsP l k) w) := PairY.elems_ret A cap l k w S hl
end Go.Proofs.YtnjdkjkihbgkaaaGreat.PairD
namespace Go.Proofs.YtnjdkjkihbgkaaaGreat.StE
set_option maxRecDepth 100000
open Go Go.RowKit Byt OpsM Rise RowS StM StW StR

set_option maxHeartbeats 4000000 in
theorem event_ret (v : Ev) (w : World) : Calls Tryz.prog 25 #[.agg (ec v)] w fun e w' => e = .returned (.bool (eventB v.node v.seq)) ∧ Below w.heap.size w w' := by
  have R : Cel.Box EE (w.alloc (.cells (ec v) 30)) w.heap.size v := Cel.Box.new w v _
  have kb := below_alloc w (.cells (ec v) 30)
  obtain ⟨c0, c1⟩ := ev_cells R
  clear R
  obtain ⟨r, hr⟩ : ∃ r, eventB v.node v.seq = r := ⟨_, rfl⟩
  have hn : r = eventB v.node v.seq := hr.symm
  rw [hr]
  unfold eventB at hn
  clear hr
  obtain ⟨n, hnn⟩ : ∃ n, v.node = n := ⟨_, rfl⟩
  obtain ⟨s, hs⟩ : ∃ s, v.seq = s := ⟨_, rfl⟩
  rw [hnn] at c0 hn
  rw [hs] at c1 hn
  clear hnn hs
  have HN := aside hn
  clear hn
  have hw : ¬ 0 ≤ n ∨ (0 ≤ n ∧ (¬ n < 8 ∨ (n < 8 ∧ (¬ 1 ≤ s ∨ 1 ≤ s)))) := by omega
  rcases hw with p2 | ⟨p2, p3 | ⟨p3, p4 | p4⟩⟩
  · have HR : Hid (r = false) := aside (by rw [HN.out]; simp; omega)
    clear HN
    go_enter Tryz.func25, Tryz.ntmps25
    go_wp2
    go_ret
    exact ⟨StW.ret_bool HR.out.symm, kb⟩
  · have HR : Hid (r = false) := aside (by rw [HN.out]; simp; omega)
    clear HN
    go_enter Tryz.func25, Tryz.ntmps25
    go_wp2
    go_ret
    exact ⟨StW.ret_bool HR.out.symm, kb⟩
  · have HR : Hid (r = false) := aside (by rw [HN.out]; simp; omega)
    clear HN
    go_enter Tryz.func25, Tryz.ntmps25
    go_wp2
    go_ret
    exact ⟨StW.ret_bool HR.out.symm, kb⟩
  · have HR : Hid (r = decide (s ≤ 1048576)) := aside (by rw [HN.out]; simp [p2, p3, p4])
    clear HN
    go_enter Tryz.func25, Tryz.ntmps25
    go_wp2
    go_ret
    exact ⟨StW.ret_bool HR.out.symm, kb⟩

set_option maxRecDepth 100000 in
set_option maxHeartbeats 4000000 in
theorem may_ret (v : Sv) (w : World) (S : In w v) (hf : Fits v.s) (hl : Len 1000 v.s) : Calls Tryz.prog 12 #[.agg (sc v)] w fun e w' => e = .returned (.bool (mayS v.s)) ∧ Below w.heap.size w w' := by
  have R : Cel.Box SE (w.alloc (.cells (sc v) 26)) w.heap.size v := Cel.Box.new w v _
  have kb := below_alloc w (.cells (sc v) 26)
  have S0 := S.below kb
  obtain ⟨c0, _, _⟩ := box_cells R
  have q0 := fun W T => CtrD.may_ret v.a0 v.k0 v.s.c W T hf.c (by have := hl.c; omega)
  have q1 := fun W T => RegD.may_ret v.a1 v.k1 v.s.r W T hf.r hl.r
  have q2 := fun W T => PairD.may_ret v.a2 v.k2 v.s.p W T hf.p (by have := hl.p; omega)
  obtain ⟨x, hx⟩ : ∃ x, CtrM.mayC v.s.c = x := ⟨_, rfl⟩
  obtain ⟨y, hy⟩ : ∃ y, RegM.mayR v.s.r = y := ⟨_, rfl⟩
  obtain ⟨z, hz⟩ : ∃ z, PairM.mayP v.s.p = z := ⟨_, rfl⟩
  have HR : Hid (mayS v.s = (x && (y && z))) := aside (by unfold mayS; rw [hx, hy, hz])
  rw [hx] at q0
  rw [hy] at q1
  rw [hz] at q2
  clear S hf hl hx hy hz
  go_enter Tryz.func12, Tryz.ntmps12
  go_wp2_with (first | go_skip)
  refine (q0 _ S0.c).mono ?_
  rintro e w1 ⟨rfl, k1⟩
  have R1 := R.below k1
  have S1 := S0.below k1
  have b1 := kb.trans (k1.mono kb.size)
  clear q0 c0 R S0 k1 kb
  obtain ⟨_, c1, _⟩ := box_cells R1
  cases x with
  | false =>
    go_wp2_with (first | go_skip)
    go_ret
    exact ⟨StW.ret_bool HR.out.symm, b1⟩
  | true =>
    go_wp2_with (first | go_skip)
    refine (q1 _ S1.r).mono ?_
    rintro e w2 ⟨rfl, k2⟩
    have R2 := R1.below k2
    have S2 := S1.below k2
    have b2 := b1.trans (k2.mono b1.size)
    clear q1 c1 R1 S1 k2 b1
    obtain ⟨_, _, c2⟩ := box_cells R2
    cases y with
    | false =>
      go_wp2_with (first | go_skip)
      go_ret
      exact ⟨StW.ret_bool HR.out.symm, b2⟩
    | true =>
      go_wp2_with (first | go_skip)
      refine (q2 _ S2.p).mono ?_
      rintro e w3 ⟨rfl, k3⟩
      have b3 := b2.trans (k3.mono b2.size)
      clear q2 c2 R2 S2 k3 b2
      go_wp2_with (first | go_skip)
      go_ret
      exact ⟨StW.ret_bool HR.out.symm, b3⟩

set_option maxRecDepth 100000 in
set_option maxHeartbeats 4000000 in
theorem same_ret (u v : Sv) (w : World) (S : In w u) (T : In w v) : Calls Tryz.prog 17 #[.agg (sc u), .agg (sc v)] w fun e w' => e = .returned (.bool (sameS u.s v.s)) ∧ Below w.heap.size w w' := by
  have R : Cel.Box SE ((w.alloc (.cells (sc u) 26)).alloc (.cells (sc v) 26)) w.heap.size u := (Cel.Box.new (E := SE) w u 26).alloc _
  have Q : Cel.Box SE ((w.alloc (.cells (sc u) 26)).alloc (.cells (sc v) 26)) (w.heap.size + 1) v := by
    have z : (w.alloc (.cells (sc u) 26)).heap.size = w.heap.size + 1 := by simp
    rw [← z]
    exact Cel.Box.new _ v _
  have kb : Below w.heap.size w ((w.alloc (.cells (sc u) 26)).alloc (.cells (sc v) 26)) := ((Below.refl _ _).alloc (Nat.le_refl _) _).alloc (by simp) _
  have S0 := S.below kb
  have T0 := T.below kb
  obtain ⟨c0, _, _⟩ := box_cells R
  obtain ⟨d0, _, _⟩ := box_cells Q
  have q0 := fun W S T => StV.equal_c u.a0 u.k0 u.s.c v.a0 v.k0 v.s.c W S T
  have q1 := fun W S T => StV.equal_r u.a1 u.k1 u.s.r v.a1 v.k1 v.s.r W S T
  have q2 := fun W S T => StV.equal_p u.a2 u.k2 u.s.p v.a2 v.k2 v.s.p W S T
  obtain ⟨x, hx⟩ : ∃ x, CtrS.sameB u.s.c v.s.c = x := ⟨_, rfl⟩
  obtain ⟨y, hy⟩ : ∃ y, RegS.sameB u.s.r v.s.r = y := ⟨_, rfl⟩
  obtain ⟨z, hz⟩ : ∃ z, PairS.sameB u.s.p v.s.p = z := ⟨_, rfl⟩
  have HR : Hid (sameS u.s v.s = (x && (y && z))) := aside (by unfold sameS; rw [hx, hy, hz])
  rw [hx] at q0
  rw [hy] at q1
  rw [hz] at q2
  clear S T hx hy hz
  go_enter Tryz.func17, Tryz.ntmps17
  go_wp2_with (first | go_skip)
  refine (q0 _ S0.c T0.c).mono ?_
  rintro e w1 ⟨rfl, k1⟩
  have R1 := R.below k1
  have Q1 := Q.below k1
  have S1 := S0.below k1
  have T1 := T0.below k1
  have b1 := kb.trans (k1.mono kb.size)
  clear q0 c0 d0 R Q S0 T0 k1 kb
  obtain ⟨_, c1, _⟩ := box_cells R1
  obtain ⟨_, d1, _⟩ := box_cells Q1
  cases x with
  | false =>
    go_wp2_with (first | go_skip)
    go_ret
    exact ⟨StW.ret_bool HR.out.symm, b1⟩
  | true =>
    go_wp2_with (first | go_skip)
    refine (q1 _ S1.r T1.r).mono ?_
    rintro e w2 ⟨rfl, k2⟩
    have R2 := R1.below k2
    have Q2 := Q1.below k2
    have S2 := S1.below k2
    have T2 := T1.below k2
    have b2 := b1.trans (k2.mono b1.size)
    clear q1 c1 d1 R1 Q1 S1 T1 k2 b1
    obtain ⟨_, _, c2⟩ := box_cells R2
    obtain ⟨_, _, d2⟩ := box_cells Q2
    cases y with
    | false =>
      go_wp2_with (first | go_skip)
      go_ret
      exact ⟨StW.ret_bool HR.out.symm, b2⟩
    | true =>
      go_wp2_with (first | go_skip)
      refine (q2 _ S2.p T2.p).mono ?_
      rintro e w3 ⟨rfl, k3⟩
      have b3 := b2.trans (k3.mono b2.size)
      clear q2 c2 d2 R2 Q2 S2 T2 k3 b2
      go_wp2_with (first | go_skip)
      go_ret
      exact ⟨StW.ret_bool HR.out.symm, b3⟩
end Go.Proofs.YtnjdkjkihbgkaaaGreat.StE
