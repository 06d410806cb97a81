/- LogCuts returns true for every input, where the table of constants is as the program's text lays it: of a log that is cut, the records that were whole are read, and no others. No other condition. -/
import Derived.Test.YthdpipllighegaaDoorLogA
import Derived.Test.YthdpipllighegaaDoorLogU
import Derived.Test.YthdpipllighegaaDoorOpenRJ2
import Derived.Test.YthdpipllighegaaDoorShaL
import Derived.Test.YthdpipllighegaaDoorCards
import Derived.Test.YthdpipllighegaaDoorTie
import Derived.ChangeOld
namespace Go.Proofs.YthdpipllighegaaDoor.logCuts
set_option maxRecDepth 100000
open Go Go.Sort Go.ChangeShapes Go.WideShapes Go.ChangeAt Go.RowKit Byt EncM LogM LogD LogE LogB LogA

/-- How many records are whole where a log is cut, and how many bytes their frames have, as far as k records are in it. -/
def Inv (l : List (List Int)) (k want used : Nat) (a : Int) : Prop :=
  want ≤ k ∧ used = (catL (l.take want)).length ∧ (want = 0 ∨ (used : Int) ≤ a) ∧ (want < k → a < ((catL (l.take (want + 1))).length : Int)) ∧ ∀ x ∈ l.take k, x.length ≤ 200 ∧ ∀ y ∈ x, 0 ≤ y ∧ y ≤ 255
theorem Inv.start (l : List (List Int)) (a : Int) : Inv l 0 0 0 a := ⟨Nat.le_refl _, rfl, .inl rfl, fun h => absurd h (by omega), by simp⟩
theorem take_next {l : List (List Int)} {k : Nat} {x : List Int} (h : l[k]? = some x) : l.take (k + 1) = l.take k ++ [x] := by
  rw [List.take_add_one, h]
  rfl
theorem cat_next {l : List (List Int)} {k : Nat} {x : List Int} (h : l[k]? = some x) : catL (l.take (k + 1)) = catL (l.take k) ++ frameL x := by
  rw [take_next h, catL_append, catL_cons, catL_nil, List.append_nil]
theorem Inv.all {l : List (List Int)} {k want used : Nat} {a : Int} {x : List Int} (h : Inv l k want used a) (hx : l[k]? = some x) (h2 : x.length ≤ 200) (h3 : ∀ y ∈ x, 0 ≤ y ∧ y ≤ 255) : ∀ x ∈ l.take (k + 1), x.length ≤ 200 ∧ ∀ y ∈ x, 0 ≤ y ∧ y ≤ 255 := by
  rw [take_next hx]
  intro z hz
  rcases List.mem_append.1 hz with hz | hz
  · exact h.2.2.2.2 z hz
  · rw [List.mem_singleton.1 hz]
    exact ⟨h2, h3⟩
theorem Inv.yes {l : List (List Int)} {k want used n : Nat} {a : Int} {x : List Int} (h : Inv l k want used a) (hx : l[k]? = some x) (h2 : x.length ≤ 200) (h3 : ∀ y ∈ x, 0 ≤ y ∧ y ≤ 255) (hn : (catL (l.take (k + 1))).length = n) (ha : (n : Int) ≤ a) : Inv l (k + 1) (k + 1) n a :=
  ⟨Nat.le_refl _, hn.symm, .inr ha, fun h => absurd h (by omega), h.all hx h2 h3⟩
theorem Inv.no {l : List (List Int)} {k want used n : Nat} {a : Int} {x : List Int} (h : Inv l k want used a) (hx : l[k]? = some x) (h2 : x.length ≤ 200) (h3 : ∀ y ∈ x, 0 ≤ y ∧ y ≤ 255) (hn : (catL (l.take (k + 1))).length = n) (ha : ¬ (n : Int) ≤ a) : Inv l (k + 1) want used a := by
  have hall := h.all hx h2 h3
  obtain ⟨h1, h2, h3, h4, h5⟩ := h
  refine ⟨by omega, h2, h3, fun hw => ?_, hall⟩
  by_cases e : want = k
  · rw [e, hn]
    omega
  · exact h4 (by omega)
theorem cat_short {l : List (List Int)} : ∀ k, (∀ x ∈ l.take k, x.length ≤ 200 ∧ ∀ y ∈ x, 0 ≤ y ∧ y ≤ 255) → k ≤ l.length → (catL (l.take k)).length ≤ 214 * k := by
  intro k
  induction k with
  | zero => intro _ _; simp [catL]
  | succ k ih =>
    intro h hk
    obtain ⟨x, hx⟩ : ∃ x, l[k]? = some x := ⟨_, List.getElem?_eq_getElem (by omega)⟩
    rw [take_next hx] at h
    have := ih (fun y hy => h y (List.mem_append_left _ hy)) (by omega)
    have h2 := (h x (by simp)).1
    have h3 := frameL_len x
    have h4 := numL_ten (n := x.length) (by omega)
    rw [cat_next hx, List.length_append]
    omega
theorem Inv.done {l : List (List Int)} {want used m : Nat} (h : Inv l l.length want used m) : readL ((catL l).take m) = (l.take want, used) ∧ want ≤ l.length ∧ used ≤ m ∧ used ≤ (catL l).length := by
  obtain ⟨h1, h2, h3, h4, h5⟩ := h
  rw [List.take_of_length_le (Nat.le_refl _)] at h5
  have hu : used ≤ m := by
    rcases h3 with h3 | h3
    · rw [h2, h3]; simp [catL]
    · omega
  have e : catL l = catL (l.take want) ++ catL (l.drop want) := by rw [← catL_append, List.take_append_drop]
  have hle : used ≤ (catL l).length := by rw [e, List.length_append]; omega
  refine ⟨?_, h1, hu, hle⟩
  rw [h2]
  exact readL_cut (fun x hx => by have := (h5 x hx).1; omega) h1 (by omega) (fun hw => by have := h4 hw; omega)
theorem tx_take (ps : List Pb) (k : Nat) : tx (ps.take k) = (tx ps).take k := by unfold tx; rw [List.map_take]
def intOf : Value → Int | .int _ q => q | _ => 0
set_option maxRecDepth 100000 in
theorem out (A : Option Addr) (n cap : Nat) (a : Int) (w : World) (h : 10 < n) (hK : ShaE.KIn w) :
    Calls Tryd.prog 4 #[.slice A n cap, .int .i64 a] w fun e w' => e = .returned (.bool true) ∧ Below w.heap.size w w' := by
  have p0 : (10 : Int) < (n : Int) := by omega
  clear h
  go_enter Tryd.func4, Tryd.ntmps4
  go_wp2_with (first | go_skip)
  refine (awake _ hK).mono ?_
  rintro e w1 ⟨rfl, k1⟩
  go_wp2_with (first | go_skip)
  go_ret
  exact ⟨rfl, k1⟩
set_option maxRecDepth 100000 in
set_option maxHeartbeats 16000000 in
theorem within (A : Option Addr) (n cap : Nat) (a : Int) (ps : List Pb) (w : World) (S : SlB w A cap ps) (hn : ps.length = n) (h : n ≤ 10) (hK : ShaE.KIn w) :
    Calls Tryd.prog 4 #[.slice A n cap, .int .i64 a] w fun e w' => e = .returned (.bool true) ∧ Below w.heap.size w w' := by
  have p0 : ¬ (10 : Int) < (n : Int) := by omega
  have HN := aside hn
  go_enter Tryd.func4, Tryd.ntmps4
  go_wp2_with (first | go_skip)
  refine (awake _ hK).mono ?_
  rintro e w1 ⟨rfl, k1⟩
  go_wp2_with (first | go_skip)
  go_loopw [6, 7, 8, 9] (fun v6 v7 v8 i wr => ∃ (k want used : Nat), k ≤ n ∧ v7 = .int .i64 want ∧ v8 = .int .i64 used ∧ i = .int .i64 k ∧ Hid (wr.ownsRow w.heap.size 5 1 v6 (catL ((tx ps).take k)).length (Byt.bv (catL ((tx ps).take k)))) ∧ Hid (Inv (tx ps) k want used a) ∧ Below w.heap.size w wr) (fun _ _ _ i _ => n - (intOf i).toNat)
  case atStart => exact ⟨0, 0, 0, Nat.zero_le _, rfl, rfl, rfl, aside ⟨rfl, .inl ⟨rfl, rfl⟩⟩, aside (Inv.start _ _), k1⟩
  case round =>
    rename World => wr
    obtain ⟨k, want, used, hk, rfl, rfl, rfl, HO, HI, kb⟩ := hrel
    clear k1
    by_cases hlt : k < n
    · obtain ⟨x, hx⟩ : ∃ x, ps[k]? = some x := ⟨_, List.getElem?_eq_getElem (by omega)⟩
      obtain ⟨b, off, rfl, hbw, hc⟩ := S.plain (by omega)
      have cx := (kb.cell (p := ⟨b, off + k, none⟩) hbw).trans (hc k x hx)
      have Sx := (S.each x (List.mem_of_getElem? hx)).below kb
      unfold hd at cx
      have p1 : (k : Int) < (n : Int) := by omega
      have m0 : ((k : Int)).toNat = k := by omega
      have htx := tx_at hx
      have hxB := Sx.bytes
      obtain ⟨X, hX⟩ : ∃ X, x.bs = X := ⟨_, rfl⟩
      rw [hX] at cx Sx htx hxB
      clear hc hbw hx
      by_cases h2 : 200 < X.length
      · have p2 : (200 : Int) < (X.length : Int) := by omega
        clear Sx htx hxB h2
        go_wp2_with (first | go_skip)
        go_ret
        exact ⟨rfl, kb⟩
      · have p2 : ¬ (200 : Int) < (X.length : Int) := by omega
        have q := frame_yes Sx rfl (by omega) (hK.below kb)
        have hcn := cat_next htx
        have hsh := cat_short k HI.out.2.2.2.2 (by rw [tx_len]; omega)
        have hfl := frameL_len X
        have hten := numL_ten (n := X.length) (by omega)
        have hall := HI.out.all htx (by omega) hxB
        obtain ⟨F, hF⟩ : ∃ F, frameL X = F := ⟨_, rfl⟩
        rw [hF] at q hcn hfl
        obtain ⟨Bk, hBk⟩ : ∃ Bk, catL ((tx ps).take k) = Bk := ⟨_, rfl⟩
        rw [hBk] at hcn hsh HO
        obtain ⟨N, hN⟩ : ∃ N, (Bk ++ F).length = N := ⟨_, rfl⟩
        have hBl : (catL ((tx ps).take (k + 1))).length = N := by rw [hcn, hN]
        have HY := fun (ha : (N : Int) ≤ a) => aside (HI.out.yes htx (by omega) hxB hBl ha)
        have HZ := fun (ha : ¬ (N : Int) ≤ a) => aside (HI.out.no htx (by omega) hxB hBl ha)
        have hN2 : Bk.length + F.length = N := by rw [← hN, List.length_append]
        have hB : ∀ y ∈ Bk ++ F, Byt.B y := by
          rw [← hcn]
          intro y hy
          obtain ⟨z, hz, hy⟩ := List.mem_flatMap.1 hy
          exact LogC.frame_B (hall z hz).2 y hy
        have e1 : ((k + 1 : Nat) : Int) = (k : Int) + 1 := by omega
        have HCN := aside hcn
        have hB2 : Bk.length + F.length ≤ 1099511627900 := by omega
        clear hF hBk hall hcn hten hfl HI htx hxB h2 hBl hX
        go_wp2_with (first | go_skip)
        refine q.mono ?_
        rintro e w2 ⟨A2, c2, rfl, S2, k2⟩
        simp only [] at S2
        have O2 := aside (owns_below HO.out k2)
        have b2 := kb.trans (k2.mono kb.size)
        have bs2 := b2.size
        clear q HO kb k2
        have fin : ∀ (v3 : Value) (w3 : World), w3.ownsRow w.heap.size 5 1 v3 (Bk.length + F.length) (Byt.bv (Bk ++ F)) → ∃ A3 c3, v3 = .slice A3 N c3 ∧ Hid (w3.ownsRow w.heap.size 5 1 (.slice A3 N c3) (catL ((tx ps).take (k + 1))).length (Byt.bv (catL ((tx ps).take (k + 1))))) := fun v3 w3 o => by
          rw [hN2, ← hN] at o
          obtain ⟨A3, c3, rfl, _⟩ := Sl.own o hB
          rw [hN] at o
          refine ⟨A3, c3, by rw [hN], aside ?_⟩
          rw [HCN.out, hN]
          exact o
        clear hN2 hN hB HCN
        by_cases ha : (N : Int) ≤ a
        · have HQ := HY (by omega)
          clear HY HZ
          go_wp2_with (first | go_skip | (refine wpList_append_sl rfl (.tmp 46) (.tmp 47) 22 rfl w.heap.size 5 Tryd.underlying22 zero_u8 _ Bk.length Bk rfl O2.out A2 F.length c2 F rfl rfl S2 hB2 bs2 ?_; intro v3 w3 own3 g3; have b3 := below_grown b2 bs2 g3 (fun q hq => (O2.out.lt q hq).1); obtain ⟨A3, c3, rfl, O3⟩ := fin v3 w3 own3; clear own3 g3 O2 b2 bs2 fin))
          go_roundw
          case rel => exact ⟨k + 1, k + 1, N, by omega, by rw [e1], rfl, by rw [e1], O3, HQ, b3⟩
          case measure => simp [intOf]; omega
        · have HQ := HZ (by omega)
          clear HY HZ
          go_wp2_with (first | go_skip | (refine wpList_append_sl rfl (.tmp 46) (.tmp 47) 22 rfl w.heap.size 5 Tryd.underlying22 zero_u8 _ Bk.length Bk rfl O2.out A2 F.length c2 F rfl rfl S2 hB2 bs2 ?_; intro v3 w3 own3 g3; have b3 := below_grown b2 bs2 g3 (fun q hq => (O2.out.lt q hq).1); obtain ⟨A3, c3, rfl, O3⟩ := fin v3 w3 own3; clear own3 g3 O2 b2 bs2 fin))
          go_roundw
          case rel => exact ⟨k + 1, want, used, by omega, rfl, rfl, by rw [e1], O3, HQ, b3⟩
          case measure => simp [intOf]; omega
    · obtain rfl : k = n := by omega
      have p1 : ¬ (k : Int) < (k : Int) := by omega
      have hI := HI.out
      have hsh := cat_short k hI.2.2.2.2 (by rw [tx_len]; omega)
      rw [List.take_of_length_le (by rw [tx_len]; omega)] at hsh HO
      have hI2 : Inv (tx ps) (tx ps).length want used a := by rw [tx_len, hn]; exact hI
      have hCB : ∀ y ∈ catL (tx ps), Byt.B y := by
        intro y hy
        obtain ⟨z, hz, hy⟩ := List.mem_flatMap.1 hy
        refine LogC.frame_B (hI.2.2.2.2 z ?_).2 y hy
        rw [List.take_of_length_le (by rw [tx_len]; omega)]
        exact hz
      obtain ⟨A1, c1, rfl, T1⟩ := Sl.own HO.out hCB
      clear HO hI HI
      by_cases ha : a < 0
      · clear hI2 T1 hCB hsh
        go_wp2_with (first | go_skip)
        go_ret
        exact ⟨rfl, kb⟩
      obtain ⟨m, rfl⟩ : ∃ m : Nat, a = m := ⟨a.toNat, by omega⟩
      obtain ⟨d1, d2, d3, d4⟩ := hI2.done
      obtain ⟨N, hN⟩ : ∃ N, (catL (tx ps)).length = N := ⟨_, rfl⟩
      rw [hN] at hsh d4
      simp only [hN]
      have p2 : ¬ (m : Int) < 0 := by omega
      by_cases hb : N < m
      · have p3 : (N : Int) < (m : Int) := by omega
        clear hI2 T1 hCB hsh d1 d2 d3 d4
        go_wp2_with (first | go_skip)
        go_ret
        exact ⟨rfl, kb⟩
      have p3 : ¬ (N : Int) < (m : Int) := by omega
      have hc1 := T1.1
      rw [hN] at hc1
      obtain ⟨A2, c2, hs2, S2, hl2⟩ := T1.part 0 m (by omega) (by omega)
      have hr2 := fun W => run_part_h W A1 N c1 .i64 m (by omega)
      rw [hs2] at hr2
      obtain ⟨A3, c3, hs3, S3, hl3⟩ := T1.part 0 used (by omega) (by omega)
      have hr3 := fun W => run_part_h W A1 N c1 .i64 used (by omega)
      rw [hs3] at hr3
      obtain ⟨A4, c4, hs4, S4, hl4⟩ := S.front want (by rw [tx_len] at d2; exact d2)
      have hr4 := fun W => run_front W A k cap .i64 want (by have := S.room; rw [tx_len] at d2; omega)
      rw [hs4] at hr4
      simp only [List.drop_zero, Nat.sub_zero] at S2 S3 hl2 hl3 hr2 hr3
      have hU : mendL ((catL (tx ps)).take m) = (catL (tx ps)).take used := by
        unfold mendL
        rw [d1, List.take_take, Nat.min_eq_left d3]
      have etx : tx (ps.take want) = (tx ps).take want := tx_take ps want
      have q1 := fun W (T : Sl W A2 c2 ((catL (tx ps)).take m)) (K : ShaE.KIn W) => LogR.read_ret T hl2 (by omega) K
      have q2 := fun W (T : Sl W A2 c2 ((catL (tx ps)).take m)) (K : ShaE.KIn W) => LogR.mend_ret T hl2 (by omega) K
      rw [d1] at q1
      rw [hU] at q2
      obtain ⟨X, hX⟩ : ∃ X, (catL (tx ps)).take m = X := ⟨_, rfl⟩
      obtain ⟨U, hU2⟩ : ∃ U, (catL (tx ps)).take used = U := ⟨_, rfl⟩
      rw [hX] at q1 q2 S2 hl2
      rw [hU2] at q2 S3 hl3
      have tU : ((strOf U).toList == (strOf U).toList) = true := by simp
      have tu : ((used : Int) == (used : Int)) = true := by simp
      have g0 : 0 ≤ (m : Int) := by omega
      have g1 : (m : Int) ≤ (c1 : Int) := by omega
      have g2 : 0 ≤ (used : Int) := by omega
      have g3 : (used : Int) ≤ (c1 : Int) := by omega
      clear hI2 T1 hCB hsh hs2 hs3 hs4 hU hX hU2 d1 d2 d3 d4 hN ha
      go_wp2_with (first | go_skip)
      refine (q1 _ S2 (hK.below kb)).mono ?_
      rintro e w2 ⟨A5, c5, qs, rfl, hqs, S5, k2⟩
      have b2 := kb.trans (k2.mono kb.size)
      have T2 := S2.below k2
      have T3 := S3.below k2
      have qe := LogU.same_ret S5 (S4.below b2) rfl hl4
      rw [hqs, etx, decide_eq_true rfl] at qe
      clear q1 S2 S3 k2 kb S5
      go_wp2_with (first | go_skip)
      refine qe.mono ?_
      rintro e w3 ⟨rfl, k3⟩
      have b3 := b2.trans (k3.mono b2.size)
      have S2 := T2.below k3
      have S3 := T3.below k3
      clear qe T2 T3 k3 b2
      go_wp2_with (first | go_skip)
      refine Grow.region [(0, true), (1, true), (2, true), (3, true), (4, true), (5, true), (6, true), (7, true), (8, true), (9, true), (12, true), (13, true), (14, true), (15, true), (10, false), (11, true), (16, true), (17, true), (18, true)] (by kernel_rfl) (by kernel_rfl) rfl (by kernel_rfl) (by intro c a d v w h; cases d <;> exact h) ?_
      change Grow.Seq _ _ _ _ _ w3.drew
      have dr := Byt.below_drew1 (Below.refl w3.heap.size w3)
      have T2 := S2.below dr
      have T3 := S3.below dr
      have b4 := b3.trans (dr.mono b3.size)
      generalize w3.drew = w4 at T2 T3 b4 ⊢
      clear S2 S3 b3 dr
      have cv3 := fun d os => (T3.below (below_regrown _ d os)).conv hl3
      repeat (refine Grow.reads rfl rfl ?_; go_big_quiet_step (fail); refine wpQuiet_nil ?_)
      clear cv3
      refine Grow.acts rfl ?_
      go_wp2_with (first | go_skip)
      refine (q2 _ T2 (hK.below b4)).mono ?_
      rintro e w5 ⟨A6, c6, rfl, S6, k6, _⟩
      simp only [hl3]
      go_wp2_with (first | go_skip)
      refine ⟨k6, ?_⟩
      have b6 := b4.trans (k6.mono b4.size)
      have cv6 := fun d os => (S6.below (below_regrown _ d os)).conv hl3
      repeat (refine Grow.reads rfl rfl ?_; go_big_quiet_step (fail); refine wpQuiet_nil ?_)
      clear cv6
      refine Grow.ends ?_
      go_wp2_with (first | go_skip)
      go_ret
      exact ⟨rfl, b6⟩
theorem walk (a0 : Option Addr) (cap0 : Nat) (l0 : List Pb) (a1 : Int) (w : World) (w0 : SlB w a0 cap0 l0) (_ : (Lit.int .i64 a1).wf = true) (hK : ShaE.KIn w) :
    Calls Tryd.prog 4 #[.slice a0 l0.length cap0, .int .i64 a1] w fun e w' => e = .returned (.bool true) ∧ Below w.heap.size w w' := by
  by_cases h : 10 < l0.length
  · exact out a0 _ cap0 a1 w h hK
  · exact within a0 _ cap0 a1 l0 w w0 rfl (by omega) hK

theorem own : ownKnob Tryd.prog.godebug = none := by kernel_rfl
theorem laidOut : laidOutB Tryd.prog = true := by kernel_rfl
set_option linter.unusedVariables false in
set_option maxRecDepth 100000 in
theorem lifted (os : Os) (started : os.Started) (H : Type) (enc : TypeId × Value → H) :
    ReturnsInHanded {} Tryd.checked os 4 .any (fun w args => (Rows.logCutsSpec.pre enc Tryd.prog Tryd.f4 [] false w args ∧ laidMetH Tryd.prog ShaL.laid1 w) ∧ sizedMet enc Tryd.prog Tryd.f4 (OpenSpec.ofChange Rows.logCutsSpec) false w args)
      (Rows.logCutsSpec.post enc Tryd.prog Tryd.f4 false true false false) := by
  refine returnsInHanded_of_change_and (C := Tryd.checked) (X := fun w _ => laidMetH Tryd.prog ShaL.laid1 w) (fun _ _ _ hh h => h.of_heap hh) own started (by kernel_rfl) Tryd.func4
    (ChangeSpec.witness_shaped (enc := enc) (C := Tryd.checked) (os := os) (X := fun w _ => laidMetH Tryd.prog ShaL.laid1 w) false (World.doorLaid Tryd.prog 14 os) #[.slice none 0 0, .int .i64 0] 8 rfl (World.shaped_of_RefB (by kernel_rfl) (by kernel_rfl)) (by kernel_rfl) (by kernel_rfl) (by kernel_rfl) (ShaL.door_met os _)) ?_
  intro W base args ds gs before hval0 hW _ _ hL _
  have hval : ∀ (j : Nat) t v, Tryd.f4.params[j]? = some t → args[j]? = some v → Value.okWide Tryd.prog W .any base t v := hval0
  have hW' := hW
  obtain ⟨p, q, hA0, hV, rfl, hfz, hnd⟩ := hW
  have hA : DataW.TrodAll enc Tryd.prog W 0 (fun _ => true) true Tryd.f4.params.toList args.toList ds p := hA0
  rw [Tryd.params4] at hA hval
  obtain ⟨v0, vs0, d0, ds0, p0, q0, hargs, rfl, rfl, h0, r0⟩ := trodAll_cons hA
  obtain ⟨v1, vs1, d1, ds1, p1, q1, rfl, rfl, rfl, h1, r1⟩ := trodAll_cons r0
  obtain ⟨rfl, rfl, rfl⟩ := trodAll_nil r1
  obtain rfl : args = #[v0, v1] := by cases args; simp_all
  obtain ⟨rfl, rfl⟩ := trodVars_none hV
  have k0 := h0
  have lt0 : ∀ x ∈ p0, x.block < W.heap.size := by obtain ⟨m, hm⟩ := k0; exact DataW.trod_lt m _ _ _ hm
  obtain ⟨a0, cap0, l0, rfl, w0⟩ := OpenB.open_bb (hval 0 27 v0 rfl rfl) h0
  obtain ⟨a1, rfl, rfl, rfl, w1⟩ := open_int Tryd.underlying3 (hval 1 3 v1 rfl rfl) h1
  clear hA0 hval0
  refine (walk a0 cap0 l0 a1 W w0 w1 (ShaL.of_laid hL)).mono fun e W' ⟨he, bel⟩ => ?_
  subst he
  exact ⟨_, rfl, _, _, _, [], _, [], hW', trodAll_mk1 (shut_bool Tryd.underlying4 _), (trodAll_cons_mk (Below.trod laidOut (by kernel_rfl) (of_decide_eq_true (by kernel_rfl)) k0 bel lt0) (trodAll_cons_mk (shut_int Tryd.underlying3 w1) trodAll_mk0)), rfl, bel.frame _, fun h => by cases h⟩

theorem over : Rows.logCutsRow.holds Tryd.pinned (OpenSpec.ofChange Rows.logCutsSpec) :=
  OpenClaim.holds_of_wide 4 Tryd.f4 rfl rfl rfl rfl rfl rfl rfl ⟨rfl, rfl, rfl, rfl, rfl⟩ rfl rfl rfl rfl rfl (by kernel_rfl) Tryd.func4 (by kernel_rfl)
    (of_decide_eq_true (by kernel_rfl)) (by unfold Func.isWrapper; first | (rw [if_pos (by decide +kernel)]; kernel_rfl) | (rw [if_neg (by decide +kernel)]; exact ⟨rfl, rfl⟩))
    (fun os started H enc _ => lifted os started H enc)

theorem proved : Rows.LogCutsCardSaid :=
  Claim7.holds_tied_plain_at .later [] Rows.logCutsCard.laidKinds true Rows.logCutsCard.stood.harness Rows.logCutsCard.stood.looks
    over (fun _ h => by cases h) (by kernel_rfl) (fun _ h => by cases h) logCuts_row_tie rfl ⟨rfl, rfl⟩ (by kernel_rfl) rfl
    (fun f fn hf hfn => by
      obtain rfl : f = 4 := Option.some.inj ((show Tryd.prog.funcNamed Rows.logCutsRow.func = some 4 by kernel_rfl).symm.trans hf) |>.symm
      obtain rfl : fn = Tryd.f4 := (Option.some.inj (Tryd.func4.symm.trans hfn)).symm
      exact ⟨by kernel_rfl, fun j t ht => by
        rw [Tryd.params4] at ht
        have hm : t ∈ [27, 3] := by simpa using Array.mem_of_getElem? ht
        have hall : ([27, 3].all fun u => !Tryd.prog.wantsStandIn u) = true := by kernel_rfl
        exact (show Tryd.prog.wantsStandIn t = false by simpa using List.all_eq_true.1 hall t hm)⟩)
    (by kernel_rfl)
end Go.Proofs.YthdpipllighegaaDoor.logCuts
