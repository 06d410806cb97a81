/- What the project's Part of package dag returns, where known answers as the document does. No condition. | What the project's Front, Join, Head, Base of package front return, where known does as it must: contracts. No condition. | Contracts of package ids as premises; slices of ids cut on both sides. No condition. | EvalThree's walk, over contracts: the state of what two lists know together is what their states come to that come from the state of what both know. No condition. -/
import Derived.Test.YtgmdhaepiclkcaaGreatDoorDhCJ3
import Derived.Test.YtgmdhaepiclkcaaGreatDoorIdTJ6
import Derived.Test.YtgmdhaepiclkcaaGreatDoorDgTJ19
import Derived.Test.YtgmdhaepiclkcaaGreatDoorEaAJ12
import Derived.Test.YtgmdhaepiclkcaaGreatDoorEaWJ12
import Derived.Test.YtgmdhaepiclkcaaGreatDoorStL
import Derived.Test.YtgmdhaepiclkcaaGreatDoorLayCompSJ7
namespace Go.Proofs.YtgmdhaepiclkcaaGreatDoor.DhB
set_option maxRecDepth 100000
open Go Go.Sort Go.RowKit Byt IdM IdW IdK IdS OpsM OpsW CmM StW CmW CmX CmY CmA DgM DgW DgR DgX DgY DgI DgF DhO DhP DhT DhK DhC DhA
open Classical

/-- Copies whose parents lie in memory, and not in the block that the slice owns. -/
structure Held (w : World) (v : Value) (us : List Cv) : Prop where
  each : ∀ u ∈ us, In w u ∧ CmW.Fit u.c
  far : ∀ u ∈ us, u.c.ps ≠ [] → ∀ b off sp, u.a = some ⟨b, off, sp⟩ → v.ownBlock ≠ some b
theorem Held.nil (w : World) (v : Value) : Held w v [] := ⟨fun u h => by simp at h, fun u h => by simp at h⟩
theorem Held.below {w w' : World} {v : Value} {us : List Cv} (h : Held w v us) (hb : Below w.heap.size w w') : Held w' v us := ⟨fun u hu => ⟨(h.each u hu).1.below hb, (h.each u hu).2⟩, h.far⟩
theorem Held.snoc {w : World} {v : Value} {us : List Cv} {u : Cv} (h : Held w v us) (hi : In w u) (hf : CmW.Fit u.c) (hr : ∀ b off sp, u.a = some ⟨b, off, sp⟩ → v.ownBlock ≠ some b) : Held w v (us ++ [u]) := by
  refine ⟨fun x hx => ?_, fun x hx hp => ?_⟩
  · rcases List.mem_append.1 hx with hx | hx
    · exact h.each x hx
    · rw [List.mem_singleton.1 hx]; exact ⟨hi, hf⟩
  · rcases List.mem_append.1 hx with hx | hx
    · exact h.far x hx hp
    · rw [List.mem_singleton.1 hx]; exact hr
theorem ids_other {w w' : World} {A : Option Addr} {cap : Nat} {l : List Idn} {g : Option Nat} (S : SlI w A cap l) (hg : w.grownBy w' g) (hf : l ≠ [] → ∀ b off sp, A = some ⟨b, off, sp⟩ → g ≠ some b) : SlI w' A cap l ∧ (l ≠ [] → ∀ b off sp, A = some ⟨b, off, sp⟩ → b < w.heap.size) := by
  obtain ⟨h1, h2, h5⟩ := S
  rcases h5 with ⟨rfl, rfl, rfl⟩ | ⟨x, rfl, hc⟩
  · exact ⟨⟨h1, h2, .inl ⟨rfl, rfl, rfl⟩⟩, fun h => absurd rfl h⟩
  · refine ⟨⟨h1, h2, .inr ⟨x, rfl, fun i hi => ?_⟩⟩, fun hl b off sp e => ?_⟩
    · have hcell := hc i hi
      have hlt := block_lt_of_cell hcell
      have hne : some (x.add i).block ≠ g := fun e => hf (fun e => by rw [e] at hi; simp [flat] at hi) x.block x.off x.spot (by cases x; rfl) (by rw [← e, RowIn.block_add])
      unfold World.cell? at hcell ⊢
      rw [hg.block _ hlt hne]
      exact hcell
    · have hlen : 0 < (flat l).length := by
        rw [flat_length]
        have := List.length_pos_iff.2 hl
        omega
      have := block_lt_of_cell (hc 0 hlen)
      rw [RowIn.block_add] at this
      injection e with e
      rw [e] at this
      exact this
theorem Held.grown {w w' : World} {v v' : Value} {us : List Cv} (h : Held w v us) (hg : w.grownBy w' v.ownBlock) (hv : v'.ownBlock = v.ownBlock ∨ v'.ownBlock = some w.heap.size) : Held w' v' us := by
  refine ⟨fun u hu => ⟨(ids_other (h.each u hu).1 hg (h.far u hu)).1, (h.each u hu).2⟩, fun u hu hp b off sp e => ?_⟩
  rcases hv with hv | hv
  · rw [hv]; exact h.far u hu hp b off sp e
  · rw [hv]
    have := (ids_other (h.each u hu).1 hg (h.far u hu)).2 hp b off sp e
    intro e2
    injection e2 with e2
    omega
/-- A slice of one commit, made. -/
theorem build_com {w : World} {ops : Array Oper} {rest : List Oper} {o : Oper} {a : Act} {Q : Exit → Act → World → Prop} (hgd : o.guard = none) (x : Operand) (ho : o.op = .buildSlice 22 1 #[(0, x)])
    (y : Cv) (hx : a.eval x = .agg (cc y)) (h : ∀ w1, RowB.Box KE w1 w.heap.size y → Below w.heap.size w w1 → wpList Tryz.prog ops Q rest (a.put o.dst (.slice (some ⟨w.heap.size, 0, none⟩) 1 1)) w1) : wpList Tryz.prog ops Q (o :: rest) a w :=
  RowC.wpList_build1 KE (of_decide_eq_true rfl) hgd x ho y hx (h _ (RowB.Box.new w y _) ((Below.refl _ _).alloc (Nat.le_refl _) _))
theorem coms_snoc (l : List Cv) (x : Cv) : coms (l ++ [x]) = coms l ++ [x.c] := by unfold coms; rw [List.map_append]; rfl
set_option maxRecDepth 100000 in
set_option maxHeartbeats 32000000 in
theorem part_ret (X : KnownRet) (A A' : Option Addr) (cap cap' : Nat) (l : List Cv) (a : List Idn) (w : World) (S : SlK w A cap l) (T : SlI w A' cap' a) (hl : l.length ≤ 1500000000000) (ha : a.length ≤ 1000) (hK : ShaE.KIn w) :
    Calls Tryz.prog 42 #[.slice A l.length cap, .slice A' a.length cap'] w (NewC (partC (coms l) a) w) := by
  have hmax := S.len
  unfold NewC
  go_enter Tryz.func42, Tryz.ntmps42
  go_wp2_with (first | go_skip)
  refine (ids_ret A cap l w S hl hK).mono ?_
  rintro e w1 ⟨A1, c1, rfl, T1, k1⟩
  go_wp2_with (first | go_skip)
  refine (X A A1 cap c1 l _ w1 (S.below k1) T1 rfl hl).mono ?_
  rintro e w2 ⟨mo, b, rfl, hb, hv, k2⟩
  have b2 := k1.trans (k2.mono k1.size)
  by_cases C : Closed hashK (coms l)
  · rw [decide_eq_true C] at hb
    subst hb
    obtain ⟨mb, rfl, _, _⟩ := hv rfl
    have hfew : l.length ≤ 8388608 := by
      have := DgL.closed_few C
      rwa [coms_len] at this
    have hps : ∀ v ∈ l, v.c.ps.length ≤ 1500000000000 := fun v hv => by
      have := (lineB_iff.1 (mayK_iff.1 (C.may v.c (List.mem_map_of_mem hv))).1).2.2.1
      omega
    have hall : (coms l).all mayK = true := List.all_eq_true.2 fun c hc => C.may c hc
    have hid : idsD (coms l) = (coms l).map hashK := by rw [idsD, if_pos hall]
    have hil : ((coms l).map hashK).length = l.length := by rw [List.length_map, coms_len]
    have T2 := T1.below k2
    rw [hid] at T2
    obtain ⟨own, hown⟩ : ∃ own, (coms l).map hashK = own := ⟨_, rfl⟩
    rw [hown] at T2 hil
    have HR : Hid (partC (coms l) a = (coms l).filter fun c => decide (hashK c ∈ a)) := aside (by rw [partC, if_pos C]; exact List.filter_congr fun c _ => decide_eq_decide.2 Iff.rfl)
    have HID := aside (hid.trans hown)
    have HIL := aside hil
    have HOWN := aside hown
    have HT2 := aside T2
    have HSB := aside (S.below b2)
    have HTB := aside (T.below b2)
    have hmm := make_set
    have S0 := aside (SetIn.made w2)
    have kb := StW.below_alloc w2 (.map #[] 0)
    have HPS := aside hps
    clear C hall hid hil hown hv T1 T2 hps
    go_wp2_with (first | go_skip)
    go_loopw [29] (fun i wr => ∃ k : Nat, k ≤ a.length ∧ i = .int .i64 k ∧ Hid (SetIn wr w2.heap.size k (a.take k)) ∧ Below w2.heap.size w2 wr) (fun i _ => a.length - (intOf i).toNat)
    case atStart => exact ⟨0, Nat.zero_le _, rfl, S0, kb⟩
    case round =>
      clear S0 kb
      obtain ⟨k, hk, rfl, S3, kb⟩ := hrel
      by_cases hlt : k < a.length
      · obtain ⟨ba, oa, rfl, _, hra⟩ := SlI.plain HTB.out (by omega)
        obtain ⟨x, hx⟩ : ∃ x, a[k]? = some x := ⟨_, List.getElem?_eq_getElem hlt⟩
        have rx := IdW.range_below (hra k hlt) kb
        have hgx : a.getD k nought = x := by rw [List.getD_eq_getElem?_getD, hx]; rfl
        rw [hgx] at rx
        have p0 : (k : Int) < a.length := by omega
        have m0 : ((k : Int)).toNat = k := by omega
        have HG := aside hgx
        clear hra hx hgx
        go_wp2_with (first | go_skip | (refine wpList_load_id rfl _ rfl _ _ rfl x rx ?_) | (refine IdJ.wpList_alloc_id rfl rfl ?_) | (refine CmG.wpList_store_id rfl _ _ rfl wr nought _ rfl x _ rfl rfl rfl ?_; intro w3 I3 k3 s3; have b3 := kb.trans (k3.mono kb.size); have S4 := aside (SetIn.below S3.out k3); clear s3 S3 kb) | (refine wpList_load_id rfl _ rfl _ _ rfl x I3.range ?_) | (refine IdK.wpList_put _ rfl _ _ _ rfl w2.heap.size k _ rfl S4.out (by omega) x rfl rfl ?_; intro w4 S5 g4))
        go_roundw
        case rel =>
          refine ⟨k + 1, by omega, by go_num, aside (S5.congr fun z => ?_), below_grown b3 b3.size g4 (fun q hq => by cases hq; exact Nat.le_refl _)⟩
          rw [← HG.out]
          exact mem_take_succ hlt z
        case measure => simp [intOf]; omega
      · obtain rfl : k = a.length := by omega
        rw [List.take_length] at S3
        clear HTB
        go_wp2_with (first | go_skip)
        go_loopw [11, 38] (fun o i wq => ∃ (k : Nat) (us : List Cv), k ≤ l.length ∧ us.length ≤ k ∧ i = .int .i64 k ∧ Hid (coms us = ((coms l).take k).filter fun c => decide (hashK c ∈ a)) ∧ Hid (wq.ownsRow wr.heap.size 47 8 o us.length (RowS.flat KE us)) ∧ Hid (Held wq o us) ∧ Below wr.heap.size wr wq) (fun _ i _ => l.length - (intOf i).toNat)
        case atStart => exact ⟨0, [], Nat.zero_le _, Nat.zero_le _, rfl, aside rfl, aside ⟨rfl, .inl ⟨rfl, rfl⟩⟩, aside (Held.nil _ _), Below.refl _ _⟩
        case round =>
          rename World => wq
          obtain ⟨k, us, hk, hnk, rfl, HU, HO, HH, kc⟩ := hrel
          by_cases hlt : k < l.length
          · obtain ⟨b, off, rfl, hbw, hrg⟩ := HSB.out.plain (by omega)
            obtain ⟨x, hx⟩ : ∃ x, l[k]? = some x := ⟨_, List.getElem?_eq_getElem hlt⟩
            have rx := range_on (range_on (hrg k x hx) kb) kc
            have hxm := List.mem_of_getElem? hx
            have IX := ((HSB.out.each x hxm).1.below kb).below kc
            have FX := aside (HSB.out.each x hxm).2
            have hcp := fun W (I : In W x) => copied_ret x W I (HPS.out x hxm)
            obtain ⟨ba, oa, rfl, _, hra⟩ := SlI.plain HT2.out (by rw [HIL.out]; omega)
            have ra := IdW.range_below (IdW.range_below (hra k (by rw [HIL.out]; exact hlt)) kb) kc
            obtain ⟨h, hh⟩ : ∃ h, hashK x.c = h := ⟨_, rfl⟩
            have hget : own.getD k nought = h := by rw [← HOWN.out, List.getD_eq_getElem?_getD, List.getElem?_map, coms_at hx, ← hh]; rfl
            rw [hget] at ra
            have p0 : (k : Int) < l.length := by omega
            have m0 : ((k : Int)).toNat = k := by omega
            have HP := aside (filter_next (fun c => decide (hashK c ∈ a)) (coms_at hx))
            have S4 := aside (SetIn.below S3.out kc)
            rw [hh] at HP
            have q0 : (k : Int) < (idsD (coms l)).length := by rw [HID.out, HIL.out]; exact p0
            clear hrg hra hx hh hget hxm
            by_cases hin : h ∈ a
            · have hif : (if h ∈ a then (1 : Int) else 0) = 1 := if_pos hin
              have HP2 : Hid (((coms l).take (k + 1)).filter (fun c => decide (hashK c ∈ a)) = coms us ++ [x.c]) := aside (by rw [HP.out, if_pos (decide_eq_true hin), HU.out])
              clear HP hin
              go_wp2_with (first | go_skip | (refine load_at rfl _ rfl _ _ rfl x rx ?_) | (refine Cel.wpList_store_new CE rfl _ _ rfl wq _ _ rfl x _ rfl rfl rfl rfl ?_; intro w5 D5 k5 g5 s5; have b5 := kc.trans (k5.mono kc.size); have O5 := aside (owns_below HO.out k5); have H5 := aside (HH.out.below k5); have r5 := IdW.range_below ra k5; have S5 := aside (SetIn.below S4.out k5); have IX5 := CmW.In.below IX k5; clear g5 s5) | (refine wpList_load_id rfl _ rfl _ _ rfl h r5 ?_) | (refine IdK.wpList_find _ rfl _ _ rfl w2.heap.size _ a rfl S5.out h rfl ?_; rw [hif]) | (refine Cel.wpList_load_box CE rfl _ rfl _ rfl x D5 ?_))
              refine (hcp _ IX5).mono ?_
              rintro e w6 ⟨u, rfl, hu, IU, k6, hfar⟩
              have b6 := b5.trans (k6.mono b5.size)
              have O6 := aside (owns_below O5.out k6)
              have H6 := H5.out.below k6
              have hlt6 : ∀ q, Value.ownBlock _ = some q → q < w5.heap.size := fun q hq => (O5.out.lt q hq).2
              have HH6 := aside (H6.snoc IU (fit_of hu FX.out) (fun b off sp e e2 => by
                have h1 := hfar b off sp e
                have h2 := hlt6 b e2
                omega))
              have HU6 := aside (show coms (us ++ [u]) = _ from (coms_snoc us u).trans ((congrArg (fun c => coms us ++ [c]) hu).trans HP2.out.symm))
              clear H6 hlt6 hfar HP2 O5 H5 hcp
              go_wp2_with (first | go_skip | (refine build_com rfl _ rfl u rfl ?_; intro w7 B7 k7; have b7 := b6.trans (k7.mono b6.size); have O7 := aside (owns_below O6.out k7); have H7 := aside (HH6.out.below k7)) | (refine RowB.wpList_append_at KE rfl (.tmp 50) (.tmp 53) rfl wr.heap.size _ us.length us rfl O7.out _ u rfl B7 (by omega) b7.size ?_; intro v8 w8 o8 g8 e8))
              have b8 : Below wr.heap.size wr w8 := below_grown b7 b7.size g8 (fun q hq => (O7.out.lt q hq).1)
              have H8 := aside (H7.out.grown g8 e8)
              go_roundw
              case rel => exact ⟨k + 1, us ++ [u], by omega, by simp; omega, by go_num, HU6, aside (by rw [List.length_append]; exact o8), H8, b8⟩
              case measure => simp [intOf]; omega
            · have hif : (if h ∈ a then (1 : Int) else 0) = 0 := if_neg hin
              have HP2 := aside (show coms us = ((coms l).take (k + 1)).filter (fun c => decide (hashK c ∈ a)) by rw [HP.out, if_neg (by simpa using hin), HU.out, List.append_nil])
              clear HP hin
              go_wp2_with (first | go_skip | (refine load_at rfl _ rfl _ _ rfl x rx ?_) | (refine Cel.wpList_store_new CE rfl _ _ rfl wq _ _ rfl x _ rfl rfl rfl rfl ?_; intro w5 D5 k5 g5 s5; have b5 := kc.trans (k5.mono kc.size); have O5 := aside (owns_below HO.out k5); have H5 := aside (HH.out.below k5); have r5 := IdW.range_below ra k5; have S5 := aside (SetIn.below S4.out k5); have IX5 := CmW.In.below IX k5; clear g5 s5) | (refine wpList_load_id rfl _ rfl _ _ rfl h r5 ?_) | (refine IdK.wpList_find _ rfl _ _ rfl w2.heap.size _ a rfl S5.out h rfl ?_; rw [hif]) | (refine Cel.wpList_load_box CE rfl _ rfl _ rfl x D5 ?_))
              go_roundw
              case rel => exact ⟨k + 1, us, by omega, by omega, by go_num, HP2, O5, H5, b5⟩
              case measure => simp [intOf]; omega
          · obtain rfl : k = l.length := by omega
            have HO2 := HO.out
            have HU2 := HU.out
            rw [List.take_of_length_le (by rw [coms_len]; omega), ← HR.out] at HU2
            obtain ⟨A6, c6, rfl, R6⟩ := own_in HO2 HH.out.each
            have HU3 := aside HU2
            clear HO HO2 HU HU2 HH
            go_wp2_with (first | go_skip)
            go_ret
            exact ⟨A6, c6, us, rfl, R6, HU3.out, b2.trans ((kb.trans (kc.mono kb.size)).mono b2.size)⟩
  · rw [decide_eq_false C] at hb
    subst hb
    have HC := aside C
    clear C hv
    go_wp2_with (first | go_skip)
    go_ret
    rw [partC, if_neg HC.out]
    exact ⟨none, 0, [], rfl, SlK.nil _, rfl, b2⟩
end Go.Proofs.YtgmdhaepiclkcaaGreatDoor.DhB
namespace Go.Proofs.YtgmdhaepiclkcaaGreatDoor.FrC
set_option maxRecDepth 100000
open Go Go.Sort Go.RowKit Byt IdM IdW OpsM OpsW CmM StW CmW CmX CmY CmA DgM DgX DgW DgR DgC DgF DgG FrM FrN FrH FrU FrI FrK FrV DhA
open Classical

theorem anc_few (l : List Com) (a : List Idn) : (ancC l a).length ≤ l.length := by
  unfold ancC
  by_cases C : Closed hashK l
  · rw [if_pos C]
    exact FrU.anc_short C a
  · rw [if_neg C]
    exact Nat.zero_le _
set_option maxRecDepth 100000 in
set_option maxHeartbeats 16000000 in
theorem base_ret (X : KnownRet) (A A1 A2 : Option Addr) (cap cap1 cap2 : Nat) (l : List Cv) (a b : List Idn) (w : World) (S : SlK w A cap l) (T : SlI w A1 cap1 a) (R : SlI w A2 cap2 b) (hl : l.length ≤ 200) (K : ShaE.KIn w) :
    Calls Tryz.prog 18 #[.slice A l.length cap, .slice A1 a.length cap1, .slice A2 b.length cap2] w (NewD (baseC (coms l) a b) w) := by
  have hs1 := anc_few (coms l) a
  have hs2 := anc_few (coms l) b
  rw [coms_len] at hs1 hs2
  have q1 := DhA.anc_ret X A A1 cap cap1 l a w S T (by omega) K
  have q2 := fun W S T K => DhA.anc_ret X A A2 cap cap2 l b W S T (by omega) K
  unfold baseC
  obtain ⟨xs, hxs⟩ : ∃ xs, ancC (coms l) a = xs := ⟨_, rfl⟩
  obtain ⟨ys, hys⟩ : ∃ ys, ancC (coms l) b = ys := ⟨_, rfl⟩
  rw [hxs] at hs1 q1
  rw [hys] at hs2 q2
  rw [hxs, hys]
  have q3 := fun B1 B2 d1 d2 W S T => IdU.common_ret B1 B2 d1 d2 xs ys W S T (by omega) (by omega)
  obtain ⟨M, hM⟩ : ∃ M, common xs ys = M := ⟨_, rfl⟩
  unfold NewI at q3
  rw [hM] at q3 ⊢
  clear hxs hys hs1 hs2 hM
  unfold NewD at q1 q2 ⊢
  go_enter Tryz.func18, Tryz.ntmps18
  go_wp2_with (first | go_skip)
  refine q1.mono ?_
  rintro e w1 ⟨B1, d1, rfl, U, k1⟩
  go_wp2_with (first | go_skip)
  refine (q2 _ (S.below k1) (R.below k1) (K.below k1)).mono ?_
  rintro e w2 ⟨B2, d2, rfl, V, k2⟩
  go_wp2_with (first | go_skip)
  refine (q3 _ _ _ _ _ (U.below k2) V).mono ?_
  rintro e w3 ⟨v3, rfl, o3, k3⟩
  obtain ⟨B3, d3, rfl, Z⟩ := SlI.own o3
  clear o3
  go_wp2_with (first | go_skip)
  go_ret
  exact ⟨B3, d3, rfl, Z, (k1.trans (k2.mono k1.size)).trans (k3.mono (k1.trans (k2.mono k1.size)).size)⟩
end Go.Proofs.YtgmdhaepiclkcaaGreatDoor.FrC
namespace Go.Proofs.YtgmdhaepiclkcaaGreatDoor.DhU
set_option maxRecDepth 100000
open Go Go.Sort Go.RowKit Byt IdM IdW IdX

theorem rising_short {l m : List Idn} (hl : Rising l) (h : ∀ x ∈ l, x ∈ m) : l.length ≤ m.length := by
  have hn := rising_nodup hl
  clear hl
  induction l generalizing m with
  | nil => exact Nat.zero_le _
  | cons x l ih =>
    rw [List.nodup_cons] at hn
    have h1 := ih (m := m.erase x) (fun y hy => by
      have hne : y ≠ x := fun e => hn.1 (by rw [← e]; exact hy)
      exact (List.mem_erase_of_ne hne).2 (h y (List.mem_cons_of_mem _ hy))) hn.2
    have hx := h x (by simp)
    rw [List.length_erase_of_mem hx] at h1
    have := List.length_pos_of_mem hx
    simp only [List.length_cons]
    omega
theorem common_short (a b : List Idn) : (common a b).length ≤ a.length := rising_short (rising_common a b) fun _ h => ((mem_common _ a b).1 h).1
end Go.Proofs.YtgmdhaepiclkcaaGreatDoor.DhU
namespace Go.Proofs.YtgmdhaepiclkcaaGreatDoor.EbH
set_option maxRecDepth 100000
open Go Go.Sort Go.RowKit Byt IdM IdW OpsM OpsW CmM StW CmW CmX CmY CmA DgM DgW DgR DgF DgG FrM FrN FrJ FrH FrU EaM EaN EaH EaW DhU
open Classical

theorem base_of {l : List Com} (C : Closed hashK l) (a b : List Idn) : baseC l a b = common (anc hashK l a) (anc hashK l b) := by rw [baseC, ancC, if_pos C, ancC, if_pos C]
theorem common_few {l : List Com} (C : Closed hashK l) (a b : List Idn) : (common (anc hashK l a) (anc hashK l b)).length ≤ l.length := by
  have h1 : (common (anc hashK l a) (anc hashK l b)).length ≤ (anc hashK l a).length := common_short _ _
  have h2 : (anc hashK l a).length ≤ l.length := by rw [← part_len C]; exact List.length_filter_le _ _
  omega
set_option maxRecDepth 100000 in
set_option maxHeartbeats 32000000 in
theorem walk (E : Two) (X : DhA.KnownRet) (HA : EaA.AwakeRet) (a0 : Option Addr) (cap0 : Nat) (l0 : List Cv) (a1 : Option Addr) (cap1 : Nat) (l1 : List Idn) (a2 : Option Addr) (cap2 : Nat) (l2 : List Idn) (w : World) (S : SlK w a0 cap0 l0) (T : SlI w a1 cap1 l1) (R : SlI w a2 cap2 l2) (K : ShaE.KIn w) :
    Calls Tryz.prog 4 #[.slice a0 l0.length cap0, .slice a1 l1.length cap1, .slice a2 l2.length cap2] w fun e w' => e = .returned (.bool true) ∧ Below w.heap.size w w' := by
  have hmax := S.len
  have hmax1 : l1.length ≤ 9223372036854775807 := by have := T.1; have := T.2.1; unfold maxLen at this; omega
  have hmax2 : l2.length ≤ 9223372036854775807 := by have := R.1; have := R.2.1; unfold maxLen at this; omega
  have HW := aside (wide_all fun v hv => (S.each v hv).2)
  have b := Below.refl w.heap.size w
  go_enter Tryz.func4, Tryz.ntmps4
  have qs := HA _ K
  go_wp2_with (first | go_skip)
  refine qs.mono ?_
  clear qs
  rintro e wx ⟨rfl, kx⟩
  have S' := S.below kx
  have T' := T.below kx
  have R' := R.below kx
  have K' := K.below kx
  have b' := b.trans (kx.mono b.size)
  clear S T R K b kx
  have S := S'
  have T := T'
  have R := R'
  have K := K'
  have b := b'
  clear S' T' R' K' b'
  go_wp2_with (first | go_skip)
  obtain ⟨f, hf⟩ : ∃ f, fewD (coms l0) 10 = f := ⟨_, rfl⟩
  have qs := DgR.few_ret a0 cap0 l0 10 _ S
  rw [hf] at qs
  refine qs.mono ?_
  clear qs
  rintro e w2 ⟨rfl, kx⟩
  have S' := S.below kx
  have T' := T.below kx
  have R' := R.below kx
  have K' := K.below kx
  have b' := b.trans (kx.mono b.size)
  clear S T R K b kx
  have S := S'
  have T := T'
  have R := R'
  have K := K'
  have b := b'
  clear S' T' R' K' b'
  cases f with
  | false =>
    go_wp2_with (first | go_skip)
    go_ret
    exact ⟨rfl, b⟩
  | true =>
    have hw : (20 : Int) < l1.length ∨ (¬ (20 : Int) < l1.length ∧ (20 : Int) < l2.length) ∨ (¬ (20 : Int) < l1.length ∧ ¬ (20 : Int) < l2.length) := by omega
    rcases hw with p1 | ⟨p1, p2⟩ | ⟨p1, p2⟩
    case inl =>
      go_wp2_with (first | go_skip)
      go_ret
      exact ⟨rfl, b⟩
    case inr.inl =>
      go_wp2_with (first | go_skip)
      go_ret
      exact ⟨rfl, b⟩
    case inr.inr =>
      obtain ⟨ho, hl⟩ := okay_few (fun v hv => (S.each v hv).2) hf
      have hl2 : l0.length ≤ 1000 := by omega
      have hl1 : l0.length ≤ 100 := by omega
      have HO := aside ho
      clear ho hf
      have qs0 := DhA.closed_ret X a0 cap0 l0 _ S (by omega) K
      by_cases hC : Closed hashK (coms l0)
      case neg =>
        rw [decide_eq_false hC] at qs0
        go_wp2_with (first | go_skip)
        refine qs0.mono ?_
        rintro e wx ⟨rfl, kx⟩
        clear qs0
        go_wp2_with (first | go_skip)
        go_ret
        exact ⟨rfl, b.trans (kx.mono b.size)⟩
      case pos =>
        rw [decide_eq_true hC] at qs0
        have HC := aside hC
        clear hC
        have qs := qs0
        go_wp2_with (first | go_skip)
        refine qs.mono ?_
        clear qs
        rintro e wx ⟨rfl, kx⟩
        clear qs0
        have S' := S.below kx
        have T' := T.below kx
        have R' := R.below kx
        have K' := K.below kx
        have b' := b.trans (kx.mono b.size)
        clear S T R K b kx
        have S := S'
        have T := T'
        have R := R'
        have K := K'
        have b := b'
        clear S' T' R' K' b'
        have n1 : l1.length ≤ 20 := by omega
        have n2 : l2.length ≤ 20 := by omega
        have hlc := common_few HC.out l1 l2
        rw [coms_len] at hlc
        have hbo := base_of HC.out l1 l2
        obtain ⟨B, hB⟩ : ∃ B, common (anc hashK (coms l0) l1) (anc hashK (coms l0) l2) = B := ⟨_, rfl⟩
        rw [hB] at hlc hbo
        have hBl : B.length ≤ 1000 := by omega
        have HBO := aside hbo
        have HBB := aside hB
        clear hB hbo hlc p1 p2
        have qs := E.at_ a0 a1 cap0 cap1 l0 l1 _ S T hl2 (by omega) K
        rw [at_of HC.out] at qs
        unfold StW.New at qs
        simp only [Option.isSome_some, if_true, Option.getD_some] at qs
        go_wp2_with (first | go_skip)
        refine qs.mono ?_
        clear qs
        rintro e wx ⟨v0, rfl, h0, I0, kx⟩
        have H0 := aside h0
        clear h0
        have S' := S.below kx
        have T' := T.below kx
        have R' := R.below kx
        have K' := K.below kx
        have b' := b.trans (kx.mono b.size)
        clear S T R K b kx
        have S := S'
        have T := T'
        have R := R'
        have K := K'
        have b := b'
        clear S' T' R' K' b'
        go_wp2_with (first | go_skip | (refine Cel.wpList_store_new SE rfl _ _ rfl wx _ _ rfl v0 _ rfl rfl rfl rfl ?_; intro wy B0 ky g4 s4; clear g4 s4))
        have S' := S.below ky
        have T' := T.below ky
        have R' := R.below ky
        have K' := K.below ky
        have I0' := I0.below ky
        have b' := b.trans (ky.mono b.size)
        clear S T R K I0 b ky
        have S := S'
        have T := T'
        have R := R'
        have K := K'
        have I0 := I0'
        have b := b'
        clear S' T' R' K' I0' b'
        have qs := E.at_ a0 a2 cap0 cap2 l0 l2 _ S R hl2 (by omega) K
        rw [at_of HC.out] at qs
        unfold StW.New at qs
        simp only [Option.isSome_some, if_true, Option.getD_some] at qs
        go_wp2_with (first | go_skip)
        refine qs.mono ?_
        clear qs
        rintro e wx ⟨v1, rfl, h1, I1, kx⟩
        have H1 := aside h1
        clear h1
        have S' := S.below kx
        have T' := T.below kx
        have R' := R.below kx
        have K' := K.below kx
        have I0' := I0.below kx
        have B0' := B0.below kx
        have b' := b.trans (kx.mono b.size)
        clear S T R K I0 B0 b kx
        have S := S'
        have T := T'
        have R := R'
        have K := K'
        have I0 := I0'
        have B0 := B0'
        have b := b'
        clear S' T' R' K' I0' B0' b'
        go_wp2_with (first | go_skip | (refine Cel.wpList_store_new SE rfl _ _ rfl wx _ _ rfl v1 _ rfl rfl rfl rfl ?_; intro wy B1 ky g4 s4; clear g4 s4))
        have S' := S.below ky
        have T' := T.below ky
        have R' := R.below ky
        have K' := K.below ky
        have I0' := I0.below ky
        have B0' := B0.below ky
        have I1' := I1.below ky
        have b' := b.trans (ky.mono b.size)
        clear S T R K I0 B0 I1 b ky
        have S := S'
        have T := T'
        have R := R'
        have K := K'
        have I0 := I0'
        have B0 := B0'
        have I1 := I1'
        have b := b'
        clear S' T' R' K' I0' B0' I1' b'
        have qs := FrC.base_ret X a0 a1 a2 cap0 cap1 cap2 l0 l1 l2 _ S T R (by omega) K
        rw [HBO.out] at qs
        go_wp2_with (first | go_skip)
        refine qs.mono ?_
        clear qs
        rintro e wx ⟨A5, c5, rfl, U, kx⟩
        have S' := S.below kx
        have T' := T.below kx
        have R' := R.below kx
        have K' := K.below kx
        have I0' := I0.below kx
        have B0' := B0.below kx
        have I1' := I1.below kx
        have B1' := B1.below kx
        have b' := b.trans (kx.mono b.size)
        clear S T R K I0 B0 I1 B1 b kx
        have S := S'
        have T := T'
        have R := R'
        have K := K'
        have I0 := I0'
        have B0 := B0'
        have I1 := I1'
        have B1 := B1'
        have b := b'
        clear S' T' R' K' I0' B0' I1' B1' b'
        have hz0 : (0 : Nat) + l1.length = l1.length := Nat.zero_add _
        have qs := E.at_ a0 A5 cap0 c5 l0 B _ S U hl2 hBl K
        rw [at_of HC.out] at qs
        unfold StW.New at qs
        simp only [Option.isSome_some, if_true, Option.getD_some] at qs
        go_wp2_with (first | go_skip)
        refine qs.mono ?_
        clear qs
        rintro e wx ⟨v2, rfl, h2, I2, kx⟩
        have H2 := aside h2
        clear h2
        have S' := S.below kx
        have T' := T.below kx
        have R' := R.below kx
        have K' := K.below kx
        have I0' := I0.below kx
        have B0' := B0.below kx
        have I1' := I1.below kx
        have B1' := B1.below kx
        have U' := U.below kx
        have b' := b.trans (kx.mono b.size)
        clear S T R K I0 B0 I1 B1 U b kx
        have S := S'
        have T := T'
        have R := R'
        have K := K'
        have I0 := I0'
        have B0 := B0'
        have I1 := I1'
        have B1 := B1'
        have U := U'
        have b := b'
        clear S' T' R' K' I0' B0' I1' B1' U' b'
        go_wp2_with (first | go_skip | (refine Cel.wpList_store_new SE rfl _ _ rfl wx _ _ rfl v2 _ rfl rfl rfl rfl ?_; intro wy B2 ky g4 s4; clear g4 s4; have T' := T.below ky; have R' := R.below ky) | (refine wpList_append_ids rfl (.const (.slice none 0 0)) (.tmp 67) rfl wy.heap.size _ 0 [] rfl ⟨rfl, .inl ⟨rfl, rfl⟩⟩ a1 l1.length cap1 l1 rfl rfl T' (by omega) (Nat.le_refl _) ?_; intro v8 w8 o8 g8; have k8 := below_grown (Below.refl wy.heap.size wy) (Nat.le_refl _) g8 (fun q hq => by cases hq); have R8 := R'.below k8) | (refine wpList_append_ids rfl (.tmp 68) (.tmp 69) rfl wy.heap.size _ (0 + l1.length) ([] ++ l1) rfl o8 a2 l2.length cap2 l2 rfl rfl R8 (by omega) k8.size ?_; intro v9 w9 o9 g9; have k9 := below_grown k8 k8.size g9 (fun q hq => (o8.lt q hq).1); clear g8 g9 o8 k8 R8))
        clear T' R'
        have S' := S.below ky
        have T' := T.below ky
        have R' := R.below ky
        have K' := K.below ky
        have I0' := I0.below ky
        have B0' := B0.below ky
        have I1' := I1.below ky
        have B1' := B1.below ky
        have U' := U.below ky
        have I2' := I2.below ky
        have b' := b.trans (ky.mono b.size)
        clear S T R K I0 B0 I1 B1 U I2 b ky
        have S := S'
        have T := T'
        have R := R'
        have K := K'
        have I0 := I0'
        have B0 := B0'
        have I1 := I1'
        have B1 := B1'
        have U := U'
        have I2 := I2'
        have b := b'
        clear S' T' R' K' I0' B0' I1' B1' U' I2' b'
        have S' := S.below k9
        have T' := T.below k9
        have R' := R.below k9
        have K' := K.below k9
        have I0' := I0.below k9
        have B0' := B0.below k9
        have I1' := I1.below k9
        have B1' := B1.below k9
        have U' := U.below k9
        have I2' := I2.below k9
        have B2' := B2.below k9
        have b' := b.trans (k9.mono b.size)
        clear S T R K I0 B0 I1 B1 U I2 B2 b k9
        have S := S'
        have T := T'
        have R := R'
        have K := K'
        have I0 := I0'
        have B0 := B0'
        have I1 := I1'
        have B1 := B1'
        have U := U'
        have I2 := I2'
        have B2 := B2'
        have b := b'
        clear S' T' R' K' I0' B0' I1' B1' U' I2' B2' b'
        rw [List.nil_append] at o9
        obtain ⟨A9, c9, rfl, Y⟩ := SlI.own o9
        clear o9 U hz0
        have qs := E.at_ a0 A9 cap0 c9 l0 (l1 ++ l2) _ S Y hl2 (by rw [List.length_append]; omega) K
        rw [at_of HC.out] at qs
        unfold StW.New at qs
        simp only [Option.isSome_some, if_true, Option.getD_some] at qs
        go_wp2_with (first | go_skip)
        refine qs.mono ?_
        clear qs
        rintro e wx ⟨v3, rfl, h3, I3, kx⟩
        have H3 := aside h3
        clear h3
        have S' := S.below kx
        have T' := T.below kx
        have R' := R.below kx
        have K' := K.below kx
        have I0' := I0.below kx
        have B0' := B0.below kx
        have I1' := I1.below kx
        have B1' := B1.below kx
        have I2' := I2.below kx
        have B2' := B2.below kx
        have Y' := Y.below kx
        have b' := b.trans (kx.mono b.size)
        clear S T R K I0 B0 I1 B1 I2 B2 Y b kx
        have S := S'
        have T := T'
        have R := R'
        have K := K'
        have I0 := I0'
        have B0 := B0'
        have I1 := I1'
        have B1 := B1'
        have I2 := I2'
        have B2 := B2'
        have Y := Y'
        have b := b'
        clear S' T' R' K' I0' B0' I1' B1' I2' B2' Y' b'
        go_wp2_with (first | go_skip | (refine Cel.wpList_store_new SE rfl _ _ rfl wx _ _ rfl v3 _ rfl rfl rfl rfl ?_; intro wy B3 ky g4 s4; clear g4 s4; have B2' := B2.below ky; have B0' := B0.below ky; have B1' := B1.below ky) | (refine Cel.wpList_load_box SE rfl _ rfl _ rfl v2 B2' ?_) | (refine Cel.wpList_load_box SE rfl _ rfl _ rfl v0 B0' ?_) | (refine Cel.wpList_load_box SE rfl _ rfl _ rfl v1 B1' ?_))
        clear B2' B0' B1'
        have S' := S.below ky
        have T' := T.below ky
        have R' := R.below ky
        have K' := K.below ky
        have I0' := I0.below ky
        have B0' := B0.below ky
        have I1' := I1.below ky
        have B1' := B1.below ky
        have I2' := I2.below ky
        have B2' := B2.below ky
        have Y' := Y.below ky
        have I3' := I3.below ky
        have b' := b.trans (ky.mono b.size)
        clear S T R K I0 B0 I1 B1 I2 B2 Y I3 b ky
        have S := S'
        have T := T'
        have R := R'
        have K := K'
        have I0 := I0'
        have B0 := B0'
        have I1 := I1'
        have B1 := B1'
        have I2 := I2'
        have B2 := B2'
        have Y := Y'
        have I3 := I3'
        have b := b'
        clear S' T' R' K' I0' B0' I1' B1' I2' B2' Y' I3' b'
        have qs := StL.merge_ret v2 v0 v1 _ I2 I0 I1 (by rw [H2.out]; exact (at_all HC.out HW.out _).2.1) (by rw [H0.out]; exact (at_all HC.out HW.out _).2.1) (by rw [H1.out]; exact (at_all HC.out HW.out _).2.1) (by rw [H2.out]; exact (at_all HC.out HW.out _).2.2.le (by rw [coms_len]; omega)) (by rw [H0.out]; exact (at_all HC.out HW.out _).2.2.le (by rw [coms_len]; omega)) (by rw [H1.out]; exact (at_all HC.out HW.out _).2.2.le (by rw [coms_len]; omega))
        rw [H2.out, H0.out, H1.out, ← HBB.out, merge_at HC.out HW.out] at qs
        unfold StW.New at qs
        simp only [Option.isSome_some, if_true, Option.getD_some] at qs
        refine qs.mono ?_
        clear qs
        rintro e wx ⟨v4, rfl, h4, I4, kx⟩
        have H4 := aside h4
        clear h4
        have S' := S.below kx
        have T' := T.below kx
        have R' := R.below kx
        have K' := K.below kx
        have I0' := I0.below kx
        have B0' := B0.below kx
        have I1' := I1.below kx
        have B1' := B1.below kx
        have I2' := I2.below kx
        have B2' := B2.below kx
        have Y' := Y.below kx
        have I3' := I3.below kx
        have B3' := B3.below kx
        have b' := b.trans (kx.mono b.size)
        clear S T R K I0 B0 I1 B1 I2 B2 Y I3 B3 b kx
        have S := S'
        have T := T'
        have R := R'
        have K := K'
        have I0 := I0'
        have B0 := B0'
        have I1 := I1'
        have B1 := B1'
        have I2 := I2'
        have B2 := B2'
        have Y := Y'
        have I3 := I3'
        have B3 := B3'
        have b := b'
        clear S' T' R' K' I0' B0' I1' B1' I2' B2' Y' I3' B3' b'
        go_wp2_with (first | go_skip | (refine Cel.wpList_store_new SE rfl _ _ rfl wx _ _ rfl v4 _ rfl rfl rfl rfl ?_; intro wy B4 ky g4 s4; clear g4 s4; have B3' := B3.below ky) | (refine CelG.gload SE _ rfl _ rfl v4 B4 rfl ?_) | (refine CelG.gload SE _ rfl _ rfl v3 B3' rfl ?_))
        clear B3'
        have S' := S.below ky
        have T' := T.below ky
        have R' := R.below ky
        have K' := K.below ky
        have I0' := I0.below ky
        have B0' := B0.below ky
        have I1' := I1.below ky
        have B1' := B1.below ky
        have I2' := I2.below ky
        have B2' := B2.below ky
        have Y' := Y.below ky
        have I3' := I3.below ky
        have B3' := B3.below ky
        have I4' := I4.below ky
        have b' := b.trans (ky.mono b.size)
        clear S T R K I0 B0 I1 B1 I2 B2 Y I3 B3 I4 b ky
        have S := S'
        have T := T'
        have R := R'
        have K := K'
        have I0 := I0'
        have B0 := B0'
        have I1 := I1'
        have B1 := B1'
        have I2 := I2'
        have B2 := B2'
        have Y := Y'
        have I3 := I3'
        have B3 := B3'
        have I4 := I4'
        have b := b'
        clear S' T' R' K' I0' B0' I1' B1' I2' B2' Y' I3' B3' I4' b'
        have qs := StE.same_ret v4 v3 _ I4 I3
        rw [H4.out, H3.out, same_self] at qs
        refine qs.mono ?_
        clear qs
        rintro e wx ⟨rfl, kx⟩
        have S' := S.below kx
        have T' := T.below kx
        have R' := R.below kx
        have K' := K.below kx
        have I0' := I0.below kx
        have B0' := B0.below kx
        have I1' := I1.below kx
        have B1' := B1.below kx
        have I2' := I2.below kx
        have B2' := B2.below kx
        have Y' := Y.below kx
        have I3' := I3.below kx
        have B3' := B3.below kx
        have I4' := I4.below kx
        have B4' := B4.below kx
        have b' := b.trans (kx.mono b.size)
        clear S T R K I0 B0 I1 B1 I2 B2 Y I3 B3 I4 B4 b kx
        have S := S'
        have T := T'
        have R := R'
        have K := K'
        have I0 := I0'
        have B0 := B0'
        have I1 := I1'
        have B1 := B1'
        have I2 := I2'
        have B2 := B2'
        have Y := Y'
        have I3 := I3'
        have B3 := B3'
        have I4 := I4'
        have B4 := B4'
        have b := b'
        clear S' T' R' K' I0' B0' I1' B1' I2' B2' Y' I3' B3' I4' B4' b'
        go_wp2_with (first | go_skip | (refine CelG.gload SE _ rfl _ rfl v3 B3 rfl ?_))
        have qs := StE.may_ret v3 _ I3 (by rw [H3.out]; exact (at_all HC.out HW.out _).2.1) (by rw [H3.out]; exact (at_all HC.out HW.out _).2.2.le (by rw [coms_len]; omega))
        rw [H3.out, (at_all HC.out HW.out _).1] at qs
        refine qs.mono ?_
        clear qs
        rintro e wx ⟨rfl, kx⟩
        have S' := S.below kx
        have T' := T.below kx
        have R' := R.below kx
        have K' := K.below kx
        have I0' := I0.below kx
        have B0' := B0.below kx
        have I1' := I1.below kx
        have B1' := B1.below kx
        have I2' := I2.below kx
        have B2' := B2.below kx
        have Y' := Y.below kx
        have I3' := I3.below kx
        have B3' := B3.below kx
        have I4' := I4.below kx
        have B4' := B4.below kx
        have b' := b.trans (kx.mono b.size)
        clear S T R K I0 B0 I1 B1 I2 B2 Y I3 B3 I4 B4 b kx
        have S := S'
        have T := T'
        have R := R'
        have K := K'
        have I0 := I0'
        have B0 := B0'
        have I1 := I1'
        have B1 := B1'
        have I2 := I2'
        have B2 := B2'
        have Y := Y'
        have I3 := I3'
        have B3 := B3'
        have I4 := I4'
        have B4 := B4'
        have b := b'
        clear S' T' R' K' I0' B0' I1' B1' I2' B2' Y' I3' B3' I4' B4' b'
        go_wp2_with (first | go_skip)
        go_ret
        exact ⟨rfl, b⟩
end Go.Proofs.YtgmdhaepiclkcaaGreatDoor.EbH
