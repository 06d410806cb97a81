/- StoreCuts' walk: of a disk that is cut, the commits that were whole are loaded. No condition. -/
import Derived.Test.YtgoapaanmcmlmaaGreatDoorIdXJ10
import Derived.Test.YtgoapaanmcmlmaaGreatDoorIntSJ4
namespace Go.Proofs.YtgoapaanmcmlmaaGreatDoor.SoC
set_option maxRecDepth 100000
open Go Go.Sort Go.RowKit Byt IdM IdW OpsM OpsW CmM StW CmW CmX CmY CmA DgM DgW DgR DgG DgS DgJ DgH DgV DgF StoG StoM StoW StoF StoD StoA LogM LogD LogE LogW EncM IntS
open Classical
def intOf : Value → Int | .int _ q => q | _ => 0
theorem coms_take (l : List Cv) (k : Nat) : coms (l.take k) = (coms l).take k := List.map_take ..
def Inv (s : List Com) (k want used m : Nat) : Prop := want ≤ k ∧ used = (diskK (s.take want)).length ∧ used ≤ m ∧ (want < k → m < (diskK (s.take (want + 1))).length)
theorem Inv.start (s : List Com) (m : Nat) : Inv s 0 0 0 m := ⟨Nat.le_refl _, rfl, Nat.zero_le _, fun h => absurd h (by omega)⟩
theorem Inv.yes {s : List Com} {k want used m E : Nat} (_h : Inv s k want used m) (hE : (diskK (s.take (k + 1))).length = E) (ha : E ≤ m) : Inv s (k + 1) (k + 1) E m := ⟨Nat.le_refl _, hE.symm, ha, fun h => absurd h (by omega)⟩
theorem Inv.no {s : List Com} {k want used m E : Nat} (h : Inv s k want used m) (hE : (diskK (s.take (k + 1))).length = E) (ha : ¬ E ≤ m) : Inv s (k + 1) want used m := by
 obtain ⟨h1, h2, h3, h4⟩ := h
 refine ⟨by omega, h2, h3, fun hw => ?_⟩
 by_cases e : want = k
 · rw [e, hE]
   omega
 · exact h4 (by omega)
set_option maxRecDepth 100000 in
set_option maxHeartbeats 64000000 in
theorem walk (Y : Dag2) (X : Four) (a0 : Option Addr) (cap0 : Nat) (l0 : List Cv) (at_ : Int) (w : World) (S : SlK w a0 cap0 l0) (hK : ShaE.KIn w) :
   Calls Tryz.prog 4 #[.slice a0 l0.length cap0, .int .i64 at_] w fun e w' => e = .returned (.bool true) ∧ RowKit.Below w.heap.size w w' := by
 have hmax := S.len
 have b := Below.refl w.heap.size w
 have hbs := b.size
 go_enter Tryz.func4, Tryz.ntmps4
 go_wp2_with (first | go_skip)
 refine (awake X _ (hK.below b)).mono ?_
 rintro e w1 ⟨rfl, k1⟩
 clear hbs
 replace S := S.below k1; replace b := b.trans (k1.mono b.size); clear k1
 go_wp2_with (first | go_skip)
 obtain ⟨f, hf⟩ : ∃ f, fewD (coms l0) 8 = f := ⟨_, rfl⟩
 have qf := DgR.few_ret a0 cap0 l0 8 _ S
 rw [hf] at qf
 refine qf.mono ?_
 clear qf
 rintro e w2 ⟨rfl, k2⟩
 replace S := S.below k2; replace b := b.trans (k2.mono b.size); clear k2
 cases f with
 | false =>
   go_wp2_with (first | go_skip)
   go_ret
   exact ⟨rfl, b⟩
 | true =>
   obtain ⟨ho, hl⟩ := okay_few (fun v hv => (S.each v hv).2) hf
   have hl2 : l0.length ≤ 8 := by omega
   have HO := aside ho
   clear ho hf hl
   have qc := Y.closed a0 cap0 l0 _ S (by omega) (hK.below b)
   by_cases hC : Closed hashK (coms l0)
   case neg =>
     rw [decide_eq_false hC] at qc
     go_wp2_with (first | go_skip)
     refine qc.mono ?_
     rintro e wx ⟨rfl, kx⟩
     clear qc
     go_wp2_with (first | go_skip)
     go_ret
     exact ⟨rfl, b.trans (kx.mono b.size)⟩
   case pos =>
     rw [decide_eq_true hC] at qc
     have HC0 := aside hC
     clear hC
     go_wp2_with (first | go_skip)
     refine qc.mono ?_
     clear qc
     rintro e wx ⟨rfl, kx⟩
     replace S := S.below kx; replace b := b.trans (kx.mono b.size); clear kx
     go_wp2_with (first | go_skip)
     refine (Y.sorted a0 cap0 l0 _ S (by omega) (hK.below b)).mono ?_
     rintro e wx ⟨s, hm, A7, c7, qs, rfl, U, hqs, kx⟩
     have b' := b.trans (kx.mono b.size)
     clear  b kx S
     have b := b'
     clear  b'
     obtain ⟨hperm, hord⟩ := sorted_perm HC0.out hm
     have hcl : Closed hashK s := closed_perm HC0.out hperm.symm
     have hq8 : qs.length ≤ 8 := by
       have h1 := hperm.length_eq
       rw [← hqs, coms_len, coms_len] at h1
       omega
     have HS := aside hqs
     have HC := aside hcl
     have HI := aside hord
     have qd := disk_ret X A7 c7 qs _ U (by rw [hqs]; exact fun c hc => hcl.may c hc) (by omega) (hK.below b)
     rw [hqs] at qd
     have hdl := diskK_len hcl.may
     have hsl : s.length = qs.length := by rw [← hqs, coms_len]
     have HSL := aside hsl
     have hdl : (diskK s).length ≤ 3300 := by omega
     clear hm hperm hord hqs hcl hsl HO HC0
     go_wp2_with (first | go_skip)
     refine qd.mono ?_
     clear qd
     rintro e wx ⟨vb, ve, rfl, OB, OE, hne, kx⟩
     replace U := U.below kx; replace b := b.trans (kx.mono b.size); clear kx
     obtain ⟨A8, c8, rfl, T8⟩ := Sl.own OB disk_B
     obtain ⟨A9, c9, rfl, N9⟩ := SlN.own OE
     clear OB OE hne
     obtain ⟨D, hD⟩ : ∃ D, (diskK s).length = D := ⟨_, rfl⟩
     have HD := aside hD
     rw [endsL_len]
     simp only [HSL.out]
     simp only [hD] at hdl ⊢
     clear hD
     by_cases hn : at_ < 0
     · clear X Y U T8 N9 HS HC HI
       go_wp2_with (first | go_skip)
       go_ret
       exact ⟨rfl, b⟩
     obtain ⟨m, rfl⟩ : ∃ m : Nat, at_ = m := ⟨at_.toNat, by omega⟩
     have hn2 : ¬ (m : Int) < 0 := by omega
     by_cases hb : D < m
     · have p1 : (D : Int) < (m : Int) := by omega
       clear X Y U T8 N9 HS HC HI
       go_wp2_with (first | go_skip)
       go_ret
       exact ⟨rfl, b⟩
     have p1 : ¬ (D : Int) < (m : Int) := by omega
     have b0 := Below.refl wx.heap.size wx
     go_wp2_with (first | go_skip)
     go_loopw [11, 12, 13] (fun wt us i wr => ∃ (k want used : Nat), k ≤ qs.length ∧ wt = .int .i64 want ∧ us = .int .i64 used ∧ i = .int .i64 k ∧ Hid (Inv s k want used m) ∧ RowKit.Below wx.heap.size wx wr) (fun _ _ i _ => qs.length - (intOf i).toNat)
     case atStart => exact ⟨0, 0, 0, Nat.zero_le _, rfl, rfl, rfl, aside (Inv.start _ _), b0⟩
     case round =>
       rename World => wr
       clear b0
       obtain ⟨k, want, used, hk, rfl, rfl, rfl, HV, kb⟩ := hrel
       by_cases hlt : k < qs.length
       · have p2 : (k : Int) < (qs.length : Int) := by omega
         have m0 : ((k : Int)).toNat = k := by omega
         obtain ⟨bb, off, rfl, hbw, hc⟩ := N9.plain (by rw [endsL_len, HSL.out]; omega)
         have hks : k < s.length := by rw [HSL.out]; exact hlt
         have cx := (kb.cell (p := ⟨bb, off + k, none⟩) hbw).trans (hc k _ (endsL_at hks))
         obtain ⟨E, hE⟩ : ∃ E, (diskK (s.take (k + 1))).length = E := ⟨_, rfl⟩
         rw [hE] at cx
         have e1 : ((k + 1 : Nat) : Int) = (k : Int) + 1 := by omega
         by_cases ha : E ≤ m
         · have HQ := aside (HV.out.yes hE ha)
           have p3 : (E : Int) ≤ (m : Int) := by omega
           clear HV hc hbw hE U T8 N9
           go_wp2_with (first | go_skip)
           go_roundw
           case rel => exact ⟨k + 1, k + 1, E, by omega, by rw [e1], rfl, by go_num, HQ, kb⟩
           case measure => simp [intOf]; omega
         · have HQ := aside (HV.out.no hE ha)
           have p3 : ¬ (E : Int) ≤ (m : Int) := by omega
           clear HV hc hbw hE U T8 N9
           go_wp2_with (first | go_skip)
           go_roundw
           case rel => exact ⟨k + 1, want, used, by omega, rfl, rfl, by go_num, HQ, kb⟩
           case measure => simp [intOf]; omega
       · obtain rfl : k = qs.length := by omega
         have p2 : ¬ (qs.length : Int) < (qs.length : Int) := by omega
         obtain ⟨v1, v2, v3, v4⟩ := HV.out
         rw [← HSL.out] at v1 v4
         have hld := load_cut HC.out HI.out v1 (by rw [← v2]; exact v3) v4
         rw [← v2] at hld
         have hct := closed_take HC.out HI.out want
         have T := T8.below kb
         have V := U.below kb
         have b := b.trans (kb.mono b.size)
         have hcap := T.1
         rw [HD.out] at hcap
         obtain ⟨A2, c2, hs2, S2, hl2⟩ := T.part 0 m (by omega) (by rw [HD.out]; omega)
         have hr2 := fun W => run_part_h W A8 D c8 .i64 m (by omega)
         rw [hs2, Nat.sub_zero] at hr2
         rw [List.drop_zero, Nat.sub_zero] at S2 hl2
         have q := X.load A2 c2 m _ _ S2 hl2 (by omega) (hK.below b)
         rw [hld] at q
         have hwq : want ≤ qs.length := by rw [← HSL.out]; exact v1
         obtain ⟨qA, qc, hqs, hqS⟩ := RowP.ahead V.row want hwq
         have hq1 : ∀ W, (Instr.sliceAt 35 (.slice A7 qs.length c7) none (some (.int .i64 (want : Int))) none).run Tryz.prog W = .ok (.slice qA want qc) W := fun W => hqs W .i64
         have hkl : (qs.take want).length = want := by rw [List.length_take]; omega
         have Q : SlK wr qA qc (qs.take want) := ⟨hqS, fun y hy => V.each y (List.mem_of_mem_take hy)⟩
         have HQ : Hid (coms (qs.take want) = s.take want) := aside (by rw [coms_take, HS.out])
         have HT := aside hct
         have p3 : (m : Int) ≤ (c8 : Int) := by omega
         clear HV v2 v3 v4 hld hct T V S2 hl2 hs2 hqs hqS U T8 N9 kb
         go_wp2_with (first | go_skip)
         refine q.mono ?_
         rintro e w3 ⟨A3, c3, us, rfl, hus, S3, k3⟩
         have Q' := Q.below k3
         have b' := b.trans (k3.mono b.size)
         have qe := list_ret A3 qA c3 qc us (qs.take want) _ S3 Q'
         rw [hus, HQ.out, listB_iff.2 rfl, hkl] at qe
         have HU := aside hus
         clear q Q k3 b hus
         go_wp2_with (first | go_skip)
         refine qe.mono ?_
         rintro e w4 ⟨rfl, k4⟩
         have S4 := S3.below k4
         have b4 := b'.trans (k4.mono b'.size)
         have hul : us.length ≤ 1000 := by
           have h1 := congrArg List.length HU.out
           rw [coms_len, List.length_take] at h1
           omega
         have qz := Y.closed A3 c3 us _ S4 hul (hK.below b4)
         rw [HU.out, decide_eq_true HT.out] at qz
         have tu : ((used : Int) == (used : Int)) = true := by simp
         clear qe k4 b' S3 S4 Q'
         go_wp2_with (first | go_skip)
         refine qz.mono ?_
         rintro e w5 ⟨rfl, k5⟩
         have b5 := b4.trans (k5.mono b4.size)
         clear qz
         go_wp2_with (first | go_skip)
         go_ret
         exact ⟨rfl, b5⟩
end Go.Proofs.YtgoapaanmcmlmaaGreatDoor.SoC
