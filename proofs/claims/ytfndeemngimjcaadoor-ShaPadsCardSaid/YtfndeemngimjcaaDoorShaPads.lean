/- ShaPads returns true for every input, where the table of constants is as the program's text lays it: bytes as they are summed are whole blocks, begin by the bytes, and end by how many bits these are; two that are padded alike are the same. No other condition. -/
import Derived.Test.YtfndeemngimjcaaDoorStrB
import Derived.Test.YtfndeemngimjcaaDoorShaL
import Derived.Test.YtfndeemngimjcaaDoorCards
import Derived.Test.YtfndeemngimjcaaDoorTie
import Derived.ChangeOld
namespace Go.Proofs.YtfndeemngimjcaaDoor.shaPads
open Go.ChangeShapes Go.WideShapes Go.ChangeAt Go.RowKit RotM RotN RotC RotD RotG Small ShaM ShaD ShaE ShaF ShaA PadM StrB

set_option maxHeartbeats 400000 in
theorem out1 (A : Option Addr) (len cap : Nat) (A' : Option Addr) (len' cap' : Nat) (w : World) (hl : 300 < len) (hm : len ≤ 9223372036854775807) (hK : KIn w) :
    Calls Tryd.prog 5 #[.slice A len cap, .slice A' len' cap'] w fun e w' => e = .returned (.bool true) ∧ Below w.heap.size w w' := by
  go_enter Tryd.func5, Tryd.ntmps5
  go_wp2_with fail
  refine (awake _ hK).mono ?_
  rintro e w1 ⟨rfl, k1⟩
  go_wp2_with fail
  go_ret
  exact ⟨rfl, k1⟩
set_option maxHeartbeats 400000 in
theorem out2 (A : Option Addr) (len cap : Nat) (A' : Option Addr) (len' cap' : Nat) (w : World) (hl0 : len ≤ 300) (hl : 300 < len') (hm : len' ≤ 9223372036854775807) (hK : KIn w) :
    Calls Tryd.prog 5 #[.slice A len cap, .slice A' len' cap'] w fun e w' => e = .returned (.bool true) ∧ Below w.heap.size w w' := by
  go_enter Tryd.func5, Tryd.ntmps5
  go_wp2_with fail
  refine (awake _ hK).mono ?_
  rintro e w1 ⟨rfl, k1⟩
  go_wp2_with fail
  go_ret
  exact ⟨rfl, k1⟩

set_option maxHeartbeats 1000000 in
theorem within (A : Option Addr) (len cap : Nat) (zs : List Int) (A' : Option Addr) (len' cap' : Nat) (zs' : List Int) (w : World) (hr : RowIn.RowIn .u8 w A len cap zs) (hr' : RowIn.RowIn .u8 w A' len' cap' zs') (hl : len ≤ 300) (hl' : len' ≤ 300) (hK : KIn w) :
    Calls Tryd.prog 5 #[.slice A len cap, .slice A' len' cap'] w fun e w' => e = .returned (.bool true) ∧ Below w.heap.size w w' := by
  obtain ⟨bs, hbs⟩ : ∃ bs, zs.take len = bs := ⟨_, rfl⟩
  obtain ⟨cs, hcs⟩ : ∃ cs, zs'.take len' = cs := ⟨_, rfl⟩
  have hlen : bs.length = len := by
    have h1 := hr.1
    have h3 := hr.2.2.1
    rw [← hbs]; simp; omega
  have hlen' : cs.length = len' := by
    have h1 := hr'.1
    have h3 := hr'.2.2.1
    rw [← hcs]; simp; omega
  have hB : ∀ x ∈ bs, B x := by
    intro x hx
    rw [← hbs] at hx
    have := hr.2.2.2.1 x (List.mem_of_mem_take hx)
    simpa [B, Lit.wf, IntKind.min, IntKind.max, IntKind.bits, IntKind.signed] using this
  have hB' : ∀ x ∈ cs, B x := by
    intro x hx
    rw [← hcs] at hx
    have := hr'.2.2.2.1 x (List.mem_of_mem_take hx)
    simpa [B, Lit.wf, IntKind.min, IntKind.max, IntKind.bits, IntKind.signed] using this
  have hP := SumM.padL_B hB (by omega)
  have hP' := SumM.padL_B hB' (by omega)
  have hE : ((strOf (padL bs)).toList == (strOf (padL cs)).toList) = ((strOf bs).toList == (strOf cs).toList) := by
    rw [strOf_eq hP hP', strOf_eq hB hB']
    by_cases e : bs = cs
    · rw [e]; simp
    · have : ¬ padL bs = padL cs := fun h => e (pad_inj (by omega) (by omega) h)
      simp [e, this]
  have hN := padL_length bs
  have hN' := padL_length cs
  have hn1 := nPad_lo len
  have hn2 := nPad_hi len
  have hn3 := nPad_mod len
  have hn4 := nPad_hi len'
  have hlast := pad_last bs (by omega)
  have hmark := pad_mark bs
  have htake := pad_take bs
  rw [hlen] at hN hlast hmark htake
  rw [hlen'] at hN'
  obtain ⟨P, hPP⟩ : ∃ P, padL bs = P := ⟨_, rfl⟩
  obtain ⟨Q, hQQ⟩ : ∃ Q, padL cs = Q := ⟨_, rfl⟩
  rw [hPP] at hN hlast hmark htake hP hE
  rw [hQQ] at hN' hP' hE
  rw [← hN] at hn1 hn2 hn3 hlast
  rw [← hN'] at hn4
  have HT := RotF.aside htake
  have HM := RotF.aside hmark
  have HLa := RotF.aside hlast
  have HN3 := RotF.aside hn3
  have HP := RotF.aside hP
  have HP' := RotF.aside hP'
  have HE := RotF.aside hE
  have HPP := RotF.aside hPP
  have HQQ := RotF.aside hQQ
  have HBS := RotF.aside hbs
  have HCS := RotF.aside hcs
  clear htake hmark hlast hn3 hP hP' hE hPP hQQ hbs hcs hB hB' hlen hlen' hN hN'
  go_enter Tryd.func5, Tryd.ntmps5
  go_wp2_with fail
  refine (awake _ hK).mono ?_
  rintro e w1 ⟨rfl, k1⟩
  go_wp2_with fail
  have hp := pad (hr.below k1) (by omega)
  rw [HBS.out, HPP.out] at hp
  refine hp.mono ?_
  clear hp
  rintro e w2 ⟨g, rfl, _, Ag, h2⟩
  have k2 := k1.trans (h2.mono k1.size)
  clear k1 h2
  go_wp2_with fail
  have hp := pad (hr'.below k2) (by omega)
  rw [HCS.out, HQQ.out] at hp
  refine hp.mono ?_
  clear hp
  rintro e w3 ⟨g', rfl, _, Ag', h3⟩
  have Bg := Ag.below h3 Ag.lt
  have k3 := k2.trans (h3.mono k2.size)
  clear k2 h3 Ag
  have rx := rowIn_at Bg (by unfold maxLen; omega) HP.out
  have ry := rowIn_at Ag' (by unfold maxLen; omega) HP'.out
  have ra := hr.below k3
  have rb := hr'.below k3
  have rc : RowIn.RowIn .u8 w3 (some ⟨g, 0, none⟩) len P.length P := ⟨by omega, rx.2.1, rx.2.2.1, rx.2.2.2.1, rx.2.2.2.2.imp (fun ⟨a, _⟩ => by cases a) id⟩
  have v1 := conv_quiet rc
  have v2 := conv_quiet ra
  rw [HT.out] at v1
  rw [HBS.out] at v2
  have cm : w3.cell? ⟨g, len, none⟩ = some (.int .u8 128) := by
    rw [Bg.cell, List.getElem?_toArray, bv_at _ (by omega), HM.out]
  have t1 : ((P.length : Int).tmod 64 != 0) = false := by have := HN3.out; rw [Int.tmod_eq_emod_of_nonneg (by omega)]; simp; omega
  have t1' : ((P.length : Int) % 64 != 0) = false := by have := HN3.out; simp; omega
  have t2 : decide ((P.length : Int) < (len : Int) + 9) = false := by simp; omega
  have t3 : decide ((len : Int) + 72 < (P.length : Int)) = false := by simp; omega
  have t4 : ((strOf bs).toList != (strOf bs).toList) = false := by simp
  have t5 : (len : Int) < (P.length : Int) := by omega
  have t6 : (len : Int) ≤ (P.length : Int) := by omega
  go_wp2_with fail
  go_quiet (fail)
  clear v1 v2 cm t1 t1' t2 t3 t4 t5 t6 rc
  obtain ⟨W, hW⟩ : ∃ W : World, W = w3.drewN nq := ⟨_, rfl⟩
  rw [← hW]
  have Cg : At W g (bv P).toArray := by rw [hW]; exact Bg.drewN _
  have rx1 : RowIn.RowIn .u8 W (some ⟨g, 0, none⟩) P.length P.length P := by rw [hW]; exact rx.below (below_drewN w3 nq)
  have ry1 : RowIn.RowIn .u8 W (some ⟨g', 0, none⟩) Q.length Q.length Q := by rw [hW]; exact ry.below (below_drewN w3 nq)
  have ra1 : RowIn.RowIn .u8 W A len cap zs := by rw [hW]; exact ra.below (below_drewN w3 nq)
  have rb1 : RowIn.RowIn .u8 W A' len' cap' zs' := by rw [hW]; exact rb.below (below_drewN w3 nq)
  have k4 : Below w.heap.size w W := by rw [hW]; exact below_drew k3 nq
  clear hW k3 rx ry ra rb Bg Ag'
  go_wp2_with fail
  have v1 := conv_quiet rx1
  have v2 := conv_quiet ry1
  have v3 := conv_quiet ra1
  have v4 := conv_quiet rb1
  rw [List.take_length] at v1 v2
  rw [HBS.out] at v3
  rw [HCS.out] at v4
  have c2 : W.cell? ⟨g, P.length - 2, none⟩ = some (.int .u8 (8 * (len : Int) / 256)) := by
    rw [Cg.cell, List.getElem?_toArray, bv_at _ (by omega), HLa.out.1]
  have c1 : W.cell? ⟨g, P.length - 1, none⟩ = some (.int .u8 (8 * (len : Int) % 256)) := by
    rw [Cg.cell, List.getElem?_toArray, bv_at _ (by omega), HLa.out.2]
  have m1 : ((P.length : Int) - 2).toNat = P.length - 2 := by omega
  have m2 : ((P.length : Int) - 1).toNat = P.length - 1 := by omega
  have o1 : 0 ≤ (P.length : Int) - 2 := by omega
  have o2 : 0 ≤ (P.length : Int) - 1 := by omega
  have o3 : (2 : Int) ≤ (P.length : Int) := by omega
  have o4 : (1 : Int) ≤ (P.length : Int) := by omega
  have q1 : (P.length : Int) - 2 < (P.length : Int) := by omega
  have q2 : (P.length : Int) - 1 < (P.length : Int) := by omega
  have u1 : IntKind.i64.wrap ((P.length : Int) - 2) = (P.length : Int) - 2 := IntWalk.i64_in _ (by omega)
  have u2 : IntKind.i64.wrap ((P.length : Int) - 1) = (P.length : Int) - 1 := IntWalk.i64_in _ (by omega)
  have u3 : IntKind.i64.wrap (256 * (8 * (len : Int) / 256) + 8 * (len : Int) % 256) = 8 * (len : Int) := by rw [IntWalk.i64_in _ (by omega)]; omega
  have u4 : IntKind.i64.wrap (256 * (8 * (len : Int) / 256)) = 256 * (8 * (len : Int) / 256) := IntWalk.i64_in _ (by omega)
  have u5 : IntKind.i64.wrap (8 * (len : Int)) = 8 * (len : Int) := IntWalk.i64_in _ (by omega)
  have u6 : 256 * (8 * (len : Int) / 256) + 8 * (len : Int) % 256 = 8 * (len : Int) := by omega
  have hE := HE.out
  go_quiet (fail)
  go_wp2_with fail
  go_ret
  exact ⟨rfl, below_drew k4 _⟩

theorem walk (a0 : Option Addr) (len0 cap0 : Nat) (z0 : List Int) (a1 : Option Addr) (len1 cap1 : Nat) (z1 : List Int) (w : World) (w0 : RowIn.RowIn .u8 w a0 len0 cap0 z0) (w1 : RowIn.RowIn .u8 w a1 len1 cap1 z1) (hK : KIn w) :
    Calls Tryd.prog 5 #[.slice a0 len0 cap0, .slice a1 len1 cap1] w fun e w' => e = .returned (.bool true) ∧ Below w.heap.size w w' := by
  have h1 := w0.1
  have h2 := w0.2.1
  have h3 := w1.1
  have h4 := w1.2.1
  unfold maxLen at h2 h4
  by_cases h : 300 < len0
  · exact out1 a0 len0 cap0 a1 len1 cap1 w h (by omega) hK
  · by_cases h' : 300 < len1
    · exact out2 a0 len0 cap0 a1 len1 cap1 w (by omega) h' (by omega) hK
    · exact within a0 len0 cap0 z0 a1 len1 cap1 z1 w w0 w1 (by omega) (by omega) hK

theorem own : ownKnob Tryd.prog.godebug = none := by kernel_rfl
theorem laidOut : laidOutB Tryd.prog = true := by kernel_rfl
set_option linter.unusedVariables false in
set_option maxRecDepth 100000 in
theorem lifted (os : Os) (started : os.Started) (H : Type) (enc : TypeId × Value → H) :
    ReturnsInHanded {} Tryd.checked os 5 .any (fun w args => (Rows.shaPadsSpec.pre enc Tryd.prog Tryd.f5 [] false w args ∧ laidMetH Tryd.prog ShaL.laid1 w) ∧ sizedMet enc Tryd.prog Tryd.f5 (OpenSpec.ofChange Rows.shaPadsSpec) false w args)
      (Rows.shaPadsSpec.post enc Tryd.prog Tryd.f5 false true false false) := by
  refine returnsInHanded_of_change_and (C := Tryd.checked) (X := fun w _ => laidMetH Tryd.prog ShaL.laid1 w) (fun _ _ _ hh h => h.of_heap hh) own started (by kernel_rfl) Tryd.func5
    (ChangeSpec.witness_shaped (enc := enc) (C := Tryd.checked) (os := os) (X := fun w _ => laidMetH Tryd.prog ShaL.laid1 w) false (World.doorLaid Tryd.prog 14 os) #[.slice none 0 0, .slice none 0 0] 8 rfl (World.shaped_of_RefB (by kernel_rfl) (by kernel_rfl)) (by kernel_rfl) (by kernel_rfl) (by kernel_rfl) (ShaL.door_met os _)) ?_
  intro W base args ds gs before hval0 hW _ _ hL _
  have hval : ∀ (j : Nat) t v, Tryd.f5.params[j]? = some t → args[j]? = some v → Value.okWide Tryd.prog W .any base t v := hval0
  have hW' := hW
  obtain ⟨p, q, hA0, hV, rfl, hfz, hnd⟩ := hW
  have hA : DataW.TrodAll enc Tryd.prog W 0 (fun _ => true) true Tryd.f5.params.toList args.toList ds p := hA0
  rw [Tryd.params5] at hA hval
  obtain ⟨v0, vs0, d0, ds0, p0, q0, hargs, rfl, rfl, h0, r0⟩ := trodAll_cons hA
  obtain ⟨v1, vs1, d1, ds1, p1, q1, rfl, rfl, rfl, h1, r1⟩ := trodAll_cons r0
  obtain ⟨rfl, rfl, rfl⟩ := trodAll_nil r1
  obtain rfl : args = #[v0, v1] := by cases args; simp_all
  obtain ⟨rfl, rfl⟩ := trodVars_none hV
  have k0 := h0
  have lt0 : ∀ x ∈ p0, x.block < W.heap.size := by obtain ⟨m, hm⟩ := k0; exact DataW.trod_lt m _ _ _ hm
  obtain ⟨a0, len0, cap0, z0, rfl, w0⟩ := RowIn.open_row Tryd.underlying22 Tryd.underlying5 (by kernel_rfl) (hval 0 22 v0 rfl rfl) h0
  have k1 := h1
  have lt1 : ∀ x ∈ p1, x.block < W.heap.size := by obtain ⟨m, hm⟩ := k1; exact DataW.trod_lt m _ _ _ hm
  obtain ⟨a1, len1, cap1, z1, rfl, w1⟩ := RowIn.open_row Tryd.underlying22 Tryd.underlying5 (by kernel_rfl) (hval 1 22 v1 rfl rfl) h1
  clear hA0 hval0
  refine (walk a0 len0 cap0 z0 a1 len1 cap1 z1 W w0 w1 (ShaL.of_laid hL)).mono fun e W' ⟨he, bel⟩ => ?_
  subst he
  exact ⟨_, rfl, _, _, _, [], _, [], hW', trodAll_mk1 (shut_bool Tryd.underlying4 _), (trodAll_cons_mk (Below.trod laidOut (by kernel_rfl) (of_decide_eq_true (by kernel_rfl)) k0 bel lt0) (trodAll_cons_mk (Below.trod laidOut (by kernel_rfl) (of_decide_eq_true (by kernel_rfl)) k1 bel lt1) trodAll_mk0)), rfl, bel.frame _, fun h => by cases h⟩

theorem over : Rows.shaPadsRow.holds Tryd.pinned (OpenSpec.ofChange Rows.shaPadsSpec) :=
  OpenClaim.holds_of_wide 5 Tryd.f5 rfl rfl rfl rfl rfl rfl rfl ⟨rfl, rfl, rfl, rfl, rfl⟩ rfl rfl rfl rfl rfl (by kernel_rfl) Tryd.func5 (by kernel_rfl)
    (of_decide_eq_true (by kernel_rfl)) (by unfold Func.isWrapper; first | (rw [if_pos (by decide +kernel)]; kernel_rfl) | (rw [if_neg (by decide +kernel)]; exact ⟨rfl, rfl⟩))
    (fun os started H enc _ => lifted os started H enc)

theorem proved : Rows.ShaPadsCardSaid :=
  Claim7.holds_tied_plain_at .later [] Rows.shaPadsCard.laidKinds true Rows.shaPadsCard.stood.harness Rows.shaPadsCard.stood.looks
    over (fun _ h => by cases h) (by kernel_rfl) (fun _ h => by cases h) shaPads_row_tie rfl ⟨rfl, rfl⟩ (by kernel_rfl) rfl
    (fun f fn hf hfn => by
      obtain rfl : f = 5 := Option.some.inj ((show Tryd.prog.funcNamed "anabranch/anabranchlaw02.ShaPads" = some 5 by kernel_rfl).symm.trans hf) |>.symm
      obtain rfl : fn = Tryd.f5 := (Option.some.inj (Tryd.func5.symm.trans hfn)).symm
      exact ⟨by kernel_rfl, fun j t ht => by
        rw [Tryd.params5] at ht
        have hm : t ∈ [22, 22] := by simpa using Array.mem_of_getElem? ht
        have hall : ([22, 22].all fun u => !Tryd.prog.wantsStandIn u) = true := by kernel_rfl
        exact (show Tryd.prog.wantsStandIn t = false by simpa using List.all_eq_true.1 hall t hm)⟩)
    (by kernel_rfl)
end Go.Proofs.YtfndeemngimjcaaDoor.shaPads
