/- ShaShort returns true for every input, where the table of constants is as the program's text lays it: bytes as they are summed are as few blocks as have room for them and nine more, with noughts between the mark and the last two bytes. No other condition. -/
import Derived.Test.YtfndeemngimjcaaDoorShaA
import Derived.Test.YtfndeemngimjcaaDoorShaL
import Derived.Test.YtfndeemngimjcaaDoorCards
import Derived.Test.YtfndeemngimjcaaDoorTie
import Derived.ChangeOld
namespace Go.Proofs.YtfndeemngimjcaaDoor.shaShort
open Go.ChangeShapes Go.WideShapes Go.ChangeAt Go.RowKit RotM RotN RotC RotD RotG Small ShaM ShaD ShaE ShaF ShaA PadM

theorem pad_zero (bs : List Int) (h : bs.length ≤ 300) (i : Nat) (h1 : bs.length < i) (h2 : i + 2 < nPad bs.length) : (padL bs).getD i 0 = 0 := by
  have hn := nPad_lo bs.length
  unfold padL
  rw [List.getD_eq_getElem?_getD, List.getElem?_append_right (by omega)]
  obtain ⟨j, hj⟩ : ∃ j, i - bs.length = j + 1 := ⟨i - bs.length - 1, by omega⟩
  rw [hj, List.getElem?_cons_succ]
  by_cases hz : j < nPad bs.length - bs.length - 9
  · rw [List.getElem?_append_left (by simpa using hz), List.getElem?_replicate, if_pos hz]
    rfl
  · rw [List.getElem?_append_right (by simpa using hz), List.length_replicate]
    have hm : 0 ≤ 8 * (bs.length : Int) ∧ 8 * (bs.length : Int) ≤ 2400 := by omega
    generalize 8 * (bs.length : Int) = a at *
    rcases (by omega : j - (nPad bs.length - bs.length - 9) = 0 ∨ j - (nPad bs.length - bs.length - 9) = 1 ∨ j - (nPad bs.length - bs.length - 9) = 2 ∨ j - (nPad bs.length - bs.length - 9) = 3 ∨ j - (nPad bs.length - bs.length - 9) = 4 ∨ j - (nPad bs.length - bs.length - 9) = 5) with e | e | e | e | e | e
    all_goals rw [e]; simp [long8]; omega

set_option maxHeartbeats 400000 in
theorem out (A : Option Addr) (len cap : Nat) (w : World) (hl : 300 < len) (hm : len ≤ 9223372036854775807) (hK : KIn w) :
    Calls Tryd.prog 8 #[.slice A len cap] w fun e w' => e = .returned (.bool true) ∧ Below w.heap.size w w' := by
  go_enter Tryd.func8, Tryd.ntmps8
  go_wp2_with fail
  refine (awake _ hK).mono ?_
  rintro e w1 ⟨rfl, k1⟩
  go_wp2_with fail
  go_ret
  exact ⟨rfl, k1⟩

set_option maxHeartbeats 1000000 in
theorem within (A : Option Addr) (len cap : Nat) (zs : List Int) (w : World) (hr : RowIn.RowIn .u8 w A len cap zs) (hl : len ≤ 300) (hK : KIn w) :
    Calls Tryd.prog 8 #[.slice A len cap] w fun e w' => e = .returned (.bool true) ∧ Below w.heap.size w w' := by
  obtain ⟨bs, hbs⟩ : ∃ bs, zs.take len = bs := ⟨_, rfl⟩
  have hlen : bs.length = len := by
    have h1 := hr.1
    have h3 := hr.2.2.1
    rw [← hbs]; simp; omega
  have hz := pad_zero bs (by omega)
  have hP := padL_length bs
  have hn1 := nPad_lo len
  have hn2 := nPad_hi len
  rw [hlen] at hz hP
  have hN : ((len : Int) + 9 + 63) / 64 * 64 = (nPad len : Nat) := by unfold nPad; omega
  obtain ⟨P, hPP⟩ : ∃ P, padL bs = P := ⟨_, rfl⟩
  rw [hPP] at hz hP
  rw [← hP] at hz hn1 hn2 hN
  have HN : ((P.length : Int) != ((len : Int) + 9 + 63) / 64 * 64) = false := by rw [hN]; simp
  have HZ := RotF.aside hz
  have HPP := RotF.aside hPP
  have HBS := RotF.aside hbs
  clear hz hP hN hPP hbs hlen
  go_enter Tryd.func8, Tryd.ntmps8
  go_wp2_with fail
  refine (awake _ hK).mono ?_
  rintro e w1 ⟨rfl, k1⟩
  go_wp2_with fail
  have hp := pad (hr.below k1) (by omega)
  rw [HBS.out, HPP.out] at hp
  refine hp.mono ?_
  clear hp
  rintro e w2 ⟨g, rfl, _, Ag, h2⟩
  have k2 := k1.trans (h2.mono k1.size)
  clear k1 h2
  go_wp2
  go_loop [5] (fun i => ∃ k : Nat, len < k ∧ k + 2 ≤ P.length ∧ i = .int .i64 k) (fun i => P.length - (intOf i).toNat)
  case atStart => exact ⟨len + 1, by omega, by omega, by go_num⟩
  case round =>
    obtain ⟨k, hk1, hk2, rfl⟩ := hrel
    by_cases hlt : k + 2 < P.length
    · have c : w2.cell? ⟨g, k, none⟩ = some (.int .u8 0) := by
        rw [Ag.cell, List.getElem?_toArray, bv_at _ (by omega), HZ.out k hk1 hlt]
      go_wp2
      go_round
      case rel => exact ⟨k + 1, by omega, by omega, by go_num⟩
      case measure => simp [intOf]; omega
    · go_wp2
      go_ret
      exact ⟨rfl, k2⟩

theorem walk (a0 : Option Addr) (len0 cap0 : Nat) (z0 : List Int) (w : World) (w0 : RowIn.RowIn .u8 w a0 len0 cap0 z0) (hK : KIn w) :
    Calls Tryd.prog 8 #[.slice a0 len0 cap0] w fun e w' => e = .returned (.bool true) ∧ Below w.heap.size w w' := by
  by_cases h : 300 < len0
  · have h1 := w0.1
    have h2 := w0.2.1
    unfold maxLen at h2
    exact out a0 len0 cap0 w h (by omega) hK
  · exact within a0 len0 cap0 z0 w w0 (by omega) hK

theorem own : ownKnob Tryd.prog.godebug = none := by kernel_rfl
theorem laidOut : laidOutB Tryd.prog = true := by kernel_rfl
set_option linter.unusedVariables false in
set_option maxRecDepth 100000 in
theorem lifted (os : Os) (started : os.Started) (H : Type) (enc : TypeId × Value → H) :
    ReturnsInHanded {} Tryd.checked os 8 .any (fun w args => (Rows.shaShortSpec.pre enc Tryd.prog Tryd.f8 [] false w args ∧ laidMetH Tryd.prog ShaL.laid1 w) ∧ sizedMet enc Tryd.prog Tryd.f8 (OpenSpec.ofChange Rows.shaShortSpec) false w args)
      (Rows.shaShortSpec.post enc Tryd.prog Tryd.f8 false true false false) := by
  refine returnsInHanded_of_change_and (C := Tryd.checked) (X := fun w _ => laidMetH Tryd.prog ShaL.laid1 w) (fun _ _ _ hh h => h.of_heap hh) own started (by kernel_rfl) Tryd.func8
    (ChangeSpec.witness_shaped (enc := enc) (C := Tryd.checked) (os := os) (X := fun w _ => laidMetH Tryd.prog ShaL.laid1 w) false (World.doorLaid Tryd.prog 14 os) #[.slice none 0 0] 8 rfl (World.shaped_of_RefB (by kernel_rfl) (by kernel_rfl)) (by kernel_rfl) (by kernel_rfl) (by kernel_rfl) (ShaL.door_met os _)) ?_
  intro W base args ds gs before hval0 hW _ _ hL _
  have hval : ∀ (j : Nat) t v, Tryd.f8.params[j]? = some t → args[j]? = some v → Value.okWide Tryd.prog W .any base t v := hval0
  have hW' := hW
  obtain ⟨p, q, hA0, hV, rfl, hfz, hnd⟩ := hW
  have hA : DataW.TrodAll enc Tryd.prog W 0 (fun _ => true) true Tryd.f8.params.toList args.toList ds p := hA0
  rw [Tryd.params8] at hA hval
  obtain ⟨v0, vs0, d0, ds0, p0, q0, hargs, rfl, rfl, h0, r0⟩ := trodAll_cons hA
  obtain ⟨rfl, rfl, rfl⟩ := trodAll_nil r0
  obtain rfl : args = #[v0] := by cases args; simp_all
  obtain ⟨rfl, rfl⟩ := trodVars_none hV
  have k0 := h0
  have lt0 : ∀ x ∈ p0, x.block < W.heap.size := by obtain ⟨m, hm⟩ := k0; exact DataW.trod_lt m _ _ _ hm
  obtain ⟨a0, len0, cap0, z0, rfl, w0⟩ := RowIn.open_row Tryd.underlying22 Tryd.underlying5 (by kernel_rfl) (hval 0 22 v0 rfl rfl) h0
  clear hA0 hval0
  refine (walk a0 len0 cap0 z0 W w0 (ShaL.of_laid hL)).mono fun e W' ⟨he, bel⟩ => ?_
  subst he
  exact ⟨_, rfl, _, _, _, [], _, [], hW', trodAll_mk1 (shut_bool Tryd.underlying4 _), (trodAll_cons_mk (Below.trod laidOut (by kernel_rfl) (of_decide_eq_true (by kernel_rfl)) k0 bel lt0) trodAll_mk0), rfl, bel.frame _, fun h => by cases h⟩

theorem over : Rows.shaShortRow.holds Tryd.pinned (OpenSpec.ofChange Rows.shaShortSpec) :=
  OpenClaim.holds_of_wide 8 Tryd.f8 rfl rfl rfl rfl rfl rfl rfl ⟨rfl, rfl, rfl, rfl, rfl⟩ rfl rfl rfl rfl rfl (by kernel_rfl) Tryd.func8 (by kernel_rfl)
    (of_decide_eq_true (by kernel_rfl)) (by unfold Func.isWrapper; first | (rw [if_pos (by decide +kernel)]; kernel_rfl) | (rw [if_neg (by decide +kernel)]; exact ⟨rfl, rfl⟩))
    (fun os started H enc _ => lifted os started H enc)

theorem proved : Rows.ShaShortCardSaid :=
  Claim7.holds_tied_plain_at .later [] Rows.shaShortCard.laidKinds true Rows.shaShortCard.stood.harness Rows.shaShortCard.stood.looks
    over (fun _ h => by cases h) (by kernel_rfl) (fun _ h => by cases h) shaShort_row_tie rfl ⟨rfl, rfl⟩ (by kernel_rfl) rfl
    (fun f fn hf hfn => by
      obtain rfl : f = 8 := Option.some.inj ((show Tryd.prog.funcNamed "anabranch/anabranchlaw02.ShaShort" = some 8 by kernel_rfl).symm.trans hf) |>.symm
      obtain rfl : fn = Tryd.f8 := (Option.some.inj (Tryd.func8.symm.trans hfn)).symm
      exact ⟨by kernel_rfl, fun j t ht => by
        rw [Tryd.params8] at ht
        have hm : t ∈ [22] := by simpa using Array.mem_of_getElem? ht
        have hall : ([22].all fun u => !Tryd.prog.wantsStandIn u) = true := by kernel_rfl
        exact (show Tryd.prog.wantsStandIn t = false by simpa using List.all_eq_true.1 hall t hm)⟩)
    (by kernel_rfl)
end Go.Proofs.YtfndeemngimjcaaDoor.shaShort
