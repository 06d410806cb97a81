/- ShaSums returns true for every input, where the table of constants is as the program's text lays it: sha.Sum and sha.Pad are what the document's own answers are. No other condition. -/
import Derived.Test.YtfndeemngimjcaaDoorStrB
import Derived.Test.YtfndeemngimjcaaDoorShaL
import Derived.Test.YtfndeemngimjcaaDoorRefW
import Derived.Test.YtfndeemngimjcaaDoorArrEq
import Derived.Test.YtfndeemngimjcaaDoorCards
import Derived.Test.YtfndeemngimjcaaDoorTie
import Derived.ChangeOld
namespace Go.Proofs.YtfndeemngimjcaaDoor.shaSums
open Go.ChangeShapes Go.WideShapes Go.ChangeAt Go.RowKit RotM RotN RotC RotD RotG Small ShaM ShaD ShaE ShaF ShaG ShaH ShaA PadM StrB ArrEq

theorem info_u8' : (Tryd.prog.info? 5).isSome = true := by kernel_rfl
theorem cells_u8 : Tryd.prog.cellsOf 5 = 1 := by kernel_rfl
theorem eqId (l : List Int) (hl : l.length = 32) (w : World) : Sem.run Tryd.prog (Op.equalIn 10000 25 (.agg (bv l).toArray) (.agg (bv l).toArray)) w = .ok true w := by
  obtain ⟨inf, hi⟩ := Option.isSome_iff_exists.1 info_u8'
  exact equal_self w 9998 Tryd.underlying25 Tryd.underlying5 hi cells_u8 _ (fun i => l.getD i 0) (fun i hlt => by rw [List.getElem?_toArray, bv_at _ (by omega)])

set_option maxHeartbeats 400000 in
theorem out (A : Option Addr) (len cap : Nat) (w : World) (hl : 200 < len) (hm : len ≤ 9223372036854775807) (hK : KIn w) :
    Calls Tryd.prog 3 #[.slice A len cap] w fun e w' => e = .returned (.bool true) ∧ Below w.heap.size w w' := by
  go_enter Tryd.func3, Tryd.ntmps3
  go_wp2_with fail
  refine (awake _ hK).mono ?_
  rintro e w1 ⟨rfl, k1⟩
  go_wp2_with fail
  go_ret
  exact ⟨rfl, k1⟩

set_option maxHeartbeats 1000000 in
theorem within (A : Option Addr) (len cap : Nat) (zs : List Int) (w : World) (hr : RowIn.RowIn .u8 w A len cap zs) (hl : len ≤ 200) (hK : KIn w) :
    Calls Tryd.prog 3 #[.slice A len cap] w fun e w' => e = .returned (.bool true) ∧ Below w.heap.size w w' := by
  obtain ⟨bs, hbs⟩ : ∃ bs, zs.take len = bs := ⟨_, rfl⟩
  have hlen : bs.length = len := by
    have h1 := hr.1
    have h3 := hr.2.2.1
    rw [← hbs]; simp; omega
  have hB : ∀ x ∈ padL bs, B x := by
    refine SumM.padL_B (fun x hx => ?_) (by omega)
    rw [← hbs] at hx
    have := hr.2.2.2.1 x (List.mem_of_mem_take hx)
    simpa [B, Lit.wf, IntKind.min, IntKind.max, IntKind.bits, IntKind.signed] using this
  have hPl := padL_length bs
  have hPh := nPad_hi bs.length
  have s1 : ∀ W : World, Below w.heap.size w W → Calls Tryd.prog 10 #[.slice A len cap] W fun e w' => e = .returned (.agg (bv (sumL bs)).toArray) ∧ Below W.heap.size W w' := fun W hW => by
    have q := ShaH.sum (hr.below hW) (by omega) (hK.below hW)
    rw [hbs] at q
    exact q
  have s2 : ∀ W : World, Below w.heap.size w W → Calls Tryd.prog 11 #[.slice A len cap] W fun e w' => e = .returned (.agg (bv (sumL bs)).toArray) ∧ Below W.heap.size W w' := fun W hW => by
    have q := RefW.sum (hr.below hW) (by omega)
    rw [hbs] at q
    exact q
  have s3 : ∀ W : World, Below w.heap.size w W → Calls Tryd.prog 12 #[.slice A len cap] W (Fresh (padL bs) W) := fun W hW => by
    have q := ShaF.pad (hr.below hW) (by omega)
    rw [hbs] at q
    exact q
  have s4 : ∀ W : World, Below w.heap.size w W → Calls Tryd.prog 13 #[.slice A len cap] W (RefV.RowOut (padL bs) W) := fun W hW => by
    have q := RefV.pad (hr.below hW) (by omega)
    rw [hbs] at q
    exact q
  have q := eqId (sumL bs) (sumL_length bs)
  obtain ⟨S, hS⟩ : ∃ S, (bv (sumL bs)).toArray = S := ⟨_, rfl⟩
  obtain ⟨P, hP⟩ : ∃ P, padL bs = P := ⟨_, rfl⟩
  rw [hS] at q s1 s2
  rw [hP] at s3 s4 hB hPl
  have hPm : P.length ≤ 272 := by omega
  have S1 := RotF.aside s1
  have S2 := RotF.aside s2
  have S3 := RotF.aside s3
  have S4 := RotF.aside s4
  have HB := RotF.aside hB
  clear s1 s2 s3 s4 hB hPl hPh hS hP hlen hbs hr
  go_enter Tryd.func3, Tryd.ntmps3
  go_wp2_with fail
  refine (awake _ hK).mono ?_
  rintro e w1 ⟨rfl, k1⟩
  go_wp2_with fail
  go_region_with (first
    | (go_at_call 10; refine (S1.out _ (below_drew1 k1)).mono ?_; rintro e w2 ⟨rfl, h2⟩; have k2 : Below w.heap.size w w2 := (below_drew1 k1).trans (h2.mono k1.size))
    | (go_at_call 11; refine (S2.out _ k2).mono ?_; rintro e w3 ⟨rfl, h3⟩; have k3 : Below w.heap.size w w3 := k2.trans (h3.mono k2.size))
    | (go_at_call 12; refine (S3.out _ k3).mono ?_; rintro e w4 ⟨g4, rfl, _, A4, h4⟩; have k4 : Below w.heap.size w w4 := k3.trans (h4.mono k3.size); have v4 := conv_row (rowIn_at A4 (by unfold maxLen; omega) HB.out); rw [List.take_length] at v4)
    | (go_at_call 13; refine (S4.out _ k4).mono ?_; rintro e w5 ⟨g5, c5, rfl, _, _, _, A5, h5⟩; have k5 : Below w.heap.size w w5 := k4.trans (h5.mono k4.size); have v5 := conv_row (rowIn_at (A4.below h5 A4.lt) (by unfold maxLen; omega) HB.out); rw [List.take_length] at v5; have v6 := fun c => conv_cells (cap := c) A5 HB.out))
  all_goals
    clear S1 S2 S3 S4 HB k1 k2 k3 k4 q
    go_wp2
    go_ret
    exact ⟨rfl, k5⟩

theorem walk (a0 : Option Addr) (len0 cap0 : Nat) (z0 : List Int) (w : World) (w0 : RowIn.RowIn .u8 w a0 len0 cap0 z0) (hK : KIn w) :
    Calls Tryd.prog 3 #[.slice a0 len0 cap0] w fun e w' => e = .returned (.bool true) ∧ Below w.heap.size w w' := by
  by_cases h : 200 < len0
  · have h1 := w0.1
    have h2 := w0.2.1
    unfold maxLen at h2
    exact out a0 len0 cap0 w h (by omega) hK
  · exact within a0 len0 cap0 z0 w w0 (by omega) hK

theorem own : ownKnob Tryd.prog.godebug = none := by kernel_rfl
theorem laidOut : laidOutB Tryd.prog = true := by kernel_rfl
set_option linter.unusedVariables false in
set_option maxRecDepth 100000 in
theorem lifted (os : Os) (started : os.Started) (H : Type) (enc : TypeId × Value → H) :
    ReturnsInHanded {} Tryd.checked os 3 .any (fun w args => (Rows.shaSumsSpec.pre enc Tryd.prog Tryd.f3 [] false w args ∧ laidMetH Tryd.prog ShaL.laid1 w) ∧ sizedMet enc Tryd.prog Tryd.f3 (OpenSpec.ofChange Rows.shaSumsSpec) false w args)
      (Rows.shaSumsSpec.post enc Tryd.prog Tryd.f3 false true false false) := by
  refine returnsInHanded_of_change_and (C := Tryd.checked) (X := fun w _ => laidMetH Tryd.prog ShaL.laid1 w) (fun _ _ _ hh h => h.of_heap hh) own started (by kernel_rfl) Tryd.func3
    (ChangeSpec.witness_shaped (enc := enc) (C := Tryd.checked) (os := os) (X := fun w _ => laidMetH Tryd.prog ShaL.laid1 w) false (World.doorLaid Tryd.prog 14 os) #[.slice none 0 0] 8 rfl (World.shaped_of_RefB (by kernel_rfl) (by kernel_rfl)) (by kernel_rfl) (by kernel_rfl) (by kernel_rfl) (ShaL.door_met os _)) ?_
  intro W base args ds gs before hval0 hW _ _ hL _
  have hval : ∀ (j : Nat) t v, Tryd.f3.params[j]? = some t → args[j]? = some v → Value.okWide Tryd.prog W .any base t v := hval0
  have hW' := hW
  obtain ⟨p, q, hA0, hV, rfl, hfz, hnd⟩ := hW
  have hA : DataW.TrodAll enc Tryd.prog W 0 (fun _ => true) true Tryd.f3.params.toList args.toList ds p := hA0
  rw [Tryd.params3] at hA hval
  obtain ⟨v0, vs0, d0, ds0, p0, q0, hargs, rfl, rfl, h0, r0⟩ := trodAll_cons hA
  obtain ⟨rfl, rfl, rfl⟩ := trodAll_nil r0
  obtain rfl : args = #[v0] := by cases args; simp_all
  obtain ⟨rfl, rfl⟩ := trodVars_none hV
  have k0 := h0
  have lt0 : ∀ x ∈ p0, x.block < W.heap.size := by obtain ⟨m, hm⟩ := k0; exact DataW.trod_lt m _ _ _ hm
  obtain ⟨a0, len0, cap0, z0, rfl, w0⟩ := RowIn.open_row Tryd.underlying22 Tryd.underlying5 (by kernel_rfl) (hval 0 22 v0 rfl rfl) h0
  clear hA0 hval0
  refine (walk a0 len0 cap0 z0 W w0 (ShaL.of_laid hL)).mono fun e W' ⟨he, bel⟩ => ?_
  subst he
  exact ⟨_, rfl, _, _, _, [], _, [], hW', trodAll_mk1 (shut_bool Tryd.underlying4 _), (trodAll_cons_mk (Below.trod laidOut (by kernel_rfl) (of_decide_eq_true (by kernel_rfl)) k0 bel lt0) trodAll_mk0), rfl, bel.frame _, fun h => by cases h⟩

theorem over : Rows.shaSumsRow.holds Tryd.pinned (OpenSpec.ofChange Rows.shaSumsSpec) :=
  OpenClaim.holds_of_wide 3 Tryd.f3 rfl rfl rfl rfl rfl rfl rfl ⟨rfl, rfl, rfl, rfl, rfl⟩ rfl rfl rfl rfl rfl (by kernel_rfl) Tryd.func3 (by kernel_rfl)
    (of_decide_eq_true (by kernel_rfl)) (by unfold Func.isWrapper; first | (rw [if_pos (by decide +kernel)]; kernel_rfl) | (rw [if_neg (by decide +kernel)]; exact ⟨rfl, rfl⟩))
    (fun os started H enc _ => lifted os started H enc)

theorem proved : Rows.ShaSumsCardSaid :=
  Claim7.holds_tied_plain_at .later [] Rows.shaSumsCard.laidKinds true Rows.shaSumsCard.stood.harness Rows.shaSumsCard.stood.looks
    over (fun _ h => by cases h) (by kernel_rfl) (fun _ h => by cases h) shaSums_row_tie rfl ⟨rfl, rfl⟩ (by kernel_rfl) rfl
    (fun f fn hf hfn => by
      obtain rfl : f = 3 := Option.some.inj ((show Tryd.prog.funcNamed "anabranch/anabranchlaw02.ShaSums" = some 3 by kernel_rfl).symm.trans hf) |>.symm
      obtain rfl : fn = Tryd.f3 := (Option.some.inj (Tryd.func3.symm.trans hfn)).symm
      exact ⟨by kernel_rfl, fun j t ht => by
        rw [Tryd.params3] at ht
        have hm : t ∈ [22] := by simpa using Array.mem_of_getElem? ht
        have hall : ([22].all fun u => !Tryd.prog.wantsStandIn u) = true := by kernel_rfl
        exact (show Tryd.prog.wantsStandIn t = false by simpa using List.all_eq_true.1 hall t hm)⟩)
    (by kernel_rfl)
end Go.Proofs.YtfndeemngimjcaaDoor.shaSums
