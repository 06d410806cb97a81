/- ShaBlocks returns true for every input, where the table of constants is as the program's text lays it: sha.Block and sha.Start are what the document's own answers are. No other condition. -/
import Derived.Test.YtfndeemngimjcaaDoorShaA
import Derived.Test.YtfndeemngimjcaaDoorShaL
import Derived.Test.YtfndeemngimjcaaDoorRotH
import Derived.Test.YtfndeemngimjcaaDoorRefU
import Derived.Test.YtfndeemngimjcaaDoorOpenH
import Derived.Test.YtfndeemngimjcaaDoorArrEq
import Derived.Test.YtfndeemngimjcaaDoorCards
import Derived.Test.YtfndeemngimjcaaDoorTie
import Derived.ChangeOld
namespace Go.Proofs.YtfndeemngimjcaaDoor.shaBlocks
open Go.ChangeShapes Go.WideShapes Go.ChangeAt Go.RowKit RotM RotN RotC RotD RotG Small ShaM ShaD ShaE ShaA ArrEq

theorem info_u32 : (Tryd.prog.info? 29).isSome = true := by kernel_rfl
theorem cells_u32 : Tryd.prog.cellsOf 29 = 1 := by kernel_rfl
theorem eqw (h : H8) (w : World) : Sem.run Tryd.prog (Op.equalIn 10000 30 (.agg h.vals) (.agg h.vals)) w = .ok true w := by
  obtain ⟨inf, hi⟩ := Option.isSome_iff_exists.1 info_u32
  exact equal_self w 9998 Tryd.underlying30 Tryd.underlying29 hi cells_u32 _ (fun i => u (h.w i)) (fun i hlt => h.vals_at hlt)

set_option maxHeartbeats 400000 in
theorem out (h : H8) (A : Option Addr) (len cap : Nat) (w : World) (hl : 100 < len) (hm : len ≤ 9223372036854775807) (hK : KIn w) :
    Calls Tryd.prog 4 #[.agg h.vals, .slice A len cap] w fun e w' => e = .returned (.bool true) ∧ Below w.heap.size w w' := by
  go_enter Tryd.func4, Tryd.ntmps4
  go_wp2_with fail
  refine (awake _ (hK.below (by go_grown))).mono ?_
  rintro e w1 ⟨rfl, k1⟩
  have k2 : Below w.heap.size w w1 := Below.trans (by go_grown) (k1.mono (by simp))
  clear k1
  go_wp2_with fail
  go_ret
  exact ⟨rfl, k2⟩

/-- The walk, whatever both blocks come to, if they come to the same. -/
theorem within (h r : H8) (c : Bool) (A : Option Addr) (len cap : Nat) (w : World) (hl : len ≤ 100) (hK : KIn w)
    (h1 : Hid (∀ w', Below w.heap.size w w' → Calls Tryd.prog 14 #[.agg h.vals, .slice A len cap] w' fun e w'' => e = .returned (.tuple #[.agg r.vals, .bool c]) ∧ Below w'.heap.size w' w''))
    (h2 : Hid (∀ w', Below w.heap.size w w' → Calls Tryd.prog 15 #[.agg h.vals, .slice A len cap] w' fun e w'' => e = .returned (.tuple #[.agg r.vals, .bool c]) ∧ Below w'.heap.size w' w'')) :
    Calls Tryd.prog 4 #[.agg h.vals, .slice A len cap] w fun e w' => e = .returned (.bool true) ∧ Below w.heap.size w w' := by
  have q1 := eqw r
  have q2 := eqw startS
  go_enter Tryd.func4, Tryd.ntmps4
  go_wp2_with fail
  refine (awake _ (hK.below (by go_grown))).mono ?_
  rintro e w1 ⟨rfl, k1⟩
  have A2 := (At.new w h.vals 30).below k1 (by simp)
  have k2 : Below w.heap.size w w1 := Below.trans (by go_grown) (k1.mono (by simp))
  clear k1
  go_wp2_with (refine wpList_load_at rfl 30 _ rfl _ rfl _ _ A2 Tryd.underlying30 rfl ?c2 ?_; (case c2 => exact info8))
  refine (h1.out w1 k2).mono ?_
  rintro e w2 ⟨rfl, m2⟩
  have B2 := A2.below m2 A2.lt
  have k3 := k2.trans (m2.mono k2.size)
  clear A2 k2 m2
  go_wp2_with (first | (refine wpList_store_last rfl 30 (.tmp 6) _ rfl _ _ _ 30 rfl _ rfl ?c1 rfl ?c2 ?c3 ?c4 ?_; (case c1 => simp); (case c2 => exact info8); (case c3 => rfl); (case c4 => exact one8 _)) | (refine wpList_load_at rfl 30 (.tmp 2) rfl _ rfl _ _ (B2.alloc _) Tryd.underlying30 rfl ?c2 ?_; (case c2 => exact info8)))
  have k4 : Below w.heap.size w (w2.alloc (.cells r.vals 30)) := k3.alloc k3.size _
  refine (h2.out _ k4).mono ?_
  rintro e w3 ⟨rfl, m3⟩
  have C6 := (At.new w2 r.vals 30).below m3 (by simp)
  have k5 := k4.trans (m3.mono k4.size)
  have l6 := C6.lt
  clear B2 k3 k4 m3
  go_wp2_with (first | (refine wpList_store_last rfl 30 (.tmp 8) _ rfl _ _ _ 30 rfl _ rfl ?c1 rfl ?c2 ?c3 ?c4 ?_; (case c1 => simp); (case c2 => exact info8); (case c3 => rfl); (case c4 => exact one8 _)) | (refine wpList_load_at rfl 30 (.tmp 6) rfl _ rfl _ _ (C6.alloc _) Tryd.underlying30 rfl ?c2 ?_; (case c2 => exact info8)) | (refine wpList_load_at rfl 30 (.tmp 8) rfl _ rfl _ _ (At.new _ _ _) Tryd.underlying30 rfl ?c2 ?_; (case c2 => exact info8)))
  have k6 : Below w.heap.size w (w3.alloc (.cells r.vals 30)) := k5.alloc k5.size _
  clear k5
  refine (ShaC.start _).mono ?_
  rintro e w4 ⟨rfl, m4⟩
  have k7 := k6.trans (m4.mono k6.size)
  clear k6 m4
  go_wp2_with fail
  refine (RefS.start _).mono ?_
  rintro e w5 ⟨rfl, m5⟩
  have k8 := k7.trans (m5.mono k7.size)
  clear k7 m5
  go_wp2_with fail
  go_ret
  exact ⟨rfl, k8⟩

theorem walk (a0 : H8) (a1 : Option Addr) (len1 cap1 : Nat) (z1 : List Int) (w : World) (w1 : RowIn.RowIn .u8 w a1 len1 cap1 z1) (hK : KIn w) :
    Calls Tryd.prog 4 #[.agg a0.vals, .slice a1 len1 cap1] w fun e w' => e = .returned (.bool true) ∧ Below w.heap.size w w' := by
  have h1 := w1.1
  by_cases h : 100 < len1
  · have h2 := w1.2.1
    unfold maxLen at h2
    exact out a0 a1 len1 cap1 w h (by omega) hK
  · by_cases h64 : len1 = 64
    · subst h64
      obtain ⟨b, off, rfl, hcell⟩ := w1.plain (by omega)
      have hb : b < w.heap.size := block_lt_of_cell (hcell 0 (by omega))
      have hf : ∀ i, B (z1.getD i 0) := fun i => RotH.byte_at w1.2.2.2.1 i
      exact within a0 _ true _ 64 cap1 w (by omega) hK
        (fun w' hw => block_yes a0 b off cap1 (fun i => z1.getD i 0) hf h1 w' (fun i hi => (hw.cell hb).trans (hcell i (by omega))) (hK.below hw))
        (fun w' hw => RefU.block_yes a0 b off cap1 (fun i => z1.getD i 0) hf w' (fun i hi => (hw.cell hb).trans (hcell i (by omega))))
    · exact within a0 a0 false a1 len1 cap1 w (by omega) hK (fun w' _ => block_no a0 a1 len1 cap1 h64 w') (fun w' _ => RefU.block_no a0 a1 len1 cap1 h64 w')

theorem own : ownKnob Tryd.prog.godebug = none := by kernel_rfl
theorem laidOut : laidOutB Tryd.prog = true := by kernel_rfl
set_option linter.unusedVariables false in
set_option maxRecDepth 100000 in
theorem lifted (os : Os) (started : os.Started) (H : Type) (enc : TypeId × Value → H) :
    ReturnsInHanded {} Tryd.checked os 4 .any (fun w args => (Rows.shaBlocksSpec.pre enc Tryd.prog Tryd.f4 [] false w args ∧ laidMetH Tryd.prog ShaL.laid1 w) ∧ sizedMet enc Tryd.prog Tryd.f4 (OpenSpec.ofChange Rows.shaBlocksSpec) false w args)
      (Rows.shaBlocksSpec.post enc Tryd.prog Tryd.f4 false true false false) := by
  refine returnsInHanded_of_change_and (C := Tryd.checked) (X := fun w _ => laidMetH Tryd.prog ShaL.laid1 w) (fun _ _ _ hh h => h.of_heap hh) own started (by kernel_rfl) Tryd.func4
    (ChangeSpec.witness_shaped (enc := enc) (C := Tryd.checked) (os := os) (X := fun w _ => laidMetH Tryd.prog ShaL.laid1 w) false (World.doorLaid Tryd.prog 14 os) #[.agg #[.int .u32 0, .int .u32 0, .int .u32 0, .int .u32 0, .int .u32 0, .int .u32 0, .int .u32 0, .int .u32 0], .slice none 0 0] 8 rfl (World.shaped_of_RefB (by kernel_rfl) (by kernel_rfl)) (by kernel_rfl) (by kernel_rfl) (by kernel_rfl) (ShaL.door_met os _)) ?_
  intro W base args ds gs before hval0 hW _ _ hL _
  have hval : ∀ (j : Nat) t v, Tryd.f4.params[j]? = some t → args[j]? = some v → Value.okWide Tryd.prog W .any base t v := hval0
  have hW' := hW
  obtain ⟨p, q, hA0, hV, rfl, hfz, hnd⟩ := hW
  have hA : DataW.TrodAll enc Tryd.prog W 0 (fun _ => true) true Tryd.f4.params.toList args.toList ds p := hA0
  rw [Tryd.params4] at hA hval
  obtain ⟨v0, vs0, d0, ds0, p0, q0, hargs, rfl, rfl, h0, r0⟩ := trodAll_cons hA
  obtain ⟨v1, vs1, d1, ds1, p1, q1, rfl, rfl, rfl, h1, r1⟩ := trodAll_cons r0
  obtain ⟨rfl, rfl, rfl⟩ := trodAll_nil r1
  obtain rfl : args = #[v0, v1] := by cases args; simp_all
  obtain ⟨rfl, rfl⟩ := trodVars_none hV
  have k0 := h0
  have lt0 : ∀ x ∈ p0, x.block < W.heap.size := by obtain ⟨m, hm⟩ := k0; exact DataW.trod_lt m _ _ _ hm
  obtain ⟨a0, rfl⟩ := OpenH.open_h8 Tryd.underlying30 Tryd.underlying29 (by kernel_rfl) (by kernel_rfl) (hval 0 30 v0 rfl rfl) h0
  have k1 := h1
  have lt1 : ∀ x ∈ p1, x.block < W.heap.size := by obtain ⟨m, hm⟩ := k1; exact DataW.trod_lt m _ _ _ hm
  obtain ⟨a1, len1, cap1, z1, rfl, w1⟩ := RowIn.open_row Tryd.underlying22 Tryd.underlying5 (by kernel_rfl) (hval 1 22 v1 rfl rfl) h1
  clear hA0 hval0
  refine (walk a0 a1 len1 cap1 z1 W w1 (ShaL.of_laid hL)).mono fun e W' ⟨he, bel⟩ => ?_
  subst he
  exact ⟨_, rfl, _, _, _, [], _, [], hW', trodAll_mk1 (shut_bool Tryd.underlying4 _), (trodAll_cons_mk (Below.trod laidOut (by kernel_rfl) (of_decide_eq_true (by kernel_rfl)) k0 bel lt0) (trodAll_cons_mk (Below.trod laidOut (by kernel_rfl) (of_decide_eq_true (by kernel_rfl)) k1 bel lt1) trodAll_mk0)), rfl, bel.frame _, fun h => by cases h⟩

theorem over : Rows.shaBlocksRow.holds Tryd.pinned (OpenSpec.ofChange Rows.shaBlocksSpec) :=
  OpenClaim.holds_of_wide 4 Tryd.f4 rfl rfl rfl rfl rfl rfl rfl ⟨rfl, rfl, rfl, rfl, rfl⟩ rfl rfl rfl rfl rfl (by kernel_rfl) Tryd.func4 (by kernel_rfl)
    (of_decide_eq_true (by kernel_rfl)) (by unfold Func.isWrapper; first | (rw [if_pos (by decide +kernel)]; kernel_rfl) | (rw [if_neg (by decide +kernel)]; exact ⟨rfl, rfl⟩))
    (fun os started H enc _ => lifted os started H enc)

theorem proved : Rows.ShaBlocksCardSaid :=
  Claim7.holds_tied_plain_at .later [] Rows.shaBlocksCard.laidKinds true Rows.shaBlocksCard.stood.harness Rows.shaBlocksCard.stood.looks
    over (fun _ h => by cases h) (by kernel_rfl) (fun _ h => by cases h) shaBlocks_row_tie rfl ⟨rfl, rfl⟩ (by kernel_rfl) rfl
    (fun f fn hf hfn => by
      obtain rfl : f = 4 := Option.some.inj ((show Tryd.prog.funcNamed "anabranch/anabranchlaw02.ShaBlocks" = some 4 by kernel_rfl).symm.trans hf) |>.symm
      obtain rfl : fn = Tryd.f4 := (Option.some.inj (Tryd.func4.symm.trans hfn)).symm
      exact ⟨by kernel_rfl, fun j t ht => by
        rw [Tryd.params4] at ht
        have hm : t ∈ [30, 22] := by simpa using Array.mem_of_getElem? ht
        have hall : ([30, 22].all fun u => !Tryd.prog.wantsStandIn u) = true := by kernel_rfl
        exact (show Tryd.prog.wantsStandIn t = false by simpa using List.all_eq_true.1 hall t hm)⟩)
    (by kernel_rfl)
end Go.Proofs.YtfndeemngimjcaaDoor.shaBlocks
