/- IdsWrites returns true for every input: any id is written, and any text is the id, or none, that the document says; what is written is read. No condition. -/
import Derived.Test.YtbggegpbcgcknaaIdA
import Derived.Test.YtbggegpbcgcknaaOpenI
import Derived.ShutString
import Derived.ChangeOld
namespace Go.Proofs.Ytbggegpbcgcknaa.idsWrites
open Go Go.ChangeShapes Go.WideShapes Go.ChangeAt Go.RowKit IdM Byt IdW IdB IdC IdV IdU IdY IdX IdH IdI IdJ IdG IdA

theorem val_two {l : List Int} {i : Nat} (h : 0 ≤ dg l (2 * i) ∧ 0 ≤ dg l (2 * i + 1)) : hd (val l i / 16) = l.getD (2 * i) 0 ∧ hd (val l i % 16) = l.getD (2 * i + 1) 0 := by
  have a := hd_dig (c := l.getD (2 * i) 0) h.1
  have b := hd_dig (c := l.getD (2 * i + 1) 0) h.2
  have e : val l i = 16 * dg l (2 * i) + dg l (2 * i + 1) := by unfold val; rw [if_pos h]
  unfold dg at e h
  rw [e, show (16 * dig (l.getD (2 * i) 0) + dig (l.getD (2 * i + 1) 0)) / 16 = dig (l.getD (2 * i) 0) by omega, show (16 * dig (l.getD (2 * i) 0) + dig (l.getD (2 * i + 1) 0)) % 16 = dig (l.getD (2 * i + 1) 0) by omega]
  exact ⟨a.1, b.1⟩
/-- What is read is written so. -/
theorem hex_read {l : List Int} (h : okB l = true) : hexL (readI l) = l := by
  unfold readI
  rw [if_pos h]
  unfold okB at h
  rw [Bool.and_eq_true, decide_eq_true_eq, List.all_eq_true] at h
  obtain ⟨hl, h⟩ := h
  refine list_ext (by rw [hexL_length, hl]) (fun j hj => ?_)
  rw [hexL_length] at hj
  have hi : j / 2 < 32 := by omega
  have hd2 := h (j / 2) (by simpa using hi)
  simp only [Bool.and_eq_true, decide_eq_true_eq] at hd2
  have t := two_at (pre l 32).1 (j / 2) (by rw [Idn_len]; exact hi)
  rw [pre_at l 32 _ hi, if_pos hi] at t
  have v := val_two hd2
  unfold hexL
  by_cases h2 : j % 2 = 0
  · rw [show j = 2 * (j / 2) by omega, t.1, v.1]
  · rw [show j = 2 * (j / 2) + 1 by omega, t.2, v.2]

set_option maxRecDepth 100000 in
set_option maxHeartbeats 8000000 in
theorem walk (x : Idn) (s : ByteArray) (w : World) (hs : s.size ≤ maxLen) :
    Calls Try.prog 4 #[.agg (cs x), .string s] w fun e w' => e = .returned (.bool true) ∧ Below w.heap.size w w' := by
  have Xb : Box (w.alloc (.cells (cs x) 24)) (w.heap.size) x := by
    have := Box.new w x 24
    simpa using this
  have kb0 : Below w.heap.size w (w.alloc (.cells (cs x) 24)) := (Below.refl _ _).alloc (Nat.le_refl _) _
  go_enter Try.func4, Try.ntmps4
  go_wp2_with fail
  refine (awake_ret _).mono ?_
  rintro e w1 ⟨rfl, k1⟩
  have Xb' := IdG.Box.on Xb k1
  have kb' := kb0.trans (k1.mono kb0.size)
  clear Xb kb0 k1
  have Xb := Xb'
  have kb := kb'
  clear Xb' kb'
  have hm : s.size ≤ 9223372036854775807 := by unfold maxLen at hs; omega
  by_cases h200 : 200 < s.size
  · go_wp2_with fail
    go_ret
    exact ⟨rfl, kb⟩
  obtain ⟨r, hr⟩ : ∃ r, readI (bytesL s) = r := ⟨_, rfl⟩
  obtain ⟨q, hq⟩ : ∃ q, okB (bytesL s) = q := ⟨_, rfl⟩
  obtain ⟨t, ht⟩ : ∃ t, Byt.strOf (hexL x) = t := ⟨_, rfl⟩
  have hbt : bytesL t = hexL x := by rw [← ht, bytesL_strOf (hexL_B _)]
  have hrq : q = true → Byt.strOf (hexL r) = s := fun e => by
    rw [← hr, hex_read (by rw [hq, e]), strOf_bytesL]
  have HR := aside hr
  have HQ := aside hq
  have HT := aside ht
  have HB := aside hbt
  have HRQ := aside hrq
  have heq1 : ∀ W, (Op.equalIn 10000 24 (.agg (cs r)) (.agg (cs r))).run Try.prog W = .ok true W := fun W => by rw [equal W 9998 r r, decide_eq_true rfl]
  have heq2 : ∀ W, (Op.equalIn 10000 24 (.agg (cs x)) (.agg (cs x))).run Try.prog W = .ok true W := fun W => by rw [equal W 9998 x x, decide_eq_true rfl]
  clear hr hq ht hbt hrq
  go_wp2_with fail
  refine (read_ret s _).mono ?_
  rintro e w2 ⟨rfl, k2⟩
  rw [HR.out, HQ.out]
  have Xb' := IdG.Box.on Xb k2
  have kb' := kb.trans (k2.mono kb.size)
  clear Xb kb k2
  have Xb := Xb'
  have kb := kb'
  clear Xb' kb'
  go_wp2_with (first | (refine wpList_alloc_id rfl rfl ?_) | (refine wpList_store_new rfl _ _ rfl _ _ r _ rfl _ rfl (by simp) rfl (cs_size _) ?_))
  have Pb := Box.new w2 r 24
  have Xb' := Xb.alloc (.cells (cs r) 24)
  clear Xb
  have Xb := Xb'
  clear Xb'
  have kb' := kb.alloc kb.size (.cells (cs r) 24)
  clear kb
  have kb := kb'
  clear kb'
  refine (rread_ret s _).mono ?_
  rintro e w3 ⟨rfl, k3⟩
  rw [HR.out, HQ.out]
  have Xb' := IdG.Box.on Xb k3
  have Pb' := IdG.Box.on Pb k3
  have kb' := kb.trans (k3.mono kb.size)
  clear Xb Pb kb k3
  have Xb := Xb'
  have Pb := Pb'
  have kb := kb'
  clear Xb' Pb' kb'
  go_wp2_with (first | (refine wpList_alloc_id rfl rfl ?_) | (refine wpList_store_new rfl _ _ rfl _ _ r _ rfl _ rfl (by simp) rfl (cs_size _) ?_) | (refine wpList_load_box rfl _ rfl _ rfl x (Xb.alloc _) ?_))
  have Qb := Box.new w3 r 24
  have Xb' := Xb.alloc (.cells (cs r) 24)
  clear Xb
  have Xb := Xb'
  clear Xb'
  have Pb' := Pb.alloc (.cells (cs r) 24)
  clear Pb
  have Pb := Pb'
  clear Pb'
  have kb' := kb.alloc kb.size (.cells (cs r) 24)
  clear kb
  have kb := kb'
  clear kb'
  refine (hex_ret x _).mono ?_
  rintro e w4 ⟨rfl, k4⟩
  rw [HT.out]
  have Xb' := IdG.Box.on Xb k4
  have Pb' := IdG.Box.on Pb k4
  have Qb' := IdG.Box.on Qb k4
  have kb' := kb.trans (k4.mono kb.size)
  clear Xb Pb Qb kb k4
  have Xb := Xb'
  have Pb := Pb'
  have Qb := Qb'
  have kb := kb'
  clear Xb' Pb' Qb' kb'
  go_wp2_with fail
  refine (read_ret t _).mono ?_
  rintro e w5 ⟨rfl, k5⟩
  rw [HB.out, read_hex, ok_hex]
  have Xb' := IdG.Box.on Xb k5
  have Pb' := IdG.Box.on Pb k5
  have Qb' := IdG.Box.on Qb k5
  have kb' := kb.trans (k5.mono kb.size)
  clear Xb Pb Qb kb k5
  have Xb := Xb'
  have Pb := Pb'
  have Qb := Qb'
  have kb := kb'
  clear Xb' Pb' Qb' kb'
  cases q with
  | true =>
    go_wp2_with (first | (refine wpList_alloc_id rfl rfl ?_) | (refine wpList_store_new rfl _ _ rfl _ _ x _ rfl _ rfl (by simp) rfl (cs_size _) ?_) | (refine wpList_load_box rfl _ rfl _ rfl r (Pb.alloc _) ?_) | (refine wpList_load_box rfl _ rfl _ rfl r (Qb.alloc _) ?_) | (refine gload _ rfl _ rfl x (Xb.alloc _) rfl ?_))
    have Yb := Box.new w5 x 24
    have Xb' := Xb.alloc (.cells (cs x) 24)
    clear Xb
    have Xb := Xb'
    clear Xb'
    have Pb' := Pb.alloc (.cells (cs x) 24)
    clear Pb
    have Pb := Pb'
    clear Pb'
    have Qb' := Qb.alloc (.cells (cs x) 24)
    clear Qb
    have Qb := Qb'
    clear Qb'
    have kb' := kb.alloc kb.size (.cells (cs x) 24)
    clear kb
    have kb := kb'
    clear kb'
    refine (rhex_ret x _).mono ?_
    rintro e w6 ⟨rfl, k6⟩
    rw [HT.out]
    have Xb' := IdG.Box.on Xb k6
    have Pb' := IdG.Box.on Pb k6
    have Qb' := IdG.Box.on Qb k6
    have Yb' := IdG.Box.on Yb k6
    have kb' := kb.trans (k6.mono kb.size)
    clear Xb Pb Qb Yb kb k6
    have Xb := Xb'
    have Pb := Pb'
    have Qb := Qb'
    have Yb := Yb'
    have kb := kb'
    clear Xb' Pb' Qb' Yb' kb'
    go_wp2_with (first | (refine gload _ rfl _ rfl x Yb rfl ?_) | (refine gload _ rfl _ rfl x Xb rfl ?_) | (refine gload _ rfl _ rfl r Pb rfl ?_))
    refine (hex_ret r _).mono ?_
    rintro e w7 ⟨rfl, k7⟩
    rw [HRQ.out (by simp)]
    have Xb' := IdG.Box.on Xb k7
    have Pb' := IdG.Box.on Pb k7
    have Qb' := IdG.Box.on Qb k7
    have Yb' := IdG.Box.on Yb k7
    have kb' := kb.trans (k7.mono kb.size)
    clear Xb Pb Qb Yb kb k7
    have Xb := Xb'
    have Pb := Pb'
    have Qb := Qb'
    have Yb := Yb'
    have kb := kb'
    clear Xb' Pb' Qb' Yb' kb'
    go_wp2_with fail
    go_ret
    exact ⟨rfl, kb⟩
  | false =>
    go_wp2_with (first | (refine wpList_alloc_id rfl rfl ?_) | (refine wpList_store_new rfl _ _ rfl _ _ x _ rfl _ rfl (by simp) rfl (cs_size _) ?_) | (refine wpList_load_box rfl _ rfl _ rfl r (Pb.alloc _) ?_) | (refine wpList_load_box rfl _ rfl _ rfl r (Qb.alloc _) ?_) | (refine gload _ rfl _ rfl x (Xb.alloc _) rfl ?_))
    have Yb := Box.new w5 x 24
    have Xb' := Xb.alloc (.cells (cs x) 24)
    clear Xb
    have Xb := Xb'
    clear Xb'
    have Pb' := Pb.alloc (.cells (cs x) 24)
    clear Pb
    have Pb := Pb'
    clear Pb'
    have Qb' := Qb.alloc (.cells (cs x) 24)
    clear Qb
    have Qb := Qb'
    clear Qb'
    have kb' := kb.alloc kb.size (.cells (cs x) 24)
    clear kb
    have kb := kb'
    clear kb'
    refine (rhex_ret x _).mono ?_
    rintro e w6 ⟨rfl, k6⟩
    rw [HT.out]
    have Xb' := IdG.Box.on Xb k6
    have Pb' := IdG.Box.on Pb k6
    have Qb' := IdG.Box.on Qb k6
    have Yb' := IdG.Box.on Yb k6
    have kb' := kb.trans (k6.mono kb.size)
    clear Xb Pb Qb Yb kb k6
    have Xb := Xb'
    have Pb := Pb'
    have Qb := Qb'
    have Yb := Yb'
    have kb := kb'
    clear Xb' Pb' Qb' Yb' kb'
    go_wp2_with (first | (refine gload _ rfl _ rfl x Yb rfl ?_) | (refine gload _ rfl _ rfl x Xb rfl ?_))
    go_ret
    exact ⟨rfl, kb⟩

theorem own : ownKnob Try.prog.godebug = none := by kernel_rfl
theorem laidOut : laidOutB Try.prog = true := by kernel_rfl
set_option linter.unusedVariables false in
set_option maxRecDepth 100000 in
theorem lifted (os : Os) (started : os.Started) (H : Type) (enc : TypeId × Value → H) :
    ReturnsInHanded {} Try.checked os 4 .any (Rows.idsWritesSpec.pre6 enc Try.prog Try.f4 Rows.idsWritesRow.domain false) (Rows.idsWritesSpec.post enc Try.prog Try.f4 false true false false) := by
  refine returnsInHanded_of_change (C := Try.checked) own started (by kernel_rfl) Try.func4
    (ChangeSpec.witness6 (enc := enc) (C := Try.checked) false ⟨#[], #[.agg #[.int .u8 0, .int .u8 0, .int .u8 0, .int .u8 0, .int .u8 0, .int .u8 0, .int .u8 0, .int .u8 0, .int .u8 0, .int .u8 0, .int .u8 0, .int .u8 0, .int .u8 0, .int .u8 0, .int .u8 0, .int .u8 0, .int .u8 0, .int .u8 0, .int .u8 0, .int .u8 0, .int .u8 0, .int .u8 0, .int .u8 0, .int .u8 0, .int .u8 0, .int .u8 0, .int .u8 0, .int .u8 0, .int .u8 0, .int .u8 0, .int .u8 0, .int .u8 0], .string ByteArray.empty], []⟩ 8 (by kernel_rfl) (by kernel_rfl) (by kernel_rfl) (by kernel_rfl)) ?_
  intro W base args ds gs before hval0 hW hcnd _
  have hval : ∀ (j : Nat) t v, Try.f4.params[j]? = some t → args[j]? = some v → Value.okWide Try.prog W .any base t v := hval0
  have hW' := hW
  obtain ⟨p, q, hA0, hV, rfl, hfz, hnd⟩ := hW
  have hA : DataW.TrodAll enc Try.prog W 0 (fun _ => true) true Try.f4.params.toList args.toList ds p := hA0
  rw [Try.params4] at hA hval
  obtain ⟨v0, vs0, d0, ds0, p0, q0, hargs, rfl, rfl, h0, r0⟩ := trodAll_cons hA
  obtain ⟨v1, vs1, d1, ds1, p1, q1, rfl, rfl, rfl, h1, r1⟩ := trodAll_cons r0
  obtain ⟨rfl, rfl, rfl⟩ := trodAll_nil r1
  obtain rfl : args = #[v0, v1] := by cases args; simp_all
  obtain ⟨rfl, rfl⟩ := trodVars_none hV
  have k0 := h0
  have lt0 : ∀ x ∈ p0, x.block < W.heap.size := by obtain ⟨m, hm⟩ := k0; exact DataW.trod_lt m _ _ _ hm
  obtain ⟨a0, rfl⟩ := OpenI.open_id Try.underlying24 Try.underlying5 (by kernel_rfl) (by kernel_rfl) (hval 0 24 v0 rfl rfl) h0
  obtain ⟨a1, rfl, rfl, rfl, w1⟩ := Go.ChangeMaps.open_string Try.underlying9 (hval 1 9 v1 rfl rfl) h1
  clear hA0 hval0
  refine (walk a0 a1 W w1).mono fun e W' ⟨he, bel⟩ => ?_
  subst he
  exact ⟨_, rfl, _, _, _, [], _, [], hW', trodAll_mk1 (shut_bool Try.underlying4 _), (trodAll_cons_mk (Below.trod laidOut (by kernel_rfl) (of_decide_eq_true (by kernel_rfl)) k0 bel lt0) (trodAll_cons_mk (Go.ChangeMaps.shut_string Try.underlying9 w1) trodAll_mk0)), rfl, bel.frame _, fun h => by cases h⟩

theorem over : Rows.idsWritesRow.holds Try.pinned (OpenSpec.ofChange Rows.idsWritesSpec) :=
  OpenClaim.holds_of_wide 4 Try.f4 rfl rfl rfl rfl rfl rfl rfl ⟨rfl, rfl, rfl, rfl, rfl⟩ rfl rfl rfl rfl rfl (by kernel_rfl) Try.func4 (by kernel_rfl)
    (of_decide_eq_true (by kernel_rfl)) (by unfold Func.isWrapper; first | (rw [if_pos (by decide +kernel)]; kernel_rfl) | (rw [if_neg (by decide +kernel)]; exact ⟨rfl, rfl⟩))
    (fun os started H enc _ => lifted os started H enc)

theorem proved : Rows.IdsWritesSaid := over
end Go.Proofs.Ytbggegpbcgcknaa.idsWrites
