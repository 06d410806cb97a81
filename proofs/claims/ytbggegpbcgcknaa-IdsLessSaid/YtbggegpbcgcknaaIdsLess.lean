/- IdsLess returns true for every input: of two that differ just one is Less; of three it goes on; and they are in the order of what is written of them. No condition. -/
import Derived.Test.YtbggegpbcgcknaaIdA
import Derived.Test.YtbggegpbcgcknaaOpenI
import Derived.ShutString
import Derived.ChangeOld
namespace Go.Proofs.Ytbggegpbcgcknaa.idsLess
open Go Go.ChangeShapes Go.WideShapes Go.ChangeAt Go.RowKit IdM Byt IdW IdB IdC IdV IdU IdY IdX IdH IdI IdJ IdG IdA

theorem hd_lt {m n : Int} (h0 : 0 ≤ m) (h1 : m ≤ 15) (h2 : 0 ≤ n) (h3 : n ≤ 15) : hd m < hd n ↔ m < n := by
  unfold hd
  split <;> split <;> omega
theorem hd_eq {m n : Int} (h0 : 0 ≤ m) (h1 : m ≤ 15) (h2 : 0 ≤ n) (h3 : n ≤ 15) : hd m = hd n ↔ m = n := by
  unfold hd
  split <;> split <;> omega
theorem hex_less : ∀ l m : List Int, (∀ x ∈ l, 0 ≤ x ∧ x ≤ 255) → (∀ x ∈ m, 0 ≤ x ∧ x ≤ 255) → lessL (l.flatMap fun n => [hd (n / 16), hd (n % 16)]) (m.flatMap fun n => [hd (n / 16), hd (n % 16)]) = lessL l m
  | [], [], _, _ => rfl
  | [], _ :: _, _, _ => rfl
  | a :: l, [], _, _ => rfl
  | a :: l, b :: m, hl, hm => by
    have ha := hl a (by simp)
    have hb := hm b (by simp)
    have ih := hex_less l m (fun x hx => hl x (by simp [hx])) (fun x hx => hm x (by simp [hx]))
    have e1 := hd_eq (m := a / 16) (n := b / 16) (by omega) (by omega) (by omega) (by omega)
    have e2 := hd_eq (m := a % 16) (n := b % 16) (by omega) (by omega) (by omega) (by omega)
    have t1 := hd_lt (m := a / 16) (n := b / 16) (by omega) (by omega) (by omega) (by omega)
    have t2 := hd_lt (m := a % 16) (n := b % 16) (by omega) (by omega) (by omega) (by omega)
    rw [List.flatMap_cons, List.flatMap_cons]
    simp only [List.cons_append, List.nil_append, lessL, e1, e2, t1, t2, ih]
    by_cases h1 : a / 16 = b / 16
    · by_cases h2 : a % 16 = b % 16
      · have : a = b := by omega
        simp [this]
      · have : a ≠ b := by omega
        simp only [h1, h2, this, if_true, if_false]
        congr 1
        rw [eq_iff_iff]
        omega
    · have : a ≠ b := by omega
      simp only [h1, this, if_false]
      congr 1
      rw [eq_iff_iff]
      omega
theorem bytes_less : ∀ l m : List Int, (∀ x ∈ l, B x) → (∀ x ∈ m, B x) → l.length = m.length → Op.bytesLess (l.map fun n => UInt8.ofNat n.toNat) (m.map fun n => UInt8.ofNat n.toNat) = lessL l m
  | [], [], _, _, _ => by simp [Op.bytesLess, lessL]
  | [], _ :: _, _, _, h => by simp at h
  | _ :: _, [], _, _, h => by simp at h
  | a :: l, b :: m, hl, hm, h => by
    have ha := hl a (by simp)
    have hb := hm b (by simp)
    unfold B at ha hb
    have ih := bytes_less l m (fun x hx => hl x (by simp [hx])) (fun x hx => hm x (by simp [hx])) (by simpa using h)
    have e1 : (UInt8.ofNat a.toNat = UInt8.ofNat b.toNat) ↔ a = b := by
      rw [← UInt8.toNat_inj]
      simp only [UInt8.toNat_ofNat']
      omega
    have t1 : (UInt8.ofNat a.toNat < UInt8.ofNat b.toNat) ↔ a < b := by
      rw [UInt8.lt_iff_toNat_lt]
      simp only [UInt8.toNat_ofNat']
      omega
    simp only [List.map_cons, Op.bytesLess, lessL, ih]
    by_cases hab : a = b
    · subst hab
      simp
    · have e2 : (UInt8.ofNat a.toNat == UInt8.ofNat b.toNat) = false := by
        rw [beq_eq_false_iff_ne]
        exact fun e => hab (e1.1 e)
      simp only [hab, e2, if_false, Bool.false_and, Bool.or_false]
      exact decide_eq_decide.2 t1
theorem str_less (a b : Idn) : Op.bytesLess (Byt.strOf (hexL a)).toList (Byt.strOf (hexL b)).toList = less a b := by
  rw [ByteArray.toList_eq, ByteArray.toList_eq]
  unfold Byt.strOf
  rw [bytes_less _ _ (hexL_B a) (hexL_B b) (by rw [hexL_length, hexL_length])]
  exact hex_less _ _ a.2.2 b.2.2

set_option maxRecDepth 100000 in
set_option maxHeartbeats 8000000 in
theorem walk  (a b c : Idn) (w : World)  :
    Calls Try.prog 7 #[.agg (cs a), .agg (cs b), .agg (cs c)] w fun e w' => e = .returned (.bool true) ∧ Below w.heap.size w w' := by
  have Ab : Box (((w.alloc (.cells (cs a) 24)).alloc (.cells (cs b) 24)).alloc (.cells (cs c) 24)) (w.heap.size) a := by
    have := ((Box.new w a 24).alloc (.cells (cs b) 24)).alloc (.cells (cs c) 24)
    simpa using this
  have Bb : Box (((w.alloc (.cells (cs a) 24)).alloc (.cells (cs b) 24)).alloc (.cells (cs c) 24)) (w.heap.size + 1) b := by
    have := (Box.new (w.alloc (.cells (cs a) 24)) b 24).alloc (.cells (cs c) 24)
    simpa using this
  have Cb : Box (((w.alloc (.cells (cs a) 24)).alloc (.cells (cs b) 24)).alloc (.cells (cs c) 24)) (w.heap.size + 2) c := by
    have := Box.new ((w.alloc (.cells (cs a) 24)).alloc (.cells (cs b) 24)) c 24
    simpa using this
  have kb0 : Below w.heap.size w (((w.alloc (.cells (cs a) 24)).alloc (.cells (cs b) 24)).alloc (.cells (cs c) 24)) := (((Below.refl _ _).alloc (Nat.le_refl _) _).alloc (by simp) _).alloc (by simp <;> omega) _
  go_enter Try.func7, Try.ntmps7
  go_wp2_with fail
  refine (awake_ret _).mono ?_
  rintro e w1 ⟨rfl, k1⟩
  have Ab' := IdG.Box.on Ab k1
  have Bb' := IdG.Box.on Bb k1
  have Cb' := IdG.Box.on Cb k1
  have kb' := kb0.trans (k1.mono kb0.size)
  clear Ab Bb Cb kb0 k1
  have Ab := Ab'
  have Bb := Bb'
  have Cb := Cb'
  have kb := kb'
  clear Ab' Bb' Cb' kb'
  obtain ⟨x, hx⟩ : ∃ x, less a b = x := ⟨_, rfl⟩
  obtain ⟨y, hy⟩ : ∃ y, less b a = y := ⟨_, rfl⟩
  obtain ⟨z, hz⟩ : ∃ z, less b c = z := ⟨_, rfl⟩
  have HX := aside hx
  have HY := aside hy
  have HZ := aside hz
  obtain ⟨t1, ht1⟩ : ∃ t, Byt.strOf (hexL a) = t := ⟨_, rfl⟩
  obtain ⟨t2, ht2⟩ : ∃ t, Byt.strOf (hexL b) = t := ⟨_, rfl⟩
  have hlt := str_less a b
  rw [ht1, ht2, hx] at hlt
  have HT1 := aside ht1
  have HT2 := aside ht2
  clear hx hy hz ht1 ht2
  go_wp2_with (first | (refine wpList_load_box rfl _ rfl _ rfl a Ab ?_) | (refine wpList_load_box rfl _ rfl _ rfl b Bb ?_))
  refine (less_ret a b _).mono ?_
  rintro e w2 ⟨rfl, g2⟩
  have k2 := g2.below
  clear g2
  rw [HX.out]
  have Ab' := IdG.Box.on Ab k2
  have Bb' := IdG.Box.on Bb k2
  have Cb' := IdG.Box.on Cb k2
  have kb' := kb.trans (k2.mono kb.size)
  clear Ab Bb Cb kb k2
  have Ab := Ab'
  have Bb := Bb'
  have Cb := Cb'
  have kb := kb'
  clear Ab' Bb' Cb' kb'
  go_wp2_with (first | (refine wpList_load_box rfl _ rfl _ rfl b Bb ?_) | (refine wpList_load_box rfl _ rfl _ rfl a Ab ?_))
  refine (less_ret b a _).mono ?_
  rintro e w3 ⟨rfl, g3⟩
  have k3 := g3.below
  clear g3
  rw [HY.out]
  have Ab' := IdG.Box.on Ab k3
  have Bb' := IdG.Box.on Bb k3
  have Cb' := IdG.Box.on Cb k3
  have kb' := kb.trans (k3.mono kb.size)
  clear Ab Bb Cb kb k3
  have Ab := Ab'
  have Bb := Bb'
  have Cb := Cb'
  have kb := kb'
  clear Ab' Bb' Cb' kb'
  go_wp2_with (first | (refine wpList_load_box rfl _ rfl _ rfl b Bb ?_) | (refine wpList_load_box rfl _ rfl _ rfl c Cb ?_))
  refine (less_ret b c _).mono ?_
  rintro e w4 ⟨rfl, g4⟩
  have k4 := g4.below
  clear g4
  rw [HZ.out]
  have Ab' := IdG.Box.on Ab k4
  have Bb' := IdG.Box.on Bb k4
  have Cb' := IdG.Box.on Cb k4
  have kb' := kb.trans (k4.mono kb.size)
  clear Ab Bb Cb kb k4
  have Ab := Ab'
  have Bb := Bb'
  have Cb := Cb'
  have kb := kb'
  clear Ab' Bb' Cb' kb'
  by_cases hab : a = b
  · have heq : ∀ W, (Op.equalIn 10000 24 (.agg (cs a)) (.agg (cs b))).run Try.prog W = .ok true W := fun W => by rw [equal W 9998 a b, decide_eq_true hab]
    have e1 : x = false := by rw [← HX.out, hab]; exact less_irrefl _
    have e2 : y = false := by rw [← HY.out, hab]; exact less_irrefl _
    have HAB := aside hab
    clear hab
    subst e1
    subst e2
    go_wp2_with (first | (refine gload _ rfl _ rfl a Ab rfl ?_) | (refine gload _ rfl _ rfl b Bb rfl ?_))
    refine Grow.region [(0, true), (1, true), (3, true), (2, false), (4, false), (5, true), (6, true), (7, true)] (by kernel_rfl) (by kernel_rfl) rfl (by kernel_rfl) (by intro c a d v w h; cases d <;> exact h) ?_
    rename World => V
    have ra : V.drew.rangeAt w.heap.size 0 (bv a.1) := Ab.range
    have rb : V.drew.rangeAt (w.heap.size + 1) 0 (bv b.1) := Bb.range
    have kd := below_drew1 kb
    generalize V.drew = W at ra rb kd ⊢
    repeat (first | (refine reads_id rfl rfl _ rfl _ _ rfl a ra ?_; simp only [Act.put, List.setIfInBounds_toArray, List.set_cons_succ, List.set_cons_zero]) | (refine reads_id rfl rfl _ rfl _ _ rfl b rb ?_; simp only [Act.put, List.setIfInBounds_toArray, List.set_cons_succ, List.set_cons_zero]) | (refine Grow.reads rfl rfl ?_; go_big_quiet_step (fail); refine wpQuiet_nil ?_))
    refine Grow.acts rfl ?_
    go_wp2_with fail
    refine (hex_ret a W).mono ?_
    rintro e w7 ⟨rfl, k7⟩
    rw [HT1.out]
    go_wp2_with fail
    refine ⟨k7, ?_⟩
    refine Grow.acts rfl ?_
    go_wp2_with fail
    refine (hex_ret b w7).mono ?_
    rintro e w8 ⟨rfl, k8⟩
    rw [HT2.out]
    go_wp2_with fail
    refine ⟨k8, ?_⟩
    have k9 := (kd.trans (k7.mono kd.size)).trans (k8.mono (Nat.le_trans kd.size k7.size))
    repeat (refine Grow.reads rfl rfl ?_; go_big_quiet_step (fail); refine wpQuiet_nil ?_)
    refine Grow.ends ?_
    go_wp2_with fail
    go_ret
    exact ⟨rfl, k9⟩
  · have heq : ∀ W, (Op.equalIn 10000 24 (.agg (cs a)) (.agg (cs b))).run Try.prog W = .ok false W := fun W => by rw [equal W 9998 a b, decide_eq_false hab]
    have HAB := aside hab
    clear hab
    cases x with
    | true =>
      have e2 : y = false := by rw [← HY.out]; exact less_asymm HX.out
      subst e2
      cases z with
      | true =>
        have hac := less_trans HX.out HZ.out
        have HAC := aside hac
        clear hac
        go_wp2_with (first | (refine gload _ rfl _ rfl a Ab rfl ?_) | (refine gload _ rfl _ rfl b Bb rfl ?_) | (refine gload _ rfl _ rfl c Cb rfl ?_))
        refine (less_ret a c _).mono ?_
        rintro e w5 ⟨rfl, g5⟩
        rw [HAC.out]
        have Ab' := IdG.Box.on Ab g5.below
        have Bb' := IdG.Box.on Bb g5.below
        have kb' := kb.trans (g5.below.mono kb.size)
        clear Ab Bb Cb kb g5
        have Ab := Ab'
        have Bb := Bb'
        have kb := kb'
        clear Ab' Bb' kb'
        go_wp2_with fail
        refine Grow.region [(0, true), (1, true), (3, true), (2, false), (4, false), (5, true), (6, true), (7, true)] (by kernel_rfl) (by kernel_rfl) rfl (by kernel_rfl) (by intro c a d v w h; cases d <;> exact h) ?_
        rename World => V
        have ra : V.drew.rangeAt w.heap.size 0 (bv a.1) := Ab.range
        have rb : V.drew.rangeAt (w.heap.size + 1) 0 (bv b.1) := Bb.range
        have kd := below_drew1 kb
        generalize V.drew = W at ra rb kd ⊢
        repeat (first | (refine reads_id rfl rfl _ rfl _ _ rfl a ra ?_; simp only [Act.put, List.setIfInBounds_toArray, List.set_cons_succ, List.set_cons_zero]) | (refine reads_id rfl rfl _ rfl _ _ rfl b rb ?_; simp only [Act.put, List.setIfInBounds_toArray, List.set_cons_succ, List.set_cons_zero]) | (refine Grow.reads rfl rfl ?_; go_big_quiet_step (fail); refine wpQuiet_nil ?_))
        refine Grow.acts rfl ?_
        go_wp2_with fail
        refine (hex_ret a W).mono ?_
        rintro e w7 ⟨rfl, k7⟩
        rw [HT1.out]
        go_wp2_with fail
        refine ⟨k7, ?_⟩
        refine Grow.acts rfl ?_
        go_wp2_with fail
        refine (hex_ret b w7).mono ?_
        rintro e w8 ⟨rfl, k8⟩
        rw [HT2.out]
        go_wp2_with fail
        refine ⟨k8, ?_⟩
        have k9 := (kd.trans (k7.mono kd.size)).trans (k8.mono (Nat.le_trans kd.size k7.size))
        repeat (refine Grow.reads rfl rfl ?_; go_big_quiet_step (fail); refine wpQuiet_nil ?_)
        refine Grow.ends ?_
        go_wp2_with fail
        go_ret
        exact ⟨rfl, k9⟩
      | false =>
        go_wp2_with (first | (refine gload _ rfl _ rfl a Ab rfl ?_) | (refine gload _ rfl _ rfl b Bb rfl ?_))
        refine Grow.region [(0, true), (1, true), (3, true), (2, false), (4, false), (5, true), (6, true), (7, true)] (by kernel_rfl) (by kernel_rfl) rfl (by kernel_rfl) (by intro c a d v w h; cases d <;> exact h) ?_
        rename World => V
        have ra : V.drew.rangeAt w.heap.size 0 (bv a.1) := Ab.range
        have rb : V.drew.rangeAt (w.heap.size + 1) 0 (bv b.1) := Bb.range
        have kd := below_drew1 kb
        generalize V.drew = W at ra rb kd ⊢
        repeat (first | (refine reads_id rfl rfl _ rfl _ _ rfl a ra ?_; simp only [Act.put, List.setIfInBounds_toArray, List.set_cons_succ, List.set_cons_zero]) | (refine reads_id rfl rfl _ rfl _ _ rfl b rb ?_; simp only [Act.put, List.setIfInBounds_toArray, List.set_cons_succ, List.set_cons_zero]) | (refine Grow.reads rfl rfl ?_; go_big_quiet_step (fail); refine wpQuiet_nil ?_))
        refine Grow.acts rfl ?_
        go_wp2_with fail
        refine (hex_ret a W).mono ?_
        rintro e w7 ⟨rfl, k7⟩
        rw [HT1.out]
        go_wp2_with fail
        refine ⟨k7, ?_⟩
        refine Grow.acts rfl ?_
        go_wp2_with fail
        refine (hex_ret b w7).mono ?_
        rintro e w8 ⟨rfl, k8⟩
        rw [HT2.out]
        go_wp2_with fail
        refine ⟨k8, ?_⟩
        have k9 := (kd.trans (k7.mono kd.size)).trans (k8.mono (Nat.le_trans kd.size k7.size))
        repeat (refine Grow.reads rfl rfl ?_; go_big_quiet_step (fail); refine wpQuiet_nil ?_)
        refine Grow.ends ?_
        go_wp2_with fail
        go_ret
        exact ⟨rfl, k9⟩
    | false =>
      have e2 : y = true := by rw [← HY.out]; exact less_of_ne HX.out HAB.out
      subst e2
      go_wp2_with (first | (refine gload _ rfl _ rfl a Ab rfl ?_) | (refine gload _ rfl _ rfl b Bb rfl ?_))
      refine Grow.region [(0, true), (1, true), (3, true), (2, false), (4, false), (5, true), (6, true), (7, true)] (by kernel_rfl) (by kernel_rfl) rfl (by kernel_rfl) (by intro c a d v w h; cases d <;> exact h) ?_
      rename World => V
      have ra : V.drew.rangeAt w.heap.size 0 (bv a.1) := Ab.range
      have rb : V.drew.rangeAt (w.heap.size + 1) 0 (bv b.1) := Bb.range
      have kd := below_drew1 kb
      generalize V.drew = W at ra rb kd ⊢
      repeat (first | (refine reads_id rfl rfl _ rfl _ _ rfl a ra ?_; simp only [Act.put, List.setIfInBounds_toArray, List.set_cons_succ, List.set_cons_zero]) | (refine reads_id rfl rfl _ rfl _ _ rfl b rb ?_; simp only [Act.put, List.setIfInBounds_toArray, List.set_cons_succ, List.set_cons_zero]) | (refine Grow.reads rfl rfl ?_; go_big_quiet_step (fail); refine wpQuiet_nil ?_))
      refine Grow.acts rfl ?_
      go_wp2_with fail
      refine (hex_ret a W).mono ?_
      rintro e w7 ⟨rfl, k7⟩
      rw [HT1.out]
      go_wp2_with fail
      refine ⟨k7, ?_⟩
      refine Grow.acts rfl ?_
      go_wp2_with fail
      refine (hex_ret b w7).mono ?_
      rintro e w8 ⟨rfl, k8⟩
      rw [HT2.out]
      go_wp2_with fail
      refine ⟨k8, ?_⟩
      have k9 := (kd.trans (k7.mono kd.size)).trans (k8.mono (Nat.le_trans kd.size k7.size))
      repeat (refine Grow.reads rfl rfl ?_; go_big_quiet_step (fail); refine wpQuiet_nil ?_)
      refine Grow.ends ?_
      go_wp2_with fail
      go_ret
      exact ⟨rfl, k9⟩

theorem own : ownKnob Try.prog.godebug = none := by kernel_rfl
theorem laidOut : laidOutB Try.prog = true := by kernel_rfl
set_option linter.unusedVariables false in
set_option maxRecDepth 100000 in
theorem lifted (os : Os) (started : os.Started) (H : Type) (enc : TypeId × Value → H) :
    ReturnsInHanded {} Try.checked os 7 .any (Rows.idsLessSpec.pre6 enc Try.prog Try.f7 Rows.idsLessRow.domain false) (Rows.idsLessSpec.post enc Try.prog Try.f7 false true false false) := by
  refine returnsInHanded_of_change (C := Try.checked) own started (by kernel_rfl) Try.func7
    (ChangeSpec.witness6 (enc := enc) (C := Try.checked) false ⟨#[], #[.agg #[.int .u8 0, .int .u8 0, .int .u8 0, .int .u8 0, .int .u8 0, .int .u8 0, .int .u8 0, .int .u8 0, .int .u8 0, .int .u8 0, .int .u8 0, .int .u8 0, .int .u8 0, .int .u8 0, .int .u8 0, .int .u8 0, .int .u8 0, .int .u8 0, .int .u8 0, .int .u8 0, .int .u8 0, .int .u8 0, .int .u8 0, .int .u8 0, .int .u8 0, .int .u8 0, .int .u8 0, .int .u8 0, .int .u8 0, .int .u8 0, .int .u8 0, .int .u8 0], .agg #[.int .u8 0, .int .u8 0, .int .u8 0, .int .u8 0, .int .u8 0, .int .u8 0, .int .u8 0, .int .u8 0, .int .u8 0, .int .u8 0, .int .u8 0, .int .u8 0, .int .u8 0, .int .u8 0, .int .u8 0, .int .u8 0, .int .u8 0, .int .u8 0, .int .u8 0, .int .u8 0, .int .u8 0, .int .u8 0, .int .u8 0, .int .u8 0, .int .u8 0, .int .u8 0, .int .u8 0, .int .u8 0, .int .u8 0, .int .u8 0, .int .u8 0, .int .u8 0], .agg #[.int .u8 0, .int .u8 0, .int .u8 0, .int .u8 0, .int .u8 0, .int .u8 0, .int .u8 0, .int .u8 0, .int .u8 0, .int .u8 0, .int .u8 0, .int .u8 0, .int .u8 0, .int .u8 0, .int .u8 0, .int .u8 0, .int .u8 0, .int .u8 0, .int .u8 0, .int .u8 0, .int .u8 0, .int .u8 0, .int .u8 0, .int .u8 0, .int .u8 0, .int .u8 0, .int .u8 0, .int .u8 0, .int .u8 0, .int .u8 0, .int .u8 0, .int .u8 0]], []⟩ 8 (by kernel_rfl) (by kernel_rfl) (by kernel_rfl) (by kernel_rfl)) ?_
  intro W base args ds gs before hval0 hW hcnd _
  have hval : ∀ (j : Nat) t v, Try.f7.params[j]? = some t → args[j]? = some v → Value.okWide Try.prog W .any base t v := hval0
  have hW' := hW
  obtain ⟨p, q, hA0, hV, rfl, hfz, hnd⟩ := hW
  have hA : DataW.TrodAll enc Try.prog W 0 (fun _ => true) true Try.f7.params.toList args.toList ds p := hA0
  rw [Try.params7] at hA hval
  obtain ⟨v0, vs0, d0, ds0, p0, q0, hargs, rfl, rfl, h0, r0⟩ := trodAll_cons hA
  obtain ⟨v1, vs1, d1, ds1, p1, q1, rfl, rfl, rfl, h1, r1⟩ := trodAll_cons r0
  obtain ⟨v2, vs2, d2, ds2, p2, q2, rfl, rfl, rfl, h2, r2⟩ := trodAll_cons r1
  obtain ⟨rfl, rfl, rfl⟩ := trodAll_nil r2
  obtain rfl : args = #[v0, v1, v2] := by cases args; simp_all
  obtain ⟨rfl, rfl⟩ := trodVars_none hV
  have k0 := h0
  have lt0 : ∀ x ∈ p0, x.block < W.heap.size := by obtain ⟨m, hm⟩ := k0; exact DataW.trod_lt m _ _ _ hm
  obtain ⟨a0, rfl⟩ := OpenI.open_id Try.underlying24 Try.underlying5 (by kernel_rfl) (by kernel_rfl) (hval 0 24 v0 rfl rfl) h0
  have k1 := h1
  have lt1 : ∀ x ∈ p1, x.block < W.heap.size := by obtain ⟨m, hm⟩ := k1; exact DataW.trod_lt m _ _ _ hm
  obtain ⟨a1, rfl⟩ := OpenI.open_id Try.underlying24 Try.underlying5 (by kernel_rfl) (by kernel_rfl) (hval 1 24 v1 rfl rfl) h1
  have k2 := h2
  have lt2 : ∀ x ∈ p2, x.block < W.heap.size := by obtain ⟨m, hm⟩ := k2; exact DataW.trod_lt m _ _ _ hm
  obtain ⟨a2, rfl⟩ := OpenI.open_id Try.underlying24 Try.underlying5 (by kernel_rfl) (by kernel_rfl) (hval 2 24 v2 rfl rfl) h2
  clear hA0 hval0
  refine (walk a0 a1 a2 W ).mono fun e W' ⟨he, bel⟩ => ?_
  subst he
  exact ⟨_, rfl, _, _, _, [], _, [], hW', trodAll_mk1 (shut_bool Try.underlying4 _), (trodAll_cons_mk (Below.trod laidOut (by kernel_rfl) (of_decide_eq_true (by kernel_rfl)) k0 bel lt0) (trodAll_cons_mk (Below.trod laidOut (by kernel_rfl) (of_decide_eq_true (by kernel_rfl)) k1 bel lt1) (trodAll_cons_mk (Below.trod laidOut (by kernel_rfl) (of_decide_eq_true (by kernel_rfl)) k2 bel lt2) trodAll_mk0))), rfl, bel.frame _, fun h => by cases h⟩

theorem over : Rows.idsLessRow.holds Try.pinned (OpenSpec.ofChange Rows.idsLessSpec) :=
  OpenClaim.holds_of_wide 7 Try.f7 rfl rfl rfl rfl rfl rfl rfl ⟨rfl, rfl, rfl, rfl, rfl⟩ rfl rfl rfl rfl rfl (by kernel_rfl) Try.func7 (by kernel_rfl)
    (of_decide_eq_true (by kernel_rfl)) (by unfold Func.isWrapper; first | (rw [if_pos (by decide +kernel)]; kernel_rfl) | (rw [if_neg (by decide +kernel)]; exact ⟨rfl, rfl⟩))
    (fun os started H enc _ => lifted os started H enc)

theorem proved : Rows.IdsLessSaid := over
end Go.Proofs.Ytbggegpbcgcknaa.idsLess
