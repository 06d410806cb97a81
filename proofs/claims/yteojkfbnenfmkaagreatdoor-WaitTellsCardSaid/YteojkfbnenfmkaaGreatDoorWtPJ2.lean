/- What the project's Put of package wait returns: a contract. No condition but sizes. | What Ready's closures, the searches, and slices.Delete return: contracts. No condition but sizes. -/
import Derived.Test.YteojkfbnenfmkaaGreatDoorWtH
import Derived.Test.YteojkfbnenfmkaaGreatDoorIdRJ2
import Derived.Test.YteojkfbnenfmkaaGreatDoorDgFJ5
namespace Go.Proofs.YteojkfbnenfmkaaGreatDoor.WtP
set_option maxRecDepth 100000
open Go Go.Sort Go.RowKit Byt IdM IdW OpsM OpsW CmM StW CmW CmX CmY CmA DgM DgW DgR DgF RowS DhB WtM WtF WtG WtH
open Classical

theorem copied_c (A : Option Addr) (cap : Nat) (l : List Cv) (w : World) (S : SlK w A cap l) (hl : l.length ≤ 1000000) (hp : ∀ v ∈ l, v.c.ps.length ≤ 1000000) :
    Calls Tryz.prog 23 #[.slice A l.length cap] w (NewC (coms l) w) := by
  refine (copied_ret A cap l w S hl hp).mono ?_
  rintro e w1 ⟨v, r, rfl, hr, o1, H1, k1⟩
  obtain ⟨A1, c1, rfl, S1⟩ := own_in o1 H1.each
  exact ⟨A1, c1, r, rfl, S1, hr, k1⟩
set_option maxRecDepth 100000 in
set_option maxHeartbeats 16000000 in
theorem put_ret (A : Option Addr) (cap : Nat) (l : List Cv) (v : Cv) (w : World) (S : SlK w A cap l) (hl : l.length ≤ 100000) (hp : ∀ v ∈ l, v.c.ps.length ≤ 1000000) (I : In w v) (F : Fit v.c) (hvp : v.c.ps.length ≤ 1000000) :
    Calls Tryz.prog 8 #[.slice A l.length cap, .agg (cc v)] w (NewC (putW (coms l) v.c) w) := by
  have kb := StW.below_alloc w (.cells (cc v) 29)
  have B0 : Cel.Box CE (w.alloc (.cells (cc v) 29)) w.heap.size v := Cel.Box.new (E := CE) w v _
  have q1 := CmA.may_ret v _ (I.below kb) F
  obtain ⟨m, hm⟩ : ∃ b, mayK v.c = b := ⟨_, rfl⟩
  rw [hm] at q1
  have HM := aside hm
  have HP := aside hp
  have qc := fun W (S : SlK W A cap l) => copied_c A cap l W S (by omega) hp
  clear hm hp
  unfold NewC at qc ⊢
  go_enter Tryz.func8, Tryz.ntmps8
  go_wp2_with (first | go_skip | (refine Cel.wpList_load_box CE rfl _ rfl _ rfl v B0 ?_))
  refine q1.mono ?_
  rintro e w1 ⟨rfl, k1⟩
  have B1 := B0.below k1
  have b1 := kb.trans (k1.mono kb.size)
  clear q1 B0 k1 kb
  cases m with
  | false =>
    have HN := aside (putW_no (l := coms l) (c := v.c) (.inl (by unfold waitB; rw [HM.out]; rfl)))
    clear HM HP
    go_wp2_with (first | go_skip)
    refine (qc _ (S.below b1)).mono ?_
    rintro e w2 ⟨A2, c2, r, rfl, S2, hr, k2⟩
    have HR := aside (hr.trans HN.out.symm)
    clear qc hr HN
    go_wp2_with (first | go_skip)
    go_ret
    exact ⟨A2, c2, r, rfl, S2, HR.out, b1.trans (k2.mono b1.size)⟩
  | true =>
    have q2 := CmA.merge_ret v w1 (I.below b1) F
    obtain ⟨m2, hm2⟩ : ∃ b, isM v.c = b := ⟨_, rfl⟩
    rw [hm2] at q2
    have HM2 := aside hm2
    clear hm2
    go_wp2_with (first | go_skip | (refine CmW.gload _ rfl _ rfl v B1 rfl ?_))
    refine q2.mono ?_
    rintro e w2 ⟨rfl, k2⟩
    have B2 := B1.below k2
    have b2 := b1.trans (k2.mono b1.size)
    clear q2 B1 k2 b1
    cases m2 with
    | true =>
      have HN := aside (putW_no (l := coms l) (c := v.c) (.inl (by unfold waitB; rw [HM.out, HM2.out]; rfl)))
      clear HM HM2 HP
      go_wp2_with (first | go_skip)
      refine (qc _ (S.below b2)).mono ?_
      rintro e w3 ⟨A3, c3, r, rfl, S3, hr, k3⟩
      have HR := aside (hr.trans HN.out.symm)
      clear qc hr HN
      go_wp2_with (first | go_skip)
      go_ret
      exact ⟨A3, c3, r, rfl, S3, HR.out, b2.trans (k3.mono b2.size)⟩
    | false =>
      have q3 := contains_ret w.heap.size v A cap l w2 (S.below b2) B2 (I.below b2)
      have HW : Hid (waitB v.c = true) := aside (by unfold waitB; rw [HM.out, HM2.out]; rfl)
      obtain ⟨m3, hm3⟩ : ∃ b, decide (v.c ∈ coms l) = b := ⟨_, rfl⟩
      rw [hm3] at q3
      have HM3 := aside hm3
      clear hm3 HM HM2
      go_wp2_with (first | go_skip)
      refine q3.mono ?_
      rintro e w3 ⟨rfl, k3⟩
      have B3 := B2.below k3
      have b3 := b2.trans (k3.mono b2.size)
      clear q3 B2 k3 b2
      cases m3 with
      | true =>
        have HN := aside (putW_no (l := coms l) (c := v.c) (.inr (of_decide_eq_true HM3.out)))
        clear HM3 HP HW
        go_wp2_with (first | go_skip)
        refine (qc _ (S.below b3)).mono ?_
        rintro e w4 ⟨A4, c4, r, rfl, S4, hr, k4⟩
        have HR := aside (hr.trans HN.out.symm)
        clear qc hr HN
        go_wp2_with (first | go_skip)
        go_ret
        exact ⟨A4, c4, r, rfl, S4, HR.out, b3.trans (k4.mono b3.size)⟩
      | false =>
        clear qc
        have m1 : IntKind.i64.wrap ((l.length : Int) + 1) = (l.length : Int) + 1 := IntWalk.i64_in _ (by omega)
        have m2 : IntKind.i64.wrap ((l.length : Int) + 1 - 8) = (l.length : Int) + 1 - 8 := IntWalk.i64_in _ (by omega)
        obtain ⟨f, hf⟩ : ∃ f, l.length + 1 - 8 = f := ⟨_, rfl⟩
        have mx : max (0 : Int) ((l.length : Int) + 1 - 8) = (f : Int) := by omega
        have hfl : f ≤ l.length := by omega
        obtain ⟨d, hd⟩ : ∃ d, l.length - f = d := ⟨_, rfl⟩
        have hdl : (l.drop f).length = d := by rw [List.length_drop, hd]
        have hlen : (l.drop f ++ [v]).length = d + 1 := by rw [List.length_append, hdl]; rfl
        have HC : Hid (coms (l.drop f ++ [v]) = putW (coms l) v.c) := aside (by
          rw [putW_yes HW.out (of_decide_eq_false HM3.out), coms_len, hf, List.drop_append_of_le_length (by rw [coms_len]; exact hfl)]
          unfold coms
          rw [List.map_append, List.map_drop]
          rfl)
        have HF := aside hfl
        have HD := aside hd
        have HL := aside hlen
        have HDL := aside hdl
        have hd9 : d ≤ 100000 := by omega
        clear hf hfl hd hlen hdl HW HM3
        go_wp2_with (first | go_skip)
        refine Grow.region [(0, true), (1, true), (2, true), (3, true), (4, true), (5, true), (6, true), (7, true), (8, false), (9, false), (10, false), (11, true)] (by kernel_rfl) (by kernel_rfl) rfl (by kernel_rfl) (by intro c a d v w h; cases d <;> exact h) ?_
        have kd := below_drew1 (Below.refl w3.heap.size w3)
        have B4 := B3.below kd
        have b4 := b3.trans (kd.mono b3.size)
        generalize w3.drew = wz at B4 b4 ⊢
        clear B3 b3 kd
        obtain ⟨A1, hq, S1⟩ := part_lhm (S.below b4).row f HF.out
        rw [HD.out] at hq S1
        have e1 : ∀ W, (Instr.sliceAt 22 (.slice A l.length cap) (some (.int .i64 (f : Int))) (some (.int .i64 (l.length : Int))) (some (.int .i64 (l.length : Int)))).run Tryz.prog W = .ok (.slice A1 d d) W := fun W => hq W .i64 .i64 .i64
        clear hq m1 m2 mx
        (try simp only [Act.put, List.setIfInBounds_toArray, List.set_cons_succ, List.set_cons_zero])
        repeat (first | (refine Grow.reads rfl rfl ?_; go_big_quiet_want; refine Cel.quiet_row CE _ rfl _ _ rfl v B4.range ?_; go_big_quiet_on; refine wpQuiet_nil ?_; (try simp only [Act.put, List.setIfInBounds_toArray, List.set_cons_succ, List.set_cons_zero])) | (refine Grow.reads rfl rfl ?_; go_big_quiet_step (fail); refine wpQuiet_nil ?_))
        clear e1
        refine Grow.acts rfl ?_
        go_wp2_with (first | go_skip | (refine build_com rfl _ rfl v rfl ?_; intro w5 X5 k5; have b5 := b4.trans (k5.mono b4.size); have S5 := S1.below k5))
        refine ⟨k5, ?_⟩
        clear k5 S1 B4
        (try simp only [Act.put, List.setIfInBounds_toArray, List.set_cons_succ, List.set_cons_zero])
        refine Grow.acts rfl ?_
        go_wp2_with (first | go_skip | (refine append_full rfl (.tmp 33) (.tmp 35) rfl A1 d (l.drop f) HDL.out rfl S5 _ v rfl X5 (by omega) ?_; intro w6 c6 o6 k6; have b6 := b5.trans (k6.mono b5.size)))
        refine ⟨k6, ?_⟩
        have U := S.below b6
        obtain ⟨A6, c7, hv6, T6⟩ := own_in (l := l.drop f ++ [v]) o6 (fun x hx => by
          rcases List.mem_append.1 hx with hx | hx
          · exact U.each x (List.mem_of_mem_drop hx)
          · rw [List.mem_singleton.1 hx]; exact ⟨I.below b6, F⟩)
        rw [HL.out] at hv6
        injection hv6 with h1 _ h3
        subst h1
        subst h3
        have q := copied_c _ c6 (l.drop f ++ [v]) w6 T6 (by rw [HL.out]; omega) (fun x hx => by
          rcases List.mem_append.1 hx with hx | hx
          · exact HP.out x (List.mem_of_mem_drop hx)
          · rw [List.mem_singleton.1 hx]; exact hvp)
        rw [HL.out, HC.out] at q
        unfold NewC at q
        clear k6 S5 X5 o6 U T6
        (try simp only [Act.put, List.setIfInBounds_toArray, List.set_cons_succ, List.set_cons_zero])
        refine Grow.acts rfl ?_
        go_wp2_with (first | go_skip)
        refine q.mono ?_
        rintro e w7 ⟨A7, c8, r, rfl, S7, hr, k7⟩
        have HR := aside hr
        clear q hr
        go_wp2_with (first | go_skip)
        refine ⟨k7, ?_⟩
        (try simp only [Act.put, List.setIfInBounds_toArray, List.set_cons_succ, List.set_cons_zero])
        repeat (first | (refine Grow.reads rfl rfl ?_; go_big_quiet_step (fail); refine wpQuiet_nil ?_))
        refine Grow.ends ?_
        go_wp2_with (first | go_skip)
        go_ret
        exact ⟨A7, c8, r, rfl, S7, HR.out, b6.trans (k7.mono b6.size)⟩
end Go.Proofs.YteojkfbnenfmkaaGreatDoor.WtP
namespace Go.Proofs.YteojkfbnenfmkaaGreatDoor.WtI
set_option maxRecDepth 100000
open Go Go.Sort Go.RowKit Byt IdM IdW IdK IdS OpsM OpsW CmM StW CmW CmX CmY CmA DgM DgW DgR DgF RowS DhB WtM WtF WtG WtH
open Classical

set_option maxRecDepth 100000 in
set_option maxHeartbeats 4000000 in
/-- Is an id absent from a set? -/
theorem absent_ret (B mb n : Nat) (L : List Idn) (x : Idn) (w : World) (hB : w.cell? ⟨B, 0, none⟩ = some (.map (some mb))) (hl : B < w.heap.size) (M : SetIn w mb n L) :
    Calls Tryz.prog 26 #[.agg (cs x), .pointer (some ⟨B, 0, none⟩)] w fun e w' => e = .returned (.bool (decide (x ∉ L))) ∧ Below w.heap.size w w' := by
  have k0 := StW.below_alloc w (.cells (cs x) 43)
  have I0 : IdW.Box (w.alloc (.cells (cs x) 43)) w.heap.size x := IdW.Box.new w x _
  have M0 := M.below k0
  have c0 := (k0.cell (p := ⟨B, 0, none⟩) hl).trans hB
  by_cases h : x ∈ L
  · have e : decide (x ∉ L) = false := by simp [h]
    have E := aside e
    have E1 : Hid ((if x ∈ L then (1 : Int) else 0) = 1) := aside (if_pos h)
    clear hB M e h
    go_enter Tryz.func26, Tryz.ntmps26
    go_wp2_with (first | go_skip | (refine wpList_load_id rfl _ rfl _ _ rfl x I0.range ?_) | (refine IdK.wpList_find _ rfl _ _ rfl mb n L rfl M0 x rfl ?_; rw [E1.out]))
    go_ret
    exact ⟨by rw [E.out]; rfl, k0⟩
  · have e : decide (x ∉ L) = true := by simp [h]
    have E := aside e
    have E1 : Hid ((if x ∈ L then (1 : Int) else 0) = 0) := aside (if_neg h)
    clear hB M e h
    go_enter Tryz.func26, Tryz.ntmps26
    go_wp2_with (first | go_skip | (refine wpList_load_id rfl _ rfl _ _ rfl x I0.range ?_) | (refine IdK.wpList_find _ rfl _ _ rfl mb n L rfl M0 x rfl ?_; rw [E1.out]))
    go_ret
    exact ⟨by rw [E.out]; rfl, k0⟩
theorem take_next_all {l : List Idn} {L : List Idn} {k : Nat} {x : Idn} (h : ∀ y ∈ l.take k, y ∈ L) (hx : l[k]? = some x) (hL : x ∈ L) : ∀ y ∈ l.take (k + 1), y ∈ L := fun y hy => by
  obtain ⟨hk, rfl⟩ := List.getElem?_eq_some_iff.1 hx
  rw [List.take_succ_eq_append_getElem hk, List.mem_append, List.mem_singleton] at hy
  rcases hy with hy | rfl
  · exact h y hy
  · exact hL
set_option maxRecDepth 100000 in
set_option maxHeartbeats 8000000 in
/-- Where the first of ids is that is absent, if there is one. -/
theorem absents_ret (B mb n : Nat) (L : List Idn) (A : Option Addr) (cap : Nat) (l : List Idn) (w : World) (S : SlI w A cap l) (hB : w.cell? ⟨B, 0, none⟩ = some (.map (some mb))) (hl : B < w.heap.size) (M : SetIn w mb n L) :
    Calls Tryz.prog 49 #[.slice A l.length cap, .func (.func 26) #[] #[.pointer (some ⟨B, 0, none⟩)]] w fun e w' => ∃ i : Int, e = .returned (.int .i64 i) ∧ (0 ≤ i ↔ ∃ x ∈ l, x ∉ L) ∧ Below w.heap.size w w' := by
  have hmax : l.length ≤ 9223372036854775807 := by have := S.1; have := S.2.1; unfold maxLen at this; omega
  go_enter Tryz.func49, Tryz.ntmps49
  go_wp2_with (first | go_skip)
  go_loopw [8] (fun i wr => ∃ k : Nat, k ≤ l.length ∧ i = .int .i64 k ∧ Hid (∀ y ∈ l.take k, y ∈ L) ∧ Below w.heap.size w wr) (fun i _ => l.length - (intOf i).toNat)
  case atStart => exact ⟨0, Nat.zero_le _, rfl, aside (by simp), Below.refl _ _⟩
  case round =>
    obtain ⟨k, hk, rfl, HA, kb⟩ := hrel
    by_cases hlt : k < l.length
    · obtain ⟨g, off, rfl, hbw, hr⟩ := S.plain (by omega)
      obtain ⟨x, hx⟩ : ∃ x, l[k]? = some x := ⟨_, List.getElem?_eq_getElem hlt⟩
      have rx := IdW.range_below (hr k hlt) kb
      rw [show l.getD k nought = x by rw [List.getD_eq_getElem?_getD, hx]; rfl] at rx
      have q := absent_ret B mb n L x wr ((kb.cell (p := ⟨B, 0, none⟩) hl).trans hB) (Nat.lt_of_lt_of_le hl kb.size) (M.below kb)
      have p0 : (k : Int) < l.length := by omega
      have m0 : ((k : Int)).toNat = k := by omega
      have HX := aside hx
      clear hr hx hB M S
      by_cases h : x ∈ L
      · rw [show decide (x ∉ L) = false by simp [h]] at q
        have HH := aside h
        clear h
        go_wp2_with (first | go_skip | (refine wpList_load_id rfl _ rfl _ _ rfl x rx ?_))
        refine q.mono ?_
        rintro e w1 ⟨rfl, k1⟩
        clear q
        go_wp2_with (first | go_skip)
        go_roundw
        case rel => exact ⟨k + 1, by omega, by go_num, aside (take_next_all HA.out HX.out HH.out), kb.trans (k1.mono kb.size)⟩
        case measure => simp [intOf]; omega
      · rw [show decide (x ∉ L) = true by simp [h]] at q
        have HH := aside h
        clear h
        go_wp2_with (first | go_skip | (refine wpList_load_id rfl _ rfl _ _ rfl x rx ?_))
        refine q.mono ?_
        rintro e w1 ⟨rfl, k1⟩
        clear q
        go_wp2_with (first | go_skip)
        go_ret
        exact ⟨_, rfl, ⟨fun _ => ⟨x, List.mem_of_getElem? HX.out, HH.out⟩, fun _ => by omega⟩, kb.trans (k1.mono kb.size)⟩
    · obtain rfl : k = l.length := by omega
      rw [List.take_length] at HA
      go_wp2_with (first | go_skip)
      go_ret
      exact ⟨_, rfl, ⟨fun h => absurd h (by omega), fun ⟨x, hx, hn⟩ => absurd (HA.out x hx) hn⟩, kb⟩
set_option maxRecDepth 100000 in
set_option maxHeartbeats 4000000 in
/-- Is one of ids absent? -/
theorem lacks_ret (B mb n : Nat) (L : List Idn) (A : Option Addr) (cap : Nat) (l : List Idn) (w : World) (S : SlI w A cap l) (hB : w.cell? ⟨B, 0, none⟩ = some (.map (some mb))) (hl : B < w.heap.size) (M : SetIn w mb n L) :
    Calls Tryz.prog 28 #[.slice A l.length cap, .func (.func 26) #[] #[.pointer (some ⟨B, 0, none⟩)]] w fun e w' => e = .returned (.bool (decide (∃ x ∈ l, x ∉ L))) ∧ Below w.heap.size w w' := by
  have q := absents_ret B mb n L A cap l w S hB hl M
  clear S hB M
  go_enter Tryz.func28, Tryz.ntmps28
  go_wp2_with (first | go_skip)
  refine q.mono ?_
  rintro e w1 ⟨i, rfl, hi, k1⟩
  clear q
  have HI := aside hi
  clear hi
  go_wp2_with (first | go_skip)
  go_ret
  exact ⟨congrArg (fun b => Ending.returned (Value.bool b)) (decide_eq_decide.2 HI.out), k1⟩
set_option maxRecDepth 100000 in
set_option maxHeartbeats 4000000 in
/-- Are all of a commit's parents there? -/
theorem isready_ret (B2 B mb n : Nat) (L : List Idn) (x : Cv) (w : World) (I : In w x) (h2 : w.cell? ⟨B2, 0, none⟩ = some (.func (.func 26) #[] #[.pointer (some ⟨B, 0, none⟩)])) (hl2 : B2 < w.heap.size) (hB : w.cell? ⟨B, 0, none⟩ = some (.map (some mb))) (hl : B < w.heap.size) (M : SetIn w mb n L) :
    Calls Tryz.prog 27 #[.agg (cc x), .pointer (some ⟨B2, 0, none⟩)] w fun e w' => e = .returned (.bool (freeB L x.c)) ∧ Below w.heap.size w w' := by
  have k0 := StW.below_alloc w (.cells (cc x) 29)
  have X0 : Cel.Box CE (w.alloc (.cells (cc x) 29)) w.heap.size x := Cel.Box.new (E := CE) w x _
  have c3 := cell_ps X0
  have c2 := (k0.cell (p := ⟨B2, 0, none⟩) hl2).trans h2
  have q := lacks_ret B mb n L x.a x.k x.c.ps _ (SlI.below I k0) ((k0.cell (p := ⟨B, 0, none⟩) hl).trans hB) (Nat.lt_of_lt_of_le hl k0.size) (M.below k0)
  obtain ⟨z, hz⟩ : ∃ z, decide (∃ y ∈ x.c.ps, y ∉ L) = z := ⟨_, rfl⟩
  have hf : freeB L x.c = !z := by
    rw [← hz]
    unfold freeB
    by_cases h : ∃ y ∈ x.c.ps, y ∉ L
    · rw [decide_eq_true h]
      obtain ⟨y, hy, hn⟩ := h
      exact decide_eq_false fun h => hn (h y hy)
    · rw [decide_eq_false h]
      exact decide_eq_true fun a ha => Classical.byContradiction fun hn => h ⟨a, ha, hn⟩
  rw [hz] at q
  rw [hf]
  clear hz hf h2 hB M I X0
  go_enter Tryz.func27, Tryz.ntmps27
  go_wp2_with (first | go_skip)
  refine q.mono ?_
  rintro e w1 ⟨rfl, k1⟩
  have b1 := k0.trans (k1.mono k0.size)
  clear q
  go_wp2_with (first | go_skip)
  go_ret
  exact ⟨rfl, b1⟩
/-- Parts of a row of the call's own. -/
theorem first_at (W : World) (g n cap : Nat) (k : IntKind) (i : Nat) (hi : i ≤ cap) : (Instr.sliceAt 22 (.slice (some ⟨g, 0, none⟩) n cap) none (some (.int k i)) none).run Tryz.prog W = .ok (.slice (some ⟨g, 0, none⟩) i cap) W := by
  refine (RowP.run_part_h KE W _ n cap k i hi).trans ?_
  simp [sliced, Addr.add_lit]
theorem others_at (W : World) (g n cap : Nat) (k : IntKind) (i : Nat) (hi : i ≤ n) : (Instr.sliceAt 22 (.slice (some ⟨g, 0, none⟩) n cap) (some (.int k i)) none none).run Tryz.prog W = .ok (.slice (some ⟨g, if cap = i then 0 else i * 8, none⟩) (n - i) (cap - i)) W := by
  refine (RowP.run_part_l KE W _ n cap k i hi).trans ?_
  by_cases h : cap = i
  · simp [sliced, h]
  · simp only [sliced, if_neg h, Option.map_some, Addr.add_lit, Nat.zero_add]
    rfl
theorem lh_at (W : World) (g n cap : Nat) (k1 k2 : IntKind) (i j : Nat) (hij : i < j) (hj : j ≤ cap) : (Instr.sliceAt 22 (.slice (some ⟨g, 0, none⟩) n cap) (some (.int k1 i)) (some (.int k2 j)) none).run Tryz.prog W = .ok (.slice (some ⟨g, i * 8, none⟩) (j - i) (cap - i)) W := by
  refine (run_sliceAt_slice W KE.S _ _ _ _ (RowP.under_e KE)).trans ?_
  refine (run_slice_lh W KE.S _ n cap (RowP.under_e KE) k1 k2 i j (by omega) (by omega) (by omega)).trans ?_
  refine (congrArg (fun r => Result.andThen r _) (RowP.size_e KE W)).trans ?_
  simp only [Result.andThen, sliced, Int.toNat_natCast, if_neg (show ¬ cap = i by omega), Option.map_some, Addr.add_lit, Nat.zero_add]
  rfl
theorem lhm_at (W : World) (g n cap : Nat) (k1 k2 k3 : IntKind) (i j m : Nat) (hij : i ≤ j) (hj : j ≤ m) (hm : m ≤ cap) : (Instr.sliceAt 22 (.slice (some ⟨g, 0, none⟩) n cap) (some (.int k1 i)) (some (.int k2 j)) (some (.int k3 m))).run Tryz.prog W = .ok (sliced (some ⟨g, 0, none⟩) i j m 8) W := by
  refine (run_sliceAt_slice W KE.S _ _ _ _ (RowP.under_e KE)).trans ?_
  refine (run_slice_lhm W KE.S _ n cap (RowP.under_e KE) k1 k2 k3 i j m (by omega) (by omega) (by omega) (by omega)).trans ?_
  exact (congrArg (fun r => Result.andThen r _) (RowP.size_e KE W)).trans rfl
set_option maxRecDepth 100000 in
set_option maxHeartbeats 8000000 in
/-- One of a row of the call's own taken out, in place. -/
theorem delete_ret (base g cap n m : Nat) (l : List Cv) (i : Nat) (hn : l.length = n) (hnm : n = m + 1) (hi : i < n) (w : World) (h : w.ownsRow base 29 8 (.slice (some ⟨g, 0, none⟩) n cap) n (RowS.flat KE l)) (hl : n ≤ 1000000) :
    Calls Tryz.prog 30 #[.slice (some ⟨g, 0, none⟩) n cap, .int .i64 i, .int .i64 ((i : Int) + 1)] w fun e w' => e = .returned (.slice (some ⟨g, 0, none⟩) m cap) ∧ w'.ownsRow base 29 8 (.slice (some ⟨g, 0, none⟩) m cap) m (RowS.flat KE (l.take i ++ l.drop (i + 1))) ∧ w.grownBy w' (some g) := by
  have kd := below_drew1 (Below.refl w.heap.size w)
  have hd := owns_below h kd
  have hnc : n ≤ cap := by
    obtain ⟨_, _, _, h3, _⟩ := own_block h
    exact h3
  rw [← hn] at hd
  obtain ⟨w1, hap, g1, z, hz, o1⟩ := run_cut w.drew base g cap l i (by omega) hd (if cap = i + 1 then 0 else (i + 1) * 8) (fun e => if_neg e) (cap - (i + 1))
  rw [hn] at o1 hap
  have hm1 : n - 1 = m := by omega
  rw [hm1] at hap
  have hth := there_at o1 (m := m) (by omega)
  have hcl := fun ty => run_clear_one w1 g (m * 8) (cap - m) ty hth.1 hth.2
  obtain ⟨w2, hw2⟩ : ∃ w2, w2 = w1.setCells g (m * 8) (KE.enc noV) := ⟨_, rfl⟩
  rw [← hw2] at hcl
  obtain ⟨o2, g2⟩ := cleared o1 (m := m) (by rw [List.length_append, List.length_take, List.length_drop]; omega) hnm hz hw2
  have HO := aside o2
  have HG := aside ((grown_of_below kd (some g)).trans (g1.trans g2))
  have e1 : ∀ W, (Instr.sliceAt 22 (.slice (some ⟨g, 0, none⟩) n cap) (some (.int .i64 (i : Int))) (some (.int .i64 ((i : Int) + 1))) (some (.int .i64 (n : Int)))).run Tryz.prog W = .ok (sliced (some ⟨g, 0, none⟩) i (i + 1) n 8) W := fun W => lhm_at W g n cap .i64 .i64 .i64 i (i + 1) n (by omega) (by omega) hnc
  obtain ⟨V, hV⟩ : ∃ V, sliced (some ⟨g, 0, none⟩) i (i + 1) n 8 = V := ⟨_, rfl⟩
  rw [hV] at e1
  have e2 : ∀ W, (Instr.sliceAt 22 (.slice (some ⟨g, 0, none⟩) n cap) none (some (.int .i64 (i : Int))) none).run Tryz.prog W = .ok (.slice (some ⟨g, 0, none⟩) i cap) W := fun W => first_at W g n cap .i64 i (by omega)
  have e3 : ∀ W, (Instr.sliceAt 22 (.slice (some ⟨g, 0, none⟩) n cap) (some (.int .i64 ((i : Int) + 1))) none none).run Tryz.prog W = .ok (.slice (some ⟨g, if cap = i + 1 then 0 else (i + 1) * 8, none⟩) (n - (i + 1)) (cap - (i + 1))) W := fun W => others_at W g n cap .i64 (i + 1) (by omega)
  have e4 : ∀ W, (Instr.sliceAt 22 (.slice (some ⟨g, 0, none⟩) m cap) (some (.int .i64 (m : Int))) (some (.int .i64 (n : Int))) none).run Tryz.prog W = .ok (.slice (some ⟨g, m * 8, none⟩) 1 (cap - m)) W := fun W => by
    have := lh_at W g m cap .i64 .i64 m n (by omega) hnc
    rwa [show n - m = 1 by omega] at this
  obtain ⟨D, hD⟩ : ∃ D, (if cap = i + 1 then 0 else (i + 1) * 8) = D := ⟨_, rfl⟩
  rw [hD] at hap e3
  obtain ⟨nd, hnd⟩ : ∃ d, n - (i + 1) = d := ⟨_, rfl⟩
  obtain ⟨cd, hcd⟩ : ∃ d, cap - (i + 1) = d := ⟨_, rfl⟩
  obtain ⟨cm, hcm⟩ : ∃ d, cap - m = d := ⟨_, rfl⟩
  rw [hnd, hcd] at hap e3
  rw [hcm] at hcl e4
  have hne : ¬ ((i : Int) = (i : Int) + 1) := by omega
  clear h kd hd hn o1 o2 g1 g2 hm1 hth hw2 hz hV hD hnd hcd hcm hnm hnc
  go_enter Tryz.func30, Tryz.ntmps30
  go_wp2_with (first | go_skip)
  refine Forks.region (.free 0 (.free 1 (.free 2 (.free 3 (.free 4 (.free 5 (.act 6 (.free 7 .ends)))))))) (by kernel_rfl) (by kernel_rfl) rfl (by kernel_rfl) (by intro c a d v w h; cases d <;> exact h) ?_
  (try simp only [Act.put, List.setIfInBounds_toArray, List.set_cons_succ, List.set_cons_zero])
  repeat (refine Forks.reads rfl rfl ?_; go_big_quiet_step (fail); refine wpQuiet_nil ?_)
  refine Forks.acts rfl ?_
  go_wp2_with (first | go_skip | (refine Lib.wpList_append_run _ rfl _ _ _ _ rfl _ _ rfl rfl _ _ (hap _) ?_))
  refine Forks.on ?_
  (try simp only [Act.put, List.setIfInBounds_toArray, List.set_cons_succ, List.set_cons_zero])
  repeat (refine Forks.reads rfl rfl ?_; go_big_quiet_step (fail); refine wpQuiet_nil ?_)
  refine Forks.ends ?_
  go_wp2_with (first | go_skip)
  go_ret
  exact ⟨rfl, HO.out, HG.out⟩
end Go.Proofs.YteojkfbnenfmkaaGreatDoor.WtI
