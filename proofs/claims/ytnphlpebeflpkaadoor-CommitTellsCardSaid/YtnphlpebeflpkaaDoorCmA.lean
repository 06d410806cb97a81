/- Contracts of package commit, by the names that the laws' walks call them by; the chapter's own example: 'awake' returns true. -/
import Derived.Test.YtnphlpebeflpkaaDoorCmI
import Derived.Test.YtnphlpebeflpkaaDoorCmT
namespace Go.Proofs.YtnphlpebeflpkaaDoor.CmA
set_option maxRecDepth 100000
open Go Go.Sort Go.RowKit Byt EncM EncC EncT IdM IdW OpsM OpsW CmM StW CmW CmY

theorem may_ret (v : Cv) (w : World) (S : In w v) (hf : Fit v.c) : Calls Tryd.prog 18 #[.agg (cc v)] w fun e w' => e = .returned (.bool (mayK v.c)) ∧ Below w.heap.size w w' := CmV.may_ret v w S hf
theorem merge_ret (v : Cv) (w : World) (S : In w v) (_hf : Fit v.c) : Calls Tryd.prog 19 #[.agg (cc v)] w fun e w' => e = .returned (.bool (isM v.c)) ∧ Below w.heap.size w w' := CmV.merge_ret v w S
theorem same_ret (u v : Cv) (w : World) (S : In w u) (T : In w v) : Calls Tryd.prog 20 #[.agg (cc u), .agg (cc v)] w fun e w' => e = .returned (.bool (CmR.sameK u.c v.c)) ∧ Below w.heap.size w w' := CmV.same_ret u v w S T
theorem put_ret (v : Cv) (w : World) (S : In w v) (hf : Fit v.c) : Calls Tryd.prog 11 #[.agg (cc v)] w (PutOut v.c w) := CmT.put_ret v w S hf
theorem hash_ret (v : Cv) (w : World) (S : In w v) (hf : Fit v.c) (hK : ShaE.KIn w) : Calls Tryd.prog 13 #[.agg (cc v)] w (HashOut v.c w) := CmT.hash_ret v w S hf hK
theorem get_ret (A : Option Addr) (cap : Nat) (bs : List Int) (w : World) (S : Sl w A cap bs) (hl : bs.length ≤ 1099511627776) :
    Calls Tryd.prog 21 #[.slice A bs.length cap] w (GetAll (getK bs) w) := CmI.get_ret A cap bs w S hl
def o1 : Opn := ⟨0, ⟨#[97]⟩, ⟨#[]⟩, 1⟩
def c1 : Com := ⟨0, 1, 1, [], o1⟩
def v1 : Cv := ⟨none, 0, c1⟩
theorem in1 (w : World) : In w v1 := SlI.nil w
theorem fit1 : Fit c1 := ⟨⟨by decide, by decide⟩, ⟨by decide, by decide⟩, ⟨by decide, by decide⟩, ⟨⟨by decide, by decide⟩, ⟨by decide, by decide⟩, of_decide_eq_true (by kernel_rfl), of_decide_eq_true (by kernel_rfl)⟩⟩
theorem may1 : mayK c1 = true := by kernel_rfl
theorem not1 : isM c1 = false := by kernel_rfl
theorem text1 (x : Int) : textL [x] = [1, x] := by
  unfold textL
  rw [show ([x] : List Int).length = 1 from rfl, numL_one (by omega)]
  rfl
theorem op1 : putL o1 = [0, 1, 97, 2] := by
  unfold putL tailL
  rw [show bytesL o1.key = [97] by kernel_rfl, text1, show o1.kind.toNat = 0 from rfl, if_pos (show o1.kind = 0 from rfl), show (foldI o1.n).toNat = 2 by kernel_rfl, numL_one (by omega), numL_one (by omega)]
  rfl
theorem put1 : putK c1 = [0, 1, 1, 0, 0, 1, 97, 2] := by
  unfold putK headL opL
  rw [if_neg (show ¬ c1.node = -1 by decide), show c1.op = o1 from rfl, op1, show (foldI c1.node).toNat = 0 by kernel_rfl, show c1.seq.toNat = 1 from rfl, show c1.gen.toNat = 1 from rfl, show c1.ps.length = 0 from rfl, numL_one (by omega), numL_one (by omega)]
  rfl
theorem get1 : getK (putK c1 ++ [9]) = some (c1, [9]) := get_putK may1 [9]
theorem str1 : strOf [0, 1, 1, 0, 0, 1, 97, 2] = ⟨#[0, 1, 1, 0, 0, 1, 97, 2]⟩ := by kernel_rfl
set_option maxRecDepth 100000 in
set_option maxHeartbeats 8000000 in
theorem some_ret (w : World) : Calls Tryd.prog 23 #[] w fun e w' => e = .returned (.agg (cc v1)) ∧ Below w.heap.size w w' := by
  go_enter Tryd.func23, Tryd.ntmps23
  go_wp2_with (first | go_skip | (refine Cel.wpList_store_new CE rfl _ _ rfl w _ _ rfl v1 _ rfl rfl rfl rfl ?_; intro w2 B2 k2 g2 s2))
  exact bodyPost_ret (v := .agg (cc v1)) (CmF.results_c Tryd.results23 _ _ w.heap.size v1 rfl B2) rfl ⟨rfl, k2⟩
/-- An id read whole in a region that draws its order. -/
theorem quiet_id {a : Act} {o : Oper} {K : Act → Prop} {w : World} (x : Operand) (ho : o.op = .load 36 x)
    (b off : Nat) (hx : a.eval x = .pointer (some ⟨b, off, none⟩)) (y : Idn) (hc : w.rangeAt b off (bv y.1)) (hk : K (a.put o.dst (.agg (cs y)))) : o.quiet Tryd.prog a (fun w' => ∃ p : Regrown, w' = grow (redrawn w p.d) p.os) K := by
  refine ⟨.agg (cs y), fun u hu => ?_, hk⟩
  obtain ⟨p, rfl⟩ := hu
  have q := IdW.load_mid (IdW.range_below hc (below_regrown w p.d p.os))
  unfold Oper.quietAt execOp
  simp only [ho, hx, Sem.run_bind, q, Result.andThen_ok, Sem.run_pure]
  exact ⟨rfl, rfl⟩
set_option maxRecDepth 100000 in
set_option maxHeartbeats 16000000 in
theorem awake (w : World) (hK : ShaE.KIn w) : Calls Tryd.prog 9 #[] w fun e w' => e = .returned (.bool true) ∧ Below w.heap.size w w' := by
  obtain ⟨P, hP⟩ : ∃ P, putK c1 = P := ⟨_, rfl⟩
  have hlP : Hid (P.length = 8) := aside (by rw [← hP, put1]; rfl)
  have hbP := aside (putK_B c1)
  have hsP : Hid (strOf P = ⟨#[0, 1, 1, 0, 0, 1, 97, 2]⟩) := aside (by rw [← hP, put1]; exact str1)
  obtain ⟨y1, y2, y3⟩ := putB_yes may1
  rw [hP] at y1 hbP
  have hcp := fun W => put_ret v1 W (in1 W) fit1
  unfold PutOut at hcp
  rw [show putB v1.c = P from y1, show putN v1.c = 0 from y2] at hcp
  have hch := fun W K => hash_ret v1 W (in1 W) fit1 K
  unfold HashOut at hch
  obtain ⟨I, hI⟩ : ∃ I, CmS.sumI P = I := ⟨_, rfl⟩
  rw [show hashI v1.c = I by rw [← hI, ← hP]; exact y3, show putN v1.c = 0 from y2] at hch
  have hgP := get1
  rw [hP] at hgP
  have HI := aside hI
  clear y1 y2 y3 hP hI
  go_enter Tryd.func9, Tryd.ntmps9
  go_wp2_with (first | go_skip)
  refine (some_ret _).mono ?_
  rintro e w1 ⟨rfl, k1⟩
  go_wp2_with (first | go_skip)
  refine (hcp _).mono ?_
  rintro e w2 ⟨A2, C2, rfl, S2, k2⟩
  have b2 := k1.trans (k2.mono k1.size)
  have h63 : 0 + P.length ≤ 1099511627900 := by rw [hlP.out]; omega
  clear k1 k2 hcp
  go_wp2_with (first | go_skip | (refine wpList_append_sl rfl (.const (.slice none 0 0)) (.tmp 14) 31 rfl w2.heap.size 5 Tryd.underlying31 zero_u8 (.slice none 0 0) 0 [] rfl (World.ownsRow_nil _ _ _ _) _ _ _ P rfl rfl S2 h63 (Nat.le_refl _) ?_; intro v3 w3 own3 g3; have k3 : Below w2.heap.size w2 w3 := below_grown (Below.refl _ _) (Nat.le_refl _) g3 (fun q hq => by cases hq)) | (refine wpList_append_sl rfl (.tmp 15) (.tmp 16) 31 rfl w2.heap.size 5 Tryd.underlying31 zero_u8 v3 _ ([] ++ P) rfl (own3.alloc _) _ 1 1 [9] rfl rfl (Sl.new1 _ _ _ ?c1) (by have := hlP.out; omega) (by have := k3.size; simp; omega) ?_; (case c1 => unfold B; decide); intro v4 w4 own4 g4))
  have k4 : Below w2.heap.size w2 w4 := below_grown (k3.alloc k3.size _) (by have := k3.size; simp; omega) g4 (fun q hq => (own3.lt q hq).1)
  have b4 := b2.trans (k4.mono b2.size)
  have S4 := S2.below k4
  have own5 : w4.ownsRow w2.heap.size 5 1 v4 (P ++ [9]).length (bv (P ++ [9])) := by rw [List.length_append]; simpa using own4
  obtain ⟨A5, C5, rfl, S5⟩ := Sl.own own5 (fun x hx => by
    rcases List.mem_append.1 hx with h | h
    · exact hbP.out x h
    · rw [List.mem_singleton.1 h]; unfold B; decide)
  have hc : Calls Tryd.prog 21 #[.slice A5 (P ++ [9]).length C5] w4 (fun e w' => ∃ v A k, e = .returned (.tuple #[.agg (cc v), .slice A 1 k, .int .i64 0]) ∧ v.c = c1 ∧ In w' v ∧ Sl w' A k [9] ∧ Below w4.heap.size w4 w') := by
    have hc := get_ret A5 C5 (P ++ [9]) w4 S5 (by rw [List.length_append, hlP.out]; decide)
    unfold GetAll at hc
    rw [hgP] at hc
    exact hc
  clear own3 own4 own5 g3 g4 k3 k4 b2 S2 S5 h63 hgP
  refine hc.mono ?_
  clear hc
  rintro e w5 ⟨v, A6, C6, rfl, hv, IN, _, k5⟩
  have hv : v.c = c1 := hv
  have HV := aside hv
  have b5 := b4.trans (k5.mono b4.size)
  have S5 := S4.below k5
  clear hv b4 S4 k5
  go_wp2_with (first | go_skip | (refine Cel.wpList_store_new CE rfl _ _ rfl _ _ _ rfl v _ rfl rfl rfl rfl ?_; intro w6 B6 k6 g6 s6))
  have S6 := S5.below k6
  have V6 : In w6 v := In.below IN k6
  have b6 := b5.trans (k6.mono b5.size)
  clear S5 IN b5 k6 g6 s6
  refine (some_ret _).mono ?_
  rintro e w7 ⟨rfl, k7⟩
  have S7 := S6.below k7
  have V7 := V6.below k7
  have B7 := B6.below k7
  have b7 := b6.trans (k7.mono b6.size)
  clear S6 V6 B6 b6 k7
  go_wp2_with (first | go_skip)
  refine (hch _ (hK.below b7)).mono ?_
  rintro e w8 ⟨rfl, k8⟩
  have S8 := S7.below k8
  have V8 := V7.below k8
  have B8 := B7.below k8
  have b8 := b7.trans (k8.mono b7.size)
  clear S7 V7 B7 b7 k8 hch
  go_wp2_with (first | go_skip | (refine IdJ.wpList_alloc_id rfl rfl ?_) | (refine CmG.wpList_store_id rfl _ _ rfl _ nought _ rfl I _ rfl rfl rfl ?_; intro w9 J9 k9 s9))
  have S9 := S8.below k9
  have V9 := V8.below k9
  have B9 := B8.below k9
  have b9 := b8.trans (k9.mono b8.size)
  clear S8 V8 B8 b8 k9 s9
  refine Grow.region [(0, true), (1, true), (2, true), (3, true), (4, true), (5, true), (6, true), (7, true), (8, true), (9, true), (10, true), (11, true), (12, true), (13, true), (14, true), (15, true), (16, true), (17, false), (18, false), (19, true), (20, true), (21, true), (22, true), (23, true), (24, true), (25, true), (26, true), (27, true), (28, false), (29, true), (30, true), (31, true), (32, true), (33, false), (34, true), (35, true), (36, true), (37, false), (38, true), (39, true), (40, true)] (by kernel_rfl) (by kernel_rfl) rfl (by kernel_rfl) (by intro c a d v w h; cases d <;> exact h) ?_
  rename World => VV
  have kd := below_drew1 (Below.refl VV.heap.size VV)
  have B' := B9.below kd
  have J' := J9.below kd J9.lt
  have V' := V9.below kd
  have S' := S9.below kd
  have b' := b9.trans (kd.mono b9.size)
  clear B9 J9 V9 S9 b9 kd
  have B9 := B'
  have J9 := J'
  have V9 := V'
  have S9 := S'
  have b9 := b'
  clear B' J' V' S' b'
  have K9 := hK.below b9
  generalize VV.drew = wz at B9 J9 V9 S9 b9 K9 ⊢
  have qP := fun d os => (S9.below (below_regrown _ d os)).conv rfl
  simp only [hsP.out] at qP
  have heq := fun W => IdW.equal W 9998 I I
  rw [decide_eq_true rfl] at heq
  repeat (first | (refine Grow.reads rfl rfl ?_; go_big_quiet_want; refine Cel.quiet_row CE _ rfl _ _ rfl v B9.range ?_; go_big_quiet_on; refine wpQuiet_nil ?_; (try simp only [Act.put, List.setIfInBounds_toArray, List.set_cons_succ, List.set_cons_zero])) | (refine Grow.reads rfl rfl ?_; go_big_quiet_want; refine quiet_id _ rfl _ _ rfl I J9.range ?_; go_big_quiet_on; refine wpQuiet_nil ?_; (try simp only [Act.put, List.setIfInBounds_toArray, List.set_cons_succ, List.set_cons_zero])) | (refine Grow.reads rfl rfl ?_; go_big_quiet_step (fail); refine wpQuiet_nil ?_))
  refine Grow.acts rfl ?_
  go_wp2_with (first | go_skip)
  refine (some_ret _).mono ?_
  rintro e wx ⟨rfl, kx⟩
  go_wp2_with (first | go_skip)
  refine ⟨kx, ?_⟩
  have B' := B9.below kx
  have J' := J9.below kx J9.lt
  have V' := V9.below kx
  have S' := S9.below kx
  have K' := K9.below kx
  have b' := b9.trans (kx.mono b9.size)
  clear B9 J9 V9 S9 K9 b9 kx qP
  have B9 := B'
  have J9 := J'
  have V9 := V'
  have S9 := S'
  have K9 := K'
  have b9 := b'
  clear B' J' V' S' K' b'
  have qP := fun d os => (S9.below (below_regrown _ d os)).conv rfl
  simp only [hsP.out] at qP
  have qs := same_ret v v1 _ V9 (in1 _)
  rw [HV.out, show v1.c = c1 from rfl, CmR.sameK_self] at qs
  refine Grow.acts rfl ?_
  go_wp2_with (first | go_skip)
  refine (qs).mono ?_
  clear qs
  rintro e wx ⟨rfl, kx⟩
  go_wp2_with (first | go_skip)
  refine ⟨kx, ?_⟩
  have B' := B9.below kx
  have J' := J9.below kx J9.lt
  have V' := V9.below kx
  have S' := S9.below kx
  have K' := K9.below kx
  have b' := b9.trans (kx.mono b9.size)
  clear B9 J9 V9 S9 K9 b9 kx qP
  have B9 := B'
  have J9 := J'
  have V9 := V'
  have S9 := S'
  have K9 := K'
  have b9 := b'
  clear B' J' V' S' K' b'
  have qP := fun d os => (S9.below (below_regrown _ d os)).conv rfl
  simp only [hsP.out] at qP
  repeat (first | (refine Grow.reads rfl rfl ?_; go_big_quiet_want; refine Cel.quiet_row CE _ rfl _ _ rfl v B9.range ?_; go_big_quiet_on; refine wpQuiet_nil ?_; (try simp only [Act.put, List.setIfInBounds_toArray, List.set_cons_succ, List.set_cons_zero])) | (refine Grow.reads rfl rfl ?_; go_big_quiet_want; refine quiet_id _ rfl _ _ rfl I J9.range ?_; go_big_quiet_on; refine wpQuiet_nil ?_; (try simp only [Act.put, List.setIfInBounds_toArray, List.set_cons_succ, List.set_cons_zero])) | (refine Grow.reads rfl rfl ?_; go_big_quiet_step (fail); refine wpQuiet_nil ?_))
  have qs := CmS.psum S9 rfl (by rw [hlP.out]; decide) K9
  rw [HI.out] at qs
  refine Grow.acts rfl ?_
  go_wp2_with (first | go_skip)
  refine (qs).mono ?_
  clear qs
  rintro e wx ⟨rfl, kx⟩
  go_wp2_with (first | go_skip)
  refine ⟨kx, ?_⟩
  have B' := B9.below kx
  have J' := J9.below kx J9.lt
  have V' := V9.below kx
  have S' := S9.below kx
  have K' := K9.below kx
  have b' := b9.trans (kx.mono b9.size)
  clear B9 J9 V9 S9 K9 b9 kx qP
  have B9 := B'
  have J9 := J'
  have V9 := V'
  have S9 := S'
  have K9 := K'
  have b9 := b'
  clear B' J' V' S' K' b'
  have qP := fun d os => (S9.below (below_regrown _ d os)).conv rfl
  simp only [hsP.out] at qP
  repeat (first | (refine Grow.reads rfl rfl ?_; go_big_quiet_want; refine Cel.quiet_row CE _ rfl _ _ rfl v B9.range ?_; go_big_quiet_on; refine wpQuiet_nil ?_; (try simp only [Act.put, List.setIfInBounds_toArray, List.set_cons_succ, List.set_cons_zero])) | (refine Grow.reads rfl rfl ?_; go_big_quiet_want; refine quiet_id _ rfl _ _ rfl I J9.range ?_; go_big_quiet_on; refine wpQuiet_nil ?_; (try simp only [Act.put, List.setIfInBounds_toArray, List.set_cons_succ, List.set_cons_zero])) | (refine Grow.reads rfl rfl ?_; go_big_quiet_step (fail); refine wpQuiet_nil ?_))
  have qs := may_ret v _ V9 (by rw [HV.out]; exact fit1)
  rw [HV.out, may1] at qs
  refine Grow.acts rfl ?_
  go_wp2_with (first | go_skip)
  refine (qs).mono ?_
  clear qs
  rintro e wx ⟨rfl, kx⟩
  go_wp2_with (first | go_skip)
  refine ⟨kx, ?_⟩
  have B' := B9.below kx
  have J' := J9.below kx J9.lt
  have V' := V9.below kx
  have S' := S9.below kx
  have K' := K9.below kx
  have b' := b9.trans (kx.mono b9.size)
  clear B9 J9 V9 S9 K9 b9 kx qP
  have B9 := B'
  have J9 := J'
  have V9 := V'
  have S9 := S'
  have K9 := K'
  have b9 := b'
  clear B' J' V' S' K' b'
  have qP := fun d os => (S9.below (below_regrown _ d os)).conv rfl
  simp only [hsP.out] at qP
  repeat (first | (refine Grow.reads rfl rfl ?_; go_big_quiet_want; refine Cel.quiet_row CE _ rfl _ _ rfl v B9.range ?_; go_big_quiet_on; refine wpQuiet_nil ?_; (try simp only [Act.put, List.setIfInBounds_toArray, List.set_cons_succ, List.set_cons_zero])) | (refine Grow.reads rfl rfl ?_; go_big_quiet_want; refine quiet_id _ rfl _ _ rfl I J9.range ?_; go_big_quiet_on; refine wpQuiet_nil ?_; (try simp only [Act.put, List.setIfInBounds_toArray, List.set_cons_succ, List.set_cons_zero])) | (refine Grow.reads rfl rfl ?_; go_big_quiet_step (fail); refine wpQuiet_nil ?_))
  have qs := merge_ret v _ V9 (by rw [HV.out]; exact fit1)
  rw [HV.out, not1] at qs
  refine Grow.acts rfl ?_
  go_wp2_with (first | go_skip)
  refine (qs).mono ?_
  clear qs
  rintro e wx ⟨rfl, kx⟩
  go_wp2_with (first | go_skip)
  refine ⟨kx, ?_⟩
  have B' := B9.below kx
  have J' := J9.below kx J9.lt
  have V' := V9.below kx
  have S' := S9.below kx
  have K' := K9.below kx
  have b' := b9.trans (kx.mono b9.size)
  clear B9 J9 V9 S9 K9 b9 kx qP
  have B9 := B'
  have J9 := J'
  have V9 := V'
  have S9 := S'
  have K9 := K'
  have b9 := b'
  clear B' J' V' S' K' b'
  have qP := fun d os => (S9.below (below_regrown _ d os)).conv rfl
  simp only [hsP.out] at qP
  repeat (first | (refine Grow.reads rfl rfl ?_; go_big_quiet_want; refine Cel.quiet_row CE _ rfl _ _ rfl v B9.range ?_; go_big_quiet_on; refine wpQuiet_nil ?_; (try simp only [Act.put, List.setIfInBounds_toArray, List.set_cons_succ, List.set_cons_zero])) | (refine Grow.reads rfl rfl ?_; go_big_quiet_want; refine quiet_id _ rfl _ _ rfl I J9.range ?_; go_big_quiet_on; refine wpQuiet_nil ?_; (try simp only [Act.put, List.setIfInBounds_toArray, List.set_cons_succ, List.set_cons_zero])) | (refine Grow.reads rfl rfl ?_; go_big_quiet_step (fail); refine wpQuiet_nil ?_))
  refine Grow.ends ?_
  go_wp2_with (first | go_skip)
  go_ret
  exact ⟨by first | rfl | simp, b9⟩
end Go.Proofs.YtnphlpebeflpkaaDoor.CmA
