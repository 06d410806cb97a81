/- What the project's reader of the first frame returns: a contract. No condition but sizes. | What the project's Read, by a goto, and Mend return: contracts. No condition but sizes. | What holds between two rounds of a load: the commits so far, where their frames end, the records, and the loop's own blocks. No condition. -/
import Derived.Test.YtgoapaanmcmlmaaGreatDoorStGJ6
import Derived.Test.YtgoapaanmcmlmaaGreatDoorEncGJ6
import Derived.Test.YtgoapaanmcmlmaaGreatDoorArrEqJ4
import Derived.Test.YtgoapaanmcmlmaaGreatDoorIdXJ10
import Derived.WalkMore
import Derived.ScopeJumps
import Derived.Test.YtgoapaanmcmlmaaGreatDoorDhDJ3
namespace Go.Proofs.YtgoapaanmcmlmaaGreatDoor.LogF
set_option maxRecDepth 100000
open Go Go.Sort Go.RowKit Byt RotG Small EncM EncC LogM LogC LogD LogE
theorem bv_get (l : List Int) (i : Nat) (h : i < l.length) : (Byt.bv l).toArray[i]? = some (.int .u8 (l.getD i 0)) := by
 rw [List.getElem?_toArray, bv_at _ h]
theorem equal_m (d : Nat) (w : World) {x y : List Int} (hx : x.length = 4) (hy : y.length = 4) : (Op.equalIn (d + 2) 120 (.agg (Byt.bv x).toArray) (.agg (Byt.bv y).toArray)).run Tryz.prog w = .ok (decide (x = y)) w := by
 obtain ⟨i, hi, _, _, _⟩ := info_parts zero_u8
 rw [ArrEq.equal_ints w d Tryz.underlying120 Tryz.underlying5 hi (by kernel_rfl) (Byt.bv x).toArray (Byt.bv y).toArray (fun i => x.getD i 0) (fun i => y.getD i 0) (fun i hi => ⟨bv_get x i (by omega), bv_get y i (by omega)⟩)]
 congr 1
 rw [Bool.eq_iff_iff, List.all_eq_true, decide_eq_true_eq]
 constructor
 · intro h
   refine List.ext_getElem (by omega) fun i h1 h2 => ?_
   have := h i (by simp; omega)
   simpa [List.getD_eq_getElem?_getD, List.getElem?_eq_getElem h1, List.getElem?_eq_getElem h2] using this
 · rintro rfl i _
   simp
def Told (w : World) (r : Option (List Int)) (e : Ending) : Prop :=
 match r with
 | none => e = .returned (.tuple #[.slice none 0 0, .int .i64 0])
 | some x => ∃ A cap, e = .returned (.tuple #[.slice A x.length cap, .int .i64 ((frameL x).length : Nat)]) ∧ Sl w A cap x
theorem Told.no {w : World} {r : Option (List Int)} (h : r = none) : Told w r (.returned (.tuple #[.slice none 0 0, .int .i64 0])) := by
 subst h
 rfl
set_option maxRecDepth 100000 in
set_option maxHeartbeats 8000000 in
theorem first_ret {w : World} {A : Option Addr} {cap len : Nat} {l : List Int} (S : Sl w A cap l) (hl : l.length = len) (hm : len ≤ 1099511627776) (hK : ShaE.KIn w) :
   Calls Tryz.prog 91 #[.slice A len cap] w fun e w' => Told w (firstL l) e ∧ Below w.heap.size w w' := by
 have q := EncG.get S hl
 obtain ⟨N, hN⟩ : ∃ N, (getL l).1 = N := ⟨_, rfl⟩
 obtain ⟨k, hk⟩ : ∃ k, (getL l).2 = k := ⟨_, rfl⟩
 have hle := getL_le S.bytes
 have hF : firstL l = if k = 0 ∨ 4000 < N then none else if l.length < k + N + 4 then none else if ((l.drop k).drop N).take 4 = markL ((l.drop k).take N) then some ((l.drop k).take N) else none := by rw [← hk, ← hN]; rfl
 rw [hN, hk] at q hle
 obtain ⟨hN64, hk10, hkl⟩ := hle
 have hcap := S.1
 have hcap2 := S.2.1
 by_cases k0 : k = 0
 · subst k0
   have HF : Hid (firstL l = none) := aside (by rw [hF, if_pos (.inl rfl)])
   clear hF hN hk S hl hm hN64 hk10 hkl hcap hcap2
   go_enter Tryz.func91, Tryz.ntmps91
   go_wp2_with (first | go_skip)
   refine q.mono ?_
   rintro e w1 ⟨rfl, k1⟩
   clear q
   go_wp2_with (first | go_skip)
   exact bodyPost_ret (v := .tuple #[.slice none 0 0, .int .i64 0]) (by simp [results, Tryz.results91, go_sem]) rfl ⟨Told.no HF.out, k1⟩
 by_cases n4 : 4000 < N
 · have p0 : ¬ (k : Int) = 0 := by omega
   have HF : Hid (firstL l = none) := aside (by rw [hF, if_pos (.inr n4)])
   have p1 : (4000 : Int) < (N : Int) := by omega
   clear hF hN hk S hl hm hN64 hk10 hkl hcap hcap2 n4 k0
   go_enter Tryz.func91, Tryz.ntmps91
   go_wp2_with (first | go_skip)
   refine q.mono ?_
   rintro e w1 ⟨rfl, k1⟩
   clear q
   go_wp2_with (first | go_skip)
   exact bodyPost_ret (v := .tuple #[.slice none 0 0, .int .i64 0]) (by simp [results, Tryz.results91, go_sem]) rfl ⟨Told.no HF.out, k1⟩
 have p0 : ((k : Int) == 0) = false := by simp; omega
 have p9 : decide ((4000 : Int) < (N : Int)) = false := by simp; omega
 have p1 : (((k : Int) == 0) || decide ((4000 : Int) < (N : Int))) = false := by simp; omega
 obtain ⟨A1, c1, hs1, S1, hl1⟩ := S.part k len (by omega) (by omega)
 have e1 : (l.drop k).take (len - k) = l.drop k := List.take_of_length_le (by rw [List.length_drop]; omega)
 rw [e1] at S1 hl1
 have hr1 := fun W => run_part_l W A len cap .i64 k (by omega)
 rw [hs1] at hr1
 have m1 : IntKind.i64.wrap (N : Int) = N := IntWalk.i64_in _ (by omega)
 have m2 : IntKind.i64.wrap ((N : Int) + 4) = (N : Int) + 4 := IntWalk.i64_in _ (by omega)
 have p2 : 0 ≤ (k : Int) := by omega
 have p3 : (k : Int) ≤ (len : Int) := by omega
 by_cases hsh : l.length < k + N + 4
 · have HF : Hid (firstL l = none) := aside (by rw [hF, if_neg (by omega), if_pos hsh])
   have p4 : ((len - k : Nat) : Int) < (N : Int) + 4 := by omega
   clear hF hN hk S hl hm hN64 hk10 hkl hcap hcap2 n4 k0 hsh hs1 e1
   go_enter Tryz.func91, Tryz.ntmps91
   go_wp2_with (first | go_skip)
   refine q.mono ?_
   rintro e w1 ⟨rfl, k1⟩
   clear q
   go_wp2_with (first | go_skip)
   exact bodyPost_ret (v := .tuple #[.slice none 0 0, .int .i64 0]) (by simp [results, Tryz.results91, go_sem]) rfl ⟨Told.no HF.out, k1⟩
 have p4 : ¬ ((len - k : Nat) : Int) < (N : Int) + 4 := by omega
 obtain ⟨A2, c2, hs2, S2, hl2⟩ := S1.part 0 N (by omega) (by omega)
 obtain ⟨A3, c3, hs3, S3, hl3⟩ := S1.part N (len - k) (by omega) (by omega)
 have e2 : ((l.drop k).drop N).take (len - k - N) = (l.drop k).drop N := List.take_of_length_le (by rw [List.length_drop, List.length_drop]; omega)
 rw [e2] at S3 hl3
 rw [List.drop_zero, Nat.sub_zero] at S2 hl2
 have hr2 := fun W => run_part_h W A1 (len - k) c1 .u64 N (by have := S1.1; omega)
 rw [hs2, Nat.sub_zero] at hr2
 have hr3 := fun W => run_part_l W A1 (len - k) c1 .u64 N (by omega)
 rw [hs3] at hr3
 obtain ⟨x, hx⟩ : ∃ x, (l.drop k).take N = x := ⟨_, rfl⟩
 obtain ⟨y, hy⟩ : ∃ y, (l.drop k).drop N = y := ⟨_, rfl⟩
 rw [hx] at hF S2 hl2
 rw [hy] at hF S3 hl3
 have hFl := frameL_len x
 have hnl : (numL x.length).length = k := by
   obtain ⟨_, _, _, q4, q5⟩ := getL_back S.bytes (N := N) (k := k) (by rw [← hN, ← hk]) k0
   rw [hl2, ← q5, List.length_take]
   omega
 rw [hnl, hl2] at hFl
 have q4 : y.length = len - k - N := hl3
 have heq := fun W => equal_m 9998 W (x := y.take 4) (y := markL x) (by rw [List.length_take]; omega) (markL_len x)
 rw [if_neg (by omega), if_neg hsh] at hF
 have m3 : IntKind.i64.wrap ((k : Int) + (N : Int)) = (k : Int) + (N : Int) := IntWalk.i64_in _ (by omega)
 have m4 : IntKind.i64.wrap ((k : Int) + (N : Int) + 4) = (k : Int) + (N : Int) + 4 := IntWalk.i64_in _ (by omega)
 have p5 : 0 ≤ (N : Int) := by omega
 have p6 : (N : Int) ≤ ((len - k : Nat) : Int) := by omega
 have hx40 : N ≤ 1099511627776 := by omega
 have hy4 : 4 ≤ len - k - N := by omega
 obtain ⟨b, hb⟩ : ∃ b, decide (y.take 4 = markL x) = b := ⟨_, rfl⟩
 simp only [hb] at heq
 have HF : Hid (firstL l = if b = true then some x else none) := aside (by rw [hF, ← hb]; simp)
 have HL : Hid ((frameL x).length = k + N + 4 ∧ x.length = N) := aside ⟨hFl, hl2⟩
 clear hF hN hk hl hm hN64 hk10 hkl hcap hcap2 n4 k0 hsh hs1 e1 hs2 hs3 e2 hx hy hFl hnl hb S1 q4
 go_enter Tryz.func91, Tryz.ntmps91
 go_wp2_with (first | go_skip)
 refine q.mono ?_
 rintro e w1 ⟨rfl, k1⟩
 clear q
 have T2 := S2.below k1
 have T3 := S3.below k1
 have K1 := hK.below k1
 go_wp2_with (first | go_skip)
 go_quiet (fail)
 go_wp2_with (first | go_skip)
 have qa := markAt_ret (T3.drewN nq) hl3 hy4
 refine qa.mono ?_
 rintro e w2 ⟨rfl, k2⟩
 clear qa
 have kd := Byt.below_drewN w1 nq
 have b2 := (kd.trans k2)
 go_wp2_with (first | go_skip)
 have qb := markOf_ret (T2.below b2) hl2 hx40 (K1.below b2)
 refine qb.mono ?_
 rintro e w3 ⟨rfl, k3⟩
 clear qb
 have b3 := k1.trans ((b2.trans (k3.mono b2.size)).mono k1.size)
 cases b with
 | true =>
   go_wp2_with (first | go_skip)
   refine bodyPost_ret (v := .tuple #[.slice A2 N c2, .int .i64 ((k : Int) + (N : Int) + 4)]) (by simp [results, Tryz.results91, go_sem]) rfl ⟨?_, b3⟩
   have hf : firstL l = some x := by simpa using HF.out
   rw [hf]
   refine ⟨A2, c2, ?_, S2⟩
   rw [HL.out.1, HL.out.2]
   have e : ((k + N + 4 : Nat) : Int) = (k : Int) + (N : Int) + 4 := by omega
   rw [e]
 | false =>
   go_wp2_with (first | go_skip)
   refine bodyPost_ret (v := .tuple #[.slice none 0 0, .int .i64 0]) (by simp [results, Tryz.results91, go_sem]) rfl ⟨Told.no ?_, b3⟩
   simpa using HF.out
end Go.Proofs.YtgoapaanmcmlmaaGreatDoor.LogF
namespace Go.Proofs.YtgoapaanmcmlmaaGreatDoor.LogR
set_option maxRecDepth 100000
open Go Go.Sort Go.RowKit Byt RotG Small EncM EncC LogM LogC LogD LogE LogF LogB
theorem scope_once {P : Program} {a : Act} {w : World} {Q : Exit → Act → World → Prop} {c rest : Code} (l : Nat) (J : Act → World → Prop) (μ : Act → World → Nat) (hf : findLabel c l = some (Code.skip.seq rest))
   (pass : ∀ a w, J a w → rest.wp P (Exit.jump l (fun a' w' => J a' w' ∧ μ a' w' < μ a w) Q) a w)
   (first : (∀ a w, J a w → rest.wp P (Exit.jump l J Q) a w) → c.wp P (Exit.jump l J Q) a w) : (Code.scope c).wp P Q a w := by
 refine wp_scope_jumps l J μ hf (first fun a w h => wp_mono (pass a w h) fun e a' w' hq => ?_) fun a w h => wp_seq (wp_skip (pass a w h))
 cases e with
 | goto l' => exact ⟨hq.1, hq.2.1⟩
 | normal => exact hq
 | exit id => exact hq
 | ret => exact hq
 | panic ch => exact hq
 | outgrown => exact hq
def J (w : World) (A : Option Addr) (len cap : Nat) (l : List Int) (a' : Act) (w' : World) : Prop :=
 Below w.heap.size w w' ∧ ∃ (v4 : Value) (pre : List Pb) (used : Nat) (u6 u7 u8 u9 u10 u11 u12 u13 u14 u15 u16 u17 u18 u19 u20 u21 u22 u23 u24 u25 u26 : Value), a' = { tmps := #[.slice A len cap, undef, .slice none 0 0, .int .i64 0, v4, .int .i64 used, u6, u7, u8, u9, u10, u11, u12, u13, u14, u15, u16, u17, u18, u19, u20, u21, u22, u23, u24, u25, u26], defers := [] } ∧
   Hid (w'.ownsRow w.heap.size 22 1 v4 pre.length (hds pre)) ∧ Hid (Held w' v4 pre) ∧ Hid (readL l = (tx pre ++ (readL (l.drop used)).1, used + (readL (l.drop used)).2)) ∧ used ≤ len ∧ pre.length ≤ used
def intOf : Value → Int | .int _ q => q | _ => 0
def RecsN (l : List (List Int)) (n : Nat) (w : World) (e : Ending) (w' : World) : Prop :=
 ∃ A cap ps, e = .returned (.tuple #[.slice A (List.length ps) cap, .int .i64 n]) ∧ tx ps = l ∧ SlB w' A cap ps ∧ Below w.heap.size w w' ∧ ∀ b off sp, A = some ⟨b, off, sp⟩ → w.heap.size ≤ b ∧ b < w'.heap.size
theorem recs_of {w w' : World} {v : Value} {ps : List Pb} {l : List (List Int)} {n : Nat} (own : w'.ownsRow w.heap.size 22 1 v ps.length (hds ps)) (h : Held w' v ps) (hl : tx ps = l) (k : Below w.heap.size w w') : ∃ A cap, v = .slice A ps.length cap ∧ RecsN l n w (.returned (.tuple #[.slice A ps.length cap, .int .i64 n])) w' := by
 have hlt := own.lt
 obtain ⟨A, cap, rfl, S⟩ := SlB.held own h
 exact ⟨A, cap, rfl, A, cap, ps, rfl, hl, S, k, fun b off sp e => by subst e; exact hlt b rfl⟩
set_option maxRecDepth 100000 in
set_option maxHeartbeats 16000000 in
theorem read_new {w : World} {A : Option Addr} {cap len : Nat} {l : List Int} (S : Sl w A cap l) (hl : l.length = len) (hm : len ≤ 1099511627776) (hK : ShaE.KIn w) :
   Calls Tryz.prog 53 #[.slice A len cap] w (RecsN (readL l).1 (readL l).2 w) := by
 have HL := aside hl
 have HM := aside hm
 clear hl hm
 go_enter Tryz.func53, Tryz.ntmps53
 go_wp2
 refine scope_once 0 (J w A len cap l) (fun a' _ => len - (intOf (a'.tmps.getD 5 undef)).toNat) rfl ?_ ?_
 · rintro a' w' ⟨kb, v4, pre, used, u6, u7, u8, u9, u10, u11, u12, u13, u14, u15, u16, u17, u18, u19, u20, u21, u22, u23, u24, u25, u26, rfl, HO, HH, HR, hu, hp⟩
   have Sw := S.below kb
   have K1 := hK.below kb
   have hcap := S.1
   obtain ⟨A1, c1, hs1, S1, hl1⟩ := Sw.part used len (by omega) (by have := HL.out; omega)
   have e1 : (l.drop used).take (len - used) = l.drop used := List.take_of_length_le (by rw [List.length_drop]; have := HL.out; omega)
   rw [e1] at S1 hl1
   have hr1 := fun W => run_part_l W A len cap .i64 used (by omega)
   rw [hs1] at hr1
   have q := first_ret S1 hl1 (by have := HM.out; omega) K1
   have p2 : 0 ≤ (used : Int) := by omega
   have p3 : (used : Int) ≤ (len : Int) := by omega
   obtain ⟨r, hr⟩ : ∃ r, firstL (l.drop used) = r := ⟨_, rfl⟩
   rw [hr] at q
   have HF := aside hr
   have HD := aside hl1
   have hBy := aside S1.bytes
   clear hr e1 hs1 hl1 hcap S Sw S1 hK
   go_wp2_with (first | go_skip)
   refine q.mono ?_
   rintro e w1 ⟨ht, k1⟩
   have b1 := kb.trans (k1.mono kb.size)
   have O1 := aside (owns_below HO.out k1)
   have H1 := aside (HH.out.below k1)
   clear q HO HH
   cases r with
   | none =>
     obtain rfl := ht
     have e2 := readL_none HF.out
     have HE : Hid (readL l = (tx pre, used)) := aside (by rw [HR.out, e2]; simp)
     clear e2
     obtain ⟨A9, c9, rfl, hrec⟩ := recs_of (n := used) O1.out H1.out rfl b1
     have HX := aside hrec
     clear hrec
     go_wp2_with (first | go_skip)
     simp only [Exit.jump]
     refine bodyPost_ret (v := .tuple #[.slice A9 pre.length c9, .int .i64 used]) (by simp [results, Tryz.results53, go_sem]) rfl ?_
     rw [HE.out]
     exact HX.out
   | some x =>
     obtain ⟨A2, c2, he, S2⟩ := ht
     have S3 := S2.below k1
     have hpos := frameL_pos x
     have hfl : (frameL x).length ≤ len - used ∧ x.length ≤ 4000 := by
       obtain ⟨h1, r, h2⟩ := firstL_some hBy.out HF.out
       have h3 := congrArg List.length h2
       rw [List.length_append] at h3
       have := HD.out
       exact ⟨by omega, h1⟩
     have e2 := readL_some HF.out
     rw [List.drop_drop] at e2
     obtain ⟨n, hn⟩ : ∃ n, (frameL x).length = n := ⟨_, rfl⟩
     rw [hn] at e2 hpos hfl he
     subst he
     have HE : ∀ y : Pb, y.bs = x → Hid (readL l = (tx (pre ++ [y]) ++ (readL (l.drop (used + n))).1, (used + n) + (readL (l.drop (used + n))).2)) := fun y hy => aside (by
       rw [HR.out, e2, tx_append, List.append_assoc, Nat.add_assoc]
       simp [tx, hy])
     have HN := aside hn
     have n0 : ¬ (n : Int) = 0 := by omega
     have m1 : IntKind.i64.wrap ((used : Int) + (n : Int)) = (used : Int) + (n : Int) := IntWalk.i64_in _ (by have := HM.out; omega)
     have qc := clone_ret S3 rfl (by omega)
     have bs1 := b1.size
     clear e2 hn HR HF S2
     go_wp2_with (first | go_skip)
     refine qc.mono ?_
     rintro e w2 ⟨A3, c3, rfl, S4, k2, far⟩
     have b2 := b1.trans (k2.mono bs1)
     have O2 := aside (owns_below O1.out k2)
     have hlt : ∀ q, v4.ownBlock = some q → q < w1.heap.size := fun q hq => (O1.out.lt q hq).2
     have H2 := aside ((H1.out.below k2).snoc (p := ⟨A3, c3, x⟩) S4 (fun b off sp e => ⟨fun e2 => by
       have h1 := (far b off sp e).1
       have h2 := hlt b e2
       omega, (far b off sp e).2⟩))
     have bs2 := b2.size
     have ka : Below w2.heap.size w2 (w2.alloc (.cells #[hd ⟨A3, c3, x⟩] 22)) := (Below.refl _ _).alloc (Nat.le_refl _) _
     have O3 := aside (owns_below O2.out ka)
     have H3 := aside (H2.out.below ka)
     have b3 := b2.trans (ka.mono bs2)
     have bs3 := b3.size
     clear qc far hlt k2 H1 O1 b1 bs1 H2 O2
     go_wp2_with (first | go_skip | (refine wpList_append_ps rfl (.tmp 19) (.tmp 22) rfl w.heap.size _ pre.length pre rfl O3.out _ ⟨A3, c3, x⟩ rfl (new1 w2 _ _) (by have := HM.out; omega) bs3 ?_; intro v8 w8 o8 g8 e8; have b8 := below_grown b3 bs3 g8 (fun q hq => (O3.out.lt q hq).1); have H8 := aside (H3.out.grown g8 e8); have O8 := aside o8; clear o8 g8 e8))
     go_step3
     have en : ((used + n : Nat) : Int) = (used : Int) + (n : Int) := by omega
     refine ⟨rfl, ⟨b8, v8, pre ++ [⟨A3, c3, x⟩], used + n, _, _, _, _, _, _, _, _, _, _, _, _, _, _, _, _, _, _, _, _, _, by rw [en], aside (by rw [List.length_append]; exact O8.out), H8, HE _ rfl, by omega, by simp; omega⟩, ?_⟩
     simp [intOf]
     omega
 · intro hon
   go_wp2_with (first | go_skip)
   go_step3
   rename_i K hk
   exact hk _ _ (hon _ _ ⟨Below.refl _ _, .slice none 0 0, [], 0, _, _, _, _, _, _, _, _, _, _, _, _, _, _, _, _, _, _, _, _, _, rfl, aside ⟨rfl, .inl ⟨rfl, rfl⟩⟩, aside (Held.nil _ _), aside (by simp [tx]), Nat.zero_le _, Nat.le_refl _⟩)
end Go.Proofs.YtgoapaanmcmlmaaGreatDoor.LogR
namespace Go.Proofs.YtgoapaanmcmlmaaGreatDoor.StoE
set_option maxRecDepth 100000
open Go Go.Sort Go.RowKit Byt IdM IdW OpsM OpsW CmM StW CmW CmX CmY DgM DgW LogB StoJ
section
variable {W W' : World} {row : Option Nat}
theorem below_none (hg : W.grownBy W' none) : Below W.heap.size W W' := ⟨hg.os, hg.tape, hg.output, hg.size, fun k hk => hg.block k hk (by simp)⟩
theorem heap_kept {k : Nat} {o : Obj} (h : W.heap[k]? = some o) (hg : W.grownBy W' row) (hne : some k ≠ row) : W'.heap[k]? = some o := (hg.block k (Array.getElem?_eq_some_iff.1 h).1 hne).trans h
theorem one_kept {k : Nat} {v : Value} (h : One W k v) (hg : W.grownBy W' row) (hne : some k ≠ row) : One W' k v := by
 obtain ⟨t, ht⟩ := h
 exact ⟨t, heap_kept ht hg hne⟩
theorem in_kept {u : Cv} (h : In W u) (hg : W.grownBy W' row) (hn : ∀ g, row = some g → CmD.NoU8 W g) : In W' u := by
 cases row with
 | none => exact h.below (below_none hg)
 | some g => exact CmD.sli_far h (hn g rfl) hg
theorem sl_kept {A : Option Addr} {cap : Nat} {l : List Int} (h : Sl W A cap l) (hg : W.grownBy W' row) (hn : ∀ g, row = some g → CmD.NoU8 W g) : Sl W' A cap l := by
 cases row with
 | none => exact h.below (below_none hg)
 | some g => exact CmD.sl_far h (hn g rfl) hg
theorem slb_kept {A : Option Addr} {cap : Nat} {ps : List Pb} (h : SlB W A cap ps) (hg : W.grownBy W' row) (hn : ∀ g, row = some g → CmD.NoU8 W g) (hA : ∀ b off sp, A = some ⟨b, off, sp⟩ → some b ≠ row) : SlB W' A cap ps := by
 refine ⟨h.room, ?_, fun v hv => sl_kept (h.each v hv) hg hn⟩
 rcases h.lies with h5 | ⟨x, rfl, hc⟩
 · exact .inl h5
 · refine .inr ⟨x, rfl, fun i v hv => hg.cell (hc i v hv) ?_⟩
   rw [RowIn.block_add]
   exact hA x.block x.off x.spot (by cases x; rfl)
theorem no_obj {g : Nat} {r : Loop} (h : W.heap[g]? = some (.loop r)) : CmD.NoU8 W g := fun j v hv => by
 unfold World.cell? at hv
 simp [h] at hv
end
structure St (N D : Nat) (r : Loop) (A : Option Addr) (cap : Nat) (ps : List Pb) (us : List Cv) (es : List Int) (v ve : Value) (W : World) : Prop where
 bl : One W N v
 be : One W (N + 2) ve
 rl : W.ownsRow N 29 8 v us.length (RowS.flat KE us)
 re : W.ownsRow N 3 1 ve es.length (nums es)
 dl : Dry W v
 de : Dry W ve
 ll : W.heap[D + 1]? = some (.loop r)
 ld : W.heap[D]? = some (.deferred (some []))
 sl : SlB W A cap ps
 un : ∀ u ∈ us, In W u
 ap : ∀ g, (v.ownBlock = some g ∨ ve.ownBlock = some g) → g ≠ N ∧ g ≠ N + 2 ∧ g ≠ D ∧ g ≠ D + 1 ∧ ∀ b off sp, A = some ⟨b, off, sp⟩ → b ≠ g
 vv : ∀ g, v.ownBlock = some g → ve.ownBlock ≠ some g
 ar : ∀ b off sp, A = some ⟨b, off, sp⟩ → b ≠ N ∧ b ≠ N + 2 ∧ b ≠ D + 1 ∧ b < W.heap.size
 nd : N + 2 < D
section
variable {N D : Nat} {r : Loop} {A : Option Addr} {cap : Nat} {ps : List Pb} {us : List Cv} {es : List Int} {v ve : Value} {W : World}
theorem owns_keep {base n size : Nat} {e : TypeId} {v : Value} {xs : List Value} {W W' : World} {row : Option Nat} (h : W.ownsRow base e size v n xs) (hg : W.grownBy W' row) (hne : ∀ g, v.ownBlock = some g → some g ≠ row) : W'.ownsRow base e size v n xs := by
 refine h.kept hg ?_
 cases hv : v.ownBlock with
 | none => exact .inl rfl
 | some g => exact .inr (hne g hv)
theorem St.below {W' : World} (h : St N D r A cap ps us es v ve W) (hb : Below W.heap.size W W') : St N D r A cap ps us es v ve W' := by
 have hg := grown_of_below hb none
 exact ⟨one_kept h.bl hg (by simp), one_kept h.be hg (by simp), owns_keep h.rl hg (by simp), owns_keep h.re hg (by simp), h.dl.kept (fun g hq => (h.rl.lt g hq).2) hg (by simp), h.de.kept (fun g hq => (h.re.lt g hq).2) hg (by simp),
   heap_kept h.ll hg (by simp), heap_kept h.ld hg (by simp), h.sl.below hb, fun u hu => (h.un u hu).below hb, h.ap, h.vv, fun b off sp e => by
     obtain ⟨h1, h2, h3, h4⟩ := h.ar b off sp e
     exact ⟨h1, h2, h3, Nat.lt_of_lt_of_le h4 hb.size⟩, h.nd⟩
theorem St.mark (h : St N D r A cap ps us es v ve W) (r' : Loop) : St N D r' A cap ps us es v ve (W.putObj (D + 1) (.loop r')) ∧ ∀ u, In W u → In (W.putObj (D + 1) (.loop r')) u := by
 have hg := grownBy_putObj' W (D + 1) (.loop r')
 have hn : ∀ g, some (D + 1) = some g → CmD.NoU8 W g := fun g e => by cases e; exact no_obj h.ll
 have hlt : D + 1 < W.heap.size := (Array.getElem?_eq_some_iff.1 h.ll).1
 have hnd := h.nd
 have ne : ∀ {k : Nat}, k ≠ D + 1 → some k ≠ some (D + 1) := fun hk e => hk (Option.some.inj e)
 refine ⟨⟨one_kept h.bl hg (ne (by omega)), one_kept h.be hg (ne (by omega)), owns_keep h.rl hg (fun g hq => ne (h.ap g (.inl hq)).2.2.2.1), owns_keep h.re hg (fun g hq => ne (h.ap g (.inr hq)).2.2.2.1),
   h.dl.kept (fun g hq => (h.rl.lt g hq).2) hg (fun g hq => ne (h.ap g (.inl hq)).2.2.2.1), h.de.kept (fun g hq => (h.re.lt g hq).2) hg (fun g hq => ne (h.ap g (.inr hq)).2.2.2.1),
   World.putObj_heap_same hlt, heap_kept h.ld hg (ne (by omega)), slb_kept h.sl hg hn (fun b off sp e => ne (h.ar b off sp e).2.2.1), fun u hu => in_kept (h.un u hu) hg hn, h.ap, h.vv, fun b off sp e => ?_, hnd⟩, fun u hu => in_kept hu hg hn⟩
 obtain ⟨h1, h2, h3, h4⟩ := h.ar b off sp e
 exact ⟨h1, h2, h3, Nat.lt_of_lt_of_le h4 hg.size⟩
theorem St.num {W1 W2 : World} {ve' : Value} {y : Int} (h : St N D r A cap ps us es v ve W) (o : W1.ownsRow N 3 1 ve' (es.length + 1) (nums (es ++ [y]))) (g : W.grownBy W1 ve.ownBlock) (e4 : ve'.ownBlock = ve.ownBlock ∨ ve'.ownBlock = some W.heap.size) (d : Dry W1 ve')
   (O : One W2 (N + 2) ve') (g2 : W1.grownBy W2 (some (N + 2))) : St N D r A cap ps us (es ++ [y]) v ve' W2 ∧ (∀ u, In W u → In W2 u) := by
 have hn1 : ∀ q, ve.ownBlock = some q → CmD.NoU8 W q := h.de
 have hbe := h.be.lt
 have B1 : One W1 (N + 2) ve := one_kept h.be g (fun e => (h.ap (N + 2) (.inr e.symm)).2.1 rfl)
 have hn2 : ∀ q, some (N + 2) = some q → CmD.NoU8 W1 q := fun q e => by
   cases e
   refine CmI.no_one B1 ?_
   rcases h.re.2 with ⟨e, _⟩ | ⟨_, _, _, e, _⟩ <;> rw [e] <;> rfl
 have hnd := h.nd
 have ne : ∀ {k : Nat}, k ≠ N + 2 → some k ≠ some (N + 2) := fun hk e => hk (Option.some.inj e)
 have hne : ∀ {k : Nat}, (ve.ownBlock = some k → False) → some k ≠ ve.ownBlock := fun hk e => hk e.symm
 have hll := (Array.getElem?_eq_some_iff.1 h.ll).1
 have hb4 : ∀ q, ve'.ownBlock = some q → ve.ownBlock = some q ∨ q = W.heap.size := fun q hq => by
   rcases e4 with e | e
   · exact .inl (e ▸ hq)
   · rw [e] at hq; exact .inr (Option.some.inj hq).symm
 have hblt := h.bl.lt
 have hq4 : ∀ q, ve'.ownBlock = some q → q ≠ N ∧ q ≠ N + 2 ∧ q ≠ D ∧ q ≠ D + 1 ∧ ∀ b off sp, A = some ⟨b, off, sp⟩ → b ≠ q := fun q hq => by
   rcases hb4 q hq with e | e
   · exact h.ap q (.inr e)
   · subst e
     exact ⟨by omega, by omega, by omega, by omega, fun b off sp e => by have := (h.ar b off sp e).2.2.2; omega⟩
 have hv4 : ∀ q, v.ownBlock = some q → ve'.ownBlock ≠ some q := fun q hq e => by
   rcases hb4 q e with e | e
   · exact h.vv q hq e
   · have := (h.rl.lt q hq).2
     omega
 have hvg : ∀ q, v.ownBlock = some q → some q ≠ ve.ownBlock := fun q hq e => h.vv q hq e.symm
 have hin : ∀ u, In W u → In W2 u := fun u hu => in_kept (in_kept hu g hn1) g2 hn2
 refine ⟨⟨one_kept (one_kept h.bl g (hne fun e => (h.ap N (.inr e)).1 rfl)) g2 (ne (by omega)), O, owns_keep (owns_keep h.rl g hvg) g2 (fun q hq => ne (h.ap q (.inl hq)).2.1), ?_,
   (h.dl.kept (fun q hq => (h.rl.lt q hq).2) g hvg).kept (fun q hq => Nat.lt_of_lt_of_le (h.rl.lt q hq).2 g.size) g2 (fun q hq => ne (h.ap q (.inl hq)).2.1), d.kept (fun q hq => (o.lt q hq).2) g2 (fun q hq => ne (hq4 q hq).2.1),
   heap_kept (heap_kept h.ll g (hne fun e => (h.ap (D + 1) (.inr e)).2.2.2.1 rfl)) g2 (ne (by omega)), heap_kept (heap_kept h.ld g (hne fun e => (h.ap D (.inr e)).2.2.1 rfl)) g2 (ne (by omega)),
   slb_kept (slb_kept h.sl g hn1 (fun b off sp e1 e2 => (h.ap b (.inr e2.symm)).2.2.2.2 b off sp e1 rfl)) g2 hn2 (fun b off sp e => ne (h.ar b off sp e).2.1), fun u hu => hin u (h.un u hu), fun q hq => ?_, hv4, fun b off sp e => ?_, hnd⟩, hin⟩
 · rw [List.length_append]
   exact owns_keep o g2 (fun q hq => ne (hq4 q hq).2.1)
 · rcases hq with hq | hq
   · exact h.ap q (.inl hq)
   · exact hq4 q hq
 · obtain ⟨h1, h2, h3, h4⟩ := h.ar b off sp e
   exact ⟨h1, h2, h3, Nat.lt_of_lt_of_le h4 (Nat.le_trans g.size g2.size)⟩
theorem St.com {W1 W2 : World} {v' : Value} {u : Cv} (h : St N D r A cap ps us es v ve W) (hu : In W u) (o : W1.ownsRow N 29 8 v' (us.length + 1) (RowS.flat KE (us ++ [u]))) (g : W.grownBy W1 v.ownBlock) (e4 : v'.ownBlock = v.ownBlock ∨ v'.ownBlock = some W.heap.size) (d : Dry W1 v')
   (O : One W2 N v') (g2 : W1.grownBy W2 (some N)) : St N D r A cap ps (us ++ [u]) es v' ve W2 := by
 have hn1 : ∀ q, v.ownBlock = some q → CmD.NoU8 W q := h.dl
 have B1 : One W1 N v := one_kept h.bl g (fun e => (h.ap N (.inl e.symm)).1 rfl)
 have hn2 : ∀ q, some N = some q → CmD.NoU8 W1 q := fun q e => by
   cases e
   refine CmI.no_one B1 ?_
   rcases h.rl.2 with ⟨e, _⟩ | ⟨_, _, _, e, _⟩ <;> rw [e] <;> rfl
 have hnd := h.nd
 have ne : ∀ {k : Nat}, k ≠ N → some k ≠ some N := fun hk e => hk (Option.some.inj e)
 have hne : ∀ {k : Nat}, (v.ownBlock = some k → False) → some k ≠ v.ownBlock := fun hk e => hk e.symm
 have hll := (Array.getElem?_eq_some_iff.1 h.ll).1
 have hb4 : ∀ q, v'.ownBlock = some q → v.ownBlock = some q ∨ q = W.heap.size := fun q hq => by
   rcases e4 with e | e
   · exact .inl (e ▸ hq)
   · rw [e] at hq; exact .inr (Option.some.inj hq).symm
 have hq4 : ∀ q, v'.ownBlock = some q → q ≠ N ∧ q ≠ N + 2 ∧ q ≠ D ∧ q ≠ D + 1 ∧ ∀ b off sp, A = some ⟨b, off, sp⟩ → b ≠ q := fun q hq => by
   rcases hb4 q hq with e | e
   · exact h.ap q (.inl e)
   · subst e
     exact ⟨by omega, by omega, by omega, by omega, fun b off sp e => by have := (h.ar b off sp e).2.2.2; omega⟩
 have hvg : ∀ q, ve.ownBlock = some q → some q ≠ v.ownBlock := fun q hq e => h.vv q e.symm hq
 have hin : ∀ x, In W x → In W2 x := fun x hx => in_kept (in_kept hx g hn1) g2 hn2
 refine ⟨O, one_kept (one_kept h.be g (hne fun e => (h.ap (N + 2) (.inl e)).2.1 rfl)) g2 (ne (by omega)), ?_, owns_keep (owns_keep h.re g hvg) g2 (fun q hq => ne (h.ap q (.inr hq)).1),
   d.kept (fun q hq => (o.lt q hq).2) g2 (fun q hq => ne (hq4 q hq).1), (h.de.kept (fun q hq => (h.re.lt q hq).2) g hvg).kept (fun q hq => Nat.lt_of_lt_of_le (h.re.lt q hq).2 g.size) g2 (fun q hq => ne (h.ap q (.inr hq)).1),
   heap_kept (heap_kept h.ll g (hne fun e => (h.ap (D + 1) (.inl e)).2.2.2.1 rfl)) g2 (ne (by omega)), heap_kept (heap_kept h.ld g (hne fun e => (h.ap D (.inl e)).2.2.1 rfl)) g2 (ne (by omega)),
   slb_kept (slb_kept h.sl g hn1 (fun b off sp e1 e2 => (h.ap b (.inl e2.symm)).2.2.2.2 b off sp e1 rfl)) g2 hn2 (fun b off sp e => ne (h.ar b off sp e).1), fun x hx => ?_, fun q hq => ?_, fun q hq e => ?_, fun b off sp e => ?_, hnd⟩
 · rw [List.length_append]
   exact owns_keep o g2 (fun q hq => ne (hq4 q hq).1)
 · rcases List.mem_append.1 hx with hx | hx
   · exact hin x (h.un x hx)
   · rw [List.mem_singleton.1 hx]; exact hin u hu
 · rcases hq with hq | hq
   · exact hq4 q hq
   · exact h.ap q (.inr hq)
 · rcases hb4 q hq with e1 | e1
   · exact h.vv q e1 e
   · have := (h.re.lt q e).2
     omega
 · obtain ⟨h1, h2, h3, h4⟩ := h.ar b off sp e
   exact ⟨h1, h2, h3, Nat.lt_of_lt_of_le h4 (Nat.le_trans g.size g2.size)⟩
end
end Go.Proofs.YtgoapaanmcmlmaaGreatDoor.StoE
