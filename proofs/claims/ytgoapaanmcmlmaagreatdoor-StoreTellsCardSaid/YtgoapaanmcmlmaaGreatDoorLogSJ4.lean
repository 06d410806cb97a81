/- What the document's Frame returns: a contract. No condition but sizes. | What the document's Read and Mend return: contracts. No condition but sizes. | What the document's Mend, Write and Same return: contracts. No condition but sizes. | What the document's Put and Last of package store return: contracts. No condition but sizes. -/
import Derived.Test.YtgoapaanmcmlmaaGreatDoorStGJ6
import Derived.Test.YtgoapaanmcmlmaaGreatDoorRefW
import Derived.Test.YtgoapaanmcmlmaaGreatDoorRefEJ3
import Derived.Test.YtgoapaanmcmlmaaGreatDoorIdXJ10
import Derived.Test.YtgoapaanmcmlmaaGreatDoorIdOJ5
namespace Go.Proofs.YtgoapaanmcmlmaaGreatDoor.LogS
set_option maxRecDepth 100000
open Go Go.Sort Go.RowKit Byt RotG Small EncM EncC LogM LogC LogD LogE
theorem dsum {w : World} {A : Option Addr} {cap len : Nat} {l : List Int} (h : Sl w A cap l) (hl : l.length = len) (hm : len ≤ 1099511627776) :
   Calls Tryz.prog 69 #[.slice A len cap] w fun e w' => e = .returned (.agg (Byt.bv (ShaH.sumL l)).toArray) ∧ Below w.heap.size w w' := by
 subst hl
 have := RefW.sumW (rowL_of h) hm
 rw [List.take_of_length_le (Nat.le_refl _)] at this
 exact this
theorem four_of {S : List Int} (h : 4 ≤ S.length) : ∃ a b c d r, S = a :: b :: c :: d :: r := by
 match S, h with
 | a :: b :: c :: d :: r, _ => exact ⟨a, b, c, d, r, rfl⟩
theorem new4 (w : World) (a b c d : Int) (t : TypeId) (h : ∀ x ∈ [a, b, c, d], Byt.B x) : Sl (w.alloc (.cells #[.int .u8 a, .int .u8 b, .int .u8 c, .int .u8 d] t)) (some ⟨w.heap.size, 0, none⟩) 4 [a, b, c, d] :=
 sl_at (l := [a, b, c, d]) (At.new w _ t) (by simp [maxLen]) h
theorem at_kept {w w' : World} {g : Nat} {row : Option Nat} {c : Array Value} (h : At w g c) (hg : w.grownBy w' row) (hne : some g ≠ row) : At w' g c := by
 have hl := h.lt
 obtain ⟨t, ht⟩ := h
 exact ⟨t, (hg.block g hl hne).trans ht⟩
set_option maxRecDepth 100000 in
set_option maxHeartbeats 8000000 in
theorem frame_yes {w : World} {A : Option Addr} {cap len : Nat} {l : List Int} (S : Sl w A cap l) (hl : l.length = len) (hm : len ≤ 4000) :
   Calls Tryz.prog 34 #[.slice A len cap] w (GivesE (frameL l, 0) w) := by
 have hs := fun W (T : Sl W A cap l) => dsum T hl (by omega)
 obtain ⟨S2, hS2⟩ : ∃ S, ShaH.sumL l = S := ⟨_, rfl⟩
 have h32 : S2.length = 32 := by rw [← hS2]; exact ShaH.sumL_length l
 have sB : ∀ x ∈ S2, Byt.B x := by rw [← hS2]; exact sum_B l
 have hmk : markL l = S2.take 4 := by rw [← hS2]; rfl
 obtain ⟨s0, s1, s2, s3, sr, rfl⟩ := four_of (S := S2) (by omega)
 have hF : Hid (frameL l = (numL len ++ l) ++ [s0, s1, s2, s3]) := aside (by unfold frameL; rw [hmk, hl]; simp)
 have fB : ∀ x ∈ [s0, s1, s2, s3], Byt.B x := fun x hx => sB x (by
   rw [show s0 :: s1 :: s2 :: s3 :: sr = [s0, s1, s2, s3] ++ sr from rfl]
   exact List.mem_append_left _ hx)
 have hten := numL_ten (n := len) (by omega)
 have hnB : ∀ x ∈ numL len, Byt.B x := numL_range len
 have aB : ∀ x ∈ (numL len ++ l) ++ [s0, s1, s2, s3], Byt.B x := fun x hx => (List.mem_append.1 hx).elim (fun hx => (List.mem_append.1 hx).elim (hnB x) (S.bytes x)) (fB x)
 have e32 := bsize (s0 :: s1 :: s2 :: s3 :: sr)
 rw [h32] at e32
 have one := bone (s0 :: s1 :: s2 :: s3 :: sr)
 have g0 : (Byt.bv (s0 :: s1 :: s2 :: s3 :: sr)).toArray[0]? = some (.int .u8 s0) := rfl
 have g1 : (Byt.bv (s0 :: s1 :: s2 :: s3 :: sr)).toArray[1]? = some (.int .u8 s1) := rfl
 have g2 : (Byt.bv (s0 :: s1 :: s2 :: s3 :: sr)).toArray[2]? = some (.int .u8 s2) := rfl
 have g3' : (Byt.bv (s0 :: s1 :: s2 :: s3 :: sr)).toArray[3]? = some (.int .u8 s3) := rfl
 rw [hS2] at hs
 obtain ⟨m, hM⟩ : ∃ m, (Byt.bv (s0 :: s1 :: s2 :: s3 :: sr)).toArray = m := ⟨_, rfl⟩
 rw [hM] at hs e32 one g0 g1 g2 g3'
 have n0 : ¬ (4000 : Int) < (len : Int) := by omega
 have p0 : 0 ≤ (len : Int) := by omega
 have p1 : (len : Int) ≤ 18446744073709551615 := by omega
 have fit : Fits len := by unfold Fits; omega
 have qn := fun W => RefE.num len fit W
 obtain ⟨N, hN⟩ : ∃ N, numL len = N := ⟨_, rfl⟩
 rw [hN] at qn hF hten hnB aB
 clear hM hN hmk hS2 h32 sB fit
 go_enter Tryz.func34, Tryz.ntmps34
 go_wp2_with (first | go_skip)
 refine (hs _ S).mono ?_
 rintro e w1 ⟨rfl, k1⟩
 clear hs
 have z4 : At (w1.alloc (.cells m 75)) w1.heap.size m := At.new _ _ _
 have kb := k1.alloc k1.size (.cells m 75)
 have T1 := S.below kb
 go_wp2_with (first | go_skip | (refine wpList_store_last rfl 75 _ _ rfl _ _ _ 75 rfl _ rfl ?c1 rfl ?c2 ?c3 ?c4 ?_; (case c1 => simp); (case c2 => rw [e32]; exact info_id); (case c3 => rw [e32]; rfl); (case c4 => exact one)))
 refine (qn _).mono ?_
 rintro e w2 ⟨v2, rfl, own2, k2⟩
 have T2 := T1.below k2
 have b2 := kb.trans (k2.mono kb.size)
 have z5 := z4.below k2 z4.lt
 obtain ⟨K, hK⟩ : ∃ K, (w1.alloc (.cells m 75)).heap.size = K := ⟨_, rfl⟩
 have hlt := z4.lt
 have kbs := kb.size
 have k2s := k2.size
 rw [hK] at own2 hlt kbs k2s
 obtain ⟨G, hG⟩ : ∃ G, w1.heap.size = G := ⟨_, rfl⟩
 rw [hG] at z5 hlt
 rw [hG]
 clear z4 T1 kb k2 hK hG k1 qn
 have sum1 : N.length + len ≤ 1099511627900 := by omega
 have sum2 : N.length + len + 4 ≤ 1099511627900 := by omega
 go_wp2_with (first | go_skip | (refine wpList_append_sl rfl (.tmp 14) (.tmp 15) 22 rfl K 5 Tryz.underlying22 zero_u8 v2 N.length N rfl own2 A len cap l rfl hl T2 sum1 k2s ?_; intro v3 w3 own3 g3; have b3 := below_grown b2 b2.size g3 (fun q hq => Nat.le_trans kbs (own2.lt q hq).1); have z6 := at_kept z5 g3 (fun e => by have := (own2.lt G e.symm).1; omega); have c0 := (z6.cell 0).trans g0; have c1 := (z6.cell 1).trans g1; have c2 := (z6.cell 2).trans g2; have c3 := (z6.cell 3).trans g3'; have k3s := Nat.le_trans k2s g3.size) | (refine wpList_append_sl rfl (.tmp 17) (.tmp 26) 22 rfl K 5 Tryz.underlying22 zero_u8 v3 (N.length + len) (N ++ l) rfl (own3.alloc _) _ 4 4 [s0, s1, s2, s3] rfl rfl (new4 w3 s0 s1 s2 s3 _ fB) sum2 (by simp; omega) ?_; intro v4 w4 own4 g4; have b4 := below_grown (b3.alloc b3.size _) (by have := b3.size; simp; omega) g4 (fun q hq => Nat.le_trans kbs (own3.lt q hq).1)))
 have hlen : N.length + len + 4 = ((N ++ l) ++ [s0, s1, s2, s3]).length := by simp [hl]; omega
 rw [hlen] at own4
 obtain ⟨A4, C4, rfl, S4⟩ := Sl.own own4 aB
 exact bodyPost_ret (v := .tuple #[.slice A4 ((N ++ l) ++ [s0, s1, s2, s3]).length C4, .int .i64 0]) (by simp [results, Tryz.results34, go_sem]) rfl (by rw [hF.out]; exact ⟨A4, C4, rfl, S4, b4⟩)
set_option maxRecDepth 100000 in
theorem frame_no {w : World} {A : Option Addr} {cap len : Nat} (hm : 4000 < len) :
   Calls Tryz.prog 34 #[.slice A len cap] w (GivesE ([], 5) w) := by
 have n0 : (4000 : Int) < (len : Int) := by omega
 clear hm
 go_enter Tryz.func34, Tryz.ntmps34
 go_wp2_with (first | go_skip)
 exact bodyPost_ret (v := .tuple #[.slice none 0 0, .int .i64 5]) (by simp [results, Tryz.results34, go_sem]) rfl ⟨none, 0, rfl, Sl.nil w, Below.refl _ _⟩
end Go.Proofs.YtgoapaanmcmlmaaGreatDoor.LogS
namespace Go.Proofs.YtgoapaanmcmlmaaGreatDoor.LogT
set_option maxRecDepth 100000
open Go Go.Sort Go.RowKit Byt RotG Small EncM EncC LogM LogC LogD LogE LogB
def intOf : Value → Int | .int _ q => q | _ => 0
set_option maxRecDepth 100000 in
set_option maxHeartbeats 16000000 in
theorem read_ret {w : World} {A : Option Addr} {cap len : Nat} {l : List Int} (S : Sl w A cap l) (hl : l.length = len) (hm : len ≤ 1099511627776) :
   Calls Tryz.prog 31 #[.slice A len cap] w (Recs (readL l).1 (readL l).2 w) := by
 have HL := aside hl
 have HM := aside hm
 clear hl hm
 go_enter Tryz.func31, Tryz.ntmps31
 go_wp2_with (first | go_skip)
 go_loopw [4, 5] (fun v4 i wr => ∃ (pre : List Pb) (used : Nat), i = .int .i64 used ∧ Hid (wr.ownsRow w.heap.size 22 1 v4 pre.length (hds pre)) ∧ Hid (Held wr v4 pre) ∧ Hid (readL l = (tx pre ++ (readL (l.drop used)).1, used + (readL (l.drop used)).2)) ∧ used ≤ len ∧ pre.length ≤ used ∧ Below w.heap.size w wr) (fun _ i _ => len - (intOf i).toNat)
 case atStart => exact ⟨[], 0, rfl, aside ⟨rfl, .inl ⟨rfl, rfl⟩⟩, aside (Held.nil _ _), aside (by simp [tx]), Nat.zero_le _, Nat.le_refl _, Below.refl _ _⟩
 case round =>
   rename World => wr
   obtain ⟨pre, used, rfl, HO, HH, HR, hu, hp, kb⟩ := hrel
   have done : ∀ W, W.ownsRow w.heap.size 22 1 u4 pre.length (hds pre) → Held W u4 pre → Below w.heap.size w W → firstL (l.drop used) = none → ∃ A cap, u4 = .slice A pre.length cap ∧ Recs (readL l).1 (readL l).2 w (.returned (.tuple #[.slice A pre.length cap, .int .i64 used])) W := fun W o h k e => by
     have e2 := readL_none e
     have HE : readL l = (tx pre, used) := by rw [HR.out, e2]; simp
     obtain ⟨A, cap, rfl, S⟩ := SlB.held o h
     rw [HE]
     exact ⟨A, cap, rfl, A, cap, pre, rfl, rfl, S, k⟩
   by_cases hlt : used < len
   · have Sw := S.below kb
     have hcap := S.1
     obtain ⟨A1, c1, hs1, S1, hl1⟩ := Sw.part used len (by omega) (by have := HL.out; omega)
     have e1 : (l.drop used).take (len - used) = l.drop used := List.take_of_length_le (by rw [List.length_drop]; have := HL.out; omega)
     rw [e1] at S1 hl1
     have hr1 := fun W => run_part_l W A len cap .i64 used (by omega)
     rw [hs1] at hr1
     have q := RefF.get S1 hl1 (by have := HM.out; omega)
     obtain ⟨N, hN⟩ : ∃ N, (getL (l.drop used)).1 = N := ⟨_, rfl⟩
     obtain ⟨k, hk⟩ : ∃ k, (getL (l.drop used)).2 = k := ⟨_, rfl⟩
     have hle := getL_le S1.bytes
     have hg : getL (l.drop used) = (N, k) := by rw [← hN, ← hk]
     have hF : firstL (l.drop used) = if k = 0 ∨ 4000 < N then none else if (l.drop used).length < k + N + 4 then none else if (((l.drop used).drop k).drop N).take 4 = markL (((l.drop used).drop k).take N) then some (((l.drop used).drop k).take N) else none := by rw [← hk, ← hN]; rfl
     rw [hN, hk] at q hle
     obtain ⟨hN64, hk10, hkl⟩ := hle
     have hBl := S1.bytes
     have p2 : 0 ≤ (used : Int) := by omega
     have p3 : (used : Int) ≤ (len : Int) := by omega
     have p4 : (used : Int) < (len : Int) := by omega
     clear hs1 e1 hN hk S1
     by_cases k0 : k = 0
     · subst k0
       have HF : Hid (firstL (l.drop used) = none) := aside (by rw [hF, if_pos (.inl rfl)])
       clear hF hN64 hk10 hkl Sw hg hBl hl1 hcap
       go_wp2_with (first | go_skip)
       refine q.mono ?_
       rintro e w1 ⟨rfl, k1⟩
       have b1 := kb.trans (k1.mono kb.size)
       have O1 := aside (owns_below HO.out k1)
       have H1 := aside (HH.out.below k1)
       clear q HO HH
       obtain ⟨A9, c9, rfl, hrec⟩ := done _ O1.out H1.out b1 HF.out
       have HX := aside hrec
       clear hrec done
       go_wp2_with (first | go_skip)
       exact bodyPost_ret (v := .tuple #[.slice A9 pre.length c9, .int .i64 used]) (by simp [results, Tryz.results31, go_sem]) rfl HX.out
     by_cases n4 : 4000 < N
     · have p0 : ((k : Int) == 0) = false := by simp; omega
       have p1 : (4000 : Int) < (N : Int) := by omega
       have HF : Hid (firstL (l.drop used) = none) := aside (by rw [hF, if_pos (.inr n4)])
       clear hF hN64 hk10 hkl Sw hg hBl hl1 hcap n4 k0
       go_wp2_with (first | go_skip)
       refine q.mono ?_
       rintro e w1 ⟨rfl, k1⟩
       have b1 := kb.trans (k1.mono kb.size)
       have O1 := aside (owns_below HO.out k1)
       have H1 := aside (HH.out.below k1)
       clear q HO HH
       obtain ⟨A9, c9, rfl, hrec⟩ := done _ O1.out H1.out b1 HF.out
       have HX := aside hrec
       clear hrec done
       go_wp2_with (first | go_skip)
       exact bodyPost_ret (v := .tuple #[.slice A9 pre.length c9, .int .i64 used]) (by simp [results, Tryz.results31, go_sem]) rfl HX.out
     have p0 : ((k : Int) == 0) = false := by simp; omega
     have p9 : decide ((4000 : Int) < (N : Int)) = false := by simp; omega
     have p1 : (((k : Int) == 0) || decide ((4000 : Int) < (N : Int))) = false := by simp; omega
     have m0 : IntKind.i64.wrap (N : Int) = N := IntWalk.i64_in _ (by omega)
     have m1 : IntKind.i64.wrap ((used : Int) + (k : Int)) = (used : Int) + (k : Int) := IntWalk.i64_in _ (by have := HM.out; omega)
     have m2 : IntKind.i64.wrap ((used : Int) + (k : Int) + (N : Int)) = (used : Int) + (k : Int) + (N : Int) := IntWalk.i64_in _ (by have := HM.out; omega)
     have m3 : IntKind.i64.wrap ((used : Int) + (k : Int) + (N : Int) + 4) = (used : Int) + (k : Int) + (N : Int) + 4 := IntWalk.i64_in _ (by have := HM.out; omega)
     by_cases hsh : (l.drop used).length < k + N + 4
     · have HF : Hid (firstL (l.drop used) = none) := aside (by rw [hF, if_neg (by omega), if_pos hsh])
       have p6 : decide ((len : Int) < (used : Int) + (k : Int) + (N : Int) + 4) = true := by simp; omega
       have p7 : ((((k : Int) == 0) || decide ((4000 : Int) < (N : Int))) || decide ((len : Int) < (used : Int) + (k : Int) + (N : Int) + 4)) = true := by rw [p6]; simp
       clear hF hN64 hk10 hkl Sw hg hBl hl1 hcap n4 k0 hsh
       go_wp2_with (first | go_skip)
       refine q.mono ?_
       rintro e w1 ⟨rfl, k1⟩
       have b1 := kb.trans (k1.mono kb.size)
       have O1 := aside (owns_below HO.out k1)
       have H1 := aside (HH.out.below k1)
       clear q HO HH
       obtain ⟨A9, c9, rfl, hrec⟩ := done _ O1.out H1.out b1 HF.out
       have HX := aside hrec
       clear hrec done
       go_wp2_with (first | go_skip)
       exact bodyPost_ret (v := .tuple #[.slice A9 pre.length c9, .int .i64 used]) (by simp [results, Tryz.results31, go_sem]) rfl HX.out
     have p6 : decide ((len : Int) < (used : Int) + (k : Int) + (N : Int) + 4) = false := by simp; omega
     have p7 : ((((k : Int) == 0) || decide ((4000 : Int) < (N : Int))) || decide ((len : Int) < (used : Int) + (k : Int) + (N : Int) + 4)) = false := by rw [p6, p1]; rfl
     obtain ⟨x, hx⟩ : ∃ x, ((l.drop used).drop k).take N = x := ⟨_, rfl⟩
     obtain ⟨x1, x2, x3⟩ := firstL_own hBl hg k0 (by omega) (by omega) hx
     obtain ⟨A3, c3, hs3, S3, hl3⟩ := Sw.part (used + k) (used + k + N) (by omega) (by have := HL.out; omega)
     have ex : (l.drop (used + k)).take (used + k + N - (used + k)) = x := by rw [← hx, List.drop_drop, show used + k + N - (used + k) = N by omega]
     rw [ex] at S3 hl3
     have eN : used + k + N - (used + k) = N := by omega
     rw [eN] at hs3 hl3
     have i1 : ((used + k : Nat) : Int) = (used : Int) + (k : Int) := by omega
     have i2 : ((used + k + N : Nat) : Int) = (used : Int) + (k : Int) + (N : Int) := by omega
     have hr3 := fun W => run_part_lh W A len cap .i64 .i64 (used + k) (used + k + N) (by omega) (by have := HL.out; omega)
     rw [hs3, i1, i2] at hr3
     obtain ⟨n, hn⟩ : ∃ n, k + N + 4 = n := ⟨_, rfl⟩
     rw [hn] at x2 x3
     have hnlen : used + n ≤ len := by omega
     obtain ⟨F, hF2⟩ : ∃ F, frameL x = F := ⟨_, rfl⟩
     rw [hF2] at x2 x3
     have FB : ∀ y ∈ F, Byt.B y := by rw [← hF2]; exact frame_B (S3.bytes)
     obtain ⟨A6, c6, hs6, S6, hl6⟩ := Sw.part used (used + n) (by omega) (by have := HL.out; omega)
     have eB : (l.drop used).take (used + n - used) = (l.drop used).take n := by rw [show used + n - used = n by omega]
     rw [eB] at S6 hl6
     have eN2 : used + n - used = n := by omega
     rw [eN2] at hs6 hl6
     have i3 : ((used + n : Nat) : Int) = (used : Int) + (n : Int) := by omega
     have hr6 := fun W => run_part_lh W A len cap .i64 .i64 used (used + n) (by omega) (by have := HL.out; omega)
     rw [hs6, i3] at hr6
     obtain ⟨Bk, hBk⟩ : ∃ Bk, (l.drop used).take n = Bk := ⟨_, rfl⟩
     rw [hBk] at S6 hl6 x3
     have hne := strOf_beq FB S6.bytes
     have m5 : IntKind.i64.wrap ((used : Int) + (n : Int)) = (used : Int) + (n : Int) := IntWalk.i64_in _ (by have := HM.out; omega)
     have p8 : 0 ≤ (used : Int) + (n : Int) := by omega
     have hn5 : 5 ≤ n := by omega
     have hN40 : N ≤ 4000 := by omega
     have hx3 : x.length = N := hl3
     have q5 := fun W (T : Sl W A3 c3 x) => T
     have HX1 := aside x3
     have HFX := aside hF2
     have HEX : ∀ p : Pb, p.bs = x → firstL (l.drop used) = some x → Hid (readL l = (tx (pre ++ [p]) ++ (readL (l.drop (used + n))).1, (used + n) + (readL (l.drop (used + n))).2)) := fun p hp hf => aside (by
       have e2 := readL_some hf
       rw [List.drop_drop, hF2, x2] at e2
       rw [HR.out, e2, tx_append, List.append_assoc, Nat.add_assoc]
       simp [tx, hp])
     have hFn : F.length = n := x2
     clear hF hN64 hk10 hkl Sw hg hBl hl1 hcap n4 k0 hsh hs3 ex eN i1 i2 hs6 eB eN2 x3 x2 x1 hF2 hBk hx hn q5
     go_wp2_with (first | go_skip)
     refine q.mono ?_
     rintro e w1 ⟨rfl, k1⟩
     have b1 := kb.trans (k1.mono kb.size)
     have O1 := aside (owns_below HO.out k1)
     have H1 := aside (HH.out.below k1)
     have T3 := S3.below k1
     have T6 := S6.below k1
     have bs1 := b1.size
     clear q HO HH S3 S6 k1 kb
     have nil1 : w1.ownsRow w1.heap.size 5 1 (.slice none 0 0) 0 (Byt.bv []) := World.ownsRow_nil _ _ _ _
     go_wp2_with (first | go_skip | (refine wpList_append_sl rfl (.const (.slice none 0 0)) (.tmp 50) 22 rfl w1.heap.size 5 Tryz.underlying22 zero_u8 _ 0 [] rfl nil1 A3 N c3 x rfl hx3 T3 (by omega) (Nat.le_refl _) ?_; intro v2 w2 own2 g2; have k2 : Below w1.heap.size w1 w2 := below_grown (Below.refl _ _) (Nat.le_refl _) g2 (fun q hq => by cases hq)))
     have own3 : w2.ownsRow w1.heap.size 5 1 v2 x.length (Byt.bv x) := by rw [hx3]; simpa using own2
     have hlt := own3.lt
     obtain ⟨A7, c7, rfl, S7⟩ := Sl.own own3 T3.bytes
     have far : ∀ b off sp, A7 = some ⟨b, off, sp⟩ → w1.heap.size ≤ b ∧ b < w2.heap.size := fun b off sp h => by
       subst h
       exact hlt b rfl
     have hlt4 : ∀ q, u4.ownBlock = some q → q < w1.heap.size := fun q hq => (O1.out.lt q hq).2
     have H2 := aside ((H1.out.below k2).snoc (p := ⟨A7, c7, x⟩) S7 (fun b off sp e => ⟨fun e2 => by
       have h1 := (far b off sp e).1
       have h2 := hlt4 b e2
       omega, (far b off sp e).2⟩))
     have O2 := aside (owns_below O1.out k2)
     have H2' := aside (H1.out.below k2)
     have T6' := T6.below k2
     have b2 := b1.trans (k2.mono bs1)
     have qf := LogS.frame_yes S7 rfl (by omega)
     rw [HFX.out] at qf
     clear own2 own3 hlt far hlt4 g2 T3 T6 O1 H1 b1 bs1 k2 nil1
     refine qf.mono ?_
     rintro e w3 ⟨A8, c8, rfl, S8, k3⟩
     simp only [] at S8
     have b3 := b2.trans (k3.mono b2.size)
     have O3 := aside (owns_below O2.out k3)
     have H3 := aside (H2.out.below k3)
     have H3' := aside (H2'.out.below k3)
     have T8 := T6'.below k3
     have bs3 := b3.size
     have cv1 := fun n => S8.conv_quiet hFn n
     have cv2 := fun n => T8.conv_quiet hl6 n
     clear qf O2 H2 H2' T6' b2 k3 S7
     by_cases hEq : F = Bk
     · have hf : firstL (l.drop used) = some x := by rw [HX1.out, if_pos hEq]
       have HE := HEX ⟨A7, c7, x⟩ rfl hf
       have tne : ((strOf F).toList == (strOf Bk).toList) = true := by rw [hne]; simp [hEq]
       clear hne HEX HX1 hf done hEq H3'
       go_wp2_with (first | go_skip)
       go_quiet (fail)
       have O4 := aside (owns_below O3.out (Byt.below_drewN w3 nq))
       have H4 := aside (H3.out.below (Byt.below_drewN w3 nq))
       have b4 := Byt.below_drew b3 nq
       have bs4 := b4.size
       have ka : Below (w3.drewN nq).heap.size (w3.drewN nq) ((w3.drewN nq).alloc (.cells #[hd ⟨A7, c7, x⟩] 22)) := (Below.refl _ _).alloc (Nat.le_refl _) _
       have O5 := aside (owns_below O4.out ka)
       have H5 := aside (H4.out.below ka)
       have b5 := b4.trans (ka.mono bs4)
       have bs5 := b5.size
       have hd5 : hd ⟨A7, c7, x⟩ = .slice A7 N c7 := by unfold hd; rw [hx3]
       clear O3 H3 b3 bs3 H4 O4 b4 bs4 ka S8 T8 cv1 cv2
       go_wp2_with (first | go_skip | (refine wpList_append_ps rfl (.tmp 68) (.tmp 70) rfl w.heap.size _ pre.length pre rfl ?c1 _ ⟨A7, c7, x⟩ rfl ?c2 (by have := HM.out; omega) ?c3 ?_; (case c1 => rw [← hd5]; exact O5.out); (case c2 => rw [← hd5]; exact new1 (w3.drewN nq) _ _); (case c3 => rw [← hd5]; exact bs5); intro v8 w8 o8 g8 e8; rw [← hd5] at g8 e8; have b8 := below_grown b5 bs5 g8 (fun q hq => (O5.out.lt q hq).1); have H8 := aside (H5.out.grown g8 e8); have O8 := aside o8; clear o8 g8 e8))
       go_roundw
       case rel => exact ⟨pre ++ [⟨A7, c7, x⟩], used + n, by rw [i3], aside (by rw [List.length_append]; exact O8.out), H8, HE, by omega, by simp; omega, b8⟩
       case measure => simp [intOf]; omega
     · have HF := aside (show firstL (l.drop used) = none by rw [HX1.out, if_neg hEq])
       have tne : ((strOf F).toList == (strOf Bk).toList) = false := by rw [hne]; simp [hEq]
       clear hne HEX HX1 hEq H3
       go_wp2_with (first | go_skip)
       go_quiet (fail)
       obtain ⟨A9, c9, rfl, hrec⟩ := done (w3.drewN nq) (owns_below O3.out (Byt.below_drewN w3 nq)) (H3'.out.below (Byt.below_drewN w3 nq)) (Byt.below_drew b3 nq) HF.out
       have HX := aside hrec
       clear hrec done
       go_wp2_with (first | go_skip)
       exact bodyPost_ret (v := .tuple #[.slice A9 pre.length c9, .int .i64 used]) (by simp [results, Tryz.results31, go_sem]) rfl HX.out
   · have e0 : l.drop used = [] := List.drop_of_length_le (by have := HL.out; omega)
     have HF : Hid (firstL (l.drop used) = none) := aside (by rw [e0]; exact firstL_nil)
     have p4 : ¬ (used : Int) < (len : Int) := by omega
     clear e0
     obtain ⟨A9, c9, rfl, hrec⟩ := done _ HO.out HH.out kb HF.out
     have HX := aside hrec
     clear hrec done
     go_wp2_with (first | go_skip)
     exact bodyPost_ret (v := .tuple #[.slice A9 pre.length c9, .int .i64 used]) (by simp [results, Tryz.results31, go_sem]) rfl HX.out
end Go.Proofs.YtgoapaanmcmlmaaGreatDoor.LogT
namespace Go.Proofs.YtgoapaanmcmlmaaGreatDoor.LogU
set_option maxRecDepth 100000
open Go Go.Sort Go.RowKit Byt RotG Small EncM EncC LogM LogC LogD LogE LogB LogW
set_option maxRecDepth 100000 in
set_option maxHeartbeats 8000000 in
theorem write_ret {w : World} {A A' : Option Addr} {cap cap' len len' : Nat} {b x : List Int} {room : Int} (S : Sl w A cap b) (T : Sl w A' cap' x) (hl : b.length = len) (hl' : x.length = len') (hm : len ≤ 900000000) :
   Calls Tryz.prog 27 #[.slice A len cap, .int .i64 room, .slice A' len' cap'] w (GivesE (writeO b x room) w) := by
 by_cases h4 : 4000 < len'
 · have q := LogS.frame_no (w := w) (A := A') (cap := cap') h4
   have HO : Hid (writeO b x room = ([], 5)) := aside (by unfold writeO; rw [if_pos (by omega)])
   clear S T hl hl' hm h4
   go_enter Tryz.func27, Tryz.ntmps27
   go_wp2_with (first | go_skip)
   refine q.mono ?_
   rintro e w1 ⟨A2, c2, rfl, S2, k1⟩
   clear q
   go_wp2_with (first | go_skip)
   exact bodyPost_ret (v := .tuple #[.slice none 0 0, .int .i64 5]) (by simp [results, Tryz.results27, go_sem]) rfl (by rw [HO.out]; exact ⟨none, 0, rfl, Sl.nil _, k1⟩)
 · have q := LogS.frame_yes T hl' (by omega)
   have hlen := frameL_len x
   have hten := numL_ten (n := x.length) (by omega)
   have hx4 : ¬ 4000 < x.length := by omega
   obtain ⟨F, hF⟩ : ∃ F, frameL x = F := ⟨_, rfl⟩
   rw [hF] at q hlen
   have m1 : IntKind.i64.wrap ((len : Int) + (F.length : Int)) = (len : Int) + (F.length : Int) := IntWalk.i64_in _ (by omega)
   by_cases hr : room < (len : Int) + (F.length : Int)
   · have HO : Hid (writeO b x room = ([], 4)) := aside (by unfold writeO; rw [if_neg hx4, hF, if_pos (by omega)])
     clear S T hl hl' hm h4 hlen hten hF hx4
     go_enter Tryz.func27, Tryz.ntmps27
     go_wp2_with (first | go_skip)
     refine q.mono ?_
     rintro e w1 ⟨A2, c2, rfl, S2, k1⟩
     clear q
     go_wp2_with (first | go_skip)
     exact bodyPost_ret (v := .tuple #[.slice none 0 0, .int .i64 4]) (by simp [results, Tryz.results27, go_sem]) rfl (by rw [HO.out]; exact ⟨none, 0, rfl, Sl.nil _, k1⟩)
   · have HO : Hid (writeO b x room = (b ++ F, 0)) := aside (by unfold writeO; rw [if_neg hx4, hF, if_neg (by omega)])
     have hsum : len + F.length ≤ 1000000000 := by omega
     have bB := S.bytes
     clear T hl' h4 hlen hten hF hm hx4
     go_enter Tryz.func27, Tryz.ntmps27
     go_wp2_with (first | go_skip)
     refine q.mono ?_
     rintro e w1 ⟨A2, c2, rfl, S2, k1⟩
     clear q
     have S1 := S.below k1
     simp only [] at S2
     have FB := S2.bytes
     have bs1 := k1.size
     have nil1 : w1.ownsRow w.heap.size 5 1 (.slice none 0 0) 0 (Byt.bv []) := World.ownsRow_nil _ _ _ _
     clear S
     go_wp2_with (first | go_skip | (refine wpList_append_sl rfl (.const (.slice none 0 0)) (.tmp 25) 22 rfl w.heap.size 5 Tryz.underlying22 zero_u8 _ 0 [] rfl nil1 A len cap b rfl hl S1 (by omega) bs1 ?_; intro v2 w2 own2 g2; have b2 := below_grown k1 k1.size g2 (fun q hq => by cases hq); have k2 : Below w1.heap.size w1 w2 := below_grown (Below.refl _ _) (Nat.le_refl _) g2 (fun q hq => by cases hq); have S3 := S2.below k2; have bs2 := b2.size) | (refine wpList_append_sl rfl (.tmp 26) (.tmp 27) 22 rfl w.heap.size 5 Tryz.underlying22 zero_u8 v2 (0 + len) ([] ++ b) rfl own2 A2 F.length c2 F rfl rfl S3 (by omega) bs2 ?_; intro v3 w3 own3 g3; have b3 := below_grown b2 bs2 g3 (fun q hq => (own2.lt q hq).1)))
     have own4 : w3.ownsRow w.heap.size 5 1 v3 (b ++ F).length (Byt.bv (b ++ F)) := by
       rw [List.length_append, hl]
       simpa using own3
     obtain ⟨A6, c6, rfl, S6⟩ := Sl.own own4 (fun y hy => (List.mem_append.1 hy).elim (bB y) (FB y))
     exact bodyPost_ret (v := .tuple #[.slice A6 (b ++ F).length c6, .int .i64 0]) (by simp [results, Tryz.results27, go_sem]) rfl (by rw [HO.out]; exact ⟨A6, c6, rfl, S6, b3⟩)
end Go.Proofs.YtgoapaanmcmlmaaGreatDoor.LogU
namespace Go.Proofs.YtgoapaanmcmlmaaGreatDoor.StoR
set_option maxRecDepth 100000
open Go Go.Sort Go.RowKit Byt IdM IdW OpsM OpsW CmM StW CmW CmX CmY DgM DgW StoM StoW LogD LogE LogW
set_option maxRecDepth 100000 in
set_option maxHeartbeats 4000000 in
theorem put_ret {w : World} {A : Option Addr} {cap len : Nat} {b : List Int} {room : Int} {v : Cv} (S : Sl w A cap b) (hl : b.length = len) (hm : len ≤ 900000000) (I : In w v) (ho : CmR.Okay v.c) :
   Calls Tryz.prog 11 #[.slice A len cap, .int .i64 room, .agg (cc v)] w (GivesE (putO b v.c room) w) := by
 have kb : Below w.heap.size w (w.alloc (.cells (cc v) 29)) := (Below.refl _ _).alloc (Nat.le_refl _) _
 have B0 : Cel.Box CE (w.alloc (.cells (cc v) 29)) w.heap.size v := Cel.Box.new (E := CE) w v _
 have q := put_doc v _ (I.below kb) ho
 cases hmay : mayK v.c with
 | false =>
   obtain ⟨h1, h2, _⟩ := putB_no hmay
   have HO : Hid (putO b v.c room = ([], 1)) := aside (by unfold putO; rw [if_neg (by rw [hmay]; simp)])
   unfold PutOut at q
   rw [h1, h2] at q
   clear h1 h2 S hl hm I ho
   go_enter Tryz.func11, Tryz.ntmps11
   go_wp2_with (first | go_skip | (refine Cel.wpList_load_box CE rfl _ rfl _ rfl _ B0 ?_))
   refine q.mono ?_
   rintro e w1 ⟨A1, c1, rfl, S1, k1⟩
   clear q
   go_wp2_with (first | go_skip)
   exact bodyPost_ret (v := .tuple #[.slice none 0 0, .int .i64 1]) (by simp [results, Tryz.results11, go_sem]) rfl (by rw [HO.out]; exact ⟨none, 0, rfl, Sl.nil _, kb.trans (k1.mono kb.size)⟩)
 | true =>
   obtain ⟨h1, h2, _⟩ := putB_yes hmay
   have HO : Hid (putO b v.c room = writeO b (putK v.c) room) := aside (by unfold putO; rw [if_pos hmay])
   unfold PutOut at q
   rw [h1, h2] at q
   obtain ⟨P, hP⟩ : ∃ P, putK v.c = P := ⟨_, rfl⟩
   rw [hP] at q HO
   obtain ⟨O, hO⟩ : ∃ O, writeO b P room = O := ⟨_, rfl⟩
   have qw := fun W A' cap' (S : Sl W A cap b) (T : Sl W A' cap' P) => LogU.write_ret (room := room) S T hl rfl hm
   rw [hO] at qw HO
   clear h1 h2 hl hm I ho hP hO
   go_enter Tryz.func11, Tryz.ntmps11
   go_wp2_with (first | go_skip | (refine Cel.wpList_load_box CE rfl _ rfl _ rfl _ B0 ?_))
   refine q.mono ?_
   rintro e w1 ⟨A1, c1, rfl, S1, k1⟩
   have b1 := kb.trans (k1.mono kb.size)
   clear q
   go_wp2_with (first | go_skip)
   refine (qw _ _ _ (S.below b1) S1).mono ?_
   rintro e w2 ⟨A2, c2, rfl, S2, k2⟩
   have b2 := b1.trans (k2.mono b1.size)
   go_wp2_with (first | go_skip)
   exact bodyPost_ret (v := .tuple #[.slice A2 O.1.length c2, .int .i64 O.2]) (by simp [results, Tryz.results11, go_sem]) rfl (by rw [HO.out]; exact ⟨A2, c2, rfl, S2, b2⟩)
def intOf : Value → Int | .int _ q => q | _ => 0
theorem lastL_next {l : List Com} {k : Nat} {c : Com} (h : l[k]? = some c) (node : Int) : lastL (l.take (k + 1)) node = if c.node = node ∧ lastL (l.take k) node < c.seq then c.seq else lastL (l.take k) node := by
 rw [List.take_add_one, h]
 exact lastL_snoc _ _ _
theorem ev_node {w : World} {b off : Nat} {x : Cv} (h : w.rangeAt b off (cc x).toList) : w.cell? ⟨b, off, none⟩ = some (.int .i64 x.c.node) := by
 have := h 0 _ rfl
 rwa [Nat.add_zero] at this
theorem ev_seq {w : World} {b off : Nat} {x : Cv} (h : w.rangeAt b off (cc x).toList) : w.cell? ⟨b, off + 1, none⟩ = some (.int .i64 x.c.seq) := h 1 _ rfl
set_option maxRecDepth 100000 in
set_option maxHeartbeats 8000000 in
theorem last_ret (A : Option Addr) (cap : Nat) (l : List Cv) (node : Int) (w : World) (S : SlK w A cap l) :
   Calls Tryz.prog 18 #[.slice A l.length cap, .int .i64 node] w fun e w' => e = .returned (.int .i64 (lastL (coms l) node)) ∧ Below w.heap.size w w' := by
 have hmax := S.len
 go_enter Tryz.func18, Tryz.ntmps18
 go_wp2_with (first | go_skip)
 go_loopw [5, 6] (fun n i wr => ∃ (k : Nat) (q : Int), k ≤ l.length ∧ n = .int .i64 q ∧ i = .int .i64 k ∧ Hid (lastL ((coms l).take k) node = q) ∧ Below w.heap.size w wr) (fun _ i _ => l.length - (intOf i).toNat)
 case atStart => exact ⟨0, 0, Nat.zero_le _, rfl, rfl, aside rfl, Below.refl _ _⟩
 case round =>
   rename World => wr
   obtain ⟨k, q, hk, rfl, rfl, HQ, kb⟩ := hrel
   by_cases hlt : k < l.length
   · obtain ⟨b, off, rfl, hbw, hrg⟩ := S.plain (by omega)
     obtain ⟨x, hx⟩ : ∃ x, l[k]? = some x := ⟨_, List.getElem?_eq_getElem hlt⟩
     have hr1 := range_on (hrg k x hx) kb
     have c0 := ev_node hr1
     have c1 := ev_seq hr1
     have hn := lastL_next (coms_at hx) node
     rw [HQ.out] at hn
     have p0 : (k : Int) < l.length := by omega
     have m0 : ((k : Int)).toNat = k := by omega
     clear hrg hr1 S hx hbw HQ
     by_cases h1 : x.c.node = node
     · by_cases h2 : q < x.c.seq
       · have HN := aside (show lastL ((coms l).take (k + 1)) node = x.c.seq by rw [hn, if_pos ⟨h1, h2⟩])
         clear hn
         go_wp2_with (first | go_skip)
         go_roundw
         case rel => exact ⟨k + 1, _, by omega, rfl, by go_num, HN, kb⟩
         case measure => simp [intOf]; omega
       · have HN := aside (show lastL ((coms l).take (k + 1)) node = q by rw [hn, if_neg (fun h => h2 h.2)])
         clear hn
         go_wp2_with (first | go_skip)
         go_roundw
         case rel => exact ⟨k + 1, _, by omega, rfl, by go_num, HN, kb⟩
         case measure => simp [intOf]; omega
     · have HN := aside (show lastL ((coms l).take (k + 1)) node = q by rw [hn, if_neg (fun h => h1 h.1)])
       clear hn
       go_wp2_with (first | go_skip)
       go_roundw
       case rel => exact ⟨k + 1, _, by omega, rfl, by go_num, HN, kb⟩
       case measure => simp [intOf]; omega
   · have HN := aside (show lastL (coms l) node = q by rw [← HQ.out, List.take_of_length_le (by rw [coms_len]; omega)])
     have p0 : ¬ (k : Int) < l.length := by omega
     clear HQ S
     go_wp2_with (first | go_skip)
     go_ret
     exact ⟨by rw [HN.out]; rfl, kb⟩
end Go.Proofs.YtgoapaanmcmlmaaGreatDoor.StoR
