/- What the document's Frame returns: a contract. No condition but sizes. -/
import Derived.Test.YthdpipllighegaaDoorLogE
import Derived.Test.YthdpipllighegaaDoorRefW
import Derived.Test.YthdpipllighegaaDoorRefE
namespace Go.Proofs.YthdpipllighegaaDoor.LogS
set_option maxRecDepth 100000
open Go Go.Sort Go.RowKit Byt RotG Small EncM EncC LogM LogC LogD LogE

theorem dsum {w : World} {A : Option Addr} {cap len : Nat} {l : List Int} (h : Sl w A cap l) (hl : l.length = len) (hm : len ≤ 1099511627776) :
    Calls Tryd.prog 20 #[.slice A len cap] w fun e w' => e = .returned (.agg (Byt.bv (ShaH.sumL l)).toArray) ∧ Below w.heap.size w w' := by
  subst hl
  have := RefW.sumW (rowL_of h) hm
  rw [List.take_of_length_le (Nat.le_refl _)] at this
  exact this
theorem four_of {S : List Int} (h : 4 ≤ S.length) : ∃ a b c d r, S = a :: b :: c :: d :: r := by
  match S, h with
  | a :: b :: c :: d :: r, _ => exact ⟨a, b, c, d, r, rfl⟩
/-- A slice that was just made of four bytes. -/
theorem new4 (w : World) (a b c d : Int) (t : TypeId) (h : ∀ x ∈ [a, b, c, d], Byt.B x) : Sl (w.alloc (.cells #[.int .u8 a, .int .u8 b, .int .u8 c, .int .u8 d] t)) (some ⟨w.heap.size, 0, none⟩) 4 [a, b, c, d] :=
  sl_at (l := [a, b, c, d]) (At.new w _ t) (by simp [maxLen]) h
theorem at_kept {w w' : World} {g : Nat} {row : Option Nat} {c : Array Value} (h : At w g c) (hg : w.grownBy w' row) (hne : some g ≠ row) : At w' g c := by
  have hl := h.lt
  obtain ⟨t, ht⟩ := h
  exact ⟨t, (hg.block g hl hne).trans ht⟩
set_option maxRecDepth 100000 in
set_option maxHeartbeats 8000000 in
theorem frame_yes {w : World} {A : Option Addr} {cap len : Nat} {l : List Int} (S : Sl w A cap l) (hl : l.length = len) (hm : len ≤ 4000) :
    Calls Tryd.prog 9 #[.slice A len cap] w (GivesE (frameL l, 0) w) := by
  have hs := fun W (T : Sl W A cap l) => dsum T hl (by omega)
  obtain ⟨S2, hS2⟩ : ∃ S, ShaH.sumL l = S := ⟨_, rfl⟩
  have h32 : S2.length = 32 := by rw [← hS2]; exact ShaH.sumL_length l
  have sB : ∀ x ∈ S2, Byt.B x := by rw [← hS2]; exact sum_B l
  have hmk : markL l = S2.take 4 := by rw [← hS2]; rfl
  obtain ⟨s0, s1, s2, s3, sr, rfl⟩ := four_of (S := S2) (by omega)
  have hF : Hid (frameL l = (numL len ++ l) ++ [s0, s1, s2, s3]) := aside (by unfold frameL; rw [hmk, hl]; simp)
  have fB : ∀ x ∈ [s0, s1, s2, s3], Byt.B x := fun x hx => sB x (by
    rw [show s0 :: s1 :: s2 :: s3 :: sr = [s0, s1, s2, s3] ++ sr from rfl]
    exact List.mem_append_left _ hx)
  have hten := numL_ten (n := len) (by omega)
  have hnB : ∀ x ∈ numL len, Byt.B x := numL_range len
  have aB : ∀ x ∈ (numL len ++ l) ++ [s0, s1, s2, s3], Byt.B x := fun x hx => (List.mem_append.1 hx).elim (fun hx => (List.mem_append.1 hx).elim (hnB x) (S.bytes x)) (fB x)
  have e32 := bsize (s0 :: s1 :: s2 :: s3 :: sr)
  rw [h32] at e32
  have one := bone (s0 :: s1 :: s2 :: s3 :: sr)
  have g0 : (Byt.bv (s0 :: s1 :: s2 :: s3 :: sr)).toArray[0]? = some (.int .u8 s0) := rfl
  have g1 : (Byt.bv (s0 :: s1 :: s2 :: s3 :: sr)).toArray[1]? = some (.int .u8 s1) := rfl
  have g2 : (Byt.bv (s0 :: s1 :: s2 :: s3 :: sr)).toArray[2]? = some (.int .u8 s2) := rfl
  have g3' : (Byt.bv (s0 :: s1 :: s2 :: s3 :: sr)).toArray[3]? = some (.int .u8 s3) := rfl
  rw [hS2] at hs
  obtain ⟨m, hM⟩ : ∃ m, (Byt.bv (s0 :: s1 :: s2 :: s3 :: sr)).toArray = m := ⟨_, rfl⟩
  rw [hM] at hs e32 one g0 g1 g2 g3'
  have n0 : ¬ (4000 : Int) < (len : Int) := by omega
  have p0 : 0 ≤ (len : Int) := by omega
  have p1 : (len : Int) ≤ 18446744073709551615 := by omega
  have fit : Fits len := by unfold Fits; omega
  have qn := fun W => RefE.num len fit W
  obtain ⟨N, hN⟩ : ∃ N, numL len = N := ⟨_, rfl⟩
  rw [hN] at qn hF hten hnB aB
  clear hM hN hmk hS2 h32 sB fit
  go_enter Tryd.func9, Tryd.ntmps9
  go_wp2_with (first | go_skip)
  refine (hs _ S).mono ?_
  rintro e w1 ⟨rfl, k1⟩
  clear hs
  have z4 : At (w1.alloc (.cells m 44)) w1.heap.size m := At.new _ _ _
  have kb := k1.alloc k1.size (.cells m 44)
  have T1 := S.below kb
  go_wp2_with (first | go_skip | (refine wpList_store_last rfl 44 _ _ rfl _ _ _ 44 rfl _ rfl ?c1 rfl ?c2 ?c3 ?c4 ?_; (case c1 => simp); (case c2 => rw [e32]; exact info_id); (case c3 => rw [e32]; rfl); (case c4 => exact one)))
  refine (qn _).mono ?_
  rintro e w2 ⟨v2, rfl, own2, k2⟩
  have T2 := T1.below k2
  have b2 := kb.trans (k2.mono kb.size)
  have z5 := z4.below k2 z4.lt
  obtain ⟨K, hK⟩ : ∃ K, (w1.alloc (.cells m 44)).heap.size = K := ⟨_, rfl⟩
  have hlt := z4.lt
  have kbs := kb.size
  have k2s := k2.size
  rw [hK] at own2 hlt kbs k2s
  obtain ⟨G, hG⟩ : ∃ G, w1.heap.size = G := ⟨_, rfl⟩
  rw [hG] at z5 hlt
  rw [hG]
  clear z4 T1 kb k2 hK hG k1 qn
  have sum1 : N.length + len ≤ 1099511627900 := by omega
  have sum2 : N.length + len + 4 ≤ 1099511627900 := by omega
  go_wp2_with (first | go_skip | (refine wpList_append_sl rfl (.tmp 14) (.tmp 15) 22 rfl K 5 Tryd.underlying22 zero_u8 v2 N.length N rfl own2 A len cap l rfl hl T2 sum1 k2s ?_; intro v3 w3 own3 g3; have b3 := below_grown b2 b2.size g3 (fun q hq => Nat.le_trans kbs (own2.lt q hq).1); have z6 := at_kept z5 g3 (fun e => by have := (own2.lt G e.symm).1; omega); have c0 := (z6.cell 0).trans g0; have c1 := (z6.cell 1).trans g1; have c2 := (z6.cell 2).trans g2; have c3 := (z6.cell 3).trans g3'; have k3s := Nat.le_trans k2s g3.size) | (refine wpList_append_sl rfl (.tmp 17) (.tmp 26) 22 rfl K 5 Tryd.underlying22 zero_u8 v3 (N.length + len) (N ++ l) rfl (own3.alloc _) _ 4 4 [s0, s1, s2, s3] rfl rfl (new4 w3 s0 s1 s2 s3 _ fB) sum2 (by simp; omega) ?_; intro v4 w4 own4 g4; have b4 := below_grown (b3.alloc b3.size _) (by have := b3.size; simp; omega) g4 (fun q hq => Nat.le_trans kbs (own3.lt q hq).1)))
  have hlen : N.length + len + 4 = ((N ++ l) ++ [s0, s1, s2, s3]).length := by simp [hl]; omega
  rw [hlen] at own4
  obtain ⟨A4, C4, rfl, S4⟩ := Sl.own own4 aB
  exact bodyPost_ret (v := .tuple #[.slice A4 ((N ++ l) ++ [s0, s1, s2, s3]).length C4, .int .i64 0]) (by simp [results, Tryd.results9, go_sem]) rfl (by rw [hF.out]; exact ⟨A4, C4, rfl, S4, b4⟩)
set_option maxRecDepth 100000 in
theorem frame_no {w : World} {A : Option Addr} {cap len : Nat} (hm : 4000 < len) :
    Calls Tryd.prog 9 #[.slice A len cap] w (GivesE ([], 5) w) := by
  have n0 : (4000 : Int) < (len : Int) := by omega
  clear hm
  go_enter Tryd.func9, Tryd.ntmps9
  go_wp2_with (first | go_skip)
  exact bodyPost_ret (v := .tuple #[.slice none 0 0, .int .i64 5]) (by simp [results, Tryd.results9, go_sem]) rfl ⟨none, 0, rfl, Sl.nil w, Below.refl _ _⟩
theorem frame_ret {w : World} {A : Option Addr} {cap len : Nat} {l : List Int} (S : Sl w A cap l) (hl : l.length = len) :
    Calls Tryd.prog 9 #[.slice A len cap] w (GivesE (frameO l) w) := by
  unfold frameO
  by_cases h : l.length ≤ 4000
  · rw [if_pos h]
    exact frame_yes S hl (by omega)
  · rw [if_neg h]
    exact frame_no (by omega)
end Go.Proofs.YthdpipllighegaaDoor.LogS
