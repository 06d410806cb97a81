/- What the document's Get of package ops returns: contracts. -/
import Derived.Test.YtgoapaanmcmlmaaGreatDoorCmQJ3
import Derived.Test.YtgoapaanmcmlmaaGreatDoorSoTJ3
import Derived.Test.YtgoapaanmcmlmaaGreatDoorEvRJ5
import Derived.Test.YtgoapaanmcmlmaaGreatDoorRefEJ3
namespace Go.Proofs.YtgoapaanmcmlmaaGreatDoor.OpsT
set_option maxRecDepth 100000
open Go Go.RowKit Go.Sort Byt OpsM OpsK OpsW OpsC EncM EncC EncE OpsG OpsH OpsF
set_option maxRecDepth 100000 in
set_option maxHeartbeats 8000000 in
theorem get_early (A : Option Addr) (len cap : Nat) (bs : List Int) (w : World) (hS : Sl w A cap bs) (hl : bs.length = len) (hlen : len ≤ 1099511627776) (h : (getL bs).2 = 0 ∨ 4 ≤ (getL bs).1) :
   Calls Tryz.prog 63 #[.slice A len cap] w (GetOut (getO bs) w) := by
 have hz : (w.alloc (.cells (opc noOp) 27)).heap.size = w.heap.size + 1 := by simp
 have A0 := (OpAt.new w noOp 27).alloc (.cells (opc noOp) 27)
 have A1 := OpAt.new (w.alloc (.cells (opc noOp) 27)) noOp 27
 rw [hz] at A1
 have ka : Below w.heap.size w ((w.alloc (.cells (opc noOp) 27)).alloc (.cells (opc noOp) 27)) := (below_alloc w _).alloc (by simp) _
 clear hz
 have hg := fun {W : World} (S : Sl W A cap bs) => RefF.get S hl hlen
 have HQ := aside (getO_early h)
 obtain ⟨n, hn⟩ : ∃ n, (getL bs).1 = n := ⟨_, rfl⟩
 obtain ⟨k, hk⟩ : ∃ k, (getL bs).2 = k := ⟨_, rfl⟩
 obtain ⟨q, hq⟩ : ∃ q, getO bs = q := ⟨_, rfl⟩
 rw [hn, hk] at hg h
 rw [hq] at HQ ⊢
 clear hn hk hq
 have hcase : (k = 0) ∨ (0 < k ∧ 4 ≤ n) := by omega
 clear h
 rcases hcase with rfl | ⟨hk0, hn4⟩
 all_goals
   go_enter Tryz.func63, Tryz.ntmps63
   go_wp2_with (refine wpList_store_op rfl rfl _ _ rfl _ rfl noOp A1 noOp rfl ?_; intro w0 B1 b0 g0; have B0 := A0.kept g0 (by omega))
   have k0 : Below w.heap.size w w0 := ka.trans (b0 _ (by omega))
   clear A0 A1 ka b0 g0
   refine (hg (hS.below k0)).mono ?_
   clear hg
   rintro e w1 ⟨rfl, h1⟩
   have k1 := k0.trans (h1.mono k0.size)
   have C0 := B0.below h1
   have C1 := B1.below h1
   clear h1 k0 B0 B1
   go_wp2_with (first | (refine wpList_load_op rfl _ rfl _ rfl noOp C1 ?_) | (refine wpList_store_op rfl rfl _ _ rfl _ rfl noOp C0 noOp rfl ?_; intro w3 R3 k3 g3'))
   have r0 := R3.kind
   have r1 := R3.key
   have r2 := R3.elem
   have r3 := R3.n
   exact bodyPost_ret (v := .tuple #[.agg (opc noOp), .slice none 0 0, .int .i64 2]) (by simp [results, Tryz.results63, go_sem, r0, r1, r2, r3, opc]) rfl (GetOut.none HQ.out rfl (k1.trans (k3 _ (Nat.le_refl _))))
set_option maxRecDepth 100000 in
set_option maxHeartbeats 8000000 in
theorem get_cut (A : Option Addr) (len cap : Nat) (bs : List Int) (w : World) (hS : Sl w A cap bs) (hl : bs.length = len) (hlen : len ≤ 1099511627776) (h : ¬ ((getL bs).2 = 0 ∨ 4 ≤ (getL bs).1)) (hc : cutL (bs.drop (getL bs).2) 8 = none) :
   Calls Tryz.prog 63 #[.slice A len cap] w (GetOut (getO bs) w) := by
 have hz : (w.alloc (.cells (opc noOp) 27)).heap.size = w.heap.size + 1 := by simp
 have A0 := (OpAt.new w noOp 27).alloc (.cells (opc noOp) 27)
 have A1 := OpAt.new (w.alloc (.cells (opc noOp) 27)) noOp 27
 rw [hz] at A1
 have ka : Below w.heap.size w ((w.alloc (.cells (opc noOp) 27)).alloc (.cells (opc noOp) 27)) := (below_alloc w _).alloc (by simp) _
 clear hz
 have hg := fun {W : World} (S : Sl W A cap bs) => RefF.get S hl hlen
 obtain ⟨g1, g2, g3⟩ := getL_le hS.bytes
 have hBd : ∀ x ∈ bs.drop (getL bs).2, B x := fun x hx => hS.bytes x (List.mem_of_mem_drop hx)
 have hcut := fun {A2 : Option Addr} {L c2 : Nat} {W : World} (S : Sl W A2 c2 (bs.drop (getL bs).2)) (e : (bs.drop (getL bs).2).length = L) (hL : L ≤ 1099511627776) => RefY.cut 8 S e hL (by omega)
 unfold CutOut at hcut
 rw [hc] at hcut
 simp only at hcut
 have HQ := aside (getO_cut0 h hc)
 clear hc
 obtain ⟨n, hn⟩ : ∃ n, (getL bs).1 = n := ⟨_, rfl⟩
 obtain ⟨k, hk⟩ : ∃ k, (getL bs).2 = k := ⟨_, rfl⟩
 obtain ⟨q, hq⟩ : ∃ q, getO bs = q := ⟨_, rfl⟩
 rw [hn, hk] at hg h
 rw [hk] at hcut g2 g3
 rw [hl] at g3
 rw [hq] at HQ ⊢
 have HL := aside hl
 clear hq hl
 have hk0 : 0 < k := by omega
 have hn4 : n < 4 := by omega
 clear h
 have t0 : ((k : Int) == 0) = false := by simp; omega
 have t1 : decide (4 ≤ (n : Int)) = false := by simp; omega
 obtain ⟨A2, c2, hs2, hS2, hl2⟩ := hS.part k len g3 (by rw [HL.out]; exact Nat.le_refl _)
 have hrun := fun W => run_part_l W A len cap .i64 k g3
 rw [hs2] at hrun
 have hcs : (bs.drop k).take (len - k) = bs.drop k := by rw [List.take_of_length_le]; rw [List.length_drop, HL.out]; exact Nat.le_refl _
 rw [hcs] at hS2 hl2
 have HL2 := aside hl2
 have HLe : len - k ≤ 1099511627776 := by omega
 clear hs2 hcs hl2
 clear hn hk hBd g1
 go_enter Tryz.func63, Tryz.ntmps63
 go_wp2_with (refine wpList_store_op rfl rfl _ _ rfl _ rfl noOp A1 noOp rfl ?_; intro w0 B1 b0 g0; have B0 := A0.kept g0 (by omega))
 have k0 : Below w.heap.size w w0 := ka.trans (b0 _ (by omega))
 clear A0 A1 ka b0 g0
 refine (hg (hS.below k0)).mono ?_
 clear hg
 rintro e w1 ⟨rfl, h1⟩
 have k1 := k0.trans (h1.mono k0.size)
 have C0 := B0.below h1
 have C1 := B1.below h1
 clear h1 k0 B0 B1
 have S1 := hS2.below k1
 clear hS2
 go_wp2_with (refine wpList_store_field rfl rfl 3 _ _ rfl info_int _ 0 rfl (by omega) noOp C1 ⟨n, ⟨#[]⟩, ⟨#[]⟩, 0⟩ _ rfl rfl rfl rfl ?_; intro w2 D1 b2 g2'; have D0 := C0.kept g2' (by omega))
 have k2 := k1.trans (b2 _ (by omega))
 have S2 := Sl.kept S1 C1 g2'
 clear C0 C1 k1 b2 g2' S1
 refine (hcut S2 HL2.out HLe).mono ?_
 clear hcut
 rintro e w3 ⟨h3, rfl⟩
 have k3 := k2.trans (h3.mono k2.size)
 have E0 := D0.below h3
 clear D0 D1 h3 k2 S2
 go_wp2_with (refine wpList_store_op rfl rfl _ _ rfl _ rfl noOp E0 noOp rfl ?_; intro w4 R3 k4 g4')
 have r0 := R3.kind
 have r1 := R3.key
 have r2 := R3.elem
 have r3 := R3.n
 exact bodyPost_ret (v := .tuple #[.agg (opc noOp), .slice none 0 0, .int .i64 2]) (by simp [results, Tryz.results63, go_sem, r0, r1, r2, r3, opc]) rfl (GetOut.none HQ.out rfl (k3.trans (k4 _ (Nat.le_refl _))))
set_option maxRecDepth 100000 in
set_option maxHeartbeats 8000000 in
theorem get0 (A : Option Addr) (len cap : Nat) (bs key r : List Int) (w : World) (hS : Sl w A cap bs) (hl : bs.length = len) (hlen : len ≤ 1099511627776) (h : ¬ ((getL bs).2 = 0 ∨ 4 ≤ (getL bs).1)) (hc : cutL (bs.drop (getL bs).2) 8 = some (key, r)) (hK : (getL bs).1 = 0) :
   Calls Tryz.prog 63 #[.slice A len cap] w (GetOut (getO bs) w) := by
 have hz : (w.alloc (.cells (opc noOp) 27)).heap.size = w.heap.size + 1 := by simp
 have A0 := (OpAt.new w noOp 27).alloc (.cells (opc noOp) 27)
 have A1 := OpAt.new (w.alloc (.cells (opc noOp) 27)) noOp 27
 rw [hz] at A1
 have ka : Below w.heap.size w ((w.alloc (.cells (opc noOp) 27)).alloc (.cells (opc noOp) 27)) := (below_alloc w _).alloc (by simp) _
 clear hz
 have hg := fun {W : World} (S : Sl W A cap bs) => RefF.get S hl hlen
 obtain ⟨g1, g2, g3⟩ := getL_le hS.bytes
 have hBd : ∀ x ∈ bs.drop (getL bs).2, B x := fun x hx => hS.bytes x (List.mem_of_mem_drop hx)
 have hcut := fun {A2 : Option Addr} {L c2 : Nat} {W : World} (S : Sl W A2 c2 (bs.drop (getL bs).2)) (e : (bs.drop (getL bs).2).length = L) (hL : L ≤ 1099511627776) => RefY.cut 8 S e hL (by omega)
 unfold CutOut at hcut
 rw [hc] at hcut
 simp only at hcut
 have hq1 := getO_cut1 h hc
 have hkb := (cut_back hBd hc).2
 have hrb := (cut_B hBd hc).2
 have hrl : r.length ≤ 1099511627776 := by
   have := congrArg List.length (cut_back hBd hc).1
   rw [List.length_drop, List.length_append] at this
   omega
 have hfit : Fit (half (getL bs).1 key) := ⟨(by show I64 (((getL bs).1 : Nat) : Int); unfold I64; omega), (by show I64 0; unfold I64; omega), by show (strOf key).size ≤ _; rw [strOf_size]; unfold maxLen; omega, Nat.zero_le _⟩
 rw [hK, tail_rest1] at hq1
 have hfit2 : ∀ o' r', rest1 (half (getL bs).1 key) r = some (o', r') → Fit o' := fun o' r' e => rest1_fit hfit hrb e
 have HKB : Hid ((strOf key).size ≤ 8) := aside (by rw [strOf_size]; omega)
 have HQ := aside hq1
 have HRB := aside hrb
 clear hc hq1 hfit hrb hkb
 rw [hK] at hfit2
 obtain ⟨n, hn⟩ : ∃ n, (getL bs).1 = n := ⟨_, rfl⟩
 obtain ⟨k, hk⟩ : ∃ k, (getL bs).2 = k := ⟨_, rfl⟩
 obtain ⟨q, hq⟩ : ∃ q, getO bs = q := ⟨_, rfl⟩
 rw [hn, hk] at hg h
 rw [hk] at hcut g2 g3
 rw [hl] at g3
 rw [hq] at HQ ⊢
 have HL := aside hl
 clear hq hl
 have hk0 : 0 < k := by omega
 have hn4 : n < 4 := by omega
 clear h
 have t0 : ((k : Int) == 0) = false := by simp; omega
 have t1 : decide (4 ≤ (n : Int)) = false := by simp; omega
 obtain ⟨A2, c2, hs2, hS2, hl2⟩ := hS.part k len g3 (by rw [HL.out]; exact Nat.le_refl _)
 have hrun := fun W => run_part_l W A len cap .i64 k g3
 rw [hs2] at hrun
 have hcs : (bs.drop k).take (len - k) = bs.drop k := by rw [List.take_of_length_le]; rw [List.length_drop, HL.out]; exact Nat.le_refl _
 rw [hcs] at hS2 hl2
 have HL2 := aside hl2
 have HLe : len - k ≤ 1099511627776 := by omega
 clear hs2 hcs hl2
 have hn0 : n = 0 := hn.symm.trans hK
 clear hn hk hBd hK g1
 have hgr := fun {A2 : Option Addr} {c2 : Nat} {W : World} (S : Sl W A2 c2 r) => RefF.get S rfl hrl
 obtain ⟨j1, j2, j3⟩ := getL_le HRB.out
 unfold rest1 at HQ hfit2
 obtain ⟨m, hm⟩ : ∃ n, (getL r).1 = n := ⟨_, rfl⟩
 obtain ⟨at_, hat⟩ : ∃ k, (getL r).2 = k := ⟨_, rfl⟩
 rw [hm, hat] at hgr HQ hfit2
 rw [hm] at j1
 rw [hat] at j2 j3
 have cu := RefE.unfold (m : Int) (by omega)
 have HN0 := aside hn0
 clear hm hat hn0
 have HM := aside j1
 clear j1
 go_enter Tryz.func63, Tryz.ntmps63
 go_wp2_with (refine wpList_store_op rfl rfl _ _ rfl _ rfl noOp A1 noOp rfl ?_; intro w0 B1 b0 g0; have B0 := A0.kept g0 (by omega))
 have k0 : Below w.heap.size w w0 := ka.trans (b0 _ (by omega))
 clear A0 A1 ka b0 g0
 refine (hg (hS.below k0)).mono ?_
 clear hg
 rintro e w1 ⟨rfl, h1⟩
 have k1 := k0.trans (h1.mono k0.size)
 have C0 := B0.below h1
 have C1 := B1.below h1
 clear h1 k0 B0 B1
 have S1 := hS2.below k1
 clear hS2
 go_wp2_with (refine wpList_store_field rfl rfl 3 _ _ rfl info_int _ 0 rfl (by omega) noOp C1 ⟨n, ⟨#[]⟩, ⟨#[]⟩, 0⟩ _ rfl rfl rfl rfl ?_; intro w2 D1 b2 g2'; have D0 := C0.kept g2' (by omega))
 have k2 := k1.trans (b2 _ (by omega))
 have S2 := Sl.kept S1 C1 g2'
 clear C0 C1 k1 b2 g2' S1
 refine (hcut S2 HL2.out HLe).mono ?_
 clear hcut
 rintro e w3 ⟨h3, v, rfl, own⟩
 obtain ⟨A3, c3, rfl, S3⟩ := Sl.own own HRB.out
 have k3 := k2.trans (h3.mono k2.size)
 have E0 := D0.below h3
 have E1 := D1.below h3
 clear D0 D1 h3 k2 S2 own
 have e0 := E1.kind
 simp only at e0
 rw [HN0.out] at e0
 go_wp2_with (first | (refine wpList_store_field rfl rfl 9 _ _ rfl info_str _ 1 rfl (by omega) _ E1 ⟨n, strOf key, ⟨#[]⟩, 0⟩ _ rfl rfl rfl rfl ?_; intro w4 F1 b4 g4; have F0 := E0.kept g4 (by omega); have f0 : w4.cell? ⟨w.heap.size + 1, 0, none⟩ = some (.int .i64 0) := (by rw [F1.kind]; simp only [HN0.out]; rfl)))
 have k4 := k3.trans (b4 _ (by omega))
 have S4 := Sl.kept S3 E1 g4
 clear E0 E1 S3 k3 b4 g4 e0
 refine (hgr S4).mono ?_
 clear hgr f0
 rintro e w5 ⟨rfl, h5⟩
 have k5 := k4.trans (h5.mono k4.size)
 have G0 := F0.below h5
 have G1 := F1.below h5
 have S5 := S4.below h5
 clear F0 F1 S4 h5 k4
 by_cases hz : at_ = 0
 · subst hz
   have HQ0 : Hid (q = none) := aside HQ.out
   go_wp2_with (refine wpList_store_op rfl rfl _ _ rfl _ rfl noOp G0 noOp rfl ?_; intro w6 R3 k6 g6)
   have r0 := R3.kind
   have r1 := R3.key
   have r2 := R3.elem
   have r3 := R3.n
   exact bodyPost_ret (v := .tuple #[.agg (opc noOp), .slice none 0 0, .int .i64 2]) (by simp [results, Tryz.results63, go_sem, r0, r1, r2, r3, opc]) rfl (GetOut.none HQ0.out rfl (k5.trans (k6 _ (Nat.le_refl _))))
 · have t2 : ((at_ : Int) == 0) = false := by simp; omega
   have HQ1 : Hid (q = keep (some (⟨(n : Nat), strOf key, ⟨#[]⟩, unfoldI (m : Int)⟩, r.drop at_))) := aside (by have := HQ.out; rw [if_neg hz] at this; rw [HN0.out]; exact this)
   have hft : Fit ⟨(n : Nat), strOf key, ⟨#[]⟩, unfoldI (m : Int)⟩ := hfit2 ⟨(n : Nat), strOf key, ⟨#[]⟩, unfoldI (m : Int)⟩ (r.drop at_) (by rw [if_neg hz, HN0.out]; rfl)
   have hmay := fun W => OpsR.may ⟨(n : Nat), strOf key, ⟨#[]⟩, unfoldI (m : Int)⟩ W hft (by have := HKB.out; show (strOf key).size ≤ _; omega) (Nat.zero_le _)
   clear hz HQ hfit2 hft
   go_wp2_with fail
   refine (cu _).mono ?_
   clear cu
   rintro e w' ⟨rfl, rfl⟩
   obtain ⟨A6, c6, hs6, S6a, hl6⟩ := S5.part at_ r.length j3 (Nat.le_refl _)
   have hrun2 := fun W => run_part_l W A3 r.length c3 .i64 at_ j3
   rw [hs6] at hrun2
   have hcs : (r.drop at_).take (r.length - at_) = r.drop at_ := by rw [List.take_of_length_le]; rw [List.length_drop]; exact Nat.le_refl _
   rw [hcs] at S6a hl6
   have HL6 := aside hl6
   clear hs6 hcs hl6 S5
   go_wp2_with (first | (refine wpList_store_field rfl rfl 3 _ _ rfl info_int _ 3 rfl (by omega) _ G1 ⟨(n : Nat), strOf key, ⟨#[]⟩, unfoldI (m : Int)⟩ _ rfl rfl rfl rfl ?_; intro w6 H1 b6 g6; have H0 := G0.kept g6 (by omega)) | (refine wpList_load_op rfl _ rfl _ rfl ⟨(n : Nat), strOf key, ⟨#[]⟩, unfoldI (m : Int)⟩ H1 ?_))
   have k6 := k5.trans (b6 _ (by omega))
   have S6 := Sl.kept S6a G1 g6
   clear G0 G1 k5 b6 g6 S6a hrun2 hrun
   cases hb : mayO (⟨(n : Nat), strOf key, ⟨#[]⟩, unfoldI (m : Int)⟩ : Opn) with
   | false =>
     rw [hb] at hmay
     have HQ0 : Hid (q = none) := aside (HQ1.out.trans (keep_no hb _))
     clear hb
     refine (hmay _).mono ?_
     clear hmay
     rintro e w7 ⟨rfl, h7⟩
     have k7 := k6.trans (h7.mono k6.size)
     have I0 := H0.below h7
     go_wp2_with (refine wpList_store_op rfl rfl _ _ rfl _ rfl noOp I0 noOp rfl ?_; intro w8 R3 k8 g8)
     have r0 := R3.kind
     have r1 := R3.key
     have r2 := R3.elem
     have r3 := R3.n
     exact bodyPost_ret (v := .tuple #[.agg (opc noOp), .slice none 0 0, .int .i64 2]) (by simp [results, Tryz.results63, go_sem, r0, r1, r2, r3, opc]) rfl (GetOut.none HQ0.out rfl (k7.trans (k8 _ (Nat.le_refl _))))
   | true =>
     rw [hb] at hmay
     have HQ0 : Hid (q = some ((⟨(n : Nat), strOf key, ⟨#[]⟩, unfoldI (m : Int)⟩ : Opn), r.drop at_)) := aside (HQ1.out.trans (keep_yes hb _))
     clear hb
     refine (hmay _).mono ?_
     clear hmay
     rintro e w7 ⟨rfl, h7⟩
     have k7 := k6.trans (h7.mono k6.size)
     have I0 := H0.below h7
     have I1 := H1.below h7
     have S7 := S6.below h7
     clear S6 h7 H0 H1
     go_wp2_with (first | (refine wpList_load_op rfl _ rfl _ rfl (⟨(n : Nat), strOf key, ⟨#[]⟩, unfoldI (m : Int)⟩ : Opn) I1 ?_) | (refine wpList_store_op rfl rfl _ _ rfl _ rfl noOp I0 (⟨(n : Nat), strOf key, ⟨#[]⟩, unfoldI (m : Int)⟩ : Opn) rfl ?_; intro w8 R3 k8 g8))
     have S8 := Sl.kept S7 I0 g8
     have r0 := R3.kind
     have r1 := R3.key
     have r2 := R3.elem
     have r3 := R3.n
     exact bodyPost_ret (v := .tuple #[.agg (opc (⟨(n : Nat), strOf key, ⟨#[]⟩, unfoldI (m : Int)⟩ : Opn)), .slice A6 (r.length - at_) c6, .int .i64 0]) (by simp [results, Tryz.results63, go_sem, r0, r1, r2, r3, opc]) rfl (GetOut.some HQ0.out _ _ (by rw [HL6.out]) S8 (k7.trans (k8 _ (Nat.le_refl _))))
set_option maxRecDepth 100000 in
set_option maxHeartbeats 8000000 in
theorem get1 (A : Option Addr) (len cap : Nat) (bs key r : List Int) (w : World) (hS : Sl w A cap bs) (hl : bs.length = len) (hlen : len ≤ 1099511627776) (h : ¬ ((getL bs).2 = 0 ∨ 4 ≤ (getL bs).1)) (hc : cutL (bs.drop (getL bs).2) 8 = some (key, r)) (hK : (getL bs).1 ≠ 0) :
   Calls Tryz.prog 63 #[.slice A len cap] w (GetOut (getO bs) w) := by
 have hz : (w.alloc (.cells (opc noOp) 27)).heap.size = w.heap.size + 1 := by simp
 have A0 := (OpAt.new w noOp 27).alloc (.cells (opc noOp) 27)
 have A1 := OpAt.new (w.alloc (.cells (opc noOp) 27)) noOp 27
 rw [hz] at A1
 have ka : Below w.heap.size w ((w.alloc (.cells (opc noOp) 27)).alloc (.cells (opc noOp) 27)) := (below_alloc w _).alloc (by simp) _
 clear hz
 have hg := fun {W : World} (S : Sl W A cap bs) => RefF.get S hl hlen
 obtain ⟨g1, g2, g3⟩ := getL_le hS.bytes
 have hBd : ∀ x ∈ bs.drop (getL bs).2, B x := fun x hx => hS.bytes x (List.mem_of_mem_drop hx)
 have hcut := fun {A2 : Option Addr} {L c2 : Nat} {W : World} (S : Sl W A2 c2 (bs.drop (getL bs).2)) (e : (bs.drop (getL bs).2).length = L) (hL : L ≤ 1099511627776) => RefY.cut 8 S e hL (by omega)
 unfold CutOut at hcut
 rw [hc] at hcut
 simp only at hcut
 have hq1 := getO_cut1 h hc
 have hkb := (cut_back hBd hc).2
 have hrb := (cut_B hBd hc).2
 have hrl : r.length ≤ 1099511627776 := by
   have := congrArg List.length (cut_back hBd hc).1
   rw [List.length_drop, List.length_append] at this
   omega
 have hfit : Fit (half (getL bs).1 key) := ⟨(by show I64 (((getL bs).1 : Nat) : Int); unfold I64; omega), (by show I64 0; unfold I64; omega), by show (strOf key).size ≤ _; rw [strOf_size]; unfold maxLen; omega, Nat.zero_le _⟩
 rw [tail_rest2 hK] at hq1
 have hfit2 : ∀ o' r', rest2 (half (getL bs).1 key) r = some (o', r') → Fit o' := fun o' r' e => rest2_fit hfit hrb e
 have HKB : Hid ((strOf key).size ≤ 8) := aside (by rw [strOf_size]; omega)
 have HQ := aside hq1
 have HRB := aside hrb
 clear hc hq1 hfit hrb hkb
 obtain ⟨n, hn⟩ : ∃ n, (getL bs).1 = n := ⟨_, rfl⟩
 obtain ⟨k, hk⟩ : ∃ k, (getL bs).2 = k := ⟨_, rfl⟩
 obtain ⟨q, hq⟩ : ∃ q, getO bs = q := ⟨_, rfl⟩
 rw [hn, hk] at hg h
 rw [hk] at hcut g2 g3
 rw [hl] at g3
 rw [hq] at HQ ⊢
 have HL := aside hl
 clear hq hl
 have hk0 : 0 < k := by omega
 have hn4 : n < 4 := by omega
 clear h
 have t0 : ((k : Int) == 0) = false := by simp; omega
 have t1 : decide (4 ≤ (n : Int)) = false := by simp; omega
 obtain ⟨A2, c2, hs2, hS2, hl2⟩ := hS.part k len g3 (by rw [HL.out]; exact Nat.le_refl _)
 have hrun := fun W => run_part_l W A len cap .i64 k g3
 rw [hs2] at hrun
 have hcs : (bs.drop k).take (len - k) = bs.drop k := by rw [List.take_of_length_le]; rw [List.length_drop, HL.out]; exact Nat.le_refl _
 rw [hcs] at hS2 hl2
 have HL2 := aside hl2
 have HLe : len - k ≤ 1099511627776 := by omega
 clear hs2 hcs hl2
 have hn0 : n ≠ 0 := fun e => hK (hn.trans e)
 rw [hn] at HQ hfit2
 clear hn hk hBd hK g1
 have hcr := fun {A2 : Option Addr} {c2 : Nat} {W : World} (S : Sl W A2 c2 r) => RefY.cut 8 S rfl hrl (by omega)
 unfold CutOut at hcr
 unfold rest2 at HQ hfit2
 have hcB : ∀ ee r2, cutL r 8 = some (ee, r2) → ee.length ≤ 8 ∧ ∀ x ∈ r2, B x := fun ee r2 e => ⟨by have := (cut_back HRB.out e).2; omega, (cut_B HRB.out e).2⟩
 have t5 : ((n : Int) == 0) = false := by simp; omega
 clear hn0
 go_enter Tryz.func63, Tryz.ntmps63
 go_wp2_with (refine wpList_store_op rfl rfl _ _ rfl _ rfl noOp A1 noOp rfl ?_; intro w0 B1 b0 g0; have B0 := A0.kept g0 (by omega))
 have k0 : Below w.heap.size w w0 := ka.trans (b0 _ (by omega))
 clear A0 A1 ka b0 g0
 refine (hg (hS.below k0)).mono ?_
 clear hg
 rintro e w1 ⟨rfl, h1⟩
 have k1 := k0.trans (h1.mono k0.size)
 have C0 := B0.below h1
 have C1 := B1.below h1
 clear h1 k0 B0 B1
 have S1 := hS2.below k1
 clear hS2
 go_wp2_with (refine wpList_store_field rfl rfl 3 _ _ rfl info_int _ 0 rfl (by omega) noOp C1 ⟨n, ⟨#[]⟩, ⟨#[]⟩, 0⟩ _ rfl rfl rfl rfl ?_; intro w2 D1 b2 g2'; have D0 := C0.kept g2' (by omega))
 have k2 := k1.trans (b2 _ (by omega))
 have S2 := Sl.kept S1 C1 g2'
 clear C0 C1 k1 b2 g2' S1
 refine (hcut S2 HL2.out HLe).mono ?_
 clear hcut
 rintro e w3 ⟨h3, v, rfl, own⟩
 obtain ⟨A3, c3, rfl, S3⟩ := Sl.own own HRB.out
 have k3 := k2.trans (h3.mono k2.size)
 have E0 := D0.below h3
 have E1 := D1.below h3
 clear D0 D1 h3 k2 S2 own
 have e0 := E1.kind
 simp only at e0
 go_wp2_with (first | (refine wpList_store_field rfl rfl 9 _ _ rfl info_str _ 1 rfl (by omega) _ E1 ⟨(n : Nat), strOf key, ⟨#[]⟩, 0⟩ _ rfl rfl rfl rfl ?_; intro w4 F1 b4 g4; have F0 := E0.kept g4 (by omega); have f0 : w4.cell? ⟨w.heap.size + 1, 0, none⟩ = some (.int .i64 (n : Nat)) := F1.kind))
 have k4 := k3.trans (b4 _ (by omega))
 have S4 := Sl.kept S3 E1 g4
 clear E0 E1 S3 k3 b4 g4 e0
 refine (hcr S4).mono ?_
 clear hcr f0
 cases hc2 : cutL r 8 with
 | none =>
   rw [hc2] at HQ
   have HQ0 : Hid (q = none) := aside HQ.out
   clear hc2 hcB hfit2 HQ
   rintro e w5 ⟨h5, rfl⟩
   have k5 := k4.trans (h5.mono k4.size)
   have G0 := F0.below h5
   clear F0 F1 S4 h5 k4
   go_wp2_with (refine wpList_store_op rfl rfl _ _ rfl _ rfl noOp G0 noOp rfl ?_; intro w6 R3 k6 g6)
   have r0 := R3.kind
   have r1 := R3.key
   have r2 := R3.elem
   have r3 := R3.n
   exact bodyPost_ret (v := .tuple #[.agg (opc noOp), .slice none 0 0, .int .i64 2]) (by simp [results, Tryz.results63, go_sem, r0, r1, r2, r3, opc]) rfl (GetOut.none HQ0.out rfl (k5.trans (k6 _ (Nat.le_refl _))))
 | some p =>
   obtain ⟨ee, rb⟩ := p
   rw [hc2] at HQ hfit2
   obtain ⟨hel, hr2B⟩ := hcB ee rb hc2
   have HQ1 : Hid (q = keep (some (⟨(n : Nat), strOf key, strOf ee, 0⟩, rb))) := aside HQ.out
   have hft : Fit ⟨(n : Nat), strOf key, strOf ee, 0⟩ := hfit2 ⟨(n : Nat), strOf key, strOf ee, 0⟩ rb rfl
   have hmay := fun W => OpsR.may ⟨(n : Nat), strOf key, strOf ee, 0⟩ W hft (by have := HKB.out; show (strOf key).size ≤ _; omega) (by show (strOf ee).size ≤ _; rw [strOf_size]; omega)
   have HR2 := aside hr2B
   clear hc2 hcB hfit2 HQ hft hr2B hel
   rintro e w5 ⟨h5, v, rfl, own⟩
   obtain ⟨A6, c6, rfl, S5⟩ := Sl.own own HR2.out
   have k5 := k4.trans (h5.mono k4.size)
   have G0 := F0.below h5
   have G1 := F1.below h5
   clear F0 F1 S4 h5 k4 own
   go_wp2_with (first | (refine wpList_store_field rfl rfl 9 _ _ rfl info_str _ 2 rfl (by omega) _ G1 ⟨(n : Nat), strOf key, strOf ee, 0⟩ _ rfl rfl rfl rfl ?_; intro w6 H1 b6 g6; have H0 := G0.kept g6 (by omega)) | (refine wpList_load_op rfl _ rfl _ rfl ⟨(n : Nat), strOf key, strOf ee, 0⟩ H1 ?_))
   have k6 := k5.trans (b6 _ (by omega))
   have S6 := Sl.kept S5 G1 g6
   clear G0 G1 k5 b6 g6 S5 hrun
   cases hb : mayO (⟨(n : Nat), strOf key, strOf ee, 0⟩ : Opn) with
   | false =>
     rw [hb] at hmay
     have HQ0 : Hid (q = none) := aside (HQ1.out.trans (keep_no hb _))
     clear hb
     refine (hmay _).mono ?_
     clear hmay
     rintro e w7 ⟨rfl, h7⟩
     have k7 := k6.trans (h7.mono k6.size)
     have I0 := H0.below h7
     go_wp2_with (refine wpList_store_op rfl rfl _ _ rfl _ rfl noOp I0 noOp rfl ?_; intro w8 R3 k8 g8)
     have r0 := R3.kind
     have r1 := R3.key
     have r2 := R3.elem
     have r3 := R3.n
     exact bodyPost_ret (v := .tuple #[.agg (opc noOp), .slice none 0 0, .int .i64 2]) (by simp [results, Tryz.results63, go_sem, r0, r1, r2, r3, opc]) rfl (GetOut.none HQ0.out rfl (k7.trans (k8 _ (Nat.le_refl _))))
   | true =>
     rw [hb] at hmay
     have HQ0 : Hid (q = some ((⟨(n : Nat), strOf key, strOf ee, 0⟩ : Opn), rb)) := aside (HQ1.out.trans (keep_yes hb _))
     clear hb
     refine (hmay _).mono ?_
     clear hmay
     rintro e w7 ⟨rfl, h7⟩
     have k7 := k6.trans (h7.mono k6.size)
     have I0 := H0.below h7
     have I1 := H1.below h7
     have S7 := S6.below h7
     clear S6 h7 H0 H1
     go_wp2_with (first | (refine wpList_load_op rfl _ rfl _ rfl (⟨(n : Nat), strOf key, strOf ee, 0⟩ : Opn) I1 ?_) | (refine wpList_store_op rfl rfl _ _ rfl _ rfl noOp I0 (⟨(n : Nat), strOf key, strOf ee, 0⟩ : Opn) rfl ?_; intro w8 R3 k8 g8))
     have S8 := Sl.kept S7 I0 g8
     have r0 := R3.kind
     have r1 := R3.key
     have r2 := R3.elem
     have r3 := R3.n
     exact bodyPost_ret (v := .tuple #[.agg (opc (⟨(n : Nat), strOf key, strOf ee, 0⟩ : Opn)), .slice A6 rb.length c6, .int .i64 0]) (by simp [results, Tryz.results63, go_sem, r0, r1, r2, r3, opc]) rfl (GetOut.some HQ0.out _ _ rfl S8 (k7.trans (k8 _ (Nat.le_refl _))))
theorem get (A : Option Addr) (len cap : Nat) (bs : List Int) (w : World) (hS : Sl w A cap bs) (hl : bs.length = len) (hlen : len ≤ 1099511627776) :
   Calls Tryz.prog 63 #[.slice A len cap] w (GetOut (getO bs) w) := by
 by_cases h : (getL bs).2 = 0 ∨ 4 ≤ (getL bs).1
 · exact get_early A len cap bs w hS hl hlen h
 · cases hc : cutL (bs.drop (getL bs).2) 8 with
   | none => exact get_cut A len cap bs w hS hl hlen h hc
   | some p =>
     obtain ⟨key, r⟩ := p
     by_cases hK : (getL bs).1 = 0
     · exact get0 A len cap bs key r w hS hl hlen h hc hK
     · exact get1 A len cap bs key r w hS hl hlen h hc hK
end Go.Proofs.YtgoapaanmcmlmaaGreatDoor.OpsT
