/- What ops.Get returns: contracts. -/
import Derived.Test.YtnphlpebeflpkaaDoorOpsG
namespace Go.Proofs.YtnphlpebeflpkaaDoor.OpsH
set_option maxRecDepth 100000
open Go Go.RowKit Go.Sort Byt OpsM OpsK OpsW OpsC EncM EncC EncG EncE OpsG

/-- What a function that gets an operation answers. -/
def GetOut (q : Option (Opn × List Int)) (w : World) (e : Ending) (w' : World) : Prop :=
  Below w.heap.size w w' ∧ match q with
    | none => e = .returned (.tuple #[.agg (opc noOp), .slice none 0 0, .int .i64 2])
    | some (o, r) => ∃ A c, e = .returned (.tuple #[.agg (opc o), .slice A r.length c, .int .i64 0]) ∧ Sl w' A c r
theorem GetOut.none {q : Option (Opn × List Int)} {w w' : World} {e : Ending} (hq : q = none) (h : e = .returned (.tuple #[.agg (opc noOp), .slice none 0 0, .int .i64 2])) (hb : Below w.heap.size w w') : GetOut q w e w' := by subst hq; exact ⟨hb, h⟩
theorem GetOut.some {q : Option (Opn × List Int)} {w w' : World} {e : Ending} {o : Opn} {r : List Int} (hq : q = some (o, r)) (A : Option Addr) (c : Nat) (h : e = .returned (.tuple #[.agg (opc o), .slice A r.length c, .int .i64 0])) (hS : Sl w' A c r) (hb : Below w.heap.size w w') : GetOut q w e w' := by subst hq; exact ⟨hb, A, c, h, hS⟩
theorem strOf_size (l : List Int) : (strOf l).size = l.length := by simp [strOf, ByteArray.size]
/-- The operation of which the kind and the key are there. -/
def half (k : Nat) (key : List Int) : Opn := ⟨k, strOf key, ⟨#[]⟩, 0⟩
theorem tail_rest1 (key r : List Int) : tailG 0 key r = rest1 (half 0 key) r := rfl
theorem tail_rest2 {k : Nat} (hk : k ≠ 0) (key r : List Int) : tailG k key r = rest2 (half k key) r := by unfold tailG; rw [if_neg hk]; rfl
theorem rest1_fit {o o' : Opn} {r r' : List Int} (hf : Fit o) (hb : ∀ x ∈ r, B x) (h : rest1 o r = some (o', r')) : Fit o' := by
  unfold rest1 at h
  split at h
  · cases h
  · injection h with h
    obtain ⟨rfl, _⟩ := Prod.mk.inj h
    exact ⟨hf.kind, unfoldI_bd (getL_le hb).1, hf.key, Nat.zero_le _⟩
theorem rest2_fit {o o' : Opn} {r r' : List Int} (hf : Fit o) (hb : ∀ x ∈ r, B x) (h : rest2 o r = some (o', r')) : Fit o' := by
  unfold rest2 at h
  split at h
  · cases h
  · rename_i e r2 hc
    injection h with h
    obtain ⟨rfl, _⟩ := Prod.mk.inj h
    have := (cut_back hb hc).2
    exact ⟨hf.kind, (by show I64 0; unfold I64; omega), hf.key, by show (strOf e).size ≤ _; rw [strOf_size]; unfold maxLen; omega⟩
theorem keep_no {o : Opn} (h : mayO o = false) (r : List Int) : keep (some (o, r)) = none := by simp [keep, h]
theorem keep_yes {o : Opn} (h : mayO o = true) (r : List Int) : keep (some (o, r)) = some (o, r) := by simp [keep, h]
theorem getO_early {bs : List Int} (h : (getL bs).2 = 0 ∨ 4 ≤ (getL bs).1) : getO bs = none := by unfold getO; rw [if_pos h]
theorem getO_cut0 {bs : List Int} (h : ¬ ((getL bs).2 = 0 ∨ 4 ≤ (getL bs).1)) (hc : cutL (bs.drop (getL bs).2) 8 = none) : getO bs = none := by unfold getO; rw [if_neg h, hc]
theorem getO_cut1 {bs key r : List Int} (h : ¬ ((getL bs).2 = 0 ∨ 4 ≤ (getL bs).1)) (hc : cutL (bs.drop (getL bs).2) 8 = some (key, r)) : getO bs = keep (tailG (getL bs).1 key r) := by unfold getO; rw [if_neg h, hc]

set_option maxRecDepth 100000 in
set_option maxHeartbeats 4000000 in
theorem get_early (A : Option Addr) (len cap : Nat) (bs : List Int) (w : World) (hS : Sl w A cap bs) (hl : bs.length = len) (h : (getL bs).2 = 0 ∨ 4 ≤ (getL bs).1) :
    Calls Tryd.prog 87 #[.slice A len cap] w (GetOut (getO bs) w) := by
  have hg := EncG.get (hS.below (below_alloc w (.cells (opc noOp) 26))) hl
  have HQ := aside (getO_early h)
  have R0 := OpAt.new w noOp 26
  obtain ⟨n, hn⟩ : ∃ n, (getL bs).1 = n := ⟨_, rfl⟩
  obtain ⟨k, hk⟩ : ∃ k, (getL bs).2 = k := ⟨_, rfl⟩
  obtain ⟨q, hq⟩ : ∃ q, getO bs = q := ⟨_, rfl⟩
  rw [hn, hk] at hg h
  rw [hq] at HQ ⊢
  clear hn hk hq
  have hcase : (k = 0) ∨ (0 < k ∧ 4 ≤ n) := by omega
  clear h
  rcases hcase with rfl | ⟨hk0, hn4⟩
  all_goals
    go_enter Tryd.func87, Tryd.ntmps87
    go_wp2_with fail
    refine hg.mono ?_
    clear hg
    rintro e w1 ⟨rfl, h1⟩
    have k1 : Below w.heap.size w w1 := (below_alloc w _).trans (h1.mono (by simp))
    have R1 := R0.below h1
    clear h1 R0
    go_wp2_with (refine wpList_store_op rfl rfl _ _ rfl _ rfl noOp R1 noOp rfl ?_; intro w3 R3 k3 g3')
    have r0 := R3.kind
    have r1 := R3.key
    have r2 := R3.elem
    have r3 := R3.n
    exact bodyPost_ret (v := .tuple #[.agg (opc noOp), .slice none 0 0, .int .i64 2]) (by simp [results, Tryd.results87, go_sem, r0, r1, r2, r3, opc]) rfl (GetOut.none HQ.out rfl (k1.trans (k3 _ (Nat.le_refl _))))

set_option maxRecDepth 100000 in
set_option maxHeartbeats 4000000 in
theorem get_cut (A : Option Addr) (len cap : Nat) (bs : List Int) (w : World) (hS : Sl w A cap bs) (hl : bs.length = len) (hlen : len ≤ 1099511627776) (h : ¬ ((getL bs).2 = 0 ∨ 4 ≤ (getL bs).1)) (hc : cutL (bs.drop (getL bs).2) 8 = none) :
    Calls Tryd.prog 87 #[.slice A len cap] w (GetOut (getO bs) w) := by
  have hg := EncG.get (hS.below (below_alloc w (.cells (opc noOp) 26))) hl
  have R0 := OpAt.new w noOp 26
  obtain ⟨g1, g2, g3⟩ := getL_le hS.bytes
  have hBd : ∀ x ∈ bs.drop (getL bs).2, B x := fun x hx => hS.bytes x (List.mem_of_mem_drop hx)
  have hcut := fun {A2 : Option Addr} {L c2 : Nat} {W : World} (S : Sl W A2 c2 (bs.drop (getL bs).2)) (e : (bs.drop (getL bs).2).length = L) (hL : L ≤ 1099511627776) => EncE.cut 8 S e hL (by omega)
  unfold CutOut at hcut
  rw [hc] at hcut
  simp only at hcut
  have HQ := aside (getO_cut0 h hc)
  clear hc
  obtain ⟨n, hn⟩ : ∃ n, (getL bs).1 = n := ⟨_, rfl⟩
  obtain ⟨k, hk⟩ : ∃ k, (getL bs).2 = k := ⟨_, rfl⟩
  obtain ⟨q, hq⟩ : ∃ q, getO bs = q := ⟨_, rfl⟩
  rw [hn, hk] at hg h
  rw [hk] at hcut g2 g3
  rw [hl] at g3
  rw [hq] at HQ ⊢
  have HL := aside hl
  clear hq hl
  have hk0 : 0 < k := by omega
  have hn4 : n < 4 := by omega
  clear h
  have t0 : ((k : Int) == 0) = false := by simp; omega
  have t1 : decide (4 ≤ (n : Int)) = false := by simp; omega
  obtain ⟨A2, c2, hs2, hS2, hl2⟩ := hS.part k len g3 (by rw [HL.out]; exact Nat.le_refl _)
  have hrun := fun W => run_part_l W A len cap .i64 k g3
  rw [hs2] at hrun
  have hcs : (bs.drop k).take (len - k) = bs.drop k := by rw [List.take_of_length_le]; rw [List.length_drop, HL.out]; exact Nat.le_refl _
  rw [hcs] at hS2 hl2
  have HL2 := aside hl2
  have HLe : len - k ≤ 1099511627776 := by omega
  clear hs2 hcs hl2
  clear hn hk hBd g1
  go_enter Tryd.func87, Tryd.ntmps87
  go_wp2_with fail
  refine hg.mono ?_
  clear hg
  rintro e w1 ⟨rfl, h1⟩
  have k1 : Below w.heap.size w w1 := (below_alloc w _).trans (h1.mono (by simp))
  have R1 := R0.below h1
  have S1 := hS2.below k1
  clear h1 R0 hS2
  go_wp2_with fail
  refine (hcut S1 HL2.out HLe).mono ?_
  clear hcut
  rintro e w2 ⟨h2, rfl⟩
  have k2 := k1.trans (h2.mono k1.size)
  have R2 := R1.below h2
  clear R1 h2 k1 S1
  go_wp2_with (refine wpList_store_op rfl rfl _ _ rfl _ rfl noOp R2 noOp rfl ?_; intro w3 R3 k3 g3')
  have r0 := R3.kind
  have r1 := R3.key
  have r2 := R3.elem
  have r3 := R3.n
  exact bodyPost_ret (v := .tuple #[.agg (opc noOp), .slice none 0 0, .int .i64 2]) (by simp [results, Tryd.results87, go_sem, r0, r1, r2, r3, opc]) rfl (GetOut.none HQ.out rfl (k2.trans (k3 _ (Nat.le_refl _))))

set_option maxRecDepth 100000 in
set_option maxHeartbeats 8000000 in
theorem get0 (A : Option Addr) (len cap : Nat) (bs key r : List Int) (w : World) (hS : Sl w A cap bs) (hl : bs.length = len) (hlen : len ≤ 1099511627776) (h : ¬ ((getL bs).2 = 0 ∨ 4 ≤ (getL bs).1)) (hc : cutL (bs.drop (getL bs).2) 8 = some (key, r)) (hK : (getL bs).1 = 0) :
    Calls Tryd.prog 87 #[.slice A len cap] w (GetOut (getO bs) w) := by
  have hg := EncG.get (hS.below (below_alloc w (.cells (opc noOp) 26))) hl
  have R0 := OpAt.new w noOp 26
  obtain ⟨g1, g2, g3⟩ := getL_le hS.bytes
  have hBd : ∀ x ∈ bs.drop (getL bs).2, B x := fun x hx => hS.bytes x (List.mem_of_mem_drop hx)
  have hcut := fun {A2 : Option Addr} {L c2 : Nat} {W : World} (S : Sl W A2 c2 (bs.drop (getL bs).2)) (e : (bs.drop (getL bs).2).length = L) (hL : L ≤ 1099511627776) => EncE.cut 8 S e hL (by omega)
  unfold CutOut at hcut
  rw [hc] at hcut
  simp only at hcut
  have hq1 := getO_cut1 h hc
  have hkb := (cut_back hBd hc).2
  have hrb := (cut_B hBd hc).2
  have hrl : r.length ≤ 1099511627776 := by
    have := congrArg List.length (cut_back hBd hc).1
    rw [List.length_drop, List.length_append] at this
    omega
  have hfit : Fit (half (getL bs).1 key) := ⟨(by show I64 (((getL bs).1 : Nat) : Int); unfold I64; omega), (by show I64 0; unfold I64; omega), by show (strOf key).size ≤ _; rw [strOf_size]; unfold maxLen; omega, Nat.zero_le _⟩
  rw [hK, tail_rest1] at hq1
  obtain ⟨rr, hrr⟩ : ∃ rr, rest1 (half (getL bs).1 key) r = rr := ⟨_, rfl⟩
  rw [← hK, hrr] at hq1
  have hfit2 : ∀ o' r', rr = some (o', r') → Fit o' := fun o' r' e => rest1_fit hfit hrb (hrr.trans e)
  have HQ := aside hq1
  have HRR := aside hrr
  have HRB := aside hrb
  clear hc hq1 hrr hfit hrb hkb
  obtain ⟨n, hn⟩ : ∃ n, (getL bs).1 = n := ⟨_, rfl⟩
  obtain ⟨k, hk⟩ : ∃ k, (getL bs).2 = k := ⟨_, rfl⟩
  obtain ⟨q, hq⟩ : ∃ q, getO bs = q := ⟨_, rfl⟩
  rw [hn, hk] at hg h
  rw [hk] at hcut g2 g3
  rw [hl] at g3
  rw [hq] at HQ ⊢
  have HL := aside hl
  clear hq hl
  have hk0 : 0 < k := by omega
  have hn4 : n < 4 := by omega
  clear h
  have t0 : ((k : Int) == 0) = false := by simp; omega
  have t1 : decide (4 ≤ (n : Int)) = false := by simp; omega
  obtain ⟨A2, c2, hs2, hS2, hl2⟩ := hS.part k len g3 (by rw [HL.out]; exact Nat.le_refl _)
  have hrun := fun W => run_part_l W A len cap .i64 k g3
  rw [hs2] at hrun
  have hcs : (bs.drop k).take (len - k) = bs.drop k := by rw [List.take_of_length_le]; rw [List.length_drop, HL.out]; exact Nat.le_refl _
  rw [hcs] at hS2 hl2
  have HL2 := aside hl2
  have HLe : len - k ≤ 1099511627776 := by omega
  clear hs2 hcs hl2
  rw [hn] at hK HRR
  have HK := aside hK
  obtain ⟨K, hKe⟩ : ∃ K, half n key = K := ⟨_, rfl⟩
  have HKe := aside hKe
  rw [hKe] at HRR
  clear hn hk hBd hK hKe g1
  go_enter Tryd.func87, Tryd.ntmps87
  go_wp2_with fail
  refine hg.mono ?_
  clear hg
  rintro e w1 ⟨rfl, h1⟩
  have k1 : Below w.heap.size w w1 := (below_alloc w _).trans (h1.mono (by simp))
  have R1 := R0.below h1
  have S1 := hS2.below k1
  clear h1 R0 hS2
  go_wp2_with fail
  refine (hcut S1 HL2.out HLe).mono ?_
  clear hcut
  rintro e w2 ⟨h2, v, rfl, own⟩
  obtain ⟨A3, c3, rfl, S3⟩ := Sl.own own HRB.out
  have k2 := k1.trans (h2.mono k1.size)
  have R2 := R1.below h2
  clear R1 h2 k1 S1 own
  go_wp2_with fail
  refine (gets (half n key) A3 r.length c3 w2).mono ?_
  rintro e w3 ⟨g, hh, m, rfl, Og, Bh, Tm, h3⟩
  have k3 := k2.trans (h3.mono k2.size)
  have R3 := R2.below h3
  have S4 := S3.below h3
  have hl2' := look0 Tryd.underlying109 false Tm
  have e0 : (0 : Int) = (n : Int) := by have := HK.out; omega
  rw [e0] at hl2'
  clear e0
  clear R2 h3 k2 S3 Tm
  go_wp2_with fail
  refine (gets1 g hh (half n key) A3 r.length c3 r w3 Og Bh S4 rfl).mono ?_
  rintro e w4 ⟨h4, hm⟩
  have k4 := k3.trans (h4.mono k3.size)
  have R4 := R3.below h4
  clear R3 h4 k3 S4 Bh Og hl2'
  rw [HKe.out, HRR.out] at hm
  cases rr with
  | none =>
    obtain ⟨o', A5, n5, c5, rfl⟩ := hm
    have R5 := R4.alloc (.cells (opc noOp) 26)
    have R6 := OpAt.new w4 noOp 26
    have hs4 := R4.lt
    have k5 := k4.alloc k4.size (.cells (opc noOp) 26)
    clear R4 k4
    go_wp2_with (first | (refine wpList_store_op rfl rfl _ _ rfl _ rfl noOp R6 o' rfl ?_; intro w5 R7 b5 g5; have R8 := R5.kept g5 (by omega)) | (refine wpList_store_op rfl rfl _ _ rfl _ rfl noOp R8 noOp rfl ?_; intro w6 R9 b6 g6))
    have r0 := R9.kind
    have r1 := R9.key
    have r2 := R9.elem
    have r3 := R9.n
    exact bodyPost_ret (v := .tuple #[.agg (opc noOp), .slice none 0 0, .int .i64 2]) (by simp [results, Tryd.results87, go_sem, r0, r1, r2, r3, opc]) rfl (GetOut.none HQ.out rfl ((k5.trans (b5 _ (by omega))).trans (b6 _ (Nat.le_refl _))))
  | some p =>
    obtain ⟨o', r'⟩ := p
    obtain ⟨A5, c5, rfl, S5⟩ := hm
    have hm := fun W => may o' W (hfit2 o' r' rfl)
    have R5 := R4.alloc (.cells (opc noOp) 26)
    have R6 := OpAt.new w4 noOp 26
    have hs4 := R4.lt
    have k5 := k4.alloc k4.size (.cells (opc noOp) 26)
    clear R4 k4 hfit2
    cases hb : mayO o' with
    | false =>
      rw [hb] at hm
      have HQ0 : Hid (q = none) := aside (HQ.out.trans (keep_no hb r'))
      clear hb
      go_wp2_with (first | (refine wpList_store_op rfl rfl _ _ rfl _ rfl noOp R6 o' rfl ?_; intro w5 R7 b5 g5; have R8 := R5.kept g5 (by omega); have r0 := R7.kind; have r1 := R7.key; have r2 := R7.elem; have r3 := R7.n))
      refine (hm _).mono ?_
      clear hm r0 r1 r2 r3
      rintro e w6 ⟨rfl, h6⟩
      have R9 := R8.below h6
      have k6 := (k5.trans (b5 _ (by omega))).trans (h6.mono (by have := R8.lt; omega))
      go_wp2_with (refine wpList_store_op rfl rfl _ _ rfl _ rfl noOp R9 noOp rfl ?_; intro w7 R10 b7 g7)
      have r0 := R10.kind
      have r1 := R10.key
      have r2 := R10.elem
      have r3 := R10.n
      exact bodyPost_ret (v := .tuple #[.agg (opc noOp), .slice none 0 0, .int .i64 2]) (by simp [results, Tryd.results87, go_sem, r0, r1, r2, r3, opc]) rfl (GetOut.none HQ0.out rfl (k6.trans (b7 _ (Nat.le_refl _))))
    | true =>
      rw [hb] at hm
      have HQ0 : Hid (q = some (o', r')) := aside (HQ.out.trans (keep_yes hb r'))
      clear hb
      go_wp2_with (first | (refine wpList_store_op rfl rfl _ _ rfl _ rfl noOp R6 o' rfl ?_; intro w5 R7 b5 g5; have R8 := R5.kept g5 (by omega); have r0 := R7.kind; have r1 := R7.key; have r2 := R7.elem; have r3 := R7.n))
      refine (hm _).mono ?_
      clear hm r0 r1 r2 r3
      rintro e w6 ⟨rfl, h6⟩
      have R9 := R8.below h6
      have R7b := R7.below h6
      have k6 := (k5.trans (b5 _ (by omega))).trans (h6.mono (by have := R8.lt; omega))
      have S6 := (Sl.kept (S5.below (below_alloc _ _)) R6 g5).below h6
      clear S5
      go_wp2_with (first | (refine wpList_load_op rfl _ rfl _ rfl o' R7b ?_) | (refine wpList_store_op rfl rfl _ _ rfl _ rfl noOp R9 o' rfl ?_; intro w7 R10 b7 g7))
      have r0 := R10.kind
      have r1 := R10.key
      have r2 := R10.elem
      have r3 := R10.n
      have S7 := Sl.kept S6 R9 g7
      exact bodyPost_ret (v := .tuple #[.agg (opc o'), .slice A5 r'.length c5, .int .i64 0]) (by simp [results, Tryd.results87, go_sem, r0, r1, r2, r3, opc]) rfl (GetOut.some HQ0.out _ _ rfl S7 (k6.trans (b7 _ (Nat.le_refl _))))
set_option maxRecDepth 100000 in
set_option maxHeartbeats 8000000 in
theorem get1 (A : Option Addr) (len cap : Nat) (bs key r : List Int) (w : World) (hS : Sl w A cap bs) (hl : bs.length = len) (hlen : len ≤ 1099511627776) (h : ¬ ((getL bs).2 = 0 ∨ 4 ≤ (getL bs).1)) (hc : cutL (bs.drop (getL bs).2) 8 = some (key, r)) (hK : (getL bs).1 ≠ 0) :
    Calls Tryd.prog 87 #[.slice A len cap] w (GetOut (getO bs) w) := by
  have hg := EncG.get (hS.below (below_alloc w (.cells (opc noOp) 26))) hl
  have R0 := OpAt.new w noOp 26
  obtain ⟨g1, g2, g3⟩ := getL_le hS.bytes
  have hBd : ∀ x ∈ bs.drop (getL bs).2, B x := fun x hx => hS.bytes x (List.mem_of_mem_drop hx)
  have hcut := fun {A2 : Option Addr} {L c2 : Nat} {W : World} (S : Sl W A2 c2 (bs.drop (getL bs).2)) (e : (bs.drop (getL bs).2).length = L) (hL : L ≤ 1099511627776) => EncE.cut 8 S e hL (by omega)
  unfold CutOut at hcut
  rw [hc] at hcut
  simp only at hcut
  have hq1 := getO_cut1 h hc
  have hkb := (cut_back hBd hc).2
  have hrb := (cut_B hBd hc).2
  have hrl : r.length ≤ 1099511627776 := by
    have := congrArg List.length (cut_back hBd hc).1
    rw [List.length_drop, List.length_append] at this
    omega
  have hfit : Fit (half (getL bs).1 key) := ⟨(by show I64 (((getL bs).1 : Nat) : Int); unfold I64; omega), (by show I64 0; unfold I64; omega), by show (strOf key).size ≤ _; rw [strOf_size]; unfold maxLen; omega, Nat.zero_le _⟩
  rw [tail_rest2 hK] at hq1
  obtain ⟨rr, hrr⟩ : ∃ rr, rest2 (half (getL bs).1 key) r = rr := ⟨_, rfl⟩
  rw [hrr] at hq1
  have hfit2 : ∀ o' r', rr = some (o', r') → Fit o' := fun o' r' e => rest2_fit hfit hrb (hrr.trans e)
  have HQ := aside hq1
  have HRR := aside hrr
  have HRB := aside hrb
  clear hc hq1 hrr hfit hrb hkb
  obtain ⟨n, hn⟩ : ∃ n, (getL bs).1 = n := ⟨_, rfl⟩
  obtain ⟨k, hk⟩ : ∃ k, (getL bs).2 = k := ⟨_, rfl⟩
  obtain ⟨q, hq⟩ : ∃ q, getO bs = q := ⟨_, rfl⟩
  rw [hn, hk] at hg h
  rw [hk] at hcut g2 g3
  rw [hl] at g3
  rw [hq] at HQ ⊢
  have HL := aside hl
  clear hq hl
  have hk0 : 0 < k := by omega
  have hn4 : n < 4 := by omega
  clear h
  have t0 : ((k : Int) == 0) = false := by simp; omega
  have t1 : decide (4 ≤ (n : Int)) = false := by simp; omega
  obtain ⟨A2, c2, hs2, hS2, hl2⟩ := hS.part k len g3 (by rw [HL.out]; exact Nat.le_refl _)
  have hrun := fun W => run_part_l W A len cap .i64 k g3
  rw [hs2] at hrun
  have hcs : (bs.drop k).take (len - k) = bs.drop k := by rw [List.take_of_length_le]; rw [List.length_drop, HL.out]; exact Nat.le_refl _
  rw [hcs] at hS2 hl2
  have HL2 := aside hl2
  have HLe : len - k ≤ 1099511627776 := by omega
  clear hs2 hcs hl2
  rw [hn] at hK HRR
  have HK := aside hK
  obtain ⟨K, hKe⟩ : ∃ K, half n key = K := ⟨_, rfl⟩
  have HKe := aside hKe
  rw [hKe] at HRR
  clear hn hk hBd hK hKe g1
  go_enter Tryd.func87, Tryd.ntmps87
  go_wp2_with fail
  refine hg.mono ?_
  clear hg
  rintro e w1 ⟨rfl, h1⟩
  have k1 : Below w.heap.size w w1 := (below_alloc w _).trans (h1.mono (by simp))
  have R1 := R0.below h1
  have S1 := hS2.below k1
  clear h1 R0 hS2
  go_wp2_with fail
  refine (hcut S1 HL2.out HLe).mono ?_
  clear hcut
  rintro e w2 ⟨h2, v, rfl, own⟩
  obtain ⟨A3, c3, rfl, S3⟩ := Sl.own own HRB.out
  have k2 := k1.trans (h2.mono k1.size)
  have R2 := R1.below h2
  clear R1 h2 k1 S1 own
  go_wp2_with fail
  refine (gets (half n key) A3 r.length c3 w2).mono ?_
  rintro e w3 ⟨g, hh, m, rfl, Og, Bh, Tm, h3⟩
  have k3 := k2.trans (h3.mono k2.size)
  have R3 := R2.below h3
  have S4 := S3.below h3
  have hl2' := look1 (k := (n : Int)) Tryd.underlying109 false (by have := HK.out; omega) Tm
  clear R2 h3 k2 S3 Tm
  go_wp2_with fail
  refine (gets2 g hh (half n key) A3 r.length c3 r w3 Og Bh S4 rfl hrl).mono ?_
  rintro e w4 ⟨h4, hm⟩
  have k4 := k3.trans (h4.mono k3.size)
  have R4 := R3.below h4
  clear R3 h4 k3 S4 Bh Og hl2'
  rw [HKe.out, HRR.out] at hm
  cases rr with
  | none =>
    obtain ⟨o', A5, n5, c5, rfl⟩ := hm
    have R5 := R4.alloc (.cells (opc noOp) 26)
    have R6 := OpAt.new w4 noOp 26
    have hs4 := R4.lt
    have k5 := k4.alloc k4.size (.cells (opc noOp) 26)
    clear R4 k4
    go_wp2_with (first | (refine wpList_store_op rfl rfl _ _ rfl _ rfl noOp R6 o' rfl ?_; intro w5 R7 b5 g5; have R8 := R5.kept g5 (by omega)) | (refine wpList_store_op rfl rfl _ _ rfl _ rfl noOp R8 noOp rfl ?_; intro w6 R9 b6 g6))
    have r0 := R9.kind
    have r1 := R9.key
    have r2 := R9.elem
    have r3 := R9.n
    exact bodyPost_ret (v := .tuple #[.agg (opc noOp), .slice none 0 0, .int .i64 2]) (by simp [results, Tryd.results87, go_sem, r0, r1, r2, r3, opc]) rfl (GetOut.none HQ.out rfl ((k5.trans (b5 _ (by omega))).trans (b6 _ (Nat.le_refl _))))
  | some p =>
    obtain ⟨o', r'⟩ := p
    obtain ⟨A5, c5, rfl, S5⟩ := hm
    have hm := fun W => may o' W (hfit2 o' r' rfl)
    have R5 := R4.alloc (.cells (opc noOp) 26)
    have R6 := OpAt.new w4 noOp 26
    have hs4 := R4.lt
    have k5 := k4.alloc k4.size (.cells (opc noOp) 26)
    clear R4 k4 hfit2
    cases hb : mayO o' with
    | false =>
      rw [hb] at hm
      have HQ0 : Hid (q = none) := aside (HQ.out.trans (keep_no hb r'))
      clear hb
      go_wp2_with (first | (refine wpList_store_op rfl rfl _ _ rfl _ rfl noOp R6 o' rfl ?_; intro w5 R7 b5 g5; have R8 := R5.kept g5 (by omega); have r0 := R7.kind; have r1 := R7.key; have r2 := R7.elem; have r3 := R7.n))
      refine (hm _).mono ?_
      clear hm r0 r1 r2 r3
      rintro e w6 ⟨rfl, h6⟩
      have R9 := R8.below h6
      have k6 := (k5.trans (b5 _ (by omega))).trans (h6.mono (by have := R8.lt; omega))
      go_wp2_with (refine wpList_store_op rfl rfl _ _ rfl _ rfl noOp R9 noOp rfl ?_; intro w7 R10 b7 g7)
      have r0 := R10.kind
      have r1 := R10.key
      have r2 := R10.elem
      have r3 := R10.n
      exact bodyPost_ret (v := .tuple #[.agg (opc noOp), .slice none 0 0, .int .i64 2]) (by simp [results, Tryd.results87, go_sem, r0, r1, r2, r3, opc]) rfl (GetOut.none HQ0.out rfl (k6.trans (b7 _ (Nat.le_refl _))))
    | true =>
      rw [hb] at hm
      have HQ0 : Hid (q = some (o', r')) := aside (HQ.out.trans (keep_yes hb r'))
      clear hb
      go_wp2_with (first | (refine wpList_store_op rfl rfl _ _ rfl _ rfl noOp R6 o' rfl ?_; intro w5 R7 b5 g5; have R8 := R5.kept g5 (by omega); have r0 := R7.kind; have r1 := R7.key; have r2 := R7.elem; have r3 := R7.n))
      refine (hm _).mono ?_
      clear hm r0 r1 r2 r3
      rintro e w6 ⟨rfl, h6⟩
      have R9 := R8.below h6
      have R7b := R7.below h6
      have k6 := (k5.trans (b5 _ (by omega))).trans (h6.mono (by have := R8.lt; omega))
      have S6 := (Sl.kept (S5.below (below_alloc _ _)) R6 g5).below h6
      clear S5
      go_wp2_with (first | (refine wpList_load_op rfl _ rfl _ rfl o' R7b ?_) | (refine wpList_store_op rfl rfl _ _ rfl _ rfl noOp R9 o' rfl ?_; intro w7 R10 b7 g7))
      have r0 := R10.kind
      have r1 := R10.key
      have r2 := R10.elem
      have r3 := R10.n
      have S7 := Sl.kept S6 R9 g7
      exact bodyPost_ret (v := .tuple #[.agg (opc o'), .slice A5 r'.length c5, .int .i64 0]) (by simp [results, Tryd.results87, go_sem, r0, r1, r2, r3, opc]) rfl (GetOut.some HQ0.out _ _ rfl S7 (k6.trans (b7 _ (Nat.le_refl _))))

/-- What ops.Get returns. -/
theorem get (A : Option Addr) (len cap : Nat) (bs : List Int) (w : World) (hS : Sl w A cap bs) (hl : bs.length = len) (hlen : len ≤ 1099511627776) :
    Calls Tryd.prog 87 #[.slice A len cap] w (GetOut (getO bs) w) := by
  by_cases h : (getL bs).2 = 0 ∨ 4 ≤ (getL bs).1
  · exact get_early A len cap bs w hS hl h
  · cases hc : cutL (bs.drop (getL bs).2) 8 with
    | none => exact get_cut A len cap bs w hS hl hlen h hc
    | some p =>
      obtain ⟨key, r⟩ := p
      by_cases hK : (getL bs).1 = 0
      · exact get0 A len cap bs key r w hS hl hlen h hc hK
      · exact get1 A len cap bs key r w hS hl hlen h hc hK
end Go.Proofs.YtnphlpebeflpkaaDoor.OpsH
