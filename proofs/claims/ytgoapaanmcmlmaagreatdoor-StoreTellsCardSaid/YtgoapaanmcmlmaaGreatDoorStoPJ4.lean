/- What the project's four functions of package store return, as the laws' walks need it. No condition but sizes. | One field of an operation stored. No condition. | What the document's answer's Cut of package enc returns: a contract. | What the document's Get of package ops returns: contracts. -/
import Derived.Test.YtgoapaanmcmlmaaGreatDoorStoI
import Derived.Test.YtgoapaanmcmlmaaGreatDoorIdXJ9
import Derived.Test.YtgoapaanmcmlmaaGreatDoorOpsWJ2
import Derived.Test.YtgoapaanmcmlmaaGreatDoorIdOJ5
import Derived.Test.YtgoapaanmcmlmaaGreatDoorEncGJ6
import Derived.Test.YtgoapaanmcmlmaaGreatDoorCmQJ3
import Derived.Test.YtgoapaanmcmlmaaGreatDoorEvRJ5
import Derived.Test.YtgoapaanmcmlmaaGreatDoorRefEJ3
namespace Go.Proofs.YtgoapaanmcmlmaaGreatDoor.StoP
set_option maxRecDepth 100000
open Go Go.Sort Go.RowKit Byt IdM IdW OpsM OpsW CmM StW CmW CmX CmY CmA DgM DgW StoM StoW LogM LogD
set_option maxRecDepth 100000 in
set_option maxHeartbeats 4000000 in
theorem open_ret (A : Option Addr) (cap len : Nat) (b : List Int) (w : World) (S : Sl w A cap b) (hl : b.length = len) (hm : len ≤ 1000000) (hK : ShaE.KIn w) :
   Calls Tryz.prog 15 #[.slice A len cap] w (Gives (openD hashK b) w) := by
 have q := StoI.load_ret A cap len b w S hl hm hK
 unfold LoadOut at q
 obtain ⟨_, _, _, _, _, hle, _⟩ := openD_is (H := hashK) S.bytes
 have hml : openD hashK b = b.take (loadD hashK b).2 := rfl
 obtain ⟨n, hn⟩ : ∃ n, (loadD hashK b).2 = n := ⟨_, rfl⟩
 obtain ⟨cs, hcs⟩ : ∃ cs, (loadD hashK b).1 = cs := ⟨_, rfl⟩
 rw [hn, hcs] at q
 rw [hn] at hml hle
 rw [hml]
 obtain ⟨A1, c1, hs1, S1, hl1⟩ := S.part 0 n (by omega) hle
 rw [List.drop_zero, Nat.sub_zero] at S1 hl1
 have hr1 := fun W => run_part_h W A len cap .i64 n (by have := S.1; omega)
 rw [hs1, Nat.sub_zero] at hr1
 have p2 : 0 ≤ (n : Int) := by omega
 have p3 : (n : Int) ≤ (cap : Int) := by have := S.1; omega
 have hn40 : n ≤ 1099511627776 := by omega
 clear hs1 hle hml hn hcs S hl hm hK
 go_enter Tryz.func15, Tryz.ntmps15
 go_wp2_with (first | go_skip)
 refine q.mono ?_
 rintro e w1 ⟨A2, c2, ps, rfl, _, _, k1⟩
 have qc := clone_ret (S1.below k1) hl1 hn40
 clear q
 go_wp2_with (first | go_skip)
 refine qc.mono ?_
 rintro e w2 ⟨A3, c3, rfl, S3, k2, far⟩
 go_wp2_with (first | go_skip)
 go_ret
 exact ⟨A3, c3, by rw [hl1]; rfl, S3, k1.trans (k2.mono k1.size), fun b off sp h => ⟨Nat.le_trans k1.size (far b off sp h).1, (far b off sp h).2⟩⟩
theorem four : StoF.Four :=
 ⟨fun A cap len b room v w S hl hm I hf K => StoK.put_ret A cap len b room v w S hl (by omega) I hf K, StoI.load_ret, open_ret, StoK.last_ret⟩
end Go.Proofs.YtgoapaanmcmlmaaGreatDoor.StoP
namespace Go.Proofs.YtgoapaanmcmlmaaGreatDoor.OpsF
set_option maxRecDepth 100000
open Go Go.RowKit Go.Sort Byt OpsM OpsW
theorem run_store_one {w : World} {g j : Nat} {T : TypeId} {v : Value} {c : Array Value} {t : TypeId} (ht : w.heap[g]? = some (.cells c t (0, 0))) (hj : j < c.size) (hi : (Tryz.prog.info? T).map (·.size) = some 1) (hv : v.cells = #[v]) (h1 : v.oneCell' = true) :
   (Instr.storeAt T (.pointer (some ⟨g, j, none⟩)) v).run Tryz.prog w = .ok () (w.setCell ⟨g, j, none⟩ v) := by
 have hth : w.there g j [v].length := fun i hi => by
   have : i = 0 := by simpa using hi
   subst this
   refine ⟨?_, ?_⟩
   · rw [Nat.add_zero, cell_of_row w g j _ t (0, 0) ht, Array.getElem?_eq_getElem hj]
     rfl
   · simp [World.frozen?, ht]
 have := run_storeCells_cells (P := Tryz.prog) g j [v] 0 w (fun i hi => by simpa using (hth i hi).1) (fun i hi => by simpa using (hth i hi).2) (fun u hu => by simp only [List.mem_singleton] at hu; subst hu; exact h1)
 cases hq : Tryz.prog.info? T with
 | none => simp [hq] at hi
 | some i =>
   have hs : i.size = 1 := by simpa [hq] using hi
   simp only [Nat.add_zero] at this
   simp only [Instr.storeAt, Instr.sureAddr, Sem.run_bind, Sem.run_pure, Result.andThen_ok]
   simp [storeVar, sizeOf, typeInfo, hq, hv, hs, this]
   try rfl
theorem wpList_store_field {ops : Array Oper} {rest : List Oper} {o : Oper} {a : Act} {w : World} {Q : Exit → Act → World → Prop} (hgd : o.guard = none) (hd : o.dst = none) (T : TypeId) (x y : Operand) (ho : o.op = .store T x y) (hi : (Tryz.prog.info? T).map (·.size) = some 1)
   (g j : Nat) (hx : a.eval x = .pointer (some ⟨g, j, none⟩)) (hj : j < 4) (old : Opn) (hc : OpAt w g old) (new : Opn) (v : Value) (hy : a.eval y = v) (hv : v.cells = #[v]) (h1 : v.oneCell' = true) (hset : (opc old).setIfInBounds j v = opc new)
   (h : ∀ w', OpAt w' g new → (∀ B, B ≤ g → Below B w w') → w.grownBy w' (some g) → wpList Tryz.prog ops Q rest a w') : wpList Tryz.prog ops Q (o :: rest) a w := by
 obtain ⟨t, ht⟩ := hc
 refine wpList_plain hgd fun K hK => ?_
 have hrun := run_store_one (T := T) ht (by rw [opc_size]; exact hj) hi hv h1
 unfold Oper.wp execOp
 simp only [ho, hx, hy, Sem.run_bind, hrun, Result.andThen_ok, Sem.run_pure]
 refine hK _ _ ?_
 rw [hd]
 refine h _ ⟨t, ?_⟩ (fun B hB => (Below.refl B w).setCell (p := ⟨g, j, none⟩) hB v) ⟨rfl, rfl, rfl, by simp [World.setCell], fun k _ hk => ?_⟩
 · simp only [World.setCell]
   rw [Array.getElem?_modify, if_pos rfl, ht]
   simp [hset]
 · simp only [World.setCell]
   rw [Array.getElem?_modify, if_neg (fun e => hk (by rw [← e]))]
theorem info_int : (Tryz.prog.info? 3).map (·.size) = some 1 := by kernel_rfl
theorem info_str : (Tryz.prog.info? 9).map (·.size) = some 1 := by kernel_rfl
end Go.Proofs.YtgoapaanmcmlmaaGreatDoor.OpsF
namespace Go.Proofs.YtgoapaanmcmlmaaGreatDoor.RefY
set_option maxRecDepth 100000
open Go.RowKit Go.Sort Byt BytR EncM EncC EncE
set_option maxRecDepth 100000 in
set_option maxHeartbeats 8000000 in
theorem cut {A : Option Addr} {len cap : Nat} {bs : List Int} {w : World} (most : Int) (hS : Sl w A cap bs) (hl : bs.length = len) (hlen : len ≤ 1099511627776) (hm : -9223372036854775808 ≤ most ∧ most ≤ 9223372036854775807) :
   Calls Tryz.prog 96 #[.slice A len cap, .int .i64 most] w (CutOut bs most w) := by
 have hg := RefF.get hS hl hlen
 obtain ⟨g1, g2, g3⟩ := getL_le hS.bytes
 have hnone := cut_none bs most w
 have hsome := cut_some bs most w
 obtain ⟨n, hn⟩ : ∃ n, (getL bs).1 = n := ⟨_, rfl⟩
 obtain ⟨k, hk⟩ : ∃ k, (getL bs).2 = k := ⟨_, rfl⟩
 rw [hn, hk] at hg hnone hsome
 rw [hn] at g1
 rw [hk] at g2 g3
 rw [hl] at g3 hnone hsome
 have HL := aside hl
 have HN := aside hnone
 have HS := aside hsome
 have HG := aside g1
 clear hn hk hnone hsome hl g1
 obtain ⟨m1, m2⟩ := hm
 by_cases hk0 : k = 0
 · subst hk0
   go_enter Tryz.func96, Tryz.ntmps96
   go_wp2_with fail
   refine hg.mono ?_
   clear hg
   rintro e w1 ⟨rfl, h1⟩
   go_wp2_with fail
   exact bodyPost_ret (v := .tuple #[.string ⟨#[]⟩, .slice none 0 0, .bool false]) (by simp [results, Tryz.results96, go_sem]) rfl (HN.out _ _ (.inl (by trivial)) h1 rfl)
 · have hkp : 0 < k := by omega
   have t0 : ((k : Int) == 0) = false := by simp; omega
   clear hk0
   by_cases hm0 : most < 0
   · have t1 : decide (most < 0) = true := by simpa using hm0
     go_enter Tryz.func96, Tryz.ntmps96
     go_wp2_with fail
     refine hg.mono ?_
     clear hg
     rintro e w1 ⟨rfl, h1⟩
     go_wp2_with fail
     exact bodyPost_ret (v := .tuple #[.string ⟨#[]⟩, .slice none 0 0, .bool false]) (by simp [results, Tryz.results96, go_sem]) rfl (HN.out _ _ (.inr (.inl hm0)) h1 rfl)
   · have t1 : decide (most < 0) = false := by simpa using hm0
     have hm1 : 0 ≤ most := by omega
     clear hm0
     go_enter Tryz.func96, Tryz.ntmps96
     go_wp2_with fail
     refine hg.mono ?_
     clear hg
     rintro e w1 ⟨rfl, h1⟩
     by_cases hmn : most < (n : Int)
     · have t2 : decide (most < (n : Int)) = true := by simpa using hmn
       go_wp2_with fail
       exact bodyPost_ret (v := .tuple #[.string ⟨#[]⟩, .slice none 0 0, .bool false]) (by simp [results, Tryz.results96, go_sem]) rfl (HN.out _ _ (.inr (.inr (.inl hmn))) h1 rfl)
     · have t2 : decide (most < (n : Int)) = false := by simpa using hmn
       have hnm : (n : Int) ≤ most := by omega
       clear hmn
       by_cases hLn : (len : Int) - (k : Int) < (n : Int)
       · have t3 : decide ((len : Int) - (k : Int) < (n : Int)) = true := by simpa using hLn
         go_wp2_with fail
         exact bodyPost_ret (v := .tuple #[.string ⟨#[]⟩, .slice none 0 0, .bool false]) (by simp [results, Tryz.results96, go_sem]) rfl (HN.out _ _ (.inr (.inr (.inr (by omega)))) h1 rfl)
       · have t3 : decide ((len : Int) - (k : Int) < (n : Int)) = false := by simpa using hLn
         have hnL : (k : Int) + n ≤ len := by omega
         clear hLn
         go_wp2_with fail
         clear t0 t1 t2 t3
         have hSW : Sl w1.drew A cap bs := (hS.below h1).drew
         have hBW : Below w.heap.size w w1.drew := below_drew1 h1
         have hlW := hBW.size
         obtain ⟨A3, c3, hs3, hS3, hl3⟩ := hSW.part k (k + n) (by omega) (by have := HL.out; omega)
         obtain ⟨A4, c4, hs4, hS4, hl4⟩ := hSW.part (k + n) len (by omega) (by have := HL.out; omega)
         have hr3 := fun W => run_part_lh W A len cap .i64 .i64 k (k + n) (by omega) (by have := hS.1; have := HL.out; omega)
         have hr4 := fun W => run_part_l W A len cap .i64 (k + n) (by omega)
         have e1 : ((k + n : Nat) : Int) = (k : Int) + n := by omega
         rw [hs3, Nat.add_sub_cancel_left, e1] at hr3
         rw [hs4, e1] at hr4
         rw [Nat.add_sub_cancel_left] at hS3 hl3
         have hcv := hS3.conv hl3
         have hd4 : (bs.drop (k + n)).take (len - (k + n)) = (bs.drop k).drop n := by rw [List.take_of_length_le (by rw [List.length_drop, HL.out]; omega), List.drop_drop]
         rw [hd4] at hS4 hl4
         obtain ⟨M, hM⟩ : ∃ M, len - (k + n) = M := ⟨_, rfl⟩
         rw [hM] at hr4 hl4
         have HL4 := aside hl4
         have HL3 := aside hl3
         have h63 : 0 + M ≤ 1099511627900 := by omega
         clear hs3 hs4 hd4 hl3 hl4 e1 hM h1
         refine Grow.region [(0, true), (1, true), (2, true), (3, true), (4, true), (5, true), (6, true), (7, true), (8, false), (9, true), (10, true), (11, true)] (by kernel_rfl) (by kernel_rfl) rfl (by kernel_rfl) (by intro c a d v w h; cases d <;> exact h) ?_
         have q3 := fun d os => (hS3.below (below_regrown _ d os)).conv HL3.out
         obtain ⟨W1, hW1⟩ : ∃ W, w1.drew = W := ⟨_, rfl⟩
         rw [hW1] at hS4 hBW hlW q3 ⊢
         clear hW1 hcv hSW hS3
         repeat (refine Grow.reads rfl rfl ?_; go_big_quiet_step (fail); refine wpQuiet_nil ?_)
         clear q3 hr3 hr4
         refine Grow.acts rfl ?_
         go_wp2_with (refine wpList_append_sl rfl (.const (.slice none 0 0)) (.tmp 47) 22 rfl w.heap.size 5 Tryz.underlying22 zero_u8 (.slice none 0 0) 0 [] rfl (World.ownsRow_nil _ _ _ _) A4 M c4 ((bs.drop k).drop n) rfl HL4.out hS4 h63 hlW ?_; intro v5 w5 hown5 hg5; have hb5 : Below w.heap.size w w5 := below_grown hBW hlW hg5 (fun k hk => by cases hk); have hb6 := below_grown (Below.refl _ W1) (Nat.le_refl _) hg5 (fun k hk => by cases hk); have HO5 := aside hown5; clear hown5 hg5)
         simp only [Act.put, List.setIfInBounds_toArray, List.set_cons_succ, List.set_cons_zero]
         refine ⟨hb6, ?_⟩
         clear hb6
         repeat (refine Grow.reads rfl rfl ?_; go_big_quiet_step (fail); refine wpQuiet_nil ?_)
         refine Grow.ends ?_
         all_goals go_wp2_with fail
         all_goals
           refine bodyPost_ret (v := .tuple #[.string (strOf ((bs.drop k).take n)), v5, .bool true]) (by simp [results, Tryz.results96, go_sem]) rfl (HS.out _ _ v5 (by omega) hb5 rfl ?_)
           have h := HO5.out
           rw [Nat.zero_add, ← HL4.out, List.nil_append] at h
           exact h
end Go.Proofs.YtgoapaanmcmlmaaGreatDoor.RefY
namespace Go.Proofs.YtgoapaanmcmlmaaGreatDoor.OpsT
set_option maxRecDepth 100000
open Go Go.RowKit Go.Sort Byt OpsM OpsK OpsW OpsC EncM EncC EncE OpsG OpsH OpsF
set_option maxRecDepth 100000 in
set_option maxHeartbeats 8000000 in
theorem get_early (A : Option Addr) (len cap : Nat) (bs : List Int) (w : World) (hS : Sl w A cap bs) (hl : bs.length = len) (hlen : len ≤ 1099511627776) (h : (getL bs).2 = 0 ∨ 4 ≤ (getL bs).1) :
   Calls Tryz.prog 63 #[.slice A len cap] w (GetOut (getO bs) w) := by
 have hz : (w.alloc (.cells (opc noOp) 27)).heap.size = w.heap.size + 1 := by simp
 have A0 := (OpAt.new w noOp 27).alloc (.cells (opc noOp) 27)
 have A1 := OpAt.new (w.alloc (.cells (opc noOp) 27)) noOp 27
 rw [hz] at A1
 have ka : Below w.heap.size w ((w.alloc (.cells (opc noOp) 27)).alloc (.cells (opc noOp) 27)) := (below_alloc w _).alloc (by simp) _
 clear hz
 have hg := fun {W : World} (S : Sl W A cap bs) => RefF.get S hl hlen
 have HQ := aside (getO_early h)
 obtain ⟨n, hn⟩ : ∃ n, (getL bs).1 = n := ⟨_, rfl⟩
 obtain ⟨k, hk⟩ : ∃ k, (getL bs).2 = k := ⟨_, rfl⟩
 obtain ⟨q, hq⟩ : ∃ q, getO bs = q := ⟨_, rfl⟩
 rw [hn, hk] at hg h
 rw [hq] at HQ ⊢
 clear hn hk hq
 have hcase : (k = 0) ∨ (0 < k ∧ 4 ≤ n) := by omega
 clear h
 rcases hcase with rfl | ⟨hk0, hn4⟩
 all_goals
   go_enter Tryz.func63, Tryz.ntmps63
   go_wp2_with (refine wpList_store_op rfl rfl _ _ rfl _ rfl noOp A1 noOp rfl ?_; intro w0 B1 b0 g0; have B0 := A0.kept g0 (by omega))
   have k0 : Below w.heap.size w w0 := ka.trans (b0 _ (by omega))
   clear A0 A1 ka b0 g0
   refine (hg (hS.below k0)).mono ?_
   clear hg
   rintro e w1 ⟨rfl, h1⟩
   have k1 := k0.trans (h1.mono k0.size)
   have C0 := B0.below h1
   have C1 := B1.below h1
   clear h1 k0 B0 B1
   go_wp2_with (first | (refine wpList_load_op rfl _ rfl _ rfl noOp C1 ?_) | (refine wpList_store_op rfl rfl _ _ rfl _ rfl noOp C0 noOp rfl ?_; intro w3 R3 k3 g3'))
   have r0 := R3.kind
   have r1 := R3.key
   have r2 := R3.elem
   have r3 := R3.n
   exact bodyPost_ret (v := .tuple #[.agg (opc noOp), .slice none 0 0, .int .i64 2]) (by simp [results, Tryz.results63, go_sem, r0, r1, r2, r3, opc]) rfl (GetOut.none HQ.out rfl (k1.trans (k3 _ (Nat.le_refl _))))
set_option maxRecDepth 100000 in
set_option maxHeartbeats 8000000 in
theorem get_cut (A : Option Addr) (len cap : Nat) (bs : List Int) (w : World) (hS : Sl w A cap bs) (hl : bs.length = len) (hlen : len ≤ 1099511627776) (h : ¬ ((getL bs).2 = 0 ∨ 4 ≤ (getL bs).1)) (hc : cutL (bs.drop (getL bs).2) 8 = none) :
   Calls Tryz.prog 63 #[.slice A len cap] w (GetOut (getO bs) w) := by
 have hz : (w.alloc (.cells (opc noOp) 27)).heap.size = w.heap.size + 1 := by simp
 have A0 := (OpAt.new w noOp 27).alloc (.cells (opc noOp) 27)
 have A1 := OpAt.new (w.alloc (.cells (opc noOp) 27)) noOp 27
 rw [hz] at A1
 have ka : Below w.heap.size w ((w.alloc (.cells (opc noOp) 27)).alloc (.cells (opc noOp) 27)) := (below_alloc w _).alloc (by simp) _
 clear hz
 have hg := fun {W : World} (S : Sl W A cap bs) => RefF.get S hl hlen
 obtain ⟨g1, g2, g3⟩ := getL_le hS.bytes
 have hBd : ∀ x ∈ bs.drop (getL bs).2, B x := fun x hx => hS.bytes x (List.mem_of_mem_drop hx)
 have hcut := fun {A2 : Option Addr} {L c2 : Nat} {W : World} (S : Sl W A2 c2 (bs.drop (getL bs).2)) (e : (bs.drop (getL bs).2).length = L) (hL : L ≤ 1099511627776) => RefY.cut 8 S e hL (by omega)
 unfold CutOut at hcut
 rw [hc] at hcut
 simp only at hcut
 have HQ := aside (getO_cut0 h hc)
 clear hc
 obtain ⟨n, hn⟩ : ∃ n, (getL bs).1 = n := ⟨_, rfl⟩
 obtain ⟨k, hk⟩ : ∃ k, (getL bs).2 = k := ⟨_, rfl⟩
 obtain ⟨q, hq⟩ : ∃ q, getO bs = q := ⟨_, rfl⟩
 rw [hn, hk] at hg h
 rw [hk] at hcut g2 g3
 rw [hl] at g3
 rw [hq] at HQ ⊢
 have HL := aside hl
 clear hq hl
 have hk0 : 0 < k := by omega
 have hn4 : n < 4 := by omega
 clear h
 have t0 : ((k : Int) == 0) = false := by simp; omega
 have t1 : decide (4 ≤ (n : Int)) = false := by simp; omega
 obtain ⟨A2, c2, hs2, hS2, hl2⟩ := hS.part k len g3 (by rw [HL.out]; exact Nat.le_refl _)
 have hrun := fun W => run_part_l W A len cap .i64 k g3
 rw [hs2] at hrun
 have hcs : (bs.drop k).take (len - k) = bs.drop k := by rw [List.take_of_length_le]; rw [List.length_drop, HL.out]; exact Nat.le_refl _
 rw [hcs] at hS2 hl2
 have HL2 := aside hl2
 have HLe : len - k ≤ 1099511627776 := by omega
 clear hs2 hcs hl2
 clear hn hk hBd g1
 go_enter Tryz.func63, Tryz.ntmps63
 go_wp2_with (refine wpList_store_op rfl rfl _ _ rfl _ rfl noOp A1 noOp rfl ?_; intro w0 B1 b0 g0; have B0 := A0.kept g0 (by omega))
 have k0 : Below w.heap.size w w0 := ka.trans (b0 _ (by omega))
 clear A0 A1 ka b0 g0
 refine (hg (hS.below k0)).mono ?_
 clear hg
 rintro e w1 ⟨rfl, h1⟩
 have k1 := k0.trans (h1.mono k0.size)
 have C0 := B0.below h1
 have C1 := B1.below h1
 clear h1 k0 B0 B1
 have S1 := hS2.below k1
 clear hS2
 go_wp2_with (refine wpList_store_field rfl rfl 3 _ _ rfl info_int _ 0 rfl (by omega) noOp C1 ⟨n, ⟨#[]⟩, ⟨#[]⟩, 0⟩ _ rfl rfl rfl rfl ?_; intro w2 D1 b2 g2'; have D0 := C0.kept g2' (by omega))
 have k2 := k1.trans (b2 _ (by omega))
 have S2 := Sl.kept S1 C1 g2'
 clear C0 C1 k1 b2 g2' S1
 refine (hcut S2 HL2.out HLe).mono ?_
 clear hcut
 rintro e w3 ⟨h3, rfl⟩
 have k3 := k2.trans (h3.mono k2.size)
 have E0 := D0.below h3
 clear D0 D1 h3 k2 S2
 go_wp2_with (refine wpList_store_op rfl rfl _ _ rfl _ rfl noOp E0 noOp rfl ?_; intro w4 R3 k4 g4')
 have r0 := R3.kind
 have r1 := R3.key
 have r2 := R3.elem
 have r3 := R3.n
 exact bodyPost_ret (v := .tuple #[.agg (opc noOp), .slice none 0 0, .int .i64 2]) (by simp [results, Tryz.results63, go_sem, r0, r1, r2, r3, opc]) rfl (GetOut.none HQ.out rfl (k3.trans (k4 _ (Nat.le_refl _))))
set_option maxRecDepth 100000 in
set_option maxHeartbeats 8000000 in
theorem get0 (A : Option Addr) (len cap : Nat) (bs key r : List Int) (w : World) (hS : Sl w A cap bs) (hl : bs.length = len) (hlen : len ≤ 1099511627776) (h : ¬ ((getL bs).2 = 0 ∨ 4 ≤ (getL bs).1)) (hc : cutL (bs.drop (getL bs).2) 8 = some (key, r)) (hK : (getL bs).1 = 0) :
   Calls Tryz.prog 63 #[.slice A len cap] w (GetOut (getO bs) w) := by
 have hz : (w.alloc (.cells (opc noOp) 27)).heap.size = w.heap.size + 1 := by simp
 have A0 := (OpAt.new w noOp 27).alloc (.cells (opc noOp) 27)
 have A1 := OpAt.new (w.alloc (.cells (opc noOp) 27)) noOp 27
 rw [hz] at A1
 have ka : Below w.heap.size w ((w.alloc (.cells (opc noOp) 27)).alloc (.cells (opc noOp) 27)) := (below_alloc w _).alloc (by simp) _
 clear hz
 have hg := fun {W : World} (S : Sl W A cap bs) => RefF.get S hl hlen
 obtain ⟨g1, g2, g3⟩ := getL_le hS.bytes
 have hBd : ∀ x ∈ bs.drop (getL bs).2, B x := fun x hx => hS.bytes x (List.mem_of_mem_drop hx)
 have hcut := fun {A2 : Option Addr} {L c2 : Nat} {W : World} (S : Sl W A2 c2 (bs.drop (getL bs).2)) (e : (bs.drop (getL bs).2).length = L) (hL : L ≤ 1099511627776) => RefY.cut 8 S e hL (by omega)
 unfold CutOut at hcut
 rw [hc] at hcut
 simp only at hcut
 have hq1 := getO_cut1 h hc
 have hkb := (cut_back hBd hc).2
 have hrb := (cut_B hBd hc).2
 have hrl : r.length ≤ 1099511627776 := by
   have := congrArg List.length (cut_back hBd hc).1
   rw [List.length_drop, List.length_append] at this
   omega
 have hfit : Fit (half (getL bs).1 key) := ⟨(by show I64 (((getL bs).1 : Nat) : Int); unfold I64; omega), (by show I64 0; unfold I64; omega), by show (strOf key).size ≤ _; rw [strOf_size]; unfold maxLen; omega, Nat.zero_le _⟩
 rw [hK, tail_rest1] at hq1
 have hfit2 : ∀ o' r', rest1 (half (getL bs).1 key) r = some (o', r') → Fit o' := fun o' r' e => rest1_fit hfit hrb e
 have HKB : Hid ((strOf key).size ≤ 8) := aside (by rw [strOf_size]; omega)
 have HQ := aside hq1
 have HRB := aside hrb
 clear hc hq1 hfit hrb hkb
 rw [hK] at hfit2
 obtain ⟨n, hn⟩ : ∃ n, (getL bs).1 = n := ⟨_, rfl⟩
 obtain ⟨k, hk⟩ : ∃ k, (getL bs).2 = k := ⟨_, rfl⟩
 obtain ⟨q, hq⟩ : ∃ q, getO bs = q := ⟨_, rfl⟩
 rw [hn, hk] at hg h
 rw [hk] at hcut g2 g3
 rw [hl] at g3
 rw [hq] at HQ ⊢
 have HL := aside hl
 clear hq hl
 have hk0 : 0 < k := by omega
 have hn4 : n < 4 := by omega
 clear h
 have t0 : ((k : Int) == 0) = false := by simp; omega
 have t1 : decide (4 ≤ (n : Int)) = false := by simp; omega
 obtain ⟨A2, c2, hs2, hS2, hl2⟩ := hS.part k len g3 (by rw [HL.out]; exact Nat.le_refl _)
 have hrun := fun W => run_part_l W A len cap .i64 k g3
 rw [hs2] at hrun
 have hcs : (bs.drop k).take (len - k) = bs.drop k := by rw [List.take_of_length_le]; rw [List.length_drop, HL.out]; exact Nat.le_refl _
 rw [hcs] at hS2 hl2
 have HL2 := aside hl2
 have HLe : len - k ≤ 1099511627776 := by omega
 clear hs2 hcs hl2
 have hn0 : n = 0 := hn.symm.trans hK
 clear hn hk hBd hK g1
 have hgr := fun {A2 : Option Addr} {c2 : Nat} {W : World} (S : Sl W A2 c2 r) => RefF.get S rfl hrl
 obtain ⟨j1, j2, j3⟩ := getL_le HRB.out
 unfold rest1 at HQ hfit2
 obtain ⟨m, hm⟩ : ∃ n, (getL r).1 = n := ⟨_, rfl⟩
 obtain ⟨at_, hat⟩ : ∃ k, (getL r).2 = k := ⟨_, rfl⟩
 rw [hm, hat] at hgr HQ hfit2
 rw [hm] at j1
 rw [hat] at j2 j3
 have cu := RefE.unfold (m : Int) (by omega)
 have HN0 := aside hn0
 clear hm hat hn0
 have HM := aside j1
 clear j1
 go_enter Tryz.func63, Tryz.ntmps63
 go_wp2_with (refine wpList_store_op rfl rfl _ _ rfl _ rfl noOp A1 noOp rfl ?_; intro w0 B1 b0 g0; have B0 := A0.kept g0 (by omega))
 have k0 : Below w.heap.size w w0 := ka.trans (b0 _ (by omega))
 clear A0 A1 ka b0 g0
 refine (hg (hS.below k0)).mono ?_
 clear hg
 rintro e w1 ⟨rfl, h1⟩
 have k1 := k0.trans (h1.mono k0.size)
 have C0 := B0.below h1
 have C1 := B1.below h1
 clear h1 k0 B0 B1
 have S1 := hS2.below k1
 clear hS2
 go_wp2_with (refine wpList_store_field rfl rfl 3 _ _ rfl info_int _ 0 rfl (by omega) noOp C1 ⟨n, ⟨#[]⟩, ⟨#[]⟩, 0⟩ _ rfl rfl rfl rfl ?_; intro w2 D1 b2 g2'; have D0 := C0.kept g2' (by omega))
 have k2 := k1.trans (b2 _ (by omega))
 have S2 := Sl.kept S1 C1 g2'
 clear C0 C1 k1 b2 g2' S1
 refine (hcut S2 HL2.out HLe).mono ?_
 clear hcut
 rintro e w3 ⟨h3, v, rfl, own⟩
 obtain ⟨A3, c3, rfl, S3⟩ := Sl.own own HRB.out
 have k3 := k2.trans (h3.mono k2.size)
 have E0 := D0.below h3
 have E1 := D1.below h3
 clear D0 D1 h3 k2 S2 own
 have e0 := E1.kind
 simp only at e0
 rw [HN0.out] at e0
 go_wp2_with (first | (refine wpList_store_field rfl rfl 9 _ _ rfl info_str _ 1 rfl (by omega) _ E1 ⟨n, strOf key, ⟨#[]⟩, 0⟩ _ rfl rfl rfl rfl ?_; intro w4 F1 b4 g4; have F0 := E0.kept g4 (by omega); have f0 : w4.cell? ⟨w.heap.size + 1, 0, none⟩ = some (.int .i64 0) := (by rw [F1.kind]; simp only [HN0.out]; rfl)))
 have k4 := k3.trans (b4 _ (by omega))
 have S4 := Sl.kept S3 E1 g4
 clear E0 E1 S3 k3 b4 g4 e0
 refine (hgr S4).mono ?_
 clear hgr f0
 rintro e w5 ⟨rfl, h5⟩
 have k5 := k4.trans (h5.mono k4.size)
 have G0 := F0.below h5
 have G1 := F1.below h5
 have S5 := S4.below h5
 clear F0 F1 S4 h5 k4
 by_cases hz : at_ = 0
 · subst hz
   have HQ0 : Hid (q = none) := aside HQ.out
   go_wp2_with (refine wpList_store_op rfl rfl _ _ rfl _ rfl noOp G0 noOp rfl ?_; intro w6 R3 k6 g6)
   have r0 := R3.kind
   have r1 := R3.key
   have r2 := R3.elem
   have r3 := R3.n
   exact bodyPost_ret (v := .tuple #[.agg (opc noOp), .slice none 0 0, .int .i64 2]) (by simp [results, Tryz.results63, go_sem, r0, r1, r2, r3, opc]) rfl (GetOut.none HQ0.out rfl (k5.trans (k6 _ (Nat.le_refl _))))
 · have t2 : ((at_ : Int) == 0) = false := by simp; omega
   have HQ1 : Hid (q = keep (some (⟨(n : Nat), strOf key, ⟨#[]⟩, unfoldI (m : Int)⟩, r.drop at_))) := aside (by have := HQ.out; rw [if_neg hz] at this; rw [HN0.out]; exact this)
   have hft : Fit ⟨(n : Nat), strOf key, ⟨#[]⟩, unfoldI (m : Int)⟩ := hfit2 ⟨(n : Nat), strOf key, ⟨#[]⟩, unfoldI (m : Int)⟩ (r.drop at_) (by rw [if_neg hz, HN0.out]; rfl)
   have hmay := fun W => OpsR.may ⟨(n : Nat), strOf key, ⟨#[]⟩, unfoldI (m : Int)⟩ W hft (by have := HKB.out; show (strOf key).size ≤ _; omega) (Nat.zero_le _)
   clear hz HQ hfit2 hft
   go_wp2_with fail
   refine (cu _).mono ?_
   clear cu
   rintro e w' ⟨rfl, rfl⟩
   obtain ⟨A6, c6, hs6, S6a, hl6⟩ := S5.part at_ r.length j3 (Nat.le_refl _)
   have hrun2 := fun W => run_part_l W A3 r.length c3 .i64 at_ j3
   rw [hs6] at hrun2
   have hcs : (r.drop at_).take (r.length - at_) = r.drop at_ := by rw [List.take_of_length_le]; rw [List.length_drop]; exact Nat.le_refl _
   rw [hcs] at S6a hl6
   have HL6 := aside hl6
   clear hs6 hcs hl6 S5
   go_wp2_with (first | (refine wpList_store_field rfl rfl 3 _ _ rfl info_int _ 3 rfl (by omega) _ G1 ⟨(n : Nat), strOf key, ⟨#[]⟩, unfoldI (m : Int)⟩ _ rfl rfl rfl rfl ?_; intro w6 H1 b6 g6; have H0 := G0.kept g6 (by omega)) | (refine wpList_load_op rfl _ rfl _ rfl ⟨(n : Nat), strOf key, ⟨#[]⟩, unfoldI (m : Int)⟩ H1 ?_))
   have k6 := k5.trans (b6 _ (by omega))
   have S6 := Sl.kept S6a G1 g6
   clear G0 G1 k5 b6 g6 S6a hrun2 hrun
   cases hb : mayO (⟨(n : Nat), strOf key, ⟨#[]⟩, unfoldI (m : Int)⟩ : Opn) with
   | false =>
     rw [hb] at hmay
     have HQ0 : Hid (q = none) := aside (HQ1.out.trans (keep_no hb _))
     clear hb
     refine (hmay _).mono ?_
     clear hmay
     rintro e w7 ⟨rfl, h7⟩
     have k7 := k6.trans (h7.mono k6.size)
     have I0 := H0.below h7
     go_wp2_with (refine wpList_store_op rfl rfl _ _ rfl _ rfl noOp I0 noOp rfl ?_; intro w8 R3 k8 g8)
     have r0 := R3.kind
     have r1 := R3.key
     have r2 := R3.elem
     have r3 := R3.n
     exact bodyPost_ret (v := .tuple #[.agg (opc noOp), .slice none 0 0, .int .i64 2]) (by simp [results, Tryz.results63, go_sem, r0, r1, r2, r3, opc]) rfl (GetOut.none HQ0.out rfl (k7.trans (k8 _ (Nat.le_refl _))))
   | true =>
     rw [hb] at hmay
     have HQ0 : Hid (q = some ((⟨(n : Nat), strOf key, ⟨#[]⟩, unfoldI (m : Int)⟩ : Opn), r.drop at_)) := aside (HQ1.out.trans (keep_yes hb _))
     clear hb
     refine (hmay _).mono ?_
     clear hmay
     rintro e w7 ⟨rfl, h7⟩
     have k7 := k6.trans (h7.mono k6.size)
     have I0 := H0.below h7
     have I1 := H1.below h7
     have S7 := S6.below h7
     clear S6 h7 H0 H1
     go_wp2_with (first | (refine wpList_load_op rfl _ rfl _ rfl (⟨(n : Nat), strOf key, ⟨#[]⟩, unfoldI (m : Int)⟩ : Opn) I1 ?_) | (refine wpList_store_op rfl rfl _ _ rfl _ rfl noOp I0 (⟨(n : Nat), strOf key, ⟨#[]⟩, unfoldI (m : Int)⟩ : Opn) rfl ?_; intro w8 R3 k8 g8))
     have S8 := Sl.kept S7 I0 g8
     have r0 := R3.kind
     have r1 := R3.key
     have r2 := R3.elem
     have r3 := R3.n
     exact bodyPost_ret (v := .tuple #[.agg (opc (⟨(n : Nat), strOf key, ⟨#[]⟩, unfoldI (m : Int)⟩ : Opn)), .slice A6 (r.length - at_) c6, .int .i64 0]) (by simp [results, Tryz.results63, go_sem, r0, r1, r2, r3, opc]) rfl (GetOut.some HQ0.out _ _ (by rw [HL6.out]) S8 (k7.trans (k8 _ (Nat.le_refl _))))
set_option maxRecDepth 100000 in
set_option maxHeartbeats 8000000 in
theorem get1 (A : Option Addr) (len cap : Nat) (bs key r : List Int) (w : World) (hS : Sl w A cap bs) (hl : bs.length = len) (hlen : len ≤ 1099511627776) (h : ¬ ((getL bs).2 = 0 ∨ 4 ≤ (getL bs).1)) (hc : cutL (bs.drop (getL bs).2) 8 = some (key, r)) (hK : (getL bs).1 ≠ 0) :
   Calls Tryz.prog 63 #[.slice A len cap] w (GetOut (getO bs) w) := by
 have hz : (w.alloc (.cells (opc noOp) 27)).heap.size = w.heap.size + 1 := by simp
 have A0 := (OpAt.new w noOp 27).alloc (.cells (opc noOp) 27)
 have A1 := OpAt.new (w.alloc (.cells (opc noOp) 27)) noOp 27
 rw [hz] at A1
 have ka : Below w.heap.size w ((w.alloc (.cells (opc noOp) 27)).alloc (.cells (opc noOp) 27)) := (below_alloc w _).alloc (by simp) _
 clear hz
 have hg := fun {W : World} (S : Sl W A cap bs) => RefF.get S hl hlen
 obtain ⟨g1, g2, g3⟩ := getL_le hS.bytes
 have hBd : ∀ x ∈ bs.drop (getL bs).2, B x := fun x hx => hS.bytes x (List.mem_of_mem_drop hx)
 have hcut := fun {A2 : Option Addr} {L c2 : Nat} {W : World} (S : Sl W A2 c2 (bs.drop (getL bs).2)) (e : (bs.drop (getL bs).2).length = L) (hL : L ≤ 1099511627776) => RefY.cut 8 S e hL (by omega)
 unfold CutOut at hcut
 rw [hc] at hcut
 simp only at hcut
 have hq1 := getO_cut1 h hc
 have hkb := (cut_back hBd hc).2
 have hrb := (cut_B hBd hc).2
 have hrl : r.length ≤ 1099511627776 := by
   have := congrArg List.length (cut_back hBd hc).1
   rw [List.length_drop, List.length_append] at this
   omega
 have hfit : Fit (half (getL bs).1 key) := ⟨(by show I64 (((getL bs).1 : Nat) : Int); unfold I64; omega), (by show I64 0; unfold I64; omega), by show (strOf key).size ≤ _; rw [strOf_size]; unfold maxLen; omega, Nat.zero_le _⟩
 rw [tail_rest2 hK] at hq1
 have hfit2 : ∀ o' r', rest2 (half (getL bs).1 key) r = some (o', r') → Fit o' := fun o' r' e => rest2_fit hfit hrb e
 have HKB : Hid ((strOf key).size ≤ 8) := aside (by rw [strOf_size]; omega)
 have HQ := aside hq1
 have HRB := aside hrb
 clear hc hq1 hfit hrb hkb
 obtain ⟨n, hn⟩ : ∃ n, (getL bs).1 = n := ⟨_, rfl⟩
 obtain ⟨k, hk⟩ : ∃ k, (getL bs).2 = k := ⟨_, rfl⟩
 obtain ⟨q, hq⟩ : ∃ q, getO bs = q := ⟨_, rfl⟩
 rw [hn, hk] at hg h
 rw [hk] at hcut g2 g3
 rw [hl] at g3
 rw [hq] at HQ ⊢
 have HL := aside hl
 clear hq hl
 have hk0 : 0 < k := by omega
 have hn4 : n < 4 := by omega
 clear h
 have t0 : ((k : Int) == 0) = false := by simp; omega
 have t1 : decide (4 ≤ (n : Int)) = false := by simp; omega
 obtain ⟨A2, c2, hs2, hS2, hl2⟩ := hS.part k len g3 (by rw [HL.out]; exact Nat.le_refl _)
 have hrun := fun W => run_part_l W A len cap .i64 k g3
 rw [hs2] at hrun
 have hcs : (bs.drop k).take (len - k) = bs.drop k := by rw [List.take_of_length_le]; rw [List.length_drop, HL.out]; exact Nat.le_refl _
 rw [hcs] at hS2 hl2
 have HL2 := aside hl2
 have HLe : len - k ≤ 1099511627776 := by omega
 clear hs2 hcs hl2
 have hn0 : n ≠ 0 := fun e => hK (hn.trans e)
 rw [hn] at HQ hfit2
 clear hn hk hBd hK g1
 have hcr := fun {A2 : Option Addr} {c2 : Nat} {W : World} (S : Sl W A2 c2 r) => RefY.cut 8 S rfl hrl (by omega)
 unfold CutOut at hcr
 unfold rest2 at HQ hfit2
 have hcB : ∀ ee r2, cutL r 8 = some (ee, r2) → ee.length ≤ 8 ∧ ∀ x ∈ r2, B x := fun ee r2 e => ⟨by have := (cut_back HRB.out e).2; omega, (cut_B HRB.out e).2⟩
 have t5 : ((n : Int) == 0) = false := by simp; omega
 clear hn0
 go_enter Tryz.func63, Tryz.ntmps63
 go_wp2_with (refine wpList_store_op rfl rfl _ _ rfl _ rfl noOp A1 noOp rfl ?_; intro w0 B1 b0 g0; have B0 := A0.kept g0 (by omega))
 have k0 : Below w.heap.size w w0 := ka.trans (b0 _ (by omega))
 clear A0 A1 ka b0 g0
 refine (hg (hS.below k0)).mono ?_
 clear hg
 rintro e w1 ⟨rfl, h1⟩
 have k1 := k0.trans (h1.mono k0.size)
 have C0 := B0.below h1
 have C1 := B1.below h1
 clear h1 k0 B0 B1
 have S1 := hS2.below k1
 clear hS2
 go_wp2_with (refine wpList_store_field rfl rfl 3 _ _ rfl info_int _ 0 rfl (by omega) noOp C1 ⟨n, ⟨#[]⟩, ⟨#[]⟩, 0⟩ _ rfl rfl rfl rfl ?_; intro w2 D1 b2 g2'; have D0 := C0.kept g2' (by omega))
 have k2 := k1.trans (b2 _ (by omega))
 have S2 := Sl.kept S1 C1 g2'
 clear C0 C1 k1 b2 g2' S1
 refine (hcut S2 HL2.out HLe).mono ?_
 clear hcut
 rintro e w3 ⟨h3, v, rfl, own⟩
 obtain ⟨A3, c3, rfl, S3⟩ := Sl.own own HRB.out
 have k3 := k2.trans (h3.mono k2.size)
 have E0 := D0.below h3
 have E1 := D1.below h3
 clear D0 D1 h3 k2 S2 own
 have e0 := E1.kind
 simp only at e0
 go_wp2_with (first | (refine wpList_store_field rfl rfl 9 _ _ rfl info_str _ 1 rfl (by omega) _ E1 ⟨(n : Nat), strOf key, ⟨#[]⟩, 0⟩ _ rfl rfl rfl rfl ?_; intro w4 F1 b4 g4; have F0 := E0.kept g4 (by omega); have f0 : w4.cell? ⟨w.heap.size + 1, 0, none⟩ = some (.int .i64 (n : Nat)) := F1.kind))
 have k4 := k3.trans (b4 _ (by omega))
 have S4 := Sl.kept S3 E1 g4
 clear E0 E1 S3 k3 b4 g4 e0
 refine (hcr S4).mono ?_
 clear hcr f0
 cases hc2 : cutL r 8 with
 | none =>
   rw [hc2] at HQ
   have HQ0 : Hid (q = none) := aside HQ.out
   clear hc2 hcB hfit2 HQ
   rintro e w5 ⟨h5, rfl⟩
   have k5 := k4.trans (h5.mono k4.size)
   have G0 := F0.below h5
   clear F0 F1 S4 h5 k4
   go_wp2_with (refine wpList_store_op rfl rfl _ _ rfl _ rfl noOp G0 noOp rfl ?_; intro w6 R3 k6 g6)
   have r0 := R3.kind
   have r1 := R3.key
   have r2 := R3.elem
   have r3 := R3.n
   exact bodyPost_ret (v := .tuple #[.agg (opc noOp), .slice none 0 0, .int .i64 2]) (by simp [results, Tryz.results63, go_sem, r0, r1, r2, r3, opc]) rfl (GetOut.none HQ0.out rfl (k5.trans (k6 _ (Nat.le_refl _))))
 | some p =>
   obtain ⟨ee, rb⟩ := p
   rw [hc2] at HQ hfit2
   obtain ⟨hel, hr2B⟩ := hcB ee rb hc2
   have HQ1 : Hid (q = keep (some (⟨(n : Nat), strOf key, strOf ee, 0⟩, rb))) := aside HQ.out
   have hft : Fit ⟨(n : Nat), strOf key, strOf ee, 0⟩ := hfit2 ⟨(n : Nat), strOf key, strOf ee, 0⟩ rb rfl
   have hmay := fun W => OpsR.may ⟨(n : Nat), strOf key, strOf ee, 0⟩ W hft (by have := HKB.out; show (strOf key).size ≤ _; omega) (by show (strOf ee).size ≤ _; rw [strOf_size]; omega)
   have HR2 := aside hr2B
   clear hc2 hcB hfit2 HQ hft hr2B hel
   rintro e w5 ⟨h5, v, rfl, own⟩
   obtain ⟨A6, c6, rfl, S5⟩ := Sl.own own HR2.out
   have k5 := k4.trans (h5.mono k4.size)
   have G0 := F0.below h5
   have G1 := F1.below h5
   clear F0 F1 S4 h5 k4 own
   go_wp2_with (first | (refine wpList_store_field rfl rfl 9 _ _ rfl info_str _ 2 rfl (by omega) _ G1 ⟨(n : Nat), strOf key, strOf ee, 0⟩ _ rfl rfl rfl rfl ?_; intro w6 H1 b6 g6; have H0 := G0.kept g6 (by omega)) | (refine wpList_load_op rfl _ rfl _ rfl ⟨(n : Nat), strOf key, strOf ee, 0⟩ H1 ?_))
   have k6 := k5.trans (b6 _ (by omega))
   have S6 := Sl.kept S5 G1 g6
   clear G0 G1 k5 b6 g6 S5 hrun
   cases hb : mayO (⟨(n : Nat), strOf key, strOf ee, 0⟩ : Opn) with
   | false =>
     rw [hb] at hmay
     have HQ0 : Hid (q = none) := aside (HQ1.out.trans (keep_no hb _))
     clear hb
     refine (hmay _).mono ?_
     clear hmay
     rintro e w7 ⟨rfl, h7⟩
     have k7 := k6.trans (h7.mono k6.size)
     have I0 := H0.below h7
     go_wp2_with (refine wpList_store_op rfl rfl _ _ rfl _ rfl noOp I0 noOp rfl ?_; intro w8 R3 k8 g8)
     have r0 := R3.kind
     have r1 := R3.key
     have r2 := R3.elem
     have r3 := R3.n
     exact bodyPost_ret (v := .tuple #[.agg (opc noOp), .slice none 0 0, .int .i64 2]) (by simp [results, Tryz.results63, go_sem, r0, r1, r2, r3, opc]) rfl (GetOut.none HQ0.out rfl (k7.trans (k8 _ (Nat.le_refl _))))
   | true =>
     rw [hb] at hmay
     have HQ0 : Hid (q = some ((⟨(n : Nat), strOf key, strOf ee, 0⟩ : Opn), rb)) := aside (HQ1.out.trans (keep_yes hb _))
     clear hb
     refine (hmay _).mono ?_
     clear hmay
     rintro e w7 ⟨rfl, h7⟩
     have k7 := k6.trans (h7.mono k6.size)
     have I0 := H0.below h7
     have I1 := H1.below h7
     have S7 := S6.below h7
     clear S6 h7 H0 H1
     go_wp2_with (first | (refine wpList_load_op rfl _ rfl _ rfl (⟨(n : Nat), strOf key, strOf ee, 0⟩ : Opn) I1 ?_) | (refine wpList_store_op rfl rfl _ _ rfl _ rfl noOp I0 (⟨(n : Nat), strOf key, strOf ee, 0⟩ : Opn) rfl ?_; intro w8 R3 k8 g8))
     have S8 := Sl.kept S7 I0 g8
     have r0 := R3.kind
     have r1 := R3.key
     have r2 := R3.elem
     have r3 := R3.n
     exact bodyPost_ret (v := .tuple #[.agg (opc (⟨(n : Nat), strOf key, strOf ee, 0⟩ : Opn)), .slice A6 rb.length c6, .int .i64 0]) (by simp [results, Tryz.results63, go_sem, r0, r1, r2, r3, opc]) rfl (GetOut.some HQ0.out _ _ rfl S8 (k7.trans (k8 _ (Nat.le_refl _))))
theorem get (A : Option Addr) (len cap : Nat) (bs : List Int) (w : World) (hS : Sl w A cap bs) (hl : bs.length = len) (hlen : len ≤ 1099511627776) :
   Calls Tryz.prog 63 #[.slice A len cap] w (GetOut (getO bs) w) := by
 by_cases h : (getL bs).2 = 0 ∨ 4 ≤ (getL bs).1
 · exact get_early A len cap bs w hS hl hlen h
 · cases hc : cutL (bs.drop (getL bs).2) 8 with
   | none => exact get_cut A len cap bs w hS hl hlen h hc
   | some p =>
     obtain ⟨key, r⟩ := p
     by_cases hK : (getL bs).1 = 0
     · exact get0 A len cap bs key r w hS hl hlen h hc hK
     · exact get1 A len cap bs key r w hS hl hlen h hc hK
end Go.Proofs.YtgoapaanmcmlmaaGreatDoor.OpsT
