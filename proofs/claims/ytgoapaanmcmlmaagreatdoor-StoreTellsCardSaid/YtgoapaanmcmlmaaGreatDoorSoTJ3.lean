/- StoreTells' walk: package store's four functions answer as the document does, where they return what Four says. No condition. | One field of an operation stored. No condition. | What the document's answer's Cut of package enc returns: a contract. -/
import Derived.Test.YtgoapaanmcmlmaaGreatDoorIdXJ10
import Derived.Test.YtgoapaanmcmlmaaGreatDoorLogSJ4
import Derived.Test.YtgoapaanmcmlmaaGreatDoorStoL
import Derived.Test.YtgoapaanmcmlmaaGreatDoorOpsWJ2
import Derived.Test.YtgoapaanmcmlmaaGreatDoorIdOJ5
import Derived.Test.YtgoapaanmcmlmaaGreatDoorEncGJ6
namespace Go.Proofs.YtgoapaanmcmlmaaGreatDoor.SoT
set_option maxRecDepth 100000
open Go Go.Sort Go.RowKit Byt IdM IdW OpsM OpsW CmM StW CmW CmX CmY CmA DgM DgW DgR DgJ StoM StoW StoF StoL StoA LogM LogD LogE LogW EncM
open Classical
theorem putO_B {b : List Int} {c : Com} {room : Int} (hb : ∀ y ∈ b, Byt.B y) : ∀ y ∈ (putO b c room).1, Byt.B y := by
 unfold putO
 split
 · exact writeO_B hb (putK_B c)
 · simp
set_option maxRecDepth 100000 in
set_option maxHeartbeats 16000000 in
theorem not_few (X : Four) (A : Option Addr) (len cap : Nat) (room node : Int) (v : Cv) (w : World) (hf : fewK v.c = false) (hK : ShaE.KIn w) :
   Calls Tryz.prog 3 #[.slice A len cap, .int .i64 room, .agg (cc v), .int .i64 node] w fun e w' => e = .returned (.bool true) ∧ RowKit.Below w.heap.size w w' := by
 have kb : RowKit.Below w.heap.size w (w.alloc (.cells (cc v) 29)) := (Below.refl _ _).alloc (Nat.le_refl _) _
 have B0 : Cel.Box CE (w.alloc (.cells (cc v) 29)) w.heap.size v := Cel.Box.new (E := CE) w v _
 have qa := awake X _ (hK.below kb)
 have qf := fun W => few_ret v W
 rw [hf] at qf
 have hks := kb.size
 go_enter Tryz.func3, Tryz.ntmps3
 go_wp2_with (first | go_skip)
 refine qa.mono ?_
 rintro e w1 ⟨rfl, k1⟩
 have B1 := B0.below k1
 have b1 := kb.trans (k1.mono hks)
 clear qa B0 kb k1
 go_wp2_with (first | go_skip | (refine Cel.wpList_load_box CE rfl _ rfl _ rfl _ B1 ?_))
 refine (qf _).mono ?_
 rintro e w2 ⟨rfl, k2⟩
 clear qf
 go_wp2_with (first | go_skip)
 go_ret
 exact ⟨rfl, b1.trans (k2.mono b1.size)⟩
set_option maxRecDepth 100000 in
set_option maxHeartbeats 16000000 in
theorem not_short (X : Four) (A : Option Addr) (len cap : Nat) (room node : Int) (v : Cv) (w : World) (hf : fewK v.c = true) (hl : 1500 < len) (hK : ShaE.KIn w) :
   Calls Tryz.prog 3 #[.slice A len cap, .int .i64 room, .agg (cc v), .int .i64 node] w fun e w' => e = .returned (.bool true) ∧ RowKit.Below w.heap.size w w' := by
 have kb : RowKit.Below w.heap.size w (w.alloc (.cells (cc v) 29)) := (Below.refl _ _).alloc (Nat.le_refl _) _
 have B0 : Cel.Box CE (w.alloc (.cells (cc v) 29)) w.heap.size v := Cel.Box.new (E := CE) w v _
 have qa := awake X _ (hK.below kb)
 have qf := fun W => few_ret v W
 rw [hf] at qf
 have hks := kb.size
 have p0 : (1500 : Int) < (len : Int) := by omega
 go_enter Tryz.func3, Tryz.ntmps3
 go_wp2_with (first | go_skip)
 refine qa.mono ?_
 rintro e w1 ⟨rfl, k1⟩
 have B1 := B0.below k1
 have b1 := kb.trans (k1.mono hks)
 clear qa B0 kb k1
 go_wp2_with (first | go_skip | (refine Cel.wpList_load_box CE rfl _ rfl _ rfl _ B1 ?_))
 refine (qf _).mono ?_
 rintro e w2 ⟨rfl, k2⟩
 clear qf
 go_wp2_with (first | go_skip)
 go_ret
 exact ⟨rfl, b1.trans (k2.mono b1.size)⟩
set_option maxRecDepth 100000 in
set_option maxHeartbeats 32000000 in
theorem within (X : Four) (G : GetDoc) (A : Option Addr) (len cap : Nat) (b : List Int) (room node : Int) (v : Cv) (w : World) (S : Sl w A cap b) (hl : b.length = len) (I : In w v) (F : Fit v.c) (hf : fewK v.c = true) (h : len ≤ 1500) (hK : ShaE.KIn w) :
   Calls Tryz.prog 3 #[.slice A len cap, .int .i64 room, .agg (cc v), .int .i64 node] w fun e w' => e = .returned (.bool true) ∧ RowKit.Below w.heap.size w w' := by
 have kb : RowKit.Below w.heap.size w (w.alloc (.cells (cc v) 29)) := (Below.refl _ _).alloc (Nat.le_refl _) _
 have B0 : Cel.Box CE (w.alloc (.cells (cc v) 29)) w.heap.size v := Cel.Box.new (E := CE) w v _
 have qa := awake X _ (hK.below kb)
 have qf := fun W => few_ret v W
 rw [hf] at qf
 have hks := kb.size
 have p0 : ¬ (1500 : Int) < (len : Int) := by omega
 have hokv : CmR.Okay v.c := okay hf F
 have q1 := fun W (S : Sl W A cap b) (I : In W v) (K : ShaE.KIn W) => X.put A cap len b room v W S hl (by omega) I F K
 have q2 := fun W (S : Sl W A cap b) (I : In W v) => StoR.put_ret (room := room) S hl (by omega) I hokv
 have q3 := fun W (S : Sl W A cap b) (K : ShaE.KIn W) => X.load A cap len b W S hl (by omega) K
 have q4 := fun W (S : Sl W A cap b) => StoL.load_ret G S hl (by omega)
 have q5 := fun W (S : Sl W A cap b) (K : ShaE.KIn W) => X.opn A cap len b W S hl (by omega) K
 have q6 := fun W (S : Sl W A cap b) => StoL.open_ret G S hl (by omega)
 have q7 := fun A cap l W (S : SlK W A cap l) => X.last A cap l node W S
 have q8 := fun A cap l W (S : SlK W A cap l) => StoR.last_ret A cap l node W S
 have hOB := putO_B (b := b) (c := v.c) (room := room) S.bytes
 obtain ⟨O, hO⟩ : ∃ O, putO b v.c room = O := ⟨_, rfl⟩
 obtain ⟨lo, hlo⟩ : ∃ lo, loadD hashK b = lo := ⟨_, rfl⟩
 obtain ⟨M, hM⟩ : ∃ M, openD hashK b = M := ⟨_, rfl⟩
 rw [hO] at hOB
 simp only [hO] at q1 q2
 simp only [hlo] at q3 q4
 simp only [hM] at q5 q6
 obtain ⟨O, eo⟩ := O
 obtain ⟨lc, n⟩ := lo
 have tO : ((strOf O).toList == (strOf O).toList) = true := by simp
 have tM : ((strOf M).toList == (strOf M).toList) = true := by simp
 have te : (eo == eo) = true := by simp
 have tn : ((n : Int) == (n : Int)) = true := by simp
 obtain ⟨lO, hlO⟩ : ∃ k, O.length = k := ⟨_, rfl⟩
 obtain ⟨lM, hlM⟩ : ∃ k, M.length = k := ⟨_, rfl⟩
 simp only [] at hOB
 clear hO hlo hM hokv hf F X G hl
 go_enter Tryz.func3, Tryz.ntmps3
 go_wp2_with (first | go_skip)
 refine qa.mono ?_
 rintro e w1 ⟨rfl, k1⟩
 have B1 := B0.below k1
 have b1 := kb.trans (k1.mono hks)
 clear qa B0 kb k1 hks
 go_wp2_with (first | go_skip | (refine Cel.wpList_load_box CE rfl _ rfl _ rfl _ B1 ?_))
 refine (qf _).mono ?_
 rintro e w2 ⟨rfl, k2⟩
 have B2 := B1.below k2
 have b2 := b1.trans (k2.mono b1.size)
 clear qf B1 b1 k2
 go_wp2_with (first | go_skip | (refine Cel.wpList_load_box CE rfl _ rfl _ rfl _ B2 ?_))
 refine (q1 _ (S.below b2) (I.below b2) (hK.below b2)).mono ?_
 rintro e w3 ⟨v3, rfl, own3, k3⟩
 simp only [] at own3
 obtain ⟨A3, c3, rfl, S3⟩ := Sl.own own3 hOB
 have B3 := B2.below k3
 have b3 := b2.trans (k3.mono b2.size)
 simp only [hlO]
 clear q1 own3 k3 b2 B2
 go_wp2_with (first | go_skip | (refine Cel.wpList_load_box CE rfl _ rfl _ rfl _ B3 ?_))
 refine (q2 _ (S.below b3) (I.below b3)).mono ?_
 rintro e w4 ⟨A4, c4, rfl, S4, k4⟩
 simp only [hlO] at S4 ⊢
 have b4 := b3.trans (k4.mono b3.size)
 have S3' := S3.below k4
 clear q2 k4 b3 B3 S3
 go_wp2_with (first | go_skip)
 refine (q3 _ (S.below b4) (hK.below b4)).mono ?_
 rintro e w5 ⟨A5, c5, ps, rfl, hps, S5, k5⟩
 have b5 := b4.trans (k5.mono b4.size)
 have S3 := S3'.below k5
 have S4' := S4.below k5
 clear q3 k5 b4 S3' S4
 go_wp2_with (first | go_skip)
 refine (q4 _ (S.below b5)).mono ?_
 rintro e w6 ⟨A6, c6, qs, rfl, hqs, S6, k6⟩
 have b6 := b5.trans (k6.mono b5.size)
 have S3' := S3.below k6
 have S4 := S4'.below k6
 have S5' := S5.below k6
 have qe := list_ret A5 A6 c5 c6 ps qs _ S5' S6
 rw [hps, hqs, listB_iff.2 rfl] at qe
 clear q4 k6 b5 S3 S4' S5 S6 hqs
 go_wp2_with (first | go_skip)
 refine qe.mono ?_
 rintro e w8 ⟨rfl, k8⟩
 have b8 := b6.trans (k8.mono b6.size)
 have S3 := S3'.below k8
 have S4' := S4.below k8
 have S5 := S5'.below k8
 clear qe k8 b6 S3' S4 S5'
 go_wp2_with (first | go_skip)
 refine Grow.region [(0, true), (1, true), (2, true), (3, true), (4, true), (5, true), (6, true), (7, true), (8, true), (9, true), (10, true), (11, true), (12, true), (13, true), (14, true), (15, true), (16, true), (17, true), (18, true), (19, true), (22, true), (20, false), (21, true), (23, false), (24, true), (25, true), (26, true), (27, true), (28, true), (29, true), (31, true), (32, true), (30, false), (33, false), (34, true), (35, true), (36, true)] (by kernel_rfl) (by kernel_rfl) rfl (by kernel_rfl) (by intro c a d v w h; cases d <;> exact h) ?_
 change Grow.Seq _ _ _ _ _ w8.drew
 have dr := Byt.below_drew1 (Below.refl w8.heap.size w8)
 have T3 := S3.below dr
 have T4 := S4'.below dr
 have T5 := S5.below dr
 have b9 := b8.trans (dr.mono b8.size)
 generalize w8.drew = w9 at T3 T4 T5 b9 ⊢
 clear S3 S4' S5 b8 dr
 have cv3 := fun d os => (T3.below (below_regrown _ d os)).conv hlO
 have cv4 := fun d os => (T4.below (below_regrown _ d os)).conv hlO
 clear T3 T4
 repeat (refine Grow.reads rfl rfl ?_; go_big_quiet_step (fail); refine wpQuiet_nil ?_)
 clear cv3 cv4
 refine Grow.acts rfl ?_
 go_wp2_with (first | go_skip)
 refine (q5 _ (S.below b9) (hK.below b9)).mono ?_
 rintro e wa ⟨Aa, ca, rfl, Sa, ka, _⟩
 simp only [hlM]
 go_wp2_with (first | go_skip)
 refine ⟨ka, ?_⟩
 have ba := b9.trans (ka.mono b9.size)
 have T6 := T5.below ka
 have cva := fun d os => (Sa.below (below_regrown _ d os)).conv hlM
 clear q5 ka b9 T5
 repeat (refine Grow.reads rfl rfl ?_; go_big_quiet_step (fail); refine wpQuiet_nil ?_)
 clear cva
 refine Grow.acts rfl ?_
 go_wp2_with (first | go_skip)
 refine (q6 _ (S.below ba)).mono ?_
 rintro e wb ⟨Ab, cb, rfl, Sb, kb, _⟩
 simp only [hlM]
 go_wp2_with (first | go_skip)
 refine ⟨kb, ?_⟩
 have bb := ba.trans (kb.mono ba.size)
 have T7 := T6.below kb
 have cvb := fun d os => (Sb.below (below_regrown _ d os)).conv hlM
 clear q6 kb ba T6
 repeat (refine Grow.reads rfl rfl ?_; go_big_quiet_step (fail); refine wpQuiet_nil ?_)
 clear cvb
 have r7 := q7 _ _ _ _ T7
 rw [hps] at r7
 refine Grow.acts rfl ?_
 go_wp2_with (first | go_skip)
 refine r7.mono ?_
 rintro e wc ⟨rfl, kc⟩
 go_wp2_with (first | go_skip)
 refine ⟨kc, ?_⟩
 have bc := bb.trans (kc.mono bb.size)
 have T8 := T7.below kc
 have r8 := q8 _ _ _ _ T8
 rw [hps] at r8
 clear r7 q7 q8 kc bb T7
 refine Grow.acts rfl ?_
 go_wp2_with (first | go_skip)
 refine r8.mono ?_
 rintro e wd ⟨rfl, kd⟩
 go_wp2_with (first | go_skip)
 refine ⟨kd, ?_⟩
 have bd := bc.trans (kd.mono bc.size)
 have tl : (lastL lc node == lastL lc node) = true := by simp
 clear r8 kd bc T8
 repeat (refine Grow.reads rfl rfl ?_; go_big_quiet_step (fail); refine wpQuiet_nil ?_)
 refine Grow.ends ?_
 go_wp2_with (first | go_skip)
 go_ret
 exact ⟨rfl, bd⟩
theorem walk (X : Four) (G : GetDoc) (a0 : Option Addr) (len0 cap0 : Nat) (z0 : List Int) (a1 : Int) (a2 : Cv) (a3 : Int) (w : World) (w0 : RowIn.RowIn .u8 w a0 len0 cap0 z0) (w2 : In w a2) (g2 : Fit a2.c) (hK : ShaE.KIn w) :
   Calls Tryz.prog 3 #[.slice a0 len0 cap0, .int .i64 a1, .agg (cc a2), .int .i64 a3] w fun e w' => e = .returned (.bool true) ∧ RowKit.Below w.heap.size w w' := by
 cases hf : fewK a2.c with
 | false => exact not_few X a0 len0 cap0 a1 a3 a2 w hf hK
 | true =>
   by_cases h : 1500 < len0
   · exact not_short X a0 len0 cap0 a1 a3 a2 w hf h hK
   · obtain ⟨S, hl⟩ := Sl.of_row w0
     exact within X G a0 len0 cap0 _ a1 a3 a2 w S hl w2 g2 hf (by omega) hK
end Go.Proofs.YtgoapaanmcmlmaaGreatDoor.SoT
namespace Go.Proofs.YtgoapaanmcmlmaaGreatDoor.OpsF
set_option maxRecDepth 100000
open Go Go.RowKit Go.Sort Byt OpsM OpsW
theorem run_store_one {w : World} {g j : Nat} {T : TypeId} {v : Value} {c : Array Value} {t : TypeId} (ht : w.heap[g]? = some (.cells c t (0, 0))) (hj : j < c.size) (hi : (Tryz.prog.info? T).map (·.size) = some 1) (hv : v.cells = #[v]) (h1 : v.oneCell' = true) :
   (Instr.storeAt T (.pointer (some ⟨g, j, none⟩)) v).run Tryz.prog w = .ok () (w.setCell ⟨g, j, none⟩ v) := by
 have hth : w.there g j [v].length := fun i hi => by
   have : i = 0 := by simpa using hi
   subst this
   refine ⟨?_, ?_⟩
   · rw [Nat.add_zero, cell_of_row w g j _ t (0, 0) ht, Array.getElem?_eq_getElem hj]
     rfl
   · simp [World.frozen?, ht]
 have := run_storeCells_cells (P := Tryz.prog) g j [v] 0 w (fun i hi => by simpa using (hth i hi).1) (fun i hi => by simpa using (hth i hi).2) (fun u hu => by simp only [List.mem_singleton] at hu; subst hu; exact h1)
 cases hq : Tryz.prog.info? T with
 | none => simp [hq] at hi
 | some i =>
   have hs : i.size = 1 := by simpa [hq] using hi
   simp only [Nat.add_zero] at this
   simp only [Instr.storeAt, Instr.sureAddr, Sem.run_bind, Sem.run_pure, Result.andThen_ok]
   simp [storeVar, sizeOf, typeInfo, hq, hv, hs, this]
   try rfl
theorem wpList_store_field {ops : Array Oper} {rest : List Oper} {o : Oper} {a : Act} {w : World} {Q : Exit → Act → World → Prop} (hgd : o.guard = none) (hd : o.dst = none) (T : TypeId) (x y : Operand) (ho : o.op = .store T x y) (hi : (Tryz.prog.info? T).map (·.size) = some 1)
   (g j : Nat) (hx : a.eval x = .pointer (some ⟨g, j, none⟩)) (hj : j < 4) (old : Opn) (hc : OpAt w g old) (new : Opn) (v : Value) (hy : a.eval y = v) (hv : v.cells = #[v]) (h1 : v.oneCell' = true) (hset : (opc old).setIfInBounds j v = opc new)
   (h : ∀ w', OpAt w' g new → (∀ B, B ≤ g → Below B w w') → w.grownBy w' (some g) → wpList Tryz.prog ops Q rest a w') : wpList Tryz.prog ops Q (o :: rest) a w := by
 obtain ⟨t, ht⟩ := hc
 refine wpList_plain hgd fun K hK => ?_
 have hrun := run_store_one (T := T) ht (by rw [opc_size]; exact hj) hi hv h1
 unfold Oper.wp execOp
 simp only [ho, hx, hy, Sem.run_bind, hrun, Result.andThen_ok, Sem.run_pure]
 refine hK _ _ ?_
 rw [hd]
 refine h _ ⟨t, ?_⟩ (fun B hB => (Below.refl B w).setCell (p := ⟨g, j, none⟩) hB v) ⟨rfl, rfl, rfl, by simp [World.setCell], fun k _ hk => ?_⟩
 · simp only [World.setCell]
   rw [Array.getElem?_modify, if_pos rfl, ht]
   simp [hset]
 · simp only [World.setCell]
   rw [Array.getElem?_modify, if_neg (fun e => hk (by rw [← e]))]
theorem info_int : (Tryz.prog.info? 3).map (·.size) = some 1 := by kernel_rfl
theorem info_str : (Tryz.prog.info? 9).map (·.size) = some 1 := by kernel_rfl
end Go.Proofs.YtgoapaanmcmlmaaGreatDoor.OpsF
namespace Go.Proofs.YtgoapaanmcmlmaaGreatDoor.RefY
set_option maxRecDepth 100000
open Go.RowKit Go.Sort Byt BytR EncM EncC EncE
set_option maxRecDepth 100000 in
set_option maxHeartbeats 8000000 in
theorem cut {A : Option Addr} {len cap : Nat} {bs : List Int} {w : World} (most : Int) (hS : Sl w A cap bs) (hl : bs.length = len) (hlen : len ≤ 1099511627776) (hm : -9223372036854775808 ≤ most ∧ most ≤ 9223372036854775807) :
   Calls Tryz.prog 96 #[.slice A len cap, .int .i64 most] w (CutOut bs most w) := by
 have hg := RefF.get hS hl hlen
 obtain ⟨g1, g2, g3⟩ := getL_le hS.bytes
 have hnone := cut_none bs most w
 have hsome := cut_some bs most w
 obtain ⟨n, hn⟩ : ∃ n, (getL bs).1 = n := ⟨_, rfl⟩
 obtain ⟨k, hk⟩ : ∃ k, (getL bs).2 = k := ⟨_, rfl⟩
 rw [hn, hk] at hg hnone hsome
 rw [hn] at g1
 rw [hk] at g2 g3
 rw [hl] at g3 hnone hsome
 have HL := aside hl
 have HN := aside hnone
 have HS := aside hsome
 have HG := aside g1
 clear hn hk hnone hsome hl g1
 obtain ⟨m1, m2⟩ := hm
 by_cases hk0 : k = 0
 · subst hk0
   go_enter Tryz.func96, Tryz.ntmps96
   go_wp2_with fail
   refine hg.mono ?_
   clear hg
   rintro e w1 ⟨rfl, h1⟩
   go_wp2_with fail
   exact bodyPost_ret (v := .tuple #[.string ⟨#[]⟩, .slice none 0 0, .bool false]) (by simp [results, Tryz.results96, go_sem]) rfl (HN.out _ _ (.inl (by trivial)) h1 rfl)
 · have hkp : 0 < k := by omega
   have t0 : ((k : Int) == 0) = false := by simp; omega
   clear hk0
   by_cases hm0 : most < 0
   · have t1 : decide (most < 0) = true := by simpa using hm0
     go_enter Tryz.func96, Tryz.ntmps96
     go_wp2_with fail
     refine hg.mono ?_
     clear hg
     rintro e w1 ⟨rfl, h1⟩
     go_wp2_with fail
     exact bodyPost_ret (v := .tuple #[.string ⟨#[]⟩, .slice none 0 0, .bool false]) (by simp [results, Tryz.results96, go_sem]) rfl (HN.out _ _ (.inr (.inl hm0)) h1 rfl)
   · have t1 : decide (most < 0) = false := by simpa using hm0
     have hm1 : 0 ≤ most := by omega
     clear hm0
     go_enter Tryz.func96, Tryz.ntmps96
     go_wp2_with fail
     refine hg.mono ?_
     clear hg
     rintro e w1 ⟨rfl, h1⟩
     by_cases hmn : most < (n : Int)
     · have t2 : decide (most < (n : Int)) = true := by simpa using hmn
       go_wp2_with fail
       exact bodyPost_ret (v := .tuple #[.string ⟨#[]⟩, .slice none 0 0, .bool false]) (by simp [results, Tryz.results96, go_sem]) rfl (HN.out _ _ (.inr (.inr (.inl hmn))) h1 rfl)
     · have t2 : decide (most < (n : Int)) = false := by simpa using hmn
       have hnm : (n : Int) ≤ most := by omega
       clear hmn
       by_cases hLn : (len : Int) - (k : Int) < (n : Int)
       · have t3 : decide ((len : Int) - (k : Int) < (n : Int)) = true := by simpa using hLn
         go_wp2_with fail
         exact bodyPost_ret (v := .tuple #[.string ⟨#[]⟩, .slice none 0 0, .bool false]) (by simp [results, Tryz.results96, go_sem]) rfl (HN.out _ _ (.inr (.inr (.inr (by omega)))) h1 rfl)
       · have t3 : decide ((len : Int) - (k : Int) < (n : Int)) = false := by simpa using hLn
         have hnL : (k : Int) + n ≤ len := by omega
         clear hLn
         go_wp2_with fail
         clear t0 t1 t2 t3
         have hSW : Sl w1.drew A cap bs := (hS.below h1).drew
         have hBW : Below w.heap.size w w1.drew := below_drew1 h1
         have hlW := hBW.size
         obtain ⟨A3, c3, hs3, hS3, hl3⟩ := hSW.part k (k + n) (by omega) (by have := HL.out; omega)
         obtain ⟨A4, c4, hs4, hS4, hl4⟩ := hSW.part (k + n) len (by omega) (by have := HL.out; omega)
         have hr3 := fun W => run_part_lh W A len cap .i64 .i64 k (k + n) (by omega) (by have := hS.1; have := HL.out; omega)
         have hr4 := fun W => run_part_l W A len cap .i64 (k + n) (by omega)
         have e1 : ((k + n : Nat) : Int) = (k : Int) + n := by omega
         rw [hs3, Nat.add_sub_cancel_left, e1] at hr3
         rw [hs4, e1] at hr4
         rw [Nat.add_sub_cancel_left] at hS3 hl3
         have hcv := hS3.conv hl3
         have hd4 : (bs.drop (k + n)).take (len - (k + n)) = (bs.drop k).drop n := by rw [List.take_of_length_le (by rw [List.length_drop, HL.out]; omega), List.drop_drop]
         rw [hd4] at hS4 hl4
         obtain ⟨M, hM⟩ : ∃ M, len - (k + n) = M := ⟨_, rfl⟩
         rw [hM] at hr4 hl4
         have HL4 := aside hl4
         have HL3 := aside hl3
         have h63 : 0 + M ≤ 1099511627900 := by omega
         clear hs3 hs4 hd4 hl3 hl4 e1 hM h1
         refine Grow.region [(0, true), (1, true), (2, true), (3, true), (4, true), (5, true), (6, true), (7, true), (8, false), (9, true), (10, true), (11, true)] (by kernel_rfl) (by kernel_rfl) rfl (by kernel_rfl) (by intro c a d v w h; cases d <;> exact h) ?_
         have q3 := fun d os => (hS3.below (below_regrown _ d os)).conv HL3.out
         obtain ⟨W1, hW1⟩ : ∃ W, w1.drew = W := ⟨_, rfl⟩
         rw [hW1] at hS4 hBW hlW q3 ⊢
         clear hW1 hcv hSW hS3
         repeat (refine Grow.reads rfl rfl ?_; go_big_quiet_step (fail); refine wpQuiet_nil ?_)
         clear q3 hr3 hr4
         refine Grow.acts rfl ?_
         go_wp2_with (refine wpList_append_sl rfl (.const (.slice none 0 0)) (.tmp 47) 22 rfl w.heap.size 5 Tryz.underlying22 zero_u8 (.slice none 0 0) 0 [] rfl (World.ownsRow_nil _ _ _ _) A4 M c4 ((bs.drop k).drop n) rfl HL4.out hS4 h63 hlW ?_; intro v5 w5 hown5 hg5; have hb5 : Below w.heap.size w w5 := below_grown hBW hlW hg5 (fun k hk => by cases hk); have hb6 := below_grown (Below.refl _ W1) (Nat.le_refl _) hg5 (fun k hk => by cases hk); have HO5 := aside hown5; clear hown5 hg5)
         simp only [Act.put, List.setIfInBounds_toArray, List.set_cons_succ, List.set_cons_zero]
         refine ⟨hb6, ?_⟩
         clear hb6
         repeat (refine Grow.reads rfl rfl ?_; go_big_quiet_step (fail); refine wpQuiet_nil ?_)
         refine Grow.ends ?_
         all_goals go_wp2_with fail
         all_goals
           refine bodyPost_ret (v := .tuple #[.string (strOf ((bs.drop k).take n)), v5, .bool true]) (by simp [results, Tryz.results96, go_sem]) rfl (HS.out _ _ v5 (by omega) hb5 rfl ?_)
           have h := HO5.out
           rw [Nat.zero_add, ← HL4.out, List.nil_append] at h
           exact h
end Go.Proofs.YtgoapaanmcmlmaaGreatDoor.RefY
