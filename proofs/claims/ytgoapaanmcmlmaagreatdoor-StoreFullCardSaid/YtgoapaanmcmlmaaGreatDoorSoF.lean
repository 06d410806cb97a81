/- StoreFull's walk: a commit is put just where there is room; a disk that is opened has the same commits, and is opened so again. No condition. -/
import Derived.Test.YtgoapaanmcmlmaaGreatDoorIdXJ10
namespace Go.Proofs.YtgoapaanmcmlmaaGreatDoor.SoF
set_option maxRecDepth 100000
open Go Go.Sort Go.RowKit Byt IdM IdW OpsM OpsW CmM StW CmW CmX CmY CmA DgM DgW DgR DgJ StoG StoM StoW StoF StoA LogM LogD LogE LogW EncM
open Classical
theorem putO_B {b : List Int} {c : Com} {room : Int} (hb : ∀ y ∈ b, Byt.B y) : ∀ y ∈ (putO b c room).1, Byt.B y := by
 unfold putO
 split
 · exact writeO_B hb (putK_B c)
 · simp
theorem two_puts {b : List Int} {c : Com} {room : Int} (hb : b.length ≤ 1500) : ∃ (x y : List Int) (e f : Int), putO b c room = (x, e) ∧ putO b c 1048576 = (y, f) ∧ y.length ≤ 10000 ∧
   ((e = 1 ∧ f = 1 ∧ x = [] ∧ y = []) ∨ (e = 4 ∧ f = 0 ∧ x = [] ∧ room < (y.length : Int)) ∨ (e = 0 ∧ f = 0 ∧ x = y ∧ (y.length : Int) ≤ room ∧ 0 < y.length)) := by
 cases hm : mayK c with
 | false =>
   have h : ∀ r, putO b c r = ([], 1) := fun r => by unfold putO; rw [if_neg (by rw [hm]; simp)]
   exact ⟨[], [], 1, 1, h _, h _, by simp, .inl ⟨rfl, rfl, rfl, rfl⟩⟩
 | true =>
   have h1 := putK_len hm
   have h2 := frameL_len (putK c)
   have h3 := numL_ten (n := (putK c).length) (by omega)
   have h4 : putO b c 1048576 = (b ++ frameL (putK c), 0) := by
     unfold putO writeO
     rw [if_pos hm, if_neg (by omega), if_neg (by omega)]
   by_cases hr : room < (b.length : Int) + (frameL (putK c)).length
   · refine ⟨[], b ++ frameL (putK c), 4, 0, ?_, h4, by rw [List.length_append]; omega, .inr (.inl ⟨rfl, rfl, rfl, by rw [List.length_append]; omega⟩)⟩
     unfold putO writeO
     rw [if_pos hm, if_neg (by omega), if_pos hr]
   · refine ⟨b ++ frameL (putK c), b ++ frameL (putK c), 0, 0, ?_, h4, by rw [List.length_append]; omega, .inr (.inr ⟨rfl, rfl, rfl, by rw [List.length_append]; omega, by rw [List.length_append]; omega⟩)⟩
     unfold putO writeO
     rw [if_pos hm, if_neg (by omega), if_neg hr]
set_option maxRecDepth 100000 in
set_option maxHeartbeats 16000000 in
theorem not_few (X : Four) (A : Option Addr) (len cap : Nat) (room : Int) (v : Cv) (w : World) (hf : fewK v.c = false) (hK : ShaE.KIn w) :
   Calls Tryz.prog 6 #[.slice A len cap, .int .i64 room, .agg (cc v)] w fun e w' => e = .returned (.bool true) ∧ RowKit.Below w.heap.size w w' := by
 have kb : RowKit.Below w.heap.size w (w.alloc (.cells (cc v) 29)) := (Below.refl _ _).alloc (Nat.le_refl _) _
 have B0 : Cel.Box CE (w.alloc (.cells (cc v) 29)) w.heap.size v := Cel.Box.new (E := CE) w v _
 have qa := awake X _ (hK.below kb)
 have qf := fun W => few_ret v W
 rw [hf] at qf
 have hks := kb.size
 go_enter Tryz.func6, Tryz.ntmps6
 go_wp2_with (first | go_skip)
 refine qa.mono ?_
 rintro e w1 ⟨rfl, k1⟩
 have B1 := B0.below k1
 have b1 := kb.trans (k1.mono hks)
 clear qa B0 kb k1
 go_wp2_with (first | go_skip | (refine Cel.wpList_load_box CE rfl _ rfl _ rfl _ B1 ?_))
 refine (qf _).mono ?_
 rintro e w2 ⟨rfl, k2⟩
 clear qf
 go_wp2_with (first | go_skip)
 go_ret
 exact ⟨rfl, b1.trans (k2.mono b1.size)⟩
set_option maxRecDepth 100000 in
set_option maxHeartbeats 16000000 in
theorem not_short (X : Four) (A : Option Addr) (len cap : Nat) (room : Int) (v : Cv) (w : World) (hf : fewK v.c = true) (hl : 1500 < len) (hK : ShaE.KIn w) :
   Calls Tryz.prog 6 #[.slice A len cap, .int .i64 room, .agg (cc v)] w fun e w' => e = .returned (.bool true) ∧ RowKit.Below w.heap.size w w' := by
 have kb : RowKit.Below w.heap.size w (w.alloc (.cells (cc v) 29)) := (Below.refl _ _).alloc (Nat.le_refl _) _
 have B0 : Cel.Box CE (w.alloc (.cells (cc v) 29)) w.heap.size v := Cel.Box.new (E := CE) w v _
 have qa := awake X _ (hK.below kb)
 have qf := fun W => few_ret v W
 rw [hf] at qf
 have hks := kb.size
 have p0 : (1500 : Int) < (len : Int) := by omega
 go_enter Tryz.func6, Tryz.ntmps6
 go_wp2_with (first | go_skip)
 refine qa.mono ?_
 rintro e w1 ⟨rfl, k1⟩
 have B1 := B0.below k1
 have b1 := kb.trans (k1.mono hks)
 clear qa B0 kb k1
 go_wp2_with (first | go_skip | (refine Cel.wpList_load_box CE rfl _ rfl _ rfl _ B1 ?_))
 refine (qf _).mono ?_
 rintro e w2 ⟨rfl, k2⟩
 clear qf
 go_wp2_with (first | go_skip)
 go_ret
 exact ⟨rfl, b1.trans (k2.mono b1.size)⟩
set_option maxRecDepth 100000 in
set_option maxHeartbeats 32000000 in
theorem within (Y : Dag1) (X : Four) (A : Option Addr) (len cap : Nat) (b : List Int) (room : Int) (v : Cv) (w : World) (S : Sl w A cap b) (hl : b.length = len) (I : In w v) (F : Fit v.c) (hf : fewK v.c = true) (h : len ≤ 1500) (hK : ShaE.KIn w) :
   Calls Tryz.prog 6 #[.slice A len cap, .int .i64 room, .agg (cc v)] w fun e w' => e = .returned (.bool true) ∧ RowKit.Below w.heap.size w w' := by
 have kb : RowKit.Below w.heap.size w (w.alloc (.cells (cc v) 29)) := (Below.refl _ _).alloc (Nat.le_refl _) _
 have B0 : Cel.Box CE (w.alloc (.cells (cc v) 29)) w.heap.size v := Cel.Box.new (E := CE) w v _
 have qa := awake X _ (hK.below kb)
 have qf := fun W => few_ret v W
 rw [hf] at qf
 have hks := kb.size
 have p0 : ¬ (1500 : Int) < (len : Int) := by omega
 have q1 := fun W (S : Sl W A cap b) (I : In W v) (K : ShaE.KIn W) => X.put A cap len b room v W S hl (by omega) I F K
 have q2 := fun W (S : Sl W A cap b) (I : In W v) (K : ShaE.KIn W) => X.put A cap len b 1048576 v W S hl (by omega) I F K
 have q3 := fun W (S : Sl W A cap b) (K : ShaE.KIn W) => X.load A cap len b W S hl (by omega) K
 have q4 := fun W (S : Sl W A cap b) (K : ShaE.KIn W) => X.opn A cap len b W S hl (by omega) K
 have hO1 := putO_B (b := b) (c := v.c) (room := room) S.bytes
 have hO2 := putO_B (b := b) (c := v.c) (room := 1048576) S.bytes
 obtain ⟨x, y, e0, f0, e1, e2, hy1, hcs⟩ := two_puts (b := b) (c := v.c) (room := room) (by omega)
 rw [e1] at hO1
 rw [e2] at hO2
 simp only [e1] at q1
 simp only [e2] at q2
 have hcl := loadD_closed (H := hashK) S.bytes
 have hfew := loadD_few (H := hashK) S.bytes
 obtain ⟨_, _, _, _, _, hlo, _, _, hagain⟩ := openD_is (H := hashK) S.bytes
 have htw := openD_twice (H := hashK) S.bytes
 have hol := openD_len (H := hashK) S.bytes
 have hMB : ∀ y ∈ openD hashK b, Byt.B y := fun y hy => S.bytes y (List.mem_of_mem_take hy)
 obtain ⟨lo, hlo2⟩ : ∃ lo, loadD hashK b = lo := ⟨_, rfl⟩
 obtain ⟨M, hM⟩ : ∃ M, openD hashK b = M := ⟨_, rfl⟩
 rw [hM] at htw hol hMB hagain
 rw [hlo2] at hcl hfew hlo hagain hol
 simp only [hlo2] at q3
 simp only [hM] at q4
 obtain ⟨lc, n⟩ := lo
 simp only [] at hcl hfew hlo hol
 have q5 := fun W A' cap' (S : Sl W A' cap' M) (K : ShaE.KIn W) => X.load A' cap' n M W S hol (by omega) K
 rw [hagain] at q5
 have q6 := fun W A' cap' (S : Sl W A' cap' M) (K : ShaE.KIn W) => X.opn A' cap' n M W S hol (by omega) K
 rw [htw] at q6
 have tM : ((strOf M).toList == (strOf M).toList) = true := by simp
 have tn : ((n : Int) == (n : Int)) = true := by simp
 have hyy : ((strOf y).toList == (strOf y).toList) = true := by simp
 have HCL := aside hcl
 have HFEW := aside (show 5 * lc.length ≤ 1500 by omega)
 have HOL := aside hol
 clear hcl hfew hlo hagain htw hol hM hlo2 hf F X hl e1 e2
 go_enter Tryz.func6, Tryz.ntmps6
 go_wp2_with (first | go_skip)
 refine qa.mono ?_
 rintro e w1 ⟨rfl, k1⟩
 have B1 := B0.below k1
 have b1 := kb.trans (k1.mono hks)
 clear qa B0 kb k1 hks
 go_wp2_with (first | go_skip | (refine Cel.wpList_load_box CE rfl _ rfl _ rfl _ B1 ?_))
 refine (qf _).mono ?_
 rintro e w2 ⟨rfl, k2⟩
 have B2 := B1.below k2
 have b2 := b1.trans (k2.mono b1.size)
 clear qf B1 b1 k2
 go_wp2_with (first | go_skip | (refine Cel.wpList_load_box CE rfl _ rfl _ rfl _ B2 ?_))
 refine (q1 _ (S.below b2) (I.below b2) (hK.below b2)).mono ?_
 rintro e w3 ⟨v3, rfl, own3, k3⟩
 simp only [] at own3
 obtain ⟨A3, c3, rfl, S3⟩ := Sl.own own3 hO1
 have B3 := B2.below k3
 have b3 := b2.trans (k3.mono b2.size)
 clear q1 own3 k3 b2 B2
 go_wp2_with (first | go_skip | (refine Cel.wpList_load_box CE rfl _ rfl _ rfl _ B3 ?_))
 refine (q2 _ (S.below b3) (I.below b3) (hK.below b3)).mono ?_
 rintro e w4 ⟨v4, rfl, own4, k4⟩
 simp only [] at own4
 obtain ⟨A4, c4, rfl, S4⟩ := Sl.own own4 hO2
 have b4 := b3.trans (k4.mono b3.size)
 have S3' := S3.below k4
 clear q2 own4 k4 b3 B3 S3 hO1 hO2
 have cv4 := S4.conv rfl
 rcases hcs with ⟨h1, h2, h3, h4⟩ | ⟨h1, h2, h3, h4⟩ | ⟨h1, h2, h3, h4, h5⟩
 · subst h1 h2 h3 h4
   clear S3' S4 cv4 hyy
   go_wp2_with (first | go_skip)
   refine (q3 _ (S.below b4) (hK.below b4)).mono ?_
   rintro e w5 ⟨A5, c5, ps, rfl, hps, S5, k5⟩
   have b5 := b4.trans (k5.mono b4.size)
   clear q3 k5 b4
   go_wp2_with (first | go_skip)
   refine (q4 _ (S.below b5) (hK.below b5)).mono ?_
   rintro e w6 ⟨A6, c6, rfl, S6, k6, _⟩
   have b6 := b5.trans (k6.mono b5.size)
   have S5' := S5.below k6
   simp only [HOL.out]
   clear q4 k6 b5 S5
   go_wp2_with (first | go_skip)
   refine (q5 _ _ _ S6 (hK.below b6)).mono ?_
   rintro e w7 ⟨A7, c7, qs, rfl, hqs, S7, k7⟩
   have b7 := b6.trans (k7.mono b6.size)
   have T5 := S5'.below k7
   have T6 := S6.below k7
   have qe := list_ret A5 A7 c5 c7 ps qs _ T5 S7
   rw [hps, hqs, listB_iff.2 rfl] at qe
   clear q5 k7 b6 S5' S6 S7 hqs
   go_wp2_with (first | go_skip)
   refine qe.mono ?_
   rintro e w8 ⟨rfl, k8⟩
   have b8 := b7.trans (k8.mono b7.size)
   have S5 := T5.below k8
   have S6 := T6.below k8
   clear qe k8 b7 T5 T6
   go_wp2_with (first | go_skip)
   refine Grow.region [(0, true), (1, true), (2, true), (3, true), (4, true), (5, true), (6, true), (7, true), (8, true), (9, true), (10, true), (11, true), (12, true), (13, true), (14, false), (15, true), (16, true), (17, true), (20, true), (21, true), (18, false), (19, true), (22, true), (23, true), (24, true)] (by kernel_rfl) (by kernel_rfl) rfl (by kernel_rfl) (by intro c a d v w h; cases d <;> exact h) ?_
   change Grow.Seq _ _ _ _ _ w8.drew
   have dr := Byt.below_drew1 (Below.refl w8.heap.size w8)
   have T5 := S5.below dr
   have T6 := S6.below dr
   have b9 := b8.trans (dr.mono b8.size)
   generalize w8.drew = w9 at T5 T6 b9 ⊢
   clear S5 S6 b8 dr
   repeat (refine Grow.reads rfl rfl ?_; go_big_quiet_step (fail); refine wpQuiet_nil ?_)
   have hp1 : ps.length ≤ 1000 := by
     have h1 := congrArg List.length hps
     rw [coms_len] at h1
     have := HFEW.out
     omega
   have qc := Y.closed A5 c5 ps _ T5 hp1 (hK.below b9)
   rw [hps, decide_eq_true HCL.out] at qc
   clear hp1
   refine Grow.acts rfl ?_
   go_wp2_with (first | go_skip)
   refine qc.mono ?_
   rintro e wa ⟨rfl, ka⟩
   go_wp2_with (first | go_skip)
   refine ⟨ka, ?_⟩
   have ba := b9.trans (ka.mono b9.size)
   have U6 := T6.below ka
   have cv6 := fun d os => (U6.below (below_regrown _ d os)).conv HOL.out
   clear qc ka b9 T5 T6
   repeat (refine Grow.reads rfl rfl ?_; go_big_quiet_step (fail); refine wpQuiet_nil ?_)
   clear cv6
   refine Grow.acts rfl ?_
   go_wp2_with (first | go_skip)
   refine (q6 _ _ _ U6 (hK.below ba)).mono ?_
   rintro e wb ⟨Ab, cb, rfl, Sb, kb, _⟩
   simp only [HOL.out]
   go_wp2_with (first | go_skip)
   refine ⟨kb, ?_⟩
   have bb := ba.trans (kb.mono ba.size)
   have cvb := fun d os => (Sb.below (below_regrown _ d os)).conv HOL.out
   clear kb ba U6 q6
   repeat (refine Grow.reads rfl rfl ?_; go_big_quiet_step (fail); refine wpQuiet_nil ?_)
   clear cvb
   refine Grow.ends ?_
   go_wp2_with (first | go_skip)
   go_ret
   exact ⟨rfl, bb⟩
 · subst h1 h2 h3
   have p4 : ¬ (y.length : Int) ≤ room := by omega
   clear S3' S4 cv4 hyy h4
   go_wp2_with (first | go_skip)
   refine (q3 _ (S.below b4) (hK.below b4)).mono ?_
   rintro e w5 ⟨A5, c5, ps, rfl, hps, S5, k5⟩
   have b5 := b4.trans (k5.mono b4.size)
   clear q3 k5 b4
   go_wp2_with (first | go_skip)
   refine (q4 _ (S.below b5) (hK.below b5)).mono ?_
   rintro e w6 ⟨A6, c6, rfl, S6, k6, _⟩
   have b6 := b5.trans (k6.mono b5.size)
   have S5' := S5.below k6
   simp only [HOL.out]
   clear q4 k6 b5 S5
   go_wp2_with (first | go_skip)
   refine (q5 _ _ _ S6 (hK.below b6)).mono ?_
   rintro e w7 ⟨A7, c7, qs, rfl, hqs, S7, k7⟩
   have b7 := b6.trans (k7.mono b6.size)
   have T5 := S5'.below k7
   have T6 := S6.below k7
   have qe := list_ret A5 A7 c5 c7 ps qs _ T5 S7
   rw [hps, hqs, listB_iff.2 rfl] at qe
   clear q5 k7 b6 S5' S6 S7 hqs
   go_wp2_with (first | go_skip)
   refine qe.mono ?_
   rintro e w8 ⟨rfl, k8⟩
   have b8 := b7.trans (k8.mono b7.size)
   have S5 := T5.below k8
   have S6 := T6.below k8
   clear qe k8 b7 T5 T6
   go_wp2_with (first | go_skip)
   refine Grow.region [(0, true), (1, true), (2, true), (3, true), (4, true), (5, true), (6, true), (7, true), (8, true), (9, true), (10, true), (11, true), (12, true), (13, true), (14, false), (15, true), (16, true), (17, true), (20, true), (21, true), (18, false), (19, true), (22, true), (23, true), (24, true)] (by kernel_rfl) (by kernel_rfl) rfl (by kernel_rfl) (by intro c a d v w h; cases d <;> exact h) ?_
   change Grow.Seq _ _ _ _ _ w8.drew
   have dr := Byt.below_drew1 (Below.refl w8.heap.size w8)
   have T5 := S5.below dr
   have T6 := S6.below dr
   have b9 := b8.trans (dr.mono b8.size)
   generalize w8.drew = w9 at T5 T6 b9 ⊢
   clear S5 S6 b8 dr
   repeat (refine Grow.reads rfl rfl ?_; go_big_quiet_step (fail); refine wpQuiet_nil ?_)
   have hp1 : ps.length ≤ 1000 := by
     have h1 := congrArg List.length hps
     rw [coms_len] at h1
     have := HFEW.out
     omega
   have qc := Y.closed A5 c5 ps _ T5 hp1 (hK.below b9)
   rw [hps, decide_eq_true HCL.out] at qc
   clear hp1
   refine Grow.acts rfl ?_
   go_wp2_with (first | go_skip)
   refine qc.mono ?_
   rintro e wa ⟨rfl, ka⟩
   go_wp2_with (first | go_skip)
   refine ⟨ka, ?_⟩
   have ba := b9.trans (ka.mono b9.size)
   have U6 := T6.below ka
   have cv6 := fun d os => (U6.below (below_regrown _ d os)).conv HOL.out
   clear qc ka b9 T5 T6
   repeat (refine Grow.reads rfl rfl ?_; go_big_quiet_step (fail); refine wpQuiet_nil ?_)
   clear cv6
   refine Grow.acts rfl ?_
   go_wp2_with (first | go_skip)
   refine (q6 _ _ _ U6 (hK.below ba)).mono ?_
   rintro e wb ⟨Ab, cb, rfl, Sb, kb, _⟩
   simp only [HOL.out]
   go_wp2_with (first | go_skip)
   refine ⟨kb, ?_⟩
   have bb := ba.trans (kb.mono ba.size)
   have cvb := fun d os => (Sb.below (below_regrown _ d os)).conv HOL.out
   clear kb ba U6 q6
   repeat (refine Grow.reads rfl rfl ?_; go_big_quiet_step (fail); refine wpQuiet_nil ?_)
   clear cvb
   refine Grow.ends ?_
   go_wp2_with (first | go_skip)
   go_ret
   exact ⟨rfl, bb⟩
 · subst h1 h2 h3
   have cv3 := S3'.conv rfl
   have p4 : (x.length : Int) ≤ room := h4
   have p5 : (0 : Int) < (x.length : Int) := by omega
   have p6 : ¬ room < (x.length : Int) := by omega
   clear h4 h5
   go_wp2_with (first | go_skip)
   refine (q3 _ (S.below b4) (hK.below b4)).mono ?_
   rintro e w5 ⟨A5, c5, ps, rfl, hps, S5, k5⟩
   have b5 := b4.trans (k5.mono b4.size)
   clear q3 k5 b4 cv3 cv4 S3' S4 p4 p5 p6 hyy
   go_wp2_with (first | go_skip)
   refine (q4 _ (S.below b5) (hK.below b5)).mono ?_
   rintro e w6 ⟨A6, c6, rfl, S6, k6, _⟩
   have b6 := b5.trans (k6.mono b5.size)
   have S5' := S5.below k6
   simp only [HOL.out]
   clear q4 k6 b5 S5
   go_wp2_with (first | go_skip)
   refine (q5 _ _ _ S6 (hK.below b6)).mono ?_
   rintro e w7 ⟨A7, c7, qs, rfl, hqs, S7, k7⟩
   have b7 := b6.trans (k7.mono b6.size)
   have T5 := S5'.below k7
   have T6 := S6.below k7
   have qe := list_ret A5 A7 c5 c7 ps qs _ T5 S7
   rw [hps, hqs, listB_iff.2 rfl] at qe
   clear q5 k7 b6 S5' S6 S7 hqs
   go_wp2_with (first | go_skip)
   refine qe.mono ?_
   rintro e w8 ⟨rfl, k8⟩
   have b8 := b7.trans (k8.mono b7.size)
   have S5 := T5.below k8
   have S6 := T6.below k8
   clear qe k8 b7 T5 T6
   go_wp2_with (first | go_skip)
   refine Grow.region [(0, true), (1, true), (2, true), (3, true), (4, true), (5, true), (6, true), (7, true), (8, true), (9, true), (10, true), (11, true), (12, true), (13, true), (14, false), (15, true), (16, true), (17, true), (20, true), (21, true), (18, false), (19, true), (22, true), (23, true), (24, true)] (by kernel_rfl) (by kernel_rfl) rfl (by kernel_rfl) (by intro c a d v w h; cases d <;> exact h) ?_
   change Grow.Seq _ _ _ _ _ w8.drew
   have dr := Byt.below_drew1 (Below.refl w8.heap.size w8)
   have T5 := S5.below dr
   have T6 := S6.below dr
   have b9 := b8.trans (dr.mono b8.size)
   generalize w8.drew = w9 at T5 T6 b9 ⊢
   clear S5 S6 b8 dr
   repeat (refine Grow.reads rfl rfl ?_; go_big_quiet_step (fail); refine wpQuiet_nil ?_)
   have hp1 : ps.length ≤ 1000 := by
     have h1 := congrArg List.length hps
     rw [coms_len] at h1
     have := HFEW.out
     omega
   have qc := Y.closed A5 c5 ps _ T5 hp1 (hK.below b9)
   rw [hps, decide_eq_true HCL.out] at qc
   clear hp1
   refine Grow.acts rfl ?_
   go_wp2_with (first | go_skip)
   refine qc.mono ?_
   rintro e wa ⟨rfl, ka⟩
   go_wp2_with (first | go_skip)
   refine ⟨ka, ?_⟩
   have ba := b9.trans (ka.mono b9.size)
   have U6 := T6.below ka
   have cv6 := fun d os => (U6.below (below_regrown _ d os)).conv HOL.out
   clear qc ka b9 T5 T6
   repeat (refine Grow.reads rfl rfl ?_; go_big_quiet_step (fail); refine wpQuiet_nil ?_)
   clear cv6
   refine Grow.acts rfl ?_
   go_wp2_with (first | go_skip)
   refine (q6 _ _ _ U6 (hK.below ba)).mono ?_
   rintro e wb ⟨Ab, cb, rfl, Sb, kb, _⟩
   simp only [HOL.out]
   go_wp2_with (first | go_skip)
   refine ⟨kb, ?_⟩
   have bb := ba.trans (kb.mono ba.size)
   have cvb := fun d os => (Sb.below (below_regrown _ d os)).conv HOL.out
   clear kb ba U6 q6
   repeat (refine Grow.reads rfl rfl ?_; go_big_quiet_step (fail); refine wpQuiet_nil ?_)
   clear cvb
   refine Grow.ends ?_
   go_wp2_with (first | go_skip)
   go_ret
   exact ⟨rfl, bb⟩
theorem walk (Y : Dag1) (X : Four) (a0 : Option Addr) (len0 cap0 : Nat) (z0 : List Int) (a1 : Int) (a2 : Cv) (w : World) (w0 : RowIn.RowIn .u8 w a0 len0 cap0 z0) (w2 : In w a2) (g2 : Fit a2.c) (hK : ShaE.KIn w) :
   Calls Tryz.prog 6 #[.slice a0 len0 cap0, .int .i64 a1, .agg (cc a2)] w fun e w' => e = .returned (.bool true) ∧ RowKit.Below w.heap.size w w' := by
 cases hf : fewK a2.c with
 | false => exact not_few X a0 len0 cap0 a1 a2 w hf hK
 | true =>
   by_cases h : 1500 < len0
   · exact not_short X a0 len0 cap0 a1 a2 w hf h hK
   · obtain ⟨S, hl⟩ := Sl.of_row w0
     exact within Y X a0 len0 cap0 _ a1 a2 w S hl w2 g2 hf (by omega) hK
end Go.Proofs.YtgoapaanmcmlmaaGreatDoor.SoF
