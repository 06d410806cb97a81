/- What the document's Merge of package state returns: a contract. -/
import Derived.Test.YtnjdkjkihbgkaaaGreatStRJ2
import Derived.Test.YtnjdkjkihbgkaaaGreatStGJ2
import Derived.Test.YtnjdkjkihbgkaaaGreatCtrQJ4
import Derived.Test.YtnjdkjkihbgkaaaGreatRegUJ3
import Derived.Test.YtnjdkjkihbgkaaaGreatPairUJ4
namespace Go.Proofs.YtnjdkjkihbgkaaaGreat.StJ
set_option maxRecDepth 100000
open Go Go.RowKit Byt OpsM Rise RowS StM StW StR

/-- Three states boxed, and a result's cell. -/
def W4 (w : World) (u v z : Sv) : World := (((w.alloc (.cells (sc u) 26)).alloc (.cells (sc v) 26)).alloc (.cells (sc z) 26)).alloc (.cells (sc noV) 26)
theorem W4_below (w : World) (u v z : Sv) : Below w.heap.size w (W4 w u v z) := ((((Below.refl _ _).alloc (Nat.le_refl _) _).alloc (by simp) _).alloc (by simp; omega) _).alloc (by simp; omega) _
theorem W4_size (w : World) (u v z : Sv) : (W4 w u v z).heap.size = w.heap.size + 4 := by simp [W4]
theorem W4_boxes (w : World) (u v z : Sv) : Cel.Box SE (W4 w u v z) w.heap.size u ∧ Cel.Box SE (W4 w u v z) (w.heap.size + 1) v ∧ Cel.Box SE (W4 w u v z) (w.heap.size + 2) z ∧ Cel.Box SE (W4 w u v z) (w.heap.size + 3) noV := by
  have z1 : (w.alloc (.cells (sc u) 26)).heap.size = w.heap.size + 1 := by simp
  have z2 : ((w.alloc (.cells (sc u) 26)).alloc (.cells (sc v) 26)).heap.size = w.heap.size + 2 := by simp
  have z3 : (((w.alloc (.cells (sc u) 26)).alloc (.cells (sc v) 26)).alloc (.cells (sc z) 26)).heap.size = w.heap.size + 3 := by simp
  refine ⟨(((Cel.Box.new (E := SE) w u 26).alloc _).alloc _).alloc _, ?_, ?_, ?_⟩
  · rw [← z1]
    exact ((Cel.Box.new (E := SE) _ v 26).alloc _).alloc _
  · rw [← z2]
    exact (Cel.Box.new (E := SE) _ z 26).alloc _
  · rw [← z3]
    exact Cel.Box.new (E := SE) _ noV 26
set_option maxRecDepth 100000 in
set_option maxHeartbeats 8000000 in
theorem merge_ret (u v z : Sv) (w : World) (S : In w u) (T : In w v) (Z : In w z) (fu : Fits u.s) (fv : Fits v.s) (fz : Fits z.s) (lu : Len 100000 u.s) (lv : Len 100000 v.s) (lz : Len 100000 z.s) :
    Calls Tryz.prog 16 #[.agg (sc u), .agg (sc v), .agg (sc z)] w (StW.New (mergeS u.s v.s z.s) w) := by
  have kb := W4_below w u v z
  have hz := W4_size w u v z
  obtain ⟨R0, Q0, P0, X0⟩ := W4_boxes w u v z
  have S0 := S.below kb
  have T0 := T.below kb
  have Z0 := Z.below kb
  have q0 := fun W S => may_ret u W S fu
  have q1 := fun W S => may_ret v W S fv
  have q2 := fun W S => may_ret z W S fz
  have m0 := fun W S T Z => CtrQ.merge_ret u.a0 u.k0 u.s.c v.a0 v.k0 v.s.c z.a0 z.k0 z.s.c W S T Z fu.c fv.c fz.c lu.c lv.c lz.c
  have m1 := fun W T Z => RegU.merge_ret v.a1 v.k1 v.s.r z.a1 z.k1 z.s.r W T Z fv.r fz.r lv.r lz.r
  have m2 := fun W S T Z => PairU.merge_ret u.a2 u.k2 u.s.p v.a2 v.k2 v.s.p z.a2 z.k2 z.s.p W S T Z fu.p fv.p fz.p lv.p lz.p
  obtain ⟨x, hx⟩ : ∃ x, mayS u.s = x := ⟨_, rfl⟩
  obtain ⟨y, hy⟩ : ∃ y, mayS v.s = y := ⟨_, rfl⟩
  obtain ⟨t, ht⟩ : ∃ t, mayS z.s = t := ⟨_, rfl⟩
  have HR : Hid (mergeS u.s v.s z.s = if (x && (y && t)) = true then some (joinS u.s v.s z.s) else none) := aside (by unfold mergeS okM; rw [hx, hy, ht])
  rw [hx] at q0
  rw [hy] at q1
  rw [ht] at q2
  clear S T Z fu fv fz lu lv lz hx hy ht
  go_enter Tryz.func16, Tryz.ntmps16
  go_wp2_with (first | (refine Cel.wpList_load_box SE rfl _ rfl _ rfl u R0 ?_))
  refine (q0 _ S0).mono ?_
  rintro e w1 ⟨rfl, k1⟩
  have R1 := R0.below k1
  have Q1 := Q0.below k1
  have P1 := P0.below k1
  have X1 := X0.below k1
  have S1 := S0.below k1
  have T1 := T0.below k1
  have Z1 := Z0.below k1
  have b1 := kb.trans (k1.mono kb.size)
  have h1 : w.heap.size + 4 ≤ w1.heap.size := by rw [← hz]; exact k1.size
  clear q0 R0 Q0 P0 X0 S0 T0 Z0 k1 kb hz
  go_wp2_with (first | (refine Cel.wpList_load_box SE rfl _ rfl _ rfl v Q1 ?_))
  refine (q1 _ T1).mono ?_
  rintro e w2 ⟨rfl, k2⟩
  have R2 := R1.below k2
  have Q2 := Q1.below k2
  have P2 := P1.below k2
  have X2 := X1.below k2
  have S2 := S1.below k2
  have T2 := T1.below k2
  have Z2 := Z1.below k2
  have b2 := b1.trans (k2.mono b1.size)
  have h2 := Nat.le_trans h1 k2.size
  clear q1 R1 Q1 P1 X1 S1 T1 Z1 k2 b1 h1
  go_wp2_with (first | (refine Cel.wpList_load_box SE rfl _ rfl _ rfl z P2 ?_))
  refine (q2 _ Z2).mono ?_
  rintro e w3 ⟨rfl, k3⟩
  have R3 := R2.below k3
  have Q3 := Q2.below k3
  have P3 := P2.below k3
  have X3 := X2.below k3
  have S3 := S2.below k3
  have T3 := T2.below k3
  have Z3 := Z2.below k3
  have b3 := b2.trans (k3.mono b2.size)
  have h3 := Nat.le_trans h2 k3.size
  clear q2 R2 Q2 P2 X2 S2 T2 Z2 k3 b2 h2
  have hw : (x = false ∨ (x = true ∧ y = false) ∨ (x = true ∧ y = true ∧ t = false)) ∨ (x = true ∧ y = true ∧ t = true) := by cases x <;> cases y <;> cases t <;> simp
  rcases hw with (rfl | ⟨rfl, rfl⟩ | ⟨rfl, rfl, rfl⟩) | ⟨rfl, rfl, rfl⟩
  · clear m0 m1 m2 S3 T3 Z3
    go_wp2_with (first
      | go_skip
      | (refine Cel.wpList_store_box SE rfl _ _ rfl (w.heap.size + 3) rfl noV X3 noV rfl ?_; intro w4 X4 b4 g4 s4))
    have k4 := b3.trans (b4 _ (by omega))
    obtain ⟨r0, r1, r2⟩ := box_cells X4
    refine bodyPost_ret (v := .tuple #[.agg (sc noV), .int .i64 1]) (by simp [results, Tryz.results16, go_sem, r0, r1, r2, sc]) rfl ⟨noV, ?_, ?_, In.none _, k4⟩
    · rw [HR.out]; rfl
    · rw [HR.out]; rfl
  · clear m0 m1 m2 S3 T3 Z3
    go_wp2_with (first
      | go_skip
      | (refine Cel.wpList_store_box SE rfl _ _ rfl (w.heap.size + 3) rfl noV X3 noV rfl ?_; intro w4 X4 b4 g4 s4))
    have k4 := b3.trans (b4 _ (by omega))
    obtain ⟨r0, r1, r2⟩ := box_cells X4
    refine bodyPost_ret (v := .tuple #[.agg (sc noV), .int .i64 1]) (by simp [results, Tryz.results16, go_sem, r0, r1, r2, sc]) rfl ⟨noV, ?_, ?_, In.none _, k4⟩
    · rw [HR.out]; rfl
    · rw [HR.out]; rfl
  · clear m0 m1 m2 S3 T3 Z3
    go_wp2_with (first
      | go_skip
      | (refine Cel.wpList_store_box SE rfl _ _ rfl (w.heap.size + 3) rfl noV X3 noV rfl ?_; intro w4 X4 b4 g4 s4))
    have k4 := b3.trans (b4 _ (by omega))
    obtain ⟨r0, r1, r2⟩ := box_cells X4
    refine bodyPost_ret (v := .tuple #[.agg (sc noV), .int .i64 1]) (by simp [results, Tryz.results16, go_sem, r0, r1, r2, sc]) rfl ⟨noV, ?_, ?_, In.none _, k4⟩
    · rw [HR.out]; rfl
    · rw [HR.out]; rfl
  · go_wp2_with (first | go_skip)
    refine GrowB.region (w.heap.size + 3) [(0, true), (1, true), (2, true), (3, true), (4, true), (5, true), (7, true), (8, true), (9, true), (10, true), (12, true), (13, true), (14, true), (15, true), (16, true), (17, true), (6, false), (11, false), (18, false), (19, true), (20, false), (21, true)] (by kernel_rfl) (by kernel_rfl) rfl (by kernel_rfl) (by intro c a d v w h; cases d <;> exact h) ?_
    have dr := below_drew1 (Below.refl w3.heap.size w3)
    have R4 := R3.below dr
    have Q4 := Q3.below dr
    have P4 := P3.below dr
    have X4 := X3.below dr
    have S4 := S3.below dr
    have T4 := T3.below dr
    have Z4 := Z3.below dr
    have b4 := b3.trans (dr.mono b3.size)
    have h4 : w.heap.size + 4 ≤ w3.drew.heap.size := h3
    generalize w3.drew = wd at R4 Q4 P4 X4 S4 T4 Z4 b4 h4 ⊢
    clear R3 Q3 P3 X3 S3 T3 Z3 b3 h3 dr
    have c0 : ∀ p : GrowB.UpTo (w.heap.size + 3) wd, p.u.cell? ⟨w.heap.size, 0, none⟩ = some (.slice u.a0 u.s.c.length u.k0) := fun p => (box_cells (R4.block p.h (by omega))).1
    have c2 : ∀ p : GrowB.UpTo (w.heap.size + 3) wd, p.u.cell? ⟨w.heap.size, 2, none⟩ = some (.slice u.a2 u.s.p.length u.k2) := fun p => (box_cells (R4.block p.h (by omega))).2.2
    have d0 : ∀ p : GrowB.UpTo (w.heap.size + 3) wd, p.u.cell? ⟨w.heap.size + 1, 0, none⟩ = some (.slice v.a0 v.s.c.length v.k0) := fun p => (box_cells (Q4.block p.h (by omega))).1
    have d1 : ∀ p : GrowB.UpTo (w.heap.size + 3) wd, p.u.cell? ⟨w.heap.size + 1, 1, none⟩ = some (.slice v.a1 v.s.r.length v.k1) := fun p => (box_cells (Q4.block p.h (by omega))).2.1
    have d2 : ∀ p : GrowB.UpTo (w.heap.size + 3) wd, p.u.cell? ⟨w.heap.size + 1, 2, none⟩ = some (.slice v.a2 v.s.p.length v.k2) := fun p => (box_cells (Q4.block p.h (by omega))).2.2
    have e0 : ∀ p : GrowB.UpTo (w.heap.size + 3) wd, p.u.cell? ⟨w.heap.size + 2, 0, none⟩ = some (.slice z.a0 z.s.c.length z.k0) := fun p => (box_cells (P4.block p.h (by omega))).1
    have e1 : ∀ p : GrowB.UpTo (w.heap.size + 3) wd, p.u.cell? ⟨w.heap.size + 2, 1, none⟩ = some (.slice z.a1 z.s.r.length z.k1) := fun p => (box_cells (P4.block p.h (by omega))).2.1
    have e2 : ∀ p : GrowB.UpTo (w.heap.size + 3) wd, p.u.cell? ⟨w.heap.size + 2, 2, none⟩ = some (.slice z.a2 z.s.p.length z.k2) := fun p => (box_cells (P4.block p.h (by omega))).2.2
    repeat (refine GrowB.reads_below rfl rfl ?_; go_big_quiet_step (fail); refine wpQuiet_nil ?_)
    clear c0 c2 d0 d1 d2 e0 e1 e2 R4 Q4 P4
    refine GrowB.acts rfl ?_
    go_wp2_with fail
    refine (m0 _ S4.c T4.c Z4.c).mono ?_
    rintro e w5 ⟨A5, k5, rfl, N5, h5⟩
    have X5 := X4.below h5
    have S5 := S4.below h5
    have T5 := T4.below h5
    have Z5 := Z4.below h5
    have b5 := b4.trans (h5.mono b4.size)
    have g5 := Nat.le_trans h4 h5.size
    go_wp2_with fail
    refine ⟨h5.mono (by omega), ?_⟩
    clear m0 X4 S4 T4 Z4 b4 h5 h4
    refine GrowB.acts rfl ?_
    go_wp2_with fail
    refine (m1 _ T5.r Z5.r).mono ?_
    rintro e w6 ⟨A6, k6, rfl, N6, h6⟩
    have X6 := X5.below h6
    have S6 := S5.below h6
    have T6 := T5.below h6
    have Z6 := Z5.below h6
    have M6 := N5.below h6
    have b6 := b5.trans (h6.mono b5.size)
    have g6 := Nat.le_trans g5 h6.size
    go_wp2_with fail
    refine ⟨h6.mono (by omega), ?_⟩
    clear m1 X5 S5 T5 Z5 N5 b5 h6 g5
    refine GrowB.acts rfl ?_
    go_wp2_with fail
    refine (m2 _ S6.p T6.p Z6.p).mono ?_
    rintro e w7 ⟨A7, k7, rfl, N7, h7⟩
    have X7 := X6.below h7
    have M7 := M6.below h7
    have L7 := N6.below h7
    have b7 := b6.trans (h7.mono b6.size)
    have g7 := Nat.le_trans g6 h7.size
    go_wp2_with fail
    refine ⟨h7.mono (by omega), ?_⟩
    clear m2 X6 S6 T6 Z6 M6 N6 b6 h7 g6
    repeat (refine GrowB.reads rfl rfl ?_; go_big_quiet_step (fail); refine wpQuiet_nil ?_)
    refine GrowB.acts rfl ?_
    go_wp2_with (first
      | (refine Cel.wpList_store_box SE rfl _ _ rfl (w.heap.size + 3) rfl noV X7 ⟨A5, k5, A6, k6, A7, k7, joinS u.s v.s z.s⟩ rfl ?_; intro w8 X8 b8 g8 s8))
    have N8 : In w8 ⟨A5, k5, A6, k6, A7, k7, joinS u.s v.s z.s⟩ := In.kept ⟨M7, L7, N7⟩ X7 g8
    have k8 := b7.trans (b8 _ (by omega))
    refine ⟨b8 _ (Nat.le_refl _), ?_⟩
    clear X7 M7 L7 N7 b7 g7 b8 g8 s8
    simp only [Act.put]
    repeat (refine GrowB.reads rfl rfl ?_; go_big_quiet_step (fail); refine wpQuiet_nil ?_)
    refine GrowB.ends ?_
    go_wp2_with fail
    obtain ⟨r0, r1, r2⟩ := box_cells X8
    refine bodyPost_ret (v := .tuple #[.agg (sc ⟨A5, k5, A6, k6, A7, k7, joinS u.s v.s z.s⟩), .int .i64 0]) (by simp [results, Tryz.results16, go_sem, r0, r1, r2, sc]) rfl ⟨_, ?_, ?_, N8, k8⟩
    · rw [HR.out]; rfl
    · rw [HR.out]; rfl
end Go.Proofs.YtnjdkjkihbgkaaaGreat.StJ
