/- What the document's Do of package state returns: a contract. -/
import Derived.Test.YtnjdkjkihbgkaaaGreatStRJ2
import Derived.Test.YtnjdkjkihbgkaaaGreatStTJ4
import Derived.Test.YtnjdkjkihbgkaaaGreatCtrQJ4
import Derived.Test.YtnjdkjkihbgkaaaGreatRegQ
import Derived.Test.YtnjdkjkihbgkaaaGreatPairPJ3
namespace Go.Proofs.YtnjdkjkihbgkaaaGreat.StD
set_option maxRecDepth 100000
open Go Go.RowKit Byt OpsM OpsW Rise RowS StM StW StR

/-- A state, an operation and an event boxed, and a result's cell. -/
def W4 (w : World) (v : Sv) (o : Opn) (e : Ev) : World := (((w.alloc (.cells (sc v) 26)).alloc (.cells (opc o) 28)).alloc (.cells (ec e) 30)).alloc (.cells (sc noV) 26)
theorem W4_below (w : World) (v : Sv) (o : Opn) (e : Ev) : Below w.heap.size w (W4 w v o e) := ((((Below.refl _ _).alloc (Nat.le_refl _) _).alloc (by simp) _).alloc (by simp; omega) _).alloc (by simp; omega) _
theorem W4_size (w : World) (v : Sv) (o : Opn) (e : Ev) : (W4 w v o e).heap.size = w.heap.size + 4 := by simp [W4]
theorem W4_boxes (w : World) (v : Sv) (o : Opn) (e : Ev) : Cel.Box SE (W4 w v o e) w.heap.size v ∧ OpAt (W4 w v o e) (w.heap.size + 1) o ∧ Cel.Box EE (W4 w v o e) (w.heap.size + 2) e ∧ Cel.Box SE (W4 w v o e) (w.heap.size + 3) noV := by
  have z1 : (w.alloc (.cells (sc v) 26)).heap.size = w.heap.size + 1 := by simp
  have z2 : ((w.alloc (.cells (sc v) 26)).alloc (.cells (opc o) 28)).heap.size = w.heap.size + 2 := by simp
  have z3 : (((w.alloc (.cells (sc v) 26)).alloc (.cells (opc o) 28)).alloc (.cells (ec e) 30)).heap.size = w.heap.size + 3 := by simp
  refine ⟨(((Cel.Box.new (E := SE) w v 26).alloc _).alloc _).alloc _, ?_, ?_, ?_⟩
  · rw [← z1]
    exact ((OpAt.new _ o 28).alloc _).alloc _
  · rw [← z2]
    exact (Cel.Box.new (E := EE) _ e 30).alloc _
  · rw [← z3]
    exact Cel.Box.new (E := SE) _ noV 26
theorem info_c : (Tryz.prog.info? 22).map (·.size) = some 1 := by kernel_rfl
theorem info_r : (Tryz.prog.info? 23).map (·.size) = some 1 := by kernel_rfl
theorem info_p : (Tryz.prog.info? 24).map (·.size) = some 1 := by kernel_rfl
theorem reg_fit {o : Opn} {e : Ev} {g : Int} (h1 : o.key.size ≤ 1099511627776) (h2 : o.elem.size ≤ 1099511627776) (hg : CtrL.In64 g) (hn : CtrL.In64 e.node) (hs : CtrL.In64 e.seq) : RegW.Fit (regO o e.node e.seq g) := ⟨h1, h2, hg, hn, hs⟩
theorem pair_fit {o : Opn} {e : Ev} (h1 : o.key.size ≤ 1099511627776) (h2 : o.elem.size ≤ 1099511627776) (hn : CtrL.In64 e.node) (hs : CtrL.In64 e.seq) : PairW.Fit (pairO o e.node e.seq) := ⟨h1, h2, hn, hs⟩
set_option maxRecDepth 100000 in
set_option maxHeartbeats 16000000 in
theorem do_none (v : Sv) (o : Opn) (e : Ev) (g : Int) (w : World) (S : In w v) (fv : Fits v.s) (fo : OpsC.Fit o) (h1 : o.key.size ≤ 1099511627776) (h2 : o.elem.size ≤ 1099511627776) (hN : okD v.s o e.node e.seq g = false) :
    Calls Tryz.prog 9 #[.agg (sc v), .agg (opc o), .agg (ec e), .int .i64 g] w (StW.New (doS v.s o e.node e.seq g) w) := by
  have kb := W4_below w v o e
  have hz := W4_size w v o e
  obtain ⟨R0, O0, V0, X0⟩ := W4_boxes w v o e
  have S0 := S.below kb
  have q0 := fun W S => may_ret v W S fv
  have q1 := fun W => OpsR.may o W fo h1 h2
  have q2 := fun W => event_ret e W
  have HR : Hid (doS v.s o e.node e.seq g = none) := aside (by unfold doS; rw [hN]; rfl)
  unfold okD at hN
  obtain ⟨x, hx⟩ : ∃ x, mayS v.s = x := ⟨_, rfl⟩
  obtain ⟨y, hy⟩ : ∃ y, mayO o = y := ⟨_, rfl⟩
  obtain ⟨t, ht⟩ : ∃ t, eventB e.node e.seq = t := ⟨_, rfl⟩
  rw [hx, hy, ht] at hN
  rw [hx] at q0
  rw [hy] at q1
  rw [ht] at q2
  clear S fv fo h1 h2 hx hy ht
  have hw : x = false ∨ (x = true ∧ y = false) ∨ (x = true ∧ y = true ∧ t = false) ∨ (x = true ∧ y = true ∧ t = true ∧ g < 1) := by
    cases x <;> cases y <;> cases t <;> simp at hN ⊢
    omega
  have HW := aside hw
  clear hN hw
  go_enter Tryz.func9, Tryz.ntmps9
  go_wp2_with (first | (refine Cel.wpList_load_box SE rfl _ rfl _ rfl v R0 ?_))
  refine (q0 _ S0).mono ?_
  rintro _ w1 ⟨rfl, k1⟩
  have O1 := O0.below k1
  have V1 := V0.below k1
  have X1 := X0.below k1
  have b1 := kb.trans (k1.mono kb.size)
  have h1 : w.heap.size + 4 ≤ w1.heap.size := by rw [← hz]; exact k1.size
  clear q0 R0 O0 V0 X0 S0 k1 kb hz
  go_wp2_with (first | (refine wpList_load_op rfl _ rfl _ rfl o O1 ?_))
  refine (q1 _).mono ?_
  rintro _ w2 ⟨rfl, k2⟩
  have V2 := V1.below k2
  have X2 := X1.below k2
  have b2 := b1.trans (k2.mono b1.size)
  have h2 := Nat.le_trans h1 k2.size
  clear q1 O1 V1 X1 k2 b1 h1
  go_wp2_with (first | (refine Cel.wpList_load_box EE rfl _ rfl _ rfl e V2 ?_))
  refine (q2 _).mono ?_
  rintro _ w3 ⟨rfl, k3⟩
  have X3 := X2.below k3
  have b3 := b2.trans (k3.mono b2.size)
  have h3 := Nat.le_trans h2 k3.size
  clear q2 V2 X2 k3 b2 h2
  rcases HW.out with rfl | ⟨rfl, rfl⟩ | ⟨rfl, rfl, rfl⟩ | ⟨rfl, rfl, rfl, hg⟩ <;> clear HW
  · go_wp2_with (first
      | go_skip
      | (refine Cel.wpList_store_box SE rfl _ _ rfl (w.heap.size + 3) rfl noV X3 noV rfl ?_; intro w4 X4 b4 g4 s4))
    have k4 := b3.trans (b4 _ (by omega))
    obtain ⟨r0, r1, r2⟩ := box_cells X4
    refine bodyPost_ret (v := .tuple #[.agg (sc noV), .int .i64 1]) (by simp [results, Tryz.results9, go_sem, r0, r1, r2, sc]) rfl ⟨noV, ?_, ?_, In.none _, k4⟩
    · rw [HR.out]; rfl
    · rw [HR.out]; rfl
  · go_wp2_with (first
      | go_skip
      | (refine Cel.wpList_store_box SE rfl _ _ rfl (w.heap.size + 3) rfl noV X3 noV rfl ?_; intro w4 X4 b4 g4 s4))
    have k4 := b3.trans (b4 _ (by omega))
    obtain ⟨r0, r1, r2⟩ := box_cells X4
    refine bodyPost_ret (v := .tuple #[.agg (sc noV), .int .i64 1]) (by simp [results, Tryz.results9, go_sem, r0, r1, r2, sc]) rfl ⟨noV, ?_, ?_, In.none _, k4⟩
    · rw [HR.out]; rfl
    · rw [HR.out]; rfl
  · go_wp2_with (first
      | go_skip
      | (refine Cel.wpList_store_box SE rfl _ _ rfl (w.heap.size + 3) rfl noV X3 noV rfl ?_; intro w4 X4 b4 g4 s4))
    have k4 := b3.trans (b4 _ (by omega))
    obtain ⟨r0, r1, r2⟩ := box_cells X4
    refine bodyPost_ret (v := .tuple #[.agg (sc noV), .int .i64 1]) (by simp [results, Tryz.results9, go_sem, r0, r1, r2, sc]) rfl ⟨noV, ?_, ?_, In.none _, k4⟩
    · rw [HR.out]; rfl
    · rw [HR.out]; rfl
  · go_wp2_with (first
      | go_skip
      | (refine Cel.wpList_store_box SE rfl _ _ rfl (w.heap.size + 3) rfl noV X3 noV rfl ?_; intro w4 X4 b4 g4 s4))
    have k4 := b3.trans (b4 _ (by omega))
    obtain ⟨r0, r1, r2⟩ := box_cells X4
    refine bodyPost_ret (v := .tuple #[.agg (sc noV), .int .i64 1]) (by simp [results, Tryz.results9, go_sem, r0, r1, r2, sc]) rfl ⟨noV, ?_, ?_, In.none _, k4⟩
    · rw [HR.out]; rfl
    · rw [HR.out]; rfl
set_option maxRecDepth 100000 in
set_option maxHeartbeats 16000000 in
theorem do_inc (v : Sv) (o : Opn) (e : Ev) (g : Int) (w : World) (S : In w v) (fv : Fits v.s) (lv : Len 100000 v.s) (fo : OpsC.Fit o) (h1 : o.key.size ≤ 1099511627776) (h2 : o.elem.size ≤ 1099511627776) (hN : okD v.s o e.node e.seq g = true) (hk : o.kind = 0) :
    Calls Tryz.prog 9 #[.agg (sc v), .agg (opc o), .agg (ec e), .int .i64 g] w (StW.New (doS v.s o e.node e.seq g) w) := by
  have kb := W4_below w v o e
  have hz := W4_size w v o e
  obtain ⟨R0, O0, V0, X0⟩ := W4_boxes w v o e
  have S0 := S.below kb
  have q0 := fun W S => may_ret v W S fv
  have q1 := fun W => OpsR.may o W fo h1 h2
  have q2 := fun W => event_ret e W
  have q3 := fun W S => CtrQ.inc_ret v.a0 v.k0 v.s.c o.key o.n W S fv.c (by have := lv.c; omega) h1
  have HR : Hid (doS v.s o e.node e.seq g = some ⟨CtrM.incC v.s.c o.key o.n, v.s.r, v.s.p⟩) := aside (by unfold doS stepS; rw [hN, hk]; rfl)
  obtain ⟨m1, m2, m3, m4⟩ := okD_iff.1 hN
  rw [m1] at q0
  rw [m2] at q1
  rw [m3] at q2
  clear S fv lv fo h1 h2 hN m1 m2 m3
  go_enter Tryz.func9, Tryz.ntmps9
  go_wp2_with (first | (refine Cel.wpList_load_box SE rfl _ rfl _ rfl v R0 ?_))
  refine (q0 _ S0).mono ?_
  rintro _ w1 ⟨rfl, k1⟩
  have R1 := R0.below k1
  have O1 := O0.below k1
  have V1 := V0.below k1
  have X1 := X0.below k1
  have S1 := S0.below k1
  have b1 := kb.trans (k1.mono kb.size)
  have h1 : w.heap.size + 4 ≤ w1.heap.size := by rw [← hz]; exact k1.size
  clear q0 R0 O0 V0 X0 S0 k1 kb hz
  go_wp2_with (first | (refine wpList_load_op rfl _ rfl _ rfl o O1 ?_))
  refine (q1 _).mono ?_
  rintro _ w2 ⟨rfl, k2⟩
  have R2 := R1.below k2
  have O2 := O1.below k2
  have V2 := V1.below k2
  have X2 := X1.below k2
  have S2 := S1.below k2
  have b2 := b1.trans (k2.mono b1.size)
  have h2 := Nat.le_trans h1 k2.size
  clear q1 R1 O1 V1 X1 S1 k2 b1 h1
  go_wp2_with (first | (refine Cel.wpList_load_box EE rfl _ rfl _ rfl e V2 ?_))
  refine (q2 _).mono ?_
  rintro _ w3 ⟨rfl, k3⟩
  have R3 := R2.below k3
  have O3 := O2.below k3
  have V3 := V2.below k3
  have X3 := X2.below k3
  have S3 := S2.below k3
  have b3 := b2.trans (k3.mono b2.size)
  have h3 := Nat.le_trans h2 k3.size
  clear q2 R2 O2 V2 X2 S2 k3 b2 h2
  obtain ⟨c0, c1, c2⟩ := box_cells R3
  have o0 := O3.kind
  have o1 := O3.key
  have o2 := O3.elem
  have o3 := O3.n
  rw [hk] at o0
  have p0 : ¬ (g < 1) := by omega
  go_wp2_with (first | go_skip | (refine wpList_load_ev rfl _ rfl _ rfl e V3 ?_))
  refine (q3 _ S3.c).mono ?_
  rintro _ w4 ⟨A4, k4, rfl, N4, h4⟩
  have R4 := R3.below h4
  have X4 := X3.below h4
  have S4 := S3.below h4
  have b4 := b3.trans (h4.mono b3.size)
  have g4 := Nat.le_trans h3 h4.size
  clear q3 R3 O3 V3 X3 S3 h4 b3 h3 c0 c1 c2 o0 o1 o2 o3 hk
  go_wp2_with (first
    | go_skip
    | (refine Cel.wpList_store_field SE rfl rfl 22 _ _ rfl info_c w.heap.size 0 rfl (of_decide_eq_true rfl) v R4 ⟨A4, k4, v.a1, v.k1, v.a2, v.k2, ⟨CtrM.incC v.s.c o.key o.n, v.s.r, v.s.p⟩⟩ _ rfl rfl rfl rfl ?_; intro w5 R5 b5 g5 s5; have X5 := X4.kept g5 (by simp); have S5 := S4.kept R4 g5; have N5 := kept_box noC N4 R4 g5)
    | (refine Cel.wpList_load_box SE rfl _ rfl _ rfl ⟨A4, k4, v.a1, v.k1, v.a2, v.k2, ⟨CtrM.incC v.s.c o.key o.n, v.s.r, v.s.p⟩⟩ R5 ?_)
    | (refine Cel.wpList_store_box SE rfl _ _ rfl (w.heap.size + 3) rfl noV X5 ⟨A4, k4, v.a1, v.k1, v.a2, v.k2, ⟨CtrM.incC v.s.c o.key o.n, v.s.r, v.s.p⟩⟩ rfl ?_; intro w6 X6 b6 g6 s6))
  have I5 : In w5 ⟨A4, k4, v.a1, v.k1, v.a2, v.k2, ⟨CtrM.incC v.s.c o.key o.n, v.s.r, v.s.p⟩⟩ := { S5 with c := N5 }
  have I6 := I5.kept X5 g6
  have k6 := (b4.trans (b5 _ (by omega))).trans (b6 _ (by omega))
  obtain ⟨r0, r1, r2⟩ := box_cells X6
  refine bodyPost_ret (v := .tuple #[.agg (sc ⟨A4, k4, v.a1, v.k1, v.a2, v.k2, ⟨CtrM.incC v.s.c o.key o.n, v.s.r, v.s.p⟩⟩), .int .i64 0]) (by simp [results, Tryz.results9, go_sem, r0, r1, r2, sc]) rfl ⟨_, ?_, ?_, I6, k6⟩
  · rw [HR.out]; rfl
  · rw [HR.out]; rfl
set_option maxRecDepth 100000 in
set_option maxHeartbeats 16000000 in
theorem do_set (v : Sv) (o : Opn) (e : Ev) (g : Int) (w : World) (S : In w v) (fv : Fits v.s) (lv : Len 100000 v.s) (fo : OpsC.Fit o) (h1 : o.key.size ≤ 1099511627776) (h2 : o.elem.size ≤ 1099511627776) (hG : CtrL.In64 g) (hE : CtrL.In64 e.node) (hQ : CtrL.In64 e.seq) (hN : okD v.s o e.node e.seq g = true) (hk : o.kind = 1) :
    Calls Tryz.prog 9 #[.agg (sc v), .agg (opc o), .agg (ec e), .int .i64 g] w (StW.New (doS v.s o e.node e.seq g) w) := by
  have kb := W4_below w v o e
  have hz := W4_size w v o e
  obtain ⟨R0, O0, V0, X0⟩ := W4_boxes w v o e
  have S0 := S.below kb
  have q0 := fun W S => may_ret v W S fv
  have q1 := fun W => OpsR.may o W fo h1 h2
  have q2 := fun W => event_ret e W
  have q3 := fun W S => RegQ.put_ret v.a1 v.k1 v.s.r (regO o e.node e.seq g) W S fv.r (reg_fit h1 h2 hG hE hQ) (by have := lv.r; omega)
  have HR : Hid (doS v.s o e.node e.seq g = some ⟨v.s.c, RegL.putR v.s.r (regO o e.node e.seq g), v.s.p⟩) := aside (by unfold doS stepS; rw [hN, hk]; rfl)
  obtain ⟨m1, m2, m3, m4⟩ := okD_iff.1 hN
  rw [m1] at q0
  rw [m2] at q1
  rw [m3] at q2
  clear S fv lv fo h1 h2 hN m1 m2 m3 hG hE hQ
  go_enter Tryz.func9, Tryz.ntmps9
  go_wp2_with (first | (refine Cel.wpList_load_box SE rfl _ rfl _ rfl v R0 ?_))
  refine (q0 _ S0).mono ?_
  rintro _ w1 ⟨rfl, k1⟩
  have R1 := R0.below k1
  have O1 := O0.below k1
  have V1 := V0.below k1
  have X1 := X0.below k1
  have S1 := S0.below k1
  have b1 := kb.trans (k1.mono kb.size)
  have h1 : w.heap.size + 4 ≤ w1.heap.size := by rw [← hz]; exact k1.size
  clear q0 R0 O0 V0 X0 S0 k1 kb hz
  go_wp2_with (first | (refine wpList_load_op rfl _ rfl _ rfl o O1 ?_))
  refine (q1 _).mono ?_
  rintro _ w2 ⟨rfl, k2⟩
  have R2 := R1.below k2
  have O2 := O1.below k2
  have V2 := V1.below k2
  have X2 := X1.below k2
  have S2 := S1.below k2
  have b2 := b1.trans (k2.mono b1.size)
  have h2 := Nat.le_trans h1 k2.size
  clear q1 R1 O1 V1 X1 S1 k2 b1 h1
  go_wp2_with (first | (refine Cel.wpList_load_box EE rfl _ rfl _ rfl e V2 ?_))
  refine (q2 _).mono ?_
  rintro _ w3 ⟨rfl, k3⟩
  have R3 := R2.below k3
  have O3 := O2.below k3
  have V3 := V2.below k3
  have X3 := X2.below k3
  have S3 := S2.below k3
  have b3 := b2.trans (k3.mono b2.size)
  have h3 := Nat.le_trans h2 k3.size
  clear q2 R2 O2 V2 X2 S2 k3 b2 h2
  obtain ⟨c0, c1, c2⟩ := box_cells R3
  have o0 := O3.kind
  have o1 := O3.key
  have o2 := O3.elem
  have o3 := O3.n
  rw [hk] at o0
  have p0 : ¬ (g < 1) := by omega
  go_wp2_with (first | go_skip | (refine wpList_load_ev rfl _ rfl _ rfl e V3 ?_))
  refine (q3 _ S3.r).mono ?_
  rintro _ w4 ⟨A4, k4, rfl, N4, h4⟩
  have R4 := R3.below h4
  have X4 := X3.below h4
  have S4 := S3.below h4
  have b4 := b3.trans (h4.mono b3.size)
  have g4 := Nat.le_trans h3 h4.size
  clear q3 R3 O3 V3 X3 S3 h4 b3 h3 c0 c1 c2 o0 o1 o2 o3 hk
  go_wp2_with (first
    | go_skip
    | (refine Cel.wpList_store_field SE rfl rfl 23 _ _ rfl info_r w.heap.size 1 rfl (of_decide_eq_true rfl) v R4 ⟨v.a0, v.k0, A4, k4, v.a2, v.k2, ⟨v.s.c, RegL.putR v.s.r (regO o e.node e.seq g), v.s.p⟩⟩ _ rfl rfl rfl rfl ?_; intro w5 R5 b5 g5 s5; have X5 := X4.kept g5 (by simp); have S5 := S4.kept R4 g5; have N5 := kept_box noR N4 R4 g5)
    | (refine Cel.wpList_load_box SE rfl _ rfl _ rfl ⟨v.a0, v.k0, A4, k4, v.a2, v.k2, ⟨v.s.c, RegL.putR v.s.r (regO o e.node e.seq g), v.s.p⟩⟩ R5 ?_)
    | (refine Cel.wpList_store_box SE rfl _ _ rfl (w.heap.size + 3) rfl noV X5 ⟨v.a0, v.k0, A4, k4, v.a2, v.k2, ⟨v.s.c, RegL.putR v.s.r (regO o e.node e.seq g), v.s.p⟩⟩ rfl ?_; intro w6 X6 b6 g6 s6))
  have I5 : In w5 ⟨v.a0, v.k0, A4, k4, v.a2, v.k2, ⟨v.s.c, RegL.putR v.s.r (regO o e.node e.seq g), v.s.p⟩⟩ := { S5 with r := N5 }
  have I6 := I5.kept X5 g6
  have k6 := (b4.trans (b5 _ (by omega))).trans (b6 _ (by omega))
  obtain ⟨r0, r1, r2⟩ := box_cells X6
  refine bodyPost_ret (v := .tuple #[.agg (sc ⟨v.a0, v.k0, A4, k4, v.a2, v.k2, ⟨v.s.c, RegL.putR v.s.r (regO o e.node e.seq g), v.s.p⟩⟩), .int .i64 0]) (by simp [results, Tryz.results9, go_sem, r0, r1, r2, sc]) rfl ⟨_, ?_, ?_, I6, k6⟩
  · rw [HR.out]; rfl
  · rw [HR.out]; rfl
set_option maxRecDepth 100000 in
set_option maxHeartbeats 16000000 in
theorem do_add (v : Sv) (o : Opn) (e : Ev) (g : Int) (w : World) (S : In w v) (fv : Fits v.s) (lv : Len 100000 v.s) (fo : OpsC.Fit o) (h1 : o.key.size ≤ 1099511627776) (h2 : o.elem.size ≤ 1099511627776) (hE : CtrL.In64 e.node) (hQ : CtrL.In64 e.seq) (hN : okD v.s o e.node e.seq g = true) (hk : o.kind = 2) :
    Calls Tryz.prog 9 #[.agg (sc v), .agg (opc o), .agg (ec e), .int .i64 g] w (StW.New (doS v.s o e.node e.seq g) w) := by
  have kb := W4_below w v o e
  have hz := W4_size w v o e
  obtain ⟨R0, O0, V0, X0⟩ := W4_boxes w v o e
  have S0 := S.below kb
  have q0 := fun W S => may_ret v W S fv
  have q1 := fun W => OpsR.may o W fo h1 h2
  have q2 := fun W => event_ret e W
  have q3 := fun W S => PairQ.add_ret v.a2 v.k2 v.s.p (pairO o e.node e.seq) W S fv.p (pair_fit h1 h2 hE hQ) (by have := lv.p; omega)
  have HR : Hid (doS v.s o e.node e.seq g = some ⟨v.s.c, v.s.r, PairM.addP v.s.p (pairO o e.node e.seq)⟩) := aside (by unfold doS stepS; rw [hN, hk]; rfl)
  obtain ⟨m1, m2, m3, m4⟩ := okD_iff.1 hN
  rw [m1] at q0
  rw [m2] at q1
  rw [m3] at q2
  clear S fv lv fo h1 h2 hN m1 m2 m3 hE hQ
  go_enter Tryz.func9, Tryz.ntmps9
  go_wp2_with (first | (refine Cel.wpList_load_box SE rfl _ rfl _ rfl v R0 ?_))
  refine (q0 _ S0).mono ?_
  rintro _ w1 ⟨rfl, k1⟩
  have R1 := R0.below k1
  have O1 := O0.below k1
  have V1 := V0.below k1
  have X1 := X0.below k1
  have S1 := S0.below k1
  have b1 := kb.trans (k1.mono kb.size)
  have h1 : w.heap.size + 4 ≤ w1.heap.size := by rw [← hz]; exact k1.size
  clear q0 R0 O0 V0 X0 S0 k1 kb hz
  go_wp2_with (first | (refine wpList_load_op rfl _ rfl _ rfl o O1 ?_))
  refine (q1 _).mono ?_
  rintro _ w2 ⟨rfl, k2⟩
  have R2 := R1.below k2
  have O2 := O1.below k2
  have V2 := V1.below k2
  have X2 := X1.below k2
  have S2 := S1.below k2
  have b2 := b1.trans (k2.mono b1.size)
  have h2 := Nat.le_trans h1 k2.size
  clear q1 R1 O1 V1 X1 S1 k2 b1 h1
  go_wp2_with (first | (refine Cel.wpList_load_box EE rfl _ rfl _ rfl e V2 ?_))
  refine (q2 _).mono ?_
  rintro _ w3 ⟨rfl, k3⟩
  have R3 := R2.below k3
  have O3 := O2.below k3
  have V3 := V2.below k3
  have X3 := X2.below k3
  have S3 := S2.below k3
  have b3 := b2.trans (k3.mono b2.size)
  have h3 := Nat.le_trans h2 k3.size
  clear q2 R2 O2 V2 X2 S2 k3 b2 h2
  obtain ⟨c0, c1, c2⟩ := box_cells R3
  have o0 := O3.kind
  have o1 := O3.key
  have o2 := O3.elem
  have o3 := O3.n
  rw [hk] at o0
  have p0 : ¬ (g < 1) := by omega
  go_wp2_with (first | go_skip | (refine wpList_load_ev rfl _ rfl _ rfl e V3 ?_))
  refine (q3 _ S3.p).mono ?_
  rintro _ w4 ⟨A4, k4, rfl, N4, h4⟩
  have R4 := R3.below h4
  have X4 := X3.below h4
  have S4 := S3.below h4
  have b4 := b3.trans (h4.mono b3.size)
  have g4 := Nat.le_trans h3 h4.size
  clear q3 R3 O3 V3 X3 S3 h4 b3 h3 c0 c1 c2 o0 o1 o2 o3 hk
  go_wp2_with (first
    | go_skip
    | (refine Cel.wpList_store_field SE rfl rfl 24 _ _ rfl info_p w.heap.size 2 rfl (of_decide_eq_true rfl) v R4 ⟨v.a0, v.k0, v.a1, v.k1, A4, k4, ⟨v.s.c, v.s.r, PairM.addP v.s.p (pairO o e.node e.seq)⟩⟩ _ rfl rfl rfl rfl ?_; intro w5 R5 b5 g5 s5; have X5 := X4.kept g5 (by simp); have S5 := S4.kept R4 g5; have N5 := kept_box noP N4 R4 g5)
    | (refine Cel.wpList_load_box SE rfl _ rfl _ rfl ⟨v.a0, v.k0, v.a1, v.k1, A4, k4, ⟨v.s.c, v.s.r, PairM.addP v.s.p (pairO o e.node e.seq)⟩⟩ R5 ?_)
    | (refine Cel.wpList_store_box SE rfl _ _ rfl (w.heap.size + 3) rfl noV X5 ⟨v.a0, v.k0, v.a1, v.k1, A4, k4, ⟨v.s.c, v.s.r, PairM.addP v.s.p (pairO o e.node e.seq)⟩⟩ rfl ?_; intro w6 X6 b6 g6 s6))
  have I5 : In w5 ⟨v.a0, v.k0, v.a1, v.k1, A4, k4, ⟨v.s.c, v.s.r, PairM.addP v.s.p (pairO o e.node e.seq)⟩⟩ := { S5 with p := N5 }
  have I6 := I5.kept X5 g6
  have k6 := (b4.trans (b5 _ (by omega))).trans (b6 _ (by omega))
  obtain ⟨r0, r1, r2⟩ := box_cells X6
  refine bodyPost_ret (v := .tuple #[.agg (sc ⟨v.a0, v.k0, v.a1, v.k1, A4, k4, ⟨v.s.c, v.s.r, PairM.addP v.s.p (pairO o e.node e.seq)⟩⟩), .int .i64 0]) (by simp [results, Tryz.results9, go_sem, r0, r1, r2, sc]) rfl ⟨_, ?_, ?_, I6, k6⟩
  · rw [HR.out]; rfl
  · rw [HR.out]; rfl
set_option maxRecDepth 100000 in
set_option maxHeartbeats 16000000 in
theorem do_del (v : Sv) (o : Opn) (e : Ev) (g : Int) (w : World) (S : In w v) (fv : Fits v.s) (lv : Len 100000 v.s) (fo : OpsC.Fit o) (h1 : o.key.size ≤ 1099511627776) (h2 : o.elem.size ≤ 1099511627776) (hN : okD v.s o e.node e.seq g = true) (hk : o.kind = 3) :
    Calls Tryz.prog 9 #[.agg (sc v), .agg (opc o), .agg (ec e), .int .i64 g] w (StW.New (doS v.s o e.node e.seq g) w) := by
  have kb := W4_below w v o e
  have hz := W4_size w v o e
  obtain ⟨R0, O0, V0, X0⟩ := W4_boxes w v o e
  have S0 := S.below kb
  have q0 := fun W S => may_ret v W S fv
  have q1 := fun W => OpsR.may o W fo h1 h2
  have q2 := fun W => event_ret e W
  have q3 := fun W S => PairQ.del_ret v.a2 v.k2 v.s.p o.key o.elem W S fv.p (by have := lv.p; omega)
  have HR : Hid (doS v.s o e.node e.seq g = some ⟨v.s.c, v.s.r, PairM.delP v.s.p o.key o.elem⟩) := aside (by unfold doS stepS; rw [hN, hk]; rfl)
  obtain ⟨m1, m2, m3, m4⟩ := okD_iff.1 hN
  rw [m1] at q0
  rw [m2] at q1
  rw [m3] at q2
  clear S fv lv fo h1 h2 hN m1 m2 m3
  go_enter Tryz.func9, Tryz.ntmps9
  go_wp2_with (first | (refine Cel.wpList_load_box SE rfl _ rfl _ rfl v R0 ?_))
  refine (q0 _ S0).mono ?_
  rintro _ w1 ⟨rfl, k1⟩
  have R1 := R0.below k1
  have O1 := O0.below k1
  have V1 := V0.below k1
  have X1 := X0.below k1
  have S1 := S0.below k1
  have b1 := kb.trans (k1.mono kb.size)
  have h1 : w.heap.size + 4 ≤ w1.heap.size := by rw [← hz]; exact k1.size
  clear q0 R0 O0 V0 X0 S0 k1 kb hz
  go_wp2_with (first | (refine wpList_load_op rfl _ rfl _ rfl o O1 ?_))
  refine (q1 _).mono ?_
  rintro _ w2 ⟨rfl, k2⟩
  have R2 := R1.below k2
  have O2 := O1.below k2
  have V2 := V1.below k2
  have X2 := X1.below k2
  have S2 := S1.below k2
  have b2 := b1.trans (k2.mono b1.size)
  have h2 := Nat.le_trans h1 k2.size
  clear q1 R1 O1 V1 X1 S1 k2 b1 h1
  go_wp2_with (first | (refine Cel.wpList_load_box EE rfl _ rfl _ rfl e V2 ?_))
  refine (q2 _).mono ?_
  rintro _ w3 ⟨rfl, k3⟩
  have R3 := R2.below k3
  have O3 := O2.below k3
  have V3 := V2.below k3
  have X3 := X2.below k3
  have S3 := S2.below k3
  have b3 := b2.trans (k3.mono b2.size)
  have h3 := Nat.le_trans h2 k3.size
  clear q2 R2 O2 V2 X2 S2 k3 b2 h2
  obtain ⟨c0, c1, c2⟩ := box_cells R3
  have o0 := O3.kind
  have o1 := O3.key
  have o2 := O3.elem
  have o3 := O3.n
  rw [hk] at o0
  have p0 : ¬ (g < 1) := by omega
  go_wp2_with (first | go_skip | (refine wpList_load_ev rfl _ rfl _ rfl e V3 ?_))
  refine (q3 _ S3.p).mono ?_
  rintro _ w4 ⟨A4, k4, rfl, N4, h4⟩
  have R4 := R3.below h4
  have X4 := X3.below h4
  have S4 := S3.below h4
  have b4 := b3.trans (h4.mono b3.size)
  have g4 := Nat.le_trans h3 h4.size
  clear q3 R3 O3 V3 X3 S3 h4 b3 h3 c0 c1 c2 o0 o1 o2 o3 hk
  go_wp2_with (first
    | go_skip
    | (refine Cel.wpList_store_field SE rfl rfl 24 _ _ rfl info_p w.heap.size 2 rfl (of_decide_eq_true rfl) v R4 ⟨v.a0, v.k0, v.a1, v.k1, A4, k4, ⟨v.s.c, v.s.r, PairM.delP v.s.p o.key o.elem⟩⟩ _ rfl rfl rfl rfl ?_; intro w5 R5 b5 g5 s5; have X5 := X4.kept g5 (by simp); have S5 := S4.kept R4 g5; have N5 := kept_box noP N4 R4 g5)
    | (refine Cel.wpList_load_box SE rfl _ rfl _ rfl ⟨v.a0, v.k0, v.a1, v.k1, A4, k4, ⟨v.s.c, v.s.r, PairM.delP v.s.p o.key o.elem⟩⟩ R5 ?_)
    | (refine Cel.wpList_store_box SE rfl _ _ rfl (w.heap.size + 3) rfl noV X5 ⟨v.a0, v.k0, v.a1, v.k1, A4, k4, ⟨v.s.c, v.s.r, PairM.delP v.s.p o.key o.elem⟩⟩ rfl ?_; intro w6 X6 b6 g6 s6))
  have I5 : In w5 ⟨v.a0, v.k0, v.a1, v.k1, A4, k4, ⟨v.s.c, v.s.r, PairM.delP v.s.p o.key o.elem⟩⟩ := { S5 with p := N5 }
  have I6 := I5.kept X5 g6
  have k6 := (b4.trans (b5 _ (by omega))).trans (b6 _ (by omega))
  obtain ⟨r0, r1, r2⟩ := box_cells X6
  refine bodyPost_ret (v := .tuple #[.agg (sc ⟨v.a0, v.k0, v.a1, v.k1, A4, k4, ⟨v.s.c, v.s.r, PairM.delP v.s.p o.key o.elem⟩⟩), .int .i64 0]) (by simp [results, Tryz.results9, go_sem, r0, r1, r2, sc]) rfl ⟨_, ?_, ?_, I6, k6⟩
  · rw [HR.out]; rfl
  · rw [HR.out]; rfl
theorem do_ret (v : Sv) (o : Opn) (e : Ev) (g : Int) (w : World) (S : In w v) (fv : Fits v.s) (lv : Len 100000 v.s) (fo : OpsC.Fit o) (h1 : o.key.size ≤ 1099511627776) (h2 : o.elem.size ≤ 1099511627776) (hG : CtrL.In64 g) (hE : CtrL.In64 e.node) (hQ : CtrL.In64 e.seq) :
    Calls Tryz.prog 9 #[.agg (sc v), .agg (opc o), .agg (ec e), .int .i64 g] w (StW.New (doS v.s o e.node e.seq g) w) := by
  cases hN : okD v.s o e.node e.seq g with
  | false => exact do_none v o e g w S fv fo h1 h2 hN
  | true =>
    rcases kind_may (okD_iff.1 hN).2.1 with hk | hk | hk | hk
    · exact do_inc v o e g w S fv lv fo h1 h2 hN hk
    · exact do_set v o e g w S fv lv fo h1 h2 hG hE hQ hN hk
    · exact do_add v o e g w S fv lv fo h1 h2 hE hQ hN hk
    · exact do_del v o e g w S fv lv fo h1 h2 hN hk
end Go.Proofs.YtnjdkjkihbgkaaaGreat.StD
