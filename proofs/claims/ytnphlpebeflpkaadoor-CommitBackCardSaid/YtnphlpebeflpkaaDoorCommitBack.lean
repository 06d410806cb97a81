/- CommitBack returns true for every input: what is put is got, whatever stands behind; what is got may be, and is put as the same bytes. No condition. -/
import Derived.Test.YtnphlpebeflpkaaDoorCmA
import Derived.Test.YtnphlpebeflpkaaDoorShaLJ4
import Derived.Test.YtnphlpebeflpkaaDoorCards
import Derived.Test.YtnphlpebeflpkaaDoorTie
import Derived.ShutString
import Derived.ChangeOld
namespace Go.Proofs.YtnphlpebeflpkaaDoor.commitBack
set_option maxRecDepth 100000
open Go Go.Sort Go.ChangeShapes Go.WideShapes Go.ChangeAt Go.RowKit Byt IdM IdW OpsM OpsW CmM StW CmW CmX CmY CmA
open ShaE (KIn)
open CmR (sameK sameK_iff sameK_self)

theorem fit_may {c : Com} (h : mayK c = true) : Fit c := by
  have hn := node_may h
  have hs := seq_may h
  have hg := lineB_iff.1 (mayK_iff.1 h).1
  refine ⟨by unfold I64; omega, by unfold I64; omega, by unfold I64; omega, ?_⟩
  rcases (mayK_iff.1 h).2 with h1 | ⟨_, h1⟩
  · rw [(mergeB_iff.1 h1).2.2.1]; exact CmG.fit_no
  · exact OpsE.mayO_fit h1
theorem strOf_app (a b : List Int) : strOf a ++ strOf b = strOf (a ++ b) := by
  unfold Byt.strOf
  rw [List.map_append, ByteArray.mk_append_mk]
theorem size_of (l : List Int) : (Byt.strOf l).size = l.length := by simp [Byt.strOf, ByteArray.size]

set_option maxRecDepth 100000 in
set_option maxHeartbeats 16000000 in
theorem few (a0 : Cv) (a1 : Option Addr) (len1 cap1 : Nat) (z1 : List Int) (w : World) (_w0 : In w a0) (_g0 : Fit a0.c) (_w1 : RowIn.RowIn .u8 w a1 len1 cap1 z1) (hK : KIn w) (x0 : fewK a0.c = false) :
    Calls Tryd.prog 5 #[.agg (cc a0), .slice a1 len1 cap1] w fun e w' => e = .returned (.bool true) ∧ Below w.heap.size w w' := by
  have X0 := aside x0
  clear x0
  have B0 : Cel.Box CE (w.alloc (.cells (cc a0) 28)) (w.heap.size) a0 := by exact Cel.Box.new (E := CE) w a0 _
  have k0 := StW.below_alloc w (.cells (cc a0) 28)
  have hK' := hK.below k0
  clear hK
  have hK := hK'
  clear hK'
  have kb := k0
  clear k0
  go_enter Tryd.func5, Tryd.ntmps5
  go_wp2_with fail
  refine (awake _ hK).mono ?_
  rintro e W1 ⟨rfl, k1⟩
  have hb : w.heap.size + 1 ≤ W1.heap.size := Nat.le_trans (by first | (simp; done) | (simp; omega)) k1.size
  have hK' := hK.below k1
  clear hK
  have hK := hK'
  clear hK'
  have B0' := B0.below k1
  clear B0
  have B0 := B0'
  clear B0'
  have kb' := kb.trans (k1.mono kb.size)
  clear kb k1
  have kb := kb'
  clear kb'
  go_wp2_with (first | go_skip | (refine CmW.gload _ rfl _ rfl a0 B0 rfl ?_))
  have hc := fun W => few_ret a0 W
  simp only [X0.out] at hc
  refine (hc _).mono ?_
  clear hc
  rintro e W2 ⟨rfl, k2⟩
  have hK' := hK.below k2
  clear hK
  have hK := hK'
  clear hK'
  have B0' := B0.below k2
  clear B0
  have B0 := B0'
  clear B0'
  have kb' := kb.trans (k2.mono kb.size)
  clear kb k2
  have kb := kb'
  clear kb'
  go_wp2_with (first | go_skip | (refine CmW.gload _ rfl _ rfl a0 B0 rfl ?_))
  go_ret
  exact ⟨by first | rfl | simp, kb⟩

set_option maxRecDepth 100000 in
set_option maxHeartbeats 16000000 in
theorem long (a0 : Cv) (a1 : Option Addr) (len1 cap1 : Nat) (z1 : List Int) (w : World) (_w0 : In w a0) (_g0 : Fit a0.c) (w1 : RowIn.RowIn .u8 w a1 len1 cap1 z1) (hK : KIn w) (x0 : fewK a0.c = true) (h : 1000 < len1) :
    Calls Tryd.prog 5 #[.agg (cc a0), .slice a1 len1 cap1] w fun e w' => e = .returned (.bool true) ∧ Below w.heap.size w w' := by
  have h1 := w1.1
  have h2 := w1.2.1
  unfold maxLen at h2
  have X0 := aside x0
  clear w1 x0
  have B0 : Cel.Box CE (w.alloc (.cells (cc a0) 28)) (w.heap.size) a0 := by exact Cel.Box.new (E := CE) w a0 _
  have k0 := StW.below_alloc w (.cells (cc a0) 28)
  have hK' := hK.below k0
  clear hK
  have hK := hK'
  clear hK'
  have kb := k0
  clear k0
  go_enter Tryd.func5, Tryd.ntmps5
  go_wp2_with fail
  refine (awake _ hK).mono ?_
  rintro e W1 ⟨rfl, k1⟩
  have hb : w.heap.size + 1 ≤ W1.heap.size := Nat.le_trans (by first | (simp; done) | (simp; omega)) k1.size
  have hK' := hK.below k1
  clear hK
  have hK := hK'
  clear hK'
  have B0' := B0.below k1
  clear B0
  have B0 := B0'
  clear B0'
  have kb' := kb.trans (k1.mono kb.size)
  clear kb k1
  have kb := kb'
  clear kb'
  go_wp2_with (first | go_skip | (refine CmW.gload _ rfl _ rfl a0 B0 rfl ?_))
  have hc := fun W => few_ret a0 W
  simp only [X0.out] at hc
  refine (hc _).mono ?_
  clear hc
  rintro e W2 ⟨rfl, k2⟩
  have hK' := hK.below k2
  clear hK
  have hK := hK'
  clear hK'
  have B0' := B0.below k2
  clear B0
  have B0 := B0'
  clear B0'
  have kb' := kb.trans (k2.mono kb.size)
  clear kb k2
  have kb := kb'
  clear kb'
  go_wp2_with (first | go_skip | (refine CmW.gload _ rfl _ rfl a0 B0 rfl ?_))
  go_ret
  exact ⟨by first | rfl | simp, kb⟩

set_option maxRecDepth 100000 in
set_option maxHeartbeats 32000000 in
theorem yes_none (a0 : Cv) (a1 : Option Addr) (len1 cap1 : Nat) (z1 : List Int) (w : World) (w0 : In w a0) (g0 : Fit a0.c) (w1 : RowIn.RowIn .u8 w a1 len1 cap1 z1) (hK : KIn w) (x0 : fewK a0.c = true) (h : len1 ≤ 1000) (x1 : mayK a0.c = true) (q : getK (z1.take len1) = Option.none) :
    Calls Tryd.prog 5 #[.agg (cc a0), .slice a1 len1 cap1] w fun e w' => e = .returned (.bool true) ∧ Below w.heap.size w w' := by
  obtain ⟨S, hl⟩ := Sl.of_row w1
  obtain ⟨bs, hbs⟩ : ∃ l, z1.take len1 = l := ⟨_, rfl⟩
  rw [hbs] at S hl q
  have X0 := aside x0
  have HB := aside S.bytes
  have HL := aside hl
  have h2 : (len1 : Int) ≤ 1000 := by omega
  have h3 := h
  obtain ⟨y1, y2, _⟩ := putB_yes x1
  obtain ⟨X, hX⟩ : ∃ l, putK a0.c = l := ⟨_, rfl⟩
  have hXl := putK_len x1
  have hXB := aside (putK_B a0.c)
  rw [hX] at y1 hXl hXB
  have nP := aside y1
  have nN := aside y2
  obtain ⟨Z, hZ⟩ : ∃ l, X ++ bs = l := ⟨_, rfl⟩
  have hZl : Z.length ≤ 1099511627776 := by rw [← hZ, List.length_append]; omega
  have hZB : Hid (∀ x ∈ Z, B x) := aside (by rw [← hZ]; exact fun x hx => (List.mem_append.1 hx).elim (hXB.out x) (HB.out x))
  have HZ := aside hZ
  have gz : getK Z = some (a0.c, bs) := by rw [← hZ, ← hX]; exact get_putK x1 bs
  have cz := fun A k W T => CmA.get_ret A k Z W T hZl
  rw [gz] at cz
  unfold GetAll gotC gotR gotN at cz
  simp only [Option.map_some, Option.getD_some, Option.isSome_some, if_true, hl] at cz
  clear y1 y2 hX hZ hZl gz x1
  have cb := fun W T => CmA.get_ret a1 cap1 bs W T (by omega)
  rw [hl, q] at cb
  unfold GetAll gotC gotR gotN at cb
  simp only [Option.map_none, Option.getD_none, Option.isSome_none] at cb
  clear x0 q hl w1 hbs h
  have B0 : Cel.Box CE (w.alloc (.cells (cc a0) 28)) (w.heap.size) a0 := by exact Cel.Box.new (E := CE) w a0 _
  have k0 := StW.below_alloc w (.cells (cc a0) 28)
  have w0' := w0.below k0
  clear w0
  have w0 := w0'
  clear w0'
  have hK' := hK.below k0
  clear hK
  have hK := hK'
  clear hK'
  have S' := S.below k0
  clear S
  have S := S'
  clear S'
  have kb := k0
  clear k0
  go_enter Tryd.func5, Tryd.ntmps5
  go_wp2_with fail
  refine (awake _ hK).mono ?_
  rintro e W1 ⟨rfl, k1⟩
  have hb : w.heap.size + 1 ≤ W1.heap.size := Nat.le_trans (by first | (simp; done) | (simp; omega)) k1.size
  have w0' := w0.below k1
  clear w0
  have w0 := w0'
  clear w0'
  have hK' := hK.below k1
  clear hK
  have hK := hK'
  clear hK'
  have S' := S.below k1
  clear S
  have S := S'
  clear S'
  have B0' := B0.below k1
  clear B0
  have B0 := B0'
  clear B0'
  have kb' := kb.trans (k1.mono kb.size)
  clear kb k1
  have kb := kb'
  clear kb'
  go_wp2_with (first | go_skip | (refine CmW.gload _ rfl _ rfl a0 B0 rfl ?_))
  have hc := fun W => few_ret a0 W
  simp only [X0.out] at hc
  refine (hc _).mono ?_
  clear hc
  rintro e W2 ⟨rfl, k2⟩
  have w0' := w0.below k2
  clear w0
  have w0 := w0'
  clear w0'
  have hK' := hK.below k2
  clear hK
  have hK := hK'
  clear hK'
  have S' := S.below k2
  clear S
  have S := S'
  clear S'
  have B0' := B0.below k2
  clear B0
  have B0 := B0'
  clear B0'
  have kb' := kb.trans (k2.mono kb.size)
  clear kb k2
  have kb := kb'
  clear kb'
  go_wp2_with (first | go_skip | (refine CmW.gload _ rfl _ rfl a0 B0 rfl ?_))
  have hc := CmA.put_ret a0 _ w0 g0
  unfold PutOut at hc
  rw [nP.out] at hc
  rw [nN.out] at hc
  refine hc.mono ?_
  clear hc
  rintro e W3 ⟨AP, CP, rfl, SP, k3⟩
  have w0' := w0.below k3
  clear w0
  have w0 := w0'
  clear w0'
  have hK' := hK.below k3
  clear hK
  have hK := hK'
  clear hK'
  have S' := S.below k3
  clear S
  have S := S'
  clear S'
  have B0' := B0.below k3
  clear B0
  have B0 := B0'
  clear B0'
  have kb' := kb.trans (k3.mono kb.size)
  clear kb k3
  have kb := kb'
  clear kb'
  go_wp2_with (first | go_skip | (refine CmW.gload _ rfl _ rfl a0 B0 rfl ?_) | (refine wpList_append_sl rfl (.const (.slice none 0 0)) (.tmp 40) 31 rfl W3.heap.size 5 Tryd.underlying31 zero_u8 (.slice none 0 0) 0 [] rfl (World.ownsRow_nil _ _ _ _) _ _ _ X rfl rfl SP (by omega) (Nat.le_refl _) ?_; intro v4 w4 own4 g4; have k4 : Below W3.heap.size W3 w4 := below_grown (Below.refl _ _) (Nat.le_refl _) g4 (fun k hk => by cases hk); have s4 := k4.size; have S4 := S.below k4; rw [Nat.zero_add, List.nil_append] at own4; have HO4 := aside own4; clear own4 g4) | (refine wpList_append_sl rfl (.tmp 41) (.tmp 42) 31 rfl W3.heap.size 5 Tryd.underlying31 zero_u8 v4 X.length X rfl HO4.out a1 len1 cap1 bs rfl HL.out S4 (by omega) s4 ?_; intro v5 w5 own5 g5; have k5 : Below W3.heap.size W3 w5 := below_grown k4 s4 g5 (fun k hk => (HO4.out.lt k hk).1); rw [HZ.out, ← HL.out, ← List.length_append, HZ.out] at own5; obtain ⟨A5, C5, rfl, S5⟩ := Sl.own own5 hZB.out; clear own5 g5 k4 s4 S4 HO4))
  have w0' := w0.below k5
  clear w0
  have w0 := w0'
  clear w0'
  have hK' := hK.below k5
  clear hK
  have hK := hK'
  clear hK'
  have S' := S.below k5
  clear S
  have S := S'
  clear S'
  have B0' := B0.below k5
  clear B0
  have B0 := B0'
  clear B0'
  have SP' := SP.below k5
  clear SP
  have SP := SP'
  clear SP'
  have kb' := kb.trans (k5.mono kb.size)
  clear kb k5
  have kb := kb'
  clear kb'
  clear SP
  refine (cz A5 C5 _ S5).mono ?_
  clear cz S5
  rintro e W4 ⟨vZ, AZ, CZ, rfl, hZ, IZ, SZ, k⟩
  have w0' := w0.below k
  clear w0
  have w0 := w0'
  clear w0'
  have hK' := hK.below k
  clear hK
  have hK := hK'
  clear hK'
  have S' := S.below k
  clear S
  have S := S'
  clear S'
  have B0' := B0.below k
  clear B0
  have B0 := B0'
  clear B0'
  have kb' := kb.trans (k.mono kb.size)
  clear kb k
  have kb := kb'
  clear kb'
  go_wp2_with (first | go_skip | (refine CmW.gload _ rfl _ rfl a0 B0 rfl ?_) | (refine Cel.wpList_store_new CE rfl _ _ rfl _ _ _ rfl vZ _ rfl rfl rfl rfl ?_; intro W5 BZ k5 g5 s5; clear g5 s5; have w0' := w0.below k5; clear w0; have w0 := w0'; clear w0'; have hK' := hK.below k5; clear hK; have hK := hK'; clear hK'; have S' := S.below k5; clear S; have S := S'; clear S'; have B0' := B0.below k5; clear B0; have B0 := B0'; clear B0'; have IZ' := IZ.below k5; clear IZ; have IZ := IZ'; clear IZ'; have SZ' := SZ.below k5; clear SZ; have SZ := SZ'; clear SZ'; have kb' := kb.trans (k5.mono kb.size); clear kb k5; have kb := kb'; clear kb') | (refine CmW.gload _ rfl _ rfl vZ BZ rfl ?_))
  have hc := CmA.same_ret a0 vZ _ w0 IZ
  rw [hZ, sameK_self] at hc
  refine hc.mono ?_
  clear hc
  rintro e W6 ⟨rfl, k⟩
  have w0' := w0.below k
  clear w0
  have w0 := w0'
  clear w0'
  have hK' := hK.below k
  clear hK
  have hK := hK'
  clear hK'
  have S' := S.below k
  clear S
  have S := S'
  clear S'
  have B0' := B0.below k
  clear B0
  have B0 := B0'
  clear B0'
  have IZ' := IZ.below k
  clear IZ
  have IZ := IZ'
  clear IZ'
  have SZ' := SZ.below k
  clear SZ
  have SZ := SZ'
  clear SZ'
  have BZ' := BZ.below k
  clear BZ
  have BZ := BZ'
  clear BZ'
  have kb' := kb.trans (k.mono kb.size)
  clear kb k
  have kb := kb'
  clear kb'
  have qZ := SZ.conv HL.out
  have qS := S.conv HL.out
  have hs : ((strOf bs).toList == (strOf bs).toList) = true := beq_self_eq_true _
  go_wp2_with (first | go_skip | (refine CmW.gload _ rfl _ rfl a0 B0 rfl ?_) | (refine CmW.gload _ rfl _ rfl vZ BZ rfl ?_))
  clear qZ qS hs
  clear BZ IZ SZ
  refine (cb _ S).mono ?_
  clear cb
  rintro e W7 ⟨vD, AD, CD, rfl, hD, ID, SD, k⟩
  have w0' := w0.below k
  clear w0
  have w0 := w0'
  clear w0'
  have hK' := hK.below k
  clear hK
  have hK := hK'
  clear hK'
  have S' := S.below k
  clear S
  have S := S'
  clear S'
  have B0' := B0.below k
  clear B0
  have B0 := B0'
  clear B0'
  have kb' := kb.trans (k.mono kb.size)
  clear kb k
  have kb := kb'
  clear kb'
  go_wp2_with (first | go_skip | (refine CmW.gload _ rfl _ rfl a0 B0 rfl ?_) | (refine Cel.wpList_store_new CE rfl _ _ rfl _ _ _ rfl vD _ rfl rfl rfl rfl ?_; intro W8 BD k8 g8 s8; clear g8 s8; have w0' := w0.below k8; clear w0; have w0 := w0'; clear w0'; have hK' := hK.below k8; clear hK; have hK := hK'; clear hK'; have S' := S.below k8; clear S; have S := S'; clear S'; have B0' := B0.below k8; clear B0; have B0 := B0'; clear B0'; have ID' := ID.below k8; clear ID; have ID := ID'; clear ID'; have SD' := SD.below k8; clear SD; have SD := SD'; clear SD'; have kb' := kb.trans (k8.mono kb.size); clear kb k8; have kb := kb'; clear kb'; have cg := cell_gen BD; rw [hD] at cg) | (refine CmW.gload _ rfl _ rfl vD BD rfl ?_))
  go_ret
  exact ⟨by first | rfl | simp [noK], kb⟩

set_option maxRecDepth 100000 in
set_option maxHeartbeats 32000000 in
theorem yes_some (a0 : Cv) (a1 : Option Addr) (len1 cap1 : Nat) (z1 : List Int) (w : World) (w0 : In w a0) (g0 : Fit a0.c) (w1 : RowIn.RowIn .u8 w a1 len1 cap1 z1) (hK : KIn w) (x0 : fewK a0.c = true) (h : len1 ≤ 1000) (x1 : mayK a0.c = true) (d : Com) (r : List Int) (q : getK (z1.take len1) = Option.some (d, r)) :
    Calls Tryd.prog 5 #[.agg (cc a0), .slice a1 len1 cap1] w fun e w' => e = .returned (.bool true) ∧ Below w.heap.size w w' := by
  obtain ⟨S, hl⟩ := Sl.of_row w1
  obtain ⟨bs, hbs⟩ : ∃ l, z1.take len1 = l := ⟨_, rfl⟩
  rw [hbs] at S hl q
  have X0 := aside x0
  have HB := aside S.bytes
  have HL := aside hl
  have h2 : (len1 : Int) ≤ 1000 := by omega
  have h3 := h
  obtain ⟨y1, y2, _⟩ := putB_yes x1
  obtain ⟨X, hX⟩ : ∃ l, putK a0.c = l := ⟨_, rfl⟩
  have hXl := putK_len x1
  have hXB := aside (putK_B a0.c)
  rw [hX] at y1 hXl hXB
  have nP := aside y1
  have nN := aside y2
  obtain ⟨Z, hZ⟩ : ∃ l, X ++ bs = l := ⟨_, rfl⟩
  have hZl : Z.length ≤ 1099511627776 := by rw [← hZ, List.length_append]; omega
  have hZB : Hid (∀ x ∈ Z, B x) := aside (by rw [← hZ]; exact fun x hx => (List.mem_append.1 hx).elim (hXB.out x) (HB.out x))
  have HZ := aside hZ
  have gz : getK Z = some (a0.c, bs) := by rw [← hZ, ← hX]; exact get_putK x1 bs
  have cz := fun A k W T => CmA.get_ret A k Z W T hZl
  rw [gz] at cz
  unfold GetAll gotC gotR gotN at cz
  simp only [Option.map_some, Option.getD_some, Option.isSome_some, if_true, hl] at cz
  clear y1 y2 hX hZ hZl gz x1
  have cb := fun W T => CmA.get_ret a1 cap1 bs W T (by omega)
  rw [hl, q] at cb
  unfold GetAll gotC gotR gotN at cb
  simp only [Option.map_some, Option.getD_some, Option.isSome_some, if_true] at cb
  obtain ⟨md, eb⟩ := put_getK HB.out q
  obtain ⟨t1, t2, _⟩ := putB_yes md
  obtain ⟨Y, hY⟩ : ∃ l, putK d = l := ⟨_, rfl⟩
  rw [hY] at t1 eb
  have HS : Hid (((strOf Y ++ strOf r).toList == (strOf bs).toList) = true) := aside (by rw [strOf_app, ← eb]; exact beq_self_eq_true _)
  have HSZ : Hid (¬ 9223372036854775807 < (strOf Y).size + (strOf r).size) := aside (by rw [size_of, size_of]; have := congrArg List.length eb; rw [List.length_append] at this; omega)
  have HT1 := aside t1
  have HT2 := aside t2
  have HMD := aside md
  clear md eb t1 t2 hY
  clear x0 q hl w1 hbs h
  have B0 : Cel.Box CE (w.alloc (.cells (cc a0) 28)) (w.heap.size) a0 := by exact Cel.Box.new (E := CE) w a0 _
  have k0 := StW.below_alloc w (.cells (cc a0) 28)
  have w0' := w0.below k0
  clear w0
  have w0 := w0'
  clear w0'
  have hK' := hK.below k0
  clear hK
  have hK := hK'
  clear hK'
  have S' := S.below k0
  clear S
  have S := S'
  clear S'
  have kb := k0
  clear k0
  go_enter Tryd.func5, Tryd.ntmps5
  go_wp2_with fail
  refine (awake _ hK).mono ?_
  rintro e W1 ⟨rfl, k1⟩
  have hb : w.heap.size + 1 ≤ W1.heap.size := Nat.le_trans (by first | (simp; done) | (simp; omega)) k1.size
  have w0' := w0.below k1
  clear w0
  have w0 := w0'
  clear w0'
  have hK' := hK.below k1
  clear hK
  have hK := hK'
  clear hK'
  have S' := S.below k1
  clear S
  have S := S'
  clear S'
  have B0' := B0.below k1
  clear B0
  have B0 := B0'
  clear B0'
  have kb' := kb.trans (k1.mono kb.size)
  clear kb k1
  have kb := kb'
  clear kb'
  go_wp2_with (first | go_skip | (refine CmW.gload _ rfl _ rfl a0 B0 rfl ?_))
  have hc := fun W => few_ret a0 W
  simp only [X0.out] at hc
  refine (hc _).mono ?_
  clear hc
  rintro e W2 ⟨rfl, k2⟩
  have w0' := w0.below k2
  clear w0
  have w0 := w0'
  clear w0'
  have hK' := hK.below k2
  clear hK
  have hK := hK'
  clear hK'
  have S' := S.below k2
  clear S
  have S := S'
  clear S'
  have B0' := B0.below k2
  clear B0
  have B0 := B0'
  clear B0'
  have kb' := kb.trans (k2.mono kb.size)
  clear kb k2
  have kb := kb'
  clear kb'
  go_wp2_with (first | go_skip | (refine CmW.gload _ rfl _ rfl a0 B0 rfl ?_))
  have hc := CmA.put_ret a0 _ w0 g0
  unfold PutOut at hc
  rw [nP.out] at hc
  rw [nN.out] at hc
  refine hc.mono ?_
  clear hc
  rintro e W3 ⟨AP, CP, rfl, SP, k3⟩
  have w0' := w0.below k3
  clear w0
  have w0 := w0'
  clear w0'
  have hK' := hK.below k3
  clear hK
  have hK := hK'
  clear hK'
  have S' := S.below k3
  clear S
  have S := S'
  clear S'
  have B0' := B0.below k3
  clear B0
  have B0 := B0'
  clear B0'
  have kb' := kb.trans (k3.mono kb.size)
  clear kb k3
  have kb := kb'
  clear kb'
  go_wp2_with (first | go_skip | (refine CmW.gload _ rfl _ rfl a0 B0 rfl ?_) | (refine wpList_append_sl rfl (.const (.slice none 0 0)) (.tmp 40) 31 rfl W3.heap.size 5 Tryd.underlying31 zero_u8 (.slice none 0 0) 0 [] rfl (World.ownsRow_nil _ _ _ _) _ _ _ X rfl rfl SP (by omega) (Nat.le_refl _) ?_; intro v4 w4 own4 g4; have k4 : Below W3.heap.size W3 w4 := below_grown (Below.refl _ _) (Nat.le_refl _) g4 (fun k hk => by cases hk); have s4 := k4.size; have S4 := S.below k4; rw [Nat.zero_add, List.nil_append] at own4; have HO4 := aside own4; clear own4 g4) | (refine wpList_append_sl rfl (.tmp 41) (.tmp 42) 31 rfl W3.heap.size 5 Tryd.underlying31 zero_u8 v4 X.length X rfl HO4.out a1 len1 cap1 bs rfl HL.out S4 (by omega) s4 ?_; intro v5 w5 own5 g5; have k5 : Below W3.heap.size W3 w5 := below_grown k4 s4 g5 (fun k hk => (HO4.out.lt k hk).1); rw [HZ.out, ← HL.out, ← List.length_append, HZ.out] at own5; obtain ⟨A5, C5, rfl, S5⟩ := Sl.own own5 hZB.out; clear own5 g5 k4 s4 S4 HO4))
  have w0' := w0.below k5
  clear w0
  have w0 := w0'
  clear w0'
  have hK' := hK.below k5
  clear hK
  have hK := hK'
  clear hK'
  have S' := S.below k5
  clear S
  have S := S'
  clear S'
  have B0' := B0.below k5
  clear B0
  have B0 := B0'
  clear B0'
  have SP' := SP.below k5
  clear SP
  have SP := SP'
  clear SP'
  have kb' := kb.trans (k5.mono kb.size)
  clear kb k5
  have kb := kb'
  clear kb'
  clear SP
  refine (cz A5 C5 _ S5).mono ?_
  clear cz S5
  rintro e W4 ⟨vZ, AZ, CZ, rfl, hZ, IZ, SZ, k⟩
  have w0' := w0.below k
  clear w0
  have w0 := w0'
  clear w0'
  have hK' := hK.below k
  clear hK
  have hK := hK'
  clear hK'
  have S' := S.below k
  clear S
  have S := S'
  clear S'
  have B0' := B0.below k
  clear B0
  have B0 := B0'
  clear B0'
  have kb' := kb.trans (k.mono kb.size)
  clear kb k
  have kb := kb'
  clear kb'
  go_wp2_with (first | go_skip | (refine CmW.gload _ rfl _ rfl a0 B0 rfl ?_) | (refine Cel.wpList_store_new CE rfl _ _ rfl _ _ _ rfl vZ _ rfl rfl rfl rfl ?_; intro W5 BZ k5 g5 s5; clear g5 s5; have w0' := w0.below k5; clear w0; have w0 := w0'; clear w0'; have hK' := hK.below k5; clear hK; have hK := hK'; clear hK'; have S' := S.below k5; clear S; have S := S'; clear S'; have B0' := B0.below k5; clear B0; have B0 := B0'; clear B0'; have IZ' := IZ.below k5; clear IZ; have IZ := IZ'; clear IZ'; have SZ' := SZ.below k5; clear SZ; have SZ := SZ'; clear SZ'; have kb' := kb.trans (k5.mono kb.size); clear kb k5; have kb := kb'; clear kb') | (refine CmW.gload _ rfl _ rfl vZ BZ rfl ?_))
  have hc := CmA.same_ret a0 vZ _ w0 IZ
  rw [hZ, sameK_self] at hc
  refine hc.mono ?_
  clear hc
  rintro e W6 ⟨rfl, k⟩
  have w0' := w0.below k
  clear w0
  have w0 := w0'
  clear w0'
  have hK' := hK.below k
  clear hK
  have hK := hK'
  clear hK'
  have S' := S.below k
  clear S
  have S := S'
  clear S'
  have B0' := B0.below k
  clear B0
  have B0 := B0'
  clear B0'
  have IZ' := IZ.below k
  clear IZ
  have IZ := IZ'
  clear IZ'
  have SZ' := SZ.below k
  clear SZ
  have SZ := SZ'
  clear SZ'
  have BZ' := BZ.below k
  clear BZ
  have BZ := BZ'
  clear BZ'
  have kb' := kb.trans (k.mono kb.size)
  clear kb k
  have kb := kb'
  clear kb'
  have qZ := SZ.conv HL.out
  have qS := S.conv HL.out
  have hs : ((strOf bs).toList == (strOf bs).toList) = true := beq_self_eq_true _
  go_wp2_with (first | go_skip | (refine CmW.gload _ rfl _ rfl a0 B0 rfl ?_) | (refine CmW.gload _ rfl _ rfl vZ BZ rfl ?_))
  clear qZ qS hs
  clear BZ IZ SZ
  refine (cb _ S).mono ?_
  clear cb
  rintro e W7 ⟨vD, AD, CD, rfl, hD, ID, SD, k⟩
  have w0' := w0.below k
  clear w0
  have w0 := w0'
  clear w0'
  have hK' := hK.below k
  clear hK
  have hK := hK'
  clear hK'
  have S' := S.below k
  clear S
  have S := S'
  clear S'
  have B0' := B0.below k
  clear B0
  have B0 := B0'
  clear B0'
  have kb' := kb.trans (k.mono kb.size)
  clear kb k
  have kb := kb'
  clear kb'
  have fD : Fit vD.c := by rw [hD]; exact fit_may HMD.out
  go_wp2_with (first | go_skip | (refine CmW.gload _ rfl _ rfl a0 B0 rfl ?_) | (refine Cel.wpList_store_new CE rfl _ _ rfl _ _ _ rfl vD _ rfl rfl rfl rfl ?_; intro W8 BD k8 g8 s8; clear g8 s8; have w0' := w0.below k8; clear w0; have w0 := w0'; clear w0'; have hK' := hK.below k8; clear hK; have hK := hK'; clear hK'; have S' := S.below k8; clear S; have S := S'; clear S'; have B0' := B0.below k8; clear B0; have B0 := B0'; clear B0'; have ID' := ID.below k8; clear ID; have ID := ID'; clear ID'; have SD' := SD.below k8; clear SD; have SD := SD'; clear SD'; have kb' := kb.trans (k8.mono kb.size); clear kb k8; have kb := kb'; clear kb') | (refine CmW.gload _ rfl _ rfl vD BD rfl ?_))
  have hc := CmA.put_ret vD _ ID fD
  unfold PutOut at hc
  rw [hD, HT1.out, HT2.out] at hc
  refine hc.mono ?_
  clear hc
  rintro e W9 ⟨AY, CY, rfl, SY, k9⟩
  have w0' := w0.below k9
  clear w0
  have w0 := w0'
  clear w0'
  have hK' := hK.below k9
  clear hK
  have hK := hK'
  clear hK'
  have S' := S.below k9
  clear S
  have S := S'
  clear S'
  have B0' := B0.below k9
  clear B0
  have B0 := B0'
  clear B0'
  have ID' := ID.below k9
  clear ID
  have ID := ID'
  clear ID'
  have SD' := SD.below k9
  clear SD
  have SD := SD'
  clear SD'
  have BD' := BD.below k9
  clear BD
  have BD := BD'
  clear BD'
  have kb' := kb.trans (k9.mono kb.size)
  clear kb k9
  have kb := kb'
  clear kb'
  go_wp2_with (first | go_skip | (refine CmW.gload _ rfl _ rfl a0 B0 rfl ?_) | (refine CmW.gload _ rfl _ rfl vD BD rfl ?_))
  have hc := CmA.may_ret vD _ ID fD
  rw [hD, HMD.out] at hc
  refine hc.mono ?_
  clear hc
  rintro e W10 ⟨rfl, k10⟩
  have w0' := w0.below k10
  clear w0
  have w0 := w0'
  clear w0'
  have hK' := hK.below k10
  clear hK
  have hK := hK'
  clear hK'
  have S' := S.below k10
  clear S
  have S := S'
  clear S'
  have B0' := B0.below k10
  clear B0
  have B0 := B0'
  clear B0'
  have ID' := ID.below k10
  clear ID
  have ID := ID'
  clear ID'
  have SD' := SD.below k10
  clear SD
  have SD := SD'
  clear SD'
  have BD' := BD.below k10
  clear BD
  have BD := BD'
  clear BD'
  have SY' := SY.below k10
  clear SY
  have SY := SY'
  clear SY'
  have kb' := kb.trans (k10.mono kb.size)
  clear kb k10
  have kb := kb'
  clear kb'
  have qY := SY.conv rfl
  have qR := SD.conv rfl
  have qS := S.conv HL.out
  have hs := HS.out
  have hsz := HSZ.out
  go_wp2_with (first | go_skip | (refine CmW.gload _ rfl _ rfl a0 B0 rfl ?_) | (refine CmW.gload _ rfl _ rfl vD BD rfl ?_))
  go_ret
  exact ⟨by first | rfl | simp, kb⟩

set_option maxRecDepth 100000 in
set_option maxHeartbeats 32000000 in
theorem no_none (a0 : Cv) (a1 : Option Addr) (len1 cap1 : Nat) (z1 : List Int) (w : World) (w0 : In w a0) (g0 : Fit a0.c) (w1 : RowIn.RowIn .u8 w a1 len1 cap1 z1) (hK : KIn w) (x0 : fewK a0.c = true) (h : len1 ≤ 1000) (x1 : mayK a0.c = false) (q : getK (z1.take len1) = Option.none) :
    Calls Tryd.prog 5 #[.agg (cc a0), .slice a1 len1 cap1] w fun e w' => e = .returned (.bool true) ∧ Below w.heap.size w w' := by
  obtain ⟨S, hl⟩ := Sl.of_row w1
  obtain ⟨bs, hbs⟩ : ∃ l, z1.take len1 = l := ⟨_, rfl⟩
  rw [hbs] at S hl q
  have X0 := aside x0
  have HB := aside S.bytes
  have HL := aside hl
  have h2 : (len1 : Int) ≤ 1000 := by omega
  have h3 := h
  obtain ⟨y1, y2, _⟩ := putB_no x1
  have nP := aside y1
  have nN := aside y2
  clear y1 y2 x1
  have cb := fun W T => CmA.get_ret a1 cap1 bs W T (by omega)
  rw [hl, q] at cb
  unfold GetAll gotC gotR gotN at cb
  simp only [Option.map_none, Option.getD_none, Option.isSome_none] at cb
  clear x0 q hl w1 hbs h
  have B0 : Cel.Box CE (w.alloc (.cells (cc a0) 28)) (w.heap.size) a0 := by exact Cel.Box.new (E := CE) w a0 _
  have k0 := StW.below_alloc w (.cells (cc a0) 28)
  have w0' := w0.below k0
  clear w0
  have w0 := w0'
  clear w0'
  have hK' := hK.below k0
  clear hK
  have hK := hK'
  clear hK'
  have S' := S.below k0
  clear S
  have S := S'
  clear S'
  have kb := k0
  clear k0
  go_enter Tryd.func5, Tryd.ntmps5
  go_wp2_with fail
  refine (awake _ hK).mono ?_
  rintro e W1 ⟨rfl, k1⟩
  have hb : w.heap.size + 1 ≤ W1.heap.size := Nat.le_trans (by first | (simp; done) | (simp; omega)) k1.size
  have w0' := w0.below k1
  clear w0
  have w0 := w0'
  clear w0'
  have hK' := hK.below k1
  clear hK
  have hK := hK'
  clear hK'
  have S' := S.below k1
  clear S
  have S := S'
  clear S'
  have B0' := B0.below k1
  clear B0
  have B0 := B0'
  clear B0'
  have kb' := kb.trans (k1.mono kb.size)
  clear kb k1
  have kb := kb'
  clear kb'
  go_wp2_with (first | go_skip | (refine CmW.gload _ rfl _ rfl a0 B0 rfl ?_))
  have hc := fun W => few_ret a0 W
  simp only [X0.out] at hc
  refine (hc _).mono ?_
  clear hc
  rintro e W2 ⟨rfl, k2⟩
  have w0' := w0.below k2
  clear w0
  have w0 := w0'
  clear w0'
  have hK' := hK.below k2
  clear hK
  have hK := hK'
  clear hK'
  have S' := S.below k2
  clear S
  have S := S'
  clear S'
  have B0' := B0.below k2
  clear B0
  have B0 := B0'
  clear B0'
  have kb' := kb.trans (k2.mono kb.size)
  clear kb k2
  have kb := kb'
  clear kb'
  go_wp2_with (first | go_skip | (refine CmW.gload _ rfl _ rfl a0 B0 rfl ?_))
  have hc := CmA.put_ret a0 _ w0 g0
  unfold PutOut at hc
  rw [nP.out, nN.out] at hc
  refine hc.mono ?_
  clear hc
  rintro e W3 ⟨AP, CP, rfl, _, k3⟩
  have w0' := w0.below k3
  clear w0
  have w0 := w0'
  clear w0'
  have hK' := hK.below k3
  clear hK
  have hK := hK'
  clear hK'
  have S' := S.below k3
  clear S
  have S := S'
  clear S'
  have B0' := B0.below k3
  clear B0
  have B0 := B0'
  clear B0'
  have kb' := kb.trans (k3.mono kb.size)
  clear kb k3
  have kb := kb'
  clear kb'
  go_wp2_with (first | go_skip | (refine CmW.gload _ rfl _ rfl a0 B0 rfl ?_))
  refine (cb _ S).mono ?_
  clear cb
  rintro e W4 ⟨vD, AD, CD, rfl, hD, ID, SD, k⟩
  have w0' := w0.below k
  clear w0
  have w0 := w0'
  clear w0'
  have hK' := hK.below k
  clear hK
  have hK := hK'
  clear hK'
  have S' := S.below k
  clear S
  have S := S'
  clear S'
  have B0' := B0.below k
  clear B0
  have B0 := B0'
  clear B0'
  have kb' := kb.trans (k.mono kb.size)
  clear kb k
  have kb := kb'
  clear kb'
  go_wp2_with (first | go_skip | (refine CmW.gload _ rfl _ rfl a0 B0 rfl ?_) | (refine Cel.wpList_store_new CE rfl _ _ rfl _ _ _ rfl vD _ rfl rfl rfl rfl ?_; intro W5 BD k5 g5 s5; clear g5 s5; have w0' := w0.below k5; clear w0; have w0 := w0'; clear w0'; have hK' := hK.below k5; clear hK; have hK := hK'; clear hK'; have S' := S.below k5; clear S; have S := S'; clear S'; have B0' := B0.below k5; clear B0; have B0 := B0'; clear B0'; have ID' := ID.below k5; clear ID; have ID := ID'; clear ID'; have SD' := SD.below k5; clear SD; have SD := SD'; clear SD'; have kb' := kb.trans (k5.mono kb.size); clear kb k5; have kb := kb'; clear kb'; have cg := cell_gen BD; rw [hD] at cg) | (refine CmW.gload _ rfl _ rfl vD BD rfl ?_))
  go_ret
  exact ⟨by first | rfl | simp [noK], kb⟩

set_option maxRecDepth 100000 in
set_option maxHeartbeats 32000000 in
theorem no_some (a0 : Cv) (a1 : Option Addr) (len1 cap1 : Nat) (z1 : List Int) (w : World) (w0 : In w a0) (g0 : Fit a0.c) (w1 : RowIn.RowIn .u8 w a1 len1 cap1 z1) (hK : KIn w) (x0 : fewK a0.c = true) (h : len1 ≤ 1000) (x1 : mayK a0.c = false) (d : Com) (r : List Int) (q : getK (z1.take len1) = Option.some (d, r)) :
    Calls Tryd.prog 5 #[.agg (cc a0), .slice a1 len1 cap1] w fun e w' => e = .returned (.bool true) ∧ Below w.heap.size w w' := by
  obtain ⟨S, hl⟩ := Sl.of_row w1
  obtain ⟨bs, hbs⟩ : ∃ l, z1.take len1 = l := ⟨_, rfl⟩
  rw [hbs] at S hl q
  have X0 := aside x0
  have HB := aside S.bytes
  have HL := aside hl
  have h2 : (len1 : Int) ≤ 1000 := by omega
  have h3 := h
  obtain ⟨y1, y2, _⟩ := putB_no x1
  have nP := aside y1
  have nN := aside y2
  clear y1 y2 x1
  have cb := fun W T => CmA.get_ret a1 cap1 bs W T (by omega)
  rw [hl, q] at cb
  unfold GetAll gotC gotR gotN at cb
  simp only [Option.map_some, Option.getD_some, Option.isSome_some, if_true] at cb
  obtain ⟨md, eb⟩ := put_getK HB.out q
  obtain ⟨t1, t2, _⟩ := putB_yes md
  obtain ⟨Y, hY⟩ : ∃ l, putK d = l := ⟨_, rfl⟩
  rw [hY] at t1 eb
  have HS : Hid (((strOf Y ++ strOf r).toList == (strOf bs).toList) = true) := aside (by rw [strOf_app, ← eb]; exact beq_self_eq_true _)
  have HSZ : Hid (¬ 9223372036854775807 < (strOf Y).size + (strOf r).size) := aside (by rw [size_of, size_of]; have := congrArg List.length eb; rw [List.length_append] at this; omega)
  have HT1 := aside t1
  have HT2 := aside t2
  have HMD := aside md
  clear md eb t1 t2 hY
  clear x0 q hl w1 hbs h
  have B0 : Cel.Box CE (w.alloc (.cells (cc a0) 28)) (w.heap.size) a0 := by exact Cel.Box.new (E := CE) w a0 _
  have k0 := StW.below_alloc w (.cells (cc a0) 28)
  have w0' := w0.below k0
  clear w0
  have w0 := w0'
  clear w0'
  have hK' := hK.below k0
  clear hK
  have hK := hK'
  clear hK'
  have S' := S.below k0
  clear S
  have S := S'
  clear S'
  have kb := k0
  clear k0
  go_enter Tryd.func5, Tryd.ntmps5
  go_wp2_with fail
  refine (awake _ hK).mono ?_
  rintro e W1 ⟨rfl, k1⟩
  have hb : w.heap.size + 1 ≤ W1.heap.size := Nat.le_trans (by first | (simp; done) | (simp; omega)) k1.size
  have w0' := w0.below k1
  clear w0
  have w0 := w0'
  clear w0'
  have hK' := hK.below k1
  clear hK
  have hK := hK'
  clear hK'
  have S' := S.below k1
  clear S
  have S := S'
  clear S'
  have B0' := B0.below k1
  clear B0
  have B0 := B0'
  clear B0'
  have kb' := kb.trans (k1.mono kb.size)
  clear kb k1
  have kb := kb'
  clear kb'
  go_wp2_with (first | go_skip | (refine CmW.gload _ rfl _ rfl a0 B0 rfl ?_))
  have hc := fun W => few_ret a0 W
  simp only [X0.out] at hc
  refine (hc _).mono ?_
  clear hc
  rintro e W2 ⟨rfl, k2⟩
  have w0' := w0.below k2
  clear w0
  have w0 := w0'
  clear w0'
  have hK' := hK.below k2
  clear hK
  have hK := hK'
  clear hK'
  have S' := S.below k2
  clear S
  have S := S'
  clear S'
  have B0' := B0.below k2
  clear B0
  have B0 := B0'
  clear B0'
  have kb' := kb.trans (k2.mono kb.size)
  clear kb k2
  have kb := kb'
  clear kb'
  go_wp2_with (first | go_skip | (refine CmW.gload _ rfl _ rfl a0 B0 rfl ?_))
  have hc := CmA.put_ret a0 _ w0 g0
  unfold PutOut at hc
  rw [nP.out, nN.out] at hc
  refine hc.mono ?_
  clear hc
  rintro e W3 ⟨AP, CP, rfl, _, k3⟩
  have w0' := w0.below k3
  clear w0
  have w0 := w0'
  clear w0'
  have hK' := hK.below k3
  clear hK
  have hK := hK'
  clear hK'
  have S' := S.below k3
  clear S
  have S := S'
  clear S'
  have B0' := B0.below k3
  clear B0
  have B0 := B0'
  clear B0'
  have kb' := kb.trans (k3.mono kb.size)
  clear kb k3
  have kb := kb'
  clear kb'
  go_wp2_with (first | go_skip | (refine CmW.gload _ rfl _ rfl a0 B0 rfl ?_))
  refine (cb _ S).mono ?_
  clear cb
  rintro e W4 ⟨vD, AD, CD, rfl, hD, ID, SD, k⟩
  have w0' := w0.below k
  clear w0
  have w0 := w0'
  clear w0'
  have hK' := hK.below k
  clear hK
  have hK := hK'
  clear hK'
  have S' := S.below k
  clear S
  have S := S'
  clear S'
  have B0' := B0.below k
  clear B0
  have B0 := B0'
  clear B0'
  have kb' := kb.trans (k.mono kb.size)
  clear kb k
  have kb := kb'
  clear kb'
  have fD : Fit vD.c := by rw [hD]; exact fit_may HMD.out
  go_wp2_with (first | go_skip | (refine CmW.gload _ rfl _ rfl a0 B0 rfl ?_) | (refine Cel.wpList_store_new CE rfl _ _ rfl _ _ _ rfl vD _ rfl rfl rfl rfl ?_; intro W5 BD k5 g5 s5; clear g5 s5; have w0' := w0.below k5; clear w0; have w0 := w0'; clear w0'; have hK' := hK.below k5; clear hK; have hK := hK'; clear hK'; have S' := S.below k5; clear S; have S := S'; clear S'; have B0' := B0.below k5; clear B0; have B0 := B0'; clear B0'; have ID' := ID.below k5; clear ID; have ID := ID'; clear ID'; have SD' := SD.below k5; clear SD; have SD := SD'; clear SD'; have kb' := kb.trans (k5.mono kb.size); clear kb k5; have kb := kb'; clear kb') | (refine CmW.gload _ rfl _ rfl vD BD rfl ?_))
  have hc := CmA.put_ret vD _ ID fD
  unfold PutOut at hc
  rw [hD, HT1.out, HT2.out] at hc
  refine hc.mono ?_
  clear hc
  rintro e W6 ⟨AY, CY, rfl, SY, k6⟩
  have w0' := w0.below k6
  clear w0
  have w0 := w0'
  clear w0'
  have hK' := hK.below k6
  clear hK
  have hK := hK'
  clear hK'
  have S' := S.below k6
  clear S
  have S := S'
  clear S'
  have B0' := B0.below k6
  clear B0
  have B0 := B0'
  clear B0'
  have ID' := ID.below k6
  clear ID
  have ID := ID'
  clear ID'
  have SD' := SD.below k6
  clear SD
  have SD := SD'
  clear SD'
  have BD' := BD.below k6
  clear BD
  have BD := BD'
  clear BD'
  have kb' := kb.trans (k6.mono kb.size)
  clear kb k6
  have kb := kb'
  clear kb'
  go_wp2_with (first | go_skip | (refine CmW.gload _ rfl _ rfl a0 B0 rfl ?_) | (refine CmW.gload _ rfl _ rfl vD BD rfl ?_))
  have hc := CmA.may_ret vD _ ID fD
  rw [hD, HMD.out] at hc
  refine hc.mono ?_
  clear hc
  rintro e W7 ⟨rfl, k7⟩
  have w0' := w0.below k7
  clear w0
  have w0 := w0'
  clear w0'
  have hK' := hK.below k7
  clear hK
  have hK := hK'
  clear hK'
  have S' := S.below k7
  clear S
  have S := S'
  clear S'
  have B0' := B0.below k7
  clear B0
  have B0 := B0'
  clear B0'
  have ID' := ID.below k7
  clear ID
  have ID := ID'
  clear ID'
  have SD' := SD.below k7
  clear SD
  have SD := SD'
  clear SD'
  have BD' := BD.below k7
  clear BD
  have BD := BD'
  clear BD'
  have SY' := SY.below k7
  clear SY
  have SY := SY'
  clear SY'
  have kb' := kb.trans (k7.mono kb.size)
  clear kb k7
  have kb := kb'
  clear kb'
  have qY := SY.conv rfl
  have qR := SD.conv rfl
  have qS := S.conv HL.out
  have hs := HS.out
  have hsz := HSZ.out
  go_wp2_with (first | go_skip | (refine CmW.gload _ rfl _ rfl a0 B0 rfl ?_) | (refine CmW.gload _ rfl _ rfl vD BD rfl ?_))
  go_ret
  exact ⟨by first | rfl | simp, kb⟩

theorem walk (a0 : Cv) (a1 : Option Addr) (len1 cap1 : Nat) (z1 : List Int) (w : World) (w0 : In w a0) (g0 : Fit a0.c) (w1 : RowIn.RowIn .u8 w a1 len1 cap1 z1) (hK : KIn w) :
    Calls Tryd.prog 5 #[.agg (cc a0), .slice a1 len1 cap1] w fun e w' => e = .returned (.bool true) ∧ Below w.heap.size w w' := by
  cases x0 : fewK a0.c with
  | false => exact few a0 a1 len1 cap1 z1 w w0 g0 w1 hK x0
  | true =>
    by_cases h : len1 ≤ 1000
    · cases x1 : mayK a0.c with
      | true =>
        cases q : getK (z1.take len1) with
        | none => exact yes_none a0 a1 len1 cap1 z1 w w0 g0 w1 hK x0 h x1 q
        | some p => exact yes_some a0 a1 len1 cap1 z1 w w0 g0 w1 hK x0 h x1 p.1 p.2 q
      | false =>
        cases q : getK (z1.take len1) with
        | none => exact no_none a0 a1 len1 cap1 z1 w w0 g0 w1 hK x0 h x1 q
        | some p => exact no_some a0 a1 len1 cap1 z1 w w0 g0 w1 hK x0 h x1 p.1 p.2 q
    · exact long a0 a1 len1 cap1 z1 w w0 g0 w1 hK x0 (by omega)

theorem own : ownKnob Tryd.prog.godebug = none := by kernel_rfl
theorem laidOut : laidOutB Tryd.prog = true := by kernel_rfl
set_option linter.unusedVariables false in
set_option maxRecDepth 100000 in
theorem lifted (os : Os) (started : os.Started) (H : Type) (enc : TypeId × Value → H) :
    ReturnsInHanded {} Tryd.checked os 5 .any (fun w args => (Rows.commitBackSpec.pre enc Tryd.prog Tryd.f5 [] false w args ∧ laidMetH Tryd.prog ShaL.laid1 w) ∧ sizedMet enc Tryd.prog Tryd.f5 (OpenSpec.ofChange Rows.commitBackSpec) false w args)
      (Rows.commitBackSpec.post enc Tryd.prog Tryd.f5 false true false false) := by
  refine returnsInHanded_of_change_and (C := Tryd.checked) (X := fun w _ => laidMetH Tryd.prog ShaL.laid1 w) (fun _ _ _ hh h => h.of_heap hh) own started (by kernel_rfl) Tryd.func5
    (ChangeSpec.witness_shaped (enc := enc) (C := Tryd.checked) (os := os) (X := fun w _ => laidMetH Tryd.prog ShaL.laid1 w) false (World.doorLaid Tryd.prog 14 os) #[.agg #[.int .i64 0, .int .i64 0, .int .i64 0, .slice none 0 0, .int .i64 0, .string ByteArray.empty, .string ByteArray.empty, .int .i64 0], .slice none 0 0] 8 rfl (World.shaped_of_RefB (by kernel_rfl) (by kernel_rfl)) (by kernel_rfl) (by kernel_rfl) (by kernel_rfl) (ShaL.door_met os _)) ?_
  intro W base args ds gs before hval0 hW _ _ hL _
  have hval : ∀ (j : Nat) t v, Tryd.f5.params[j]? = some t → args[j]? = some v → Value.okWide Tryd.prog W .any base t v := hval0
  have hW' := hW
  obtain ⟨p, q, hA0, hV, rfl, hfz, hnd⟩ := hW
  have hA : DataW.TrodAll enc Tryd.prog W 0 (fun _ => true) true Tryd.f5.params.toList args.toList ds p := hA0
  rw [Tryd.params5] at hA hval
  obtain ⟨v0, vs0, d0, ds0, p0, q0, hargs, rfl, rfl, h0, r0⟩ := trodAll_cons hA
  obtain ⟨v1, vs1, d1, ds1, p1, q1, rfl, rfl, rfl, h1, r1⟩ := trodAll_cons r0
  obtain ⟨rfl, rfl, rfl⟩ := trodAll_nil r1
  obtain rfl : args = #[v0, v1] := by cases args; simp_all
  obtain ⟨rfl, rfl⟩ := trodVars_none hV
  have k0 := h0
  have lt0 : ∀ x ∈ p0, x.block < W.heap.size := by obtain ⟨m, hm⟩ := k0; exact DataW.trod_lt m _ _ _ hm
  obtain ⟨a0, rfl, w0, g0⟩ := OpenK.open_com (hval 0 28 v0 rfl rfl) h0
  have k1 := h1
  have lt1 : ∀ x ∈ p1, x.block < W.heap.size := by obtain ⟨m, hm⟩ := k1; exact DataW.trod_lt m _ _ _ hm
  obtain ⟨a1, len1, cap1, z1, rfl, w1⟩ := RowIn.open_row Tryd.underlying31 Tryd.underlying5 (by kernel_rfl) (hval 1 31 v1 rfl rfl) h1
  clear hA0 hval0
  refine (walk a0 a1 len1 cap1 z1 W w0 g0 w1 (ShaL.of_laid hL)).mono fun e W' ⟨he, bel⟩ => ?_
  subst he
  exact ⟨_, rfl, _, _, _, [], _, [], hW', trodAll_mk1 (shut_bool Tryd.underlying4 _), (trodAll_cons_mk (Below.trod laidOut (by kernel_rfl) (of_decide_eq_true (by kernel_rfl)) k0 bel lt0) (trodAll_cons_mk (Below.trod laidOut (by kernel_rfl) (of_decide_eq_true (by kernel_rfl)) k1 bel lt1) trodAll_mk0)), rfl, bel.frame _, fun h => by cases h⟩

theorem over : Rows.commitBackRow.holds Tryd.pinned (OpenSpec.ofChange Rows.commitBackSpec) :=
  OpenClaim.holds_of_wide 5 Tryd.f5 rfl rfl rfl rfl rfl rfl rfl ⟨rfl, rfl, rfl, rfl, rfl⟩ rfl rfl rfl rfl rfl (by kernel_rfl) Tryd.func5 (by kernel_rfl)
    (of_decide_eq_true (by kernel_rfl)) (by unfold Func.isWrapper; first | (rw [if_pos (by decide +kernel)]; kernel_rfl) | (rw [if_neg (by decide +kernel)]; exact ⟨rfl, rfl⟩))
    (fun os started H enc _ => lifted os started H enc)

theorem proved : Rows.CommitBackCardSaid :=
  Claim7.holds_tied_plain_at .later [] Rows.commitBackCard.laidKinds true Rows.commitBackCard.stood.harness Rows.commitBackCard.stood.looks
    over (fun _ h => by cases h) (by kernel_rfl) (fun _ h => by cases h) commitBack_row_tie rfl ⟨rfl, rfl⟩ (by kernel_rfl) rfl
    (fun f fn hf hfn => by
      obtain rfl : f = 5 := Option.some.inj ((show Tryd.prog.funcNamed Rows.commitBackRow.func = some 5 by kernel_rfl).symm.trans hf) |>.symm
      obtain rfl : fn = Tryd.f5 := (Option.some.inj (Tryd.func5.symm.trans hfn)).symm
      exact ⟨by kernel_rfl, fun j t ht => by
        rw [Tryd.params5] at ht
        have hm : t ∈ [28, 31] := by simpa using Array.mem_of_getElem? ht
        have hall : ([28, 31].all fun u => !Tryd.prog.wantsStandIn u) = true := by kernel_rfl
        exact (show Tryd.prog.wantsStandIn t = false by simpa using List.all_eq_true.1 hall t hm)⟩)
    (by kernel_rfl)
end Go.Proofs.YtnphlpebeflpkaaDoor.commitBack
