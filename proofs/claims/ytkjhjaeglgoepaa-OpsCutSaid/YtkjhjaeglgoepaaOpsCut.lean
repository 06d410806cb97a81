/- OpsCut returns true for every input: a beginning of an operation's bytes is none; two operations have the same bytes only if they are the same. No condition. -/
import Derived.Test.YtkjhjaeglgoepaaOpsA
import Derived.Test.YtkjhjaeglgoepaaOpsS
import Derived.Test.YtkjhjaeglgoepaaOpsT
import Derived.Test.YtkjhjaeglgoepaaOpenO
import Derived.ShutString
import Derived.ChangeOld
namespace Go.Proofs.Ytkjhjaeglgoepaa.opsCut
open Go Go.ChangeShapes Go.WideShapes Go.ChangeAt Go.RowKit Go.Sort Byt OpsM OpsK OpsW OpsC OpsP OpsH OpsE OpsA

set_option maxRecDepth 100000 in
set_option maxHeartbeats 8000000 in
theorem out (o p : Opn) (n : Int) (w : World) (hf : Fit o) (hg : Fit p) (a b : Bool) (ha : shortB o = a) (hb : shortB p = b) (h : a = false ∨ (a = true ∧ b = false)) :
    Calls Try.prog 6 #[.agg (opc o), .agg (opc p), .int .i64 n] w fun e w' => e = .returned (.bool true) ∧ Below w.heap.size w w' := by
  have cs := fun W => short o W hf
  have ct := fun W => short p W hg
  rw [ha] at cs
  rw [hb] at ct
  clear ha hb
  rcases h with rfl | ⟨rfl, rfl⟩
  all_goals
    have hz : (w.alloc (.cells (opc o) 23)).heap.size = w.heap.size + 1 := by simp
    have O0 := (OpAt.new w o 23).alloc (.cells (opc p) 23)
    have P0 := OpAt.new (w.alloc (.cells (opc o) 23)) p 23
    have k0 : Below w.heap.size w ((w.alloc (.cells (opc o) 23)).alloc (.cells (opc p) 23)) := (below_alloc w _).alloc (by simp) _
    rw [hz] at P0
    clear hz
    go_enter Try.func6, Try.ntmps6
    go_wp2_with fail
    refine (awake _).mono ?_
    rintro e w1 ⟨rfl, h1⟩
    have k1 : Below w.heap.size w w1 := k0.trans (h1.mono k0.size)
    have O1 := O0.below h1
    have P1 := P0.below h1
    clear h1 k0 O0 P0
    go_wp2_with (refine wpList_load_op rfl _ rfl _ rfl o O1 ?_)
    refine (cs _).mono ?_
    clear cs
    rintro e w2 ⟨rfl, h2⟩
    have k2 := k1.trans (h2.mono k1.size)
    have O2 := O1.below h2
    have P2 := P1.below h2
    clear k1 O1 P1 h2
    go_wp2_with (refine wpList_load_op rfl _ rfl _ rfl p P2 ?_)
    refine (ct _).mono ?_
    clear ct
    rintro e w3 ⟨rfl, h3⟩
    have k3 := k2.trans (h3.mono k2.size)
    have O3 := O2.below h3
    have P3 := P2.below h3
    clear k2 O2 P2 h3
    go_wp2_with fail
    go_ret
    exact ⟨rfl, k3⟩

theorem elem_in {w : World} {g : Nat} {o : Opn} (h : OpAt w g o) : ∀ d os, (grow (redrawn w d) os).cell? ⟨g, 2, none⟩ = some (.string o.elem) := fun d os => (h.below (below_regrown _ d os)).elem
theorem n_in {w : World} {g : Nat} {o : Opn} (h : OpAt w g o) : ∀ d os, (grow (redrawn w d) os).cell? ⟨g, 3, none⟩ = some (.int .i64 o.n) := fun d os => (h.below (below_regrown _ d os)).n
theorem same_bytes {o p : Opn} (ho : mayO o = true) (hp : mayO p = true) : ((Byt.strOf (putL o)).toList == (Byt.strOf (putL p)).toList) = sameB o p := by
  rw [strOf_beq (putL_B o) (putL_B p), Bool.eq_iff_iff, decide_eq_true_eq, sameB_iff]
  exact ⟨putL_inj ho hp, fun h => by rw [h]⟩

set_option maxRecDepth 100000 in
set_option maxHeartbeats 8000000 in
theorem no_no (o p : Opn) (n : Int) (w : World) (hf : Fit o) (hg : Fit p) (hs : shortB o = true) (ht : shortB p = true) (hm : mayO o = false) (hp : mayO p = false) :
    Calls Try.prog 6 #[.agg (opc o), .agg (opc p), .int .i64 n] w fun e w' => e = .returned (.bool true) ∧ Below w.heap.size w w' := by
  have cs := fun W => short o W hf
  have ct := fun W => short p W hg
  rw [hs] at cs
  rw [ht] at ct
  clear hs ht
  have c1 := fun W => put_no o W hf hm
  have c2 := fun W => put_no p W hg hp
  unfold PutNo at c1 c2
  clear hm hp
  have hz : (w.alloc (.cells (opc o) 23)).heap.size = w.heap.size + 1 := by simp
  have O0 := (OpAt.new w o 23).alloc (.cells (opc p) 23)
  have P0 := OpAt.new (w.alloc (.cells (opc o) 23)) p 23
  have k0 : Below w.heap.size w ((w.alloc (.cells (opc o) 23)).alloc (.cells (opc p) 23)) := (below_alloc w _).alloc (by simp) _
  rw [hz] at P0
  clear hz
  go_enter Try.func6, Try.ntmps6
  go_wp2_with fail
  refine (awake _).mono ?_
  rintro e w1 ⟨rfl, h1⟩
  have k1 : Below w.heap.size w w1 := k0.trans (h1.mono k0.size)
  have O1 := O0.below h1
  have P1 := P0.below h1
  clear h1 k0 O0 P0
  go_wp2_with (refine wpList_load_op rfl _ rfl _ rfl o O1 ?_)
  refine (cs _).mono ?_
  clear cs
  rintro e w2 ⟨rfl, h2⟩
  have k2 := k1.trans (h2.mono k1.size)
  have O2 := O1.below h2
  have P2 := P1.below h2
  clear k1 O1 P1 h2
  go_wp2_with (refine wpList_load_op rfl _ rfl _ rfl p P2 ?_)
  refine (ct _).mono ?_
  clear ct
  rintro e w3 ⟨rfl, h3⟩
  have k3 := k2.trans (h3.mono k2.size)
  have O3 := O2.below h3
  have P3 := P2.below h3
  clear k2 O2 P2 h3
  go_wp2_with (refine wpList_load_op rfl _ rfl _ rfl o O3 ?_)
  refine (c1 _).mono ?_
  clear c1
  rintro e w4 ⟨rfl, h4⟩
  have k4 := k3.trans (h4.mono k3.size)
  have P4 := P3.below h4
  go_wp2_with (refine wpList_load_op rfl _ rfl _ rfl p P4 ?_)
  refine (c2 _).mono ?_
  clear c2
  rintro e w5 ⟨rfl, h5⟩
  have k5 := k4.trans (h5.mono k4.size)
  go_wp2_with fail
  go_ret
  exact ⟨rfl, k5⟩

set_option maxRecDepth 100000 in
set_option maxHeartbeats 8000000 in
theorem no_yes (o p : Opn) (n : Int) (w : World) (hf : Fit o) (hg : Fit p) (hs : shortB o = true) (ht : shortB p = true) (hm : mayO o = false) (hp : mayO p = true) :
    Calls Try.prog 6 #[.agg (opc o), .agg (opc p), .int .i64 n] w fun e w' => e = .returned (.bool true) ∧ Below w.heap.size w w' := by
  have cs := fun W => short o W hf
  have ct := fun W => short p W hg
  rw [hs] at cs
  rw [ht] at ct
  clear hs ht
  have c1 := fun W => put_no o W hf hm
  have c2 := fun W => put_yes p W hg hp
  unfold PutNo at c1
  unfold PutYes at c2
  have HPB := aside (putL_B p)
  clear hm hp
  have hz : (w.alloc (.cells (opc o) 23)).heap.size = w.heap.size + 1 := by simp
  have O0 := (OpAt.new w o 23).alloc (.cells (opc p) 23)
  have P0 := OpAt.new (w.alloc (.cells (opc o) 23)) p 23
  have k0 : Below w.heap.size w ((w.alloc (.cells (opc o) 23)).alloc (.cells (opc p) 23)) := (below_alloc w _).alloc (by simp) _
  rw [hz] at P0
  clear hz
  go_enter Try.func6, Try.ntmps6
  go_wp2_with fail
  refine (awake _).mono ?_
  rintro e w1 ⟨rfl, h1⟩
  have k1 : Below w.heap.size w w1 := k0.trans (h1.mono k0.size)
  have O1 := O0.below h1
  have P1 := P0.below h1
  clear h1 k0 O0 P0
  go_wp2_with (refine wpList_load_op rfl _ rfl _ rfl o O1 ?_)
  refine (cs _).mono ?_
  clear cs
  rintro e w2 ⟨rfl, h2⟩
  have k2 := k1.trans (h2.mono k1.size)
  have O2 := O1.below h2
  have P2 := P1.below h2
  clear k1 O1 P1 h2
  go_wp2_with (refine wpList_load_op rfl _ rfl _ rfl p P2 ?_)
  refine (ct _).mono ?_
  clear ct
  rintro e w3 ⟨rfl, h3⟩
  have k3 := k2.trans (h3.mono k2.size)
  have O3 := O2.below h3
  have P3 := P2.below h3
  clear k2 O2 P2 h3
  go_wp2_with (refine wpList_load_op rfl _ rfl _ rfl o O3 ?_)
  refine (c1 _).mono ?_
  clear c1
  rintro e w4 ⟨rfl, h4⟩
  have k4 := k3.trans (h4.mono k3.size)
  have P4 := P3.below h4
  go_wp2_with (refine wpList_load_op rfl _ rfl _ rfl p P4 ?_)
  refine (c2 _).mono ?_
  clear c2
  rintro e w5 ⟨v5, rfl, own5, h5⟩
  obtain ⟨A5, l5, rfl, S5⟩ := Sl.own own5 HPB.out
  have k5 := k4.trans (h5.mono k4.size)
  go_wp2_with fail
  go_ret
  exact ⟨rfl, k5⟩

set_option maxRecDepth 100000 in
set_option maxHeartbeats 8000000 in
theorem yes_no (o p : Opn) (n : Int) (w : World) (hn : I64 n) (hf : Fit o) (hg : Fit p) (hs : shortB o = true) (ht : shortB p = true) (hm : mayO o = true) (hp : mayO p = false) :
    Calls Try.prog 6 #[.agg (opc o), .agg (opc p), .int .i64 n] w fun e w' => e = .returned (.bool true) ∧ Below w.heap.size w w' := by
  have cs := fun W => short o W hf
  have ct := fun W => short p W hg
  rw [hs] at cs
  rw [ht] at ct
  clear hs ht
  have c1 := fun W => put_yes o W hf hm
  have c2 := fun W => put_no p W hg hp
  unfold PutYes at c1
  unfold PutNo at c2
  have hB := putL_B o
  have hlen := putL_len hm
  have hcut := fun k hk => getO_cut hm k hk
  obtain ⟨X, hX⟩ : ∃ X, putL o = X := ⟨_, rfl⟩
  rw [hX] at c1 hB hlen hcut
  have HB := aside hB
  have HC := aside hcut
  unfold I64 at hn
  obtain ⟨n1, n2⟩ := hn
  clear hm hp hX hB hcut
  have hz : (w.alloc (.cells (opc o) 23)).heap.size = w.heap.size + 1 := by simp
  have O0 := (OpAt.new w o 23).alloc (.cells (opc p) 23)
  have P0 := OpAt.new (w.alloc (.cells (opc o) 23)) p 23
  have k0 : Below w.heap.size w ((w.alloc (.cells (opc o) 23)).alloc (.cells (opc p) 23)) := (below_alloc w _).alloc (by simp) _
  rw [hz] at P0
  clear hz
  go_enter Try.func6, Try.ntmps6
  go_wp2_with fail
  refine (awake _).mono ?_
  rintro e w1 ⟨rfl, h1⟩
  have k1 : Below w.heap.size w w1 := k0.trans (h1.mono k0.size)
  have O1 := O0.below h1
  have P1 := P0.below h1
  clear h1 k0 O0 P0
  go_wp2_with (refine wpList_load_op rfl _ rfl _ rfl o O1 ?_)
  refine (cs _).mono ?_
  clear cs
  rintro e w2 ⟨rfl, h2⟩
  have k2 := k1.trans (h2.mono k1.size)
  have O2 := O1.below h2
  have P2 := P1.below h2
  clear k1 O1 P1 h2
  go_wp2_with (refine wpList_load_op rfl _ rfl _ rfl p P2 ?_)
  refine (ct _).mono ?_
  clear ct
  rintro e w3 ⟨rfl, h3⟩
  have k3 := k2.trans (h3.mono k2.size)
  have O3 := O2.below h3
  have P3 := P2.below h3
  clear k2 O2 P2 h3
  go_wp2_with (refine wpList_load_op rfl _ rfl _ rfl o O3 ?_)
  refine (c1 _).mono ?_
  clear c1
  rintro e w4 ⟨v4, rfl, own4, h4⟩
  obtain ⟨A4, l4, rfl, S4⟩ := Sl.own own4 HB.out
  have k4 := k3.trans (h4.mono k3.size)
  have O4 := O3.below h4
  have P4 := P3.below h4
  clear k3 O3 P3 h4 own4
  go_wp2_with (refine wpList_load_op rfl _ rfl _ rfl p P4 ?_)
  refine (c2 _).mono ?_
  clear c2
  rintro e w5 ⟨rfl, h5⟩
  have k5 := k4.trans (h5.mono k4.size)
  have T5 := S4.below h5
  have O5 := O4.below h5
  have P5 := P4.below h5
  clear k4 O4 P4 h5 S4
  go_wp2_with fail
  refine Grow.region [(0, true), (1, true), (2, true), (3, true), (4, true), (5, true), (6, true), (7, true), (8, true), (9, true), (10, true), (11, true), (12, true)] (by kernel_rfl) (by kernel_rfl) rfl (by kernel_rfl) (by intro c a d v w h; cases d <;> exact h) ?_
  have kd := below_drew1 k5
  have T6 : Sl w5.drew A4 l4 X := T5.drew
  obtain ⟨W1, hW1⟩ : ∃ W, w5.drew = W := ⟨_, rfl⟩
  rw [hW1] at kd T6 ⊢
  clear hW1 k5 T5 O5 P5
  repeat (refine Grow.reads rfl rfl ?_; go_big_quiet_step (fail); refine wpQuiet_nil ?_)
  refine Grow.ends ?_
  by_cases hlo : n < 0
  · go_wp2_with fail
    go_ret
    exact ⟨rfl, kd⟩
  · by_cases hhi : (X.length : Int) ≤ n
    · go_wp2_with fail
      go_ret
      exact ⟨rfl, kd⟩
    · obtain ⟨k, rfl⟩ : ∃ k : Nat, n = k := ⟨n.toNat, by omega⟩
      obtain ⟨A7, c7, hs7, S7, hl7⟩ := T6.part 0 k (by omega) (by omega)
      have hrun := fun W => run_part_h W A4 X.length l4 .i64 k (by have := T6.1; omega)
      rw [hs7, Nat.sub_zero] at hrun
      rw [Nat.sub_zero, List.drop_zero] at S7 hl7
      have hg := get A7 k c7 (X.take k) W1 S7 hl7 (by omega)
      unfold GetOut at hg
      rw [HC.out k (by omega)] at hg
      simp only at hg
      clear hs7 hl7 S7 T6
      go_wp2_with fail
      refine hg.mono ?_
      clear hg hrun
      rintro e w8 ⟨h8, rfl⟩
      have k8 : Below w.heap.size w w8 := kd.trans (h8.mono kd.size)
      have R8 := OpAt.new w8 noOp 23
      have s8 := k8.size
      go_wp2_with (refine wpList_store_op rfl rfl _ _ rfl _ rfl noOp R8 noOp rfl ?_; intro w9 R9 b9 g9; have k10 : Below w.heap.size w w9 := (k8.alloc s8 _).trans (b9 _ s8))
      go_ret
      exact ⟨rfl, k10⟩

set_option maxRecDepth 100000 in
set_option maxHeartbeats 8000000 in
theorem yes_yes (o p : Opn) (n : Int) (w : World) (hn : I64 n) (hf : Fit o) (hg : Fit p) (hs : shortB o = true) (ht : shortB p = true) (hm : mayO o = true) (hp : mayO p = true) :
    Calls Try.prog 6 #[.agg (opc o), .agg (opc p), .int .i64 n] w fun e w' => e = .returned (.bool true) ∧ Below w.heap.size w w' := by
  have cs := fun W => short o W hf
  have ct := fun W => short p W hg
  rw [hs] at cs
  rw [ht] at ct
  clear hs ht
  have c1 := fun W => put_yes o W hf hm
  have c2 := fun W => put_yes p W hg hp
  unfold PutYes at c1 c2
  have hsame := same_bytes hm hp
  have heq : ∀ W : World, (Op.equalIn 10000 23 (.agg #[.int .i64 o.kind, .string o.key, .string o.elem, .int .i64 o.n]) (.agg #[.int .i64 p.kind, .string p.key, .string p.elem, .int .i64 p.n])).run Try.prog W = .ok (sameB o p) W := fun W => equal W o p
  have HPB := aside (putL_B p)
  obtain ⟨Y, hY⟩ : ∃ Y, putL p = Y := ⟨_, rfl⟩
  rw [hY] at c2 hsame HPB
  obtain ⟨sb, hsb⟩ : ∃ b, sameB o p = b := ⟨_, rfl⟩
  rw [hsb] at hsame heq
  clear hY hsb
  have hB := putL_B o
  have hlen := putL_len hm
  have hcut := fun k hk => getO_cut hm k hk
  obtain ⟨X, hX⟩ : ∃ X, putL o = X := ⟨_, rfl⟩
  rw [hX] at c1 hB hlen hcut hsame
  have HB := aside hB
  have HC := aside hcut
  unfold I64 at hn
  obtain ⟨n1, n2⟩ := hn
  clear hm hp hX hB hcut
  have HSm := aside hsame
  clear hsame
  have hz : (w.alloc (.cells (opc o) 23)).heap.size = w.heap.size + 1 := by simp
  have O0 := (OpAt.new w o 23).alloc (.cells (opc p) 23)
  have P0 := OpAt.new (w.alloc (.cells (opc o) 23)) p 23
  have k0 : Below w.heap.size w ((w.alloc (.cells (opc o) 23)).alloc (.cells (opc p) 23)) := (below_alloc w _).alloc (by simp) _
  rw [hz] at P0
  clear hz
  go_enter Try.func6, Try.ntmps6
  go_wp2_with fail
  refine (awake _).mono ?_
  rintro e w1 ⟨rfl, h1⟩
  have k1 : Below w.heap.size w w1 := k0.trans (h1.mono k0.size)
  have O1 := O0.below h1
  have P1 := P0.below h1
  clear h1 k0 O0 P0
  go_wp2_with (refine wpList_load_op rfl _ rfl _ rfl o O1 ?_)
  refine (cs _).mono ?_
  clear cs
  rintro e w2 ⟨rfl, h2⟩
  have k2 := k1.trans (h2.mono k1.size)
  have O2 := O1.below h2
  have P2 := P1.below h2
  clear k1 O1 P1 h2
  go_wp2_with (refine wpList_load_op rfl _ rfl _ rfl p P2 ?_)
  refine (ct _).mono ?_
  clear ct
  rintro e w3 ⟨rfl, h3⟩
  have k3 := k2.trans (h3.mono k2.size)
  have O3 := O2.below h3
  have P3 := P2.below h3
  clear k2 O2 P2 h3
  go_wp2_with (refine wpList_load_op rfl _ rfl _ rfl o O3 ?_)
  refine (c1 _).mono ?_
  clear c1
  rintro e w4 ⟨v4, rfl, own4, h4⟩
  obtain ⟨A4, l4, rfl, S4⟩ := Sl.own own4 HB.out
  have k4 := k3.trans (h4.mono k3.size)
  have O4 := O3.below h4
  have P4 := P3.below h4
  clear k3 O3 P3 h4 own4
  go_wp2_with (refine wpList_load_op rfl _ rfl _ rfl p P4 ?_)
  refine (c2 _).mono ?_
  clear c2
  rintro e w5 ⟨v5, rfl, own5, h5⟩
  obtain ⟨A5, l5, rfl, S5⟩ := Sl.own own5 HPB.out
  have k5 := k4.trans (h5.mono k4.size)
  have T5 := S4.below h5
  have O5 := O4.below h5
  have P5 := P4.below h5
  clear k4 O4 P4 h5 S4 own5
  go_wp2_with fail
  refine Grow.region [(0, true), (1, true), (2, true), (3, true), (4, true), (5, true), (6, true), (7, true), (8, true), (9, true), (10, true), (11, true), (12, true)] (by kernel_rfl) (by kernel_rfl) rfl (by kernel_rfl) (by intro c a d v w h; cases d <;> exact h) ?_
  have kd := below_drew1 k5
  have T6 : Sl w5.drew A4 l4 X := T5.drew
  have O6 : OpAt w5.drew w.heap.size o := O5
  have P6 : OpAt w5.drew (w.heap.size + 1) p := P5
  have S6 : Sl w5.drew A5 l5 Y := S5.drew
  obtain ⟨W1, hW1⟩ : ∃ W, w5.drew = W := ⟨_, rfl⟩
  rw [hW1] at kd T6 O6 P6 S6 ⊢
  clear hW1 k5 T5 O5 P5 S5
  have q0 := O6.kind_in
  have q1 := O6.key_in
  have q2 := elem_in O6
  have q3 := n_in O6
  have p0 := P6.kind_in
  have p1 := P6.key_in
  have p2 := elem_in P6
  have p3 := n_in P6
  have qx := fun d os => (T6.below (below_regrown _ d os)).conv rfl
  have qy := fun d os => (S6.below (below_regrown _ d os)).conv rfl
  have hsm := HSm.out
  repeat (refine Grow.reads rfl rfl ?_; go_big_quiet_step (fail); refine wpQuiet_nil ?_)
  clear q0 q1 q2 q3 p0 p1 p2 p3 qx qy hsm O6 P6 S6
  refine Grow.ends ?_
  by_cases hlo : n < 0
  · go_wp2_with fail
    go_ret
    exact ⟨rfl, kd⟩
  · by_cases hhi : (X.length : Int) ≤ n
    · go_wp2_with fail
      go_ret
      exact ⟨rfl, kd⟩
    · obtain ⟨k, rfl⟩ : ∃ k : Nat, n = k := ⟨n.toNat, by omega⟩
      obtain ⟨A7, c7, hs7, S7, hl7⟩ := T6.part 0 k (by omega) (by omega)
      have hrun := fun W => run_part_h W A4 X.length l4 .i64 k (by have := T6.1; omega)
      rw [hs7, Nat.sub_zero] at hrun
      rw [Nat.sub_zero, List.drop_zero] at S7 hl7
      have hg := get A7 k c7 (X.take k) W1 S7 hl7 (by omega)
      unfold GetOut at hg
      rw [HC.out k (by omega)] at hg
      simp only at hg
      clear hs7 hl7 S7 T6
      go_wp2_with fail
      refine hg.mono ?_
      clear hg hrun
      rintro e w8 ⟨h8, rfl⟩
      have k8 : Below w.heap.size w w8 := kd.trans (h8.mono kd.size)
      have R8 := OpAt.new w8 noOp 23
      have s8 := k8.size
      go_wp2_with (refine wpList_store_op rfl rfl _ _ rfl _ rfl noOp R8 noOp rfl ?_; intro w9 R9 b9 g9; have k10 : Below w.heap.size w w9 := (k8.alloc s8 _).trans (b9 _ s8))
      go_ret
      exact ⟨rfl, k10⟩

theorem walk (a0 a1 : Opn) (a2 : Int) (w : World) (w0 : Fit a0) (w1 : Fit a1) (w2 : (Lit.int .i64 a2).wf = true) :
    Calls Try.prog 6 #[.agg (opc a0), .agg (opc a1), .int .i64 a2] w fun e w' => e = .returned (.bool true) ∧ Below w.heap.size w w' := by
  have hn := OpenO.i64_of w2
  cases hs : shortB a0 with
  | false => exact out a0 a1 a2 w w0 w1 _ _ hs rfl (.inl rfl)
  | true =>
    cases ht : shortB a1 with
    | false => exact out a0 a1 a2 w w0 w1 _ _ hs ht (.inr ⟨rfl, rfl⟩)
    | true =>
      cases hm : mayO a0 with
      | false =>
        cases hp : mayO a1 with
        | false => exact no_no a0 a1 a2 w w0 w1 hs ht hm hp
        | true => exact no_yes a0 a1 a2 w w0 w1 hs ht hm hp
      | true =>
        cases hp : mayO a1 with
        | false => exact yes_no a0 a1 a2 w hn w0 w1 hs ht hm hp
        | true => exact yes_yes a0 a1 a2 w hn w0 w1 hs ht hm hp

theorem own : ownKnob Try.prog.godebug = none := by kernel_rfl
theorem laidOut : laidOutB Try.prog = true := by kernel_rfl
set_option linter.unusedVariables false in
set_option maxRecDepth 100000 in
theorem lifted (os : Os) (started : os.Started) (H : Type) (enc : TypeId × Value → H) :
    ReturnsInHanded {} Try.checked os 6 .any (Rows.opsCutSpec.pre6 enc Try.prog Try.f6 Rows.opsCutRow.domain false) (Rows.opsCutSpec.post enc Try.prog Try.f6 false true false false) := by
  refine returnsInHanded_of_change (C := Try.checked) own started (by kernel_rfl) Try.func6
    (ChangeSpec.witness6 (enc := enc) (C := Try.checked) false ⟨#[], #[.agg #[.int .i64 0, .string ByteArray.empty, .string ByteArray.empty, .int .i64 0], .agg #[.int .i64 0, .string ByteArray.empty, .string ByteArray.empty, .int .i64 0], .int .i64 0], []⟩ 8 (by kernel_rfl) (by kernel_rfl) (by kernel_rfl) (by kernel_rfl)) ?_
  intro W base args ds gs before hval0 hW hcnd _
  have hval : ∀ (j : Nat) t v, Try.f6.params[j]? = some t → args[j]? = some v → Value.okWide Try.prog W .any base t v := hval0
  have hW' := hW
  obtain ⟨p, q, hA0, hV, rfl, hfz, hnd⟩ := hW
  have hA : DataW.TrodAll enc Try.prog W 0 (fun _ => true) true Try.f6.params.toList args.toList ds p := hA0
  rw [Try.params6] at hA hval
  obtain ⟨v0, vs0, d0, ds0, p0, q0, hargs, rfl, rfl, h0, r0⟩ := trodAll_cons hA
  obtain ⟨v1, vs1, d1, ds1, p1, q1, rfl, rfl, rfl, h1, r1⟩ := trodAll_cons r0
  obtain ⟨v2, vs2, d2, ds2, p2, q2, rfl, rfl, rfl, h2, r2⟩ := trodAll_cons r1
  obtain ⟨rfl, rfl, rfl⟩ := trodAll_nil r2
  obtain rfl : args = #[v0, v1, v2] := by cases args; simp_all
  obtain ⟨rfl, rfl⟩ := trodVars_none hV
  have k0 := h0
  have lt0 : ∀ x ∈ p0, x.block < W.heap.size := by obtain ⟨m, hm⟩ := k0; exact DataW.trod_lt m _ _ _ hm
  obtain ⟨a0, rfl, w0⟩ := OpenO.open_op Try.underlying23 (by kernel_rfl) (by kernel_rfl) Try.underlying3 Try.underlying9 Try.underlying9 Try.underlying3 (hval 0 23 v0 rfl rfl) h0
  have k1 := h1
  have lt1 : ∀ x ∈ p1, x.block < W.heap.size := by obtain ⟨m, hm⟩ := k1; exact DataW.trod_lt m _ _ _ hm
  obtain ⟨a1, rfl, w1⟩ := OpenO.open_op Try.underlying23 (by kernel_rfl) (by kernel_rfl) Try.underlying3 Try.underlying9 Try.underlying9 Try.underlying3 (hval 1 23 v1 rfl rfl) h1
  obtain ⟨a2, rfl, rfl, rfl, w2⟩ := open_int Try.underlying3 (hval 2 3 v2 rfl rfl) h2
  clear hA0 hval0
  refine (walk a0 a1 a2 W w0 w1 w2).mono fun e W' ⟨he, bel⟩ => ?_
  subst he
  exact ⟨_, rfl, _, _, _, [], _, [], hW', trodAll_mk1 (shut_bool Try.underlying4 _), (trodAll_cons_mk (Below.trod laidOut (by kernel_rfl) (of_decide_eq_true (by kernel_rfl)) k0 bel lt0) (trodAll_cons_mk (Below.trod laidOut (by kernel_rfl) (of_decide_eq_true (by kernel_rfl)) k1 bel lt1) (trodAll_cons_mk (shut_int Try.underlying3 w2) trodAll_mk0))), rfl, bel.frame _, fun h => by cases h⟩

theorem over : Rows.opsCutRow.holds Try.pinned (OpenSpec.ofChange Rows.opsCutSpec) :=
  OpenClaim.holds_of_wide 6 Try.f6 rfl rfl rfl rfl rfl rfl rfl ⟨rfl, rfl, rfl, rfl, rfl⟩ rfl rfl rfl rfl rfl (by kernel_rfl) Try.func6 (by kernel_rfl)
    (of_decide_eq_true (by kernel_rfl)) (by unfold Func.isWrapper; first | (rw [if_pos (by decide +kernel)]; kernel_rfl) | (rw [if_neg (by decide +kernel)]; exact ⟨rfl, rfl⟩))
    (fun os started H enc _ => lifted os started H enc)

theorem proved : Rows.OpsCutSaid := over
end Go.Proofs.Ytkjhjaeglgoepaa.opsCut
