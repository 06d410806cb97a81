/- One field of an operation stored. No condition. | What the document's answer's Cut of package enc returns: a contract. -/
import Derived.Test.YtnphlpebeflpkaaDoorOpsKJ2
import Derived.Test.YtnphlpebeflpkaaDoorRefEJ2
import Derived.Test.YtnphlpebeflpkaaDoorEncEJ4
namespace Go.Proofs.YtnphlpebeflpkaaDoor.OpsF
set_option maxRecDepth 100000
open Go Go.RowKit Go.Sort Byt OpsM OpsW

theorem run_store_one {w : World} {g j : Nat} {T : TypeId} {v : Value} {c : Array Value} {t : TypeId} (ht : w.heap[g]? = some (.cells c t (0, 0))) (hj : j < c.size) (hi : (Tryd.prog.info? T).map (·.size) = some 1) (hv : v.cells = #[v]) (h1 : v.oneCell' = true) :
    (Instr.storeAt T (.pointer (some ⟨g, j, none⟩)) v).run Tryd.prog w = .ok () (w.setCell ⟨g, j, none⟩ v) := by
  have hth : w.there g j [v].length := fun i hi => by
    have : i = 0 := by simpa using hi
    subst this
    refine ⟨?_, ?_⟩
    · rw [Nat.add_zero, cell_of_row w g j _ t (0, 0) ht, Array.getElem?_eq_getElem hj]
      rfl
    · simp [World.frozen?, ht]
  have := run_storeCells_cells (P := Tryd.prog) g j [v] 0 w (fun i hi => by simpa using (hth i hi).1) (fun i hi => by simpa using (hth i hi).2) (fun u hu => by simp only [List.mem_singleton] at hu; subst hu; exact h1)
  cases hq : Tryd.prog.info? T with
  | none => simp [hq] at hi
  | some i =>
    have hs : i.size = 1 := by simpa [hq] using hi
    simp only [Nat.add_zero] at this
    simp only [Instr.storeAt, Instr.sureAddr, Sem.run_bind, Sem.run_pure, Result.andThen_ok]
    simp [storeVar, sizeOf, typeInfo, hq, hv, hs, this]
    try rfl
/-- A store of one field, as the walk meets it. -/
theorem wpList_store_field {ops : Array Oper} {rest : List Oper} {o : Oper} {a : Act} {w : World} {Q : Exit → Act → World → Prop} (hgd : o.guard = none) (hd : o.dst = none) (T : TypeId) (x y : Operand) (ho : o.op = .store T x y) (hi : (Tryd.prog.info? T).map (·.size) = some 1)
    (g j : Nat) (hx : a.eval x = .pointer (some ⟨g, j, none⟩)) (hj : j < 4) (old : Opn) (hc : OpAt w g old) (new : Opn) (v : Value) (hy : a.eval y = v) (hv : v.cells = #[v]) (h1 : v.oneCell' = true) (hset : (opc old).setIfInBounds j v = opc new)
    (h : ∀ w', OpAt w' g new → (∀ B, B ≤ g → Below B w w') → w.grownBy w' (some g) → wpList Tryd.prog ops Q rest a w') : wpList Tryd.prog ops Q (o :: rest) a w := by
  obtain ⟨t, ht⟩ := hc
  refine wpList_plain hgd fun K hK => ?_
  have hrun := run_store_one (T := T) ht (by rw [opc_size]; exact hj) hi hv h1
  unfold Oper.wp execOp
  simp only [ho, hx, hy, Sem.run_bind, hrun, Result.andThen_ok, Sem.run_pure]
  refine hK _ _ ?_
  rw [hd]
  refine h _ ⟨t, ?_⟩ (fun B hB => (Below.refl B w).setCell (p := ⟨g, j, none⟩) hB v) ⟨rfl, rfl, rfl, by simp [World.setCell], fun k _ hk => ?_⟩
  · simp only [World.setCell]
    rw [Array.getElem?_modify, if_pos rfl, ht]
    simp [hset]
  · simp only [World.setCell]
    rw [Array.getElem?_modify, if_neg (fun e => hk (by rw [← e]))]
theorem info_int : (Tryd.prog.info? 3).map (·.size) = some 1 := by kernel_rfl
theorem info_str : (Tryd.prog.info? 9).map (·.size) = some 1 := by kernel_rfl
end Go.Proofs.YtnphlpebeflpkaaDoor.OpsF
namespace Go.Proofs.YtnphlpebeflpkaaDoor.RefY
set_option maxRecDepth 100000
open Go.RowKit Go.Sort Byt BytR EncM EncC EncE

set_option maxRecDepth 100000 in
set_option maxHeartbeats 8000000 in
theorem cut {A : Option Addr} {len cap : Nat} {bs : List Int} {w : World} (most : Int) (hS : Sl w A cap bs) (hl : bs.length = len) (hlen : len ≤ 1099511627776) (hm : -9223372036854775808 ≤ most ∧ most ≤ 9223372036854775807) :
    Calls Tryd.prog 68 #[.slice A len cap, .int .i64 most] w (CutOut bs most w) := by
  have hg := RefF.get hS hl hlen
  obtain ⟨g1, g2, g3⟩ := getL_le hS.bytes
  have hnone := cut_none bs most w
  have hsome := cut_some bs most w
  obtain ⟨n, hn⟩ : ∃ n, (getL bs).1 = n := ⟨_, rfl⟩
  obtain ⟨k, hk⟩ : ∃ k, (getL bs).2 = k := ⟨_, rfl⟩
  rw [hn, hk] at hg hnone hsome
  rw [hn] at g1
  rw [hk] at g2 g3
  rw [hl] at g3 hnone hsome
  have HL := aside hl
  have HN := aside hnone
  have HS := aside hsome
  have HG := aside g1
  clear hn hk hnone hsome hl g1
  obtain ⟨m1, m2⟩ := hm
  by_cases hk0 : k = 0
  · subst hk0
    go_enter Tryd.func68, Tryd.ntmps68
    go_wp2_with fail
    refine hg.mono ?_
    clear hg
    rintro e w1 ⟨rfl, h1⟩
    go_wp2_with fail
    exact bodyPost_ret (v := .tuple #[.string ⟨#[]⟩, .slice none 0 0, .bool false]) (by simp [results, Tryd.results68, go_sem]) rfl (HN.out _ _ (.inl (by trivial)) h1 rfl)
  · have hkp : 0 < k := by omega
    have t0 : ((k : Int) == 0) = false := by simp; omega
    clear hk0
    by_cases hm0 : most < 0
    · have t1 : decide (most < 0) = true := by simpa using hm0
      go_enter Tryd.func68, Tryd.ntmps68
      go_wp2_with fail
      refine hg.mono ?_
      clear hg
      rintro e w1 ⟨rfl, h1⟩
      go_wp2_with fail
      exact bodyPost_ret (v := .tuple #[.string ⟨#[]⟩, .slice none 0 0, .bool false]) (by simp [results, Tryd.results68, go_sem]) rfl (HN.out _ _ (.inr (.inl hm0)) h1 rfl)
    · have t1 : decide (most < 0) = false := by simpa using hm0
      have hm1 : 0 ≤ most := by omega
      clear hm0
      go_enter Tryd.func68, Tryd.ntmps68
      go_wp2_with fail
      refine hg.mono ?_
      clear hg
      rintro e w1 ⟨rfl, h1⟩
      by_cases hmn : most < (n : Int)
      · have t2 : decide (most < (n : Int)) = true := by simpa using hmn
        go_wp2_with fail
        exact bodyPost_ret (v := .tuple #[.string ⟨#[]⟩, .slice none 0 0, .bool false]) (by simp [results, Tryd.results68, go_sem]) rfl (HN.out _ _ (.inr (.inr (.inl hmn))) h1 rfl)
      · have t2 : decide (most < (n : Int)) = false := by simpa using hmn
        have hnm : (n : Int) ≤ most := by omega
        clear hmn
        by_cases hLn : (len : Int) - (k : Int) < (n : Int)
        · have t3 : decide ((len : Int) - (k : Int) < (n : Int)) = true := by simpa using hLn
          go_wp2_with fail
          exact bodyPost_ret (v := .tuple #[.string ⟨#[]⟩, .slice none 0 0, .bool false]) (by simp [results, Tryd.results68, go_sem]) rfl (HN.out _ _ (.inr (.inr (.inr (by omega)))) h1 rfl)
        · have t3 : decide ((len : Int) - (k : Int) < (n : Int)) = false := by simpa using hLn
          have hnL : (k : Int) + n ≤ len := by omega
          clear hLn
          go_wp2_with fail
          clear t0 t1 t2 t3
          have hSW : Sl w1.drew A cap bs := (hS.below h1).drew
          have hBW : Below w.heap.size w w1.drew := below_drew1 h1
          have hlW := hBW.size
          obtain ⟨A3, c3, hs3, hS3, hl3⟩ := hSW.part k (k + n) (by omega) (by have := HL.out; omega)
          obtain ⟨A4, c4, hs4, hS4, hl4⟩ := hSW.part (k + n) len (by omega) (by have := HL.out; omega)
          have hr3 := fun W => run_part_lh W A len cap .i64 .i64 k (k + n) (by omega) (by have := hS.1; have := HL.out; omega)
          have hr4 := fun W => run_part_l W A len cap .i64 (k + n) (by omega)
          have e1 : ((k + n : Nat) : Int) = (k : Int) + n := by omega
          rw [hs3, Nat.add_sub_cancel_left, e1] at hr3
          rw [hs4, e1] at hr4
          rw [Nat.add_sub_cancel_left] at hS3 hl3
          have hcv := hS3.conv hl3
          have hd4 : (bs.drop (k + n)).take (len - (k + n)) = (bs.drop k).drop n := by rw [List.take_of_length_le (by rw [List.length_drop, HL.out]; omega), List.drop_drop]
          rw [hd4] at hS4 hl4
          obtain ⟨M, hM⟩ : ∃ M, len - (k + n) = M := ⟨_, rfl⟩
          rw [hM] at hr4 hl4
          have HL4 := aside hl4
          have HL3 := aside hl3
          have h63 : 0 + M ≤ 1099511627900 := by omega
          clear hs3 hs4 hd4 hl3 hl4 e1 hM h1
          refine Grow.region [(0, true), (1, true), (2, true), (3, true), (4, true), (5, true), (6, true), (7, true), (8, false), (9, true), (10, true), (11, true)] (by kernel_rfl) (by kernel_rfl) rfl (by kernel_rfl) (by intro c a d v w h; cases d <;> exact h) ?_
          have q3 := fun d os => (hS3.below (below_regrown _ d os)).conv HL3.out
          obtain ⟨W1, hW1⟩ : ∃ W, w1.drew = W := ⟨_, rfl⟩
          rw [hW1] at hS4 hBW hlW q3 ⊢
          clear hW1 hcv hSW hS3
          repeat (refine Grow.reads rfl rfl ?_; go_big_quiet_step (fail); refine wpQuiet_nil ?_)
          clear q3 hr3 hr4
          refine Grow.acts rfl ?_
          go_wp2_with (refine wpList_append_sl rfl (.const (.slice none 0 0)) (.tmp 47) 31 rfl w.heap.size 5 Tryd.underlying31 zero_u8 (.slice none 0 0) 0 [] rfl (World.ownsRow_nil _ _ _ _) A4 M c4 ((bs.drop k).drop n) rfl HL4.out hS4 h63 hlW ?_; intro v5 w5 hown5 hg5; have hb5 : Below w.heap.size w w5 := below_grown hBW hlW hg5 (fun k hk => by cases hk); have hb6 := below_grown (Below.refl _ W1) (Nat.le_refl _) hg5 (fun k hk => by cases hk); have HO5 := aside hown5; clear hown5 hg5)
          simp only [Act.put, List.setIfInBounds_toArray, List.set_cons_succ, List.set_cons_zero]
          refine ⟨hb6, ?_⟩
          clear hb6
          repeat (refine Grow.reads rfl rfl ?_; go_big_quiet_step (fail); refine wpQuiet_nil ?_)
          refine Grow.ends ?_
          all_goals go_wp2_with fail
          all_goals
            refine bodyPost_ret (v := .tuple #[.string (strOf ((bs.drop k).take n)), v5, .bool true]) (by simp [results, Tryd.results68, go_sem]) rfl (HS.out _ _ v5 (by omega) hb5 rfl ?_)
            have h := HO5.out
            rw [Nat.zero_add, ← HL4.out, List.nil_append] at h
            exact h
end Go.Proofs.YtnphlpebeflpkaaDoor.RefY
