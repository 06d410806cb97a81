/- The chapter's own examples: 'awake' returns true. -/
import Derived.Test.YtkjhjaeglgoepaaOpsH
import Derived.Test.YtkjhjaeglgoepaaOpsP
import Derived.Test.YtkjhjaeglgoepaaOpsE
namespace Go.Proofs.Ytkjhjaeglgoepaa.OpsA
open Go Go.RowKit Go.Sort Byt OpsM OpsK OpsW OpsC OpsP OpsH OpsE EncM EncC EncE

def o1 : Opn := ⟨0, ⟨#[97]⟩, ⟨#[]⟩, -1⟩
def o2 : Opn := ⟨2, ⟨#[97]⟩, ⟨#[98]⟩, 0⟩
theorem fit1 : Fit o1 := ⟨by unfold I64 o1; simp, by unfold I64 o1; simp, of_decide_eq_true (by kernel_rfl), of_decide_eq_true (by kernel_rfl)⟩
theorem fit2 : Fit o2 := ⟨by unfold I64 o2; simp, by unfold I64 o2; simp, of_decide_eq_true (by kernel_rfl), of_decide_eq_true (by kernel_rfl)⟩
theorem may1 : mayO o1 = true := by kernel_rfl
theorem may2 : mayO o2 = true := by kernel_rfl
theorem text1 (x : Int) : textL [x] = [1, x] := by
  unfold textL
  rw [show ([x] : List Int).length = 1 from rfl, numL_one (by omega)]
  rfl
theorem put1 : putL o1 = [0, 1, 97, 1] := by
  unfold putL tailL
  rw [show bytesL o1.key = [97] by kernel_rfl, text1, show o1.kind.toNat = 0 from rfl, if_pos (show o1.kind = 0 from rfl), show (foldI o1.n).toNat = 1 by kernel_rfl, numL_one (by omega), numL_one (by omega)]
  rfl
theorem put2 : putL o2 = [2, 1, 97, 1, 98] := by
  unfold putL tailL
  rw [show bytesL o2.key = [97] by kernel_rfl, show bytesL o2.elem = [98] by kernel_rfl, text1, text1, show o2.kind.toNat = 2 from rfl, if_neg (show ¬ o2.kind = 0 by decide), numL_one (by omega)]
  rfl
theorem get2 : getO [2, 1, 97, 1, 98, 9] = some (o2, [9]) := by
  have := get_put may2 [9]
  rw [put2] at this
  exact this
theorem str1 : strOf [0, 1, 97, 1] = ⟨#[0, 1, 97, 1]⟩ := by kernel_rfl
theorem key3 : keyL (bytesL ⟨#[97, 48]⟩) = true := by kernel_rfl

set_option maxRecDepth 100000 in
set_option maxHeartbeats 8000000 in
theorem awake (w : World) : Calls Try.prog 8 #[] w fun e w' => e = .returned (.bool true) ∧ Below w.heap.size w w' := by
  have cp := fun W => put_yes o1 W fit1 may1
  have cm := fun W => may o2 W fit2
  have ck := key ⟨#[97, 48]⟩ (of_decide_eq_true (by kernel_rfl))
  have heq : ∀ W : World, (Op.equalIn 10000 23 (.agg #[.int .i64 2, .string ⟨#[97]⟩, .string ⟨#[98]⟩, .int .i64 0]) (.agg #[.int .i64 2, .string ⟨#[97]⟩, .string ⟨#[98]⟩, .int .i64 0])).run Try.prog W = .ok true W := equal_yes o2
  unfold PutYes at cp
  rw [put1] at cp
  rw [may2] at cm
  rw [key3] at ck
  go_enter Try.func8, Try.ntmps8
  go_wp2_with fail
  refine (cp _).mono ?_
  clear cp
  rintro e w1 ⟨v1, rfl, own1, k1⟩
  obtain ⟨A1, c1, rfl, S1⟩ := Sl.own own1 (by unfold B; decide)
  clear own1
  go_wp2_with fail
  have hg := get (some ⟨w1.heap.size, 0, none⟩) 6 6 [2, 1, 97, 1, 98, 9] (w1.alloc (.cells #[.int .u8 2, .int .u8 1, .int .u8 97, .int .u8 1, .int .u8 98, .int .u8 9] 5)) (Sl.of_cells (l := [2, 1, 97, 1, 98, 9]) (heap_alloc_new w1 _) (by unfold maxLen; decide) (by unfold B; decide)) rfl (by omega)
  unfold GetOut at hg
  rw [get2] at hg
  refine hg.mono ?_
  clear hg
  rintro e w2 ⟨h2, A2, c2, rfl, S2⟩
  have k2 : Below w.heap.size w w2 := (k1.alloc k1.size _).trans (h2.mono (by have := k1.size; simp; omega))
  have T1 := (S1.below (below_alloc w1 _)).below h2
  clear h2 k1 S1 S2
  have R2 := OpAt.new w2 noOp 23
  have T2 := T1.below (below_alloc w2 (.cells (opc noOp) 23))
  have k3 : Below w.heap.size w (w2.alloc (.cells (opc noOp) 23)) := k2.alloc k2.size _
  clear T1
  have hs2 := k2.size
  go_wp2_with (first | (refine wpList_store_op rfl rfl _ _ rfl _ rfl noOp R2 o2 rfl ?_; intro w3 R3 b3 g3; have T3 := Sl.kept T2 R2 g3; have hcv := T3.conv (len := 4) rfl; rw [str1] at hcv; have r0 : w3.cell? ⟨w2.heap.size, 0, none⟩ = some (.int .i64 2) := R3.kind; have r1 : w3.cell? ⟨w2.heap.size, 1, none⟩ = some (.string ⟨#[97]⟩) := R3.key; have r2 : w3.cell? ⟨w2.heap.size, 2, none⟩ = some (.string ⟨#[98]⟩) := R3.elem; have r3 : w3.cell? ⟨w2.heap.size, 3, none⟩ = some (.int .i64 0) := R3.n))
  have k4 := k3.trans (b3 _ hs2)
  refine (cm _).mono ?_
  clear cm
  rintro e w4 ⟨rfl, h4⟩
  have k5 := k4.trans (h4.mono k4.size)
  clear h4 k4 hcv r0 r1 r2 r3
  go_wp2_with fail
  refine (ck _).mono ?_
  rintro e w5 ⟨rfl, rfl⟩
  go_wp2_with fail
  go_ret
  exact ⟨rfl, k5⟩
end Go.Proofs.Ytkjhjaeglgoepaa.OpsA
