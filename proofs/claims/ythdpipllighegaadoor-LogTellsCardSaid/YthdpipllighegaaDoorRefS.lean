/- What the document's answers' twist, Constants, Start and words of package sha return: contracts. -/
import Derived.Test.YthdpipllighegaaDoorShaD
import Derived.Test.YthdpipllighegaaDoorRefCJ2
import Derived.BigRegion
namespace Go.Proofs.YthdpipllighegaaDoor.RefS
set_option maxRecDepth 100000
open Go.RowKit RotM RotN RotC RotD ShaM ShaC ShaD RotG Small

theorem twist (a b c : BitVec 32) (w : World) :
    Calls Tryd.prog 40 #[.int .u32 (u a), .int .u32 (u b), .int .u32 (u c)] w fun e w' => e = .returned (.int .u32 (u (a ^^^ b ^^^ c))) ∧ w = w' := by
  go_enter Tryd.func40, Tryd.ntmps40
  go_wp2
  go_ret
  exact ⟨ret_u (by rw [bits_xor, bits_xor]), rfl⟩

theorem start (w : World) :
    Calls Tryd.prog 29 #[] w fun e w' => e = .returned (.agg startS.vals) ∧ Below w.heap.size w w' := by
  go_enter Tryd.func29, Tryd.ntmps29
  go_wp2
  exact bodyPost_ret (v := .agg startS.vals) (by simp [results, Tryd.results29, go_sem]; rfl) rfl ⟨rfl, by go_grown⟩

theorem rightK (x : BitVec 32) (n : Int) (j : Nat) (hn : -9223372036854775808 ≤ n ∧ n ≤ 9223372036854775807) (h : (n % 32).toNat = j) (w : World) :
    Calls Tryd.prog 41 #[.int .u32 (u x), .int .i64 n] w fun e w' => e = .returned (.int .u32 (u (rotr x j))) ∧ w = w' := by
  subst h
  exact refright x n hn w

/-- The table of constants as an array. -/
def kcells : Array Value := Array.ofFn (n := 64) fun j => Value.int .u32 (u (kc j.val))
theorem kcells_size : kcells.size = 64 := by simp [kcells]
theorem kcells_at {j : Nat} (hj : j < 64) : kcells[j]? = some (.int .u32 (u (kc j))) := by simp [kcells, hj]
theorem kcells_one : kcells.all (·.oneCell') = true := by
  rw [Array.all_eq_true_iff_forall_mem]
  intro v hv
  obtain ⟨i, rfl⟩ := Array.mem_ofFn.1 hv
  rfl

theorem info64 : (Tryd.prog.info? 61).map (·.size) = some 64 := by kernel_rfl
set_option maxHeartbeats 1000000 in
set_option maxRecDepth 100000 in
theorem constants (w : World) :
    Calls Tryd.prog 38 #[] w fun e w' => e = .returned (.agg kcells) ∧ Below w.heap.size w w' := by
  go_enter Tryd.func38, Tryd.ntmps38
  go_wp2_with (first | (refine wpList_build rfl 61 _ rfl ?c1 ?_; (case c1 => kernel_rfl)) | (refine wpList_store_last rfl 61 _ _ rfl _ _ kcells 61 rfl _ rfl ?c1 ?c5 ?c2 ?c3 ?c4 ?_; (case c1 => simp); (case c5 => kernel_rfl); (case c2 => rw [kcells_size]; exact info64); (case c3 => rw [kcells_size]; rfl); (case c4 => exact kcells_one)))
  exact bodyPost_ret (v := .agg kcells) (results_at Tryd.results38 _ _ w.heap.size _ _ rfl (At.new _ _ _) Tryd.underlying61 rfl (by rw [kcells_size]; exact info64)) rfl ⟨rfl, by go_grown⟩
end Go.Proofs.YthdpipllighegaaDoor.RefS
