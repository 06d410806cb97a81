/- What sha.join returns: a contract. -/
import Derived.Test.YthdpipllighegaaDoorShaF
namespace Go.Proofs.YthdpipllighegaaDoor.ShaG
set_option maxRecDepth 100000
open Go.RowKit RotM RotN RotC RotD ShaM ShaC RotG Small PadM ShaF

/-- The bytes of the first k of eight words. -/
def idL (h : H8) (k : Nat) : List Int := (List.range k).flatMap fun i => four8 (u (h.w i))
theorem idL_succ (h : H8) (k : Nat) : idL h (k + 1) = idL h k ++ four8 (u (h.w k)) := by simp [idL, List.range_succ]
theorem idL_length (h : H8) (k : Nat) : (idL h k).length = 4 * k := by
  induction k with
  | zero => rfl
  | succ k ih => rw [idL_succ, List.length_append, ih, four8_length]; omega
/-- The row of an id of which the first k words are laid. -/
def idV (h : H8) (k : Nat) : List Value := bv (idL h k ++ List.replicate (32 - 4 * k) 0)
theorem idV_length (h : H8) (k : Nat) (hk : k ≤ 8) : (idV h k).length = 32 := by
  simp [idV, bv_length, idL_length]; omega
theorem idV_one (h : H8) (k : Nat) : (idV h k).toArray.all (·.oneCell') = true := by
  rw [Array.all_eq_true_iff_forall_mem]
  intro v hv
  exact bv_one _ v (by simpa [idV] using hv)
theorem idV_splice (h : H8) (k : Nat) (hk : k < 8) : splice (idV h k) (4 * k) (bv (four8 (u (h.w k)))) = idV h (k + 1) := by
  unfold idV
  rw [← idL_length h k, lay_behind _ _ _ (by rw [four8_length, idL_length]; omega), idL_succ, four8_length, idL_length]
  congr 3
theorem info_id : (Tryd.prog.info? 44).map (·.size) = some 32 := by kernel_rfl
theorem info_4b : (Tryd.prog.info? 37).map (·.size) = some 4 := by kernel_rfl
theorem fourV_one (a : Int) : (fourV a).all (·.oneCell') = true := by kernel_rfl
theorem four_src {w : World} {g : Nat} {a : Int} (h : At w g (fourV a)) (j : Nat) (v : Value) (hv : (bv (four8 a))[j]? = some v) : w.cell? ((⟨g, 0, none⟩ : Addr).add j) = some v := by
  have hadd : (⟨g, 0, none⟩ : Addr).add j = ⟨g, j, none⟩ := by unfold Addr.add; split <;> simp_all
  rw [hadd, h.cell j, ← hv, bv_four8]
  simp
theorem index8 (h : H8) (k : Nat) (hk : k < 8) (w : World) : (Instr.index 53 (.agg h.vals) (.int .i64 (k : Int))).run Tryd.prog w = .ok (.int .u32 (u (h.w k))) w := by
  obtain ⟨a, b, c, d, e, f, g, z⟩ := h
  rcases (by omega : k = 0 ∨ k = 1 ∨ k = 2 ∨ k = 3 ∨ k = 4 ∨ k = 5 ∨ k = 6 ∨ k = 7) with rfl | rfl | rfl | rfl | rfl | rfl | rfl | rfl
  all_goals kernel_rfl
set_option maxRecDepth 10000 in
theorem idV_zero (h : H8) : (idV h 0).toArray = #[.int .u8 0, .int .u8 0, .int .u8 0, .int .u8 0, .int .u8 0, .int .u8 0, .int .u8 0, .int .u8 0, .int .u8 0, .int .u8 0, .int .u8 0, .int .u8 0, .int .u8 0, .int .u8 0, .int .u8 0, .int .u8 0, .int .u8 0, .int .u8 0, .int .u8 0, .int .u8 0, .int .u8 0, .int .u8 0, .int .u8 0, .int .u8 0, .int .u8 0, .int .u8 0, .int .u8 0, .int .u8 0, .int .u8 0, .int .u8 0, .int .u8 0, .int .u8 0] := by kernel_rfl
theorem at_new3 (w : World) (cs : Array Value) (t : TypeId) (o1 o2 : Obj) : At (((w.alloc o1).alloc o2).alloc (.cells cs t)) (w.heap.size + 1 + 1) cs := by
  have q := At.new2 (w.alloc o1) cs t o2
  have e : (w.alloc o1).heap.size = w.heap.size + 1 := by simp
  rwa [e] at q
theorem fourA (x : BitVec 32) (w : World) : Calls Tryd.prog 48 #[.int .u32 (u x)] w fun e w' => e = .returned (.agg (fourV (u x))) ∧ Below w.heap.size w w' := by
  refine (four (u x) (u_range x) w).mono fun e w' ⟨he, hw⟩ => ⟨he, ?_⟩
  subst hw
  go_grown

set_option maxHeartbeats 1000000 in
set_option maxRecDepth 100000 in
theorem join (h : H8) (w : World) :
    Calls Tryd.prog 36 #[.agg h.vals] w fun e w' => e = .returned (.agg (bv (idL h 8)).toArray) ∧ Below w.heap.size w w' := by
  go_enter Tryd.func36, Tryd.ntmps36
  go_wp2_with (refine wpList_load_at rfl 53 _ rfl _ rfl h.vals _ ?c1 Tryd.underlying53 rfl ?c2 ?_; (case c1 => exact At.alloc (At.old2 _ _ _ _) _); (case c2 => kernel_rfl))
  go_loopw [8] (fun i wr => ∃ k : Nat, k ≤ 8 ∧ i = .int .i64 k ∧ At wr (w.heap.size + 1) (idV h 0).toArray ∧ At wr (w.heap.size + 1 + 1) (idV h k).toArray ∧ Below w.heap.size w wr) (fun i _ => 8 - (intOf i).toNat)
  case atStart => exact ⟨0, Nat.zero_le _, rfl, by rw [idV_zero]; exact At.alloc (At.new2 _ _ _ _) _, by rw [idV_zero]; exact at_new3 _ _ _ _ _, by go_grown⟩
  case round =>
    obtain ⟨k, hk, rfl, A2, A3, kb⟩ := hrel
    by_cases hlt : k < 8
    · have hidx := index8 h k hlt
      go_wp2_with fail
      refine (fourA (h.w k) _).mono ?_
      rintro e w1 ⟨rfl, h1⟩
      have B2 := A2.below h1 A2.lt
      have B3 := A3.below h1 A3.lt
      have kc := kb.trans (h1.mono kb.size)
      clear A2 A3 kb h1 hidx
      go_wp2_with (refine wpList_store_last rfl 37 _ _ rfl _ _ _ 37 rfl _ rfl ?c1 rfl ?c2 ?c3 ?c4 ?_; (case c1 => simp); (case c2 => exact info_4b); (case c3 => rfl); (case c4 => exact fourV_one _))
      have l3 := B3.lt
      refine wp_region_still_tail 4 (by kernel_rfl) (by kernel_rfl) ?_
      simp only [List.take_succ_cons, List.take_zero, List.drop_succ_cons, List.drop_zero]
      change wpStill _ _ (World.drew _) (fun a' => wpList _ _ _ _ a' (World.drew _)) _ _
      obtain ⟨W, hW⟩ : ∃ W : World, W = (w1.alloc (.cells (fourV (u (h.w k))) 37)).drew := ⟨_, rfl⟩
      rw [← hW]
      have C2 : At W (w.heap.size + 1) (idV h 0).toArray := by rw [hW]; exact (B2.alloc _).drew
      have C3 : At W (w.heap.size + 1 + 1) (idV h k).toArray := by rw [hW]; exact (B3.alloc _).drew
      have C6 : At W w1.heap.size (fourV (u (h.w k))) := by rw [hW]; exact (At.new _ _ _).drew
      have kd : Below w.heap.size w W := by rw [hW]; exact below_drew1 (kc.alloc kc.size _)
      clear hW B2 B3 kc
      have m1 : IntKind.i64.wrap (4 * (k : Int)) = 4 * (k : Int) := IntWalk.i64_in _ (by omega)
      have m2 : 0 ≤ 4 * (k : Int) := by omega
      have m3 : (4 * (k : Int)).toNat = 4 * k := by omega
      have m4 : 4 * (k : Int) ≤ 32 := by omega
      have m5 : ¬ 32 = 4 * k := by omega
      repeat still_step
      refine wpStill_nil ?_
      clear m1 m2 m3 m4 m5
      obtain ⟨t3, ht3⟩ := C3
      have HT3 := RotF.aside ht3
      clear ht3
      go_wp2_with (refine wpList_copy_splice rfl _ _ 22 22 rfl 5 Tryd.underlying22 info_u8 _ _ _ _ _ _ rfl rfl (w.heap.size + 1 + 1) (4 * k) (idV h k) t3 ?c1 (bv (four8 (u (h.w k)))) ?c2 ?c3 ?c4 (bv_one _) (w.heap.size + 1 + 1) W ?c5 (Nat.le_refl _) ?_; (case c1 => exact HT3.out); (case c2 => rw [bv_length, four8_length]; exact (Nat.min_eq_left (by omega)).symm); (case c3 => exact fun _ => ⟨rfl, _, rfl, fun j v hj => four_src C6 j v hj⟩); (case c4 => rw [bv_length, four8_length, idV_length _ _ (by omega)]; omega); (case c5 => exact Below.refl _ _); intro w5 HG5 hB5)
      go_roundw
      case rel =>
        refine ⟨k + 1, by omega, by go_num, C2.below hB5 (by omega), ?_, kd.trans (hB5.mono (by omega))⟩
        refine ⟨t3, ?_⟩
        rw [HG5.out, idV_splice _ _ hlt]
      case measure => simp [intOf]; omega
    · have e8 : k = 8 := by omega
      rw [e8] at A3
      clear e8
      go_wp2_with (first | (refine wpList_load_at rfl 44 _ rfl _ rfl _ _ A3 Tryd.underlying44 rfl ?c2 ?_; (case c2 => rw [List.size_toArray, idV_length _ _ (by omega)]; exact info_id)) | (refine wpList_store_at rfl 44 _ _ rfl _ _ rfl rfl _ A2 ?c2 ?c3 ?c4 ?_; (case c2 => rw [List.size_toArray, idV_length _ _ (by omega)]; exact info_id); (case c3 => rw [List.size_toArray, List.size_toArray, idV_length _ _ (by omega), idV_length _ _ (by omega)]); (case c4 => exact idV_one _ _)))
      exact bodyPost_ret (v := .agg (bv (idL h 8)).toArray) (results_at Tryd.results36 _ _ (w.heap.size + 1) _ _ rfl (by have q := A2.row (idV h 8).toArray; simpa [idV] using q) Tryd.underlying44 rfl (by rw [List.size_toArray, bv_length, idL_length]; exact info_id)) rfl ⟨rfl, below_row kb (by omega) _⟩
end Go.Proofs.YthdpipllighegaaDoor.ShaG
