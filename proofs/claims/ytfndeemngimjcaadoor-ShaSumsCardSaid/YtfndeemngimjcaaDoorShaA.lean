/- The chapter's own examples: 'awake' returns true. And: what a slice of bytes that the call itself made is told as. -/
import Derived.Test.YtfndeemngimjcaaDoorShaH
import Derived.Test.YtfndeemngimjcaaDoorShaK
import Derived.Lib.SlBytesConst
namespace Go.Proofs.YtfndeemngimjcaaDoor.ShaA
open Go.RowKit RotM RotN RotC RotD ShaM ShaC ShaD ShaE RotG Small PadM ShaF ShaG SumM ShaH ShaK

theorem idl_0 : idL end0_0 8 = [227, 176, 196, 66, 152, 252, 28, 20, 154, 251, 244, 200, 153, 111, 185, 36, 39, 174, 65, 228, 100, 155, 147, 76, 164, 149, 153, 27, 120, 82, 184, 85] := by kernel_rfl
theorem sumL_0 : sumL [] = [227, 176, 196, 66, 152, 252, 28, 20, 154, 251, 244, 200, 153, 111, 185, 36, 39, 174, 65, 228, 100, 155, 147, 76, 164, 149, 153, 27, 120, 82, 184, 85] := by
  have h : sumL [] = idL (hsum (padL text0) 1) 8 := rfl
  rw [h, sum0, idl_0]
theorem idl_1 : idL end1_0 8 = [186, 120, 22, 191, 143, 1, 207, 234, 65, 65, 64, 222, 93, 174, 34, 35, 176, 3, 97, 163, 150, 23, 122, 156, 180, 16, 255, 97, 242, 0, 21, 173] := by kernel_rfl
theorem sumL_1 : sumL [97, 98, 99] = [186, 120, 22, 191, 143, 1, 207, 234, 65, 65, 64, 222, 93, 174, 34, 35, 176, 3, 97, 163, 150, 23, 122, 156, 180, 16, 255, 97, 242, 0, 21, 173] := by
  have h : sumL [97, 98, 99] = idL (hsum (padL text1) 1) 8 := rfl
  rw [h, sum1, idl_1]

/-- A row known whole is a slice of bytes as a walk is told of one. -/
theorem rowIn_row {w : World} {g : Nat} {l : List Int} {t : TypeId} {fr : Nat × Nat} (h : w.heap[g]? = some (.cells (bv l).toArray t fr)) (hl : l.length ≤ maxLen) (hb : ∀ x ∈ l, B x) : RowIn.RowIn .u8 w (some ⟨g, 0, none⟩) l.length l.length l := by
  refine ⟨Nat.le_refl _, hl, rfl, fun n hn => ?_, .inr ⟨_, rfl, fun i hi => ?_⟩⟩
  · have := hb n hn
    unfold B at this
    simp [Lit.wf, IntKind.min, IntKind.max, IntKind.bits, IntKind.signed]
    omega
  · have hadd : (⟨g, 0, none⟩ : Addr).add i = ⟨g, i, none⟩ := by unfold Addr.add; split <;> simp_all
    rw [hadd, cell_of_row w g i _ t fr h, List.getElem?_toArray, bv_at _ hi]
theorem rowIn_at {w : World} {g : Nat} {l : List Int} (h : At w g (bv l).toArray) (hl : l.length ≤ maxLen) (hb : ∀ x ∈ l, B x) : RowIn.RowIn .u8 w (some ⟨g, 0, none⟩) l.length l.length l := by
  obtain ⟨t, ht⟩ := h
  exact rowIn_row ht hl hb
theorem rowIn_nil (w : World) : RowIn.RowIn .u8 w none 0 0 [] := ⟨Nat.le_refl _, Nat.zero_le _, rfl, by simp, .inl ⟨rfl, rfl, rfl⟩⟩

theorem sum_abc (g : Nat) (w : World) (t : TypeId) (fr : Nat × Nat) (h : w.heap[g]? = some (.cells (bv [97, 98, 99]).toArray t fr)) (hK : KIn w) :
    Calls Tryd.prog 10 #[.slice (some ⟨g, 0, none⟩) 3 3] w fun e w' => e = .returned (.agg (bv (sumL [97, 98, 99])).toArray) ∧ Below w.heap.size w w' :=
  by
  have q := sum (rowIn_row h (by unfold maxLen; simp) (by unfold B; decide)) (by simp) hK
  exact q
theorem sum_nil (w : World) (hK : KIn w) :
    Calls Tryd.prog 10 #[.slice none 0 0] w fun e w' => e = .returned (.agg (bv (sumL [])).toArray) ∧ Below w.heap.size w w' :=
  sum (rowIn_nil w) (by omega) hK
theorem pad_nil (w : World) : Calls Tryd.prog 12 #[.slice none 0 0] w (Fresh (padL []) w) := pad (rowIn_nil w) (by omega)
theorem size_sum (l : List Int) : (bv (sumL l)).toArray.size = 32 := by rw [List.size_toArray, bv_length, sumL_length]
theorem pad_nil_length : (padL []).length = 64 := by kernel_rfl

set_option maxHeartbeats 1000000 in
theorem awake (w : World) (hK : KIn w) :
    Calls Tryd.prog 9 #[] w fun e w' => e = .returned (.bool true) ∧ Below w.heap.size w w' := by
  have kcv := fun (w : World) (C : Array Value) (n c : Nat) => Lib.run_convert_bytes_const (P := Tryd.prog) w 22 5 C n c Tryd.underlying22 Tryd.underlying5
  go_enter Tryd.func9, Tryd.ntmps9
  go_wp2_with fail
  clear kcv
  refine (sum_abc _ _ _ _ (heap_alloc_new _ _) (hK.below ((Below.refl _ _).alloc (Nat.le_refl _) _))).mono ?_
  rintro e w1 ⟨rfl, h1⟩
  have k1 : Below w.heap.size w w1 := Below.trans (by go_grown) (h1.mono (by simp))
  clear h1
  go_wp2_with (refine wpList_store_last rfl 25 _ _ rfl _ _ _ 25 rfl _ rfl ?c1 rfl ?c2 ?c3 ?c4 ?_; (case c1 => simp); (case c2 => rw [size_sum]; exact info_id); (case c3 => rw [size_sum]; rfl); (case c4 => exact bv_all _))
  refine (sum_nil _ (hK.below (k1.alloc k1.size _))).mono ?_
  rintro e w2 ⟨rfl, h2⟩
  have A1 := (At.new w1 (bv (sumL [97, 98, 99])).toArray 25).below h2 (by simp)
  have k2 : Below w.heap.size w w2 := (k1.alloc k1.size _).trans (h2.mono (by have := k1.size; simp; omega))
  have l1 := A1.lt
  clear h2 k1
  have c0 : w2.cell? ⟨w1.heap.size, 0, none⟩ = some (.int .u8 186) := (A1.cell 0).trans (by rw [sumL_1]; rfl)
  have c1 : w2.cell? ⟨w1.heap.size, 1, none⟩ = some (.int .u8 120) := (A1.cell 1).trans (by rw [sumL_1]; rfl)
  have c2 : w2.cell? ⟨w1.heap.size, 2, none⟩ = some (.int .u8 22) := (A1.cell 2).trans (by rw [sumL_1]; rfl)
  have c3 : w2.cell? ⟨w1.heap.size, 3, none⟩ = some (.int .u8 191) := (A1.cell 3).trans (by rw [sumL_1]; rfl)
  have b0 : (bv (sumL []))[0]? = some (.int .u8 227) := by rw [sumL_0]; rfl
  have b1 : (bv (sumL []))[1]? = some (.int .u8 176) := by rw [sumL_0]; rfl
  have b2 : (bv (sumL []))[2]? = some (.int .u8 196) := by rw [sumL_0]; rfl
  have b3 : (bv (sumL []))[3]? = some (.int .u8 66) := by rw [sumL_0]; rfl
  go_wp2_with (refine wpList_store_last rfl 25 _ _ rfl _ _ _ 25 rfl _ rfl ?c1 rfl ?c2 ?c3 ?c4 ?_; (case c1 => simp); (case c2 => rw [size_sum]; exact info_id); (case c3 => rw [size_sum]; rfl); (case c4 => exact bv_all _))
  refine (pad_nil _).mono ?_
  rintro e w3 ⟨g, rfl, _, _, h3⟩
  have k3 : Below w.heap.size w w3 := (k2.alloc k2.size _).trans (h3.mono (by have := k2.size; simp; omega))
  have e64 := pad_nil_length
  clear h3 c0 c1 c2 c3 b0 b1 b2 b3
  go_wp2
  go_ret
  exact ⟨rfl, k3⟩
end Go.Proofs.YtfndeemngimjcaaDoor.ShaA
