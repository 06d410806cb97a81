/- What sha.Pad returns: a contract. | What sha.join returns: a contract. -/
import Derived.Test.YteojkfbnenfmkaaDoorPadMJ3
import Derived.Test.YteojkfbnenfmkaaDoorShaCJ2
import Derived.Test.YteojkfbnenfmkaaDoorRowInJ3
import Derived.IntWalk
namespace Go.Proofs.YteojkfbnenfmkaaDoor.ShaF
set_option maxRecDepth 100000
open Go.RowKit RotM RotN RotC RotD ShaM ShaC RotG Small PadM

theorem info_u8 : (Tryd.prog.info? 5).map (·.size) = some 1 := by kernel_rfl
theorem zero_u8 : (Tryd.prog.info? 5).map (fun i => (i.zero, i.size, i.bytes)) = some (some (.int .u8 0), 1, 1) := by kernel_rfl
theorem info_8b : (Tryd.prog.info? 102).map (·.size) = some 8 := by kernel_rfl

theorem longV_one (a : Int) : (longV a).all (·.oneCell') = true := by kernel_rfl

/-- A slice of n bytes, the row of a block of its own known whole. -/
def Fresh (l : List Int) (w : World) (e : Ending) (w' : World) : Prop :=
  ∃ g, e = .returned (.slice (some ⟨g, 0, none⟩) l.length l.length) ∧ w.heap.size ≤ g ∧ At w' g (bv l).toArray ∧ Below w.heap.size w w'

theorem src_at {w : World} {A : Option Addr} {len cap : Nat} {zs : List Int} (h : RowIn.RowL .u8 w A len cap zs) : 0 < (bv (zs.take len)).length → ∃ ad, A = some ad ∧ ∀ j v, (bv (zs.take len))[j]? = some v → w.cell? (ad.add j) = some v := by
  intro hp
  obtain ⟨h1, h2, h3, h4, h5⟩ := h
  rcases h5 with ⟨_, h0, _⟩ | ⟨x, rfl, hc⟩
  · simp [bv, h0] at hp
  · refine ⟨x, rfl, fun j v hv => ?_⟩
    have hj : j < (zs.take len).length := by
      have := (List.getElem?_eq_some_iff.1 hv).1
      simpa [bv] using this
    have hj2 : j < len ∧ j < zs.length := by simp at hj; omega
    rw [bv_at _ hj] at hv
    rw [hc j hj2.2, ← hv]
    congr 2
    rw [List.getD_eq_getElem?_getD, List.getD_eq_getElem?_getD, List.getElem?_take, if_pos hj2.1]

theorem long_src {w : World} {g : Nat} {a : Int} (h : At w g (longV a)) (j : Nat) (v : Value) (hv : (bv (long8 a))[j]? = some v) : w.cell? ((⟨g, 0, none⟩ : Addr).add j) = some v := by
  have hadd : (⟨g, 0, none⟩ : Addr).add j = ⟨g, j, none⟩ := by unfold Addr.add; split <;> simp_all
  rw [hadd, h.cell j, ← hv, bv_long8]
  simp

set_option maxHeartbeats 1000000 in
theorem padW {w : World} {A : Option Addr} {len cap : Nat} {zs : List Int} (hr : RowIn.RowL .u8 w A len cap zs) (hl : len ≤ 1099511627776) :
    Calls Tryd.prog 57 #[.slice A len cap] w (Fresh (padL (zs.take len)) w) := by
  obtain ⟨bs, hbs⟩ : ∃ bs, zs.take len = bs := ⟨_, rfl⟩
  have hlen : bs.length = len := by
    have h1 := hr.1
    have h3 := hr.2.2.1
    rw [← hbs]; simp; omega
  have hsrc := src_at (hr.below ((Below.refl _ _).alloc (Nat.le_refl _) (.cells (List.replicate (nPad len) (.int .u8 0)).toArray 5)))
  rw [hbs] at hsrc
  rw [hbs]
  have hn1 := nPad_lo len
  have hn2 := nPad_hi len
  have hN : ((len : Int) + 9 + 64 - 1) / 64 * 64 = (nPad len : Nat) := by unfold nPad; omega
  have HN := RotF.aside hN
  have HL := RotF.aside hlen
  have HS := RotF.aside hsrc
  clear hN hbs hlen hsrc
  obtain ⟨N, hNN⟩ : ∃ N, nPad len = N := ⟨_, rfl⟩
  have HNN := RotF.aside hNN
  rw [hNN] at hn1 hn2 HN HS
  clear hNN
  go_enter Tryd.func57, Tryd.ntmps57
  go_wp2_with (first | (refine wpList_make_at rfl 66 _ _ rfl 5 (.int .u8 0) Tryd.underlying66 zero_u8 rfl _ rfl rfl N ?c1 ?c2 ?_; (case c1 => exact HN.out); (case c2 => omega)) | (refine wpList_copy_splice rfl _ _ 66 66 rfl 5 Tryd.underlying66 info_u8 _ _ _ _ _ _ rfl rfl w.heap.size 0 (List.replicate N (.int .u8 0)) 5 ?c1 (bv bs) ?c2 ?c3 ?c4 (bv_one bs) w.heap.size w ?c5 (Nat.le_refl _) ?_; (case c1 => exact heap_alloc_new _ _); (case c2 => rw [bv_length, HL.out]; exact (Nat.min_eq_left (by omega)).symm); (case c3 => exact fun hp => ⟨rfl, HS.out hp⟩); (case c4 => rw [bv_length, HL.out]; simp; omega); (case c5 => exact (Below.refl _ _).alloc (Nat.le_refl _) _); intro w2 HG2 hB2; have A2 : At w2 w.heap.size (bv (bs ++ List.replicate (N - bs.length) 0)).toArray := (⟨_, by rw [← lay1]; exact HG2.out⟩ : At _ _ _); clear HG2; have z2 := A2.frozen len; have c2 : w2.cell? ⟨w.heap.size, len, none⟩ = some (.int .u8 0) := (A2.cell len).trans (by rw [← HL.out]; exact lay1_at _ _ (by have := HL.out; omega))))
  refine (long _ ?_ _).mono ?_
  · omega
  rintro e w3 ⟨rfl, h3⟩
  have A3 : At w3 w.heap.size (bv (bs ++ (128 :: List.replicate (N - len - 1) 0))).toArray := by
    have q := A2.set len (.int .u8 128)
    rw [← HL.out, lay2 _ _ (by have := HL.out; omega), HL.out] at q
    exact q.below h3 q.lt
  have hB3 : Below w.heap.size w w3 := (hB2.setCell (by simp) _).trans (h3.mono (by have := hB2.size; simpa using this))
  clear A2 z2 c2 hB2 h3
  go_wp2_with (refine wpList_store_last rfl 102 _ _ rfl _ _ _ 102 rfl _ rfl ?c1 rfl ?c2 ?c3 ?c4 ?_; (case c1 => simp); (case c2 => exact info_8b); (case c3 => rfl); (case c4 => exact longV_one _))
  have l3 := A3.lt
  refine wp_region_still_tail 6 (by kernel_rfl) (by kernel_rfl) ?_
  simp only [List.take_succ_cons, List.take_zero, List.drop_succ_cons, List.drop_zero]
  change wpStill _ _ (World.drew _) (fun a' => wpList _ _ _ _ a' (World.drew _)) _ _
  obtain ⟨W, hW⟩ : ∃ W : World, W = (w3.alloc (.cells (longV (8 * (len : Int))) 102)).drew := ⟨_, rfl⟩
  rw [← hW]
  have C4 : At W w.heap.size (bv (bs ++ (128 :: List.replicate (N - len - 1) 0))).toArray := by rw [hW]; exact (A3.alloc _).drew
  have C5 : At W w3.heap.size (longV (8 * (len : Int))) := by rw [hW]; exact (At.new _ _ _).drew
  have hBW : Below w.heap.size w W := by rw [hW]; exact below_drew1 (hB3.alloc hB3.size _)
  clear hW A3 hB3
  have m1 : IntKind.i64.wrap ((N : Int) - 8) = (N : Int) - 8 := IntWalk.i64_in _ (by omega)
  have m2 : 0 ≤ (N : Int) - 8 := by omega
  have m3 : ((N : Int) - 8).toNat = N - 8 := by omega
  have m4 : (N : Int) - 8 ≤ (N : Int) := by omega
  have m5 : ¬ N = N - 8 := by omega
  have m6 : ¬ N - 8 = N := by omega
  have m7 : (8 : Int) ≤ (N : Int) := by omega
  have m8 : N - (N - 8) = 8 := by omega
  repeat still_step
  refine wpStill_nil ?_
  clear m1 m2 m3 m4 m5 m6 m7 m8
  obtain ⟨t4, ht4⟩ := C4
  have HT4 := RotF.aside ht4
  clear ht4
  go_wp2_with (refine wpList_copy_splice rfl _ _ 66 66 rfl 5 Tryd.underlying66 info_u8 _ _ _ _ _ _ rfl rfl w.heap.size (N - 8) (bv (bs ++ (128 :: List.replicate (N - len - 1) 0))) t4 ?c1 (bv (long8 (8 * (len : Int)))) ?c2 ?c3 ?c4 (bv_one _) w.heap.size w ?c5 (Nat.le_refl _) ?_; (case c1 => exact HT4.out); (case c2 => rfl); (case c3 => exact fun _ => ⟨rfl, _, rfl, fun j v hj => long_src C5 j v hj⟩); (case c4 => rw [bv_length, bv_length, long8_length]; simp; have := HL.out; omega); (case c5 => exact hBW); intro w5 HG5 hB5)
  have hlen := HL.out
  have hN8 : N - 8 = bs.length + 1 + (N - len - 1) - 8 := by omega
  have A5 : At w5 w.heap.size (bv (padL bs)).toArray := by
    refine ⟨t4, ?_⟩
    rw [HG5.out, hN8, lay3 bs _ _ (long8_length _) (by omega)]
    unfold padL
    rw [hlen, HNN.out, show N - len - 1 - 8 = N - len - 9 by omega]
  clear HG5 hN8 HT4 C5 hBW HS
  go_ret
  refine ⟨w.heap.size, ?_, Nat.le_refl _, A5, hB5⟩
  rw [padL_length, hlen, HNN.out]
  rfl
end Go.Proofs.YteojkfbnenfmkaaDoor.ShaF
namespace Go.Proofs.YteojkfbnenfmkaaDoor.ShaG
set_option maxRecDepth 100000
open Go.RowKit RotM RotN RotC RotD ShaM ShaC RotG Small PadM ShaF

/-- The bytes of the first k of eight words. -/
def idL (h : H8) (k : Nat) : List Int := (List.range k).flatMap fun i => four8 (u (h.w i))
theorem idL_succ (h : H8) (k : Nat) : idL h (k + 1) = idL h k ++ four8 (u (h.w k)) := by simp [idL, List.range_succ]
theorem idL_length (h : H8) (k : Nat) : (idL h k).length = 4 * k := by
  induction k with
  | zero => rfl
  | succ k ih => rw [idL_succ, List.length_append, ih, four8_length]; omega
/-- The row of an id of which the first k words are laid. -/
def idV (h : H8) (k : Nat) : List Value := bv (idL h k ++ List.replicate (32 - 4 * k) 0)
theorem idV_length (h : H8) (k : Nat) (hk : k ≤ 8) : (idV h k).length = 32 := by
  simp [idV, bv_length, idL_length]; omega
theorem idV_one (h : H8) (k : Nat) : (idV h k).toArray.all (·.oneCell') = true := by
  rw [Array.all_eq_true_iff_forall_mem]
  intro v hv
  exact bv_one _ v (by simpa [idV] using hv)
theorem idV_splice (h : H8) (k : Nat) (hk : k < 8) : splice (idV h k) (4 * k) (bv (four8 (u (h.w k)))) = idV h (k + 1) := by
  unfold idV
  rw [← idL_length h k, lay_behind _ _ _ (by rw [four8_length, idL_length]; omega), idL_succ, four8_length, idL_length]
  congr 3
theorem info_id : (Tryd.prog.info? 42).map (·.size) = some 32 := by kernel_rfl
theorem info_4b : (Tryd.prog.info? 107).map (·.size) = some 4 := by kernel_rfl
theorem fourV_one (a : Int) : (fourV a).all (·.oneCell') = true := by kernel_rfl
theorem four_src {w : World} {g : Nat} {a : Int} (h : At w g (fourV a)) (j : Nat) (v : Value) (hv : (bv (four8 a))[j]? = some v) : w.cell? ((⟨g, 0, none⟩ : Addr).add j) = some v := by
  have hadd : (⟨g, 0, none⟩ : Addr).add j = ⟨g, j, none⟩ := by unfold Addr.add; split <;> simp_all
  rw [hadd, h.cell j, ← hv, bv_four8]
  simp
theorem index8 (h : H8) (k : Nat) (hk : k < 8) (w : World) : (Instr.index 89 (.agg h.vals) (.int .i64 (k : Int))).run Tryd.prog w = .ok (.int .u32 (u (h.w k))) w := by
  obtain ⟨a, b, c, d, e, f, g, z⟩ := h
  rcases (by omega : k = 0 ∨ k = 1 ∨ k = 2 ∨ k = 3 ∨ k = 4 ∨ k = 5 ∨ k = 6 ∨ k = 7) with rfl | rfl | rfl | rfl | rfl | rfl | rfl | rfl
  all_goals kernel_rfl
set_option maxRecDepth 10000 in
theorem idV_zero (h : H8) : (idV h 0).toArray = #[.int .u8 0, .int .u8 0, .int .u8 0, .int .u8 0, .int .u8 0, .int .u8 0, .int .u8 0, .int .u8 0, .int .u8 0, .int .u8 0, .int .u8 0, .int .u8 0, .int .u8 0, .int .u8 0, .int .u8 0, .int .u8 0, .int .u8 0, .int .u8 0, .int .u8 0, .int .u8 0, .int .u8 0, .int .u8 0, .int .u8 0, .int .u8 0, .int .u8 0, .int .u8 0, .int .u8 0, .int .u8 0, .int .u8 0, .int .u8 0, .int .u8 0, .int .u8 0] := by kernel_rfl
theorem at_new3 (w : World) (cs : Array Value) (t : TypeId) (o1 o2 : Obj) : At (((w.alloc o1).alloc o2).alloc (.cells cs t)) (w.heap.size + 1 + 1) cs := by
  have q := At.new2 (w.alloc o1) cs t o2
  have e : (w.alloc o1).heap.size = w.heap.size + 1 := by simp
  rwa [e] at q
theorem fourA (x : BitVec 32) (w : World) : Calls Tryd.prog 71 #[.int .u32 (u x)] w fun e w' => e = .returned (.agg (fourV (u x))) ∧ Below w.heap.size w w' := by
  refine (four (u x) (u_range x) w).mono fun e w' ⟨he, hw⟩ => ⟨he, ?_⟩
  subst hw
  go_grown

set_option maxHeartbeats 1000000 in
set_option maxRecDepth 100000 in
theorem join (h : H8) (w : World) :
    Calls Tryd.prog 60 #[.agg h.vals] w fun e w' => e = .returned (.agg (bv (idL h 8)).toArray) ∧ Below w.heap.size w w' := by
  go_enter Tryd.func60, Tryd.ntmps60
  go_wp2_with (refine wpList_load_at rfl 89 _ rfl _ rfl h.vals _ ?c1 Tryd.underlying89 rfl ?c2 ?_; (case c1 => exact At.alloc (At.old2 _ _ _ _) _); (case c2 => kernel_rfl))
  go_loopw [8] (fun i wr => ∃ k : Nat, k ≤ 8 ∧ i = .int .i64 k ∧ At wr (w.heap.size + 1) (idV h 0).toArray ∧ At wr (w.heap.size + 1 + 1) (idV h k).toArray ∧ Below w.heap.size w wr) (fun i _ => 8 - (intOf i).toNat)
  case atStart => exact ⟨0, Nat.zero_le _, rfl, by rw [idV_zero]; exact At.alloc (At.new2 _ _ _ _) _, by rw [idV_zero]; exact at_new3 _ _ _ _ _, by go_grown⟩
  case round =>
    obtain ⟨k, hk, rfl, A2, A3, kb⟩ := hrel
    by_cases hlt : k < 8
    · have hidx := index8 h k hlt
      go_wp2_with fail
      refine (fourA (h.w k) _).mono ?_
      rintro e w1 ⟨rfl, h1⟩
      have B2 := A2.below h1 A2.lt
      have B3 := A3.below h1 A3.lt
      have kc := kb.trans (h1.mono kb.size)
      clear A2 A3 kb h1 hidx
      go_wp2_with (refine wpList_store_last rfl 107 _ _ rfl _ _ _ 107 rfl _ rfl ?c1 rfl ?c2 ?c3 ?c4 ?_; (case c1 => simp); (case c2 => exact info_4b); (case c3 => rfl); (case c4 => exact fourV_one _))
      have l3 := B3.lt
      refine wp_region_still_tail 4 (by kernel_rfl) (by kernel_rfl) ?_
      simp only [List.take_succ_cons, List.take_zero, List.drop_succ_cons, List.drop_zero]
      change wpStill _ _ (World.drew _) (fun a' => wpList _ _ _ _ a' (World.drew _)) _ _
      obtain ⟨W, hW⟩ : ∃ W : World, W = (w1.alloc (.cells (fourV (u (h.w k))) 107)).drew := ⟨_, rfl⟩
      rw [← hW]
      have C2 : At W (w.heap.size + 1) (idV h 0).toArray := by rw [hW]; exact (B2.alloc _).drew
      have C3 : At W (w.heap.size + 1 + 1) (idV h k).toArray := by rw [hW]; exact (B3.alloc _).drew
      have C6 : At W w1.heap.size (fourV (u (h.w k))) := by rw [hW]; exact (At.new _ _ _).drew
      have kd : Below w.heap.size w W := by rw [hW]; exact below_drew1 (kc.alloc kc.size _)
      clear hW B2 B3 kc
      have m1 : IntKind.i64.wrap (4 * (k : Int)) = 4 * (k : Int) := IntWalk.i64_in _ (by omega)
      have m2 : 0 ≤ 4 * (k : Int) := by omega
      have m3 : (4 * (k : Int)).toNat = 4 * k := by omega
      have m4 : 4 * (k : Int) ≤ 32 := by omega
      have m5 : ¬ 32 = 4 * k := by omega
      repeat still_step
      refine wpStill_nil ?_
      clear m1 m2 m3 m4 m5
      obtain ⟨t3, ht3⟩ := C3
      have HT3 := RotF.aside ht3
      clear ht3
      go_wp2_with (refine wpList_copy_splice rfl _ _ 66 66 rfl 5 Tryd.underlying66 info_u8 _ _ _ _ _ _ rfl rfl (w.heap.size + 1 + 1) (4 * k) (idV h k) t3 ?c1 (bv (four8 (u (h.w k)))) ?c2 ?c3 ?c4 (bv_one _) (w.heap.size + 1 + 1) W ?c5 (Nat.le_refl _) ?_; (case c1 => exact HT3.out); (case c2 => rw [bv_length, four8_length]; exact (Nat.min_eq_left (by omega)).symm); (case c3 => exact fun _ => ⟨rfl, _, rfl, fun j v hj => four_src C6 j v hj⟩); (case c4 => rw [bv_length, four8_length, idV_length _ _ (by omega)]; omega); (case c5 => exact Below.refl _ _); intro w5 HG5 hB5)
      go_roundw
      case rel =>
        refine ⟨k + 1, by omega, by go_num, C2.below hB5 (by omega), ?_, kd.trans (hB5.mono (by omega))⟩
        refine ⟨t3, ?_⟩
        rw [HG5.out, idV_splice _ _ hlt]
      case measure => simp [intOf]; omega
    · have e8 : k = 8 := by omega
      rw [e8] at A3
      clear e8
      go_wp2_with (first | (refine wpList_load_at rfl 42 _ rfl _ rfl _ _ A3 Tryd.underlying42 rfl ?c2 ?_; (case c2 => rw [List.size_toArray, idV_length _ _ (by omega)]; exact info_id)) | (refine wpList_store_at rfl 42 _ _ rfl _ _ rfl rfl _ A2 ?c2 ?c3 ?c4 ?_; (case c2 => rw [List.size_toArray, idV_length _ _ (by omega)]; exact info_id); (case c3 => rw [List.size_toArray, List.size_toArray, idV_length _ _ (by omega), idV_length _ _ (by omega)]); (case c4 => exact idV_one _ _)))
      exact bodyPost_ret (v := .agg (bv (idL h 8)).toArray) (results_at Tryd.results60 _ _ (w.heap.size + 1) _ _ rfl (by have q := A2.row (idV h 8).toArray; simpa [idV] using q) Tryd.underlying42 rfl (by rw [List.size_toArray, bv_length, idL_length]; exact info_id)) rfl ⟨rfl, below_row kb (by omega) _⟩
end Go.Proofs.YteojkfbnenfmkaaDoor.ShaG
