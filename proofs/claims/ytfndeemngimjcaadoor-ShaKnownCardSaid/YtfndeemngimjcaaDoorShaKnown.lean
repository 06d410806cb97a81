/- ShaKnown returns true for every input, where the table of constants is as the program's text lays it: of three texts the sums are as they are known. No other condition. -/
import Derived.Test.YtfndeemngimjcaaDoorIdAt
import Derived.Test.YtfndeemngimjcaaDoorShaL
import Derived.Test.YtfndeemngimjcaaDoorCards
import Derived.Test.YtfndeemngimjcaaDoorTie
import Derived.ChangeOld
namespace Go.Proofs.YtfndeemngimjcaaDoor.shaKnown
open Go.ChangeShapes Go.WideShapes Go.ChangeAt Go.RowKit RotM RotN RotC RotD RotG Small ShaM ShaD ShaE ShaF ShaG ShaH ShaK ShaA PadM SumM IdAt

theorem sumL_t0 : sumL text0 = idL end0_0 8 := by
  have h : sumL text0 = idL (hsum (padL text0) 1) 8 := rfl
  rw [h, sum0]
theorem sumL_t1 : sumL text1 = idL end1_0 8 := by
  have h : sumL text1 = idL (hsum (padL text1) 1) 8 := rfl
  rw [h, sum1]
theorem sumL_t2 : sumL text2 = idL end2_1 8 := by
  have h : sumL text2 = idL (hsum (padL text2) 2) 8 := rfl
  rw [h, sum2]

set_option maxHeartbeats 400000 in
theorem low (i : Int) (w : World) (hi : i < 0) (hK : KIn w) :
    Calls Tryd.prog 7 #[.int .i64 i] w fun e w' => e = .returned (.bool true) ∧ Below w.heap.size w w' := by
  go_enter Tryd.func7, Tryd.ntmps7
  go_wp2_with fail
  refine (awake _ hK).mono ?_
  rintro e w1 ⟨rfl, k1⟩
  go_wp2_with fail
  go_ret
  exact ⟨rfl, k1⟩
set_option maxHeartbeats 400000 in
theorem high (i : Int) (w : World) (hi : 2 < i) (hK : KIn w) :
    Calls Tryd.prog 7 #[.int .i64 i] w fun e w' => e = .returned (.bool true) ∧ Below w.heap.size w w' := by
  have h0 : ¬ i < 0 := by omega
  go_enter Tryd.func7, Tryd.ntmps7
  go_wp2_with fail
  refine (awake _ hK).mono ?_
  rintro e w1 ⟨rfl, k1⟩
  go_wp2_with fail
  go_ret
  exact ⟨rfl, k1⟩

/-- A sum of bytes that were made out of a string, behind two blocks. -/
theorem sum_str (s : ByteArray) (n : Nat) (hn : s.size = n) (hs : n ≤ 100) (V : World) (O1 O2 : Obj) (cap : Nat) (t : TypeId) (fr : Nat × Nat) (h1 : n ≤ cap) (h2 : cap ≤ maxLen) (hK : KIn V) :
    Calls Tryd.prog 10 #[.slice (some ⟨V.heap.size + 1 + 1, 0, none⟩) n cap] (((V.alloc O1).alloc O2).alloc (.cells (bytesRow s cap) t fr)).drew
      fun e w' => e = .returned (.agg (bv (sumL (bytesL s))).toArray) ∧ w'.heap[V.heap.size + 1]? = some O2 ∧ Below V.heap.size V w' := by
  subst hn
  have e1 : ((V.alloc O1).alloc O2).heap.size = V.heap.size + 1 + 1 := by simp
  have hg : (((V.alloc O1).alloc O2).alloc (.cells (bytesRow s cap) t fr)).drew.heap[V.heap.size + 1 + 1]? = some (.cells (bytesRow s cap) t fr) := by
    have := heap_alloc_new ((V.alloc O1).alloc O2) (.cells (bytesRow s cap) t fr)
    rw [e1] at this
    exact this
  have hb : Below V.heap.size V (((V.alloc O1).alloc O2).alloc (.cells (bytesRow s cap) t fr)).drew := below_drew1 (by go_grown)
  have q := sum (rowIn_bytes s hg h1 h2) (by omega) (hK.below hb)
  rw [take_bytes] at q
  refine q.mono fun e w' ⟨he, hw⟩ => ⟨he, ?_, hb.trans (hw.mono hb.size)⟩
  rw [hw.block (V.heap.size + 1) (by simp)]
  exact (Below.heap_alloc _ _ _ (by simp)).trans (heap_alloc2_new V O1 O2)

/-- The sums as they are known. -/
def knownV : Array Value := #[.int .u32 3820012610, .int .u32 2566659092, .int .u32 2600203464, .int .u32 2574235940, .int .u32 665731556, .int .u32 1687917388, .int .u32 2761267483, .int .u32 2018687061, .int .u32 3128432319, .int .u32 2399260650, .int .u32 1094795486, .int .u32 1571693091, .int .u32 2953011619, .int .u32 2518121116, .int .u32 3021012833, .int .u32 4060091821, .int .u32 613247585, .int .u32 3523623096, .int .u32 3854575251, .int .u32 205414457, .int .u32 2738676825, .int .u32 1694441831, .int .u32 4142722516, .int .u32 433784513]
theorem known_at0 (k : Nat) (hk : k < 8) : knownV[k]? = some (.int .u32 (u (end0_0.w k))) := by
  rcases (by omega : k = 0 ∨ k = 1 ∨ k = 2 ∨ k = 3 ∨ k = 4 ∨ k = 5 ∨ k = 6 ∨ k = 7) with rfl | rfl | rfl | rfl | rfl | rfl | rfl | rfl
  all_goals kernel_rfl
theorem known_at1 (k : Nat) (hk : k < 8) : knownV[8 + k]? = some (.int .u32 (u (end1_0.w k))) := by
  rcases (by omega : k = 0 ∨ k = 1 ∨ k = 2 ∨ k = 3 ∨ k = 4 ∨ k = 5 ∨ k = 6 ∨ k = 7) with rfl | rfl | rfl | rfl | rfl | rfl | rfl | rfl
  all_goals kernel_rfl
theorem known_at2 (k : Nat) (hk : k < 8) : knownV[16 + k]? = some (.int .u32 (u (end2_1.w k))) := by
  rcases (by omega : k = 0 ∨ k = 1 ∨ k = 2 ∨ k = 3 ∨ k = 4 ∨ k = 5 ∨ k = 6 ∨ k = 7) with rfl | rfl | rfl | rfl | rfl | rfl | rfl | rfl
  all_goals kernel_rfl
theorem size_id (h : H8) : (bv (idL h 8)).toArray.size = 32 := by rw [List.size_toArray, bv_length, idL_length]

set_option maxHeartbeats 1000000 in
set_option maxRecDepth 100000 in
theorem known0 (w : World) (hK : KIn w) :
    Calls Tryd.prog 7 #[.int .i64 0] w fun e w' => e = .returned (.bool true) ∧ Below w.heap.size w w' := by
  have hbl : bytesL { data := #[] } = text0 := by kernel_rfl
  have HBL := RotF.aside hbl
  clear hbl
  have cv := fun (w : World) (s : ByteArray) => run_bytes_of_string (P := Tryd.prog) w 9 22 5 s Tryd.underlying9 Tryd.underlying22 Tryd.underlying5
  go_enter Tryd.func7, Tryd.ntmps7
  go_wp2_with fail
  refine (awake _ hK).mono ?_
  rintro e w1 ⟨rfl, k1⟩
  go_wp2_with fail
  clear cv
  refine (sum_str { data := #[] } 0 rfl (by omega) w1 _ _ _ _ _ (grownCap_ge _ _ _ _) (grownCap_le_maxLen _ _ _ _ (by unfold maxLen; omega)) (hK.below k1)).mono ?_
  rw [HBL.out, sumL_t0]
  rintro e w2 ⟨rfl, g2, h2⟩
  have A5 : At w2 (w1.heap.size + 1) knownV := ⟨_, g2⟩
  have k2 := k1.trans (h2.mono k1.size)
  have hs2 := k2.size
  have l5 := A5.lt
  clear g2 h2 k1
  go_wp2_with (refine wpList_store_last rfl 25 _ _ rfl _ _ _ 25 rfl _ rfl ?c1 rfl ?c2 ?c3 ?c4 ?_; (case c1 => simp); (case c2 => rw [size_id]; exact info_id); (case c3 => rw [size_id]; rfl); (case c4 => exact bv_all _))
  have A6 := At.new w2 (bv (idL end0_0 8)).toArray 25
  have B5 := A5.alloc (.cells (bv (idL end0_0 8)).toArray 25)
  have k3 := k2.alloc k2.size (.cells (bv (idL end0_0 8)).toArray 25)
  generalize w2.alloc (.cells (bv (idL end0_0 8)).toArray 25) = W at *
  clear A5 k2
  go_loopw [7] (fun i wr => ∃ k : Nat, k ≤ 8 ∧ i = .int .i64 k ∧ At wr w2.heap.size (bv (idL end0_0 8)).toArray ∧ At wr (w1.heap.size + 1) knownV ∧ Below w.heap.size w wr) (fun i _ => 8 - (intOf i).toNat)
  case atStart => exact ⟨0, Nat.zero_le _, rfl, A6, B5, k3⟩
  case round =>
    clear A6 B5 k3
    obtain ⟨k, hk, rfl, A6, A5, kb⟩ := hrel
    by_cases hlt : k < 8
    · obtain ⟨b0, b1, b2, b3, r0, r1, r2, r3, e4, c0, c1, c2, c3⟩ := id_cells A6 k hlt
      have cK := (A5.cell (k)).trans (known_at0 k hlt)
      rw [← e4] at cK
      unfold four4 at cK
      unfold B at r0 r1 r2 r3
      clear e4
      have m0 : (4 * (k : Int)).toNat = 4 * k := by omega
      have m1 : (4 * (k : Int) + 1).toNat = 4 * k + 1 := by omega
      have m2 : (4 * (k : Int) + 2).toNat = 4 * k + 2 := by omega
      have m3 : (4 * (k : Int) + 3).toNat = 4 * k + 3 := by omega
      have o0 : 0 ≤ 4 * (k : Int) := by omega
      have o1 : 0 ≤ 4 * (k : Int) + 1 := by omega
      have o2 : 0 ≤ 4 * (k : Int) + 2 := by omega
      have o3 : 0 ≤ 4 * (k : Int) + 3 := by omega
      have p0 : 4 * (k : Int) < 32 := by omega
      have p1 : 4 * (k : Int) + 1 < 32 := by omega
      have p2 : 4 * (k : Int) + 2 < 32 := by omega
      have p3 : 4 * (k : Int) + 3 < 32 := by omega
      go_wp2
      go_quiet (fail)
      go_wp2
      go_roundw
      case rel => exact ⟨k + 1, by omega, by go_num, At.drewN A6 _, At.drewN A5 _, below_drew kb _⟩
      case measure => simp [intOf]; omega
    · go_wp2
      go_ret
      exact ⟨rfl, kb⟩

set_option maxHeartbeats 1000000 in
set_option maxRecDepth 100000 in
theorem known1 (w : World) (hK : KIn w) :
    Calls Tryd.prog 7 #[.int .i64 1] w fun e w' => e = .returned (.bool true) ∧ Below w.heap.size w w' := by
  have hbl : bytesL { data := #[97, 98, 99] } = text1 := by kernel_rfl
  have HBL := RotF.aside hbl
  clear hbl
  have cv := fun (w : World) (s : ByteArray) => run_bytes_of_string (P := Tryd.prog) w 9 22 5 s Tryd.underlying9 Tryd.underlying22 Tryd.underlying5
  go_enter Tryd.func7, Tryd.ntmps7
  go_wp2_with fail
  refine (awake _ hK).mono ?_
  rintro e w1 ⟨rfl, k1⟩
  go_wp2_with fail
  clear cv
  refine (sum_str { data := #[97, 98, 99] } 3 rfl (by omega) w1 _ _ _ _ _ (grownCap_ge _ _ _ _) (grownCap_le_maxLen _ _ _ _ (by unfold maxLen; omega)) (hK.below k1)).mono ?_
  rw [HBL.out, sumL_t1]
  rintro e w2 ⟨rfl, g2, h2⟩
  have A5 : At w2 (w1.heap.size + 1) knownV := ⟨_, g2⟩
  have k2 := k1.trans (h2.mono k1.size)
  have hs2 := k2.size
  have l5 := A5.lt
  clear g2 h2 k1
  go_wp2_with (refine wpList_store_last rfl 25 _ _ rfl _ _ _ 25 rfl _ rfl ?c1 rfl ?c2 ?c3 ?c4 ?_; (case c1 => simp); (case c2 => rw [size_id]; exact info_id); (case c3 => rw [size_id]; rfl); (case c4 => exact bv_all _))
  have A6 := At.new w2 (bv (idL end1_0 8)).toArray 25
  have B5 := A5.alloc (.cells (bv (idL end1_0 8)).toArray 25)
  have k3 := k2.alloc k2.size (.cells (bv (idL end1_0 8)).toArray 25)
  generalize w2.alloc (.cells (bv (idL end1_0 8)).toArray 25) = W at *
  clear A5 k2
  go_loopw [7] (fun i wr => ∃ k : Nat, k ≤ 8 ∧ i = .int .i64 k ∧ At wr w2.heap.size (bv (idL end1_0 8)).toArray ∧ At wr (w1.heap.size + 1) knownV ∧ Below w.heap.size w wr) (fun i _ => 8 - (intOf i).toNat)
  case atStart => exact ⟨0, Nat.zero_le _, rfl, A6, B5, k3⟩
  case round =>
    clear A6 B5 k3
    obtain ⟨k, hk, rfl, A6, A5, kb⟩ := hrel
    by_cases hlt : k < 8
    · obtain ⟨b0, b1, b2, b3, r0, r1, r2, r3, e4, c0, c1, c2, c3⟩ := id_cells A6 k hlt
      have cK := (A5.cell (8 + k)).trans (known_at1 k hlt)
      rw [← e4] at cK
      unfold four4 at cK
      unfold B at r0 r1 r2 r3
      clear e4
      have m0 : (4 * (k : Int)).toNat = 4 * k := by omega
      have m1 : (4 * (k : Int) + 1).toNat = 4 * k + 1 := by omega
      have m2 : (4 * (k : Int) + 2).toNat = 4 * k + 2 := by omega
      have m3 : (4 * (k : Int) + 3).toNat = 4 * k + 3 := by omega
      have o0 : 0 ≤ 4 * (k : Int) := by omega
      have o1 : 0 ≤ 4 * (k : Int) + 1 := by omega
      have o2 : 0 ≤ 4 * (k : Int) + 2 := by omega
      have o3 : 0 ≤ 4 * (k : Int) + 3 := by omega
      have p0 : 4 * (k : Int) < 32 := by omega
      have p1 : 4 * (k : Int) + 1 < 32 := by omega
      have p2 : 4 * (k : Int) + 2 < 32 := by omega
      have p3 : 4 * (k : Int) + 3 < 32 := by omega
      go_wp2
      go_quiet (fail)
      go_wp2
      go_roundw
      case rel => exact ⟨k + 1, by omega, by go_num, At.drewN A6 _, At.drewN A5 _, below_drew kb _⟩
      case measure => simp [intOf]; omega
    · go_wp2
      go_ret
      exact ⟨rfl, kb⟩

set_option maxHeartbeats 1000000 in
set_option maxRecDepth 100000 in
theorem known2 (w : World) (hK : KIn w) :
    Calls Tryd.prog 7 #[.int .i64 2] w fun e w' => e = .returned (.bool true) ∧ Below w.heap.size w w' := by
  have hbl : bytesL { data := #[97, 98, 99, 100, 98, 99, 100, 101, 99, 100, 101, 102, 100, 101, 102, 103, 101, 102, 103, 104, 102, 103, 104, 105, 103, 104, 105, 106, 104, 105, 106, 107, 105, 106, 107, 108, 106, 107, 108, 109, 107, 108, 109, 110, 108, 109, 110, 111, 109, 110, 111, 112, 110, 111, 112, 113] } = text2 := by kernel_rfl
  have HBL := RotF.aside hbl
  clear hbl
  have cv := fun (w : World) (s : ByteArray) => run_bytes_of_string (P := Tryd.prog) w 9 22 5 s Tryd.underlying9 Tryd.underlying22 Tryd.underlying5
  go_enter Tryd.func7, Tryd.ntmps7
  go_wp2_with fail
  refine (awake _ hK).mono ?_
  rintro e w1 ⟨rfl, k1⟩
  go_wp2_with fail
  clear cv
  refine (sum_str { data := #[97, 98, 99, 100, 98, 99, 100, 101, 99, 100, 101, 102, 100, 101, 102, 103, 101, 102, 103, 104, 102, 103, 104, 105, 103, 104, 105, 106, 104, 105, 106, 107, 105, 106, 107, 108, 106, 107, 108, 109, 107, 108, 109, 110, 108, 109, 110, 111, 109, 110, 111, 112, 110, 111, 112, 113] } 56 rfl (by omega) w1 _ _ _ _ _ (grownCap_ge _ _ _ _) (grownCap_le_maxLen _ _ _ _ (by unfold maxLen; omega)) (hK.below k1)).mono ?_
  rw [HBL.out, sumL_t2]
  rintro e w2 ⟨rfl, g2, h2⟩
  have A5 : At w2 (w1.heap.size + 1) knownV := ⟨_, g2⟩
  have k2 := k1.trans (h2.mono k1.size)
  have hs2 := k2.size
  have l5 := A5.lt
  clear g2 h2 k1
  go_wp2_with (refine wpList_store_last rfl 25 _ _ rfl _ _ _ 25 rfl _ rfl ?c1 rfl ?c2 ?c3 ?c4 ?_; (case c1 => simp); (case c2 => rw [size_id]; exact info_id); (case c3 => rw [size_id]; rfl); (case c4 => exact bv_all _))
  have A6 := At.new w2 (bv (idL end2_1 8)).toArray 25
  have B5 := A5.alloc (.cells (bv (idL end2_1 8)).toArray 25)
  have k3 := k2.alloc k2.size (.cells (bv (idL end2_1 8)).toArray 25)
  generalize w2.alloc (.cells (bv (idL end2_1 8)).toArray 25) = W at *
  clear A5 k2
  go_loopw [7] (fun i wr => ∃ k : Nat, k ≤ 8 ∧ i = .int .i64 k ∧ At wr w2.heap.size (bv (idL end2_1 8)).toArray ∧ At wr (w1.heap.size + 1) knownV ∧ Below w.heap.size w wr) (fun i _ => 8 - (intOf i).toNat)
  case atStart => exact ⟨0, Nat.zero_le _, rfl, A6, B5, k3⟩
  case round =>
    clear A6 B5 k3
    obtain ⟨k, hk, rfl, A6, A5, kb⟩ := hrel
    by_cases hlt : k < 8
    · obtain ⟨b0, b1, b2, b3, r0, r1, r2, r3, e4, c0, c1, c2, c3⟩ := id_cells A6 k hlt
      have cK := (A5.cell (16 + k)).trans (known_at2 k hlt)
      rw [← e4] at cK
      unfold four4 at cK
      unfold B at r0 r1 r2 r3
      clear e4
      have m0 : (4 * (k : Int)).toNat = 4 * k := by omega
      have m1 : (4 * (k : Int) + 1).toNat = 4 * k + 1 := by omega
      have m2 : (4 * (k : Int) + 2).toNat = 4 * k + 2 := by omega
      have m3 : (4 * (k : Int) + 3).toNat = 4 * k + 3 := by omega
      have o0 : 0 ≤ 4 * (k : Int) := by omega
      have o1 : 0 ≤ 4 * (k : Int) + 1 := by omega
      have o2 : 0 ≤ 4 * (k : Int) + 2 := by omega
      have o3 : 0 ≤ 4 * (k : Int) + 3 := by omega
      have p0 : 4 * (k : Int) < 32 := by omega
      have p1 : 4 * (k : Int) + 1 < 32 := by omega
      have p2 : 4 * (k : Int) + 2 < 32 := by omega
      have p3 : 4 * (k : Int) + 3 < 32 := by omega
      go_wp2
      go_quiet (fail)
      go_wp2
      go_roundw
      case rel => exact ⟨k + 1, by omega, by go_num, At.drewN A6 _, At.drewN A5 _, below_drew kb _⟩
      case measure => simp [intOf]; omega
    · go_wp2
      go_ret
      exact ⟨rfl, kb⟩

theorem walk (a0 : Int) (w : World) (_w0 : (Lit.int .i64 a0).wf = true) (hK : KIn w) :
    Calls Tryd.prog 7 #[.int .i64 a0] w fun e w' => e = .returned (.bool true) ∧ Below w.heap.size w w' := by
  rcases (by omega : a0 < 0 ∨ 2 < a0 ∨ a0 = 0 ∨ a0 = 1 ∨ a0 = 2) with h | h | rfl | rfl | rfl
  · exact low a0 w h hK
  · exact high a0 w h hK
  · exact known0 w hK
  · exact known1 w hK
  · exact known2 w hK

theorem own : ownKnob Tryd.prog.godebug = none := by kernel_rfl
set_option linter.unusedVariables false in
set_option maxRecDepth 100000 in
theorem lifted (os : Os) (started : os.Started) (H : Type) (enc : TypeId × Value → H) :
    ReturnsInHanded {} Tryd.checked os 7 .any (fun w args => (Rows.shaKnownSpec.pre enc Tryd.prog Tryd.f7 [] false w args ∧ laidMetH Tryd.prog ShaL.laid1 w) ∧ sizedMet enc Tryd.prog Tryd.f7 (OpenSpec.ofChange Rows.shaKnownSpec) false w args)
      (Rows.shaKnownSpec.post enc Tryd.prog Tryd.f7 false true false false) := by
  refine returnsInHanded_of_change_and (C := Tryd.checked) (X := fun w _ => laidMetH Tryd.prog ShaL.laid1 w) (fun _ _ _ hh h => h.of_heap hh) own started (by kernel_rfl) Tryd.func7
    (ChangeSpec.witness_shaped (enc := enc) (C := Tryd.checked) (os := os) (X := fun w _ => laidMetH Tryd.prog ShaL.laid1 w) false (World.doorLaid Tryd.prog 14 os) #[.int .i64 0] 8 rfl (World.shaped_of_RefB (by kernel_rfl) (by kernel_rfl)) (by kernel_rfl) (by kernel_rfl) (by kernel_rfl) (ShaL.door_met os _)) ?_
  intro W base args ds gs before hval0 hW _ _ hL _
  have hval : ∀ (j : Nat) t v, Tryd.f7.params[j]? = some t → args[j]? = some v → Value.okWide Tryd.prog W .any base t v := hval0
  have hW' := hW
  obtain ⟨p, q, hA0, hV, rfl, hfz, hnd⟩ := hW
  have hA : DataW.TrodAll enc Tryd.prog W 0 (fun _ => true) true Tryd.f7.params.toList args.toList ds p := hA0
  rw [Tryd.params7] at hA hval
  obtain ⟨v0, vs0, d0, ds0, p0, q0, hargs, rfl, rfl, h0, r0⟩ := trodAll_cons hA
  obtain ⟨rfl, rfl, rfl⟩ := trodAll_nil r0
  obtain rfl : args = #[v0] := by cases args; simp_all
  obtain ⟨rfl, rfl⟩ := trodVars_none hV
  obtain ⟨a0, rfl, rfl, rfl, w0⟩ := open_int Tryd.underlying3 (hval 0 3 v0 rfl rfl) h0
  clear hA0 hval0
  refine (walk a0 W w0 (ShaL.of_laid hL)).mono fun e W' ⟨he, bel⟩ => ?_
  subst he
  exact ⟨_, rfl, _, _, _, [], _, [], hW', trodAll_mk1 (shut_bool Tryd.underlying4 _), (trodAll_cons_mk (shut_int Tryd.underlying3 w0) trodAll_mk0), rfl, bel.frame _, fun h => by cases h⟩

theorem over : Rows.shaKnownRow.holds Tryd.pinned (OpenSpec.ofChange Rows.shaKnownSpec) :=
  OpenClaim.holds_of_wide 7 Tryd.f7 rfl rfl rfl rfl rfl rfl rfl ⟨rfl, rfl, rfl, rfl, rfl⟩ rfl rfl rfl rfl rfl (by kernel_rfl) Tryd.func7 (by kernel_rfl)
    (of_decide_eq_true (by kernel_rfl)) (by unfold Func.isWrapper; first | (rw [if_pos (by decide +kernel)]; kernel_rfl) | (rw [if_neg (by decide +kernel)]; exact ⟨rfl, rfl⟩))
    (fun os started H enc _ => lifted os started H enc)

theorem proved : Rows.ShaKnownCardSaid :=
  Claim7.holds_tied_plain_at .later [] Rows.shaKnownCard.laidKinds true Rows.shaKnownCard.stood.harness Rows.shaKnownCard.stood.looks
    over (fun _ h => by cases h) (by kernel_rfl) (fun _ h => by cases h) shaKnown_row_tie rfl ⟨rfl, rfl⟩ (by kernel_rfl) rfl
    (fun f fn hf hfn => by
      obtain rfl : f = 7 := Option.some.inj ((show Tryd.prog.funcNamed "anabranch/anabranchlaw02.ShaKnown" = some 7 by kernel_rfl).symm.trans hf) |>.symm
      obtain rfl : fn = Tryd.f7 := (Option.some.inj (Tryd.func7.symm.trans hfn)).symm
      exact ⟨by kernel_rfl, fun j t ht => by
        rw [Tryd.params7] at ht
        have hm : t ∈ [3] := by simpa using Array.mem_of_getElem? ht
        have hall : ([3].all fun u => !Tryd.prog.wantsStandIn u) = true := by kernel_rfl
        exact (show Tryd.prog.wantsStandIn t = false by simpa using List.all_eq_true.1 hall t hm)⟩)
    (by kernel_rfl)
end Go.Proofs.YtfndeemngimjcaaDoor.shaKnown
