/- What slices.Grow of no slice, and slices.Concat of three slices of bytes, return: contracts. No condition but sizes. -/
import Derived.Test.YthdpipllighegaaDoorByt
import Derived.Lib.AppendZeros
import Derived.Lib.Walk
namespace Go.Proofs.YthdpipllighegaaDoor.StG
set_option maxRecDepth 100000
open Go Go.RowKit Byt

set_option maxRecDepth 100000 in
set_option maxHeartbeats 4000000 in
theorem grow_ret (n : Nat) (hn : n ≤ 1099511627776) (w : World) : Calls Tryd.prog 27 #[.slice none 0 0, .int .i64 n] w fun e w' => ∃ v, e = .returned v ∧ w'.ownsRow w.heap.size 5 1 v 0 (bv []) ∧ Below w.heap.size w w' := by
  by_cases h0 : n = 0
  · subst h0
    go_enter Tryd.func27, Tryd.ntmps27
    go_wp2_with (first | go_skip)
    go_ret
    exact ⟨_, rfl, ⟨rfl, .inl ⟨rfl, rfl⟩⟩, Below.refl _ _⟩
  · obtain ⟨i, hi, z0, z1, z2⟩ := info_parts zero_u8
    have h1 : ¬ ((n : Int) < 0) := by omega
    have h4 : (0 : Int) < n := by omega
    have hw : IntKind.i64.wrap (n : Int) = n := by rw [IntKind.wrap_i64]; omega
    have hrz : ∀ ty, (Builtin.append_ #[22, 3] ty #[.slice none 0 0, .int .i64 n]).run Tryd.prog w =
        .ok (.slice (some ⟨w.heap.size, 0, none⟩) n (grownCap w n 0 5)) (w.drew.alloc (.cells (Builtin.zeroCells #[.int .u8 0] n ++ Builtin.zeroCells #[.int .u8 0] (grownCap w n 0 5 - n)) 5)) := fun ty =>
      Lib.run_append_nil_zeros w 22 3 ty 5 i (.int .u8 0) .i64 .i64 Tryd.underlying22 Tryd.underlying3 hi z0 n (by omega) (by rw [z1]; omega) (by omega) (by rw [z2]; omega)
    have hge := grownCap_ge w n 0 5
    have hle := grownCap_le_maxLen w n 0 5 (by unfold maxLen; omega)
    obtain ⟨G, hG⟩ : ∃ G, grownCap w n 0 5 = G := ⟨_, rfl⟩
    rw [hG] at hrz hge hle
    have hz : (Builtin.zeroCells #[.int .u8 0] n ++ Builtin.zeroCells #[.int .u8 0] (G - n)).size = G * 1 := by
      simp [Builtin.zeroCells]
      omega
    have own : (w.drew.alloc (.cells (Builtin.zeroCells #[.int .u8 0] n ++ Builtin.zeroCells #[.int .u8 0] (G - n)) 5)).ownsRow w.heap.size 5 1 (.slice (some ⟨w.drew.heap.size, 0, none⟩) 0 G) 0 [] :=
      World.ownsRow_made w.drew _ G (Nat.le_refl _) hle hz
    have kb : Below w.heap.size w (w.drew.alloc (.cells (Builtin.zeroCells #[.int .u8 0] n ++ Builtin.zeroCells #[.int .u8 0] (G - n)) 5)) := (below_drew1 (Below.refl _ _)).alloc (Nat.le_refl _) _
    have own' : (w.drew.alloc (.cells (Builtin.zeroCells #[.int .u8 0] n ++ Builtin.zeroCells #[.int .u8 0] (G - n)) 5)).ownsRow w.heap.size 5 1 (.slice (some ⟨w.heap.size, 0, none⟩) 0 G) 0 [] := own
    obtain ⟨W, hW⟩ : ∃ W, w.drew.alloc (.cells (Builtin.zeroCells #[.int .u8 0] n ++ Builtin.zeroCells #[.int .u8 0] (G - n)) 5) = W := ⟨_, rfl⟩
    rw [hW] at hrz own' kb
    have hmax : (G : Int) ≤ 9223372036854775807 := by unfold maxLen at hle; omega
    clear hG own hz hW
    go_enter Tryd.func27, Tryd.ntmps27
    go_wp2_with (first | go_skip | (at_builtin; refine Lib.wpList_append_run _ rfl _ _ _ _ rfl _ _ rfl rfl _ _ (hrz _) ?_))
    go_ret
    exact ⟨_, rfl, own', kb⟩
set_option maxRecDepth 100000 in
set_option maxHeartbeats 8000000 in
theorem concat_ret (g : Nat) (A0 : Option Addr) (k0 : Nat) (l0 : List Int) (A1 : Option Addr) (k1 : Nat) (l1 : List Int) (A2 : Option Addr) (k2 : Nat) (l2 : List Int) (w : World)
    (c0 : w.cell? ⟨g, 0, none⟩ = some (.slice A0 l0.length k0)) (c1 : w.cell? ⟨g, 1, none⟩ = some (.slice A1 l1.length k1)) (c2 : w.cell? ⟨g, 2, none⟩ = some (.slice A2 l2.length k2))
    (S0 : Sl w A0 k0 l0) (S1 : Sl w A1 k1 l1) (S2 : Sl w A2 k2 l2) (hn : l0.length + l1.length + l2.length ≤ 1000000000) (cap : Nat) :
    Calls Tryd.prog 18 #[.slice (some ⟨g, 0, none⟩) 3 cap] w (Byt.New (l0 ++ (l1 ++ l2)) w) := by
  have cg : ∀ W, Calls Tryd.prog 27 #[.slice none 0 0, .int .i64 ((l0.length : Int) + l1.length + l2.length)] W fun e w' => ∃ v, e = .returned v ∧ w'.ownsRow W.heap.size 5 1 v 0 (bv []) ∧ Below W.heap.size W w' := fun W => by
    have := grow_ret (l0.length + l1.length + l2.length) (by omega) W
    simpa using this
  go_enter Tryd.func18, Tryd.ntmps18
  go_wp2_with (first | go_skip)
  refine wp_loop_rounds 4 ?_
  rw [rounds_succ]
  go_wp2_with (first | go_skip)
  rw [rounds_succ]
  go_wp2_with (first | go_skip)
  rw [rounds_succ]
  go_wp2_with (first | go_skip)
  rw [rounds_succ]
  go_wp2_with (first | go_skip)
  refine (cg _).mono ?_
  rintro _ w1 ⟨v1, rfl, own1, b1⟩
  have z0 := b1.cell (block_lt_of_cell c0) |>.trans c0
  have z1 := b1.cell (block_lt_of_cell c1) |>.trans c1
  have z2 := b1.cell (block_lt_of_cell c2) |>.trans c2
  have T0 := S0.below b1
  have T1 := S1.below b1
  have T2 := S2.below b1
  clear cg
  go_wp2_with (first | go_skip)
  refine wp_loop_rounds 4 ?_
  rw [rounds_succ]
  go_wp2_with (first | go_skip | (refine wpList_append_sl rfl (.tmp 31) (.tmp 32) 22 rfl w.heap.size 5 Tryd.underlying22 zero_u8 _ _ [] rfl own1 A0 _ k0 l0 rfl rfl T0 (by omega) b1.size ?_; intro v2 w2 own2 g2))
  have b2 := below_grown b1 b1.size g2 (fun q hq => (own1.lt q hq).1)
  clear z0
  have z1' := b2.cell (block_lt_of_cell c1) |>.trans c1
  have z2' := b2.cell (block_lt_of_cell c2) |>.trans c2
  have U1 := S1.below b2
  have U2 := S2.below b2
  clear z1 z2 T0 T1 T2 g2 own1
  rw [rounds_succ]
  go_wp2_with (first | go_skip | (refine wpList_append_sl rfl (.tmp 31) (.tmp 32) 22 rfl w.heap.size 5 Tryd.underlying22 zero_u8 _ _ ([] ++ l0) rfl own2 A1 _ k1 l1 rfl rfl U1 (by omega) b2.size ?_; intro v3 w3 own3 g3))
  have b3 := below_grown b2 b2.size g3 (fun q hq => (own2.lt q hq).1)
  clear z1' z2'
  have z2 := b3.cell (block_lt_of_cell c2) |>.trans c2
  have X2 := S2.below b3
  clear U1 U2 g3 own2
  rw [rounds_succ]
  go_wp2_with (first | go_skip | (refine wpList_append_sl rfl (.tmp 31) (.tmp 32) 22 rfl w.heap.size 5 Tryd.underlying22 zero_u8 _ _ (([] ++ l0) ++ l1) rfl own3 A2 _ k2 l2 rfl rfl X2 (by omega) b3.size ?_; intro v4 w4 own4 g4))
  have b4 := below_grown b3 b3.size g4 (fun q hq => (own3.lt q hq).1)
  clear z2 X2 g4 own3
  rw [rounds_succ]
  go_wp2_with (first | go_skip)
  go_ret
  refine ⟨_, rfl, ?_, b4⟩
  have e : (([] ++ l0) ++ l1) ++ l2 = l0 ++ (l1 ++ l2) := by simp
  rw [e] at own4
  have hl : 0 + l0.length + l1.length + l2.length = (l0 ++ (l1 ++ l2)).length := by simp; omega
  rw [← hl]
  exact own4
end Go.Proofs.YthdpipllighegaaDoor.StG
