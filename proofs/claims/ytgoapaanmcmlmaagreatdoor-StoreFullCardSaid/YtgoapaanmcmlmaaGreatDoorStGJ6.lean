/- What slices.Grow of no slice, and slices.Concat of three slices of bytes, return: contracts. No condition but sizes. | What the project's marks, and copies of bytes, return: contracts. No condition but sizes. | What the project's marks of records, copies of bytes, two slices of bytes joined, and Frame return: contracts. No condition but sizes. | What the project's Frame returns: a contract. No condition but sizes. | What the project's Write returns: a contract. No condition but sizes. | What functions on disks answer, in one form for both ways: commits loaded, a disk with one more. No condition. -/
import Derived.Test.YtgoapaanmcmlmaaGreatDoorRowInJ3
import Derived.Lib.AppendZeros
import Derived.Lib.Walk
import Derived.Test.YtgoapaanmcmlmaaGreatDoorShaFJ4
import Derived.Laws.CopyOwn
import Derived.Test.YtgoapaanmcmlmaaGreatDoorEncMJ4
import Derived.Test.YtgoapaanmcmlmaaGreatDoorEncGJ6
import Derived.Test.YtgoapaanmcmlmaaGreatDoorStoMJ5
import Derived.Test.YtgoapaanmcmlmaaGreatDoorForksJ3
import Derived.Test.YtgoapaanmcmlmaaGreatDoorRowFJ7
namespace Go.Proofs.YtgoapaanmcmlmaaGreatDoor.StG
set_option maxRecDepth 100000
open Go Go.RowKit Byt
set_option maxRecDepth 100000 in
set_option maxHeartbeats 4000000 in
theorem grow_ret (n : Nat) (hn : n ≤ 1099511627776) (w : World) : Calls Tryz.prog 86 #[.slice none 0 0, .int .i64 n] w fun e w' => ∃ v, e = .returned v ∧ w'.ownsRow w.heap.size 5 1 v 0 (bv []) ∧ Below w.heap.size w w' := by
 by_cases h0 : n = 0
 · subst h0
   go_enter Tryz.func86, Tryz.ntmps86
   go_wp2_with (first | go_skip)
   go_ret
   exact ⟨_, rfl, ⟨rfl, .inl ⟨rfl, rfl⟩⟩, Below.refl _ _⟩
 · obtain ⟨i, hi, z0, z1, z2⟩ := info_parts zero_u8
   have h1 : ¬ ((n : Int) < 0) := by omega
   have h4 : (0 : Int) < n := by omega
   have hw : IntKind.i64.wrap (n : Int) = n := by rw [IntKind.wrap_i64]; omega
   have hrz : ∀ ty, (Builtin.append_ #[22, 3] ty #[.slice none 0 0, .int .i64 n]).run Tryz.prog w =
       .ok (.slice (some ⟨w.heap.size, 0, none⟩) n (grownCap w n 0 5)) (w.drew.alloc (.cells (Builtin.zeroCells #[.int .u8 0] n ++ Builtin.zeroCells #[.int .u8 0] (grownCap w n 0 5 - n)) 5)) := fun ty =>
     Lib.run_append_nil_zeros w 22 3 ty 5 i (.int .u8 0) .i64 .i64 Tryz.underlying22 Tryz.underlying3 hi z0 n (by omega) (by rw [z1]; omega) (by omega) (by rw [z2]; omega)
   have hge := grownCap_ge w n 0 5
   have hle := grownCap_le_maxLen w n 0 5 (by unfold maxLen; omega)
   obtain ⟨G, hG⟩ : ∃ G, grownCap w n 0 5 = G := ⟨_, rfl⟩
   rw [hG] at hrz hge hle
   have hz : (Builtin.zeroCells #[.int .u8 0] n ++ Builtin.zeroCells #[.int .u8 0] (G - n)).size = G * 1 := by
     simp [Builtin.zeroCells]
     omega
   have own : (w.drew.alloc (.cells (Builtin.zeroCells #[.int .u8 0] n ++ Builtin.zeroCells #[.int .u8 0] (G - n)) 5)).ownsRow w.heap.size 5 1 (.slice (some ⟨w.drew.heap.size, 0, none⟩) 0 G) 0 [] :=
     World.ownsRow_made w.drew _ G (Nat.le_refl _) hle hz
   have kb : Below w.heap.size w (w.drew.alloc (.cells (Builtin.zeroCells #[.int .u8 0] n ++ Builtin.zeroCells #[.int .u8 0] (G - n)) 5)) := (below_drew1 (Below.refl _ _)).alloc (Nat.le_refl _) _
   have own' : (w.drew.alloc (.cells (Builtin.zeroCells #[.int .u8 0] n ++ Builtin.zeroCells #[.int .u8 0] (G - n)) 5)).ownsRow w.heap.size 5 1 (.slice (some ⟨w.heap.size, 0, none⟩) 0 G) 0 [] := own
   obtain ⟨W, hW⟩ : ∃ W, w.drew.alloc (.cells (Builtin.zeroCells #[.int .u8 0] n ++ Builtin.zeroCells #[.int .u8 0] (G - n)) 5) = W := ⟨_, rfl⟩
   rw [hW] at hrz own' kb
   have hmax : (G : Int) ≤ 9223372036854775807 := by unfold maxLen at hle; omega
   clear hG own hz hW
   go_enter Tryz.func86, Tryz.ntmps86
   go_wp2_with (first | go_skip | (at_builtin; refine Lib.wpList_append_run _ rfl _ _ _ _ rfl _ _ rfl rfl _ _ (hrz _) ?_))
   go_ret
   exact ⟨_, rfl, own', kb⟩
set_option maxRecDepth 100000 in
set_option maxHeartbeats 8000000 in
theorem concat_ret (g : Nat) (A0 : Option Addr) (k0 : Nat) (l0 : List Int) (A1 : Option Addr) (k1 : Nat) (l1 : List Int) (A2 : Option Addr) (k2 : Nat) (l2 : List Int) (w : World)
   (c0 : w.cell? ⟨g, 0, none⟩ = some (.slice A0 l0.length k0)) (c1 : w.cell? ⟨g, 1, none⟩ = some (.slice A1 l1.length k1)) (c2 : w.cell? ⟨g, 2, none⟩ = some (.slice A2 l2.length k2))
   (S0 : Sl w A0 k0 l0) (S1 : Sl w A1 k1 l1) (S2 : Sl w A2 k2 l2) (hn : l0.length + l1.length + l2.length ≤ 1000000000) (cap : Nat) :
   Calls Tryz.prog 47 #[.slice (some ⟨g, 0, none⟩) 3 cap] w (Byt.New (l0 ++ (l1 ++ l2)) w) := by
 have cg : ∀ W, Calls Tryz.prog 86 #[.slice none 0 0, .int .i64 ((l0.length : Int) + l1.length + l2.length)] W fun e w' => ∃ v, e = .returned v ∧ w'.ownsRow W.heap.size 5 1 v 0 (bv []) ∧ Below W.heap.size W w' := fun W => by
   have := grow_ret (l0.length + l1.length + l2.length) (by omega) W
   simpa using this
 go_enter Tryz.func47, Tryz.ntmps47
 go_wp2_with (first | go_skip)
 refine wp_loop_rounds 4 ?_
 rw [rounds_succ]
 go_wp2_with (first | go_skip)
 rw [rounds_succ]
 go_wp2_with (first | go_skip)
 rw [rounds_succ]
 go_wp2_with (first | go_skip)
 rw [rounds_succ]
 go_wp2_with (first | go_skip)
 refine (cg _).mono ?_
 rintro _ w1 ⟨v1, rfl, own1, b1⟩
 have z0 := b1.cell (block_lt_of_cell c0) |>.trans c0
 have z1 := b1.cell (block_lt_of_cell c1) |>.trans c1
 have z2 := b1.cell (block_lt_of_cell c2) |>.trans c2
 have T0 := S0.below b1
 have T1 := S1.below b1
 have T2 := S2.below b1
 clear cg
 go_wp2_with (first | go_skip)
 refine wp_loop_rounds 4 ?_
 rw [rounds_succ]
 go_wp2_with (first | go_skip | (refine wpList_append_sl rfl (.tmp 31) (.tmp 32) 22 rfl w.heap.size 5 Tryz.underlying22 zero_u8 _ _ [] rfl own1 A0 _ k0 l0 rfl rfl T0 (by omega) b1.size ?_; intro v2 w2 own2 g2))
 have b2 := below_grown b1 b1.size g2 (fun q hq => (own1.lt q hq).1)
 clear z0
 have z1' := b2.cell (block_lt_of_cell c1) |>.trans c1
 have z2' := b2.cell (block_lt_of_cell c2) |>.trans c2
 have U1 := S1.below b2
 have U2 := S2.below b2
 clear z1 z2 T0 T1 T2 g2 own1
 rw [rounds_succ]
 go_wp2_with (first | go_skip | (refine wpList_append_sl rfl (.tmp 31) (.tmp 32) 22 rfl w.heap.size 5 Tryz.underlying22 zero_u8 _ _ ([] ++ l0) rfl own2 A1 _ k1 l1 rfl rfl U1 (by omega) b2.size ?_; intro v3 w3 own3 g3))
 have b3 := below_grown b2 b2.size g3 (fun q hq => (own2.lt q hq).1)
 clear z1' z2'
 have z2 := b3.cell (block_lt_of_cell c2) |>.trans c2
 have X2 := S2.below b3
 clear U1 U2 g3 own2
 rw [rounds_succ]
 go_wp2_with (first | go_skip | (refine wpList_append_sl rfl (.tmp 31) (.tmp 32) 22 rfl w.heap.size 5 Tryz.underlying22 zero_u8 _ _ (([] ++ l0) ++ l1) rfl own3 A2 _ k2 l2 rfl rfl X2 (by omega) b3.size ?_; intro v4 w4 own4 g4))
 have b4 := below_grown b3 b3.size g4 (fun q hq => (own3.lt q hq).1)
 clear z2 X2 g4 own3
 rw [rounds_succ]
 go_wp2_with (first | go_skip)
 go_ret
 refine ⟨_, rfl, ?_, b4⟩
 have e : (([] ++ l0) ++ l1) ++ l2 = l0 ++ (l1 ++ l2) := by simp
 rw [e] at own4
 have hl : 0 + l0.length + l1.length + l2.length = (l0 ++ (l1 ++ l2)).length := by simp; omega
 rw [← hl]
 exact own4
end Go.Proofs.YtgoapaanmcmlmaaGreatDoor.StG
namespace Go.Proofs.YtgoapaanmcmlmaaGreatDoor.LogC
set_option maxRecDepth 100000
open Go Go.RowKit Byt RotG Small LogM
theorem rowL_of {w : World} {A : Option Addr} {cap : Nat} {l : List Int} (h : Sl w A cap l) : RowIn.RowL .u8 w A l.length cap l := by
 obtain ⟨h1, h2, h3, h4⟩ := h
 refine ⟨h1, h2, ⟨Nat.le_refl _, h1⟩, fun x hx => ?_, ?_⟩
 · have := h3 x hx
   simpa [Byt.B, Lit.wf, IntKind.min, IntKind.max, IntKind.bits, IntKind.signed] using this
 · rcases h4 with ⟨r1, r2, r3⟩ | ⟨x, r1, r2⟩
   · exact .inl ⟨r1, by rw [r2]; rfl, r3⟩
   · exact .inr ⟨x, r1, r2⟩
theorem psum {w : World} {A : Option Addr} {cap len : Nat} {l : List Int} (h : Sl w A cap l) (hl : l.length = len) (hm : len ≤ 1099511627776) (hK : ShaE.KIn w) :
   Calls Tryz.prog 103 #[.slice A len cap] w fun e w' => e = .returned (.agg (Byt.bv (ShaH.sumL l)).toArray) ∧ Below w.heap.size w w' := by
 subst hl
 have := ShaH.sumW (rowL_of h) hm hK
 rw [List.take_of_length_le (Nat.le_refl _)] at this
 exact this
theorem four_B (a : Int) (h : 0 ≤ a ∧ a ≤ 4294967295) : ∀ x ∈ PadM.four8 a, 0 ≤ x ∧ x ≤ 255 := by
 intro x hx
 simp only [PadM.four8, List.mem_cons, List.not_mem_nil, or_false] at hx
 rcases hx with rfl | rfl | rfl | rfl <;> omega
theorem sum_B (l : List Int) : ∀ x ∈ ShaH.sumL l, 0 ≤ x ∧ x ≤ 255 := by
 intro x hx
 unfold ShaH.sumL ShaG.idL at hx
 rw [List.mem_flatMap] at hx
 obtain ⟨i, _, hi⟩ := hx
 exact four_B _ (RotM.u_range _) x hi
theorem mark_B (l : List Int) : ∀ x ∈ markL l, 0 ≤ x ∧ x ≤ 255 := fun x hx => sum_B l x (List.mem_of_mem_take hx)
theorem frame_B {l : List Int} (h : ∀ x ∈ l, 0 ≤ x ∧ x ≤ 255) : ∀ x ∈ frameL l, 0 ≤ x ∧ x ≤ 255 := by
 intro x hx
 unfold frameL at hx
 rcases List.mem_append.1 hx with hx | hx
 · exact EncM.numL_range _ x hx
 · rcases List.mem_append.1 hx with hx | hx
   · exact h x hx
   · exact mark_B l x hx
theorem info_m : (Tryz.prog.info? 120).map (·.size) = some 4 := by kernel_rfl
theorem info_id : (Tryz.prog.info? 75).map (·.size) = some 32 := by kernel_rfl
section
variable {ops : Array Oper} {rest : List Oper} {o : Oper} {a : Act} {w : World} {Q : Exit → Act → World → Prop}
theorem copy_four (hgd : o.guard = none) (d s : Operand) (ho : o.op = .call { callee := .builtin .copy, args := #[d, s], argTypes := #[22, 22] })
   (g : Nat) (hd : a.eval d = .slice (some ⟨g, 0, none⟩) 4 4) (old : Array Value) (h4 : old.size = 4) (hA : At w g old) (A : Option Addr) (n c : Nat) (l : List Int) (hs : a.eval s = .slice A n c) (hl : l.length = n) (S : Sl w A c l) (hn : 4 ≤ n)
   (h : ∀ w', At w' g (Byt.bv (l.take 4)).toArray → (∀ B, B ≤ g → Below B w w') → wpList Tryz.prog ops Q rest (a.put o.dst (.int .i64 4)) w') : wpList Tryz.prog ops Q (o :: rest) a w := by
 subst hl
 obtain ⟨b, off, rfl, _, hc⟩ := S.plain (by omega)
 obtain ⟨t, ht⟩ := hA
 have e4 : (Byt.bv (l.take 4)).length = 4 := by rw [bv_length, List.length_take]; omega
 refine wpList_copy_own hgd d s 22 22 ho 5 Tryz.underlying22 info_u8 g 0 4 4 ⟨b, off, none⟩ l.length c hd hs old t ht (Byt.bv (l.take 4)) (by rw [e4]; show 4 = min l.length 4; omega) (fun j v hj => ?_) (by rw [e4]; omega) (bv_one _) ?_
 · have hj2 : j < (l.take 4).length := by
     have := (List.getElem?_eq_some_iff.1 hj).1
     rwa [bv_length] at this
   rw [bv_at _ hj2] at hj
   rw [List.length_take] at hj2
   rw [Addr.add_lit, hc j (by omega), ← hj, List.getD_eq_getElem?_getD, List.getD_eq_getElem?_getD, List.getElem?_take, if_pos (by omega)]
 · have ecs : (old.toList.take 0 ++ (Byt.bv (l.take 4) ++ old.toList.drop (0 + (Byt.bv (l.take 4)).length))).toArray = (Byt.bv (l.take 4)).toArray := by
     rw [e4, List.take_zero, List.nil_append, List.drop_of_length_le (by rw [Array.length_toList]; omega), List.append_nil]
   rw [ecs, e4]
   exact h _ ⟨t, setRow_heap w g old _ t (0, 0) ht⟩ (fun B hB => below_row (Below.refl B w) hB _)
end
set_option maxRecDepth 100000 in
set_option maxHeartbeats 4000000 in
theorem markAt_ret {w : World} {A : Option Addr} {cap len : Nat} {l : List Int} (S : Sl w A cap l) (hl : l.length = len) (h4 : 4 ≤ len) :
   Calls Tryz.prog 112 #[.slice A len cap] w fun e w' => e = .returned (.agg (Byt.bv (l.take 4)).toArray) ∧ Below w.heap.size w w' := by
 have z1 : (w.alloc (.cells #[.int .u8 0, .int .u8 0, .int .u8 0, .int .u8 0] 120)).heap.size = w.heap.size + 1 := by simp
 have A0 : At ((w.alloc (.cells #[.int .u8 0, .int .u8 0, .int .u8 0, .int .u8 0] 120)).alloc (.cells #[.int .u8 0, .int .u8 0, .int .u8 0, .int .u8 0] 120)) w.heap.size #[.int .u8 0, .int .u8 0, .int .u8 0, .int .u8 0] := At.old2 w _ _ _
 have A1 : At ((w.alloc (.cells #[.int .u8 0, .int .u8 0, .int .u8 0, .int .u8 0] 120)).alloc (.cells #[.int .u8 0, .int .u8 0, .int .u8 0, .int .u8 0] 120)) (w.heap.size + 1) #[.int .u8 0, .int .u8 0, .int .u8 0, .int .u8 0] := At.new2 w _ _ _
 have kb : Below w.heap.size w ((w.alloc (.cells #[.int .u8 0, .int .u8 0, .int .u8 0, .int .u8 0] 120)).alloc (.cells #[.int .u8 0, .int .u8 0, .int .u8 0, .int .u8 0] 120)) := ((Below.refl _ _).alloc (Nat.le_refl _) _).alloc (by simp) _
 have S1 := S.below kb
 have e4 : (Byt.bv (l.take 4)).toArray.size = 4 := by rw [List.size_toArray, bv_length, List.length_take]; omega
 have one : (Byt.bv (l.take 4)).toArray.all (·.oneCell') = true := by
   rw [Array.all_eq_true_iff_forall_mem]
   intro v hv
   exact bv_one _ v (by simpa using hv)
 obtain ⟨m, hm⟩ : ∃ m, (Byt.bv (l.take 4)).toArray = m := ⟨_, rfl⟩
 rw [hm] at e4 one
 have HM := aside hm
 clear hm
 go_enter Tryz.func112, Tryz.ntmps112
 go_wp2_with (first | go_skip | (refine copy_four rfl _ _ rfl (w.heap.size + 1) rfl _ rfl A1 A _ cap l rfl hl S1 h4 ?_; intro w2 B1 f2; have B0 := A0.below (f2 _ (Nat.le_refl _)) (by omega); have k2 := kb.trans (f2 w.heap.size (by omega)); rw [HM.out] at B1) | (refine wpList_load_at rfl 120 _ rfl _ rfl _ _ B1 Tryz.underlying120 rfl ?c1 ?_; (case c1 => rw [e4]; exact info_m)) | (refine wpList_store_at rfl 120 _ _ rfl _ _ rfl rfl _ B0 ?c2 ?c3 ?c4 ?_; (case c2 => rw [e4]; exact info_m); (case c3 => rw [e4]; rfl); (case c4 => exact one)))
 rw [HM.out]
 exact bodyPost_ret (v := .agg m) (results_at Tryz.results112 _ _ w.heap.size _ _ rfl (B0.row _) Tryz.underlying120 rfl (by rw [e4]; exact info_m)) rfl ⟨rfl, below_row k2 (Nat.le_refl _) _⟩
end Go.Proofs.YtgoapaanmcmlmaaGreatDoor.LogC
namespace Go.Proofs.YtgoapaanmcmlmaaGreatDoor.LogD
set_option maxRecDepth 100000
open Go Go.Sort Go.RowKit Byt RotG Small EncM EncC LogM LogC
theorem bsize (l : List Int) : (Byt.bv l).toArray.size = l.length := by rw [List.size_toArray, bv_length]
theorem bone (l : List Int) : (Byt.bv l).toArray.all (·.oneCell') = true := by
 rw [Array.all_eq_true_iff_forall_mem]
 intro v hv
 exact bv_one _ v (by simpa using hv)
theorem sl_at {w : World} {g : Nat} {l : List Int} (h : At w g (Byt.bv l).toArray) (hl : l.length ≤ maxLen) (hb : ∀ x ∈ l, Byt.B x) : Sl w (some ⟨g, 0, none⟩) l.length l := by
 obtain ⟨t, ht⟩ := h
 refine ⟨Nat.le_refl _, hl, hb, .inr ⟨_, rfl, fun i hi => ?_⟩⟩
 rw [Addr.add_lit, Nat.zero_add, cell_of_row w g i _ t (0, 0) ht, List.getElem?_toArray, bv_at _ hi]
set_option maxRecDepth 100000 in
set_option maxHeartbeats 4000000 in
theorem markOf_ret {w : World} {A : Option Addr} {cap len : Nat} {l : List Int} (S : Sl w A cap l) (hl : l.length = len) (hm : len ≤ 1099511627776) (hK : ShaE.KIn w) :
   Calls Tryz.prog 85 #[.slice A len cap] w fun e w' => e = .returned (.agg (Byt.bv (markL l)).toArray) ∧ Below w.heap.size w w' := by
 obtain ⟨z4, hz4⟩ : ∃ z : Array Value, #[.int .u8 0, .int .u8 0, .int .u8 0, .int .u8 0] = z := ⟨_, rfl⟩
 have s4 : z4.size = 4 := by rw [← hz4]; rfl
 have A0 : At (w.alloc (.cells z4 120)) w.heap.size z4 := At.new w _ _
 have kb : Below w.heap.size w (w.alloc (.cells z4 120)) := (Below.refl _ _).alloc (Nat.le_refl _) _
 have S1 := S.below kb
 have hs := psum S1 hl hm (hK.below kb)
 have e32 := bsize (ShaH.sumL l)
 rw [ShaH.sumL_length] at e32
 have one := bone (ShaH.sumL l)
 have o4 := bone (markL l)
 have e4 := bsize (markL l)
 rw [markL_len] at e4
 rw [← hz4] at A0 kb hs
 obtain ⟨S2, hS2⟩ : ∃ S, ShaH.sumL l = S := ⟨_, rfl⟩
 obtain ⟨m, hM⟩ : ∃ m, (Byt.bv (markL l)).toArray = m := ⟨_, rfl⟩
 have hsl : ∀ W g, At W g (Byt.bv S2).toArray → Sl W (some ⟨g, 0, none⟩) 32 S2 := fun W g h => by
   have := sl_at h (by rw [← hS2, ShaH.sumL_length]; unfold maxLen; omega) (by rw [← hS2]; exact sum_B l)
   rwa [← hS2, ShaH.sumL_length, hS2] at this
 have hml : (Byt.bv (S2.take 4)).toArray = m := by rw [← hS2, ← hM]; rfl
 have hlen : S2.length = 32 := by rw [← hS2]; exact ShaH.sumL_length l
 have hkbs := kb.size
 rw [hS2] at hs e32 one
 rw [hM] at e4 o4 ⊢
 clear hS2 hM S S1 hz4 s4 hK hl hm
 go_enter Tryz.func85, Tryz.ntmps85
 go_wp2_with (first | go_skip)
 refine hs.mono ?_
 rintro e w1 ⟨rfl, k1⟩
 have A1 := A0.below k1 A0.lt
 have b1 := kb.trans (k1.mono hkbs)
 have bs1 := b1.size
 have l1 := A1.lt
 clear A0 kb k1 hs hkbs
 go_wp2_with (first | go_skip | (refine wpList_store_last rfl 75 _ _ rfl _ _ _ 75 rfl _ rfl ?c1 rfl ?c2 ?c3 ?c4 ?_; (case c1 => simp); (case c2 => rw [e32]; exact info_id); (case c3 => rw [e32]; rfl); (case c4 => exact one)))
 have B1 : At (w1.alloc (.cells (Byt.bv S2).toArray 75)) w1.heap.size (Byt.bv S2).toArray := At.new w1 _ _
 have B0 := A1.alloc (.cells (Byt.bv S2).toArray 75)
 have k2 := b1.alloc bs1 (.cells (Byt.bv S2).toArray 75)
 have q := markAt_ret (hsl _ _ B1) hlen (by omega)
 rw [hml] at q
 refine q.mono ?_
 rintro e w2 ⟨rfl, k3⟩
 have C0 := B0.below k3 B0.lt
 have k4 := k2.trans (k3.mono k2.size)
 clear B0 B1 q k2 k3 hsl
 go_wp2_with (first | go_skip | (refine wpList_store_at rfl 120 _ _ rfl _ _ rfl rfl _ C0 ?c2 ?c3 ?c4 ?_; (case c2 => rw [e4]; exact info_m); (case c3 => rw [e4]; rfl); (case c4 => exact o4)))
 exact bodyPost_ret (v := .agg m) (results_at Tryz.results85 _ _ w.heap.size _ _ rfl (C0.row _) Tryz.underlying120 rfl (by rw [e4]; exact info_m)) rfl ⟨rfl, below_row k4 (Nat.le_refl _) _⟩
theorem nil_eq (w : World) : (binOp BinOp.eql 22 (.slice none 0 0) (.slice none 0 0)).run Tryz.prog w = .ok (.bool true) w := by kernel_rfl
theorem some_eq (p : Addr) (n cap : Nat) (w : World) : (binOp BinOp.eql 22 (.slice (some p) n cap) (.slice none 0 0)).run Tryz.prog w = .ok (.bool false) w := by kernel_rfl
theorem build_none {w : World} {ops : Array Oper} {rest : List Oper} {o : Oper} {a : Act} {Q : Exit → Act → World → Prop} (hgd : o.guard = none) (ho : o.op = .buildSlice 22 0 #[])
   (h : ∀ w1 cap, w1.ownsRow w.heap.size 5 1 (.slice (some ⟨w.heap.size, 0, none⟩) 0 cap) 0 (Byt.bv []) → Below w.heap.size w w1 → w.heap.size ≤ w1.heap.size → wpList Tryz.prog ops Q rest (a.put o.dst (.slice (some ⟨w.heap.size, 0, none⟩) 0 cap)) w1) : wpList Tryz.prog ops Q (o :: rest) a w := by
 refine wpList_plain hgd fun K hK => ?_
 have hrun : (Instr.buildSlice 22 0 #[]).run Tryz.prog w = .ok (.slice (some ⟨w.heap.size, 0, none⟩) 0 0) (w.alloc (.cells #[] 5)) := by kernel_rfl
 unfold Oper.wp execOp
 simp only [ho, List.map_toArray, List.map_nil, Sem.run_bind, hrun, Result.andThen_ok, Sem.run_pure]
 refine hK _ _ (h _ 0 ⟨rfl, .inr ⟨w.heap.size, 0, #[], rfl, Nat.le_refl _, heap_alloc_new w _, Nat.le_refl _, Nat.zero_le _, rfl, rfl⟩⟩ ((Below.refl _ _).alloc (Nat.le_refl _) _) (by simp))
def Gives (l : List Int) (w : World) (e : Ending) (w' : World) : Prop := ∃ A cap, e = .returned (.slice A l.length cap) ∧ Sl w' A cap l ∧ Below w.heap.size w w' ∧ ∀ b off sp, A = some ⟨b, off, sp⟩ → w.heap.size ≤ b ∧ b < w'.heap.size
theorem New.gives {l : List Int} {w : World} {e : Ending} {w' : World} (h : Byt.New l w e w') (hb : ∀ x ∈ l, Byt.B x) : Gives l w e w' := by
 obtain ⟨v, rfl, own, k⟩ := h
 have hlt := own.lt
 obtain ⟨A, cap, rfl, S⟩ := Sl.own own hb
 refine ⟨A, cap, rfl, S, k, fun b off sp h => ?_⟩
 subst h
 exact hlt b rfl
set_option maxHeartbeats 4000000 in
theorem clone_ret {w : World} {A : Option Addr} {cap len : Nat} {l : List Int} (S : Sl w A cap l) (hl : l.length = len) (hm : len ≤ 1099511627776) :
   Calls Tryz.prog 36 #[.slice A len cap] w (Gives l w) := by
 have hB := S.bytes
 rcases S.2.2.2 with ⟨rfl, rfl, rfl⟩ | ⟨p, rfl, _⟩
 · obtain rfl : len = 0 := hl.symm
   have he := nil_eq
   go_enter Tryz.func36, Tryz.ntmps36
   go_wp2_with (first | go_skip)
   go_ret
   exact ⟨none, 0, rfl, Sl.nil w, Below.refl _ _, fun b off sp h => by cases h⟩
 · have he := some_eq p len cap
   subst hl
   go_enter Tryz.func36, Tryz.ntmps36
   go_wp2_with (first | go_skip | (refine build_none rfl rfl ?_; intro w1 c1 o1 k1 s1; have S1 := S.below k1) | (refine wpList_append_sl rfl (.tmp 5) (.tmp 6) 22 rfl w.heap.size 5 Tryz.underlying22 zero_u8 _ 0 [] rfl o1 (some p) _ cap l rfl rfl S1 (by omega) s1 ?_; intro v2 w2 o2 g2))
   go_ret
   have o3 : w2.ownsRow w.heap.size 5 1 v2 l.length (Byt.bv l) := by simpa using o2
   exact New.gives ⟨_, rfl, o3, below_grown k1 s1 g2 (fun q hq => (o1.lt q hq).1)⟩ hB
set_option maxRecDepth 100000 in
set_option maxHeartbeats 8000000 in
theorem concat2_new (g : Nat) (A0 : Option Addr) (k0 : Nat) (l0 : List Int) (A1 : Option Addr) (k1 : Nat) (l1 : List Int) (w : World)
   (c0 : w.cell? ⟨g, 0, none⟩ = some (.slice A0 l0.length k0)) (c1 : w.cell? ⟨g, 1, none⟩ = some (.slice A1 l1.length k1))
   (S0 : Sl w A0 k0 l0) (S1 : Sl w A1 k1 l1) (hn : l0.length + l1.length ≤ 1000000000) (cap : Nat) :
   Calls Tryz.prog 47 #[.slice (some ⟨g, 0, none⟩) 2 cap] w (Byt.New (l0 ++ l1) w) := by
 have cg : ∀ W, Calls Tryz.prog 86 #[.slice none 0 0, .int .i64 ((l0.length : Int) + l1.length)] W fun e w' => ∃ v, e = .returned v ∧ w'.ownsRow W.heap.size 5 1 v 0 (Byt.bv []) ∧ Below W.heap.size W w' := fun W => by
   have := StG.grow_ret (l0.length + l1.length) (by omega) W
   simpa using this
 go_enter Tryz.func47, Tryz.ntmps47
 go_wp2_with (first | go_skip)
 refine wp_loop_rounds 3 ?_
 rw [rounds_succ]
 go_wp2_with (first | go_skip)
 rw [rounds_succ]
 go_wp2_with (first | go_skip)
 rw [rounds_succ]
 go_wp2_with (first | go_skip)
 refine (cg _).mono ?_
 rintro _ w1 ⟨v1, rfl, own1, b1⟩
 have z0 := b1.cell (block_lt_of_cell c0) |>.trans c0
 have z1 := b1.cell (block_lt_of_cell c1) |>.trans c1
 have T0 := S0.below b1
 have T1 := S1.below b1
 clear cg
 go_wp2_with (first | go_skip)
 refine wp_loop_rounds 3 ?_
 rw [rounds_succ]
 go_wp2_with (first | go_skip | (refine wpList_append_sl rfl (.tmp 31) (.tmp 32) 22 rfl w.heap.size 5 Tryz.underlying22 zero_u8 _ _ [] rfl own1 A0 _ k0 l0 rfl rfl T0 (by omega) b1.size ?_; intro v2 w2 own2 g2))
 have b2 := below_grown b1 b1.size g2 (fun q hq => (own1.lt q hq).1)
 clear z0
 have z1' := b2.cell (block_lt_of_cell c1) |>.trans c1
 have U1 := S1.below b2
 clear z1 T0 T1 g2 own1
 rw [rounds_succ]
 go_wp2_with (first | go_skip | (refine wpList_append_sl rfl (.tmp 31) (.tmp 32) 22 rfl w.heap.size 5 Tryz.underlying22 zero_u8 _ _ ([] ++ l0) rfl own2 A1 _ k1 l1 rfl rfl U1 (by omega) b2.size ?_; intro v3 w3 own3 g3))
 have b3 := below_grown b2 b2.size g3 (fun q hq => (own2.lt q hq).1)
 clear z1' U1 g3 own2
 rw [rounds_succ]
 go_wp2_with (first | go_skip)
 go_ret
 refine ⟨_, rfl, ?_, b3⟩
 have e : ([] ++ l0) ++ l1 = l0 ++ l1 := by simp
 rw [e] at own3
 have hl : 0 + l0.length + l1.length = (l0 ++ l1).length := by simp
 rw [← hl]
 exact own3
end Go.Proofs.YtgoapaanmcmlmaaGreatDoor.LogD
namespace Go.Proofs.YtgoapaanmcmlmaaGreatDoor.LogE
set_option maxRecDepth 100000
open Go Go.Sort Go.RowKit Byt RotG Small EncM EncC LogM LogC LogD
def frameO (l : List Int) : List Int × Int := if l.length ≤ 4000 then (frameL l, 0) else ([], 5)
def GivesE (r : List Int × Int) (w : World) (e : Ending) (w' : World) : Prop := ∃ A cap, e = .returned (.tuple #[.slice A r.1.length cap, .int .i64 r.2]) ∧ Sl w' A cap r.1 ∧ Below w.heap.size w w'
def GivesN (r : List Int × Int) (w : World) (e : Ending) (w' : World) : Prop := ∃ v, e = .returned (.tuple #[v, .int .i64 r.2]) ∧ w'.ownsRow w.heap.size 5 1 v r.1.length (Byt.bv r.1) ∧ Below w.heap.size w w'
theorem GivesN.none (n : Int) (w w' : World) (k : Below w.heap.size w w') : GivesN ([], n) w (.returned (.tuple #[.slice none 0 0, .int .i64 n])) w' := ⟨_, rfl, ⟨rfl, .inl ⟨rfl, rfl⟩⟩, k⟩
theorem run_build3 (w : World) (A0 A1 A2 : Option Addr) (n0 n1 n2 k0 k1 k2 : Nat) : (Instr.buildSlice 58 3 #[(0, .slice A0 n0 k0), (1, .slice A1 n1 k1), (2, .slice A2 n2 k2)]).run Tryz.prog w = .ok (.slice (some ⟨w.heap.size, 0, none⟩) 3 3) (w.alloc (.cells #[.slice A0 n0 k0, .slice A1 n1 k1, .slice A2 n2 k2] 22)) := by kernel_rfl
theorem wpList_build3 {w : World} {ops : Array Oper} {rest : List Oper} {o : Oper} {a : Act} {Q : Exit → Act → World → Prop} (hgd : o.guard = none) (x0 x1 x2 : Operand) (ho : o.op = .buildSlice 58 3 #[(0, x0), (1, x1), (2, x2)])
   (A0 A1 A2 : Option Addr) (n0 n1 n2 k0 k1 k2 : Nat) (h0 : a.eval x0 = .slice A0 n0 k0) (h1 : a.eval x1 = .slice A1 n1 k1) (h2 : a.eval x2 = .slice A2 n2 k2)
   (h : wpList Tryz.prog ops Q rest (a.put o.dst (.slice (some ⟨w.heap.size, 0, none⟩) 3 3)) (w.alloc (.cells #[.slice A0 n0 k0, .slice A1 n1 k1, .slice A2 n2 k2] 22))) : wpList Tryz.prog ops Q (o :: rest) a w := by
 refine wpList_plain hgd fun K hK => ?_
 unfold Oper.wp execOp
 simp only [ho, List.map_toArray, List.map_cons, List.map_nil, h0, h1, h2, Sem.run_bind, run_build3, Result.andThen_ok, Sem.run_pure]
 exact hK _ _ h
set_option maxRecDepth 100000 in
set_option maxHeartbeats 8000000 in
theorem frame_yes {w : World} {A : Option Addr} {cap len : Nat} {l : List Int} (S : Sl w A cap l) (hl : l.length = len) (hm : len ≤ 4000) (hK : ShaE.KIn w) :
   Calls Tryz.prog 46 #[.slice A len cap] w (GivesE (frameL l, 0) w) := by
 have q1 := markOf_ret S hl (by omega) hK
 have m4 := bsize (markL l)
 rw [markL_len] at m4
 have o4 := bone (markL l)
 have mB := mark_B l
 have mlen := markL_len l
 have hF : Hid (frameL l = numL len ++ (l ++ markL l)) := aside (by rw [← hl]; rfl)
 have hFl := frameL_len l
 have hten := numL_ten (n := len) (by omega)
 have hnB : ∀ x ∈ numL len, Byt.B x := numL_range len
 have n0 : ¬ (4000 : Int) < (len : Int) := by omega
 have p0 : 0 ≤ (len : Int) := by omega
 have p1 : (len : Int) ≤ 18446744073709551615 := by omega
 have fit : Fits len := by unfold Fits; omega
 have qn := fun W => num len fit W
 obtain ⟨m, hM⟩ : ∃ m, markL l = m := ⟨_, rfl⟩
 rw [hM] at q1 m4 o4 mB mlen hF
 have hsl : ∀ W g, At W g (Byt.bv m).toArray → Sl W (some ⟨g, 0, none⟩) 4 m := fun W g h => by
   have := sl_at h (by rw [mlen]; unfold maxLen; omega) mB
   rwa [mlen] at this
 obtain ⟨N, hN⟩ : ∃ N, numL len = N := ⟨_, rfl⟩
 rw [hN] at qn hF hten hnB
 have hsum : N.length + l.length + m.length ≤ 1000000000 := by omega
 clear hM hK hFl hten fit hN
 go_enter Tryz.func46, Tryz.ntmps46
 go_wp2_with (first | go_skip)
 refine q1.mono ?_
 rintro e w1 ⟨rfl, k1⟩
 clear q1
 have z4 : At (w1.alloc (.cells (Byt.bv m).toArray 120)) w1.heap.size (Byt.bv m).toArray := At.new _ _ _
 have kb := k1.alloc k1.size (.cells (Byt.bv m).toArray 120)
 have S1 := S.below kb
 go_wp2_with (first | go_skip | (refine wpList_store_last rfl 120 _ _ rfl _ _ _ 120 rfl _ rfl ?c1 rfl ?c2 ?c3 ?c4 ?_; (case c1 => simp); (case c2 => rw [m4]; exact info_m); (case c3 => rw [m4]; rfl); (case c4 => exact o4)))
 refine Grow.region [(0, true), (1, true), (2, true), (4, true), (5, true), (3, false), (6, false), (7, false), (8, true), (9, true)] (by kernel_rfl) (by kernel_rfl) rfl (by kernel_rfl) (by intro c a d v w h; cases d <;> exact h) ?_
 change Grow.Seq _ _ _ _ _ (w1.alloc (.cells (Byt.bv m).toArray 120)).drew
 have dr := Small.below_drew1 (Below.refl (w1.alloc (.cells (Byt.bv m).toArray 120)).heap.size (w1.alloc (.cells (Byt.bv m).toArray 120)))
 have z5 := z4.drew
 have S2 := S1.below dr
 have b1 := kb.trans (dr.mono kb.size)
 obtain ⟨G, hG⟩ : ∃ G, w1.heap.size = G := ⟨_, rfl⟩
 rw [hG] at z5 ⊢
 generalize (w1.alloc (.cells (Byt.bv m).toArray 120)).drew = w2 at z5 S2 b1 ⊢
 clear z4 S1 kb dr k1 hG S
 simp only [Act.put]
 repeat (refine Grow.reads rfl rfl ?_; go_big_quiet_step (fail); refine wpQuiet_nil ?_)
 refine Grow.acts rfl ?_
 go_wp2_with fail
 refine (qn _).mono ?_
 rintro _ w3 ⟨v3, rfl, own3, k3⟩
 go_wp2_with fail
 refine ⟨k3, ?_⟩
 obtain ⟨A3, C3, rfl, M3⟩ := Sl.own own3 hnB
 have S3 := S2.below k3
 have z6 := z5.below k3 z5.lt
 have b3 := b1.trans (k3.mono b1.size)
 clear S2 z5 b1 k3 own3 qn
 have O3 := hsl _ _ z6
 clear z6 hsl
 refine Grow.acts rfl ?_
 go_wp2_with (refine wpList_build3 rfl _ _ _ rfl A3 A (some ⟨G, 0, none⟩) _ _ _ C3 cap 4 rfl rfl rfl ?_)
 have k5 : Below w3.heap.size w3 (w3.alloc (.cells #[.slice A3 N.length C3, .slice A len cap, .slice (some ⟨G, 0, none⟩) 4 4] 22)) := (Below.refl _ _).alloc (Nat.le_refl _) _
 refine ⟨k5, ?_⟩
 have hT : (w3.alloc (.cells #[.slice A3 N.length C3, .slice A len cap, .slice (some ⟨G, 0, none⟩) 4 4] 22)).heap[w3.heap.size]? = some (.cells #[.slice A3 N.length C3, .slice A len cap, .slice (some ⟨G, 0, none⟩) 4 4] 22 (0, 0)) := heap_alloc_new _ _
 have M5 := M3.below k5
 have N5 := S3.below k5
 have O5 := O3.below k5
 have b5 := b3.trans (k5.mono b3.size)
 generalize w3.alloc (.cells #[.slice A3 N.length C3, .slice A len cap, .slice (some ⟨G, 0, none⟩) 4 4] 22) = w5 at hT M5 N5 O5 b5 ⊢
 have t0 : w5.cell? ⟨w3.heap.size, 0, none⟩ = some (.slice A3 N.length C3) := by rw [cell_of_row w5 _ 0 _ _ (0, 0) hT]; rfl
 have t1 : w5.cell? ⟨w3.heap.size, 1, none⟩ = some (.slice A l.length cap) := by rw [cell_of_row w5 _ 1 _ _ (0, 0) hT, hl]; rfl
 have t2 : w5.cell? ⟨w3.heap.size, 2, none⟩ = some (.slice (some ⟨G, 0, none⟩) m.length 4) := by rw [cell_of_row w5 _ 2 _ _ (0, 0) hT, mlen]; rfl
 have q3 := StG.concat_ret w3.heap.size A3 C3 N A cap l (some ⟨G, 0, none⟩) 4 m w5 t0 t1 t2 M5 N5 O5 hsum 3
 have hB : ∀ x ∈ N ++ (l ++ m), Byt.B x := fun x hx => (List.mem_append.1 hx).elim (hnB x) fun hx => (List.mem_append.1 hx).elim (N5.bytes x) (mB x)
 clear M3 S3 O3 b3 k5 hT t0 t1 t2 M5 N5 O5
 simp only [Act.put, List.setIfInBounds_toArray, List.set_cons_succ, List.set_cons_zero]
 refine Grow.acts rfl ?_
 go_wp2_with fail
 refine q3.mono ?_
 rintro _ w6 ⟨v6, rfl, own6, k6⟩
 go_wp2_with fail
 refine ⟨k6, ?_⟩
 have b6 := b5.trans (k6.mono b5.size)
 obtain ⟨A6, C6, rfl, M6⟩ := Sl.own own6 hB
 clear own6 k6 b5 q3
 repeat (refine Grow.reads rfl rfl ?_; go_big_quiet_step (fail); refine wpQuiet_nil ?_)
 refine Grow.ends ?_
 go_wp2_with fail
 exact bodyPost_ret (v := .tuple #[.slice A6 (N ++ (l ++ m)).length C6, .int .i64 0]) (by simp [results, Tryz.results46, go_sem]) rfl (by rw [hF.out]; exact ⟨A6, C6, rfl, M6, b6⟩)
set_option maxRecDepth 100000 in
theorem frame_no {w : World} {A : Option Addr} {cap len : Nat} (hm : 4000 < len) :
   Calls Tryz.prog 46 #[.slice A len cap] w (GivesE ([], 5) w) := by
 have n0 : (4000 : Int) < (len : Int) := by omega
 clear hm
 go_enter Tryz.func46, Tryz.ntmps46
 go_wp2_with (first | go_skip)
 exact bodyPost_ret (v := .tuple #[.slice none 0 0, .int .i64 5]) (by simp [results, Tryz.results46, go_sem]) rfl ⟨none, 0, rfl, Sl.nil w, Below.refl _ _⟩
theorem frame_ret {w : World} {A : Option Addr} {cap len : Nat} {l : List Int} (S : Sl w A cap l) (hl : l.length = len) (hK : ShaE.KIn w) :
   Calls Tryz.prog 46 #[.slice A len cap] w (GivesE (frameO l) w) := by
 unfold frameO
 by_cases h : l.length ≤ 4000
 · rw [if_pos h]
   exact frame_yes S hl (by omega) hK
 · rw [if_neg h]
   exact frame_no (by omega)
end Go.Proofs.YtgoapaanmcmlmaaGreatDoor.LogE
namespace Go.Proofs.YtgoapaanmcmlmaaGreatDoor.LogW
set_option maxRecDepth 100000
open Go Go.Sort Go.RowKit Byt RotG Small EncM EncC LogM LogC LogD LogE
def writeO (b x : List Int) (room : Int) : List Int × Int :=
 if 4000 < x.length then ([], 5) else if room < (b.length : Int) + (frameL x).length then ([], 4) else (b ++ frameL x, 0)
theorem run_build2 (w : World) (A0 A1 : Option Addr) (n0 n1 k0 k1 : Nat) : (Instr.buildSlice 58 2 #[(0, .slice A0 n0 k0), (1, .slice A1 n1 k1)]).run Tryz.prog w = .ok (.slice (some ⟨w.heap.size, 0, none⟩) 2 2) (w.alloc (.cells #[.slice A0 n0 k0, .slice A1 n1 k1] 22)) := by kernel_rfl
theorem wpList_build2 {w : World} {ops : Array Oper} {rest : List Oper} {o : Oper} {a : Act} {Q : Exit → Act → World → Prop} (hgd : o.guard = none) (x0 x1 : Operand) (ho : o.op = .buildSlice 58 2 #[(0, x0), (1, x1)])
   (A0 A1 : Option Addr) (n0 n1 k0 k1 : Nat) (h0 : a.eval x0 = .slice A0 n0 k0) (h1 : a.eval x1 = .slice A1 n1 k1)
   (h : wpList Tryz.prog ops Q rest (a.put o.dst (.slice (some ⟨w.heap.size, 0, none⟩) 2 2)) (w.alloc (.cells #[.slice A0 n0 k0, .slice A1 n1 k1] 22))) : wpList Tryz.prog ops Q (o :: rest) a w := by
 refine wpList_plain hgd fun K hK => ?_
 unfold Oper.wp execOp
 simp only [ho, List.map_toArray, List.map_cons, List.map_nil, h0, h1, Sem.run_bind, run_build2, Result.andThen_ok, Sem.run_pure]
 exact hK _ _ h
set_option maxRecDepth 100000 in
set_option maxHeartbeats 8000000 in
theorem write_new {w : World} {A A' : Option Addr} {cap cap' len len' : Nat} {b x : List Int} {room : Int} (S : Sl w A cap b) (T : Sl w A' cap' x) (hl : b.length = len) (hl' : x.length = len') (hm : len ≤ 900000000) (hK : ShaE.KIn w) :
   Calls Tryz.prog 25 #[.slice A len cap, .int .i64 room, .slice A' len' cap'] w (GivesN (writeO b x room) w) := by
 by_cases h4 : 4000 < len'
 · have q := frame_no (w := w) (A := A') (cap := cap') h4
   have HO : Hid (writeO b x room = ([], 5)) := aside (by unfold writeO; rw [if_pos (by omega)])
   clear S T hl hl' hm hK h4
   go_enter Tryz.func25, Tryz.ntmps25
   go_wp2_with (first | go_skip)
   refine q.mono ?_
   rintro e w1 ⟨A2, c2, rfl, S2, k1⟩
   clear q
   go_wp2_with (first | go_skip)
   exact bodyPost_ret (v := .tuple #[.slice none 0 0, .int .i64 5]) (by simp [results, Tryz.results25, go_sem]) rfl (by rw [HO.out]; exact GivesN.none _ _ _ k1)
 · have q := frame_yes T hl' (by omega) hK
   have hlen := frameL_len x
   have hten := numL_ten (n := x.length) (by omega)
   have hB : ∀ y ∈ b, Byt.B y := S.bytes
   have hx4 : ¬ 4000 < x.length := by omega
   obtain ⟨F, hF⟩ : ∃ F, frameL x = F := ⟨_, rfl⟩
   rw [hF] at q hlen
   have m1 : IntKind.i64.wrap ((len : Int) + (F.length : Int)) = (len : Int) + (F.length : Int) := IntWalk.i64_in _ (by omega)
   by_cases hr : room < (len : Int) + (F.length : Int)
   · have HO : Hid (writeO b x room = ([], 4)) := aside (by unfold writeO; rw [if_neg hx4, hF, if_pos (by omega)])
     clear S T hl hl' hm hK h4 hlen hten hB hF hx4
     go_enter Tryz.func25, Tryz.ntmps25
     go_wp2_with (first | go_skip)
     refine q.mono ?_
     rintro e w1 ⟨A2, c2, rfl, S2, k1⟩
     clear q
     go_wp2_with (first | go_skip)
     exact bodyPost_ret (v := .tuple #[.slice none 0 0, .int .i64 4]) (by simp [results, Tryz.results25, go_sem]) rfl (by rw [HO.out]; exact GivesN.none _ _ _ k1)
   · have HO : Hid (writeO b x room = (b ++ F, 0)) := aside (by unfold writeO; rw [if_neg hx4, hF, if_neg (by omega)])
     have hsum : b.length + F.length ≤ 1000000000 := by omega
     clear T hl' hK h4 hlen hten hB hF hm hx4
     go_enter Tryz.func25, Tryz.ntmps25
     go_wp2_with (first | go_skip)
     refine q.mono ?_
     rintro e w1 ⟨A2, c2, rfl, S2, k1⟩
     clear q
     have S1 := S.below k1
     simp only [] at S2
     go_wp2_with (first | go_skip | (refine wpList_build2 rfl _ _ rfl A A2 _ _ cap c2 rfl rfl ?_))
     have k5 : Below w1.heap.size w1 (w1.alloc (.cells #[.slice A len cap, .slice A2 F.length c2] 22)) := (Below.refl _ _).alloc (Nat.le_refl _) _
     have hT : (w1.alloc (.cells #[.slice A len cap, .slice A2 F.length c2] 22)).heap[w1.heap.size]? = some (.cells #[.slice A len cap, .slice A2 F.length c2] 22 (0, 0)) := heap_alloc_new _ _
     have M5 := S1.below k5
     have N5 := S2.below k5
     have b5 := k1.trans (k5.mono k1.size)
     generalize w1.alloc (.cells #[.slice A len cap, .slice A2 F.length c2] 22) = w5 at hT M5 N5 b5 ⊢
     have t0 : w5.cell? ⟨w1.heap.size, 0, none⟩ = some (.slice A b.length cap) := by rw [cell_of_row w5 _ 0 _ _ (0, 0) hT, hl]; rfl
     have t1 : w5.cell? ⟨w1.heap.size, 1, none⟩ = some (.slice A2 F.length c2) := by rw [cell_of_row w5 _ 1 _ _ (0, 0) hT]; rfl
     have q3 := concat2_new w1.heap.size A cap b A2 c2 F w5 t0 t1 M5 N5 hsum 2
     refine q3.mono ?_
     rintro e w6 ⟨v6, rfl, own6, k6⟩
     have b6 := b5.trans (k6.mono b5.size)
     have hbs5 := b5.size
     clear q3 t0 t1 M5 N5 hT S1 S2 k5 b5 k6 S
     go_wp2_with (first | go_skip)
     exact bodyPost_ret (v := .tuple #[v6, .int .i64 0]) (by simp [results, Tryz.results25, go_sem]) rfl (by rw [HO.out]; exact ⟨v6, rfl, owns_less own6 hbs5, b6⟩)
theorem writeO_B {b x : List Int} {room : Int} (hb : ∀ y ∈ b, Byt.B y) (hx : ∀ y ∈ x, Byt.B y) : ∀ y ∈ (writeO b x room).1, Byt.B y := by
 unfold writeO
 split
 · simp
 split
 · simp
 · intro y hy
   rcases List.mem_append.1 hy with hy | hy
   · exact hb y hy
   · exact frame_B hx y hy
end Go.Proofs.YtgoapaanmcmlmaaGreatDoor.LogW
namespace Go.Proofs.YtgoapaanmcmlmaaGreatDoor.StoW
set_option maxRecDepth 100000
open Go Go.Sort Go.RowKit Byt IdM IdW OpsM OpsW CmM StW CmW CmX CmY DgM DgW StoM LogD LogE LogW
open Classical
theorem fit_may {c : Com} (h : mayK c = true) : Fit c := by
 have hn := node_may h
 have hs := seq_may h
 have hg := lineB_iff.1 (mayK_iff.1 h).1
 refine ⟨by unfold I64; omega, by unfold I64; omega, by unfold I64; omega, ?_⟩
 rcases (mayK_iff.1 h).2 with h1 | ⟨_, h1⟩
 · rw [(mergeB_iff.1 h1).2.2.1]; exact CmG.fit_no
 · exact OpsE.mayO_fit h1
theorem mayO_short {o : Opn} (h : mayO o = true) : o.key.size ≤ 100 ∧ o.elem.size ≤ 100 := by
 obtain ⟨hk, hr⟩ := mayO_kind h
 have h1 := keyL_len hk
 have h2 := bytesL_length o.key
 have h3 := bytesL_length o.elem
 rcases hr with ⟨h0, hs⟩ | ⟨h0, he⟩
 · rw [stepB_iff] at hs
   obtain ⟨a, b, _, d⟩ := hs
   rw [d] at h3
   simp at h3
   omega
 · rw [elemB_iff] at he
   have := keyL_len he.1
   omega
theorem few_may {c : Com} (h : mayK c = true) : fewK c = true := by
 have hg := lineB_iff.1 (mayK_iff.1 h).1
 refine fewK_iff.2 ⟨by omega, ?_⟩
 rcases (mayK_iff.1 h).2 with h1 | ⟨_, h1⟩
 · rw [(mergeB_iff.1 h1).2.2.1]; decide
 · have := mayO_short h1
   omega
theorem okay_may {c : Com} (h : mayK c = true) : CmR.Okay c := okay (few_may h) (fit_may h)
theorem okay_no : CmR.Okay noK := ⟨⟨by unfold noK I64; decide, by unfold noK I64; decide, by unfold noK I64; decide, CmG.fit_no⟩, by decide, by decide⟩
def LoadOut (r : List Com × Nat) (w : World) (e : Ending) (w' : World) : Prop :=
 ∃ A cap ps, e = .returned (.tuple #[.slice A (List.length ps) cap, .int .i64 r.2]) ∧ coms ps = r.1 ∧ SlK w' A cap ps ∧ Below w.heap.size w w'
def putO (b : List Int) (c : Com) (room : Int) : List Int × Int := if mayK c = true then writeO b (putK c) room else ([], 1)
end Go.Proofs.YtgoapaanmcmlmaaGreatDoor.StoW
