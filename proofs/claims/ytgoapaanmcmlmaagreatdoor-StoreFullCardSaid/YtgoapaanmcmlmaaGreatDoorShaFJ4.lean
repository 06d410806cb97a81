/- What sha.Pad returns: a contract. | What sha.join returns: a contract. | What sha.Sum returns: a contract. | Plain facts on logs: frames, the records that stand whole at the beginning of some bytes, and what is read where they are cut. No condition. -/
import Derived.Test.YtgoapaanmcmlmaaGreatDoorShaDJ4
import Derived.Test.YtgoapaanmcmlmaaGreatDoorRotMJ9
import Derived.Test.YtgoapaanmcmlmaaGreatDoorRowInJ3
import Derived.IntWalk
import Derived.Deep.RegionWith
import Derived.Test.YtgoapaanmcmlmaaGreatDoorEncMJ4
namespace Go.Proofs.YtgoapaanmcmlmaaGreatDoor.ShaF
set_option maxRecDepth 100000
open Go.RowKit RotM RotN RotC RotD ShaM ShaC RotG Small PadM
theorem info_u8 : (Tryz.prog.info? 5).map (·.size) = some 1 := by kernel_rfl
theorem zero_u8 : (Tryz.prog.info? 5).map (fun i => (i.zero, i.size, i.bytes)) = some (some (.int .u8 0), 1, 1) := by kernel_rfl
theorem info_8b : (Tryz.prog.info? 151).map (·.size) = some 8 := by kernel_rfl
theorem longV_one (a : Int) : (longV a).all (·.oneCell') = true := by kernel_rfl
def Fresh (l : List Int) (w : World) (e : Ending) (w' : World) : Prop :=
 ∃ g, e = .returned (.slice (some ⟨g, 0, none⟩) l.length l.length) ∧ w.heap.size ≤ g ∧ At w' g (bv l).toArray ∧ Below w.heap.size w w'
theorem src_at {w : World} {A : Option Addr} {len cap : Nat} {zs : List Int} (h : RowIn.RowL .u8 w A len cap zs) : 0 < (bv (zs.take len)).length → ∃ ad, A = some ad ∧ ∀ j v, (bv (zs.take len))[j]? = some v → w.cell? (ad.add j) = some v := by
 intro hp
 obtain ⟨h1, h2, h3, h4, h5⟩ := h
 rcases h5 with ⟨_, h0, _⟩ | ⟨x, rfl, hc⟩
 · simp [bv, h0] at hp
 · refine ⟨x, rfl, fun j v hv => ?_⟩
   have hj : j < (zs.take len).length := by
     have := (List.getElem?_eq_some_iff.1 hv).1
     simpa [bv] using this
   have hj2 : j < len ∧ j < zs.length := by simp at hj; omega
   rw [bv_at _ hj] at hv
   rw [hc j hj2.2, ← hv]
   congr 2
   rw [List.getD_eq_getElem?_getD, List.getD_eq_getElem?_getD, List.getElem?_take, if_pos hj2.1]
theorem long_src {w : World} {g : Nat} {a : Int} (h : At w g (longV a)) (j : Nat) (v : Value) (hv : (bv (long8 a))[j]? = some v) : w.cell? ((⟨g, 0, none⟩ : Addr).add j) = some v := by
 have hadd : (⟨g, 0, none⟩ : Addr).add j = ⟨g, j, none⟩ := by unfold Addr.add; split <;> simp_all
 rw [hadd, h.cell j, ← hv, bv_long8]
 simp
set_option maxHeartbeats 1000000 in
theorem padW {w : World} {A : Option Addr} {len cap : Nat} {zs : List Int} (hr : RowIn.RowL .u8 w A len cap zs) (hl : len ≤ 1099511627776) :
   Calls Tryz.prog 128 #[.slice A len cap] w (Fresh (padL (zs.take len)) w) := by
 obtain ⟨bs, hbs⟩ : ∃ bs, zs.take len = bs := ⟨_, rfl⟩
 have hlen : bs.length = len := by
   have h1 := hr.1
   have h3 := hr.2.2.1
   rw [← hbs]; simp; omega
 have hsrc := src_at (hr.below ((Below.refl _ _).alloc (Nat.le_refl _) (.cells (List.replicate (nPad len) (.int .u8 0)).toArray 5)))
 rw [hbs] at hsrc
 rw [hbs]
 have hn1 := nPad_lo len
 have hn2 := nPad_hi len
 have hN : ((len : Int) + 9 + 64 - 1) / 64 * 64 = (nPad len : Nat) := by unfold nPad; omega
 have HN := RotF.aside hN
 have HL := RotF.aside hlen
 have HS := RotF.aside hsrc
 clear hN hbs hlen hsrc
 obtain ⟨N, hNN⟩ : ∃ N, nPad len = N := ⟨_, rfl⟩
 have HNN := RotF.aside hNN
 rw [hNN] at hn1 hn2 HN HS
 clear hNN
 go_enter Tryz.func128, Tryz.ntmps128
 go_wp2_with (first | (refine wpList_make_at rfl 22 _ _ rfl 5 (.int .u8 0) Tryz.underlying22 zero_u8 rfl _ rfl rfl N ?c1 ?c2 ?_; (case c1 => exact HN.out); (case c2 => omega)) | (refine wpList_copy_splice rfl _ _ 22 22 rfl 5 Tryz.underlying22 info_u8 _ _ _ _ _ _ rfl rfl w.heap.size 0 (List.replicate N (.int .u8 0)) 5 ?c1 (bv bs) ?c2 ?c3 ?c4 (bv_one bs) w.heap.size w ?c5 (Nat.le_refl _) ?_; (case c1 => exact heap_alloc_new _ _); (case c2 => rw [bv_length, HL.out]; exact (Nat.min_eq_left (by omega)).symm); (case c3 => exact fun hp => ⟨rfl, HS.out hp⟩); (case c4 => rw [bv_length, HL.out]; simp; omega); (case c5 => exact (Below.refl _ _).alloc (Nat.le_refl _) _); intro w2 HG2 hB2; have A2 : At w2 w.heap.size (bv (bs ++ List.replicate (N - bs.length) 0)).toArray := (⟨_, by rw [← lay1]; exact HG2.out⟩ : At _ _ _); clear HG2; have z2 := A2.frozen len; have c2 : w2.cell? ⟨w.heap.size, len, none⟩ = some (.int .u8 0) := (A2.cell len).trans (by rw [← HL.out]; exact lay1_at _ _ (by have := HL.out; omega))))
 refine (long _ ?_ _).mono ?_
 · omega
 rintro e w3 ⟨rfl, h3⟩
 have A3 : At w3 w.heap.size (bv (bs ++ (128 :: List.replicate (N - len - 1) 0))).toArray := by
   have q := A2.set len (.int .u8 128)
   rw [← HL.out, lay2 _ _ (by have := HL.out; omega), HL.out] at q
   exact q.below h3 q.lt
 have hB3 : Below w.heap.size w w3 := (hB2.setCell (by simp) _).trans (h3.mono (by have := hB2.size; simpa using this))
 clear A2 z2 c2 hB2 h3
 go_wp2_with (refine wpList_store_last rfl 151 _ _ rfl _ _ _ 151 rfl _ rfl ?c1 rfl ?c2 ?c3 ?c4 ?_; (case c1 => simp); (case c2 => exact info_8b); (case c3 => rfl); (case c4 => exact longV_one _))
 have l3 := A3.lt
 refine wp_region_still_tail 6 (by kernel_rfl) (by kernel_rfl) ?_
 simp only [List.take_succ_cons, List.take_zero, List.drop_succ_cons, List.drop_zero]
 change wpStill _ _ (World.drew _) (fun a' => wpList _ _ _ _ a' (World.drew _)) _ _
 obtain ⟨W, hW⟩ : ∃ W : World, W = (w3.alloc (.cells (longV (8 * (len : Int))) 151)).drew := ⟨_, rfl⟩
 rw [← hW]
 have C4 : At W w.heap.size (bv (bs ++ (128 :: List.replicate (N - len - 1) 0))).toArray := by rw [hW]; exact (A3.alloc _).drew
 have C5 : At W w3.heap.size (longV (8 * (len : Int))) := by rw [hW]; exact (At.new _ _ _).drew
 have hBW : Below w.heap.size w W := by rw [hW]; exact below_drew1 (hB3.alloc hB3.size _)
 clear hW A3 hB3
 have m1 : IntKind.i64.wrap ((N : Int) - 8) = (N : Int) - 8 := IntWalk.i64_in _ (by omega)
 have m2 : 0 ≤ (N : Int) - 8 := by omega
 have m3 : ((N : Int) - 8).toNat = N - 8 := by omega
 have m4 : (N : Int) - 8 ≤ (N : Int) := by omega
 have m5 : ¬ N = N - 8 := by omega
 have m6 : ¬ N - 8 = N := by omega
 have m7 : (8 : Int) ≤ (N : Int) := by omega
 have m8 : N - (N - 8) = 8 := by omega
 repeat still_step
 refine wpStill_nil ?_
 clear m1 m2 m3 m4 m5 m6 m7 m8
 obtain ⟨t4, ht4⟩ := C4
 have HT4 := RotF.aside ht4
 clear ht4
 go_wp2_with (refine wpList_copy_splice rfl _ _ 22 22 rfl 5 Tryz.underlying22 info_u8 _ _ _ _ _ _ rfl rfl w.heap.size (N - 8) (bv (bs ++ (128 :: List.replicate (N - len - 1) 0))) t4 ?c1 (bv (long8 (8 * (len : Int)))) ?c2 ?c3 ?c4 (bv_one _) w.heap.size w ?c5 (Nat.le_refl _) ?_; (case c1 => exact HT4.out); (case c2 => rfl); (case c3 => exact fun _ => ⟨rfl, _, rfl, fun j v hj => long_src C5 j v hj⟩); (case c4 => rw [bv_length, bv_length, long8_length]; simp; have := HL.out; omega); (case c5 => exact hBW); intro w5 HG5 hB5)
 have hlen := HL.out
 have hN8 : N - 8 = bs.length + 1 + (N - len - 1) - 8 := by omega
 have A5 : At w5 w.heap.size (bv (padL bs)).toArray := by
   refine ⟨t4, ?_⟩
   rw [HG5.out, hN8, lay3 bs _ _ (long8_length _) (by omega)]
   unfold padL
   rw [hlen, HNN.out, show N - len - 1 - 8 = N - len - 9 by omega]
 clear HG5 hN8 HT4 C5 hBW HS
 go_ret
 refine ⟨w.heap.size, ?_, Nat.le_refl _, A5, hB5⟩
 rw [padL_length, hlen, HNN.out]
 rfl
end Go.Proofs.YtgoapaanmcmlmaaGreatDoor.ShaF
namespace Go.Proofs.YtgoapaanmcmlmaaGreatDoor.ShaG
set_option maxRecDepth 100000
open Go.RowKit RotM RotN RotC RotD ShaM ShaC RotG Small PadM ShaF
def idL (h : H8) (k : Nat) : List Int := (List.range k).flatMap fun i => four8 (u (h.w i))
theorem idL_succ (h : H8) (k : Nat) : idL h (k + 1) = idL h k ++ four8 (u (h.w k)) := by simp [idL, List.range_succ]
theorem idL_length (h : H8) (k : Nat) : (idL h k).length = 4 * k := by
 induction k with
 | zero => rfl
 | succ k ih => rw [idL_succ, List.length_append, ih, four8_length]; omega
def idV (h : H8) (k : Nat) : List Value := bv (idL h k ++ List.replicate (32 - 4 * k) 0)
theorem idV_length (h : H8) (k : Nat) (hk : k ≤ 8) : (idV h k).length = 32 := by
 simp [idV, bv_length, idL_length]; omega
theorem idV_one (h : H8) (k : Nat) : (idV h k).toArray.all (·.oneCell') = true := by
 rw [Array.all_eq_true_iff_forall_mem]
 intro v hv
 exact bv_one _ v (by simpa [idV] using hv)
theorem idV_splice (h : H8) (k : Nat) (hk : k < 8) : splice (idV h k) (4 * k) (bv (four8 (u (h.w k)))) = idV h (k + 1) := by
 unfold idV
 rw [← idL_length h k, lay_behind _ _ _ (by rw [four8_length, idL_length]; omega), idL_succ, four8_length, idL_length]
 congr 3
theorem info_id : (Tryz.prog.info? 75).map (·.size) = some 32 := by kernel_rfl
theorem info_4b : (Tryz.prog.info? 119).map (·.size) = some 4 := by kernel_rfl
theorem fourV_one (a : Int) : (fourV a).all (·.oneCell') = true := by kernel_rfl
theorem four_src {w : World} {g : Nat} {a : Int} (h : At w g (fourV a)) (j : Nat) (v : Value) (hv : (bv (four8 a))[j]? = some v) : w.cell? ((⟨g, 0, none⟩ : Addr).add j) = some v := by
 have hadd : (⟨g, 0, none⟩ : Addr).add j = ⟨g, j, none⟩ := by unfold Addr.add; split <;> simp_all
 rw [hadd, h.cell j, ← hv, bv_four8]
 simp
theorem index8 (h : H8) (k : Nat) (hk : k < 8) (w : World) : (Instr.index 135 (.agg h.vals) (.int .i64 (k : Int))).run Tryz.prog w = .ok (.int .u32 (u (h.w k))) w := by
 obtain ⟨a, b, c, d, e, f, g, z⟩ := h
 rcases (by omega : k = 0 ∨ k = 1 ∨ k = 2 ∨ k = 3 ∨ k = 4 ∨ k = 5 ∨ k = 6 ∨ k = 7) with rfl | rfl | rfl | rfl | rfl | rfl | rfl | rfl
 all_goals kernel_rfl
set_option maxRecDepth 10000 in
theorem idV_zero (h : H8) : (idV h 0).toArray = #[.int .u8 0, .int .u8 0, .int .u8 0, .int .u8 0, .int .u8 0, .int .u8 0, .int .u8 0, .int .u8 0, .int .u8 0, .int .u8 0, .int .u8 0, .int .u8 0, .int .u8 0, .int .u8 0, .int .u8 0, .int .u8 0, .int .u8 0, .int .u8 0, .int .u8 0, .int .u8 0, .int .u8 0, .int .u8 0, .int .u8 0, .int .u8 0, .int .u8 0, .int .u8 0, .int .u8 0, .int .u8 0, .int .u8 0, .int .u8 0, .int .u8 0, .int .u8 0] := by kernel_rfl
theorem at_new3 (w : World) (cs : Array Value) (t : TypeId) (o1 o2 : Obj) : At (((w.alloc o1).alloc o2).alloc (.cells cs t)) (w.heap.size + 1 + 1) cs := by
 have q := At.new2 (w.alloc o1) cs t o2
 have e : (w.alloc o1).heap.size = w.heap.size + 1 := by simp
 rwa [e] at q
theorem fourA (x : BitVec 32) (w : World) : Calls Tryz.prog 151 #[.int .u32 (u x)] w fun e w' => e = .returned (.agg (fourV (u x))) ∧ Below w.heap.size w w' := by
 refine (four (u x) (u_range x) w).mono fun e w' ⟨he, hw⟩ => ⟨he, ?_⟩
 subst hw
 go_grown
set_option maxHeartbeats 1000000 in
set_option maxRecDepth 100000 in
theorem join (h : H8) (w : World) :
   Calls Tryz.prog 131 #[.agg h.vals] w fun e w' => e = .returned (.agg (bv (idL h 8)).toArray) ∧ Below w.heap.size w w' := by
 go_enter Tryz.func131, Tryz.ntmps131
 go_wp2_with (refine wpList_load_at rfl 135 _ rfl _ rfl h.vals _ ?c1 Tryz.underlying135 rfl ?c2 ?_; (case c1 => exact At.alloc (At.old2 _ _ _ _) _); (case c2 => kernel_rfl))
 go_loopw [8] (fun i wr => ∃ k : Nat, k ≤ 8 ∧ i = .int .i64 k ∧ At wr (w.heap.size + 1) (idV h 0).toArray ∧ At wr (w.heap.size + 1 + 1) (idV h k).toArray ∧ Below w.heap.size w wr) (fun i _ => 8 - (intOf i).toNat)
 case atStart => exact ⟨0, Nat.zero_le _, rfl, by rw [idV_zero]; exact At.alloc (At.new2 _ _ _ _) _, by rw [idV_zero]; exact at_new3 _ _ _ _ _, by go_grown⟩
 case round =>
   obtain ⟨k, hk, rfl, A2, A3, kb⟩ := hrel
   by_cases hlt : k < 8
   · have hidx := index8 h k hlt
     go_wp2_with fail
     refine (fourA (h.w k) _).mono ?_
     rintro e w1 ⟨rfl, h1⟩
     have B2 := A2.below h1 A2.lt
     have B3 := A3.below h1 A3.lt
     have kc := kb.trans (h1.mono kb.size)
     clear A2 A3 kb h1 hidx
     go_wp2_with (refine wpList_store_last rfl 119 _ _ rfl _ _ _ 119 rfl _ rfl ?c1 rfl ?c2 ?c3 ?c4 ?_; (case c1 => simp); (case c2 => exact info_4b); (case c3 => rfl); (case c4 => exact fourV_one _))
     have l3 := B3.lt
     refine wp_region_still_tail 4 (by kernel_rfl) (by kernel_rfl) ?_
     simp only [List.take_succ_cons, List.take_zero, List.drop_succ_cons, List.drop_zero]
     change wpStill _ _ (World.drew _) (fun a' => wpList _ _ _ _ a' (World.drew _)) _ _
     obtain ⟨W, hW⟩ : ∃ W : World, W = (w1.alloc (.cells (fourV (u (h.w k))) 119)).drew := ⟨_, rfl⟩
     rw [← hW]
     have C2 : At W (w.heap.size + 1) (idV h 0).toArray := by rw [hW]; exact (B2.alloc _).drew
     have C3 : At W (w.heap.size + 1 + 1) (idV h k).toArray := by rw [hW]; exact (B3.alloc _).drew
     have C6 : At W w1.heap.size (fourV (u (h.w k))) := by rw [hW]; exact (At.new _ _ _).drew
     have kd : Below w.heap.size w W := by rw [hW]; exact below_drew1 (kc.alloc kc.size _)
     clear hW B2 B3 kc
     have m1 : IntKind.i64.wrap (4 * (k : Int)) = 4 * (k : Int) := IntWalk.i64_in _ (by omega)
     have m2 : 0 ≤ 4 * (k : Int) := by omega
     have m3 : (4 * (k : Int)).toNat = 4 * k := by omega
     have m4 : 4 * (k : Int) ≤ 32 := by omega
     have m5 : ¬ 32 = 4 * k := by omega
     repeat still_step
     refine wpStill_nil ?_
     clear m1 m2 m3 m4 m5
     obtain ⟨t3, ht3⟩ := C3
     have HT3 := RotF.aside ht3
     clear ht3
     go_wp2_with (refine wpList_copy_splice rfl _ _ 22 22 rfl 5 Tryz.underlying22 info_u8 _ _ _ _ _ _ rfl rfl (w.heap.size + 1 + 1) (4 * k) (idV h k) t3 ?c1 (bv (four8 (u (h.w k)))) ?c2 ?c3 ?c4 (bv_one _) (w.heap.size + 1 + 1) W ?c5 (Nat.le_refl _) ?_; (case c1 => exact HT3.out); (case c2 => rw [bv_length, four8_length]; exact (Nat.min_eq_left (by omega)).symm); (case c3 => exact fun _ => ⟨rfl, _, rfl, fun j v hj => four_src C6 j v hj⟩); (case c4 => rw [bv_length, four8_length, idV_length _ _ (by omega)]; omega); (case c5 => exact Below.refl _ _); intro w5 HG5 hB5)
     go_roundw
     case rel =>
       refine ⟨k + 1, by omega, by go_num, C2.below hB5 (by omega), ?_, kd.trans (hB5.mono (by omega))⟩
       refine ⟨t3, ?_⟩
       rw [HG5.out, idV_splice _ _ hlt]
     case measure => simp [intOf]; omega
   · have e8 : k = 8 := by omega
     rw [e8] at A3
     clear e8
     go_wp2_with (first | (refine wpList_load_at rfl 75 _ rfl _ rfl _ _ A3 Tryz.underlying75 rfl ?c2 ?_; (case c2 => rw [List.size_toArray, idV_length _ _ (by omega)]; exact info_id)) | (refine wpList_store_at rfl 75 _ _ rfl _ _ rfl rfl _ A2 ?c2 ?c3 ?c4 ?_; (case c2 => rw [List.size_toArray, idV_length _ _ (by omega)]; exact info_id); (case c3 => rw [List.size_toArray, List.size_toArray, idV_length _ _ (by omega), idV_length _ _ (by omega)]); (case c4 => exact idV_one _ _)))
     exact bodyPost_ret (v := .agg (bv (idL h 8)).toArray) (results_at Tryz.results131 _ _ (w.heap.size + 1) _ _ rfl (by have q := A2.row (idV h 8).toArray; simpa [idV] using q) Tryz.underlying75 rfl (by rw [List.size_toArray, bv_length, idL_length]; exact info_id)) rfl ⟨rfl, below_row kb (by omega) _⟩
end Go.Proofs.YtgoapaanmcmlmaaGreatDoor.ShaG
namespace Go.Proofs.YtgoapaanmcmlmaaGreatDoor.ShaH
set_option maxRecDepth 100000
open Go.RowKit RotM RotN RotC RotD ShaM ShaC ShaD ShaE RotG Small PadM ShaF ShaG SumM
def sumL (bs : List Int) : List Int := idL (hsum (padL bs) (nPad bs.length / 64)) 8
theorem sumL_length (bs : List Int) : (sumL bs).length = 32 := idL_length _ _
theorem block_out (h r : H8) (b off cap : Nat) (f : Nat → Int) (hf : ∀ i, B (f i)) (hcap : 64 ≤ cap) (hr : blockS h (wordsOf f) = r) (w : World) (hc : ∀ i, i < 64 → w.cell? ⟨b, off + i, none⟩ = some (.int .u8 (f i))) (hK : KIn w) :
   Calls Tryz.prog 130 #[.agg #[.int .u32 (u h.a), .int .u32 (u h.b), .int .u32 (u h.c), .int .u32 (u h.d), .int .u32 (u h.e), .int .u32 (u h.f), .int .u32 (u h.g), .int .u32 (u h.z)], .slice (some ⟨b, off, none⟩) 64 cap] w
     fun e w' => e = .returned (.tuple #[.agg #[.int .u32 (u r.a), .int .u32 (u r.b), .int .u32 (u r.c), .int .u32 (u r.d), .int .u32 (u r.e), .int .u32 (u r.f), .int .u32 (u r.g), .int .u32 (u r.z)], .bool true]) ∧ Below w.heap.size w w' := by
 subst hr
 exact block_yes h b off cap f hf hcap w hc hK
theorem set8 (r q : H8) : ((((((((r.vals.setIfInBounds 0 (.int .u32 (u q.a))).setIfInBounds 1 (.int .u32 (u q.b))).setIfInBounds 2 (.int .u32 (u q.c))).setIfInBounds 3 (.int .u32 (u q.d))).setIfInBounds 4 (.int .u32 (u q.e))).setIfInBounds 5 (.int .u32 (u q.f))).setIfInBounds 6 (.int .u32 (u q.g))).setIfInBounds 7 (.int .u32 (u q.z))) = q.vals := by kernel_rfl
theorem bv_all (l : List Int) : (bv l).toArray.all (·.oneCell') = true := by
 rw [Array.all_eq_true_iff_forall_mem]
 intro v hv
 exact bv_one _ v (by simpa using hv)
theorem hsum_succ {P : List Int} {k : Nat} {r q : H8} (hr : hsum P k = r) (hq : blockS r (wordsOf (blk P k)) = q) : hsum P (k + 1) = q := by
 subst hr
 exact hq
set_option maxHeartbeats 1000000 in
theorem sumW {w : World} {A : Option Addr} {len cap : Nat} {zs : List Int} (hr : RowIn.RowL .u8 w A len cap zs) (hl : len ≤ 1099511627776) (hK : KIn w) :
   Calls Tryz.prog 103 #[.slice A len cap] w fun e w' => e = .returned (.agg (bv (sumL (zs.take len))).toArray) ∧ Below w.heap.size w w' := by
 obtain ⟨bs, hbs⟩ : ∃ bs, zs.take len = bs := ⟨_, rfl⟩
 have hlen : bs.length = len := by
   have h1 := hr.1
   have h3 := hr.2.2.1
   rw [← hbs]; simp; omega
 have hB : ∀ x ∈ padL bs, B x := by
   refine padL_B (fun x hx => ?_) (by omega)
   rw [← hbs] at hx
   have := hr.2.2.2.1 x (List.mem_of_mem_take hx)
   simpa [B, Lit.wf, IntKind.min, IntKind.max, IntKind.bits, IntKind.signed] using this
 have HB := RotF.aside hB
 have hr1 := hr.below ((Below.refl _ _).alloc (Nat.le_refl _) (.cells (idV startS 0).toArray 75))
 have hp := padW hr1 hl
 rw [hbs] at hp
 rw [hbs]
 have hn1 := nPad_mod len
 have hn2 := nPad_hi len
 have hn3 := padL_length bs
 unfold sumL
 rw [hlen] at hn3
 rw [hlen]
 obtain ⟨P, hP⟩ : ∃ P, padL bs = P := ⟨_, rfl⟩
 obtain ⟨N, hN⟩ : ∃ N, nPad len = N := ⟨_, rfl⟩
 have e0 := idV_zero startS
 rw [e0, hP] at hp
 rw [hP] at hn3 HB
 rw [hN] at hn1 hn2 hn3
 rw [hP, hN]
 have HP := RotF.aside hp
 have HN3 := RotF.aside hn3
 have HN1 := RotF.aside hn1
 clear hB hr hr1 hlen hbs hp e0 hP hN hn3 hn1
 go_enter Tryz.func103, Tryz.ntmps103
 go_wp2_with fail
 refine HP.out.mono ?_
 rintro e w1 ⟨gp, rfl, hg1, Ap, k1⟩
 have A2 : At w1 w.heap.size (idV startS 0).toArray := by rw [idV_zero]; exact (At.new w _ _).below k1 (by simp)
 have hs : w.heap.size < gp := by simp at hg1; omega
 have kb : Below w.heap.size w w1 := Below.trans (by go_grown) (k1.mono (by simp))
 clear HP k1 hg1
 go_wp2_with fail
 refine (ShaC.start _).mono ?_
 rintro e w2 ⟨rfl, h2⟩
 have B2 := A2.below h2 A2.lt
 have Bp := Ap.below h2 Ap.lt
 have kc := kb.trans (h2.mono kb.size)
 clear A2 Ap kb h2
 have lp := Bp.lt
 go_wp2_with (refine wpList_store_last rfl 135 _ _ rfl _ _ _ 135 rfl _ rfl ?c1 rfl ?c2 ?c3 ?c4 ?_; (case c1 => simp); (case c2 => exact info8); (case c3 => rfl); (case c4 => exact one8 _))
 have n1 : w.heap.size ≠ w2.heap.size := by omega
 have n2 : gp ≠ w2.heap.size := by omega
 have n3 : w.heap.size ≤ w2.heap.size := by omega
 go_loopw [5] (fun i wr => ∃ k : Nat, 64 * k ≤ P.length ∧ i = .int .i64 (64 * (k : Int)) ∧ At wr w.heap.size (idV startS 0).toArray ∧ At wr gp (bv P).toArray ∧ At wr w2.heap.size (hsum P k).vals ∧ Below w.heap.size w wr) (fun i _ => P.length - (intOf i).toNat)
 case atStart => exact ⟨0, Nat.zero_le _, rfl, B2.alloc _, Bp.alloc _, At.new _ _ _, kc.alloc kc.size _⟩
 case round =>
   clear B2 Bp kc
   obtain ⟨k, hk, rfl, A2, Ap, A4, kb⟩ := hrel
   by_cases hlt : 64 * k < P.length
   · have hle : 64 * k + 64 ≤ P.length := by have := HN1.out; have := HN3.out; omega
     have hub : P.length ≤ 1099511627848 := by have := HN3.out; omega
     obtain ⟨r, hr⟩ : ∃ r, hsum P k = r := ⟨_, rfl⟩
     obtain ⟨q, hq⟩ : ∃ q, blockS r (wordsOf (blk P k)) = q := ⟨_, rfl⟩
     rw [hr] at A4
     have HR := RotF.aside hr
     have HQ := RotF.aside hq
     clear hr hq
     have c0 : wr.cell? ⟨w2.heap.size, 0, none⟩ = some (.int .u32 (u r.a)) := A4.cell 0
     have c1 : wr.cell? ⟨w2.heap.size, 1, none⟩ = some (.int .u32 (u r.b)) := A4.cell 1
     have c2 : wr.cell? ⟨w2.heap.size, 2, none⟩ = some (.int .u32 (u r.c)) := A4.cell 2
     have c3 : wr.cell? ⟨w2.heap.size, 3, none⟩ = some (.int .u32 (u r.d)) := A4.cell 3
     have c4 : wr.cell? ⟨w2.heap.size, 4, none⟩ = some (.int .u32 (u r.e)) := A4.cell 4
     have c5 : wr.cell? ⟨w2.heap.size, 5, none⟩ = some (.int .u32 (u r.f)) := A4.cell 5
     have c6 : wr.cell? ⟨w2.heap.size, 6, none⟩ = some (.int .u32 (u r.g)) := A4.cell 6
     have c7 : wr.cell? ⟨w2.heap.size, 7, none⟩ = some (.int .u32 (u r.z)) := A4.cell 7
     have m0 : (64 * (k : Int)) < (P.length : Int) := by omega
     have m1 : IntKind.i64.wrap (64 * (k : Int) + 64) = 64 * (k : Int) + 64 := IntWalk.i64_in _ (by omega)
     have m2 : 0 ≤ 64 * (k : Int) := by omega
     have m3 : (64 * (k : Int)).toNat = 64 * k := by omega
     have m4 : (64 * (k : Int) + 64).toNat = 64 * k + 64 := by omega
     have m5 : 64 * (k : Int) + 64 ≤ (P.length : Int) := by omega
     have m6 : 64 * (k : Int) ≤ 64 * (k : Int) + 64 := by omega
     have m7 : ¬ P.length = 64 * k := by omega
     have m8 : 64 * k + 64 - 64 * k = 64 := by omega
     have m9 : 0 ≤ 64 * (k : Int) + 64 := by omega
     go_wp2
     go_region_with ((go_at_call 130; (refine (block_out r q gp (64 * k) (P.length - 64 * k) (blk P k) (blk_B HB.out k) (by omega) HQ.out _ ?_ ?_).mono ?_; (exact fun i hi => blk_at (Ap.drew) k hle i hi); (exact KIn.below hK (below_drew1 kb)); rintro e w3 ⟨rfl, h3⟩; have d0 : w3.cell? ⟨w2.heap.size, 0, none⟩ = some (.int .u32 (u r.a)) := (A4.drew.below h3 A4.drew.lt).cell 0; have z0 := (A4.drew.below h3 A4.drew.lt).frozen 0; have d1 : w3.cell? ⟨w2.heap.size, 1, none⟩ = some (.int .u32 (u r.b)) := (A4.drew.below h3 A4.drew.lt).cell 1; have z1 := (A4.drew.below h3 A4.drew.lt).frozen 1; have d2 : w3.cell? ⟨w2.heap.size, 2, none⟩ = some (.int .u32 (u r.c)) := (A4.drew.below h3 A4.drew.lt).cell 2; have z2 := (A4.drew.below h3 A4.drew.lt).frozen 2; have d3 : w3.cell? ⟨w2.heap.size, 3, none⟩ = some (.int .u32 (u r.d)) := (A4.drew.below h3 A4.drew.lt).cell 3; have z3 := (A4.drew.below h3 A4.drew.lt).frozen 3; have d4 : w3.cell? ⟨w2.heap.size, 4, none⟩ = some (.int .u32 (u r.e)) := (A4.drew.below h3 A4.drew.lt).cell 4; have z4 := (A4.drew.below h3 A4.drew.lt).frozen 4; have d5 : w3.cell? ⟨w2.heap.size, 5, none⟩ = some (.int .u32 (u r.f)) := (A4.drew.below h3 A4.drew.lt).cell 5; have z5 := (A4.drew.below h3 A4.drew.lt).frozen 5; have d6 : w3.cell? ⟨w2.heap.size, 6, none⟩ = some (.int .u32 (u r.g)) := (A4.drew.below h3 A4.drew.lt).cell 6; have z6 := (A4.drew.below h3 A4.drew.lt).frozen 6; have d7 : w3.cell? ⟨w2.heap.size, 7, none⟩ = some (.int .u32 (u r.z)) := (A4.drew.below h3 A4.drew.lt).cell 7; have z7 := (A4.drew.below h3 A4.drew.lt).frozen 7; clear c0 c1 c2 c3 c4 c5 c6 c7)))
     all_goals
       have D2 := A2.drew.below h3 A2.drew.lt
       have Dp := Ap.drew.below h3 Ap.drew.lt
       have D4 := A4.drew.below h3 A4.drew.lt
       have kd : Below w.heap.size w w3 := (below_drew1 kb).trans (h3.mono kb.size)
       clear d0 d1 d2 d3 d4 d5 d6 d7 z0 z1 z2 z3 z4 z5 z6 z7 m1 m3 m4 m8 A2 Ap A4 kb h3
       go_wp2
       go_roundw
       case rel =>
         have S4 := (((((((D4.set 0 (.int .u32 (u q.a))).set 1 (.int .u32 (u q.b))).set 2 (.int .u32 (u q.c))).set 3 (.int .u32 (u q.d))).set 4 (.int .u32 (u q.e))).set 5 (.int .u32 (u q.f))).set 6 (.int .u32 (u q.g))).set 7 (.int .u32 (u q.z))
         rw [set8] at S4
         refine ⟨k + 1, by omega, by go_num, ?_, ?_, by rw [hsum_succ HR.out HQ.out]; exact S4, ?_⟩
         · iterate 8 refine At.set_other ?_ n1 _
           exact D2
         · iterate 8 refine At.set_other ?_ n2 _
           exact Dp
         · iterate 8 refine Below.setCell ?_ n3 _
           exact kd
       case measure => simp [intOf]; omega
   · have eN : k = N / 64 := by have := HN1.out; have := HN3.out; omega
     rw [eN] at A4
     clear eN
     go_wp2_with (first | (refine wpList_load_at rfl 135 _ rfl _ rfl _ _ A4 Tryz.underlying135 rfl ?c2 ?_; (case c2 => exact info8)) | fail)
     refine (join _ _).mono ?_
     rintro e w3 ⟨rfl, h3⟩
     have D2 := A2.below h3 A2.lt
     have kd := kb.trans (h3.mono kb.size)
     clear A2 Ap A4 kb h3
     go_wp2_with (refine wpList_store_at rfl 75 _ _ rfl _ _ rfl rfl _ D2 ?c2 ?c3 ?c4 ?_; (case c2 => rw [List.size_toArray, bv_length, idL_length]; exact info_id); (case c3 => rw [List.size_toArray, List.size_toArray, idV_length _ _ (by omega), bv_length, idL_length]); (case c4 => exact bv_all _))
     exact bodyPost_ret (v := .agg (bv (idL (hsum P (N / 64)) 8)).toArray) (results_at Tryz.results103 _ _ w.heap.size _ _ rfl (D2.row _) Tryz.underlying75 rfl (by rw [List.size_toArray, bv_length, idL_length]; exact info_id)) rfl ⟨rfl, below_row kd (Nat.le_refl _) _⟩
end Go.Proofs.YtgoapaanmcmlmaaGreatDoor.ShaH
namespace Go.Proofs.YtgoapaanmcmlmaaGreatDoor.LogM
set_option maxRecDepth 100000
open EncM
def markL (x : List Int) : List Int := (ShaH.sumL x).take 4
theorem markL_len (x : List Int) : (markL x).length = 4 := by
 unfold markL
 rw [List.length_take, ShaH.sumL_length]
 omega
def frameL (x : List Int) : List Int := numL x.length ++ (x ++ markL x)
theorem frameL_len (x : List Int) : (frameL x).length = (numL x.length).length + x.length + 4 := by
 unfold frameL
 rw [List.length_append, List.length_append, markL_len]
 omega
theorem frameL_pos (x : List Int) : 5 ≤ (frameL x).length := by
 have := frameL_len x
 have := numL_pos x.length
 omega
def firstL (b : List Int) : Option (List Int) :=
 if (getL b).2 = 0 ∨ 4000 < (getL b).1 then none
 else if b.length < (getL b).2 + (getL b).1 + 4 then none
 else if ((b.drop (getL b).2).drop (getL b).1).take 4 = markL ((b.drop (getL b).2).take (getL b).1) then some ((b.drop (getL b).2).take (getL b).1)
 else none
theorem firstL_frame {x : List Int} (hx : x.length ≤ 4000) (r : List Int) : firstL (frameL x ++ r) = some x := by
 have e : frameL x ++ r = numL x.length ++ (x ++ (markL x ++ r)) := by unfold frameL; simp
 have hg : getL (frameL x ++ r) = (x.length, (numL x.length).length) := by rw [e]; exact getL_num _ _ (by omega)
 unfold firstL
 have hp := numL_pos x.length
 have hl := frameL_len x
 rw [hg, if_neg (by omega), if_neg (by rw [List.length_append]; omega)]
 have d1 : (frameL x ++ r).drop (numL x.length).length = x ++ (markL x ++ r) := by rw [e]; exact List.drop_left
 rw [d1, List.drop_left, List.take_left, if_pos]
 rw [← markL_len x]
 exact List.take_left
theorem firstL_some {b x : List Int} (hb : ∀ y ∈ b, 0 ≤ y ∧ y ≤ 255) (h : firstL b = some x) : x.length ≤ 4000 ∧ ∃ r, b = frameL x ++ r := by
 unfold firstL at h
 split at h
 · cases h
 rename_i h1
 split at h
 · cases h
 rename_i h2
 split at h
 · rename_i h3
   obtain ⟨q1, q2, q3, q4, q5⟩ := getL_back hb (N := (getL b).1) (k := (getL b).2) rfl (by omega)
   have hx := Option.some.inj h
   have hlen : x.length = (getL b).1 := by rw [← hx, List.length_take, List.length_drop]; omega
   refine ⟨by omega, ((b.drop (getL b).2).drop (getL b).1).drop 4, ?_⟩
   unfold frameL
   rw [hx] at h3
   rw [hlen, ← q5, ← h3, List.append_assoc, List.append_assoc, List.take_append_drop, ← hx, List.take_append_drop, List.take_append_drop]
 · cases h
theorem firstL_nil : firstL [] = none := by
 unfold firstL
 rw [if_pos (.inl rfl)]
theorem firstL_own {b : List Int} (hb : ∀ y ∈ b, 0 ≤ y ∧ y ≤ 255) {N k : Nat} (hg : getL b = (N, k)) (hk : k ≠ 0) (hN : N ≤ 4000) (hl : k + N + 4 ≤ b.length) {x : List Int} (hx : (b.drop k).take N = x) :
   x.length = N ∧ (frameL x).length = k + N + 4 ∧ firstL b = if frameL x = b.take (k + N + 4) then some x else none := by
 obtain ⟨q1, q2, q3, q4, q5⟩ := getL_back hb hg hk
 have hlen : x.length = N := by rw [← hx, List.length_take, List.length_drop]; omega
 have hnl : (numL N).length = k := by rw [← q5, List.length_take]; omega
 refine ⟨hlen, by rw [frameL_len, hlen, hnl], ?_⟩
 have e : b.take (k + N + 4) = numL N ++ (x ++ ((b.drop k).drop N).take 4) := by
   rw [show k + N + 4 = k + (N + 4) by omega, List.take_add, q5, List.take_add, hx]
 unfold firstL
 rw [hg, if_neg (by simp only []; omega), if_neg (by simp only []; omega)]
 simp only []
 rw [hx, e]
 unfold frameL
 rw [hlen]
 by_cases h : ((b.drop k).drop N).take 4 = markL x
 · rw [if_pos h, h, if_pos rfl]
 · rw [if_neg h, if_neg]
   intro h2
   exact h (List.append_cancel_left (List.append_cancel_left h2)).symm
theorem firstL_len {b x : List Int} (h : firstL b = some x) : 4 ≤ b.length := by
 unfold firstL at h
 split at h
 · cases h
 split at h
 · cases h
 omega
set_option linter.unusedVariables false in
def readL (b : List Int) : List (List Int) × Nat :=
 match h : firstL b with
 | none => ([], 0)
 | some x => (x :: (readL (b.drop (frameL x).length)).1, (frameL x).length + (readL (b.drop (frameL x).length)).2)
termination_by b.length
decreasing_by
 all_goals
   have := firstL_len h
   have := frameL_pos x
   rw [List.length_drop]
   omega
theorem readL_none {b : List Int} (h : firstL b = none) : readL b = ([], 0) := by
 rw [readL]
 split
 · rfl
 · rename_i x hx
   rw [h] at hx
   cases hx
theorem readL_some {b x : List Int} (h : firstL b = some x) : readL b = (x :: (readL (b.drop (frameL x).length)).1, (frameL x).length + (readL (b.drop (frameL x).length)).2) := by
 rw [readL]
 split
 · rename_i hx
   rw [h] at hx
   cases hx
 · rename_i y hy
   rw [h] at hy
   cases hy
   rfl
theorem readL_frame {x : List Int} (hx : x.length ≤ 4000) (r : List Int) : readL (frameL x ++ r) = (x :: (readL r).1, (frameL x).length + (readL r).2) := by
 rw [readL_some (firstL_frame hx r), List.drop_left]
def catL (l : List (List Int)) : List Int := l.flatMap frameL
theorem catL_nil : catL [] = [] := rfl
theorem catL_cons (x : List Int) (l : List (List Int)) : catL (x :: l) = frameL x ++ catL l := rfl
theorem catL_append (a b : List (List Int)) : catL (a ++ b) = catL a ++ catL b := List.flatMap_append
theorem readL_cat {l : List (List Int)} (h : ∀ x ∈ l, x.length ≤ 4000) (r : List Int) : readL (catL l ++ r) = (l ++ (readL r).1, (catL l).length + (readL r).2) := by
 induction l with
 | nil => simp [catL_nil]
 | cons x l ih =>
   rw [catL_cons, List.append_assoc, readL_frame (h x (by simp)), ih (fun y hy => h y (by simp [hy]))]
   simp [Nat.add_assoc]
theorem readL_lies (n : Nat) : ∀ {b : List Int}, b.length ≤ n → (∀ y ∈ b, 0 ≤ y ∧ y ≤ 255) → ∃ r, b = catL (readL b).1 ++ r ∧ (readL b).2 = (catL (readL b).1).length ∧ (∀ x ∈ (readL b).1, x.length ≤ 4000) ∧ firstL r = none := by
 induction n with
 | zero =>
   intro b hn hb
   have e : firstL b = none := by
     cases hf : firstL b with
     | none => rfl
     | some x => have := firstL_len hf; omega
   rw [readL_none e]
   exact ⟨b, by simp [catL], rfl, by simp, e⟩
 | succ n ih =>
   intro b hn hb
   cases hf : firstL b with
   | none =>
     rw [readL_none hf]
     exact ⟨b, by simp [catL], rfl, by simp, hf⟩
   | some x =>
     obtain ⟨hx, r0, e0⟩ := firstL_some hb hf
     have hl := frameL_pos x
     rw [readL_some hf]
     have ed : b.drop (frameL x).length = r0 := by rw [e0]; exact List.drop_left
     have hlen : b.length = (frameL x).length + r0.length := by rw [e0, List.length_append]
     rw [ed]
     obtain ⟨r, h1, h2, h3, h4⟩ := ih (b := r0) (by omega) (fun y hy => hb y (by rw [e0]; exact List.mem_append_right _ hy))
     refine ⟨r, ?_, ?_, ?_, h4⟩
     · show b = catL (x :: (readL r0).1) ++ r
       rw [catL_cons, List.append_assoc, ← h1]
       exact e0
     · show (frameL x).length + (readL r0).2 = (catL (x :: (readL r0).1)).length
       rw [catL_cons, List.length_append, h2]
     · intro y hy
       rcases List.mem_cons.1 hy with rfl | hy
       · exact hx
       · exact h3 y hy
theorem readL_B {b : List Int} (hb : ∀ y ∈ b, 0 ≤ y ∧ y ≤ 255) : ∀ x ∈ (readL b).1, x.length ≤ 4000 ∧ ∀ y ∈ x, 0 ≤ y ∧ y ≤ 255 := by
 obtain ⟨r, h1, h2, h3, _⟩ := readL_lies b.length (Nat.le_refl _) hb
 intro x hx
 refine ⟨h3 x hx, fun y hy => hb y ?_⟩
 rw [h1]
 refine List.mem_append_left _ (List.mem_flatMap.2 ⟨x, hx, ?_⟩)
 unfold frameL
 simp [hy]
theorem firstL_cut {x : List Int} (hx : x.length ≤ 4000) (r : List Int) {k : Nat} (hk : k < (frameL x).length) : firstL ((frameL x ++ r).take k) = none := by
 have e : frameL x ++ r = numL x.length ++ (x ++ (markL x ++ r)) := by unfold frameL; simp
 have hl := frameL_len x
 by_cases h : k < (numL x.length).length
 · have hg : getL ((frameL x ++ r).take k) = (0, 0) := by
     rw [e, List.take_append_of_le_length (by omega)]
     exact getL_cut _ _ (by omega) h
   unfold firstL
   rw [hg, if_pos (.inl rfl)]
 · have hg : getL ((frameL x ++ r).take k) = (x.length, (numL x.length).length) := by
     rw [e, List.take_append, List.take_of_length_le (by omega)]
     exact getL_num _ _ (by omega)
   have hp := numL_pos x.length
   unfold firstL
   rw [hg, if_neg (by omega), if_pos]
   rw [List.length_take]
   omega
theorem readL_cut {l : List (List Int)} (h : ∀ x ∈ l, x.length ≤ 4000) {want at_ : Nat} (hw : want ≤ l.length) (h1 : (catL (l.take want)).length ≤ at_) (h2 : want < l.length → at_ < (catL (l.take (want + 1))).length) :
   readL ((catL l).take at_) = (l.take want, (catL (l.take want)).length) := by
 have e : catL l = catL (l.take want) ++ catL (l.drop want) := by rw [← catL_append, List.take_append_drop]
 have e2 : (catL l).take at_ = catL (l.take want) ++ (catL (l.drop want)).take (at_ - (catL (l.take want)).length) := by
   conv => lhs; rw [e]
   rw [List.take_append, List.take_of_length_le h1]
 have hn : firstL ((catL (l.drop want)).take (at_ - (catL (l.take want)).length)) = none := by
   by_cases hw2 : want < l.length
   · have h2' := h2 hw2
     rw [List.take_succ_eq_append_getElem hw2, catL_append, List.length_append] at h2'
     have e3 : catL [l[want]] = frameL l[want] := by simp [catL]
     rw [e3] at h2'
     rw [List.drop_eq_getElem_cons hw2, catL_cons]
     exact firstL_cut (h _ (List.getElem_mem _)) _ (by omega)
   · rw [List.drop_of_length_le (by omega)]
     rw [catL_nil, List.take_nil]
     exact firstL_nil
 rw [e2, readL_cat (fun x hx => h x (List.mem_of_mem_take hx)), readL_none hn, List.append_nil, Nat.add_zero]
end Go.Proofs.YtgoapaanmcmlmaaGreatDoor.LogM
