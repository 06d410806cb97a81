/- What sha.Pad returns: a contract. | What sha.join returns: a contract. | What sha.Sum returns: a contract. | What the document's answers to Pick, Most, Right and Four of package rot return: contracts. | What the document's answers to Long and Word of package rot return: contracts. | What the document's answers' twist, Constants, Start and words of package sha return: contracts. | What the document's answer's words of package sha returns: a contract. | What the document's answer's Block of package sha returns: contracts. | What the document's answer's Pad of package sha returns: a contract. | The contracts of the document's Four and Long once more, with the bytes named. | What the document's answer's Sum of package sha returns: a contract. | Sums of bytes as ids: what the project's Sum, and the document's, return. No condition. | What the laws on commits ask for: few parents, and short texts: a contract. | What functions on commits answer, in one form for both ways. No condition. | What the project's Get of package commit returns: a contract. -/
import Derived.Test.YtgmdhaepiclkcaaGreatDoorSmallJ8
import Derived.IntWalk
import Derived.Test.YtgmdhaepiclkcaaGreatDoorOpsGJ6
import Derived.Deep.RegionWith
import Derived.Test.YtgmdhaepiclkcaaGreatDoorRotMJ7
import Derived.BigRegion
import Derived.Laws.AppendOwn
import Derived.Laws.AppendOwnNone
import Derived.OwnWalk
import Derived.Test.YtgmdhaepiclkcaaGreatDoorIdWJ3
import Derived.Test.YtgmdhaepiclkcaaGreatDoorCmRJ6
import Derived.Defers
import Derived.Recover
namespace Go.Proofs.YtgmdhaepiclkcaaGreatDoor.ShaF
set_option maxRecDepth 100000
open Go.RowKit RotM RotN RotC RotD ShaM ShaC RotG Small PadM
theorem info_u8 : (Tryz.prog.info? 5).map (·.size) = some 1 := by kernel_rfl
theorem zero_u8 : (Tryz.prog.info? 5).map (fun i => (i.zero, i.size, i.bytes)) = some (some (.int .u8 0), 1, 1) := by kernel_rfl
theorem info_8b : (Tryz.prog.info? 189).map (·.size) = some 8 := by kernel_rfl
theorem longV_one (a : Int) : (longV a).all (·.oneCell') = true := by kernel_rfl
def Fresh (l : List Int) (w : World) (e : Ending) (w' : World) : Prop :=
 ∃ g, e = .returned (.slice (some ⟨g, 0, none⟩) l.length l.length) ∧ w.heap.size ≤ g ∧ At w' g (bv l).toArray ∧ Below w.heap.size w w'
theorem src_at {w : World} {A : Option Addr} {len cap : Nat} {zs : List Int} (h : RowIn.RowL .u8 w A len cap zs) : 0 < (bv (zs.take len)).length → ∃ ad, A = some ad ∧ ∀ j v, (bv (zs.take len))[j]? = some v → w.cell? (ad.add j) = some v := by
 intro hp
 obtain ⟨h1, h2, h3, h4, h5⟩ := h
 rcases h5 with ⟨_, h0, _⟩ | ⟨x, rfl, hc⟩
 · simp [bv, h0] at hp
 · refine ⟨x, rfl, fun j v hv => ?_⟩
   have hj : j < (zs.take len).length := by
     have := (List.getElem?_eq_some_iff.1 hv).1
     simpa [bv] using this
   have hj2 : j < len ∧ j < zs.length := by simp at hj; omega
   rw [bv_at _ hj] at hv
   rw [hc j hj2.2, ← hv]
   congr 2
   rw [List.getD_eq_getElem?_getD, List.getD_eq_getElem?_getD, List.getElem?_take, if_pos hj2.1]
theorem long_src {w : World} {g : Nat} {a : Int} (h : At w g (longV a)) (j : Nat) (v : Value) (hv : (bv (long8 a))[j]? = some v) : w.cell? ((⟨g, 0, none⟩ : Addr).add j) = some v := by
 have hadd : (⟨g, 0, none⟩ : Addr).add j = ⟨g, j, none⟩ := by unfold Addr.add; split <;> simp_all
 rw [hadd, h.cell j, ← hv, bv_long8]
 simp
set_option maxHeartbeats 1000000 in
theorem padW {w : World} {A : Option Addr} {len cap : Nat} {zs : List Int} (hr : RowIn.RowL .u8 w A len cap zs) (hl : len ≤ 1099511627776) :
   Calls Tryz.prog 125 #[.slice A len cap] w (Fresh (padL (zs.take len)) w) := by
 obtain ⟨bs, hbs⟩ : ∃ bs, zs.take len = bs := ⟨_, rfl⟩
 have hlen : bs.length = len := by
   have h1 := hr.1
   have h3 := hr.2.2.1
   rw [← hbs]; simp; omega
 have hsrc := src_at (hr.below ((Below.refl _ _).alloc (Nat.le_refl _) (.cells (List.replicate (nPad len) (.int .u8 0)).toArray 5)))
 rw [hbs] at hsrc
 rw [hbs]
 have hn1 := nPad_lo len
 have hn2 := nPad_hi len
 have hN : ((len : Int) + 9 + 64 - 1) / 64 * 64 = (nPad len : Nat) := by unfold nPad; omega
 have HN := RotF.aside hN
 have HL := RotF.aside hlen
 have HS := RotF.aside hsrc
 clear hN hbs hlen hsrc
 obtain ⟨N, hNN⟩ : ∃ N, nPad len = N := ⟨_, rfl⟩
 have HNN := RotF.aside hNN
 rw [hNN] at hn1 hn2 HN HS
 clear hNN
 go_enter Tryz.func125, Tryz.ntmps125
 go_wp2_with (first | (refine wpList_make_at rfl 114 _ _ rfl 5 (.int .u8 0) Tryz.underlying114 zero_u8 rfl _ rfl rfl N ?c1 ?c2 ?_; (case c1 => exact HN.out); (case c2 => omega)) | (refine wpList_copy_splice rfl _ _ 114 114 rfl 5 Tryz.underlying114 info_u8 _ _ _ _ _ _ rfl rfl w.heap.size 0 (List.replicate N (.int .u8 0)) 5 ?c1 (bv bs) ?c2 ?c3 ?c4 (bv_one bs) w.heap.size w ?c5 (Nat.le_refl _) ?_; (case c1 => exact heap_alloc_new _ _); (case c2 => rw [bv_length, HL.out]; exact (Nat.min_eq_left (by omega)).symm); (case c3 => exact fun hp => ⟨rfl, HS.out hp⟩); (case c4 => rw [bv_length, HL.out]; simp; omega); (case c5 => exact (Below.refl _ _).alloc (Nat.le_refl _) _); intro w2 HG2 hB2; have A2 : At w2 w.heap.size (bv (bs ++ List.replicate (N - bs.length) 0)).toArray := (⟨_, by rw [← lay1]; exact HG2.out⟩ : At _ _ _); clear HG2; have z2 := A2.frozen len; have c2 : w2.cell? ⟨w.heap.size, len, none⟩ = some (.int .u8 0) := (A2.cell len).trans (by rw [← HL.out]; exact lay1_at _ _ (by have := HL.out; omega))))
 refine (long _ ?_ _).mono ?_
 · omega
 rintro e w3 ⟨rfl, h3⟩
 have A3 : At w3 w.heap.size (bv (bs ++ (128 :: List.replicate (N - len - 1) 0))).toArray := by
   have q := A2.set len (.int .u8 128)
   rw [← HL.out, lay2 _ _ (by have := HL.out; omega), HL.out] at q
   exact q.below h3 q.lt
 have hB3 : Below w.heap.size w w3 := (hB2.setCell (by simp) _).trans (h3.mono (by have := hB2.size; simpa using this))
 clear A2 z2 c2 hB2 h3
 go_wp2_with (refine wpList_store_last rfl 189 _ _ rfl _ _ _ 189 rfl _ rfl ?c1 rfl ?c2 ?c3 ?c4 ?_; (case c1 => simp); (case c2 => exact info_8b); (case c3 => rfl); (case c4 => exact longV_one _))
 have l3 := A3.lt
 refine wp_region_still_tail 6 (by kernel_rfl) (by kernel_rfl) ?_
 simp only [List.take_succ_cons, List.take_zero, List.drop_succ_cons, List.drop_zero]
 change wpStill _ _ (World.drew _) (fun a' => wpList _ _ _ _ a' (World.drew _)) _ _
 obtain ⟨W, hW⟩ : ∃ W : World, W = (w3.alloc (.cells (longV (8 * (len : Int))) 189)).drew := ⟨_, rfl⟩
 rw [← hW]
 have C4 : At W w.heap.size (bv (bs ++ (128 :: List.replicate (N - len - 1) 0))).toArray := by rw [hW]; exact (A3.alloc _).drew
 have C5 : At W w3.heap.size (longV (8 * (len : Int))) := by rw [hW]; exact (At.new _ _ _).drew
 have hBW : Below w.heap.size w W := by rw [hW]; exact below_drew1 (hB3.alloc hB3.size _)
 clear hW A3 hB3
 have m1 : IntKind.i64.wrap ((N : Int) - 8) = (N : Int) - 8 := IntWalk.i64_in _ (by omega)
 have m2 : 0 ≤ (N : Int) - 8 := by omega
 have m3 : ((N : Int) - 8).toNat = N - 8 := by omega
 have m4 : (N : Int) - 8 ≤ (N : Int) := by omega
 have m5 : ¬ N = N - 8 := by omega
 have m6 : ¬ N - 8 = N := by omega
 have m7 : (8 : Int) ≤ (N : Int) := by omega
 have m8 : N - (N - 8) = 8 := by omega
 repeat still_step
 refine wpStill_nil ?_
 clear m1 m2 m3 m4 m5 m6 m7 m8
 obtain ⟨t4, ht4⟩ := C4
 have HT4 := RotF.aside ht4
 clear ht4
 go_wp2_with (refine wpList_copy_splice rfl _ _ 114 114 rfl 5 Tryz.underlying114 info_u8 _ _ _ _ _ _ rfl rfl w.heap.size (N - 8) (bv (bs ++ (128 :: List.replicate (N - len - 1) 0))) t4 ?c1 (bv (long8 (8 * (len : Int)))) ?c2 ?c3 ?c4 (bv_one _) w.heap.size w ?c5 (Nat.le_refl _) ?_; (case c1 => exact HT4.out); (case c2 => rfl); (case c3 => exact fun _ => ⟨rfl, _, rfl, fun j v hj => long_src C5 j v hj⟩); (case c4 => rw [bv_length, bv_length, long8_length]; simp; have := HL.out; omega); (case c5 => exact hBW); intro w5 HG5 hB5)
 have hlen := HL.out
 have hN8 : N - 8 = bs.length + 1 + (N - len - 1) - 8 := by omega
 have A5 : At w5 w.heap.size (bv (padL bs)).toArray := by
   refine ⟨t4, ?_⟩
   rw [HG5.out, hN8, lay3 bs _ _ (long8_length _) (by omega)]
   unfold padL
   rw [hlen, HNN.out, show N - len - 1 - 8 = N - len - 9 by omega]
 clear HG5 hN8 HT4 C5 hBW HS
 go_ret
 refine ⟨w.heap.size, ?_, Nat.le_refl _, A5, hB5⟩
 rw [padL_length, hlen, HNN.out]
 rfl
end Go.Proofs.YtgmdhaepiclkcaaGreatDoor.ShaF
namespace Go.Proofs.YtgmdhaepiclkcaaGreatDoor.ShaG
set_option maxRecDepth 100000
open Go.RowKit RotM RotN RotC RotD ShaM ShaC RotG Small PadM ShaF
def idL (h : H8) (k : Nat) : List Int := (List.range k).flatMap fun i => four8 (u (h.w i))
theorem idL_succ (h : H8) (k : Nat) : idL h (k + 1) = idL h k ++ four8 (u (h.w k)) := by simp [idL, List.range_succ]
theorem idL_length (h : H8) (k : Nat) : (idL h k).length = 4 * k := by
 induction k with
 | zero => rfl
 | succ k ih => rw [idL_succ, List.length_append, ih, four8_length]; omega
def idV (h : H8) (k : Nat) : List Value := bv (idL h k ++ List.replicate (32 - 4 * k) 0)
theorem idV_length (h : H8) (k : Nat) (hk : k ≤ 8) : (idV h k).length = 32 := by
 simp [idV, bv_length, idL_length]; omega
theorem idV_one (h : H8) (k : Nat) : (idV h k).toArray.all (·.oneCell') = true := by
 rw [Array.all_eq_true_iff_forall_mem]
 intro v hv
 exact bv_one _ v (by simpa [idV] using hv)
theorem idV_splice (h : H8) (k : Nat) (hk : k < 8) : splice (idV h k) (4 * k) (bv (four8 (u (h.w k)))) = idV h (k + 1) := by
 unfold idV
 rw [← idL_length h k, lay_behind _ _ _ (by rw [four8_length, idL_length]; omega), idL_succ, four8_length, idL_length]
 congr 3
theorem info_id : (Tryz.prog.info? 56).map (·.size) = some 32 := by kernel_rfl
theorem info_4b : (Tryz.prog.info? 194).map (·.size) = some 4 := by kernel_rfl
theorem fourV_one (a : Int) : (fourV a).all (·.oneCell') = true := by kernel_rfl
theorem four_src {w : World} {g : Nat} {a : Int} (h : At w g (fourV a)) (j : Nat) (v : Value) (hv : (bv (four8 a))[j]? = some v) : w.cell? ((⟨g, 0, none⟩ : Addr).add j) = some v := by
 have hadd : (⟨g, 0, none⟩ : Addr).add j = ⟨g, j, none⟩ := by unfold Addr.add; split <;> simp_all
 rw [hadd, h.cell j, ← hv, bv_four8]
 simp
theorem index8 (h : H8) (k : Nat) (hk : k < 8) (w : World) : (Instr.index 162 (.agg h.vals) (.int .i64 (k : Int))).run Tryz.prog w = .ok (.int .u32 (u (h.w k))) w := by
 obtain ⟨a, b, c, d, e, f, g, z⟩ := h
 rcases (by omega : k = 0 ∨ k = 1 ∨ k = 2 ∨ k = 3 ∨ k = 4 ∨ k = 5 ∨ k = 6 ∨ k = 7) with rfl | rfl | rfl | rfl | rfl | rfl | rfl | rfl
 all_goals kernel_rfl
set_option maxRecDepth 10000 in
theorem idV_zero (h : H8) : (idV h 0).toArray = #[.int .u8 0, .int .u8 0, .int .u8 0, .int .u8 0, .int .u8 0, .int .u8 0, .int .u8 0, .int .u8 0, .int .u8 0, .int .u8 0, .int .u8 0, .int .u8 0, .int .u8 0, .int .u8 0, .int .u8 0, .int .u8 0, .int .u8 0, .int .u8 0, .int .u8 0, .int .u8 0, .int .u8 0, .int .u8 0, .int .u8 0, .int .u8 0, .int .u8 0, .int .u8 0, .int .u8 0, .int .u8 0, .int .u8 0, .int .u8 0, .int .u8 0, .int .u8 0] := by kernel_rfl
theorem at_new3 (w : World) (cs : Array Value) (t : TypeId) (o1 o2 : Obj) : At (((w.alloc o1).alloc o2).alloc (.cells cs t)) (w.heap.size + 1 + 1) cs := by
 have q := At.new2 (w.alloc o1) cs t o2
 have e : (w.alloc o1).heap.size = w.heap.size + 1 := by simp
 rwa [e] at q
theorem fourA (x : BitVec 32) (w : World) : Calls Tryz.prog 159 #[.int .u32 (u x)] w fun e w' => e = .returned (.agg (fourV (u x))) ∧ Below w.heap.size w w' := by
 refine (four (u x) (u_range x) w).mono fun e w' ⟨he, hw⟩ => ⟨he, ?_⟩
 subst hw
 go_grown
set_option maxHeartbeats 1000000 in
set_option maxRecDepth 100000 in
theorem join (h : H8) (w : World) :
   Calls Tryz.prog 128 #[.agg h.vals] w fun e w' => e = .returned (.agg (bv (idL h 8)).toArray) ∧ Below w.heap.size w w' := by
 go_enter Tryz.func128, Tryz.ntmps128
 go_wp2_with (refine wpList_load_at rfl 162 _ rfl _ rfl h.vals _ ?c1 Tryz.underlying162 rfl ?c2 ?_; (case c1 => exact At.alloc (At.old2 _ _ _ _) _); (case c2 => kernel_rfl))
 go_loopw [8] (fun i wr => ∃ k : Nat, k ≤ 8 ∧ i = .int .i64 k ∧ At wr (w.heap.size + 1) (idV h 0).toArray ∧ At wr (w.heap.size + 1 + 1) (idV h k).toArray ∧ Below w.heap.size w wr) (fun i _ => 8 - (intOf i).toNat)
 case atStart => exact ⟨0, Nat.zero_le _, rfl, by rw [idV_zero]; exact At.alloc (At.new2 _ _ _ _) _, by rw [idV_zero]; exact at_new3 _ _ _ _ _, by go_grown⟩
 case round =>
   obtain ⟨k, hk, rfl, A2, A3, kb⟩ := hrel
   by_cases hlt : k < 8
   · have hidx := index8 h k hlt
     go_wp2_with fail
     refine (fourA (h.w k) _).mono ?_
     rintro e w1 ⟨rfl, h1⟩
     have B2 := A2.below h1 A2.lt
     have B3 := A3.below h1 A3.lt
     have kc := kb.trans (h1.mono kb.size)
     clear A2 A3 kb h1 hidx
     go_wp2_with (refine wpList_store_last rfl 194 _ _ rfl _ _ _ 194 rfl _ rfl ?c1 rfl ?c2 ?c3 ?c4 ?_; (case c1 => simp); (case c2 => exact info_4b); (case c3 => rfl); (case c4 => exact fourV_one _))
     have l3 := B3.lt
     refine wp_region_still_tail 4 (by kernel_rfl) (by kernel_rfl) ?_
     simp only [List.take_succ_cons, List.take_zero, List.drop_succ_cons, List.drop_zero]
     change wpStill _ _ (World.drew _) (fun a' => wpList _ _ _ _ a' (World.drew _)) _ _
     obtain ⟨W, hW⟩ : ∃ W : World, W = (w1.alloc (.cells (fourV (u (h.w k))) 194)).drew := ⟨_, rfl⟩
     rw [← hW]
     have C2 : At W (w.heap.size + 1) (idV h 0).toArray := by rw [hW]; exact (B2.alloc _).drew
     have C3 : At W (w.heap.size + 1 + 1) (idV h k).toArray := by rw [hW]; exact (B3.alloc _).drew
     have C6 : At W w1.heap.size (fourV (u (h.w k))) := by rw [hW]; exact (At.new _ _ _).drew
     have kd : Below w.heap.size w W := by rw [hW]; exact below_drew1 (kc.alloc kc.size _)
     clear hW B2 B3 kc
     have m1 : IntKind.i64.wrap (4 * (k : Int)) = 4 * (k : Int) := IntWalk.i64_in _ (by omega)
     have m2 : 0 ≤ 4 * (k : Int) := by omega
     have m3 : (4 * (k : Int)).toNat = 4 * k := by omega
     have m4 : 4 * (k : Int) ≤ 32 := by omega
     have m5 : ¬ 32 = 4 * k := by omega
     repeat still_step
     refine wpStill_nil ?_
     clear m1 m2 m3 m4 m5
     obtain ⟨t3, ht3⟩ := C3
     have HT3 := RotF.aside ht3
     clear ht3
     go_wp2_with (refine wpList_copy_splice rfl _ _ 114 114 rfl 5 Tryz.underlying114 info_u8 _ _ _ _ _ _ rfl rfl (w.heap.size + 1 + 1) (4 * k) (idV h k) t3 ?c1 (bv (four8 (u (h.w k)))) ?c2 ?c3 ?c4 (bv_one _) (w.heap.size + 1 + 1) W ?c5 (Nat.le_refl _) ?_; (case c1 => exact HT3.out); (case c2 => rw [bv_length, four8_length]; exact (Nat.min_eq_left (by omega)).symm); (case c3 => exact fun _ => ⟨rfl, _, rfl, fun j v hj => four_src C6 j v hj⟩); (case c4 => rw [bv_length, four8_length, idV_length _ _ (by omega)]; omega); (case c5 => exact Below.refl _ _); intro w5 HG5 hB5)
     go_roundw
     case rel =>
       refine ⟨k + 1, by omega, by go_num, C2.below hB5 (by omega), ?_, kd.trans (hB5.mono (by omega))⟩
       refine ⟨t3, ?_⟩
       rw [HG5.out, idV_splice _ _ hlt]
     case measure => simp [intOf]; omega
   · have e8 : k = 8 := by omega
     rw [e8] at A3
     clear e8
     go_wp2_with (first | (refine wpList_load_at rfl 56 _ rfl _ rfl _ _ A3 Tryz.underlying56 rfl ?c2 ?_; (case c2 => rw [List.size_toArray, idV_length _ _ (by omega)]; exact info_id)) | (refine wpList_store_at rfl 56 _ _ rfl _ _ rfl rfl _ A2 ?c2 ?c3 ?c4 ?_; (case c2 => rw [List.size_toArray, idV_length _ _ (by omega)]; exact info_id); (case c3 => rw [List.size_toArray, List.size_toArray, idV_length _ _ (by omega), idV_length _ _ (by omega)]); (case c4 => exact idV_one _ _)))
     exact bodyPost_ret (v := .agg (bv (idL h 8)).toArray) (results_at Tryz.results128 _ _ (w.heap.size + 1) _ _ rfl (by have q := A2.row (idV h 8).toArray; simpa [idV] using q) Tryz.underlying56 rfl (by rw [List.size_toArray, bv_length, idL_length]; exact info_id)) rfl ⟨rfl, below_row kb (by omega) _⟩
end Go.Proofs.YtgmdhaepiclkcaaGreatDoor.ShaG
namespace Go.Proofs.YtgmdhaepiclkcaaGreatDoor.ShaH
set_option maxRecDepth 100000
open Go.RowKit RotM RotN RotC RotD ShaM ShaC ShaD ShaE RotG Small PadM ShaF ShaG SumM
def sumL (bs : List Int) : List Int := idL (hsum (padL bs) (nPad bs.length / 64)) 8
theorem sumL_length (bs : List Int) : (sumL bs).length = 32 := idL_length _ _
theorem block_out (h r : H8) (b off cap : Nat) (f : Nat → Int) (hf : ∀ i, B (f i)) (hcap : 64 ≤ cap) (hr : blockS h (wordsOf f) = r) (w : World) (hc : ∀ i, i < 64 → w.cell? ⟨b, off + i, none⟩ = some (.int .u8 (f i))) (hK : KIn w) :
   Calls Tryz.prog 127 #[.agg #[.int .u32 (u h.a), .int .u32 (u h.b), .int .u32 (u h.c), .int .u32 (u h.d), .int .u32 (u h.e), .int .u32 (u h.f), .int .u32 (u h.g), .int .u32 (u h.z)], .slice (some ⟨b, off, none⟩) 64 cap] w
     fun e w' => e = .returned (.tuple #[.agg #[.int .u32 (u r.a), .int .u32 (u r.b), .int .u32 (u r.c), .int .u32 (u r.d), .int .u32 (u r.e), .int .u32 (u r.f), .int .u32 (u r.g), .int .u32 (u r.z)], .bool true]) ∧ Below w.heap.size w w' := by
 subst hr
 exact block_yes h b off cap f hf hcap w hc hK
theorem set8 (r q : H8) : ((((((((r.vals.setIfInBounds 0 (.int .u32 (u q.a))).setIfInBounds 1 (.int .u32 (u q.b))).setIfInBounds 2 (.int .u32 (u q.c))).setIfInBounds 3 (.int .u32 (u q.d))).setIfInBounds 4 (.int .u32 (u q.e))).setIfInBounds 5 (.int .u32 (u q.f))).setIfInBounds 6 (.int .u32 (u q.g))).setIfInBounds 7 (.int .u32 (u q.z))) = q.vals := by kernel_rfl
theorem bv_all (l : List Int) : (bv l).toArray.all (·.oneCell') = true := by
 rw [Array.all_eq_true_iff_forall_mem]
 intro v hv
 exact bv_one _ v (by simpa using hv)
theorem hsum_succ {P : List Int} {k : Nat} {r q : H8} (hr : hsum P k = r) (hq : blockS r (wordsOf (blk P k)) = q) : hsum P (k + 1) = q := by
 subst hr
 exact hq
set_option maxHeartbeats 1000000 in
theorem sumW {w : World} {A : Option Addr} {len cap : Nat} {zs : List Int} (hr : RowIn.RowL .u8 w A len cap zs) (hl : len ≤ 1099511627776) (hK : KIn w) :
   Calls Tryz.prog 72 #[.slice A len cap] w fun e w' => e = .returned (.agg (bv (sumL (zs.take len))).toArray) ∧ Below w.heap.size w w' := by
 obtain ⟨bs, hbs⟩ : ∃ bs, zs.take len = bs := ⟨_, rfl⟩
 have hlen : bs.length = len := by
   have h1 := hr.1
   have h3 := hr.2.2.1
   rw [← hbs]; simp; omega
 have hB : ∀ x ∈ padL bs, B x := by
   refine padL_B (fun x hx => ?_) (by omega)
   rw [← hbs] at hx
   have := hr.2.2.2.1 x (List.mem_of_mem_take hx)
   simpa [B, Lit.wf, IntKind.min, IntKind.max, IntKind.bits, IntKind.signed] using this
 have HB := RotF.aside hB
 have hr1 := hr.below ((Below.refl _ _).alloc (Nat.le_refl _) (.cells (idV startS 0).toArray 56))
 have hp := padW hr1 hl
 rw [hbs] at hp
 rw [hbs]
 have hn1 := nPad_mod len
 have hn2 := nPad_hi len
 have hn3 := padL_length bs
 unfold sumL
 rw [hlen] at hn3
 rw [hlen]
 obtain ⟨P, hP⟩ : ∃ P, padL bs = P := ⟨_, rfl⟩
 obtain ⟨N, hN⟩ : ∃ N, nPad len = N := ⟨_, rfl⟩
 have e0 := idV_zero startS
 rw [e0, hP] at hp
 rw [hP] at hn3 HB
 rw [hN] at hn1 hn2 hn3
 rw [hP, hN]
 have HP := RotF.aside hp
 have HN3 := RotF.aside hn3
 have HN1 := RotF.aside hn1
 clear hB hr hr1 hlen hbs hp e0 hP hN hn3 hn1
 go_enter Tryz.func72, Tryz.ntmps72
 go_wp2_with fail
 refine HP.out.mono ?_
 rintro e w1 ⟨gp, rfl, hg1, Ap, k1⟩
 have A2 : At w1 w.heap.size (idV startS 0).toArray := by rw [idV_zero]; exact (At.new w _ _).below k1 (by simp)
 have hs : w.heap.size < gp := by simp at hg1; omega
 have kb : Below w.heap.size w w1 := Below.trans (by go_grown) (k1.mono (by simp))
 clear HP k1 hg1
 go_wp2_with fail
 refine (ShaC.start _).mono ?_
 rintro e w2 ⟨rfl, h2⟩
 have B2 := A2.below h2 A2.lt
 have Bp := Ap.below h2 Ap.lt
 have kc := kb.trans (h2.mono kb.size)
 clear A2 Ap kb h2
 have lp := Bp.lt
 go_wp2_with (refine wpList_store_last rfl 162 _ _ rfl _ _ _ 162 rfl _ rfl ?c1 rfl ?c2 ?c3 ?c4 ?_; (case c1 => simp); (case c2 => exact info8); (case c3 => rfl); (case c4 => exact one8 _))
 have n1 : w.heap.size ≠ w2.heap.size := by omega
 have n2 : gp ≠ w2.heap.size := by omega
 have n3 : w.heap.size ≤ w2.heap.size := by omega
 go_loopw [5] (fun i wr => ∃ k : Nat, 64 * k ≤ P.length ∧ i = .int .i64 (64 * (k : Int)) ∧ At wr w.heap.size (idV startS 0).toArray ∧ At wr gp (bv P).toArray ∧ At wr w2.heap.size (hsum P k).vals ∧ Below w.heap.size w wr) (fun i _ => P.length - (intOf i).toNat)
 case atStart => exact ⟨0, Nat.zero_le _, rfl, B2.alloc _, Bp.alloc _, At.new _ _ _, kc.alloc kc.size _⟩
 case round =>
   clear B2 Bp kc
   obtain ⟨k, hk, rfl, A2, Ap, A4, kb⟩ := hrel
   by_cases hlt : 64 * k < P.length
   · have hle : 64 * k + 64 ≤ P.length := by have := HN1.out; have := HN3.out; omega
     have hub : P.length ≤ 1099511627848 := by have := HN3.out; omega
     obtain ⟨r, hr⟩ : ∃ r, hsum P k = r := ⟨_, rfl⟩
     obtain ⟨q, hq⟩ : ∃ q, blockS r (wordsOf (blk P k)) = q := ⟨_, rfl⟩
     rw [hr] at A4
     have HR := RotF.aside hr
     have HQ := RotF.aside hq
     clear hr hq
     have c0 : wr.cell? ⟨w2.heap.size, 0, none⟩ = some (.int .u32 (u r.a)) := A4.cell 0
     have c1 : wr.cell? ⟨w2.heap.size, 1, none⟩ = some (.int .u32 (u r.b)) := A4.cell 1
     have c2 : wr.cell? ⟨w2.heap.size, 2, none⟩ = some (.int .u32 (u r.c)) := A4.cell 2
     have c3 : wr.cell? ⟨w2.heap.size, 3, none⟩ = some (.int .u32 (u r.d)) := A4.cell 3
     have c4 : wr.cell? ⟨w2.heap.size, 4, none⟩ = some (.int .u32 (u r.e)) := A4.cell 4
     have c5 : wr.cell? ⟨w2.heap.size, 5, none⟩ = some (.int .u32 (u r.f)) := A4.cell 5
     have c6 : wr.cell? ⟨w2.heap.size, 6, none⟩ = some (.int .u32 (u r.g)) := A4.cell 6
     have c7 : wr.cell? ⟨w2.heap.size, 7, none⟩ = some (.int .u32 (u r.z)) := A4.cell 7
     have m0 : (64 * (k : Int)) < (P.length : Int) := by omega
     have m1 : IntKind.i64.wrap (64 * (k : Int) + 64) = 64 * (k : Int) + 64 := IntWalk.i64_in _ (by omega)
     have m2 : 0 ≤ 64 * (k : Int) := by omega
     have m3 : (64 * (k : Int)).toNat = 64 * k := by omega
     have m4 : (64 * (k : Int) + 64).toNat = 64 * k + 64 := by omega
     have m5 : 64 * (k : Int) + 64 ≤ (P.length : Int) := by omega
     have m6 : 64 * (k : Int) ≤ 64 * (k : Int) + 64 := by omega
     have m7 : ¬ P.length = 64 * k := by omega
     have m8 : 64 * k + 64 - 64 * k = 64 := by omega
     have m9 : 0 ≤ 64 * (k : Int) + 64 := by omega
     go_wp2
     go_region_with ((go_at_call 127; (refine (block_out r q gp (64 * k) (P.length - 64 * k) (blk P k) (blk_B HB.out k) (by omega) HQ.out _ ?_ ?_).mono ?_; (exact fun i hi => blk_at (Ap.drew) k hle i hi); (exact KIn.below hK (below_drew1 kb)); rintro e w3 ⟨rfl, h3⟩; have d0 : w3.cell? ⟨w2.heap.size, 0, none⟩ = some (.int .u32 (u r.a)) := (A4.drew.below h3 A4.drew.lt).cell 0; have z0 := (A4.drew.below h3 A4.drew.lt).frozen 0; have d1 : w3.cell? ⟨w2.heap.size, 1, none⟩ = some (.int .u32 (u r.b)) := (A4.drew.below h3 A4.drew.lt).cell 1; have z1 := (A4.drew.below h3 A4.drew.lt).frozen 1; have d2 : w3.cell? ⟨w2.heap.size, 2, none⟩ = some (.int .u32 (u r.c)) := (A4.drew.below h3 A4.drew.lt).cell 2; have z2 := (A4.drew.below h3 A4.drew.lt).frozen 2; have d3 : w3.cell? ⟨w2.heap.size, 3, none⟩ = some (.int .u32 (u r.d)) := (A4.drew.below h3 A4.drew.lt).cell 3; have z3 := (A4.drew.below h3 A4.drew.lt).frozen 3; have d4 : w3.cell? ⟨w2.heap.size, 4, none⟩ = some (.int .u32 (u r.e)) := (A4.drew.below h3 A4.drew.lt).cell 4; have z4 := (A4.drew.below h3 A4.drew.lt).frozen 4; have d5 : w3.cell? ⟨w2.heap.size, 5, none⟩ = some (.int .u32 (u r.f)) := (A4.drew.below h3 A4.drew.lt).cell 5; have z5 := (A4.drew.below h3 A4.drew.lt).frozen 5; have d6 : w3.cell? ⟨w2.heap.size, 6, none⟩ = some (.int .u32 (u r.g)) := (A4.drew.below h3 A4.drew.lt).cell 6; have z6 := (A4.drew.below h3 A4.drew.lt).frozen 6; have d7 : w3.cell? ⟨w2.heap.size, 7, none⟩ = some (.int .u32 (u r.z)) := (A4.drew.below h3 A4.drew.lt).cell 7; have z7 := (A4.drew.below h3 A4.drew.lt).frozen 7; clear c0 c1 c2 c3 c4 c5 c6 c7)))
     all_goals
       have D2 := A2.drew.below h3 A2.drew.lt
       have Dp := Ap.drew.below h3 Ap.drew.lt
       have D4 := A4.drew.below h3 A4.drew.lt
       have kd : Below w.heap.size w w3 := (below_drew1 kb).trans (h3.mono kb.size)
       clear d0 d1 d2 d3 d4 d5 d6 d7 z0 z1 z2 z3 z4 z5 z6 z7 m1 m3 m4 m8 A2 Ap A4 kb h3
       go_wp2
       go_roundw
       case rel =>
         have S4 := (((((((D4.set 0 (.int .u32 (u q.a))).set 1 (.int .u32 (u q.b))).set 2 (.int .u32 (u q.c))).set 3 (.int .u32 (u q.d))).set 4 (.int .u32 (u q.e))).set 5 (.int .u32 (u q.f))).set 6 (.int .u32 (u q.g))).set 7 (.int .u32 (u q.z))
         rw [set8] at S4
         refine ⟨k + 1, by omega, by go_num, ?_, ?_, by rw [hsum_succ HR.out HQ.out]; exact S4, ?_⟩
         · iterate 8 refine At.set_other ?_ n1 _
           exact D2
         · iterate 8 refine At.set_other ?_ n2 _
           exact Dp
         · iterate 8 refine Below.setCell ?_ n3 _
           exact kd
       case measure => simp [intOf]; omega
   · have eN : k = N / 64 := by have := HN1.out; have := HN3.out; omega
     rw [eN] at A4
     clear eN
     go_wp2_with (first | (refine wpList_load_at rfl 162 _ rfl _ rfl _ _ A4 Tryz.underlying162 rfl ?c2 ?_; (case c2 => exact info8)) | fail)
     refine (join _ _).mono ?_
     rintro e w3 ⟨rfl, h3⟩
     have D2 := A2.below h3 A2.lt
     have kd := kb.trans (h3.mono kb.size)
     clear A2 Ap A4 kb h3
     go_wp2_with (refine wpList_store_at rfl 56 _ _ rfl _ _ rfl rfl _ D2 ?c2 ?c3 ?c4 ?_; (case c2 => rw [List.size_toArray, bv_length, idL_length]; exact info_id); (case c3 => rw [List.size_toArray, List.size_toArray, idV_length _ _ (by omega), bv_length, idL_length]); (case c4 => exact bv_all _))
     exact bodyPost_ret (v := .agg (bv (idL (hsum P (N / 64)) 8)).toArray) (results_at Tryz.results72 _ _ w.heap.size _ _ rfl (D2.row _) Tryz.underlying56 rfl (by rw [List.size_toArray, bv_length, idL_length]; exact info_id)) rfl ⟨rfl, below_row kd (Nat.le_refl _) _⟩
end Go.Proofs.YtgmdhaepiclkcaaGreatDoor.ShaH
namespace Go.Proofs.YtgmdhaepiclkcaaGreatDoor.RotC
set_option maxRecDepth 100000
open Go.RowKit RotM
end Go.Proofs.YtgmdhaepiclkcaaGreatDoor.RotC
namespace Go.Proofs.YtgmdhaepiclkcaaGreatDoor.RotD
set_option maxRecDepth 100000
open Go.RowKit RotM RotC
end Go.Proofs.YtgmdhaepiclkcaaGreatDoor.RotD
namespace Go.Proofs.YtgmdhaepiclkcaaGreatDoor.RefS
set_option maxRecDepth 100000
open Go.RowKit RotM RotN RotC RotD ShaM ShaC ShaD RotG Small
def kcells : Array Value := Array.ofFn (n := 64) fun j => Value.int .u32 (u (kc j.val))
end Go.Proofs.YtgmdhaepiclkcaaGreatDoor.RefS
namespace Go.Proofs.YtgmdhaepiclkcaaGreatDoor.RefT
set_option maxRecDepth 100000
open Go.RowKit RotM RotN RotC RotD ShaM ShaD RotG Small RefS
end Go.Proofs.YtgmdhaepiclkcaaGreatDoor.RefT
namespace Go.Proofs.YtgmdhaepiclkcaaGreatDoor.RefU
set_option maxRecDepth 100000
open Go.RowKit RotM RotN RotC RotD ShaM ShaD RotG Small RefS RefT
def z8 : H8 := ⟨0, 0, 0, 0, 0, 0, 0, 0⟩
structure Inv (w : World) (g6 g7 g8 : Nat) (h v : H8) (m : Nat → BitVec 32) (wr : World) : Prop where
 a2 : At wr w.heap.size h.vals
 a4 : At wr (w.heap.size + 1) z8.vals
 a6 : At wr g6 kcells
 a7 : At wr g7 (sp m 64)
 a8 : At wr g8 v.vals
 kb : Below w.heap.size w wr
theorem Inv.drewN {w : World} {g6 g7 g8 : Nat} {h v : H8} {m : Nat → BitVec 32} {wr : World} (i : Inv w g6 g7 g8 h v m wr) (n : Nat) : Inv w g6 g7 g8 h v m (wr.drewN n) :=
 ⟨i.a2, i.a4, i.a6, i.a7, i.a8, below_drew i.kb n⟩
end Go.Proofs.YtgmdhaepiclkcaaGreatDoor.RefU
namespace Go.Proofs.YtgmdhaepiclkcaaGreatDoor.RefV
set_option maxRecDepth 100000
open Go.RowKit RotM RotN RotC RotD RotG Small PadM ShaF
end Go.Proofs.YtgmdhaepiclkcaaGreatDoor.RefV
namespace Go.Proofs.YtgmdhaepiclkcaaGreatDoor.RotG
set_option maxRecDepth 100000
open Go.RowKit RotM RotC RotD RotN
end Go.Proofs.YtgmdhaepiclkcaaGreatDoor.RotG
namespace Go.Proofs.YtgmdhaepiclkcaaGreatDoor.RefW
set_option maxRecDepth 100000
open Go.RowKit RotM RotN RotC RotD ShaM ShaD RotG Small PadM ShaF ShaG SumM RefV ShaH
def CellsIn (w : World) (g : Nat) (l : List Int) : Prop := g < w.heap.size ∧ ∀ i, i < l.length → w.cell? ⟨g, i, none⟩ = some (.int .u8 (l.getD i 0))
theorem CellsIn.below {w w' : World} {g : Nat} {l : List Int} {k : Nat} (h : CellsIn w g l) (hb : Below k w w') (hg : g < k) : CellsIn w' g l :=
 ⟨Nat.lt_of_lt_of_le h.1 hb.size, fun i hi => (hb.cell (p := ⟨g, i, none⟩) hg).trans (h.2 i hi)⟩
theorem CellsIn.alloc {w : World} {g : Nat} {l : List Int} (h : CellsIn w g l) (o : Obj) : CellsIn (w.alloc o) g l := h.below ((Below.refl w.heap.size w).alloc (Nat.le_refl _) o) h.1
end Go.Proofs.YtgmdhaepiclkcaaGreatDoor.RefW
namespace Go.Proofs.YtgmdhaepiclkcaaGreatDoor.CmS
set_option maxRecDepth 100000
open Go Go.RowKit IdM IdW Byt
theorem four_B (a : Int) (h : 0 ≤ a ∧ a ≤ 4294967295) : ∀ x ∈ PadM.four8 a, 0 ≤ x ∧ x ≤ 255 := by
 intro x hx
 simp only [PadM.four8, List.mem_cons, List.not_mem_nil, or_false] at hx
 rcases hx with rfl | rfl | rfl | rfl <;> omega
theorem sum_B (l : List Int) : ∀ x ∈ ShaH.sumL l, 0 ≤ x ∧ x ≤ 255 := by
 intro x hx
 unfold ShaH.sumL ShaG.idL at hx
 rw [List.mem_flatMap] at hx
 obtain ⟨i, _, hi⟩ := hx
 exact four_B _ (RotM.u_range _) x hi
def sumI (l : List Int) : Idn := ⟨ShaH.sumL l, ShaH.sumL_length l, sum_B l⟩
theorem rowL_of {w : World} {A : Option Addr} {cap : Nat} {l : List Int} (h : Sl w A cap l) : RowIn.RowL .u8 w A l.length cap l := by
 obtain ⟨h1, h2, h3, h4⟩ := h
 refine ⟨h1, h2, ⟨Nat.le_refl _, h1⟩, fun x hx => ?_, ?_⟩
 · have := h3 x hx
   simpa [B, Lit.wf, IntKind.min, IntKind.max, IntKind.bits, IntKind.signed] using this
 · rcases h4 with ⟨r1, r2, r3⟩ | ⟨x, r1, r2⟩
   · exact .inl ⟨r1, by rw [r2]; rfl, r3⟩
   · exact .inr ⟨x, r1, r2⟩
theorem psum {w : World} {A : Option Addr} {cap len : Nat} {l : List Int} (h : Sl w A cap l) (hl : l.length = len) (hm : len ≤ 1099511627776) (hK : ShaE.KIn w) :
   Calls Tryz.prog 72 #[.slice A len cap] w fun e w' => e = .returned (.agg (cs (sumI l))) ∧ Below w.heap.size w w' := by
 subst hl
 have := ShaH.sumW (rowL_of h) hm hK
 rw [List.take_of_length_le (Nat.le_refl _)] at this
 exact this
end Go.Proofs.YtgmdhaepiclkcaaGreatDoor.CmS
namespace Go.Proofs.YtgmdhaepiclkcaaGreatDoor.CmX
set_option maxRecDepth 100000
open Go Go.RowKit Byt IdM IdW OpsM OpsW CmM StW CmW
def fewK (c : Com) : Bool := decide (c.ps.length ≤ 20) && (decide (c.op.key.size ≤ 100) && decide (c.op.elem.size ≤ 100))
theorem fewK_iff {c : Com} : fewK c = true ↔ c.ps.length ≤ 20 ∧ c.op.key.size ≤ 100 ∧ c.op.elem.size ≤ 100 := by
 unfold fewK
 simp only [Bool.and_eq_true, decide_eq_true_eq]
theorem okay {c : Com} (h : fewK c = true) (hf : Fit c) : CmR.Okay c := by
 obtain ⟨h1, h2, h3⟩ := fewK_iff.1 h
 exact ⟨hf, by omega, by omega⟩
set_option maxRecDepth 100000 in
set_option maxHeartbeats 4000000 in
theorem few_ret (v : Cv) (w : World) : Calls Tryz.prog 30 #[.agg (cc v)] w fun e w' => e = .returned (.bool (fewK v.c)) ∧ Below w.heap.size w w' := by
 have R : Cel.Box CE (w.alloc (.cells (cc v) 47)) w.heap.size v := Cel.Box.new w v _
 have kb := StW.below_alloc w (.cells (cc v) 47)
 have c3 := cell_ps R
 have c5 := cell_key R
 have c6 := cell_elem R
 obtain ⟨n, hn⟩ : ∃ n, v.c.ps.length = n := ⟨_, rfl⟩
 have hw : ¬ (n : Int) ≤ 20 ∨ ((n : Int) ≤ 20 ∧ (¬ (v.c.op.key.size : Int) ≤ 100 ∨ ((v.c.op.key.size : Int) ≤ 100 ∧ (¬ (v.c.op.elem.size : Int) ≤ 100 ∨ (v.c.op.elem.size : Int) ≤ 100)))) := by omega
 obtain ⟨r, hr⟩ : ∃ r, fewK v.c = r := ⟨_, rfl⟩
 have HR : Hid (r = (decide (n ≤ 20) && (decide (v.c.op.key.size ≤ 100) && decide (v.c.op.elem.size ≤ 100)))) := aside (by rw [← hr, ← hn]; rfl)
 rw [hr]
 rw [hn] at c3
 clear hn hr R
 rcases hw with p | ⟨p1, p | ⟨p2, p | p⟩⟩
 all_goals
   go_enter Tryz.func30, Tryz.ntmps30
   go_wp2_with (first | go_skip)
   go_ret
   exact ⟨StW.ret_bool (by rw [HR.out]; simp; omega), kb⟩
end Go.Proofs.YtgmdhaepiclkcaaGreatDoor.CmX
namespace Go.Proofs.YtgmdhaepiclkcaaGreatDoor.CmY
set_option maxRecDepth 100000
open Go Go.Sort Go.RowKit Byt IdM IdW OpsM OpsW CmM StW CmW
def hashK (c : Com) : Idn := CmS.sumI (putK c)
def putB (c : Com) : List Int := if mayK c = true then putK c else []
def putN (c : Com) : Int := if mayK c = true then 0 else 1
def PutOut (c : Com) (w : World) (e : Ending) (w' : World) : Prop :=
 ∃ A cap, e = .returned (.tuple #[.slice A (putB c).length cap, .int .i64 (putN c)]) ∧ Sl w' A cap (putB c) ∧ Below w.heap.size w w'
def hashI (c : Com) : Idn := if mayK c = true then hashK c else nought
def HashOut (c : Com) (w : World) (e : Ending) (w' : World) : Prop :=
 e = .returned (.tuple #[.agg (cs (hashI c)), .int .i64 (putN c)]) ∧ Below w.heap.size w w'
theorem putB_yes {c : Com} (h : mayK c = true) : putB c = putK c ∧ putN c = 0 ∧ hashI c = hashK c := by
 unfold putB putN hashI
 rw [if_pos h, if_pos h, if_pos h]
 exact ⟨rfl, rfl, rfl⟩
theorem putB_no {c : Com} (h : mayK c = false) : putB c = [] ∧ putN c = 1 ∧ hashI c = nought := by
 have h' : ¬ mayK c = true := by rw [h]; simp
 unfold putB putN hashI
 rw [if_neg h', if_neg h', if_neg h']
 exact ⟨rfl, rfl, rfl⟩
theorem putB_len (c : Com) : (putB c).length ≤ 400 := by
 cases h : mayK c with
 | false => rw [(putB_no h).1]; simp
 | true => rw [(putB_yes h).1]; exact putK_len h
end Go.Proofs.YtgmdhaepiclkcaaGreatDoor.CmY
namespace Go.Proofs.YtgmdhaepiclkcaaGreatDoor.CmI
set_option maxRecDepth 100000
open Go Go.Sort Go.RowKit Byt EncM EncC IdM IdW IdB OpsM OpsW CmM StW CmW CmD CmG CmE CmF CmY
end Go.Proofs.YtgmdhaepiclkcaaGreatDoor.CmI
