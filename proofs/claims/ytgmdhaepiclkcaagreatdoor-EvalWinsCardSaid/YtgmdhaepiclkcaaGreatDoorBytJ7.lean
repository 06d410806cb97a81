/- Bytes: slices that a walk reads, cuts and appends to. No condition. | Plain facts on numbers in bytes: the digits of a number to the base 128, and the number that bytes begin with. No condition. | What enc.Num, enc.Fold, enc.Unfold and enc.Text return: contracts. | Plain facts on the digits that bytes begin with, each with whether it is the last one. No condition. | What enc.digits hands to a loop: a contract. | What enc.Get returns: a contract. | Bytes in regions that draw their order: laws for the walk. No condition. -/
import Derived.Test.YtgmdhaepiclkcaaGreatDoorSmallJ8
import Derived.WalkKit
import Derived.RangeFuncNested
import Derived.RangeFuncBound
import Derived.RangeFuncCalls
import Derived.RangeFuncLeaves
import Derived.Shelf.Abstract
import Derived.Shelf.RegionOpen
import Derived.OwnWalkIn
import Derived.TacticsInMore
import Derived.LoopNIn
import Derived.LoopIn
import Derived.Deep.RegionLaw
namespace Go.Proofs.YtgmdhaepiclkcaaGreatDoor.Byt
set_option maxRecDepth 100000
open Go.RowKit
theorem info_u8 : (Tryz.prog.info? 5).map (·.size) = some 1 := by kernel_rfl
theorem zero_u8 : (Tryz.prog.info? 5).map (fun i => (i.zero, i.size, i.bytes)) = some (some (.int .u8 0), 1, 1) := by kernel_rfl
def Sl (w : World) (A : Option Addr) (cap : Nat) (l : List Int) : Prop :=
 l.length ≤ cap ∧ cap ≤ maxLen ∧ (∀ x ∈ l, B x) ∧ ((A = none ∧ l = [] ∧ cap = 0) ∨ ∃ x, A = some x ∧ ∀ i, i < l.length → w.cell? (x.add i) = some (.int .u8 (l.getD i 0)))
theorem Sl.bytes {w : World} {A : Option Addr} {cap : Nat} {l : List Int} (h : Sl w A cap l) : ∀ x ∈ l, B x := h.2.2.1
theorem Sl.nil (w : World) : Sl w none 0 [] := ⟨Nat.le_refl _, Nat.zero_le _, by simp, .inl ⟨rfl, rfl, rfl⟩⟩
theorem Sl.below {w w' : World} {A : Option Addr} {cap : Nat} {l : List Int} (h : Sl w A cap l) (hb : Below w.heap.size w w') : Sl w' A cap l := by
 obtain ⟨h1, h2, h4, h5⟩ := h
 refine ⟨h1, h2, h4, ?_⟩
 rcases h5 with h5 | ⟨x, rfl, hc⟩
 · exact .inl h5
 · refine .inr ⟨x, rfl, fun i hi => ?_⟩
   have hcell := hc i hi
   exact (hb.cell (block_lt_of_cell hcell)).trans hcell
theorem Sl.drewN {w : World} {A : Option Addr} {cap : Nat} {l : List Int} (h : Sl w A cap l) (n : Nat) : Sl (w.drewN n) A cap l := h.below (below_drewN w n)
theorem Sl.own {w : World} {base n : Nat} {v : Value} {l : List Int} (h : w.ownsRow base 5 1 v n (bv l)) (hb : ∀ x ∈ l, B x) : ∃ A cap, v = .slice A l.length cap ∧ Sl w A cap l := by
 have hn : l.length = n := by have := h.1; rw [bv_length] at this; omega
 rcases h.2 with ⟨rfl, rfl⟩ | ⟨g, cap, cur, rfl, hbg, hg, h1, h2, h3, h4⟩
 · have : l = [] := List.eq_nil_of_length_eq_zero hn
   subst this
   exact ⟨none, 0, rfl, Sl.nil w⟩
 · refine ⟨some ⟨g, 0, none⟩, cap, by rw [hn], by omega, h2, hb, .inr ⟨_, rfl, fun i hi => ?_⟩⟩
   rw [Addr.add_lit, Nat.zero_add, h.cellAt i (by omega), bv_at _ hi]
theorem Sl.part {w : World} {A : Option Addr} {cap : Nat} {l : List Int} (h : Sl w A cap l) (i j : Nat) (hij : i ≤ j) (hj : j ≤ l.length) :
   ∃ A' cap', sliced A i j cap 1 = .slice A' (j - i) cap' ∧ Sl w A' cap' ((l.drop i).take (j - i)) ∧ ((l.drop i).take (j - i)).length = j - i := by
 have hb := h.bytes
 obtain ⟨h1, h2, h4, h5⟩ := h
 have hl : ((l.drop i).take (j - i)).length = j - i := by simp; omega
 have hB : ∀ x ∈ (l.drop i).take (j - i), B x := fun x hx => hb x (List.mem_of_mem_drop (List.mem_of_mem_take hx))
 rcases h5 with ⟨rfl, rfl, rfl⟩ | ⟨x, rfl, hc⟩
 · simp at hj
   obtain rfl : j = 0 := hj
   obtain rfl : i = 0 := by omega
   exact ⟨none, 0, by simp [sliced], by simpa using Sl.nil w, hl⟩
 · by_cases hci : cap = i
   · refine ⟨some x, cap - i, by simp [sliced, hci], ⟨by rw [hl]; omega, by omega, hB, .inr ⟨x, rfl, fun k hk => ?_⟩⟩, hl⟩
     omega
   · refine ⟨some (x.add i), cap - i, by simp [sliced, hci], ⟨by rw [hl]; omega, by omega, hB, .inr ⟨_, rfl, fun k hk => ?_⟩⟩, hl⟩
     rw [hl] at hk
     rw [Addr.add_add, hc (i + k) (by omega)]
     congr 2
     rw [List.getD_eq_getElem?_getD, List.getD_eq_getElem?_getD, List.getElem?_take, if_pos (by omega), List.getElem?_drop]
theorem elem_u8 : Tryz.prog.elem 114 = 5 := by kernel_rfl
theorem under_u8 : Tryz.prog.underlying 114 = some (.slice (Tryz.prog.elem 114)) := by kernel_rfl
theorem size_u8 (w : World) : (sizeOf (Tryz.prog.elem 114)).run Tryz.prog w = .ok 1 w := by
 rw [elem_u8]
 have h := info_u8
 cases hq : Tryz.prog.info? 5 with
 | none => rw [hq] at h; cases h
 | some i =>
   rw [hq] at h
   simp at h
   simp [sizeOf, typeInfo, hq, h]
theorem run_part_h (w : World) (A : Option Addr) (len cap : Nat) (k : IntKind) (j : Nat) (hj : j ≤ cap) :
   (Instr.sliceAt 114 (.slice A len cap) none (some (.int k j)) none).run Tryz.prog w = .ok (sliced A 0 j cap 1) w := by
 rw [run_sliceAt_slice w _ _ _ _ _ under_u8, run_slice_h w _ A len cap under_u8 k j (by omega) (by omega), size_u8]
 simp [Result.andThen]
theorem run_part_l (w : World) (A : Option Addr) (len cap : Nat) (k : IntKind) (i : Nat) (hi : i ≤ len) :
   (Instr.sliceAt 114 (.slice A len cap) (some (.int k i)) none none).run Tryz.prog w = .ok (sliced A i len cap 1) w := by
 rw [run_sliceAt_slice w _ _ _ _ _ under_u8, run_slice_l w _ A len cap under_u8 k i (by omega) (by omega), size_u8]
 simp [Result.andThen]
def New (l : List Int) (w : World) (e : Ending) (w' : World) : Prop :=
 ∃ v, e = .returned v ∧ w'.ownsRow w.heap.size 5 1 v l.length (bv l) ∧ Below w.heap.size w w'
theorem wpList_append_sl {P : Program} {w : World} {ops : Array Oper} {rest : List Oper} {o : Oper} {a : Act} {Q : Exit → Act → World → Prop} (hgd : o.guard = none) (s x : Operand) (t : TypeId)
   (ho : o.op = .call { callee := .builtin .append, args := #[s, x], argTypes := #[t, t] })
   (base : Nat) (e : TypeId) (ht : P.underlying t = some (.slice e)) (hz : (P.info? e).map (fun i => (i.zero, i.size, i.bytes)) = some (some (.int .u8 0), 1, 1))
   (v : Value) (n : Nat) (xs : List Int) (hs : a.eval s = v) (hown : w.ownsRow base e 1 v n (bv xs))
   (A : Option Addr) (m c : Nat) (l : List Int) (hx : a.eval x = .slice A m c) (hm : l.length = m) (hr : Sl w A c l)
   (h63 : n + m ≤ 1099511627900) (hbase : base ≤ w.heap.size)
   (h : ∀ v' w', w'.ownsRow base e 1 v' (n + m) (bv (xs ++ l)) → w.grownBy w' v.ownBlock → wpList P ops Q rest (a.put o.dst v') w') : wpList P ops Q (o :: rest) a w := by
 obtain ⟨i, hi, z0, z1, z2⟩ := info_parts hz
 subst hm
 obtain ⟨h1, h2, h4, h5⟩ := hr
 rcases h5 with ⟨rfl, rfl, rfl⟩ | ⟨ad, rfl, hc⟩
 · refine wpList_append_own_none hgd s x t ho base e i 1 ht hi v n (bv xs) hs hown hx (h v w ?_ (grown_of_below (Below.refl _ _) _))
   simpa using hown
 · refine wpList_append_own w hgd s x t ho base e i (.int .u8 0) 1 1 ht hi z0 z1 z2 rfl (by decide) v n (bv xs) hs hown ad l.length c (bv l) hx (by rw [bv_length]; omega) (fun j u hu => ?_) (bv_one _) (by unfold maxLen; omega) (by omega) hbase (fun v' w' a1 a2 _ => h v' w' (by rw [bv_append]; exact a1) a2)
   have hj : j < l.length := by
     have := (List.getElem?_eq_some_iff.1 hu).1
     simpa [bv] using this
   rw [bv_at _ hj] at hu
   rw [hc j hj, ← hu]
theorem wpList_append_str {P : Program} {w : World} {ops : Array Oper} {rest : List Oper} {o : Oper} {a : Act} {Q : Exit → Act → World → Prop} (hgd : o.guard = none) (s x : Operand) (t u : TypeId)
   (ho : o.op = .call { callee := .builtin .append, args := #[s, x], argTypes := #[t, u] })
   (base : Nat) (e : TypeId) (ht : P.underlying t = some (.slice e)) (hu : P.underlying u = some .string) (hz : (P.info? e).map (fun i => (i.zero, i.size, i.bytes)) = some (some (.int .u8 0), 1, 1))
   (v : Value) (n : Nat) (xs : List Int) (hs : a.eval s = v) (hown : w.ownsRow base e 1 v n (bv xs)) (S : ByteArray) (hx : a.eval x = .string S)
   (h63 : n + S.size ≤ 1099511627900) (hbase : base ≤ w.heap.size)
   (h : ∀ v' w', w'.ownsRow base e 1 v' (n + S.size) (bv (xs ++ bytesL S)) → w.grownBy w' v.ownBlock → wpList P ops Q rest (a.put o.dst v') w') : wpList P ops Q (o :: rest) a w := by
 obtain ⟨i, hi, z0, z1, z2⟩ := info_parts hz
 refine Lib.wpList_append_own_string w hgd s x t u ho base e i ht hu hi z0 z1 z2 v n (bv xs) hs hown S hx (by unfold maxLen; omega) (by omega) hbase (fun v' w' a1 a2 _ => h v' w' ?_ a2)
 rw [bv_append, ← strCells_bv]
 exact a1
theorem Sl.new1 (w : World) (x : Int) (t : TypeId) (hx : B x) : Sl (w.alloc (.cells #[.int .u8 x] t)) (some ⟨w.heap.size, 0, none⟩) 1 [x] := by
 refine ⟨Nat.le_refl _, by unfold maxLen; omega, by simpa using hx, .inr ⟨_, rfl, fun i hi => ?_⟩⟩
 have : i = 0 := by simpa using hi
 subst this
 rw [Addr.add_lit]
 exact cell_of_row _ _ _ _ t (0, 0) (heap_alloc_new w _)
end Go.Proofs.YtgmdhaepiclkcaaGreatDoor.Byt
namespace Go.Proofs.YtgmdhaepiclkcaaGreatDoor.EncM
set_option maxRecDepth 100000
def Fits (n : Nat) : Prop := n < 18446744073709551616
theorem Fits.lt {n : Nat} (h : Fits n) : n < 18446744073709551616 := h
theorem Fits.le {n m : Nat} (h : Fits n) (hm : m ≤ n) : Fits m := Nat.lt_of_le_of_lt hm h
def numL (n : Nat) : List Int := if h : n < 128 then [(n : Int)] else ((n % 128 + 128 : Nat) : Int) :: numL (n / 128)
termination_by n
decreasing_by omega
theorem numL_one {n : Nat} (h : n < 128) : numL n = [(n : Int)] := by rw [numL, dif_pos h]
theorem numL_more {n : Nat} (h : 128 ≤ n) : numL n = ((n % 128 + 128 : Nat) : Int) :: numL (n / 128) := by rw [numL, dif_neg (by omega)]
theorem numL_pos (n : Nat) : 0 < (numL n).length := by
 by_cases h : n < 128
 · rw [numL_one h]; simp
 · rw [numL_more (by omega)]; simp
theorem numL_len (k n : Nat) (h : n < 2 ^ (7 * (k + 1))) : (numL n).length ≤ k + 1 := by
 induction k generalizing n with
 | zero => rw [numL_one (by simpa using h)]; simp
 | succ k ih =>
   by_cases h1 : n < 128
   · rw [numL_one h1]; simp
   · rw [numL_more (by omega), List.length_cons]
     have := ih (n / 128) (by
       rw [show 7 * (k + 1 + 1) = 7 * (k + 1) + 7 by omega, Nat.pow_add] at h
       omega)
     omega
theorem numL_ten {n : Nat} (h : n < 18446744073709551616) : (numL n).length ≤ 10 := numL_len 9 n (by omega)
theorem numL_range (n : Nat) : ∀ x ∈ numL n, 0 ≤ x ∧ x ≤ 255 := by
 induction n using Nat.strongRecOn with
 | _ n ih =>
   by_cases h : n < 128
   · rw [numL_one h]; simp; omega
   · rw [numL_more (by omega)]
     intro x hx
     rcases List.mem_cons.1 hx with rfl | hx
     · omega
     · exact ih (n / 128) (by omega) x hx
def getG (i n : Nat) : List Int → Nat × Nat
 | [] => (0, 0)
 | b :: r =>
   if 10 ≤ i then (0, 0)
   else if 18446744073709551616 ≤ n + (b % 128).toNat * 2 ^ (7 * i) then (0, 0)
   else if b < 128 then (if (b % 128).toNat = 0 ∧ 0 < i then (0, 0) else (n + (b % 128).toNat * 2 ^ (7 * i), i + 1))
   else getG (i + 1) (n + (b % 128).toNat * 2 ^ (7 * i)) r
def getL (bs : List Int) : Nat × Nat := getG 0 0 bs
theorem pw_succ (i : Nat) : 2 ^ (7 * (i + 1)) = 128 * 2 ^ (7 * i) := by
 rw [show 7 * (i + 1) = 7 * i + 7 by omega, Nat.pow_add]
 omega
theorem getG_num (m i n : Nat) (r : List Int) (hn : n < 2 ^ (7 * i)) (hm : n + m * 2 ^ (7 * i) < 18446744073709551616) (h0 : m ≠ 0 ∨ i = 0) :
   getG i n (numL m ++ r) = (n + m * 2 ^ (7 * i), i + (numL m).length) := by
 have hi : ∀ m i : Nat, m * 2 ^ (7 * i) < 18446744073709551616 → (m ≠ 0 ∨ i = 0) → i < 10 := by
   intro m i h h0
   rcases h0 with h0 | h0
   · by_cases hi : i < 10
     · exact hi
     · have h1 : 2 ^ 70 ≤ 2 ^ (7 * i) := Nat.pow_le_pow_right (by omega) (by omega)
       have h2 : 1 * 2 ^ (7 * i) ≤ m * 2 ^ (7 * i) := Nat.mul_le_mul_right _ (by omega)
       omega
   · omega
 induction m using Nat.strongRecOn generalizing i n with
 | _ m ih =>
   have hi10 := hi m i (by omega) h0
   by_cases hs : m < 128
   · rw [numL_one hs]
     simp only [List.cons_append, List.nil_append, getG]
     have e : ((m : Int) % 128).toNat = m := by omega
     rw [e, if_neg (by omega), if_neg (by omega), if_pos (by omega), if_neg (by omega)]
     simp
   · rw [numL_more (by omega)]
     simp only [List.cons_append, getG]
     have e : (((m % 128 + 128 : Nat) : Int) % 128).toNat = m % 128 := by omega
     have hd : m % 128 * 2 ^ (7 * i) + m / 128 * 2 ^ (7 * (i + 1)) = m * 2 ^ (7 * i) := by
       rw [pw_succ, ← Nat.mul_assoc, ← Nat.add_mul]
       congr 1
       omega
     have hle : m % 128 * 2 ^ (7 * i) ≤ 127 * 2 ^ (7 * i) := Nat.mul_le_mul_right _ (by omega)
     have hp := pw_succ i
     rw [e, if_neg (by omega), if_neg (by omega), if_neg (by omega), ih (m / 128) (by omega) (i + 1) _ (by omega) (by omega) (by omega)]
     refine Prod.ext ?_ ?_
     · show n + m % 128 * 2 ^ (7 * i) + m / 128 * 2 ^ (7 * (i + 1)) = n + m * 2 ^ (7 * i)
       omega
     · simp only [List.length_cons]
       omega
theorem getL_num (m : Nat) (r : List Int) (hm : m < 18446744073709551616) : getL (numL m ++ r) = (m, (numL m).length) := by
 have := getG_num m 0 0 r (by simp) (by simpa using hm) (.inr rfl)
 simpa [getL] using this
theorem getG_back (bs : List Int) (hb : ∀ x ∈ bs, 0 ≤ x ∧ x ≤ 255) (i n N k : Nat) (h : getG i n bs = (N, k)) (hk : k ≠ 0) (hn : n < 2 ^ (7 * i)) :
   ∃ m, N = n + m * 2 ^ (7 * i) ∧ (m ≠ 0 ∨ i = 0) ∧ N < 18446744073709551616 ∧ i < k ∧ k ≤ 10 ∧ k - i ≤ bs.length ∧ bs.take (k - i) = numL m := by
 induction bs generalizing i n with
 | nil => simp [getG] at h; omega
 | cons b r ih =>
   have hbb := hb b (by simp)
   simp only [getG] at h
   by_cases h10 : 10 ≤ i
   · rw [if_pos h10] at h; simp at h; omega
   rw [if_neg h10] at h
   by_cases hov : 18446744073709551616 ≤ n + (b % 128).toNat * 2 ^ (7 * i)
   · rw [if_pos hov] at h; simp at h; omega
   rw [if_neg hov] at h
   by_cases hlt : b < 128
   · rw [if_pos hlt] at h
     by_cases hz : (b % 128).toNat = 0 ∧ 0 < i
     · rw [if_pos hz] at h; simp at h; omega
     · rw [if_neg hz] at h
       simp only [Prod.mk.injEq] at h
       obtain ⟨rfl, rfl⟩ := h
       refine ⟨(b % 128).toNat, rfl, by omega, by omega, by omega, by omega, by simp, ?_⟩
       rw [show i + 1 - i = 1 by omega, numL_one (by omega)]
       simp
       omega
   · rw [if_neg hlt] at h
     have hle : (b % 128).toNat * 2 ^ (7 * i) ≤ 127 * 2 ^ (7 * i) := Nat.mul_le_mul_right _ (by omega)
     have hp := pw_succ i
     obtain ⟨m, h1, h2, h3, h4, h5, h6, h7⟩ := ih (fun x hx => hb x (by simp [hx])) (i + 1) _ h (by omega)
     have hm : m ≠ 0 := by omega
     refine ⟨(b % 128).toNat + 128 * m, ?_, by omega, h3, by omega, h5, by rw [List.length_cons]; omega, ?_⟩
     · rw [h1, pw_succ, Nat.add_mul, Nat.add_assoc, Nat.mul_comm 128 m, Nat.mul_assoc]
     · rw [show k - i = (k - (i + 1)) + 1 by omega, List.take_succ_cons, h7, numL_more (n := (b % 128).toNat + 128 * m) (by omega), show ((b % 128).toNat + 128 * m) / 128 = m by omega]
       congr 1
       omega
theorem getL_back {bs : List Int} (hb : ∀ x ∈ bs, 0 ≤ x ∧ x ≤ 255) {N k : Nat} (h : getL bs = (N, k)) (hk : k ≠ 0) :
   N < 18446744073709551616 ∧ 0 < k ∧ k ≤ 10 ∧ k ≤ bs.length ∧ bs.take k = numL N := by
 obtain ⟨m, h1, _, h3, h4, h5, h6, h7⟩ := getG_back bs hb 0 0 N k h hk (by simp)
 have e : m = N := by simp at h1; omega
 subst e
 exact ⟨h3, h4, h5, by omega, by simpa using h7⟩
end Go.Proofs.YtgmdhaepiclkcaaGreatDoor.EncM
namespace Go.Proofs.YtgmdhaepiclkcaaGreatDoor.EncC
set_option maxRecDepth 100000
open Go.RowKit Byt EncM
theorem or128 {x : Int} (h : 0 ≤ x ∧ x ≤ 255) : bits .or .u8 x 128 = x % 128 + 128 := by
 have key : ∀ y : Fin 256, bits .or .u8 (y.val : Int) 128 = (y.val : Int) % 128 + 128 := by decide +kernel
 have := key ⟨x.toNat, by omega⟩
 have e : ((x.toNat : Nat) : Int) = x := by omega
 simpa [e] using this
theorem or64 (x y : Nat) (hx : x < 18446744073709551616) (hy : y < 18446744073709551616) : bits .or .u64 (x : Int) (y : Int) = ((x ||| y : Nat) : Int) := by
 show IntKind.u64.wrap ((((BitVec.ofInt 64 (x : Int) ||| BitVec.ofInt 64 (y : Int)).toNat : Nat)) : Int) = _
 have h1 : x ||| y < 2 ^ 64 := Nat.or_lt_two_pow (by omega) (by omega)
 have e1 : (BitVec.ofInt 64 (x : Int) ||| BitVec.ofInt 64 (y : Int)).toNat = x ||| y := by
   rw [BitVec.toNat_or, BitVec.ofInt_natCast, BitVec.ofInt_natCast, BitVec.toNat_ofNat, BitVec.toNat_ofNat, Nat.mod_eq_of_lt (by omega), Nat.mod_eq_of_lt (by omega)]
 rw [e1, IntKind.wrap_u64]
 omega
theorem or1 {x : Int} (h : 0 ≤ x) (h2 : x < 9223372036854775808) : bits .or .u64 (x * 2) 1 = 2 * x + 1 := by
 obtain ⟨m, rfl⟩ : ∃ m : Nat, x = m := ⟨x.toNat, by omega⟩
 have e : (m : Int) * 2 = ((2 ^ 1 * m : Nat) : Int) := by omega
 rw [e, show (1 : Int) = ((1 : Nat) : Int) from rfl, or64 _ _ (by omega) (by omega), ← Nat.two_pow_add_eq_or_of_lt (by omega)]
 omega
set_option maxHeartbeats 1000000 in
set_option maxRecDepth 100000 in
theorem num (n : Nat) (hn : Fits n) (w : World) :
   Calls Tryz.prog 121 #[.int .u64 n] w (New (numL n) w) := by
 have hten := numL_ten hn.lt
 go_enter Tryz.func121, Tryz.ntmps121
 go_wp2_with fail
 go_loopw [0, 3] (fun k v wr => ∃ (m : Nat) (pre : List Int), k = .int .u64 m ∧ Fits m ∧ Hid (numL n = pre ++ numL m) ∧ Hid (wr.ownsRow w.heap.size 5 1 v pre.length (bv pre)) ∧ Below w.heap.size w wr) (fun k _ _ => (intOf k).toNat)
 case atStart => exact ⟨n, [], rfl, hn, rfl, World.ownsRow_nil _ _ _ _, Below.refl _ _⟩
 case round =>
   obtain ⟨m, pre, rfl, hm, HN, HO, hb⟩ := hrel
   have hlen : pre.length + (numL m).length ≤ 10 := by
     have := HN.out
     rw [this, List.length_append] at hten
     exact hten
   have hs := hb.size
   by_cases hlt : m < 128
   · go_wp2_with (refine wpList_append_sl rfl (.tmp 14) (.tmp 17) 114 rfl w.heap.size 5 Tryz.underlying114 zero_u8 _ pre.length pre rfl (HO.out.alloc _) _ 1 1 [(m : Int)] rfl rfl (Sl.new1 _ _ _ ?c1) (by omega) (by simp; omega) ?_; (case c1 => unfold B; omega); intro v1 w1 hown1 hg1; have hb1 : Below w.heap.size w w1 := below_grown (hb.alloc hs _) (by simp; omega) hg1 (fun k hk => (HO.out.lt k hk).1); have HO1 := aside hown1; clear hown1 hg1)
     go_ret
     refine ⟨v1, rfl, ?_, hb1⟩
     rw [HN.out, numL_one hlt]
     simpa using HO1.out
   · have hor := or128 (x := (m : Int) % 256) (by omega)
     have e : (m : Int) % 256 % 128 + 128 = ((m % 128 + 128 : Nat) : Int) := by omega
     rw [e] at hor
     clear e
     go_wp2_with (refine wpList_append_sl rfl (.tmp 6) (.tmp 10) 114 rfl w.heap.size 5 Tryz.underlying114 zero_u8 _ pre.length pre rfl (HO.out.alloc _) _ 1 1 [((m % 128 + 128 : Nat) : Int)] rfl rfl (Sl.new1 _ _ _ ?c1) (by omega) (by simp; omega) ?_; (case c1 => unfold B; omega); intro v1 w1 hown1 hg1; have hb1 : Below w.heap.size w w1 := below_grown (hb.alloc hs _) (by simp; omega) hg1 (fun k hk => (HO.out.lt k hk).1); have HO1 := aside hown1; clear hown1 hg1)
     go_roundw
     case rel =>
       refine ⟨m / 128, pre ++ [((m % 128 + 128 : Nat) : Int)], by simp, hm.le (by omega), ?_, by simpa using HO1, hb1⟩
       have := HN.out
       rw [numL_more (n := m) (by omega)] at this
       exact aside (by rw [this]; simp)
     case measure => simp [intOf]; omega
def foldI (k : Int) : Int := if 0 ≤ k then 2 * k else 2 * (-1 - k) + 1
def unfoldI (n : Int) : Int := if n % 2 = 0 then n / 2 else -1 - n / 2
theorem ret_int {k : IntKind} {a b : Int} (h : a = b) : Ending.returned (.int k a) = .returned (.int k b) := by rw [h]
set_option maxRecDepth 100000 in
theorem fold (k : Int) (hk : -9223372036854775808 ≤ k ∧ k ≤ 9223372036854775807) (w : World) :
   Calls Tryz.prog 122 #[.int .i64 k] w fun e w' => e = .returned (.int .u64 (foldI k)) ∧ w = w' := by
 obtain ⟨h1, h2⟩ := hk
 by_cases h0 : 0 ≤ k
 · go_enter Tryz.func122, Tryz.ntmps122
   go_wp2
   go_ret
   refine ⟨ret_int ?_, rfl⟩
   unfold foldI
   rw [if_pos h0]
   omega
 · go_enter Tryz.func122, Tryz.ntmps122
   go_wp2
   go_ret
   refine ⟨ret_int ?_, rfl⟩
   unfold foldI
   rw [if_neg (by omega), or1 (by omega) (by omega)]
def textL (s : List Int) : List Int := numL s.length ++ s
set_option maxRecDepth 100000 in
theorem text (s : ByteArray) (hs : s.size ≤ 1099511627776) (w : World) :
   Calls Tryz.prog 154 #[.string s] w (New (textL (bytesL s)) w) := by
 have hn := num s.size (by unfold Fits; omega) w
 have hl := numL_len 9 s.size (by omega)
 go_enter Tryz.func154, Tryz.ntmps154
 go_wp2_with fail
 refine hn.mono ?_
 clear hn
 rintro e w1 ⟨v, rfl, hown, hb⟩
 have HO := aside hown
 clear hown
 have hs1 := hb.size
 go_wp2_with (refine wpList_append_str rfl (.tmp 6) (.tmp 7) 114 9 rfl w.heap.size 5 Tryz.underlying114 Tryz.underlying9 zero_u8 v _ (numL s.size) rfl HO.out s rfl (by omega) hs1 ?_; intro v2 w2 hown2 hg2; have hb2 : Below w.heap.size w w2 := below_grown hb hs1 hg2 (fun k hk => (HO.out.lt k hk).1); have HO2 := aside hown2; clear hown2 hg2)
 go_ret
 refine ⟨v2, rfl, ?_, hb2⟩
 have h := HO2.out
 unfold textL
 rw [bytesL_length, List.length_append, bytesL_length]
 exact h
end Go.Proofs.YtgmdhaepiclkcaaGreatDoor.EncC
namespace Go.Proofs.YtgmdhaepiclkcaaGreatDoor.EncP
set_option maxRecDepth 100000
open EncM
end Go.Proofs.YtgmdhaepiclkcaaGreatDoor.EncP
namespace Go.Proofs.YtgmdhaepiclkcaaGreatDoor.EncD
set_option maxRecDepth 100000
open Go.RowKit Go.Shelf Byt EncM EncP
attribute [local go_sem] Oper.semAt_some
end Go.Proofs.YtgmdhaepiclkcaaGreatDoor.EncD
namespace Go.Proofs.YtgmdhaepiclkcaaGreatDoor.EncG
set_option maxRecDepth 100000
open Go.RowKit Go.Shelf Byt EncM EncP EncD EncC
attribute [local go_sem] Oper.semAt_some
end Go.Proofs.YtgmdhaepiclkcaaGreatDoor.EncG
namespace Go.Proofs.YtgmdhaepiclkcaaGreatDoor.BytR
set_option maxRecDepth 100000
open Go.RowKit Byt
end Go.Proofs.YtgmdhaepiclkcaaGreatDoor.BytR
namespace Go.Proofs.YtgmdhaepiclkcaaGreatDoor.Byt
open Go.RowKit
end Go.Proofs.YtgmdhaepiclkcaaGreatDoor.Byt
