/- One id in a box: stored, built, handed back beside a value. No condition. | What the document's Hash of package commit returns: a contract. | What the document's Put and Hash of package commit answer, in the form in which both are told. No condition. | What the document's answer's Get of package enc returns: a contract. | The document's reader of package commit: in memory, and what its Num and ID return: contracts. -/
import Derived.Test.YtgoapaanmcmlmaaGreatDoorOpenKJ3
import Derived.Test.YtgoapaanmcmlmaaGreatDoorRefEJ3
import Derived.Test.YtgoapaanmcmlmaaGreatDoorCmRJ8
import Derived.Test.YtgoapaanmcmlmaaGreatDoorEncGJ6
import Derived.Test.YtgoapaanmcmlmaaGreatDoorRowFJ7
namespace Go.Proofs.YtgoapaanmcmlmaaGreatDoor.IdJ
set_option maxRecDepth 100000
open Go Go.RowKit IdM Byt IdW IdB
theorem Box.frozen {w : World} {g : Nat} {x : Idn} (h : Box w g x) (i : Nat) : w.frozen? ⟨g, i, none⟩ = false := by
 obtain ⟨t, ht⟩ := h
 exact frozen_of_row w g i (cs x) t ht
theorem Box.put {w : World} {g : Nat} {x y : Idn} (h : Box w g x) (i : Nat) (v : Value) (e : (cs x).setIfInBounds i v = cs y) : Box (w.setCell ⟨g, i, none⟩ v) g y := by
 obtain ⟨t, ht⟩ := h
 exact ⟨t, by rw [heap_setCell_same w g i (cs x) t v ht, e]⟩
theorem Box.other {w : World} {g : Nat} {x : Idn} (h : Box w g x) {a : Addr} (ha : g ≠ a.block) (v : Value) : Box (w.setCell a v) g x := by
 obtain ⟨t, ht⟩ := h
 exact ⟨t, (heap_setCell_other w a g v ha).trans ht⟩
theorem Box.row {w : World} {g : Nat} {x : Idn} (h : Box w g x) (y : Idn) : Box (w.setRow g (cs y)) g y := by
 obtain ⟨t, ht⟩ := h
 exact ⟨t, setRow_heap w g (cs x) (cs y) t (0, 0) ht⟩
theorem below_row {B g : Nat} {w0 w : World} (hb : Below B w0 w) (hg : B ≤ g) (c : Array Value) : Below B w0 (w.setRow g c) :=
 hb.trans ⟨rfl, rfl, rfl, by simp [World.setRow], fun k hk => setRow_other w g k c (by omega)⟩
theorem below_cell {B g i : Nat} {w0 w : World} (hb : Below B w0 w) (hg : B ≤ g) (v : Value) : Below B w0 (w.setCell ⟨g, i, none⟩ v) :=
 hb.trans ⟨rfl, rfl, rfl, by simp [World.setCell], fun k hk => heap_setCell_other w ⟨g, i, none⟩ k v (by simp; omega)⟩
theorem wpList_store_box {ops : Array Oper} {rest : List Oper} {o : Oper} {a : Act} {w : World} {Q : Exit → Act → World → Prop} (hgd : o.guard = none) (x y : Operand) (ho : o.op = .store 75 x y)
   (g : Nat) (hx : a.eval x = .pointer (some ⟨g, 0, none⟩)) (old z : Idn) (hb : Box w g old) (hy : a.eval y = .agg (cs z))
   (h : wpList Tryz.prog ops Q rest (a.put o.dst undef) (w.setRow g (cs z))) : wpList Tryz.prog ops Q (o :: rest) a w := by
 obtain ⟨t, ht⟩ := hb
 exact wpList_store_row hgd 75 x y ho g (cs z) hx hy t (cs old) ht (info_cs z) (by rw [cs_size, cs_size]) (cs_one z) h
theorem build0 (w : World) : (Instr.build 75 #[]).run Tryz.prog w = .ok (.agg (cs nought)) w := Go.run_build w 75 _ _ (by kernel_rfl)
theorem wpList_build0 {ops : Array Oper} {rest : List Oper} {o : Oper} {a : Act} {w : World} {Q : Exit → Act → World → Prop} (hgd : o.guard = none) (ho : o.op = .build 75 #[])
   (h : wpList Tryz.prog ops Q rest (a.put o.dst (.agg (cs nought))) w) : wpList Tryz.prog ops Q (o :: rest) a w := by
 refine wpList_plain hgd fun K hK => ?_
 unfold Oper.wp execOp
 simp only [ho, List.map_toArray, List.map_nil, Sem.run_bind, build0, Result.andThen_ok, Sem.run_pure]
 exact hK _ _ h
theorem wpList_alloc_id {ops : Array Oper} {rest : List Oper} {o : Oper} {a : Act} {w : World} {Q : Exit → Act → World → Prop} (hgd : o.guard = none) (ho : o.op = .alloc 75)
   (h : wpList Tryz.prog ops Q rest (a.put o.dst (.pointer (some ⟨w.heap.size, 0, none⟩))) (w.alloc (.cells (cs nought) 75))) : wpList Tryz.prog ops Q (o :: rest) a w := by
 refine wpList_plain hgd fun K hK => ?_
 have zv := zero_v w
 unfold Oper.wp execOp
 simp only [ho, Instr.alloc, newVar, newRow, Sem.run_bind, zv, Result.andThen_ok, Sem.run_pure, Value.cells]
 exact hK _ _ h
theorem results_box {fn : Func} {p q : Tmp} (h : fn.results = #[.cell p 75, .tmp q]) (tmps : Array Value) (w : World) (g : Nat) (x : Idn) (v : Value)
   (hp : tmps.getD p undef = .pointer (some ⟨g, 0, none⟩)) (hq : tmps.getD q undef = v) (hg : Box w g x) : (results fn tmps).run Tryz.prog w = .ok (.tuple #[.agg (cs x), v]) w := by
 obtain ⟨t, ht⟩ := hg
 have hp' : tmps[p]?.getD undef = .pointer (some ⟨g, 0, none⟩) := by simpa using hp
 have hq' : tmps[q]?.getD undef = v := by simpa using hq
 simp [results, h, hp', hq', asAddr, run_loadVar_row w g t 75 (cs x) (0, 0) _ ht Tryz.underlying75 rfl (info_cs x)]
end Go.Proofs.YtgoapaanmcmlmaaGreatDoor.IdJ
namespace Go.Proofs.YtgoapaanmcmlmaaGreatDoor.CmH
set_option maxRecDepth 100000
open Go Go.RowKit Byt IdM IdW OpsM OpsW CmM StW CmW CmR CmP CmY
def Out (c : Com) (w : World) (e : Ending) (w' : World) : Prop :=
 e = .returned (.tuple #[.agg (cs (if mayK c = true then hashK c else nought)), .int .i64 (if mayK c = true then 0 else 1)]) ∧ Below w.heap.size w w'
set_option maxRecDepth 100000 in
set_option maxHeartbeats 8000000 in
theorem hash_no (v : Cv) (w : World) (S : In w v) (ho : Okay v.c) (hm : mayK v.c = false) : Calls Tryz.prog 97 #[.agg (cc v)] w (Out v.c w) := by
 have R0 : Cel.Box CE ((w.alloc (.cells (cc v) 29)).alloc (.cells (cs nought) 75)) w.heap.size v := (Cel.Box.new (E := CE) w v 29).alloc _
 have G0 : IdW.Box ((w.alloc (.cells (cc v) 29)).alloc (.cells (cs nought) 75)) (w.heap.size + 1) nought := by
   have z : (w.alloc (.cells (cc v) 29)).heap.size = w.heap.size + 1 := by simp
   rw [← z]
   exact IdW.Box.new _ nought _
 have k0 : Below w.heap.size w ((w.alloc (.cells (cc v) 29)).alloc (.cells (cs nought) 75)) := ((Below.refl _ _).alloc (Nat.le_refl _) _).alloc (by simp) _
 have S0 := S.below k0
 have cp := fun W T => CmP.put_no v W T ho hm
 have HQ : Hid (mayK v.c = false) := aside hm
 clear S ho hm
 go_enter Tryz.func97, Tryz.ntmps97
 go_wp2_with (first | go_skip | (refine IdJ.wpList_alloc_id rfl rfl ?_) | (refine Cel.wpList_load_box CE rfl _ rfl _ rfl v R0 ?_))
 refine (cp _ S0).mono ?_
 rintro e w1 ⟨rfl, k1⟩
 have G1 := G0.below k1 G0.lt
 have b1 := k0.trans (k1.mono k0.size)
 clear cp R0 G0 k0 S0 k1
 go_wp2_with (first | go_skip | (refine IdJ.wpList_build0 rfl rfl ?_) | (refine IdJ.wpList_store_box rfl _ _ rfl (w.heap.size + 1) rfl nought nought G1 rfl ?_))
 exact bodyPost_ret (v := .tuple #[.agg (cs nought), .int .i64 1]) (IdJ.results_box Tryz.results97 _ _ (w.heap.size + 1) nought _ rfl rfl (IdJ.Box.row G1 nought)) rfl ⟨by rw [HQ.out]; rfl, IdJ.below_row b1 (by omega) _⟩
set_option maxRecDepth 100000 in
set_option maxHeartbeats 8000000 in
theorem hash_yes (v : Cv) (w : World) (S : In w v) (ho : Okay v.c) (hm : mayK v.c = true) : Calls Tryz.prog 97 #[.agg (cc v)] w (Out v.c w) := by
 have R0 : Cel.Box CE ((w.alloc (.cells (cc v) 29)).alloc (.cells (cs nought) 75)) w.heap.size v := (Cel.Box.new (E := CE) w v 29).alloc _
 have G0 : IdW.Box ((w.alloc (.cells (cc v) 29)).alloc (.cells (cs nought) 75)) (w.heap.size + 1) nought := by
   have z : (w.alloc (.cells (cc v) 29)).heap.size = w.heap.size + 1 := by simp
   rw [← z]
   exact IdW.Box.new _ nought _
 have k0 : Below w.heap.size w ((w.alloc (.cells (cc v) 29)).alloc (.cells (cs nought) 75)) := ((Below.refl _ _).alloc (Nat.le_refl _) _).alloc (by simp) _
 have S0 := S.below k0
 have cp := fun W T => CmP.put_yes v W T ho hm
 have HQ : Hid (mayK v.c = true) := aside hm
 have hl := putK_len hm
 clear S ho hm
 go_enter Tryz.func97, Tryz.ntmps97
 go_wp2_with (first | go_skip | (refine IdJ.wpList_alloc_id rfl rfl ?_) | (refine Cel.wpList_load_box CE rfl _ rfl _ rfl v R0 ?_))
 refine (cp _ S0).mono ?_
 rintro _ w1 ⟨pv, rfl, own, k1⟩
 obtain ⟨A1, c1, rfl, S1⟩ := Sl.own own (putK_B _)
 have G1 := G0.below k1 G0.lt
 have b1 := k0.trans (k1.mono k0.size)
 clear cp R0 G0 k0 S0 k1 own
 obtain ⟨n, hn⟩ : ∃ n, (putK v.c).length = n := ⟨_, rfl⟩
 have cs := CmS.dsum S1 rfl (by omega)
 rw [hn] at cs
 rw [hn]
 clear hl hn
 go_wp2_with (first | go_skip | (refine IdJ.wpList_build0 rfl rfl ?_))
 refine cs.mono ?_
 rintro _ w2 ⟨rfl, k2⟩
 have G2 := G1.below k2 G1.lt
 have b2 := b1.trans (k2.mono b1.size)
 clear cs k2 b1 G1
 go_wp2_with (first | go_skip | (refine IdJ.wpList_store_box rfl _ _ rfl (w.heap.size + 1) rfl nought (hashK v.c) G2 rfl ?_))
 exact bodyPost_ret (v := .tuple #[.agg (IdW.cs (hashK v.c)), .int .i64 0]) (IdJ.results_box Tryz.results97 _ _ (w.heap.size + 1) (hashK v.c) _ rfl rfl (IdJ.Box.row G2 (hashK v.c))) rfl ⟨by rw [HQ.out]; rfl, IdJ.below_row b2 (by omega) _⟩
theorem hash_ret (v : Cv) (w : World) (S : In w v) (ho : Okay v.c) : Calls Tryz.prog 97 #[.agg (cc v)] w (Out v.c w) := by
 cases hm : mayK v.c with
 | false => exact hash_no v w S ho hm
 | true => exact hash_yes v w S ho hm
end Go.Proofs.YtgoapaanmcmlmaaGreatDoor.CmH
namespace Go.Proofs.YtgoapaanmcmlmaaGreatDoor.CmY
set_option maxRecDepth 100000
open Go Go.Sort Go.RowKit Byt IdM IdW OpsM OpsW CmM StW CmW
theorem put_doc (v : Cv) (w : World) (S : In w v) (ho : CmR.Okay v.c) : Calls Tryz.prog 26 #[.agg (cc v)] w (PutOut v.c w) := by
 cases h : mayK v.c with
 | false =>
   refine (CmP.put_no v w S ho h).mono ?_
   rintro e w' ⟨rfl, k⟩
   obtain ⟨h1, h2, _⟩ := putB_no h
   refine ⟨none, 0, by rw [h1, h2]; rfl, by rw [h1]; exact Sl.nil w', k⟩
 | true =>
   refine (CmP.put_yes v w S ho h).mono ?_
   rintro e w' ⟨x, rfl, own, k⟩
   obtain ⟨h1, h2, _⟩ := putB_yes h
   obtain ⟨A, cap, rfl, S'⟩ := Sl.own own (putK_B _)
   exact ⟨A, cap, by rw [h1, h2], by rw [h1]; exact S', k⟩
theorem hash_doc (v : Cv) (w : World) (S : In w v) (ho : CmR.Okay v.c) : Calls Tryz.prog 97 #[.agg (cc v)] w (HashOut v.c w) := CmH.hash_ret v w S ho
end Go.Proofs.YtgoapaanmcmlmaaGreatDoor.CmY
namespace Go.Proofs.YtgoapaanmcmlmaaGreatDoor.RefF
set_option maxRecDepth 100000
open Go.RowKit Byt BytR EncM EncC RefE
def GInv (bs : List Int) (i n p : Nat) : Prop :=
 (i ≤ 9 ∧ p = 2 ^ (7 * i) ∧ n < 2 ^ (7 * i) ∧ getL bs = getG i n (bs.drop i)) ∨ (i = 10 ∧ getL bs = (0, 0))
theorem ginv_start (bs : List Int) : GInv bs 0 0 1 := .inl ⟨by omega, rfl, by simp, rfl⟩
theorem pw_le (i : Nat) (h : i ≤ 9) : 2 ^ (7 * i) ≤ 9223372036854775808 := by
 have : 2 ^ (7 * i) ≤ 2 ^ 63 := Nat.pow_le_pow_right (by omega) (by omega)
 omega
theorem drop_cons {bs : List Int} {i : Nat} (h : i < bs.length) : bs.drop i = bs[i]?.getD 0 :: bs.drop (i + 1) := by
 rw [List.drop_eq_getElem_cons h, List.getElem?_eq_getElem h]
 rfl
theorem ginv_more {bs : List Int} {i n p : Nat} {y : Int} (h : GInv bs i n p) (hi : i < bs.length) (hi2 : i < 10) (hy : bs[i]?.getD 0 = y) (hy1 : 128 ≤ y) :
   GInv bs (i + 1) ((n + p * (y % 128).toNat) % 18446744073709551616) (p * 128 % 18446744073709551616) := by
 rcases h with ⟨h1, rfl, h3, h4⟩ | ⟨h1, _⟩
 · rw [drop_cons hi, hy] at h4
   simp only [getG] at h4
   rw [if_neg (by omega), if_neg (by omega : ¬ y < 128)] at h4
   have hd : (y % 128).toNat ≤ 127 := by omega
   have hle : (y % 128).toNat * 2 ^ (7 * i) ≤ 127 * 2 ^ (7 * i) := Nat.mul_le_mul_right _ hd
   have hs := pw_succ i
   by_cases h9 : i = 9
   · refine .inr ⟨by omega, ?_⟩
     rw [h4]
     split
     · rfl
     · subst h9
       cases hq : bs.drop (9 + 1) with
       | nil => rfl
       | cons b r => simp [getG]
   · have hp := pw_le (i + 1) (by omega)
     rw [if_neg (by omega)] at h4
     refine .inl ⟨by omega, ?_, ?_, ?_⟩
     · rw [Nat.mod_eq_of_lt (by omega)]; omega
     · rw [Nat.mul_comm (2 ^ (7 * i)), Nat.mod_eq_of_lt (by omega)]; omega
     · rw [Nat.mul_comm (2 ^ (7 * i)), Nat.mod_eq_of_lt (by omega)]; exact h4
 · omega
theorem ginv_last {bs : List Int} (hb : ∀ x ∈ bs, B x) {i n p : Nat} {y : Int} (h : GInv bs i n p) (hi : i < bs.length) (hi2 : i < 10) (hy : bs[i]?.getD 0 = y) (hy1 : y < 128) :
   getL bs = if numL ((n + p * (y % 128).toNat) % 18446744073709551616) = bs.take (i + 1) then ((n + p * (y % 128).toNat) % 18446744073709551616, i + 1) else (0, 0) := by
 rcases h with ⟨h1, rfl, h3, h4⟩ | ⟨h1, _⟩
 · obtain ⟨m, hm⟩ : ∃ m, (n + 2 ^ (7 * i) * (y % 128).toNat) % 18446744073709551616 = m := ⟨_, rfl⟩
   have hm2 : m < 18446744073709551616 := by omega
   rw [hm]
   split
   · rename_i he
     have q := getL_num m (bs.drop (i + 1)) hm2
     rw [he, List.take_append_drop, List.length_take, Nat.min_eq_left (by omega)] at q
     exact q
   · rename_i he
     by_cases hz : (getL bs).2 = 0
     · exact getL_zero hz
     · exfalso
       apply he
       obtain ⟨q1, _, _, _, q5⟩ := getL_back hb (N := (getL bs).1) (k := (getL bs).2) rfl hz
       rw [drop_cons hi, hy] at h4
       simp only [getG] at h4
       rw [if_neg (by omega)] at h4
       by_cases hov : 18446744073709551616 ≤ n + (y % 128).toNat * 2 ^ (7 * i)
       · rw [if_pos hov] at h4; rw [h4] at hz; exact absurd rfl hz
       · rw [if_neg hov, if_pos hy1] at h4
         by_cases hz2 : (y % 128).toNat = 0 ∧ 0 < i
         · rw [if_pos hz2] at h4; rw [h4] at hz; exact absurd rfl hz
         · rw [if_neg hz2] at h4
           rw [h4] at q5
           have e : n + (y % 128).toNat * 2 ^ (7 * i) = m := by rw [← hm, Nat.mul_comm (2 ^ (7 * i)), Nat.mod_eq_of_lt (by omega)]
           simp only [e] at q5
           exact q5.symm
 · omega
theorem ginv_end {bs : List Int} {i n p : Nat} (h : GInv bs i n p) (hi : bs.length ≤ i ∨ 10 ≤ i) : getL bs = (0, 0) := by
 rcases h with ⟨h1, _, _, h4⟩ | ⟨_, h⟩
 · rw [h4, List.drop_eq_nil_of_le (by omega)]
   rfl
 · exact h
theorem numL_B (n : Nat) : ∀ x ∈ numL n, B x := numL_range n
set_option maxRecDepth 100000 in
set_option maxHeartbeats 8000000 in
theorem get {A : Option Addr} {len cap : Nat} {bs : List Int} {w : World} (hS : Sl w A cap bs) (hl : bs.length = len) (hlen : len ≤ 1099511627776) :
   Calls Tryz.prog 59 #[.slice A len cap] w fun e w' => e = .returned (.tuple #[.int .u64 ((getL bs).1 : Nat), .int .i64 ((getL bs).2 : Nat)]) ∧ Below w.heap.size w w' := by
 have HL := aside hl
 clear hl
 go_enter Tryz.func59, Tryz.ntmps59
 go_wp2_with fail
 go_loopw [4, 5, 6] (fun vn vp vi wr => ∃ i n p : Nat, vn = .int .u64 n ∧ vp = .int .u64 p ∧ vi = .int .i64 i ∧ i ≤ 10 ∧ i ≤ len ∧ Hid (GInv bs i n p) ∧ Hid (n < 18446744073709551616 ∧ p < 18446744073709551616) ∧ Below w.heap.size w wr) (fun _ _ vi _ => 10 - (intOf vi).toNat)
 case atStart => exact ⟨0, 0, 1, rfl, rfl, rfl, by omega, by omega, ginv_start bs, aside ⟨by omega, by omega⟩, Below.refl _ _⟩
 case round =>
   obtain ⟨i, n, p, rfl, rfl, rfl, hi, hi2, HG, HB, hb⟩ := hrel
   by_cases hin : i < len ∧ i < 10
   · obtain ⟨i1, i2⟩ := hin
     have hSw := hS.below hb
     obtain ⟨b, off, rfl, hblk, hcs⟩ := hS.plain (by have := HL.out; omega)
     obtain ⟨y, hy⟩ : ∃ y, bs[i]?.getD 0 = y := ⟨_, rfl⟩
     have hcx : wr.cell? ⟨b, off + i, none⟩ = some (.int .u8 y) := by
       rw [← hy, ← List.getD_eq_getElem?_getD]
       exact (hb.cell (p := ⟨b, off + i, none⟩) hblk).trans (hcs i (by have := HL.out; omega))
     have hyB : B y := by
       rw [← hy, List.getElem?_eq_getElem (by have := HL.out; omega)]
       exact hS.bytes _ (List.getElem_mem _)
     obtain ⟨y0, y1⟩ := hyB
     obtain ⟨Q, hQ⟩ : ∃ Q, p * (y % 128).toNat % 18446744073709551616 = Q := ⟨_, rfl⟩
     obtain ⟨n2, hn2⟩ : ∃ n2, (n + p * (y % 128).toNat) % 18446744073709551616 = n2 := ⟨_, rfl⟩
     obtain ⟨p2, hp2⟩ : ∃ p2, p * 128 % 18446744073709551616 = p2 := ⟨_, rfl⟩
     have w1 : IntKind.u64.wrap ((p : Int) * (y % 128)) = (Q : Int) := by
       have e : (p : Int) * (y % 128) = ((p * (y % 128).toNat : Nat) : Int) := by
         rw [Int.natCast_mul, Int.toNat_of_nonneg (by omega)]
       rw [IntKind.wrap_u64, e, ← hQ]; omega
     have w2 : IntKind.u64.wrap ((n : Int) + (Q : Int)) = (n2 : Int) := by
       rw [IntKind.wrap_u64, ← hn2, ← hQ]; omega
     have w3 : IntKind.u64.wrap ((p : Int) * 128) = (p2 : Int) := by
       rw [IntKind.wrap_u64, ← hp2]; omega
     have f2 : Hid (n2 < 18446744073709551616 ∧ p2 < 18446744073709551616) := aside ⟨by omega, by omega⟩
     by_cases hy1 : y < 128
     · have hlast := ginv_last hS.bytes HG.out (by have := HL.out; omega) i2 hy hy1
       rw [hn2] at hlast
       have hteq := strOf_beq (numL_B n2) (b := bs.take (i + 1)) (fun x hx => hS.bytes x (List.mem_of_mem_take hx))
       obtain ⟨A3, c3, hs3, hS3, hl3⟩ := (hSw.below (w' := wr.drew) ⟨rfl, rfl, rfl, Nat.le_refl _, fun _ _ => rfl⟩).part 0 (i + 1) (by omega) (by have := HL.out; omega)
       have hr3 := fun W => run_part_h W (some ⟨b, off, none⟩) len cap .i64 (i + 1) (by have := hS.1; have := HL.out; omega)
       have e1 : ((i + 1 : Nat) : Int) = (i : Int) + 1 := by omega
       rw [hs3, Nat.sub_zero, e1] at hr3
       rw [List.drop_zero, Nat.sub_zero] at hS3 hl3
       have hcv := hS3.conv hl3
       have HL3 := aside hl3
       have HLa := aside hlast
       have HT := aside hteq
       have hfit : Fits n2 := f2.out.1
       clear hQ hn2 hp2 HB hy hs3 hlast hteq e1 HG hl3
       by_cases he : numL n2 = bs.take (i + 1)
       · have teq : ((strOf (numL n2)).toList == (strOf (bs.take (i + 1))).toList) = true := by rw [HT.out]; simpa using he
         have HE := aside he
         clear he
         go_wp2_with fail
         have m1 : IntKind.i64.wrap ((i : Int) + 1) = (i : Int) + 1 := IntWalk.i64_in _ (by omega)
         have m2 : 0 ≤ (i : Int) + 1 := by omega
         have m3 : ((i : Int) + 1).toNat = i + 1 := by omega
         go_region_with (go_at_call 49; refine (RefE.num n2 hfit _).mono ?_; rintro e w5 ⟨v5, rfl, hown5, hb5⟩; obtain ⟨A5, c5, rfl, hS5⟩ := Sl.own hown5 (numL_B n2); have hcv5 := hS5.conv rfl; have hcv6 := (hS3.below hb5).conv HL3.out; clear hown5)
         all_goals clear m1 m2 m3 hcv hcv5 hcv6 hr3
         all_goals go_wp2_with fail
         all_goals exact bodyPost_ret (v := .tuple #[.int .u64 n2, .int .i64 ((i : Int) + 1)]) (by simp [results, Tryz.results59, go_sem]) rfl ⟨by rw [HLa.out, if_pos HE.out]; rfl, (below_drew1 hb).trans (hb5.mono hb.size)⟩
       · have teq : ((strOf (numL n2)).toList == (strOf (bs.take (i + 1))).toList) = false := by rw [HT.out]; simpa using he
         have HE := aside he
         clear he
         go_wp2_with fail
         have m1 : IntKind.i64.wrap ((i : Int) + 1) = (i : Int) + 1 := IntWalk.i64_in _ (by omega)
         have m2 : 0 ≤ (i : Int) + 1 := by omega
         have m3 : ((i : Int) + 1).toNat = i + 1 := by omega
         go_region_with (go_at_call 49; refine (RefE.num n2 hfit _).mono ?_; rintro e w5 ⟨v5, rfl, hown5, hb5⟩; obtain ⟨A5, c5, rfl, hS5⟩ := Sl.own hown5 (numL_B n2); have hcv5 := hS5.conv rfl; have hcv6 := (hS3.below hb5).conv HL3.out; clear hown5)
         all_goals clear m1 m2 m3 hcv hcv5 hcv6 hr3
         all_goals go_wp2_with fail
         all_goals exact bodyPost_ret (v := .tuple #[.int .u64 0, .int .i64 0]) (by simp [results, Tryz.results59, go_sem]) rfl ⟨by rw [HLa.out, if_neg HE.out]; rfl, (below_drew1 hb).trans (hb5.mono hb.size)⟩
     · have hmore := ginv_more HG.out (by have := HL.out; omega) i2 hy (by omega)
       rw [hn2, hp2] at hmore
       have HM := aside hmore
       clear hQ hn2 hp2 hmore HB hy
       go_wp2_with fail
       go_roundw
       case rel => exact ⟨i + 1, n2, p2, rfl, rfl, by simp, by omega, by omega, HM, f2, hb⟩
       case measure => simp [intOf]; omega
   · have hend := ginv_end HG.out (by have := HL.out; omega)
     have HE := aside hend
     clear hend
     by_cases hl2 : i < len
     · have h10 : ¬ (i : Int) < 10 := by omega
       go_wp2_with fail
       exact bodyPost_ret (v := .tuple #[.int .u64 0, .int .i64 0]) (by simp [results, Tryz.results59, go_sem]) rfl ⟨by rw [HE.out]; rfl, hb⟩
     · go_wp2_with fail
       exact bodyPost_ret (v := .tuple #[.int .u64 0, .int .i64 0]) (by simp [results, Tryz.results59, go_sem]) rfl ⟨by rw [HE.out]; rfl, hb⟩
end Go.Proofs.YtgoapaanmcmlmaaGreatDoor.RefF
namespace Go.Proofs.YtgoapaanmcmlmaaGreatDoor.CmD
set_option maxRecDepth 100000
open Go Go.Sort Go.RowKit Byt EncM EncC IdM IdW IdB OpsM CmM StW CmW
structure Rd where
 a : Option Addr
 k : Nat
 l : List Int
 bad : Bool
def RE : Cel.Cel Rd where
 T := 86
 k := 2
 bytes := 32
 d := _
 enc r := [.slice r.a r.l.length r.k, .bool r.bad]
 zero := ⟨none, 0, [], false⟩
 len _ := rfl
 one c v hv := by
   simp only [List.mem_cons, List.not_mem_nil, or_false] at hv
   rcases hv with rfl | rfl <;> rfl
 pos := by omega
 info := by kernel_rfl
 under := Tryz.underlying86
 row := rfl
theorem rd_cells {w : World} {g : Nat} {r : Rd} (h : Cel.Box RE w g r) : w.cell? ⟨g, 0, none⟩ = some (.slice r.a r.l.length r.k) ∧ w.cell? ⟨g, 1, none⟩ = some (.bool r.bad) :=
 ⟨h.cell (j := 0) rfl, h.cell (j := 1) rfl⟩
theorem info_b : (Tryz.prog.info? 4).map (·.size) = some 1 := by kernel_rfl
theorem info_s : (Tryz.prog.info? 22).map (·.size) = some 1 := by kernel_rfl
def isU8 : Value → Bool
 | .int .u8 _ => true
 | _ => false
def NoU8 (w : World) (g : Nat) : Prop := ∀ j v, w.cell? ⟨g, j, none⟩ = some v → isU8 v = false
theorem far_cell {w w' : World} {g : Nat} {x : Addr} {n : Int} (h : w.cell? x = some (.int .u8 n)) (hn : NoU8 w g) (hg : w.grownBy w' (some g)) : w'.cell? x = some (.int .u8 n) := by
 have hlt := block_lt_of_cell h
 have hne : some x.block ≠ some g := by
   intro e
   injection e with e
   have hs := World.cell?_spot h
   have : x = ⟨g, x.off, none⟩ := by
     cases x with
     | mk b o s =>
       simp only at e hs
       rw [e, hs]
   rw [this] at h
   have := hn _ _ h
   cases this
 unfold World.cell? at h ⊢
 rw [hg.block _ hlt hne]
 exact h
theorem sl_far {w w' : World} {g cap : Nat} {A : Option Addr} {l : List Int} (h : Sl w A cap l) (hn : NoU8 w g) (hg : w.grownBy w' (some g)) : Sl w' A cap l := by
 obtain ⟨h1, h2, h4, h5⟩ := h
 refine ⟨h1, h2, h4, ?_⟩
 rcases h5 with h5 | ⟨x, rfl, hc⟩
 · exact .inl h5
 · exact .inr ⟨x, rfl, fun i hi => far_cell (hc i hi) hn hg⟩
theorem sli_far {w w' : World} {g cap : Nat} {A : Option Addr} {l : List Idn} (h : SlI w A cap l) (hn : NoU8 w g) (hg : w.grownBy w' (some g)) : SlI w' A cap l := by
 obtain ⟨h1, h2, h5⟩ := h
 refine ⟨h1, h2, ?_⟩
 rcases h5 with h5 | ⟨x, rfl, hc⟩
 · exact .inl h5
 · exact .inr ⟨x, rfl, fun i hi => far_cell (hc i hi) hn hg⟩
theorem no_rd {w : World} {g : Nat} {r : Rd} (h : Cel.Box RE w g r) : NoU8 w g := by
 intro j v hv
 obtain ⟨t, ht⟩ := h
 rw [cell_of_row w g j _ t (0, 0) ht, List.getElem?_toArray] at hv
 match j, hv with
 | 0, hv => simp [RE] at hv; rw [← hv]; rfl
 | 1, hv => simp [RE] at hv; rw [← hv]; rfl
 | j + 2, hv => simp [RE] at hv
theorem no_cm {w : World} {g : Nat} {c : Cv} (h : Cel.Box CE w g c) : NoU8 w g := by
 intro j v hv
 obtain ⟨t, ht⟩ := h
 rw [cell_of_row w g j _ t (0, 0) ht, List.getElem?_toArray] at hv
 match j, hv with
 | 0, hv => simp [CE] at hv; rw [← hv]; rfl
 | 1, hv => simp [CE] at hv; rw [← hv]; rfl
 | 2, hv => simp [CE] at hv; rw [← hv]; rfl
 | 3, hv => simp [CE] at hv; rw [← hv]; rfl
 | 4, hv => simp [CE] at hv; rw [← hv]; rfl
 | 5, hv => simp [CE] at hv; rw [← hv]; rfl
 | 6, hv => simp [CE] at hv; rw [← hv]; rfl
 | 7, hv => simp [CE] at hv; rw [← hv]; rfl
 | j + 8, hv => simp [CE] at hv
structure Turned (g : Nat) (w w' : World) : Prop where
 grown : w.grownBy w' (some g)
 below : ∀ B, B ≤ g → Below B w w'
theorem Turned.of_below {g : Nat} {w w' : World} (h : Below w.heap.size w w') (hg : g ≤ w.heap.size) : Turned g w w' := ⟨grown_of_below h _, fun _ hB => h.mono (Nat.le_trans hB hg)⟩
theorem Turned.trans {g : Nat} {w w1 w2 : World} (h : Turned g w w1) (k : Turned g w1 w2) : Turned g w w2 := ⟨h.grown.trans k.grown, fun B hB => (h.below B hB).trans (k.below B hB)⟩
structure Read (g : Nat) (r0 : Rd) (l : List Int) (bad : Bool) (w w' : World) (r : Rd) : Prop where
 left : r.l = l
 is : r.bad = bad
 box : Cel.Box RE w' g r
 sl : Sl w' r.a r.k r.l
 part : ∀ V, Sl V r0.a r0.k r0.l → Sl V r.a r.k r.l
 turned : Turned g w w'
theorem part_any {A A2 : Option Addr} {cap c2 k n : Nat} {l : List Int} (hs : sliced A k n cap 1 = .slice A2 (l.drop k).length c2) (hn : l.length = n) (hk : k ≤ n) (V : World) (S : Sl V A cap l) : Sl V A2 c2 (l.drop k) := by
 subst hn
 obtain ⟨A', c', hs', S', _⟩ := S.part k l.length hk (Nat.le_refl _)
 rw [hs] at hs'
 injection hs' with e1 _ e3
 have e2 : (l.drop k).take (l.length - k) = l.drop k := List.take_of_length_le (by rw [List.length_drop]; omega)
 rw [e2] at S'
 rw [e1, e3]
 exact S'
def headI (l : List Int) : Idn := if h : 32 ≤ l.length ∧ ∀ x ∈ l.take 32, 0 ≤ x ∧ x ≤ 255 then ⟨l.take 32, by rw [List.length_take]; omega, h.2⟩ else nought
theorem headI_short {l : List Int} (h : l.length < 32) : headI l = nought := by rw [headI, dif_neg (by omega)]
theorem headI_val {l : List Int} (h : 32 ≤ l.length) (hb : ∀ x ∈ l, B x) : (headI l).val = l.take 32 := by
 rw [headI, dif_pos ⟨h, fun x hx => hb x (List.mem_of_mem_take hx)⟩]
def restI (l : List Int) : List Int := if 32 ≤ l.length then l.drop 32 else l
def part (x : Idn) (k : Nat) : Idn := ⟨(List.range 32).map fun i => if i < k then x.val.getD i 0 else 0, by simp, by
 intro y hy
 simp only [List.mem_map] at hy
 obtain ⟨i, _, rfl⟩ := hy
 have := Idn_at_range x i
 split <;> omega⟩
theorem part_at (x : Idn) (k i : Nat) (hi : i < 32) : (part x k).1.getD i 0 = if i < k then x.1.getD i 0 else 0 := by
 simp [part, List.getD_eq_getElem?_getD, hi]
theorem part_none (x : Idn) : part x 0 = nought := Idn_ext_at fun i hi => by
 rw [part_at x 0 i hi, if_neg (by omega)]
 have e : nought.1 = List.replicate 32 0 := rfl
 rw [e, List.getD_eq_getElem?_getD, List.getElem?_replicate, if_pos hi]
 rfl
theorem part_all (x : Idn) : part x 32 = x := Idn_ext_at fun i hi => by rw [part_at x 32 i hi, if_pos hi]
theorem part_step (x : Idn) (k : Nat) (hk : k < 32) : (cs (part x k)).setIfInBounds k (.int .u8 (x.1.getD k 0)) = cs (part x (k + 1)) := by
 apply Array.ext_getElem?
 intro i
 rw [Array.getElem?_setIfInBounds]
 by_cases hi : i < 32
 · have q := cs_at (part x (k + 1)) i hi
   rw [part_at _ _ i hi] at q
   rw [q]
   by_cases hik : k = i
   · subst hik
     rw [if_pos rfl, if_pos (by rw [cs_size]; exact hi), if_pos (by omega)]
   · rw [if_neg hik, cs_at _ i hi, part_at _ _ i hi]
     by_cases h2 : i < k
     · rw [if_pos h2, if_pos (by omega)]
     · rw [if_neg h2, if_neg (by omega)]
 · have e1 : (cs (part x k))[i]? = none := Array.getElem?_eq_none (by rw [cs_size]; omega)
   have e2 : (cs (part x (k + 1)))[i]? = none := Array.getElem?_eq_none (by rw [cs_size]; omega)
   rw [e1, e2]
   by_cases hik : k = i
   · omega
   · rw [if_neg hik]
theorem Turned.far {g : Nat} {w w' w2 : World} (T : Turned g w w') (hb : Below w.heap.size w' w2) (hg : g ≤ w.heap.size) : Turned g w w2 :=
 ⟨⟨by rw [hb.os, T.grown.os], by rw [hb.tape, T.grown.tape], by rw [hb.output, T.grown.output], Nat.le_trans T.grown.size hb.size, fun k hk hne => (hb.block k hk).trans (T.grown.block k hk hne)⟩, fun B hB => (T.below B hB).trans (hb.mono (Nat.le_trans hB hg))⟩
theorem results_id {fn : Func} {p : Tmp} (h : fn.results = #[.cell p 75]) (tmps : Array Value) (w : World) (g : Nat) (x : Idn)
   (hp : tmps.getD p undef = .pointer (some ⟨g, 0, none⟩)) (hg : Box w g x) : (results fn tmps).run Tryz.prog w = .ok (.agg (cs x)) w := by
 obtain ⟨t, ht⟩ := hg
 have hp' : tmps[p]?.getD undef = .pointer (some ⟨g, 0, none⟩) := by simpa using hp
 simp [results, h, hp', asAddr, run_loadVar_row w g t 75 (cs x) (0, 0) _ ht Tryz.underlying75 rfl (info_cs x)]
theorem box_far {w w' : World} {g b : Nat} {x : Idn} (h : Box w b x) (hg : w.grownBy w' (some g)) (hne : b ≠ g) : Box w' b x := by
 obtain ⟨t, ht⟩ := h
 exact ⟨t, (hg.block _ (Array.getElem?_eq_some_iff.1 ht).1 (fun e => hne (by injection e))).trans ht⟩
set_option maxRecDepth 100000 in
set_option maxHeartbeats 8000000 in
theorem num_ret (r : Rd) (g : Nat) (w : World) (D : Cel.Box RE w g r) (S : Sl w r.a r.k r.l) (hl : r.l.length ≤ 1099511627776) :
   Calls Tryz.prog 61 #[.pointer (some ⟨g, 0, none⟩)] w fun e w' => e = .returned (.int .u64 ((getL r.l).1 : Nat)) ∧ ∃ r', Read g r (r.l.drop (getL r.l).2) (r.bad || decide ((getL r.l).2 = 0)) w w' r' := by
 obtain ⟨c0, c1⟩ := rd_cells D
 have q := RefF.get S rfl hl
 have hk2 := (getL_le S.bytes).2.2
 have hglt := D.lt
 obtain ⟨n, hn⟩ : ∃ n, (getL r.l).1 = n := ⟨_, rfl⟩
 obtain ⟨k, hk⟩ : ∃ k, (getL r.l).2 = k := ⟨_, rfl⟩
 rw [hn, hk] at q ⊢
 rw [hk] at hk2
 clear hn hk
 obtain ⟨A2, c2, hs, S2, hl2⟩ := S.part k r.l.length hk2 (Nat.le_refl _)
 have e2 : (r.l.drop k).take (r.l.length - k) = r.l.drop k := List.take_of_length_le (by rw [List.length_drop]; omega)
 rw [e2] at S2 hl2
 rw [← hl2] at hs
 have hP := part_any hs rfl hk2
 obtain ⟨l2, hll⟩ : ∃ l, r.l.drop k = l := ⟨_, rfl⟩
 rw [hll] at S2 hl2 hs hP ⊢
 obtain ⟨N, hN⟩ : ∃ N, r.l.length = N := ⟨_, rfl⟩
 rw [hN] at q c0 hs hk2
 have hr : ∀ W, (Instr.sliceAt 22 (.slice r.a N r.k) (some (.int .i64 (k : Nat))) none none).run Tryz.prog W = .ok (.slice A2 l2.length c2) W := fun W => by
   rw [run_part_l W r.a N r.k .i64 k hk2, hs]
 have HN := aside hN
 clear hs hl2 e2 hll S hN
 go_enter Tryz.func61, Tryz.ntmps61
 go_wp2_with fail
 refine q.mono ?_
 rintro e w1 ⟨rfl, k1⟩
 have D1 := D.below k1
 have S1 := S2.below k1
 have T1 := Turned.of_below k1 (Nat.le_of_lt hglt)
 clear q c0 c1 D S2 k1
 obtain ⟨c0, c1⟩ := rd_cells D1
 rw [HN.out] at c0
 by_cases hk0 : k = 0
 · subst hk0
   have hr0 : ∀ W, (Instr.sliceAt 22 (.slice r.a N r.k) (some (.int .i64 0)) none none).run Tryz.prog W = .ok (.slice A2 l2.length c2) W := hr
   clear hr
   go_wp2_with (first | go_skip | (refine Cel.wpList_store_field RE rfl rfl 4 _ _ rfl info_b g 1 rfl (of_decide_eq_true rfl) r D1 ⟨r.a, r.k, r.l, true⟩ _ rfl rfl rfl rfl ?_; intro w2 D2 f2 g2 s2; have T2 := T1.trans ⟨g2, f2⟩; have S3 := sl_far S1 (no_rd D1) g2; clear c0 c1; obtain ⟨c0, c1⟩ := rd_cells D2; rw [HN.out] at c0) | (refine Cel.wpList_store_field RE rfl rfl 22 _ _ rfl info_s g 0 rfl (of_decide_eq_true rfl) ⟨r.a, r.k, r.l, true⟩ D2 ⟨A2, c2, l2, true⟩ _ rfl rfl rfl rfl ?_; intro w3 D3 f3 g3 s3))
   go_ret
   exact ⟨rfl, ⟨A2, c2, l2, true⟩, rfl, by simp, D3, sl_far S3 (no_rd D2) g3, hP, T2.trans ⟨g3, f3⟩⟩
 · have hkb : ((k : Int) == 0) = false := by simp; omega
   go_wp2_with (first | go_skip | (refine Cel.wpList_store_field RE rfl rfl 22 _ _ rfl info_s g 0 rfl (of_decide_eq_true rfl) r D1 ⟨A2, c2, l2, r.bad⟩ _ rfl rfl rfl rfl ?_; intro w3 D3 f3 g3 s3))
   go_ret
   exact ⟨rfl, ⟨A2, c2, l2, r.bad⟩, rfl, by simp [hk0], D3, sl_far S1 (no_rd D1) g3, hP, T1.trans ⟨g3, f3⟩⟩
set_option maxRecDepth 100000 in
set_option maxHeartbeats 8000000 in
theorem id_short (r : Rd) (g : Nat) (w : World) (D : Cel.Box RE w g r) (S : Sl w r.a r.k r.l) (h32 : r.l.length < 32) :
   Calls Tryz.prog 62 #[.pointer (some ⟨g, 0, none⟩)] w fun e w' => e = .returned (.agg (cs (headI r.l))) ∧ ∃ r', Read g r (restI r.l) (r.bad || decide (r.l.length < 32)) w w' r' := by
 have hglt := D.lt
 have G0 : Box ((w.alloc (.cells (cs nought) 75)).alloc (.cells (cs nought) 75)) w.heap.size nought := (Box.new w nought _).alloc _
 have G1 : Box ((w.alloc (.cells (cs nought) 75)).alloc (.cells (cs nought) 75)) (w.heap.size + 1) nought := by
   have := Box.new (w.alloc (.cells (cs nought) 75)) nought 75
   simpa using this
 have kb : Below w.heap.size w ((w.alloc (.cells (cs nought) 75)).alloc (.cells (cs nought) 75)) := ((Below.refl _ _).alloc (Nat.le_refl _) _).alloc (by simp) _
 have D0 := D.below kb
 obtain ⟨c0, c1⟩ := rd_cells D0
 have hlt : ((r.l.length : Int)) < 32 := by omega
 have HQ := aside h32
 go_enter Tryz.func62, Tryz.ntmps62
 go_wp2_with (first | go_skip | (refine IdJ.wpList_alloc_id rfl rfl ?_) | (refine IdJ.wpList_build0 rfl rfl ?_) | (refine wpList_store_new rfl _ _ rfl _ _ nought _ rfl _ rfl (by simp) rfl (cs_size nought) ?_) | (refine Cel.wpList_store_field RE rfl rfl 4 _ _ rfl info_b g 1 rfl (of_decide_eq_true rfl) r D0 ⟨r.a, r.k, r.l, true⟩ _ rfl rfl rfl rfl ?_; intro w2 D2 f2 g2 s2; have T2 := (Turned.of_below kb (Nat.le_of_lt hglt)).trans ⟨g2, f2⟩; have G2 := box_far G0 g2 (by omega); have G3 := box_far G1 g2 (by omega)) | (refine wpList_load_id rfl _ rfl _ _ rfl nought G3.range ?_) | (refine IdJ.wpList_store_box rfl _ _ rfl w.heap.size rfl nought nought G2 rfl ?_))
 have kr := IdJ.below_row (Below.refl w.heap.size w2) (Nat.le_refl w.heap.size) (cs nought)
 have T3 := T2.far kr (Nat.le_of_lt hglt)
 exact bodyPost_ret (v := .agg (cs nought)) (results_id Tryz.results62 _ _ w.heap.size nought rfl (IdJ.Box.row G2 nought)) rfl ⟨by rw [headI_short HQ.out], ⟨r.a, r.k, r.l, true⟩, by rw [restI, if_neg (by have := HQ.out; omega)], by simp [HQ.out], D2.block kr hglt, sl_far S (no_rd D) T3.grown, fun _ S => S, T3⟩
set_option maxRecDepth 100000 in
set_option maxHeartbeats 8000000 in
theorem id_long (r : Rd) (g : Nat) (w : World) (D : Cel.Box RE w g r) (S : Sl w r.a r.k r.l) (h32 : 32 ≤ r.l.length) :
   Calls Tryz.prog 62 #[.pointer (some ⟨g, 0, none⟩)] w fun e w' => e = .returned (.agg (cs (headI r.l))) ∧ ∃ r', Read g r (restI r.l) (r.bad || decide (r.l.length < 32)) w w' r' := by
 have hglt := D.lt
 have G0 : Box ((w.alloc (.cells (cs nought) 75)).alloc (.cells (cs nought) 75)) w.heap.size nought := (Box.new w nought _).alloc _
 have G1 : Box ((w.alloc (.cells (cs nought) 75)).alloc (.cells (cs nought) 75)) (w.heap.size + 1) nought := by
   have := Box.new (w.alloc (.cells (cs nought) 75)) nought 75
   simpa using this
 have kb0 : Below w.heap.size w ((w.alloc (.cells (cs nought) 75)).alloc (.cells (cs nought) 75)) := ((Below.refl _ _).alloc (Nat.le_refl _) _).alloc (by simp) _
 obtain ⟨c0, c1⟩ := rd_cells (D.below kb0)
 obtain ⟨x, hx⟩ : ∃ x, headI r.l = x := ⟨_, rfl⟩
 have HV : Hid (x.val = r.l.take 32) := aside (by rw [← hx]; exact headI_val h32 S.bytes)
 obtain ⟨b, off, hA, hblk, hcs⟩ := S.plain (by omega)
 obtain ⟨A2, c2, hs, S2, hl2⟩ := S.part 32 r.l.length h32 (Nat.le_refl _)
 have e2 : (r.l.drop 32).take (r.l.length - 32) = r.l.drop 32 := List.take_of_length_le (by rw [List.length_drop]; omega)
 rw [e2] at S2 hl2
 have HR : Hid (restI r.l = r.l.drop 32) := aside (by rw [restI, if_pos h32])
 have HC : Hid (∀ i, i < 32 → w.cell? ⟨b, off + i, none⟩ = some (.int .u8 (x.val.getD i 0))) := aside (fun i hi => by
   rw [hcs i (by omega), HV.out, List.getD_eq_getElem?_getD, List.getD_eq_getElem?_getD, List.getElem?_take, if_pos hi])
 obtain ⟨N, hN⟩ : ∃ N, r.l.length = N := ⟨_, rfl⟩
 have HN := aside hN
 have HD : Hid ((r.bad || decide (r.l.length < 32)) = r.bad) := aside (by rw [decide_eq_false (by omega), Bool.or_false])
 rw [← hl2] at hs
 have hP := part_any hs rfl h32
 obtain ⟨l2, hll⟩ : ∃ l, r.l.drop 32 = l := ⟨_, rfl⟩
 rw [hll] at S2 hl2 HR hs hP
 rw [hN, hA] at hs
 rw [hN, hA] at c0
 rw [hN] at h32
 rw [hx, HD.out]
 have hr : ∀ W, (Instr.sliceAt 22 (.slice (some ⟨b, off, none⟩) N r.k) (some (.int .i64 32)) none none).run Tryz.prog W = .ok (.slice A2 l2.length c2) W := fun W => by
   have := run_part_l W (some ⟨b, off, none⟩) N r.k .i64 32 h32
   rw [hs] at this
   exact this
 have hge : ¬ ((N : Int)) < 32 := by omega
 clear hs hl2 e2 hll hN hx hcs HV
 go_enter Tryz.func62, Tryz.ntmps62
 go_wp2_with (first | go_skip | (refine IdJ.wpList_alloc_id rfl rfl ?_) | (refine IdJ.wpList_build0 rfl rfl ?_) | (refine wpList_store_new rfl _ _ rfl _ _ nought _ rfl _ rfl (by simp) rfl (cs_size nought) ?_))
 clear c0 c1
 go_loopw [4] (fun i wr => ∃ k : Nat, k ≤ 32 ∧ i = .int .i64 k ∧ Box wr w.heap.size nought ∧ Box wr (w.heap.size + 1) (part x k) ∧ Below w.heap.size w wr) (fun i _ => 32 - (intOf i).toNat)
 case atStart => exact ⟨0, Nat.zero_le _, rfl, G0, by rw [part_none]; exact G1, kb0⟩
 case round =>
   clear G0 G1 kb0
   obtain ⟨k, hk, rfl, G0, G1, kb⟩ := hrel
   obtain ⟨c0, c1⟩ := rd_cells (D.below kb)
   rw [HN.out, hA] at c0
   by_cases hlt : k < 32
   · have p0 : (k : Int) < 32 := by omega
     have p1 : (k : Int) < N := by omega
     have m0 : ((k : Int)).toNat = k := by omega
     have cx := (kb.cell (p := ⟨b, off + k, none⟩) hblk).trans (HC.out k hlt)
     obtain ⟨y, hy⟩ : ∃ y, x.val.getD k 0 = y := ⟨_, rfl⟩
     rw [hy] at cx
     have HY := aside hy
     clear hy
     have cK := G1.cell k hlt
     have fK := IdJ.Box.frozen G1 k
     go_wp2_with (first | go_skip)
     go_roundw
     case rel => exact ⟨k + 1, by omega, by go_num, IdJ.Box.other G0 (by simp) _, IdJ.Box.put G1 k _ (by rw [← HY.out]; exact part_step x k hlt), IdJ.below_cell kb (by omega) _⟩
     case measure => simp [intOf]; omega
   · have e : k = 32 := by omega
     rw [e, part_all] at G1
     clear e
     have D0 := D.below kb
     go_wp2_with (first | go_skip | (refine Cel.wpList_store_field RE rfl rfl 22 _ _ rfl info_s g 0 rfl (of_decide_eq_true rfl) r D0 ⟨A2, c2, l2, r.bad⟩ _ rfl rfl rfl rfl ?_; intro w3 D3 f3 g3 s3; have T3 := (Turned.of_below kb (Nat.le_of_lt hglt)).trans ⟨g3, f3⟩; have G2 := box_far G0 g3 (by omega); have G3 := box_far G1 g3 (by omega)) | (refine wpList_load_id rfl _ rfl _ _ rfl x G3.range ?_) | (refine IdJ.wpList_store_box rfl _ _ rfl w.heap.size rfl nought x G2 rfl ?_))
     have kr := IdJ.below_row (Below.refl w.heap.size w3) (Nat.le_refl w.heap.size) (cs x)
     have T4 := T3.far kr (Nat.le_of_lt hglt)
     exact bodyPost_ret (v := .agg (cs x)) (results_id Tryz.results62 _ _ w.heap.size x rfl (IdJ.Box.row G2 x)) rfl ⟨rfl, ⟨A2, c2, l2, r.bad⟩, HR.out.symm, rfl, D3.block kr hglt, sl_far S2 (no_rd D) T4.grown, hP, T4⟩
theorem id_ret (r : Rd) (g : Nat) (w : World) (D : Cel.Box RE w g r) (S : Sl w r.a r.k r.l) :
   Calls Tryz.prog 62 #[.pointer (some ⟨g, 0, none⟩)] w fun e w' => e = .returned (.agg (cs (headI r.l))) ∧ ∃ r', Read g r (restI r.l) (r.bad || decide (r.l.length < 32)) w w' r' := by
 by_cases h : r.l.length < 32
 · exact id_short r g w D S h
 · exact id_long r g w D S (by omega)
end Go.Proofs.YtgoapaanmcmlmaaGreatDoor.CmD
