/- Which bytes are no commit, by the numbers that they begin with, by what stands behind these. No condition. | What ops.gets and its functions, and ops.Get, return: contracts. | What ops.Get returns: contracts. -/
import Derived.Test.YtgoapaanmcmlmaaGreatDoorForksJ3
import Derived.Test.YtgoapaanmcmlmaaGreatDoorGrowBJ2
import Derived.Test.YtgoapaanmcmlmaaGreatDoorEncGJ6
namespace Go.Proofs.YtgoapaanmcmlmaaGreatDoor.CmQ
set_option maxRecDepth 100000
open Byt EncM EncC EncE EncT OpsM IdM CmM CmG
theorem tail_none {a b g n : Nat} {l : List Int} (h : ∀ ps o, ps.length = n → mayK ⟨unfoldI (a : Int), asI b, asI g, ps, o⟩ = false) : tailK a b g n l = none := by
 unfold tailK
 split
 · rfl
 · rename_i ps r hi
   split
   · rfl
   · rename_i o r2 ho
     unfold keepK
     rw [if_neg]
     rw [h ps o (idsL_back n hi).1]
     simp
theorem no_of {c : Com} (h : mayK c = true → False) : mayK c = false := by
 cases hm : mayK c with
 | false => rfl
 | true => exact (h hm).elim
theorem far_node {a b g n : Nat} {l : List Int} (h : 16 < a) : tailK a b g n l = none := tail_none fun ps o _ => no_of fun hm => by
 have := node_may hm
 simp only [unfoldI] at this
 split at this <;> omega
theorem far_seq {a b g n : Nat} {l : List Int} (h : 1048576 < b) (hb : b < 18446744073709551616) : tailK a b g n l = none := tail_none fun ps o _ => no_of fun hm => by
 have := seq_may hm
 simp only [asI] at this
 split at this <;> omega
theorem far_gen {a b g n : Nat} {l : List Int} (h : 1048576 < g) (hb : g < 18446744073709551616) : tailK a b g n l = none := tail_none fun ps o _ => no_of fun hm => by
 have := lineB_iff.1 (mayK_iff.1 hm).1
 simp only [asI] at this
 split at this <;> omega
theorem far_n {a b g n : Nat} {l : List Int} (h : 8 < n) : tailK a b g n l = none := tail_none fun ps o hp => no_of fun hm => by
 have := lineB_iff.1 (mayK_iff.1 hm).1
 simp only at this
 omega
structure Four (bs l1 l2 l3 l4 : List Int) (a b g n ka kb kg kn : Nat) : Prop where
 h1 : getL bs = (a, ka)
 e1 : bs.drop ka = l1
 h2 : getL l1 = (b, kb)
 e2 : l1.drop kb = l2
 h3 : getL l2 = (g, kg)
 e3 : l2.drop kg = l3
 h4 : getL l3 = (n, kn)
 e4 : l3.drop kn = l4
theorem Four.ex (bs : List Int) : ∃ l1 l2 l3 l4 a b g n ka kb kg kn, Four bs l1 l2 l3 l4 a b g n ka kb kg kn :=
 ⟨_, _, _, _, _, _, _, _, _, _, _, _, ⟨rfl, rfl, rfl, rfl, rfl, rfl, rfl, rfl⟩⟩
theorem Four.get {bs l1 l2 l3 l4 : List Int} {a b g n ka kb kg kn : Nat} (F : Four bs l1 l2 l3 l4 a b g n ka kb kg kn) : getK bs = if ka = 0 ∨ kb = 0 ∨ kg = 0 ∨ kn = 0 then none else tailK a b g n l4 := by
 unfold getK
 rw [nums_four F.h1 F.e1 F.h2 F.e2 F.h3 F.e3 F.h4 F.e4]
 by_cases c : ka = 0 ∨ kb = 0 ∨ kg = 0 ∨ kn = 0
 · simp only [if_pos c]
 · simp only [if_neg c]
theorem Four.bytes {bs l1 l2 l3 l4 : List Int} {a b g n ka kb kg kn : Nat} (F : Four bs l1 l2 l3 l4 a b g n ka kb kg kn) (hB : ∀ x ∈ bs, B x) : (∀ x ∈ l1, B x) ∧ (∀ x ∈ l2, B x) ∧ (∀ x ∈ l3, B x) ∧ (∀ x ∈ l4, B x) := by
 have B1 : ∀ x ∈ l1, B x := by rw [← F.e1]; exact fun x hx => hB x (List.mem_of_mem_drop hx)
 have B2 : ∀ x ∈ l2, B x := by rw [← F.e2]; exact fun x hx => B1 x (List.mem_of_mem_drop hx)
 have B3 : ∀ x ∈ l3, B x := by rw [← F.e3]; exact fun x hx => B2 x (List.mem_of_mem_drop hx)
 have B4 : ∀ x ∈ l4, B x := by rw [← F.e4]; exact fun x hx => B3 x (List.mem_of_mem_drop hx)
 exact ⟨B1, B2, B3, B4⟩
theorem Four.fits {bs l1 l2 l3 l4 : List Int} {a b g n ka kb kg kn : Nat} (F : Four bs l1 l2 l3 l4 a b g n ka kb kg kn) (hB : ∀ x ∈ bs, B x) : a < 18446744073709551616 ∧ b < 18446744073709551616 ∧ g < 18446744073709551616 ∧ n < 18446744073709551616 := by
 obtain ⟨B1, B2, B3, _⟩ := F.bytes hB
 refine ⟨?_, ?_, ?_, ?_⟩
 · have := (getL_le hB).1; rw [F.h1] at this; exact this
 · have := (getL_le B1).1; rw [F.h2] at this; exact this
 · have := (getL_le B2).1; rw [F.h3] at this; exact this
 · have := (getL_le B3).1; rw [F.h4] at this; exact this
section
variable {bs l1 l2 l3 l4 : List Int} {a b g n ka kb kg kn : Nat} (F : Four bs l1 l2 l3 l4 a b g n ka kb kg kn) (hB : ∀ x ∈ bs, B x)
include F
theorem Four.bad1 (h : ka = 0 ∨ 16 < a) : getK bs = none := by
 rw [F.get]
 split
 · rfl
 · rename_i hc
   rcases h with h | h
   · exact absurd (.inl h) hc
   · exact far_node h
theorem Four.bad4 (h : kn = 0 ∨ 8 < n) : getK bs = none := by
 rw [F.get]
 split
 · rfl
 · rename_i hc
   rcases h with h | h
   · exact absurd (.inr (.inr (.inr h))) hc
   · exact far_n h
include hB
theorem Four.bad2 (h : kb = 0 ∨ 1048576 < b) : getK bs = none := by
 rw [F.get]
 split
 · rfl
 · rename_i hc
   rcases h with h | h
   · exact absurd (.inr (.inl h)) hc
   · exact far_seq h (F.fits hB).2.1
theorem Four.bad3 (h : kg = 0 ∨ 1048576 < g) : getK bs = none := by
 rw [F.get]
 split
 · rfl
 · rename_i hc
   rcases h with h | h
   · exact absurd (.inr (.inr (.inl h))) hc
   · exact far_gen h (F.fits hB).2.2.1
end
theorem Four.good {bs l1 l2 l3 l4 : List Int} {a b g n ka kb kg kn : Nat} (F : Four bs l1 l2 l3 l4 a b g n ka kb kg kn) (h1 : ka ≠ 0) (h2 : kb ≠ 0 ∧ b ≤ 1048576) (h3 : kg ≠ 0 ∧ g ≤ 1048576) (h4 : kn ≠ 0) :
   getK bs = match idsL n l4 with | none => none | some (ps, r) => match opG (unfoldI (a : Int)) r with | none => none | some (o, r2) => keepK (⟨unfoldI (a : Int), b, g, ps, o⟩, r2) := by
 have e1 : asI b = b := asI_nat (by omega)
 have e2 : asI g = g := asI_nat (by omega)
 rw [F.get, if_neg (by omega)]
 unfold tailK
 rw [e1, e2]
 rfl
end Go.Proofs.YtgoapaanmcmlmaaGreatDoor.CmQ
namespace Go.Proofs.YtgoapaanmcmlmaaGreatDoor.OpsG
set_option maxRecDepth 100000
open Go Go.RowKit Go.Sort Byt OpsM OpsK OpsW OpsC EncM EncC EncG EncE
def GOut (q : Option (Opn × List Int)) (w : World) (e : Ending) (w' : World) : Prop :=
 Below w.heap.size w w' ∧ match q with
   | none => ∃ o A n c, e = .returned (.tuple #[.agg (opc o), .slice A n c, .bool false])
   | some (o, r) => ∃ A c, e = .returned (.tuple #[.agg (opc o), .slice A r.length c, .bool true]) ∧ Sl w' A c r
theorem GOut.none {w w' : World} {e : Ending} (o : Opn) (A : Option Addr) (n c : Nat) (h : e = .returned (.tuple #[.agg (opc o), .slice A n c, .bool false])) (hb : Below w.heap.size w w') : GOut none w e w' := ⟨hb, o, A, n, c, h⟩
theorem GOut.some {w w' : World} {e : Ending} {o : Opn} {r : List Int} (A : Option Addr) (c : Nat) (h : e = .returned (.tuple #[.agg (opc o), .slice A r.length c, .bool true])) (hS : Sl w' A c r) (hb : Below w.heap.size w w') : GOut (some (o, r)) w e w' := ⟨hb, A, c, h, hS⟩
def rest1 (o : Opn) (r : List Int) : Option (Opn × List Int) := if (getL r).2 = 0 then none else some (⟨o.kind, o.key, ⟨#[]⟩, unfoldI ((getL r).1 : Nat)⟩, r.drop (getL r).2)
def rest2 (o : Opn) (r : List Int) : Option (Opn × List Int) := match cutL r 8 with
 | none => none
 | some (e, r2) => some (⟨o.kind, o.key, strOf e, 0⟩, r2)
set_option maxRecDepth 100000 in
set_option maxHeartbeats 4000000 in
theorem gets1 (g h : Nat) (o : Opn) (A : Option Addr) (len cap : Nat) (r : List Int) (w : World) (hO : OpAt w g o) (hB : One w h (.slice A len cap)) (hS : Sl w A cap r) (hl : r.length = len) :
   Calls Tryz.prog 166 #[.pointer (some ⟨h, 0, none⟩), .pointer (some ⟨g, 0, none⟩)] w (GOut (rest1 o r) w) := by
 have hg := EncG.get (hS.below (below_alloc w (.cells (opc noOp) 27))) hl
 obtain ⟨g1, g2, g3⟩ := getL_le hS.bytes
 obtain ⟨q, hq⟩ : ∃ q, rest1 o r = q := ⟨_, rfl⟩
 have hq2 := hq
 unfold rest1 at hq2
 rw [hq]
 obtain ⟨n, hn⟩ : ∃ n, (getL r).1 = n := ⟨_, rfl⟩
 obtain ⟨k, hk⟩ : ∃ k, (getL r).2 = k := ⟨_, rfl⟩
 rw [hn, hk] at hg hq2
 rw [hn] at g1
 rw [hk] at g2 g3
 rw [hl] at g3
 have cu := unfold (n : Int) (by omega)
 have HQ := aside hq2
 have HL := aside hl
 have HN := aside g1
 have hgl := hO.lt
 have hhl := hB.lt
 have R0 := OpAt.new w noOp 27
 have hb0 : w.cell? ⟨h, 0, none⟩ = some (.slice A len cap) := hB.cell
 have hb1 : (w.alloc (.cells (opc noOp) 27)).cell? ⟨h, 0, none⟩ = some (.slice A len cap) := (hB.below (below_alloc w _)).cell
 clear hq hq2 hn hk g1 hl
 go_enter Tryz.func166, Tryz.ntmps166
 go_wp2_with fail
 refine hg.mono ?_
 clear hg
 rintro e w1 ⟨rfl, h1⟩
 have k1 : Below w.heap.size w w1 := (below_alloc w _).trans (h1.mono (by simp))
 have R1 := R0.below h1
 clear h1 R0 hb1
 obtain ⟨A2, c2, hs2, hS2, hl2⟩ := hS.part k len g3 (by rw [HL.out]; exact Nat.le_refl _)
 have hrun := fun W => run_part_l W A len cap .i64 k g3
 rw [hs2] at hrun
 have hcs : (r.drop k).take (len - k) = r.drop k := by rw [List.take_of_length_le]; rw [List.length_drop, HL.out]; exact Nat.le_refl _
 rw [hcs] at hS2 hl2
 have HL2 := aside hl2
 clear hs2 hcs hl2
 go_wp2_with fail
 refine GrowB.region w.heap.size [(0, true), (1, true), (2, true), (3, true), (4, true), (7, true), (8, true), (9, true), (10, true), (11, true), (5, false), (6, true), (12, false), (13, true), (14, true)] (by kernel_rfl) (by kernel_rfl) rfl (by kernel_rfl) (by intro c a d v w h; cases d <;> exact h) ?_
 have kd := below_drew1 k1
 have R2 : OpAt w1.drew w.heap.size noOp := R1
 obtain ⟨W1, hW1⟩ : ∃ W, w1.drew = W := ⟨_, rfl⟩
 rw [hW1] at kd R2 ⊢
 clear hW1 k1 R1
 have q0 : ∀ p : GrowB.UpTo w.heap.size W1, p.u.cell? ⟨g, 0, none⟩ = some (.int .i64 o.kind) := fun p => (hO.below (kd.trans p.h)).kind
 have q1 : ∀ p : GrowB.UpTo w.heap.size W1, p.u.cell? ⟨g, 1, none⟩ = some (.string o.key) := fun p => (hO.below (kd.trans p.h)).key
 have q2 : ∀ p : GrowB.UpTo w.heap.size W1, p.u.cell? ⟨h, 0, none⟩ = some (.slice A len cap) := fun p => (hB.below (kd.trans p.h)).cell
 clear hb0
 by_cases hk0 : k = 0
 · have t0 : decide (0 < (k : Int)) = false := by simp; omega
   have HQ0 : Hid (none = q) := aside (by have := HQ.out; rwa [if_pos hk0] at this)
   have HK0 : Hid (¬ 0 < k) := aside (by omega)
   clear hk0
   repeat (refine GrowB.reads_below rfl rfl ?_; go_big_quiet_step (fail); refine wpQuiet_nil ?_)
   clear q0 q1 q2
   refine GrowB.acts rfl ?_
   go_wp2_with fail
   refine (cu _).mono ?_
   rintro e w2 ⟨rfl, rfl⟩
   clear cu
   go_wp2_with fail
   refine ⟨Below.refl _ _, ?_⟩
   repeat (refine GrowB.reads_below rfl rfl ?_; go_big_quiet_step (fail); refine wpQuiet_nil ?_)
   refine GrowB.acts rfl ?_
   refine wpList_store_op rfl rfl _ _ rfl _ rfl noOp R2 ⟨o.kind, o.key, ⟨#[]⟩, unfoldI (n : Int)⟩ rfl ?_
   intro w3 R3 k3 g3'
   refine ⟨k3 _ (Nat.le_refl _), ?_⟩
   repeat (refine GrowB.reads_below rfl rfl ?_; go_big_quiet_step (fail); refine wpQuiet_nil ?_)
   refine GrowB.ends ?_
   go_wp2_with fail
   have r0 := R3.kind
   have r1 := R3.key
   have r2 := R3.elem
   have r3 := R3.n
   exact bodyPost_ret (v := .tuple #[.agg (opc ⟨o.kind, o.key, ⟨#[]⟩, unfoldI (n : Int)⟩), .slice A2 (len - k) c2, .bool false]) (by simp [results, Tryz.results166, go_sem, r0, r1, r2, r3, opc, HK0.out]) rfl (by rw [← HQ0.out]; exact GOut.none _ _ _ _ rfl (kd.trans (k3 _ (Nat.le_refl _))))
 · have t0 : decide (0 < (k : Int)) = true := by simp; omega
   have HQ0 : Hid (some ((⟨o.kind, o.key, ⟨#[]⟩, unfoldI (n : Int)⟩ : Opn), r.drop k) = q) := aside (by have := HQ.out; rwa [if_neg hk0] at this)
   have HK0 : Hid (0 < k) := aside (by omega)
   clear hk0
   repeat (refine GrowB.reads_below rfl rfl ?_; go_big_quiet_step (fail); refine wpQuiet_nil ?_)
   clear q0 q1 q2
   refine GrowB.acts rfl ?_
   go_wp2_with fail
   refine (cu _).mono ?_
   rintro e w2 ⟨rfl, rfl⟩
   clear cu
   go_wp2_with fail
   refine ⟨Below.refl _ _, ?_⟩
   repeat (refine GrowB.reads_below rfl rfl ?_; go_big_quiet_step (fail); refine wpQuiet_nil ?_)
   refine GrowB.acts rfl ?_
   refine wpList_store_op rfl rfl _ _ rfl _ rfl noOp R2 ⟨o.kind, o.key, ⟨#[]⟩, unfoldI (n : Int)⟩ rfl ?_
   intro w3 R3 k3 g3'
   refine ⟨k3 _ (Nat.le_refl _), ?_⟩
   repeat (refine GrowB.reads_below rfl rfl ?_; go_big_quiet_step (fail); refine wpQuiet_nil ?_)
   refine GrowB.ends ?_
   go_wp2_with fail
   have r0 := R3.kind
   have r1 := R3.key
   have r2 := R3.elem
   have r3 := R3.n
   have kf := kd.trans (k3 _ (Nat.le_refl _))
   exact bodyPost_ret (v := .tuple #[.agg (opc ⟨o.kind, o.key, ⟨#[]⟩, unfoldI (n : Int)⟩), .slice A2 (len - k) c2, .bool true]) (by simp [results, Tryz.results166, go_sem, r0, r1, r2, r3, opc, HK0.out]) rfl (by rw [← HQ0.out, ← HL2.out]; exact GOut.some _ _ rfl (hS2.below kf) kf)
set_option maxRecDepth 100000 in
set_option maxHeartbeats 4000000 in
theorem gets2 (g h : Nat) (o : Opn) (A : Option Addr) (len cap : Nat) (r : List Int) (w : World) (hO : OpAt w g o) (hB : One w h (.slice A len cap)) (hS : Sl w A cap r) (hl : r.length = len) (hlen : len ≤ 1099511627776) :
   Calls Tryz.prog 167 #[.pointer (some ⟨h, 0, none⟩), .pointer (some ⟨g, 0, none⟩)] w (GOut (rest2 o r) w) := by
 have hg := EncE.cut 8 (hS.below (below_alloc w (.cells (opc noOp) 27))) hl hlen (by omega)
 unfold CutOut at hg
 have hrB : ∀ a r2, cutL r 8 = some (a, r2) → ∀ x ∈ r2, B x := fun a r2 h => (cut_B hS.bytes h).2
 have hb0 : w.cell? ⟨h, 0, none⟩ = some (.slice A len cap) := hB.cell
 have hb1 : (w.alloc (.cells (opc noOp) 27)).cell? ⟨h, 0, none⟩ = some (.slice A len cap) := (hB.below (below_alloc w _)).cell
 have hgl := hO.lt
 have hhl := hB.lt
 have R0 := OpAt.new w noOp 27
 unfold rest2
 cases hc : cutL r 8 with
 | none =>
   rw [hc] at hg
   simp only at hg
   clear hc hrB
   go_enter Tryz.func167, Tryz.ntmps167
   go_wp2_with fail
   refine hg.mono ?_
   clear hg
   rintro e w1 ⟨h1, rfl⟩
   have k1 : Below w.heap.size w w1 := (below_alloc w _).trans (h1.mono (by simp))
   have R1 := R0.below h1
   have O1 := hO.below k1
   have q0 := O1.kind
   have q1 := O1.key
   clear h1 R0 hb1 hb0
   go_wp2_with (refine wpList_store_op rfl rfl _ _ rfl _ rfl noOp R1 ⟨o.kind, o.key, ⟨#[]⟩, 0⟩ rfl ?_; intro w3 R3 k3 g3')
   have r0 := R3.kind
   have r1 := R3.key
   have r2 := R3.elem
   have r3 := R3.n
   exact bodyPost_ret (v := .tuple #[.agg (opc ⟨o.kind, o.key, ⟨#[]⟩, 0⟩), .slice none 0 0, .bool false]) (by simp [results, Tryz.results167, go_sem, r0, r1, r2, r3, opc]) rfl (GOut.none _ _ _ _ rfl (k1.trans (k3 _ (Nat.le_refl _))))
 | some p =>
   obtain ⟨a, r2⟩ := p
   have hb2 := hrB a r2 hc
   rw [hc] at hg
   simp only at hg
   clear hc hrB
   have HB2 := aside hb2
   clear hb2
   go_enter Tryz.func167, Tryz.ntmps167
   go_wp2_with fail
   refine hg.mono ?_
   clear hg
   rintro e w1 ⟨h1, v, rfl, own⟩
   have k1 : Below w.heap.size w w1 := (below_alloc w _).trans (h1.mono (by simp))
   have R1 := R0.below h1
   have O1 := hO.below k1
   have q0 := O1.kind
   have q1 := O1.key
   have OW := aside own
   clear h1 R0 hb1 hb0 own
   go_wp2_with (refine wpList_store_op rfl rfl _ _ rfl _ rfl noOp R1 ⟨o.kind, o.key, strOf a, 0⟩ rfl ?_; intro w3 R3 k3 g3')
   have r0 := R3.kind
   have r1 := R3.key
   have r2 := R3.elem
   have r3 := R3.n
   obtain ⟨A2, c2, rfl, S2⟩ := Sl.own (owns_kept OW.out g3' (by simp)) HB2.out
   exact bodyPost_ret (v := .tuple #[.agg (opc ⟨o.kind, o.key, strOf a, 0⟩), .slice A2 _ c2, .bool true]) (by simp [results, Tryz.results167, go_sem, r0, r1, r2, r3, opc]) rfl (GOut.some _ _ rfl S2 (k1.trans (k3 _ (Nat.le_refl _))))
def GTab (o : Opn) (v : Value) (w : World) (e : Ending) (w' : World) : Prop :=
 ∃ g h m, e = .returned (.map (some m)) ∧ OpAt w' g o ∧ One w' h v ∧ TabAt w' m (.func (.func 166) #[] #[.pointer (some ⟨h, 0, none⟩), .pointer (some ⟨g, 0, none⟩)]) (.func (.func 167) #[] #[.pointer (some ⟨h, 0, none⟩), .pointer (some ⟨g, 0, none⟩)]) ∧ Below w.heap.size w w'
set_option maxHeartbeats 1000000 in
theorem gets (o : Opn) (A : Option Addr) (len cap : Nat) (w : World) :
   Calls Tryz.prog 159 #[.agg (opc o), .slice A len cap] w (GTab o (.slice A len cap) w) := by
 have hz : (w.alloc (.cells (opc o) 27)).heap.size = w.heap.size + 1 := by simp
 have O1 := (OpAt.new w o 27).alloc (.cells #[.slice A len cap] 22)
 have B1 := One.new (w.alloc (.cells (opc o) 27)) (.slice A len cap) 22
 rw [hz] at B1
 have hmm := made 182
 have HZ := aside hz
 clear hz
 go_enter Tryz.func159, Tryz.ntmps159
 go_wp2_with (refine wpList_entry Tryz.underlying182 rfl rfl _ _ _ rfl _ _ _ rfl _ rfl (by simp) _ (by unfold I64; omega) rfl rfl _ rfl ?_)
 go_ret
 have hz2 : ((w.alloc (.cells (opc o) 27)).alloc (.cells #[.slice A len cap] 22)).heap.size = w.heap.size + 1 + 1 := by simp
 have ht := tab_new ((w.alloc (.cells (opc o) 27)).alloc (.cells #[.slice A len cap] 22)) (.func (.func 166) #[] #[.pointer (some ⟨w.heap.size + 1, 0, none⟩), .pointer (some ⟨w.heap.size, 0, none⟩)]) (.func (.func 167) #[] #[.pointer (some ⟨w.heap.size + 1, 0, none⟩), .pointer (some ⟨w.heap.size, 0, none⟩)])
 rw [hz2] at ht
 exact ⟨w.heap.size, w.heap.size + 1, w.heap.size + 1 + 1, rfl, O1.alloc _, B1.below (below_alloc _ _), ht, (((Below.refl _ _).alloc (Nat.le_refl _) _).alloc (by simp) _).alloc (by rw [hz2]; omega) _⟩
end Go.Proofs.YtgoapaanmcmlmaaGreatDoor.OpsG
namespace Go.Proofs.YtgoapaanmcmlmaaGreatDoor.OpsH
set_option maxRecDepth 100000
open Go Go.RowKit Go.Sort Byt OpsM OpsK OpsW OpsC EncM EncC EncG EncE OpsG
def GetOut (q : Option (Opn × List Int)) (w : World) (e : Ending) (w' : World) : Prop :=
 Below w.heap.size w w' ∧ match q with
   | none => e = .returned (.tuple #[.agg (opc noOp), .slice none 0 0, .int .i64 2])
   | some (o, r) => ∃ A c, e = .returned (.tuple #[.agg (opc o), .slice A r.length c, .int .i64 0]) ∧ Sl w' A c r
theorem GetOut.none {q : Option (Opn × List Int)} {w w' : World} {e : Ending} (hq : q = none) (h : e = .returned (.tuple #[.agg (opc noOp), .slice none 0 0, .int .i64 2])) (hb : Below w.heap.size w w') : GetOut q w e w' := by subst hq; exact ⟨hb, h⟩
theorem GetOut.some {q : Option (Opn × List Int)} {w w' : World} {e : Ending} {o : Opn} {r : List Int} (hq : q = some (o, r)) (A : Option Addr) (c : Nat) (h : e = .returned (.tuple #[.agg (opc o), .slice A r.length c, .int .i64 0])) (hS : Sl w' A c r) (hb : Below w.heap.size w w') : GetOut q w e w' := by subst hq; exact ⟨hb, A, c, h, hS⟩
theorem strOf_size (l : List Int) : (strOf l).size = l.length := by simp [strOf, ByteArray.size]
def half (k : Nat) (key : List Int) : Opn := ⟨k, strOf key, ⟨#[]⟩, 0⟩
theorem tail_rest1 (key r : List Int) : tailG 0 key r = rest1 (half 0 key) r := rfl
theorem tail_rest2 {k : Nat} (hk : k ≠ 0) (key r : List Int) : tailG k key r = rest2 (half k key) r := by unfold tailG; rw [if_neg hk]; rfl
theorem rest1_fit {o o' : Opn} {r r' : List Int} (hf : Fit o) (hb : ∀ x ∈ r, B x) (h : rest1 o r = some (o', r')) : Fit o' := by
 unfold rest1 at h
 split at h
 · cases h
 · injection h with h
   obtain ⟨rfl, _⟩ := Prod.mk.inj h
   exact ⟨hf.kind, unfoldI_bd (getL_le hb).1, hf.key, Nat.zero_le _⟩
theorem rest2_fit {o o' : Opn} {r r' : List Int} (hf : Fit o) (hb : ∀ x ∈ r, B x) (h : rest2 o r = some (o', r')) : Fit o' := by
 unfold rest2 at h
 split at h
 · cases h
 · rename_i e r2 hc
   injection h with h
   obtain ⟨rfl, _⟩ := Prod.mk.inj h
   have := (cut_back hb hc).2
   exact ⟨hf.kind, (by show I64 0; unfold I64; omega), hf.key, by show (strOf e).size ≤ _; rw [strOf_size]; unfold maxLen; omega⟩
theorem keep_no {o : Opn} (h : mayO o = false) (r : List Int) : keep (some (o, r)) = none := by simp [keep, h]
theorem keep_yes {o : Opn} (h : mayO o = true) (r : List Int) : keep (some (o, r)) = some (o, r) := by simp [keep, h]
theorem getO_early {bs : List Int} (h : (getL bs).2 = 0 ∨ 4 ≤ (getL bs).1) : getO bs = none := by unfold getO; rw [if_pos h]
theorem getO_cut0 {bs : List Int} (h : ¬ ((getL bs).2 = 0 ∨ 4 ≤ (getL bs).1)) (hc : cutL (bs.drop (getL bs).2) 8 = none) : getO bs = none := by unfold getO; rw [if_neg h, hc]
theorem getO_cut1 {bs key r : List Int} (h : ¬ ((getL bs).2 = 0 ∨ 4 ≤ (getL bs).1)) (hc : cutL (bs.drop (getL bs).2) 8 = some (key, r)) : getO bs = keep (tailG (getL bs).1 key r) := by unfold getO; rw [if_neg h, hc]
set_option maxRecDepth 100000 in
set_option maxHeartbeats 4000000 in
theorem get_early (A : Option Addr) (len cap : Nat) (bs : List Int) (w : World) (hS : Sl w A cap bs) (hl : bs.length = len) (h : (getL bs).2 = 0 ∨ 4 ≤ (getL bs).1) :
   Calls Tryz.prog 146 #[.slice A len cap] w (GetOut (getO bs) w) := by
 have hg := EncG.get (hS.below (below_alloc w (.cells (opc noOp) 27))) hl
 have HQ := aside (getO_early h)
 have R0 := OpAt.new w noOp 27
 obtain ⟨n, hn⟩ : ∃ n, (getL bs).1 = n := ⟨_, rfl⟩
 obtain ⟨k, hk⟩ : ∃ k, (getL bs).2 = k := ⟨_, rfl⟩
 obtain ⟨q, hq⟩ : ∃ q, getO bs = q := ⟨_, rfl⟩
 rw [hn, hk] at hg h
 rw [hq] at HQ ⊢
 clear hn hk hq
 have hcase : (k = 0) ∨ (0 < k ∧ 4 ≤ n) := by omega
 clear h
 rcases hcase with rfl | ⟨hk0, hn4⟩
 all_goals
   go_enter Tryz.func146, Tryz.ntmps146
   go_wp2_with fail
   refine hg.mono ?_
   clear hg
   rintro e w1 ⟨rfl, h1⟩
   have k1 : Below w.heap.size w w1 := (below_alloc w _).trans (h1.mono (by simp))
   have R1 := R0.below h1
   clear h1 R0
   go_wp2_with (refine wpList_store_op rfl rfl _ _ rfl _ rfl noOp R1 noOp rfl ?_; intro w3 R3 k3 g3')
   have r0 := R3.kind
   have r1 := R3.key
   have r2 := R3.elem
   have r3 := R3.n
   exact bodyPost_ret (v := .tuple #[.agg (opc noOp), .slice none 0 0, .int .i64 2]) (by simp [results, Tryz.results146, go_sem, r0, r1, r2, r3, opc]) rfl (GetOut.none HQ.out rfl (k1.trans (k3 _ (Nat.le_refl _))))
set_option maxRecDepth 100000 in
set_option maxHeartbeats 4000000 in
theorem get_cut (A : Option Addr) (len cap : Nat) (bs : List Int) (w : World) (hS : Sl w A cap bs) (hl : bs.length = len) (hlen : len ≤ 1099511627776) (h : ¬ ((getL bs).2 = 0 ∨ 4 ≤ (getL bs).1)) (hc : cutL (bs.drop (getL bs).2) 8 = none) :
   Calls Tryz.prog 146 #[.slice A len cap] w (GetOut (getO bs) w) := by
 have hg := EncG.get (hS.below (below_alloc w (.cells (opc noOp) 27))) hl
 have R0 := OpAt.new w noOp 27
 obtain ⟨g1, g2, g3⟩ := getL_le hS.bytes
 have hBd : ∀ x ∈ bs.drop (getL bs).2, B x := fun x hx => hS.bytes x (List.mem_of_mem_drop hx)
 have hcut := fun {A2 : Option Addr} {L c2 : Nat} {W : World} (S : Sl W A2 c2 (bs.drop (getL bs).2)) (e : (bs.drop (getL bs).2).length = L) (hL : L ≤ 1099511627776) => EncE.cut 8 S e hL (by omega)
 unfold CutOut at hcut
 rw [hc] at hcut
 simp only at hcut
 have HQ := aside (getO_cut0 h hc)
 clear hc
 obtain ⟨n, hn⟩ : ∃ n, (getL bs).1 = n := ⟨_, rfl⟩
 obtain ⟨k, hk⟩ : ∃ k, (getL bs).2 = k := ⟨_, rfl⟩
 obtain ⟨q, hq⟩ : ∃ q, getO bs = q := ⟨_, rfl⟩
 rw [hn, hk] at hg h
 rw [hk] at hcut g2 g3
 rw [hl] at g3
 rw [hq] at HQ ⊢
 have HL := aside hl
 clear hq hl
 have hk0 : 0 < k := by omega
 have hn4 : n < 4 := by omega
 clear h
 have t0 : ((k : Int) == 0) = false := by simp; omega
 have t1 : decide (4 ≤ (n : Int)) = false := by simp; omega
 obtain ⟨A2, c2, hs2, hS2, hl2⟩ := hS.part k len g3 (by rw [HL.out]; exact Nat.le_refl _)
 have hrun := fun W => run_part_l W A len cap .i64 k g3
 rw [hs2] at hrun
 have hcs : (bs.drop k).take (len - k) = bs.drop k := by rw [List.take_of_length_le]; rw [List.length_drop, HL.out]; exact Nat.le_refl _
 rw [hcs] at hS2 hl2
 have HL2 := aside hl2
 have HLe : len - k ≤ 1099511627776 := by omega
 clear hs2 hcs hl2
 clear hn hk hBd g1
 go_enter Tryz.func146, Tryz.ntmps146
 go_wp2_with fail
 refine hg.mono ?_
 clear hg
 rintro e w1 ⟨rfl, h1⟩
 have k1 : Below w.heap.size w w1 := (below_alloc w _).trans (h1.mono (by simp))
 have R1 := R0.below h1
 have S1 := hS2.below k1
 clear h1 R0 hS2
 go_wp2_with fail
 refine (hcut S1 HL2.out HLe).mono ?_
 clear hcut
 rintro e w2 ⟨h2, rfl⟩
 have k2 := k1.trans (h2.mono k1.size)
 have R2 := R1.below h2
 clear R1 h2 k1 S1
 go_wp2_with (refine wpList_store_op rfl rfl _ _ rfl _ rfl noOp R2 noOp rfl ?_; intro w3 R3 k3 g3')
 have r0 := R3.kind
 have r1 := R3.key
 have r2 := R3.elem
 have r3 := R3.n
 exact bodyPost_ret (v := .tuple #[.agg (opc noOp), .slice none 0 0, .int .i64 2]) (by simp [results, Tryz.results146, go_sem, r0, r1, r2, r3, opc]) rfl (GetOut.none HQ.out rfl (k2.trans (k3 _ (Nat.le_refl _))))
set_option maxRecDepth 100000 in
set_option maxHeartbeats 8000000 in
theorem get0 (A : Option Addr) (len cap : Nat) (bs key r : List Int) (w : World) (hS : Sl w A cap bs) (hl : bs.length = len) (hlen : len ≤ 1099511627776) (h : ¬ ((getL bs).2 = 0 ∨ 4 ≤ (getL bs).1)) (hc : cutL (bs.drop (getL bs).2) 8 = some (key, r)) (hK : (getL bs).1 = 0) :
   Calls Tryz.prog 146 #[.slice A len cap] w (GetOut (getO bs) w) := by
 have hg := EncG.get (hS.below (below_alloc w (.cells (opc noOp) 27))) hl
 have R0 := OpAt.new w noOp 27
 obtain ⟨g1, g2, g3⟩ := getL_le hS.bytes
 have hBd : ∀ x ∈ bs.drop (getL bs).2, B x := fun x hx => hS.bytes x (List.mem_of_mem_drop hx)
 have hcut := fun {A2 : Option Addr} {L c2 : Nat} {W : World} (S : Sl W A2 c2 (bs.drop (getL bs).2)) (e : (bs.drop (getL bs).2).length = L) (hL : L ≤ 1099511627776) => EncE.cut 8 S e hL (by omega)
 unfold CutOut at hcut
 rw [hc] at hcut
 simp only at hcut
 have hq1 := getO_cut1 h hc
 have hkb := (cut_back hBd hc).2
 have hrb := (cut_B hBd hc).2
 have hrl : r.length ≤ 1099511627776 := by
   have := congrArg List.length (cut_back hBd hc).1
   rw [List.length_drop, List.length_append] at this
   omega
 have hfit : Fit (half (getL bs).1 key) := ⟨(by show I64 (((getL bs).1 : Nat) : Int); unfold I64; omega), (by show I64 0; unfold I64; omega), by show (strOf key).size ≤ _; rw [strOf_size]; unfold maxLen; omega, Nat.zero_le _⟩
 rw [hK, tail_rest1] at hq1
 obtain ⟨rr, hrr⟩ : ∃ rr, rest1 (half (getL bs).1 key) r = rr := ⟨_, rfl⟩
 rw [← hK, hrr] at hq1
 have hfit2 : ∀ o' r', rr = some (o', r') → Fit o' := fun o' r' e => rest1_fit hfit hrb (hrr.trans e)
 have HQ := aside hq1
 have HRR := aside hrr
 have HRB := aside hrb
 clear hc hq1 hrr hfit hrb hkb
 obtain ⟨n, hn⟩ : ∃ n, (getL bs).1 = n := ⟨_, rfl⟩
 obtain ⟨k, hk⟩ : ∃ k, (getL bs).2 = k := ⟨_, rfl⟩
 obtain ⟨q, hq⟩ : ∃ q, getO bs = q := ⟨_, rfl⟩
 rw [hn, hk] at hg h
 rw [hk] at hcut g2 g3
 rw [hl] at g3
 rw [hq] at HQ ⊢
 have HL := aside hl
 clear hq hl
 have hk0 : 0 < k := by omega
 have hn4 : n < 4 := by omega
 clear h
 have t0 : ((k : Int) == 0) = false := by simp; omega
 have t1 : decide (4 ≤ (n : Int)) = false := by simp; omega
 obtain ⟨A2, c2, hs2, hS2, hl2⟩ := hS.part k len g3 (by rw [HL.out]; exact Nat.le_refl _)
 have hrun := fun W => run_part_l W A len cap .i64 k g3
 rw [hs2] at hrun
 have hcs : (bs.drop k).take (len - k) = bs.drop k := by rw [List.take_of_length_le]; rw [List.length_drop, HL.out]; exact Nat.le_refl _
 rw [hcs] at hS2 hl2
 have HL2 := aside hl2
 have HLe : len - k ≤ 1099511627776 := by omega
 clear hs2 hcs hl2
 rw [hn] at hK HRR
 have HK := aside hK
 obtain ⟨K, hKe⟩ : ∃ K, half n key = K := ⟨_, rfl⟩
 have HKe := aside hKe
 rw [hKe] at HRR
 clear hn hk hBd hK hKe g1
 go_enter Tryz.func146, Tryz.ntmps146
 go_wp2_with fail
 refine hg.mono ?_
 clear hg
 rintro e w1 ⟨rfl, h1⟩
 have k1 : Below w.heap.size w w1 := (below_alloc w _).trans (h1.mono (by simp))
 have R1 := R0.below h1
 have S1 := hS2.below k1
 clear h1 R0 hS2
 go_wp2_with fail
 refine (hcut S1 HL2.out HLe).mono ?_
 clear hcut
 rintro e w2 ⟨h2, v, rfl, own⟩
 obtain ⟨A3, c3, rfl, S3⟩ := Sl.own own HRB.out
 have k2 := k1.trans (h2.mono k1.size)
 have R2 := R1.below h2
 clear R1 h2 k1 S1 own
 go_wp2_with fail
 refine (gets (half n key) A3 r.length c3 w2).mono ?_
 rintro e w3 ⟨g, hh, m, rfl, Og, Bh, Tm, h3⟩
 have k3 := k2.trans (h3.mono k2.size)
 have R3 := R2.below h3
 have S4 := S3.below h3
 have hl2' := look0 Tryz.underlying182 false Tm
 have e0 : (0 : Int) = (n : Int) := by have := HK.out; omega
 rw [e0] at hl2'
 clear e0
 clear R2 h3 k2 S3 Tm
 go_wp2_with fail
 refine (gets1 g hh (half n key) A3 r.length c3 r w3 Og Bh S4 rfl).mono ?_
 rintro e w4 ⟨h4, hm⟩
 have k4 := k3.trans (h4.mono k3.size)
 have R4 := R3.below h4
 clear R3 h4 k3 S4 Bh Og hl2'
 rw [HKe.out, HRR.out] at hm
 cases rr with
 | none =>
   obtain ⟨o', A5, n5, c5, rfl⟩ := hm
   have R5 := R4.alloc (.cells (opc noOp) 27)
   have R6 := OpAt.new w4 noOp 27
   have hs4 := R4.lt
   have k5 := k4.alloc k4.size (.cells (opc noOp) 27)
   clear R4 k4
   go_wp2_with (first | (refine wpList_store_op rfl rfl _ _ rfl _ rfl noOp R6 o' rfl ?_; intro w5 R7 b5 g5; have R8 := R5.kept g5 (by omega)) | (refine wpList_store_op rfl rfl _ _ rfl _ rfl noOp R8 noOp rfl ?_; intro w6 R9 b6 g6))
   have r0 := R9.kind
   have r1 := R9.key
   have r2 := R9.elem
   have r3 := R9.n
   exact bodyPost_ret (v := .tuple #[.agg (opc noOp), .slice none 0 0, .int .i64 2]) (by simp [results, Tryz.results146, go_sem, r0, r1, r2, r3, opc]) rfl (GetOut.none HQ.out rfl ((k5.trans (b5 _ (by omega))).trans (b6 _ (Nat.le_refl _))))
 | some p =>
   obtain ⟨o', r'⟩ := p
   obtain ⟨A5, c5, rfl, S5⟩ := hm
   have hm := fun W => may o' W (hfit2 o' r' rfl)
   have R5 := R4.alloc (.cells (opc noOp) 27)
   have R6 := OpAt.new w4 noOp 27
   have hs4 := R4.lt
   have k5 := k4.alloc k4.size (.cells (opc noOp) 27)
   clear R4 k4 hfit2
   cases hb : mayO o' with
   | false =>
     rw [hb] at hm
     have HQ0 : Hid (q = none) := aside (HQ.out.trans (keep_no hb r'))
     clear hb
     go_wp2_with (first | (refine wpList_store_op rfl rfl _ _ rfl _ rfl noOp R6 o' rfl ?_; intro w5 R7 b5 g5; have R8 := R5.kept g5 (by omega); have r0 := R7.kind; have r1 := R7.key; have r2 := R7.elem; have r3 := R7.n))
     refine (hm _).mono ?_
     clear hm r0 r1 r2 r3
     rintro e w6 ⟨rfl, h6⟩
     have R9 := R8.below h6
     have k6 := (k5.trans (b5 _ (by omega))).trans (h6.mono (by have := R8.lt; omega))
     go_wp2_with (refine wpList_store_op rfl rfl _ _ rfl _ rfl noOp R9 noOp rfl ?_; intro w7 R10 b7 g7)
     have r0 := R10.kind
     have r1 := R10.key
     have r2 := R10.elem
     have r3 := R10.n
     exact bodyPost_ret (v := .tuple #[.agg (opc noOp), .slice none 0 0, .int .i64 2]) (by simp [results, Tryz.results146, go_sem, r0, r1, r2, r3, opc]) rfl (GetOut.none HQ0.out rfl (k6.trans (b7 _ (Nat.le_refl _))))
   | true =>
     rw [hb] at hm
     have HQ0 : Hid (q = some (o', r')) := aside (HQ.out.trans (keep_yes hb r'))
     clear hb
     go_wp2_with (first | (refine wpList_store_op rfl rfl _ _ rfl _ rfl noOp R6 o' rfl ?_; intro w5 R7 b5 g5; have R8 := R5.kept g5 (by omega); have r0 := R7.kind; have r1 := R7.key; have r2 := R7.elem; have r3 := R7.n))
     refine (hm _).mono ?_
     clear hm r0 r1 r2 r3
     rintro e w6 ⟨rfl, h6⟩
     have R9 := R8.below h6
     have R7b := R7.below h6
     have k6 := (k5.trans (b5 _ (by omega))).trans (h6.mono (by have := R8.lt; omega))
     have S6 := (Sl.kept (S5.below (below_alloc _ _)) R6 g5).below h6
     clear S5
     go_wp2_with (first | (refine wpList_load_op rfl _ rfl _ rfl o' R7b ?_) | (refine wpList_store_op rfl rfl _ _ rfl _ rfl noOp R9 o' rfl ?_; intro w7 R10 b7 g7))
     have r0 := R10.kind
     have r1 := R10.key
     have r2 := R10.elem
     have r3 := R10.n
     have S7 := Sl.kept S6 R9 g7
     exact bodyPost_ret (v := .tuple #[.agg (opc o'), .slice A5 r'.length c5, .int .i64 0]) (by simp [results, Tryz.results146, go_sem, r0, r1, r2, r3, opc]) rfl (GetOut.some HQ0.out _ _ rfl S7 (k6.trans (b7 _ (Nat.le_refl _))))
set_option maxRecDepth 100000 in
set_option maxHeartbeats 8000000 in
theorem get1 (A : Option Addr) (len cap : Nat) (bs key r : List Int) (w : World) (hS : Sl w A cap bs) (hl : bs.length = len) (hlen : len ≤ 1099511627776) (h : ¬ ((getL bs).2 = 0 ∨ 4 ≤ (getL bs).1)) (hc : cutL (bs.drop (getL bs).2) 8 = some (key, r)) (hK : (getL bs).1 ≠ 0) :
   Calls Tryz.prog 146 #[.slice A len cap] w (GetOut (getO bs) w) := by
 have hg := EncG.get (hS.below (below_alloc w (.cells (opc noOp) 27))) hl
 have R0 := OpAt.new w noOp 27
 obtain ⟨g1, g2, g3⟩ := getL_le hS.bytes
 have hBd : ∀ x ∈ bs.drop (getL bs).2, B x := fun x hx => hS.bytes x (List.mem_of_mem_drop hx)
 have hcut := fun {A2 : Option Addr} {L c2 : Nat} {W : World} (S : Sl W A2 c2 (bs.drop (getL bs).2)) (e : (bs.drop (getL bs).2).length = L) (hL : L ≤ 1099511627776) => EncE.cut 8 S e hL (by omega)
 unfold CutOut at hcut
 rw [hc] at hcut
 simp only at hcut
 have hq1 := getO_cut1 h hc
 have hkb := (cut_back hBd hc).2
 have hrb := (cut_B hBd hc).2
 have hrl : r.length ≤ 1099511627776 := by
   have := congrArg List.length (cut_back hBd hc).1
   rw [List.length_drop, List.length_append] at this
   omega
 have hfit : Fit (half (getL bs).1 key) := ⟨(by show I64 (((getL bs).1 : Nat) : Int); unfold I64; omega), (by show I64 0; unfold I64; omega), by show (strOf key).size ≤ _; rw [strOf_size]; unfold maxLen; omega, Nat.zero_le _⟩
 rw [tail_rest2 hK] at hq1
 obtain ⟨rr, hrr⟩ : ∃ rr, rest2 (half (getL bs).1 key) r = rr := ⟨_, rfl⟩
 rw [hrr] at hq1
 have hfit2 : ∀ o' r', rr = some (o', r') → Fit o' := fun o' r' e => rest2_fit hfit hrb (hrr.trans e)
 have HQ := aside hq1
 have HRR := aside hrr
 have HRB := aside hrb
 clear hc hq1 hrr hfit hrb hkb
 obtain ⟨n, hn⟩ : ∃ n, (getL bs).1 = n := ⟨_, rfl⟩
 obtain ⟨k, hk⟩ : ∃ k, (getL bs).2 = k := ⟨_, rfl⟩
 obtain ⟨q, hq⟩ : ∃ q, getO bs = q := ⟨_, rfl⟩
 rw [hn, hk] at hg h
 rw [hk] at hcut g2 g3
 rw [hl] at g3
 rw [hq] at HQ ⊢
 have HL := aside hl
 clear hq hl
 have hk0 : 0 < k := by omega
 have hn4 : n < 4 := by omega
 clear h
 have t0 : ((k : Int) == 0) = false := by simp; omega
 have t1 : decide (4 ≤ (n : Int)) = false := by simp; omega
 obtain ⟨A2, c2, hs2, hS2, hl2⟩ := hS.part k len g3 (by rw [HL.out]; exact Nat.le_refl _)
 have hrun := fun W => run_part_l W A len cap .i64 k g3
 rw [hs2] at hrun
 have hcs : (bs.drop k).take (len - k) = bs.drop k := by rw [List.take_of_length_le]; rw [List.length_drop, HL.out]; exact Nat.le_refl _
 rw [hcs] at hS2 hl2
 have HL2 := aside hl2
 have HLe : len - k ≤ 1099511627776 := by omega
 clear hs2 hcs hl2
 rw [hn] at hK HRR
 have HK := aside hK
 obtain ⟨K, hKe⟩ : ∃ K, half n key = K := ⟨_, rfl⟩
 have HKe := aside hKe
 rw [hKe] at HRR
 clear hn hk hBd hK hKe g1
 go_enter Tryz.func146, Tryz.ntmps146
 go_wp2_with fail
 refine hg.mono ?_
 clear hg
 rintro e w1 ⟨rfl, h1⟩
 have k1 : Below w.heap.size w w1 := (below_alloc w _).trans (h1.mono (by simp))
 have R1 := R0.below h1
 have S1 := hS2.below k1
 clear h1 R0 hS2
 go_wp2_with fail
 refine (hcut S1 HL2.out HLe).mono ?_
 clear hcut
 rintro e w2 ⟨h2, v, rfl, own⟩
 obtain ⟨A3, c3, rfl, S3⟩ := Sl.own own HRB.out
 have k2 := k1.trans (h2.mono k1.size)
 have R2 := R1.below h2
 clear R1 h2 k1 S1 own
 go_wp2_with fail
 refine (gets (half n key) A3 r.length c3 w2).mono ?_
 rintro e w3 ⟨g, hh, m, rfl, Og, Bh, Tm, h3⟩
 have k3 := k2.trans (h3.mono k2.size)
 have R3 := R2.below h3
 have S4 := S3.below h3
 have hl2' := look1 (k := (n : Int)) Tryz.underlying182 false (by have := HK.out; omega) Tm
 clear R2 h3 k2 S3 Tm
 go_wp2_with fail
 refine (gets2 g hh (half n key) A3 r.length c3 r w3 Og Bh S4 rfl hrl).mono ?_
 rintro e w4 ⟨h4, hm⟩
 have k4 := k3.trans (h4.mono k3.size)
 have R4 := R3.below h4
 clear R3 h4 k3 S4 Bh Og hl2'
 rw [HKe.out, HRR.out] at hm
 cases rr with
 | none =>
   obtain ⟨o', A5, n5, c5, rfl⟩ := hm
   have R5 := R4.alloc (.cells (opc noOp) 27)
   have R6 := OpAt.new w4 noOp 27
   have hs4 := R4.lt
   have k5 := k4.alloc k4.size (.cells (opc noOp) 27)
   clear R4 k4
   go_wp2_with (first | (refine wpList_store_op rfl rfl _ _ rfl _ rfl noOp R6 o' rfl ?_; intro w5 R7 b5 g5; have R8 := R5.kept g5 (by omega)) | (refine wpList_store_op rfl rfl _ _ rfl _ rfl noOp R8 noOp rfl ?_; intro w6 R9 b6 g6))
   have r0 := R9.kind
   have r1 := R9.key
   have r2 := R9.elem
   have r3 := R9.n
   exact bodyPost_ret (v := .tuple #[.agg (opc noOp), .slice none 0 0, .int .i64 2]) (by simp [results, Tryz.results146, go_sem, r0, r1, r2, r3, opc]) rfl (GetOut.none HQ.out rfl ((k5.trans (b5 _ (by omega))).trans (b6 _ (Nat.le_refl _))))
 | some p =>
   obtain ⟨o', r'⟩ := p
   obtain ⟨A5, c5, rfl, S5⟩ := hm
   have hm := fun W => may o' W (hfit2 o' r' rfl)
   have R5 := R4.alloc (.cells (opc noOp) 27)
   have R6 := OpAt.new w4 noOp 27
   have hs4 := R4.lt
   have k5 := k4.alloc k4.size (.cells (opc noOp) 27)
   clear R4 k4 hfit2
   cases hb : mayO o' with
   | false =>
     rw [hb] at hm
     have HQ0 : Hid (q = none) := aside (HQ.out.trans (keep_no hb r'))
     clear hb
     go_wp2_with (first | (refine wpList_store_op rfl rfl _ _ rfl _ rfl noOp R6 o' rfl ?_; intro w5 R7 b5 g5; have R8 := R5.kept g5 (by omega); have r0 := R7.kind; have r1 := R7.key; have r2 := R7.elem; have r3 := R7.n))
     refine (hm _).mono ?_
     clear hm r0 r1 r2 r3
     rintro e w6 ⟨rfl, h6⟩
     have R9 := R8.below h6
     have k6 := (k5.trans (b5 _ (by omega))).trans (h6.mono (by have := R8.lt; omega))
     go_wp2_with (refine wpList_store_op rfl rfl _ _ rfl _ rfl noOp R9 noOp rfl ?_; intro w7 R10 b7 g7)
     have r0 := R10.kind
     have r1 := R10.key
     have r2 := R10.elem
     have r3 := R10.n
     exact bodyPost_ret (v := .tuple #[.agg (opc noOp), .slice none 0 0, .int .i64 2]) (by simp [results, Tryz.results146, go_sem, r0, r1, r2, r3, opc]) rfl (GetOut.none HQ0.out rfl (k6.trans (b7 _ (Nat.le_refl _))))
   | true =>
     rw [hb] at hm
     have HQ0 : Hid (q = some (o', r')) := aside (HQ.out.trans (keep_yes hb r'))
     clear hb
     go_wp2_with (first | (refine wpList_store_op rfl rfl _ _ rfl _ rfl noOp R6 o' rfl ?_; intro w5 R7 b5 g5; have R8 := R5.kept g5 (by omega); have r0 := R7.kind; have r1 := R7.key; have r2 := R7.elem; have r3 := R7.n))
     refine (hm _).mono ?_
     clear hm r0 r1 r2 r3
     rintro e w6 ⟨rfl, h6⟩
     have R9 := R8.below h6
     have R7b := R7.below h6
     have k6 := (k5.trans (b5 _ (by omega))).trans (h6.mono (by have := R8.lt; omega))
     have S6 := (Sl.kept (S5.below (below_alloc _ _)) R6 g5).below h6
     clear S5
     go_wp2_with (first | (refine wpList_load_op rfl _ rfl _ rfl o' R7b ?_) | (refine wpList_store_op rfl rfl _ _ rfl _ rfl noOp R9 o' rfl ?_; intro w7 R10 b7 g7))
     have r0 := R10.kind
     have r1 := R10.key
     have r2 := R10.elem
     have r3 := R10.n
     have S7 := Sl.kept S6 R9 g7
     exact bodyPost_ret (v := .tuple #[.agg (opc o'), .slice A5 r'.length c5, .int .i64 0]) (by simp [results, Tryz.results146, go_sem, r0, r1, r2, r3, opc]) rfl (GetOut.some HQ0.out _ _ rfl S7 (k6.trans (b7 _ (Nat.le_refl _))))
theorem get (A : Option Addr) (len cap : Nat) (bs : List Int) (w : World) (hS : Sl w A cap bs) (hl : bs.length = len) (hlen : len ≤ 1099511627776) :
   Calls Tryz.prog 146 #[.slice A len cap] w (GetOut (getO bs) w) := by
 by_cases h : (getL bs).2 = 0 ∨ 4 ≤ (getL bs).1
 · exact get_early A len cap bs w hS hl h
 · cases hc : cutL (bs.drop (getL bs).2) 8 with
   | none => exact get_cut A len cap bs w hS hl hlen h hc
   | some p =>
     obtain ⟨key, r⟩ := p
     by_cases hK : (getL bs).1 = 0
     · exact get0 A len cap bs key r w hS hl hlen h hc hK
     · exact get1 A len cap bs key r w hS hl hlen h hc hK
end Go.Proofs.YtgoapaanmcmlmaaGreatDoor.OpsH
