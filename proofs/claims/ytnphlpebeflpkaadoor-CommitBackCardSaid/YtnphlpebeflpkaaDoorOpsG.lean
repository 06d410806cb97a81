/- What ops.gets and its functions, and ops.Get, return: contracts. -/
import Derived.Test.YtnphlpebeflpkaaDoorOpsP
import Derived.Test.YtnphlpebeflpkaaDoorEncEJ4
namespace Go.Proofs.YtnphlpebeflpkaaDoor.OpsG
set_option maxRecDepth 100000
open Go Go.RowKit Go.Sort Byt OpsM OpsK OpsW OpsC EncM EncC EncG EncE

/-- What a function that tells the rest of an operation answers. -/
def GOut (q : Option (Opn × List Int)) (w : World) (e : Ending) (w' : World) : Prop :=
  Below w.heap.size w w' ∧ match q with
    | none => ∃ o A n c, e = .returned (.tuple #[.agg (opc o), .slice A n c, .bool false])
    | some (o, r) => ∃ A c, e = .returned (.tuple #[.agg (opc o), .slice A r.length c, .bool true]) ∧ Sl w' A c r
theorem GOut.none {w w' : World} {e : Ending} (o : Opn) (A : Option Addr) (n c : Nat) (h : e = .returned (.tuple #[.agg (opc o), .slice A n c, .bool false])) (hb : Below w.heap.size w w') : GOut none w e w' := ⟨hb, o, A, n, c, h⟩
theorem GOut.some {w w' : World} {e : Ending} {o : Opn} {r : List Int} (A : Option Addr) (c : Nat) (h : e = .returned (.tuple #[.agg (opc o), .slice A r.length c, .bool true])) (hS : Sl w' A c r) (hb : Below w.heap.size w w') : GOut (some (o, r)) w e w' := ⟨hb, A, c, h, hS⟩
/-- .. of an Inc, and of the others. -/
def rest1 (o : Opn) (r : List Int) : Option (Opn × List Int) := if (getL r).2 = 0 then none else some (⟨o.kind, o.key, ⟨#[]⟩, unfoldI ((getL r).1 : Nat)⟩, r.drop (getL r).2)
def rest2 (o : Opn) (r : List Int) : Option (Opn × List Int) := match cutL r 8 with
  | none => none
  | some (e, r2) => some (⟨o.kind, o.key, strOf e, 0⟩, r2)

set_option maxRecDepth 100000 in
set_option maxHeartbeats 4000000 in
theorem gets1 (g h : Nat) (o : Opn) (A : Option Addr) (len cap : Nat) (r : List Int) (w : World) (hO : OpAt w g o) (hB : One w h (.slice A len cap)) (hS : Sl w A cap r) (hl : r.length = len) :
    Calls Tryd.prog 98 #[.pointer (some ⟨h, 0, none⟩), .pointer (some ⟨g, 0, none⟩)] w (GOut (rest1 o r) w) := by
  have hg := EncG.get (hS.below (below_alloc w (.cells (opc noOp) 26))) hl
  obtain ⟨g1, g2, g3⟩ := getL_le hS.bytes
  obtain ⟨q, hq⟩ : ∃ q, rest1 o r = q := ⟨_, rfl⟩
  have hq2 := hq
  unfold rest1 at hq2
  rw [hq]
  obtain ⟨n, hn⟩ : ∃ n, (getL r).1 = n := ⟨_, rfl⟩
  obtain ⟨k, hk⟩ : ∃ k, (getL r).2 = k := ⟨_, rfl⟩
  rw [hn, hk] at hg hq2
  rw [hn] at g1
  rw [hk] at g2 g3
  rw [hl] at g3
  have cu := unfold (n : Int) (by omega)
  have HQ := aside hq2
  have HL := aside hl
  have HN := aside g1
  have hgl := hO.lt
  have hhl := hB.lt
  have R0 := OpAt.new w noOp 26
  have hb0 : w.cell? ⟨h, 0, none⟩ = some (.slice A len cap) := hB.cell
  have hb1 : (w.alloc (.cells (opc noOp) 26)).cell? ⟨h, 0, none⟩ = some (.slice A len cap) := (hB.below (below_alloc w _)).cell
  clear hq hq2 hn hk g1 hl
  go_enter Tryd.func98, Tryd.ntmps98
  go_wp2_with fail
  refine hg.mono ?_
  clear hg
  rintro e w1 ⟨rfl, h1⟩
  have k1 : Below w.heap.size w w1 := (below_alloc w _).trans (h1.mono (by simp))
  have R1 := R0.below h1
  clear h1 R0 hb1
  obtain ⟨A2, c2, hs2, hS2, hl2⟩ := hS.part k len g3 (by rw [HL.out]; exact Nat.le_refl _)
  have hrun := fun W => run_part_l W A len cap .i64 k g3
  rw [hs2] at hrun
  have hcs : (r.drop k).take (len - k) = r.drop k := by rw [List.take_of_length_le]; rw [List.length_drop, HL.out]; exact Nat.le_refl _
  rw [hcs] at hS2 hl2
  have HL2 := aside hl2
  clear hs2 hcs hl2
  go_wp2_with fail
  refine GrowB.region w.heap.size [(0, true), (1, true), (2, true), (3, true), (4, true), (7, true), (8, true), (9, true), (10, true), (11, true), (5, false), (6, true), (12, false), (13, true), (14, true)] (by kernel_rfl) (by kernel_rfl) rfl (by kernel_rfl) (by intro c a d v w h; cases d <;> exact h) ?_
  have kd := below_drew1 k1
  have R2 : OpAt w1.drew w.heap.size noOp := R1
  obtain ⟨W1, hW1⟩ : ∃ W, w1.drew = W := ⟨_, rfl⟩
  rw [hW1] at kd R2 ⊢
  clear hW1 k1 R1
  have q0 : ∀ p : GrowB.UpTo w.heap.size W1, p.u.cell? ⟨g, 0, none⟩ = some (.int .i64 o.kind) := fun p => (hO.below (kd.trans p.h)).kind
  have q1 : ∀ p : GrowB.UpTo w.heap.size W1, p.u.cell? ⟨g, 1, none⟩ = some (.string o.key) := fun p => (hO.below (kd.trans p.h)).key
  have q2 : ∀ p : GrowB.UpTo w.heap.size W1, p.u.cell? ⟨h, 0, none⟩ = some (.slice A len cap) := fun p => (hB.below (kd.trans p.h)).cell
  clear hb0
  by_cases hk0 : k = 0
  · have t0 : decide (0 < (k : Int)) = false := by simp; omega
    have HQ0 : Hid (none = q) := aside (by have := HQ.out; rwa [if_pos hk0] at this)
    have HK0 : Hid (¬ 0 < k) := aside (by omega)
    clear hk0
    repeat (refine GrowB.reads_below rfl rfl ?_; go_big_quiet_step (fail); refine wpQuiet_nil ?_)
    clear q0 q1 q2
    refine GrowB.acts rfl ?_
    go_wp2_with fail
    refine (cu _).mono ?_
    rintro e w2 ⟨rfl, rfl⟩
    clear cu
    go_wp2_with fail
    refine ⟨Below.refl _ _, ?_⟩
    repeat (refine GrowB.reads_below rfl rfl ?_; go_big_quiet_step (fail); refine wpQuiet_nil ?_)
    refine GrowB.acts rfl ?_
    refine wpList_store_op rfl rfl _ _ rfl _ rfl noOp R2 ⟨o.kind, o.key, ⟨#[]⟩, unfoldI (n : Int)⟩ rfl ?_
    intro w3 R3 k3 g3'
    refine ⟨k3 _ (Nat.le_refl _), ?_⟩
    repeat (refine GrowB.reads_below rfl rfl ?_; go_big_quiet_step (fail); refine wpQuiet_nil ?_)
    refine GrowB.ends ?_
    go_wp2_with fail
    have r0 := R3.kind
    have r1 := R3.key
    have r2 := R3.elem
    have r3 := R3.n
    exact bodyPost_ret (v := .tuple #[.agg (opc ⟨o.kind, o.key, ⟨#[]⟩, unfoldI (n : Int)⟩), .slice A2 (len - k) c2, .bool false]) (by simp [results, Tryd.results98, go_sem, r0, r1, r2, r3, opc, HK0.out]) rfl (by rw [← HQ0.out]; exact GOut.none _ _ _ _ rfl (kd.trans (k3 _ (Nat.le_refl _))))
  · have t0 : decide (0 < (k : Int)) = true := by simp; omega
    have HQ0 : Hid (some ((⟨o.kind, o.key, ⟨#[]⟩, unfoldI (n : Int)⟩ : Opn), r.drop k) = q) := aside (by have := HQ.out; rwa [if_neg hk0] at this)
    have HK0 : Hid (0 < k) := aside (by omega)
    clear hk0
    repeat (refine GrowB.reads_below rfl rfl ?_; go_big_quiet_step (fail); refine wpQuiet_nil ?_)
    clear q0 q1 q2
    refine GrowB.acts rfl ?_
    go_wp2_with fail
    refine (cu _).mono ?_
    rintro e w2 ⟨rfl, rfl⟩
    clear cu
    go_wp2_with fail
    refine ⟨Below.refl _ _, ?_⟩
    repeat (refine GrowB.reads_below rfl rfl ?_; go_big_quiet_step (fail); refine wpQuiet_nil ?_)
    refine GrowB.acts rfl ?_
    refine wpList_store_op rfl rfl _ _ rfl _ rfl noOp R2 ⟨o.kind, o.key, ⟨#[]⟩, unfoldI (n : Int)⟩ rfl ?_
    intro w3 R3 k3 g3'
    refine ⟨k3 _ (Nat.le_refl _), ?_⟩
    repeat (refine GrowB.reads_below rfl rfl ?_; go_big_quiet_step (fail); refine wpQuiet_nil ?_)
    refine GrowB.ends ?_
    go_wp2_with fail
    have r0 := R3.kind
    have r1 := R3.key
    have r2 := R3.elem
    have r3 := R3.n
    have kf := kd.trans (k3 _ (Nat.le_refl _))
    exact bodyPost_ret (v := .tuple #[.agg (opc ⟨o.kind, o.key, ⟨#[]⟩, unfoldI (n : Int)⟩), .slice A2 (len - k) c2, .bool true]) (by simp [results, Tryd.results98, go_sem, r0, r1, r2, r3, opc, HK0.out]) rfl (by rw [← HQ0.out, ← HL2.out]; exact GOut.some _ _ rfl (hS2.below kf) kf)

set_option maxRecDepth 100000 in
set_option maxHeartbeats 4000000 in
theorem gets2 (g h : Nat) (o : Opn) (A : Option Addr) (len cap : Nat) (r : List Int) (w : World) (hO : OpAt w g o) (hB : One w h (.slice A len cap)) (hS : Sl w A cap r) (hl : r.length = len) (hlen : len ≤ 1099511627776) :
    Calls Tryd.prog 99 #[.pointer (some ⟨h, 0, none⟩), .pointer (some ⟨g, 0, none⟩)] w (GOut (rest2 o r) w) := by
  have hg := EncE.cut 8 (hS.below (below_alloc w (.cells (opc noOp) 26))) hl hlen (by omega)
  unfold CutOut at hg
  have hrB : ∀ a r2, cutL r 8 = some (a, r2) → ∀ x ∈ r2, B x := fun a r2 h => (cut_B hS.bytes h).2
  have hb0 : w.cell? ⟨h, 0, none⟩ = some (.slice A len cap) := hB.cell
  have hb1 : (w.alloc (.cells (opc noOp) 26)).cell? ⟨h, 0, none⟩ = some (.slice A len cap) := (hB.below (below_alloc w _)).cell
  have hgl := hO.lt
  have hhl := hB.lt
  have R0 := OpAt.new w noOp 26
  unfold rest2
  cases hc : cutL r 8 with
  | none =>
    rw [hc] at hg
    simp only at hg
    clear hc hrB
    go_enter Tryd.func99, Tryd.ntmps99
    go_wp2_with fail
    refine hg.mono ?_
    clear hg
    rintro e w1 ⟨h1, rfl⟩
    have k1 : Below w.heap.size w w1 := (below_alloc w _).trans (h1.mono (by simp))
    have R1 := R0.below h1
    have O1 := hO.below k1
    have q0 := O1.kind
    have q1 := O1.key
    clear h1 R0 hb1 hb0
    go_wp2_with (refine wpList_store_op rfl rfl _ _ rfl _ rfl noOp R1 ⟨o.kind, o.key, ⟨#[]⟩, 0⟩ rfl ?_; intro w3 R3 k3 g3')
    have r0 := R3.kind
    have r1 := R3.key
    have r2 := R3.elem
    have r3 := R3.n
    exact bodyPost_ret (v := .tuple #[.agg (opc ⟨o.kind, o.key, ⟨#[]⟩, 0⟩), .slice none 0 0, .bool false]) (by simp [results, Tryd.results99, go_sem, r0, r1, r2, r3, opc]) rfl (GOut.none _ _ _ _ rfl (k1.trans (k3 _ (Nat.le_refl _))))
  | some p =>
    obtain ⟨a, r2⟩ := p
    have hb2 := hrB a r2 hc
    rw [hc] at hg
    simp only at hg
    clear hc hrB
    have HB2 := aside hb2
    clear hb2
    go_enter Tryd.func99, Tryd.ntmps99
    go_wp2_with fail
    refine hg.mono ?_
    clear hg
    rintro e w1 ⟨h1, v, rfl, own⟩
    have k1 : Below w.heap.size w w1 := (below_alloc w _).trans (h1.mono (by simp))
    have R1 := R0.below h1
    have O1 := hO.below k1
    have q0 := O1.kind
    have q1 := O1.key
    have OW := aside own
    clear h1 R0 hb1 hb0 own
    go_wp2_with (refine wpList_store_op rfl rfl _ _ rfl _ rfl noOp R1 ⟨o.kind, o.key, strOf a, 0⟩ rfl ?_; intro w3 R3 k3 g3')
    have r0 := R3.kind
    have r1 := R3.key
    have r2 := R3.elem
    have r3 := R3.n
    obtain ⟨A2, c2, rfl, S2⟩ := Sl.own (owns_kept OW.out g3' (by simp)) HB2.out
    exact bodyPost_ret (v := .tuple #[.agg (opc ⟨o.kind, o.key, strOf a, 0⟩), .slice A2 _ c2, .bool true]) (by simp [results, Tryd.results99, go_sem, r0, r1, r2, r3, opc]) rfl (GOut.some _ _ rfl S2 (k1.trans (k3 _ (Nat.le_refl _))))

/-- What ops.gets answers. -/
def GTab (o : Opn) (v : Value) (w : World) (e : Ending) (w' : World) : Prop :=
  ∃ g h m, e = .returned (.map (some m)) ∧ OpAt w' g o ∧ One w' h v ∧ TabAt w' m (.func (.func 98) #[] #[.pointer (some ⟨h, 0, none⟩), .pointer (some ⟨g, 0, none⟩)]) (.func (.func 99) #[] #[.pointer (some ⟨h, 0, none⟩), .pointer (some ⟨g, 0, none⟩)]) ∧ Below w.heap.size w w'
set_option maxHeartbeats 1000000 in
theorem gets (o : Opn) (A : Option Addr) (len cap : Nat) (w : World) :
    Calls Tryd.prog 96 #[.agg (opc o), .slice A len cap] w (GTab o (.slice A len cap) w) := by
  have hz : (w.alloc (.cells (opc o) 26)).heap.size = w.heap.size + 1 := by simp
  have O1 := (OpAt.new w o 26).alloc (.cells #[.slice A len cap] 31)
  have B1 := One.new (w.alloc (.cells (opc o) 26)) (.slice A len cap) 31
  rw [hz] at B1
  have hmm := made 109
  have HZ := aside hz
  clear hz
  go_enter Tryd.func96, Tryd.ntmps96
  go_wp2_with (refine wpList_entry Tryd.underlying109 rfl rfl _ _ _ rfl _ _ _ rfl _ rfl (by simp) _ (by unfold I64; omega) rfl rfl _ rfl ?_)
  go_ret
  have hz2 : ((w.alloc (.cells (opc o) 26)).alloc (.cells #[.slice A len cap] 31)).heap.size = w.heap.size + 1 + 1 := by simp
  have ht := tab_new ((w.alloc (.cells (opc o) 26)).alloc (.cells #[.slice A len cap] 31)) (.func (.func 98) #[] #[.pointer (some ⟨w.heap.size + 1, 0, none⟩), .pointer (some ⟨w.heap.size, 0, none⟩)]) (.func (.func 99) #[] #[.pointer (some ⟨w.heap.size + 1, 0, none⟩), .pointer (some ⟨w.heap.size, 0, none⟩)])
  rw [hz2] at ht
  exact ⟨w.heap.size, w.heap.size + 1, w.heap.size + 1 + 1, rfl, O1.alloc _, B1.below (below_alloc _ _), ht, (((Below.refl _ _).alloc (Nat.le_refl _) _).alloc (by simp) _).alloc (by rw [hz2]; omega) _⟩
end Go.Proofs.YtnphlpebeflpkaaDoor.OpsG
