/- What enc.digits hands to a loop: a contract. -/
import Derived.Test.YthdpipllighegaaDoorEncC
import Derived.Test.YthdpipllighegaaDoorEncP
import Derived.RangeFuncNested
import Derived.RangeFuncBound
import Derived.RangeFuncCalls
import Derived.RangeFuncLeaves
import Derived.Shelf.Abstract
import Derived.Shelf.RegionOpen
import Derived.OwnWalkIn
import Derived.TacticsInMore
import Derived.LoopNIn
import Derived.LoopIn
namespace Go.Proofs.YthdpipllighegaaDoor.EncD
set_option maxRecDepth 100000
open Go.RowKit Go.Shelf Byt EncM EncP
attribute [local go_sem] Oper.semAt_some

/-- What the function to range over tells of a digit. -/
abbrev told (x : Dg) : Array Value := #[.int .u64 x.1.1, .bool x.1.2]

set_option maxRecDepth 100000 in
set_option maxHeartbeats 2000000 in
theorem digits1 (F : Fence) (n : Nat) (hF : F.fn 50) (hro : F.round = none) (hn : 1 ≤ n) (l Bs n0 b off len cap : Nat) (bs : List Int) (hlen : bs.length = len) (hcap : len ≤ cap) (hmax : cap ≤ maxLen) (hB : ∀ x ∈ bs, B x) (hb : b < n0) (J Jx : List Dg → World → Prop)
    (hY : ∀ pre x W, J pre W → pre.length < 10 → YieldAt F (n - 1) Tryd.prog l (told x) W fun e W' =>
      (e = .returned (.bool true) ∧ J (pre ++ [x]) W' ∧ Below n0 W W') ∨ (e = .returned (.bool false) ∧ Jx (pre ++ [x]) W'))
    (W : World) (hBs : W.cell? ⟨Bs, 0, none⟩ = some (.slice (some ⟨b, off, none⟩) len cap)) (hc : ∀ j, j < len → W.cell? ⟨b, off + j, none⟩ = some (.int .u8 (bs[j]?.getD 0))) (h0 : J [] W) :
    CallsIn F n Tryd.prog 50 #[.func (.yield l) #[] #[], .pointer (some ⟨Bs, 0, none⟩)] W fun e W' => (∃ v, e = .returned v) ∧
      ((∃ ys, (ys = dgs bs 10 ∨ ∃ ini x, ys = ini ++ [x] ∧ x.1.2 = true) ∧ J ys W') ∨ (∃ pre, (∃ k, k ≤ 10 ∧ pre = dgs bs k) ∧ Jx pre W')) := by
  have HC := aside hc
  have HL := aside hlen
  unfold maxLen at hmax
  clear hc hlen
  refine callsIn_of_wp Tryd.func50 rfl hF ?_ hro
  simp only [Tryd.ntmps50, List.size_toArray, List.length_cons, List.length_nil, Nat.reduceAdd, Nat.reduceSub, Array.replicate_succ, Array.replicate_zero, List.push_toArray, List.append_toArray, List.nil_append, List.cons_append]
  gi_wp2
  all_goals
    obtain ⟨M, m1, m2, m3, m4⟩ : ∃ M : Nat, M ≤ len ∧ M ≤ 10 ∧ (10 < len → 10 ≤ M) ∧ (len ≤ 10 → len ≤ M) := ⟨min len 10, by omega, by omega, by omega, by omega⟩
    try rw [show (max 10 0 : Int) = 10 from rfl]
    gi_loopw [12] (fun i wr => ∃ k : Nat, k ≤ M ∧ i = .int .i64 k ∧ J (dgs bs k) wr ∧ Below n0 W wr) (fun i _ => M - (intOf i).toNat)
    case atStart => exact ⟨0, Nat.zero_le _, rfl, h0, Below.refl _ _⟩
    case round =>
      obtain ⟨k, hk, rfl, hJs, hnx⟩ := hrel
      have hkl : k ≤ bs.length := by have := HL.out; omega
      by_cases hlt : k < M
      · obtain ⟨y, hy0⟩ : ∃ y, bs[k]?.getD 0 = y := ⟨_, rfl⟩
        have hyB : B y := by
          rw [← hy0, List.getElem?_eq_getElem (by have := HL.out; omega)]
          exact hB _ (List.getElem_mem _)
        have hcx : wr.cell? ⟨b, off + k, none⟩ = some (.int .u8 y) := by rw [← hy0]; exact (hnx.cell (p := ⟨b, off + k, none⟩) hb).trans (HC.out k (by omega))
        have hsucc := dgs_succ (bs := bs) (k := k) (by have := HL.out; omega)
        rw [hy0] at hsucc
        have HSu := aside hsucc
        obtain ⟨fn, tmps, assign, body, hy, hR⟩ := hY _ (dg y) wr hJs (by rw [dgs_length hkl]; omega)
        dsimp only [told, dg] at hy
        clear hsucc hy0 hY
        obtain ⟨y0, y1⟩ := hyB
        gi_wp2
        refine hR.mono ?_
        clear hR
        rintro e W3 (⟨rfl, hJ3, hk3⟩ | ⟨rfl, hJx3⟩)
        · by_cases hy2 : y < 128
          · have t1 : decide (y < 128) = true := by simpa using hy2
            gi_wp2
            refine bodyPost_ret (results_none rfl _ _ _) rfl ?_
            exact ⟨⟨_, rfl⟩, .inl ⟨_, .inr ⟨_, _, rfl, t1⟩, hJ3⟩⟩
          · have t1 : decide (y < 128) = false := by simpa using hy2
            gi_wp2
            go_roundw
            case rel => exact ⟨k + 1, by omega, by simp, by rw [HSu.out]; exact hJ3, hnx.trans hk3⟩
            case measure => simp [intOf]; omega
        · gi_wp2
          refine bodyPost_ret (results_none rfl _ _ _) rfl ?_
          exact ⟨⟨_, rfl⟩, .inr ⟨_, ⟨k + 1, by omega, HSu.out.symm⟩, hJx3⟩⟩
      · gi_wp2
        go_end0
        refine ⟨⟨_, rfl⟩, .inl ⟨_, .inl ?_, hJs⟩⟩
        have hl := HL.out
        rcases Nat.lt_or_ge 10 len with h9 | h9
        · rw [show k = 10 by omega]
        · unfold dgs
          rw [List.take_of_length_le (by omega), List.take_of_length_le (by omega)]

set_option maxRecDepth 100000 in
set_option maxHeartbeats 1000000 in
/-- The same where there are no bytes, wherever the slice lies. -/
theorem digits1_none (F : Fence) (n : Nat) (hF : F.fn 50) (hro : F.round = none) (l Bs cap : Nat) (A : Option Addr) (J : List Dg → World → Prop)
    (W : World) (hBs : W.cell? ⟨Bs, 0, none⟩ = some (.slice A 0 cap)) (h0 : J [] W) :
    CallsIn F n Tryd.prog 50 #[.func (.yield l) #[] #[], .pointer (some ⟨Bs, 0, none⟩)] W fun e W' => (∃ v, e = .returned v) ∧ J [] W' := by
  refine callsIn_of_wp Tryd.func50 rfl hF ?_ hro
  simp only [Tryd.ntmps50, List.size_toArray, List.length_cons, List.length_nil, Nat.reduceAdd, Nat.reduceSub, Array.replicate_succ, Array.replicate_zero, List.push_toArray, List.append_toArray, List.nil_append, List.cons_append]
  gi_wp2
  gi_loopw [12] (fun i wr => i = .int .i64 0 ∧ J [] wr) (fun _ _ => 0)
  case atStart => exact ⟨rfl, h0⟩
  case round =>
    obtain ⟨rfl, hJs⟩ := hrel
    gi_wp2
    go_end0
    exact ⟨⟨_, rfl⟩, hJs⟩

set_option maxHeartbeats 1000000 in
theorem digits (F : Fence) (n : Nat) (hF : F.fn 44) (hro : F.round = none) (A : Option Addr) (len cap : Nat) (w : World) :
    CallsIn F n Tryd.prog 44 #[.slice A len cap] w fun e w' => e = .returned (.func (.func 50) #[] #[.pointer (some ⟨w.heap.size, 0, none⟩)]) ∧ w' = w.alloc (.cells #[.slice A len cap] 22) := by
  refine callsIn_of_wp Tryd.func44 rfl hF ?_ hro
  simp only [Tryd.ntmps44, List.size_toArray, List.length_cons, List.length_nil, Nat.reduceAdd, Nat.reduceSub, Array.replicate_succ, Array.replicate_zero, List.push_toArray, List.append_toArray, List.nil_append, List.cons_append]
  gi_wp2
  go_ret
  exact ⟨rfl, rfl⟩

/-- What a loop over the digits is told: all of them; or up to a last one; or a part, where it ends itself. -/
theorem digits_stops (F : Fence) (n : Nat) (hF : F.fn 50) (hro : F.round = none) (hn : 1 ≤ n) (Bs n0 : Nat) (A : Option Addr) (cap : Nat) (bs : List Int) (w w0 : World) (hBs : Bs < w.heap.size) (hn0 : n0 ≤ w.heap.size) (hw0 : w0.heap.size ≤ n0) (hbw : Below w0.heap.size w0 w)
    (hc : w.cell? ⟨Bs, 0, none⟩ = some (.slice A bs.length cap)) (hS : Sl w0 A cap bs) :
    SeqStopsK F n Tryd.prog 50 #[.pointer (some ⟨Bs, 0, none⟩)] told (Below n0) (fun ys => ys = dgs bs 10 ∨ ∃ ini x, ys = ini ++ [x] ∧ x.1.2 = true) (fun pre => ∃ k, k ≤ 10 ∧ pre = dgs bs k) 10 w := fun l J Jx W hW _ _ hY h0 => by
  have hc' := (hW.cell (p := ⟨Bs, 0, none⟩) hBs).trans hc
  by_cases hp : 0 < bs.length
  · obtain ⟨b, off, rfl, hb, hcs⟩ := hS.plain hp
    have hbW : Below w0.heap.size w0 W := hbw.trans (hW.mono (Nat.le_trans hw0 hn0))
    refine digits1 F n hF hro hn l Bs n0 b off bs.length cap bs rfl hS.1 hS.2.1 hS.bytes (by omega) J Jx hY W hc' (fun j hj => ?_) h0
    rw [← List.getD_eq_getElem?_getD]
    exact (hbW.cell (p := ⟨b, off + j, none⟩) hb).trans (hcs j hj)
  · have e : bs = [] := List.eq_nil_of_length_eq_zero (by omega)
    subst e
    exact (digits1_none F n hF hro l Bs cap A J W hc' h0).mono fun e W' ⟨he, hj⟩ => ⟨he, .inl ⟨_, .inl rfl, hj⟩⟩
end Go.Proofs.YthdpipllighegaaDoor.EncD
