/- What the project's Write returns: a contract. No condition but sizes. -/
import Derived.Test.YthdpipllighegaaDoorLogE
namespace Go.Proofs.YthdpipllighegaaDoor.LogW
set_option maxRecDepth 100000
open Go Go.Sort Go.RowKit Byt RotG Small EncM EncC LogM LogC LogD LogE

/-- What Write answers. -/
def writeO (b x : List Int) (room : Int) : List Int × Int :=
  if 4000 < x.length then ([], 5) else if room < (b.length : Int) + (frameL x).length then ([], 4) else (b ++ frameL x, 0)
theorem run_build2 (w : World) (A0 A1 : Option Addr) (n0 n1 k0 k1 : Nat) : (Instr.buildSlice 27 2 #[(0, .slice A0 n0 k0), (1, .slice A1 n1 k1)]).run Tryd.prog w = .ok (.slice (some ⟨w.heap.size, 0, none⟩) 2 2) (w.alloc (.cells #[.slice A0 n0 k0, .slice A1 n1 k1] 22)) := by kernel_rfl
theorem wpList_build2 {w : World} {ops : Array Oper} {rest : List Oper} {o : Oper} {a : Act} {Q : Exit → Act → World → Prop} (hgd : o.guard = none) (x0 x1 : Operand) (ho : o.op = .buildSlice 27 2 #[(0, x0), (1, x1)])
    (A0 A1 : Option Addr) (n0 n1 k0 k1 : Nat) (h0 : a.eval x0 = .slice A0 n0 k0) (h1 : a.eval x1 = .slice A1 n1 k1)
    (h : wpList Tryd.prog ops Q rest (a.put o.dst (.slice (some ⟨w.heap.size, 0, none⟩) 2 2)) (w.alloc (.cells #[.slice A0 n0 k0, .slice A1 n1 k1] 22))) : wpList Tryd.prog ops Q (o :: rest) a w := by
  refine wpList_plain hgd fun K hK => ?_
  unfold Oper.wp execOp
  simp only [ho, List.map_toArray, List.map_cons, List.map_nil, h0, h1, Sem.run_bind, run_build2, Result.andThen_ok, Sem.run_pure]
  exact hK _ _ h
set_option maxRecDepth 100000 in
set_option maxHeartbeats 8000000 in
theorem write_ret {w : World} {A A' : Option Addr} {cap cap' len len' : Nat} {b x : List Int} {room : Int} (S : Sl w A cap b) (T : Sl w A' cap' x) (hl : b.length = len) (hl' : x.length = len') (hm : len ≤ 900000000) (hK : ShaE.KIn w) :
    Calls Tryd.prog 13 #[.slice A len cap, .int .i64 room, .slice A' len' cap'] w (GivesE (writeO b x room) w) := by
  by_cases h4 : 4000 < len'
  · have q := frame_no (w := w) (A := A') (cap := cap') h4
    have HO : Hid (writeO b x room = ([], 5)) := aside (by unfold writeO; rw [if_pos (by omega)])
    clear S T hl hl' hm hK h4
    go_enter Tryd.func13, Tryd.ntmps13
    go_wp2_with (first | go_skip)
    refine q.mono ?_
    rintro e w1 ⟨A2, c2, rfl, S2, k1⟩
    clear q
    go_wp2_with (first | go_skip)
    exact bodyPost_ret (v := .tuple #[.slice none 0 0, .int .i64 5]) (by simp [results, Tryd.results13, go_sem]) rfl (by rw [HO.out]; exact ⟨none, 0, rfl, Sl.nil _, k1⟩)
  · have q := frame_yes T hl' (by omega) hK
    have hlen := frameL_len x
    have hten := numL_ten (n := x.length) (by omega)
    have hB : ∀ y ∈ b, Byt.B y := S.bytes
    have hx4 : ¬ 4000 < x.length := by omega
    obtain ⟨F, hF⟩ : ∃ F, frameL x = F := ⟨_, rfl⟩
    rw [hF] at q hlen
    have m1 : IntKind.i64.wrap ((len : Int) + (F.length : Int)) = (len : Int) + (F.length : Int) := IntWalk.i64_in _ (by omega)
    by_cases hr : room < (len : Int) + (F.length : Int)
    · have HO : Hid (writeO b x room = ([], 4)) := aside (by unfold writeO; rw [if_neg hx4, hF, if_pos (by omega)])
      clear S T hl hl' hm hK h4 hlen hten hB hF hx4
      go_enter Tryd.func13, Tryd.ntmps13
      go_wp2_with (first | go_skip)
      refine q.mono ?_
      rintro e w1 ⟨A2, c2, rfl, S2, k1⟩
      clear q
      go_wp2_with (first | go_skip)
      exact bodyPost_ret (v := .tuple #[.slice none 0 0, .int .i64 4]) (by simp [results, Tryd.results13, go_sem]) rfl (by rw [HO.out]; exact ⟨none, 0, rfl, Sl.nil _, k1⟩)
    · have HO : Hid (writeO b x room = (b ++ F, 0)) := aside (by unfold writeO; rw [if_neg hx4, hF, if_neg (by omega)])
      have hsum : b.length + F.length ≤ 1000000000 := by omega
      clear T hl' hK h4 hlen hten hB hF hm hx4
      go_enter Tryd.func13, Tryd.ntmps13
      go_wp2_with (first | go_skip)
      refine q.mono ?_
      rintro e w1 ⟨A2, c2, rfl, S2, k1⟩
      clear q
      have S1 := S.below k1
      simp only [] at S2
      go_wp2_with (first | go_skip | (refine wpList_build2 rfl _ _ rfl A A2 _ _ cap c2 rfl rfl ?_))
      have k5 : Below w1.heap.size w1 (w1.alloc (.cells #[.slice A len cap, .slice A2 F.length c2] 22)) := (Below.refl _ _).alloc (Nat.le_refl _) _
      have hT : (w1.alloc (.cells #[.slice A len cap, .slice A2 F.length c2] 22)).heap[w1.heap.size]? = some (.cells #[.slice A len cap, .slice A2 F.length c2] 22 (0, 0)) := heap_alloc_new _ _
      have M5 := S1.below k5
      have N5 := S2.below k5
      have b5 := k1.trans (k5.mono k1.size)
      generalize w1.alloc (.cells #[.slice A len cap, .slice A2 F.length c2] 22) = w5 at hT M5 N5 b5 ⊢
      have t0 : w5.cell? ⟨w1.heap.size, 0, none⟩ = some (.slice A b.length cap) := by rw [cell_of_row w5 _ 0 _ _ (0, 0) hT, hl]; rfl
      have t1 : w5.cell? ⟨w1.heap.size, 1, none⟩ = some (.slice A2 F.length c2) := by rw [cell_of_row w5 _ 1 _ _ (0, 0) hT]; rfl
      have q3 := concat2_ret w1.heap.size A cap b A2 c2 F w5 t0 t1 M5 N5 hsum 2
      refine q3.mono ?_
      rintro e w6 ⟨A6, c6, rfl, S6, k6, _⟩
      have b6 := b5.trans (k6.mono b5.size)
      clear q3 t0 t1 M5 N5 hT S1 S2 k5 b5 k6 S
      go_wp2_with (first | go_skip)
      exact bodyPost_ret (v := .tuple #[.slice A6 (b ++ F).length c6, .int .i64 0]) (by simp [results, Tryd.results13, go_sem, hl]) rfl (by rw [HO.out]; exact ⟨A6, c6, rfl, S6, b6⟩)
end Go.Proofs.YthdpipllighegaaDoor.LogW
