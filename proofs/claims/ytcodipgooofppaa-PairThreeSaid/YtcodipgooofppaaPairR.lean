/- What the document's Less of package pair returns: a contract. -/
import Derived.Test.YtcodipgooofppaaPairW
import Derived.Test.YtcodipgooofppaaKeyR
namespace Go.Proofs.Ytcodipgooofppaa.PairR
open Go Go.RowKit Byt OpsM OpsK Rise PairM PairN RowS RowB PairW

set_option maxHeartbeats 4000000 in
theorem less_ret (a b : Pr) (w : World) :
    Calls Try.prog 22 #[.agg (pc a), .agg (pc b)] w fun e w' => e = .returned (.bool (lessP a b)) ∧ Below w.heap.size w w' := by
  have R1 : Box E ((w.alloc (.cells (pc a) 26)).alloc (.cells (pc b) 26)) w.heap.size a := (Box.new (E := E) w a 26).alloc _
  have R2 : Box E ((w.alloc (.cells (pc a) 26)).alloc (.cells (pc b) 26)) (w.heap.size + 1) b := by
    have z : (w.alloc (.cells (pc a) 26)).heap.size = w.heap.size + 1 := by simp
    rw [← z]
    exact Box.new _ b _
  have kb : Below w.heap.size w ((w.alloc (.cells (pc a) 26)).alloc (.cells (pc b) 26)) := ((Below.refl _ _).alloc (Nat.le_refl _) _).alloc (by simp) _
  obtain ⟨c1, c2, c3, c4⟩ := box_cells R1
  obtain ⟨d1, d2, d3, d4⟩ := box_cells R2
  clear R1 R2
  obtain ⟨r, hr⟩ : ∃ r, lessP a b = r := ⟨_, rfl⟩
  have hn : r = lessP a b := hr.symm
  rw [hr]
  unfold lessP at hn
  clear hr
  by_cases h1 : a.key = b.key
  · have t1 := bne_yes h1
    have u1 : a.key.toList = b.key.toList := by rw [h1]
    rw [if_pos h1] at hn
    by_cases h2 : a.elem = b.elem
    · have t2 := bne_yes h2
      have u2 : a.elem.toList = b.elem.toList := by rw [h2]
      rw [if_pos h2] at hn
      by_cases h3 : a.node = b.node
      · have t3 : (a.node != b.node) = false := by simpa using h3
        rw [if_pos h3] at hn
        have HR : Hid (r = decide (a.seq < b.seq)) := aside hn
        clear hn h1 h2 h3
        go_enter Try.func22, Try.ntmps22
        go_wp2
        go_ret
        exact ⟨ret_bool HR.out.symm, kb⟩
      · have t3 : (a.node != b.node) = true := by simpa using h3
        rw [if_neg h3] at hn
        have HR : Hid (r = decide (a.node < b.node)) := aside hn
        clear hn h1 h2 h3
        go_enter Try.func22, Try.ntmps22
        go_wp2
        go_ret
        exact ⟨ret_bool HR.out.symm, kb⟩
    · have t2 := bne_no h2
      have u2 := str_no h2
      rw [if_neg h2] at hn
      have HR : Hid (r = Op.bytesLess a.elem.toList b.elem.toList) := aside hn
      clear hn h1 h2
      go_enter Try.func22, Try.ntmps22
      go_wp2
      go_ret
      exact ⟨ret_bool HR.out.symm, kb⟩
  · have t1 := bne_no h1
    have u1 := str_no h1
    rw [if_neg h1] at hn
    have HR : Hid (r = Op.bytesLess a.key.toList b.key.toList) := aside hn
    clear hn h1
    go_enter Try.func22, Try.ntmps22
    go_wp2
    go_ret
    exact ⟨ret_bool HR.out.symm, kb⟩
end Go.Proofs.Ytcodipgooofppaa.PairR
