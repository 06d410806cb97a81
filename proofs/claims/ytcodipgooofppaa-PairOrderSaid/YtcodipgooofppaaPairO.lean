/- What the project's Less and order of package pair return: contracts. -/
import Derived.Test.YtcodipgooofppaaPairX
import Derived.Test.YtcodipgooofppaaGrewM
namespace Go.Proofs.Ytcodipgooofppaa.PairO
open Go Go.RowKit Byt OpsM OpsK Rise PairM PairN RowS RowB PairW PairS PairX GrewM

theorem grew_two (w : World) (a b : Pr) : Grew w ((w.alloc (.cells (pc a) 26)).alloc (.cells (pc b) 26)) := ((Grew.refl w).alloc _).alloc _
set_option maxHeartbeats 4000000 in
theorem less_ret (a b : Pr) (w : World) :
    Calls Try.prog 23 #[.agg (pc a), .agg (pc b)] w fun e w' => e = .returned (.bool (lessP a b)) ∧ Grew w w' := by
  have R1 : Box E ((w.alloc (.cells (pc a) 26)).alloc (.cells (pc b) 26)) w.heap.size a := (Box.new (E := E) w a 26).alloc _
  have R2 : Box E ((w.alloc (.cells (pc a) 26)).alloc (.cells (pc b) 26)) (w.heap.size + 1) b := by
    have z : (w.alloc (.cells (pc a) 26)).heap.size = w.heap.size + 1 := by simp
    rw [← z]
    exact Box.new _ b _
  have kb := grew_two w a b
  obtain ⟨c1, c2, c3, c4⟩ := box_cells R1
  obtain ⟨d1, d2, d3, d4⟩ := box_cells R2
  clear R1 R2
  obtain ⟨r, hr⟩ : ∃ r, lessP a b = r := ⟨_, rfl⟩
  have hn : r = lessP a b := hr.symm
  rw [hr]
  unfold lessP at hn
  clear hr
  by_cases h1 : a.key = b.key
  · have t1 := bne_yes h1
    have u1 : a.key.toList = b.key.toList := by rw [h1]
    rw [if_pos h1] at hn
    by_cases h2 : a.elem = b.elem
    · have t2 := bne_yes h2
      have u2 : a.elem.toList = b.elem.toList := by rw [h2]
      rw [if_pos h2] at hn
      by_cases h3 : a.node = b.node
      · have t3 : (a.node != b.node) = false := by simpa using h3
        rw [if_pos h3] at hn
        have HR : Hid (r = decide (a.seq < b.seq)) := aside hn
        clear hn h1 h2 h3
        go_enter Try.func23, Try.ntmps23
        go_wp2
        go_ret
        exact ⟨ret_bool HR.out.symm, kb⟩
      · have t3 : (a.node != b.node) = true := by simpa using h3
        rw [if_neg h3] at hn
        have HR : Hid (r = decide (a.node < b.node)) := aside hn
        clear hn h1 h2 h3
        go_enter Try.func23, Try.ntmps23
        go_wp2
        go_ret
        exact ⟨ret_bool HR.out.symm, kb⟩
    · have t2 := bne_no h2
      have u2 := str_no h2
      rw [if_neg h2] at hn
      have HR : Hid (r = Op.bytesLess a.elem.toList b.elem.toList) := aside hn
      clear hn h1 h2
      go_enter Try.func23, Try.ntmps23
      go_wp2
      go_ret
      exact ⟨ret_bool HR.out.symm, kb⟩
  · have t1 := bne_no h1
    have u1 := str_no h1
    rw [if_neg h1] at hn
    have HR : Hid (r = Op.bytesLess a.key.toList b.key.toList) := aside hn
    clear hn h1
    go_enter Try.func23, Try.ntmps23
    go_wp2
    go_ret
    exact ⟨ret_bool HR.out.symm, kb⟩

/-- What order makes of two pairs. -/
def cf (x y : Pr) : Int := if x = y then 0 else if lessP x y = true then -1 else 1
theorem cf_less (x y : Pr) : decide (cf x y < 0) = lessP x y := by
  unfold cf
  by_cases h : x = y
  · subst h
    simp [strictP.irrefl]
  · rw [if_neg h]
    cases lessP x y <;> simp
set_option maxHeartbeats 4000000 in
theorem order_ret (x y : Pr) (w : World) : Calls Try.prog 35 #[.agg (pc x), .agg (pc y)] w fun e w' => e = .returned (.int .i64 (cf x y)) ∧ Grew w w' := by
  have B1 : Box E ((w.alloc (.cells (pc x) 26)).alloc (.cells (pc y) 26)) w.heap.size x := (Box.new (E := E) w x 26).alloc _
  have B2 : Box E ((w.alloc (.cells (pc x) 26)).alloc (.cells (pc y) 26)) (w.heap.size + 1) y := by
    have z : (w.alloc (.cells (pc x) 26)).heap.size = w.heap.size + 1 := by simp
    rw [← z]
    exact Box.new _ y _
  have G := grew_two w x y
  by_cases hxy : x = y
  · subst hxy
    have hc : cf x x = 0 := by simp [cf]
    have heq := equal_yes (x := x) rfl
    rw [hc]
    go_enter Try.func35, Try.ntmps35
    go_wp2_with (first | (refine wpList_load_box E rfl _ rfl _ rfl x B1 ?_) | (refine wpList_load_box E rfl _ rfl _ rfl x B2 ?_))
    go_ret
    exact ⟨rfl, G⟩
  · have heq := equal_no hxy
    have cl := fun W => less_ret x y W
    cases hl : lessP x y with
    | true =>
      have hc : cf x y = -1 := by simp [cf, hxy, hl]
      rw [hc]
      rw [hl] at cl
      go_enter Try.func35, Try.ntmps35
      go_wp2_with (first | (refine wpList_load_box E rfl _ rfl _ rfl x B1 ?_) | (refine wpList_load_box E rfl _ rfl _ rfl y B2 ?_))
      refine (cl _).mono ?_
      rintro e w1 ⟨rfl, h1⟩
      go_wp2
      go_ret
      exact ⟨rfl, G.trans h1⟩
    | false =>
      have hc : cf x y = 1 := by simp [cf, hxy, hl]
      rw [hc]
      rw [hl] at cl
      go_enter Try.func35, Try.ntmps35
      go_wp2_with (first | (refine wpList_load_box E rfl _ rfl _ rfl x B1 ?_) | (refine wpList_load_box E rfl _ rfl _ rfl y B2 ?_))
      refine (cl _).mono ?_
      rintro e w1 ⟨rfl, h1⟩
      go_wp2
      go_ret
      exact ⟨rfl, G.trans h1⟩
end Go.Proofs.Ytcodipgooofppaa.PairO
