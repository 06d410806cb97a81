/- Worlds that come of draws and new blocks alone. No condition. | What the project's Less and order of package pair return: contracts. | One struct read whole inside a region that draws its order, guarded or not, whatever its fields. No condition. | What alone, May, bare and stays of the project's package pair return: contracts. -/
import Derived.Test.YtnjdkjkihbgkaaaKeyMJ4
import Derived.Shelf.GgSortFunc.InsertionK
import Derived.Test.YtnjdkjkihbgkaaaPairPJ6
import Derived.Test.YtnjdkjkihbgkaaaRowGJ3
import Derived.Test.YtnjdkjkihbgkaaaRowFJ3
namespace Go.Proofs.Ytnjdkjkihbgkaaa.GrewM
set_option maxRecDepth 100000
open Go Go.Sort Go.RowKit Go.Lib

/-- Draws and new blocks alone. -/
def Grew (w w' : World) : Prop := ∃ q os, w' = grow (w.drewN q) os
theorem Grew.refl (w : World) : Grew w w := ⟨0, #[], by rw [grow_empty]; rfl⟩
theorem Grew.alloc {w w' : World} (h : Grew w w') (o : Obj) : Grew w (w'.alloc o) := by
  obtain ⟨q, os, rfl⟩ := h
  exact ⟨q, os ++ #[o], by rw [alloc_eq_grow, grow_grow]⟩
theorem drewN_grow (w : World) (os : Array Obj) (n : Nat) : (grow w os).drewN n = grow (w.drewN n) os := rfl
theorem drewN_drewN (w : World) (m n : Nat) : (w.drewN m).drewN n = w.drewN (m + n) := by unfold World.drewN; simp [Nat.add_assoc]
theorem Grew.drewN {w w' : World} (h : Grew w w') (n : Nat) : Grew w (w'.drewN n) := by
  obtain ⟨q, os, rfl⟩ := h
  exact ⟨q + n, os, by rw [drewN_grow, drewN_drewN]⟩
theorem Grew.drew {w w' : World} (h : Grew w w') : Grew w w'.drew := h.drewN 1
theorem Grew.trans {w w' w'' : World} (h : Grew w w') (h' : Grew w' w'') : Grew w w'' := by
  obtain ⟨q, os, rfl⟩ := h'
  obtain ⟨p, os', e⟩ := h.drewN q
  exact ⟨p, os' ++ os, by rw [e, grow_grow]⟩
theorem Grew.below {w w' : World} (h : Grew w w') : Below w.heap.size w w' := by
  obtain ⟨q, os, rfl⟩ := h
  refine ⟨rfl, rfl, rfl, ?_, fun k hk => Sort.heap_grow_old _ _ hk⟩
  rw [Sort.size_grow]
  exact Nat.le_add_right _ _
end Go.Proofs.Ytnjdkjkihbgkaaa.GrewM
namespace Go.Proofs.Ytnjdkjkihbgkaaa.PairO
set_option maxRecDepth 100000
open Go Go.RowKit Byt OpsM OpsK Rise PairM PairN RowS RowB PairW PairS PairX GrewM

theorem grew_two (w : World) (a b : Pr) : Grew w ((w.alloc (.cells (pc a) 41)).alloc (.cells (pc b) 41)) := ((Grew.refl w).alloc _).alloc _
set_option maxHeartbeats 4000000 in
theorem less_ret (a b : Pr) (w : World) :
    Calls Try.prog 36 #[.agg (pc a), .agg (pc b)] w fun e w' => e = .returned (.bool (lessP a b)) ∧ Grew w w' := by
  have R1 : Box E ((w.alloc (.cells (pc a) 41)).alloc (.cells (pc b) 41)) w.heap.size a := (Box.new (E := E) w a 41).alloc _
  have R2 : Box E ((w.alloc (.cells (pc a) 41)).alloc (.cells (pc b) 41)) (w.heap.size + 1) b := by
    have z : (w.alloc (.cells (pc a) 41)).heap.size = w.heap.size + 1 := by simp
    rw [← z]
    exact Box.new _ b _
  have kb := grew_two w a b
  obtain ⟨c1, c2, c3, c4⟩ := box_cells R1
  obtain ⟨d1, d2, d3, d4⟩ := box_cells R2
  clear R1 R2
  obtain ⟨r, hr⟩ : ∃ r, lessP a b = r := ⟨_, rfl⟩
  have hn : r = lessP a b := hr.symm
  rw [hr]
  unfold lessP at hn
  clear hr
  by_cases h1 : a.key = b.key
  · have t1 := bne_yes h1
    have u1 : a.key.toList = b.key.toList := by rw [h1]
    rw [if_pos h1] at hn
    by_cases h2 : a.elem = b.elem
    · have t2 := bne_yes h2
      have u2 : a.elem.toList = b.elem.toList := by rw [h2]
      rw [if_pos h2] at hn
      by_cases h3 : a.node = b.node
      · have t3 : (a.node != b.node) = false := by simpa using h3
        rw [if_pos h3] at hn
        have HR : Hid (r = decide (a.seq < b.seq)) := aside hn
        clear hn h1 h2 h3
        go_enter Try.func36, Try.ntmps36
        go_wp2
        go_ret
        exact ⟨ret_bool HR.out.symm, kb⟩
      · have t3 : (a.node != b.node) = true := by simpa using h3
        rw [if_neg h3] at hn
        have HR : Hid (r = decide (a.node < b.node)) := aside hn
        clear hn h1 h2 h3
        go_enter Try.func36, Try.ntmps36
        go_wp2
        go_ret
        exact ⟨ret_bool HR.out.symm, kb⟩
    · have t2 := bne_no h2
      have u2 := str_no h2
      rw [if_neg h2] at hn
      have HR : Hid (r = Op.bytesLess a.elem.toList b.elem.toList) := aside hn
      clear hn h1 h2
      go_enter Try.func36, Try.ntmps36
      go_wp2
      go_ret
      exact ⟨ret_bool HR.out.symm, kb⟩
  · have t1 := bne_no h1
    have u1 := str_no h1
    rw [if_neg h1] at hn
    have HR : Hid (r = Op.bytesLess a.key.toList b.key.toList) := aside hn
    clear hn h1
    go_enter Try.func36, Try.ntmps36
    go_wp2
    go_ret
    exact ⟨ret_bool HR.out.symm, kb⟩

/-- What order makes of two pairs. -/
def cf (x y : Pr) : Int := if x = y then 0 else if lessP x y = true then -1 else 1
theorem cf_less (x y : Pr) : decide (cf x y < 0) = lessP x y := by
  unfold cf
  by_cases h : x = y
  · subst h
    simp [strictP.irrefl]
  · rw [if_neg h]
    cases lessP x y <;> simp
set_option maxHeartbeats 4000000 in
theorem order_ret (x y : Pr) (w : World) : Calls Try.prog 67 #[.agg (pc x), .agg (pc y)] w fun e w' => e = .returned (.int .i64 (cf x y)) ∧ Grew w w' := by
  have B1 : Box E ((w.alloc (.cells (pc x) 41)).alloc (.cells (pc y) 41)) w.heap.size x := (Box.new (E := E) w x 41).alloc _
  have B2 : Box E ((w.alloc (.cells (pc x) 41)).alloc (.cells (pc y) 41)) (w.heap.size + 1) y := by
    have z : (w.alloc (.cells (pc x) 41)).heap.size = w.heap.size + 1 := by simp
    rw [← z]
    exact Box.new _ y _
  have G := grew_two w x y
  by_cases hxy : x = y
  · subst hxy
    have hc : cf x x = 0 := by simp [cf]
    have heq := equal_yes (x := x) rfl
    rw [hc]
    go_enter Try.func67, Try.ntmps67
    go_wp2_with (first | (refine wpList_load_box E rfl _ rfl _ rfl x B1 ?_) | (refine wpList_load_box E rfl _ rfl _ rfl x B2 ?_))
    go_ret
    exact ⟨rfl, G⟩
  · have heq := equal_no hxy
    have cl := fun W => less_ret x y W
    cases hl : lessP x y with
    | true =>
      have hc : cf x y = -1 := by simp [cf, hxy, hl]
      rw [hc]
      rw [hl] at cl
      go_enter Try.func67, Try.ntmps67
      go_wp2_with (first | (refine wpList_load_box E rfl _ rfl _ rfl x B1 ?_) | (refine wpList_load_box E rfl _ rfl _ rfl y B2 ?_))
      refine (cl _).mono ?_
      rintro e w1 ⟨rfl, h1⟩
      go_wp2
      go_ret
      exact ⟨rfl, G.trans h1⟩
    | false =>
      have hc : cf x y = 1 := by simp [cf, hxy, hl]
      rw [hc]
      rw [hl] at cl
      go_enter Try.func67, Try.ntmps67
      go_wp2_with (first | (refine wpList_load_box E rfl _ rfl _ rfl x B1 ?_) | (refine wpList_load_box E rfl _ rfl _ rfl y B2 ?_))
      refine (cl _).mono ?_
      rintro e w1 ⟨rfl, h1⟩
      go_wp2
      go_ret
      exact ⟨rfl, G.trans h1⟩
end Go.Proofs.Ytnjdkjkihbgkaaa.PairO
namespace Go.Proofs.Ytnjdkjkihbgkaaa.RowK
set_option maxRecDepth 100000
open Go Go.Sort Go.RowKit Byt RowS RowB RowG

variable {α : Type}
/-- As the walk meets it behind the guard. -/
theorem quiet_row (E : Enc α) {a : Act} {o : Oper} {K : Act → Prop} {w : World} (x : Operand) (ho : o.op = .load E.T x)
    (b off : Nat) (hx : a.eval x = .pointer (some ⟨b, off, none⟩)) (y : α) (hc : w.rangeAt b off (E.enc y)) (hk : K (a.put o.dst (.agg (E.enc y).toArray))) : o.quiet Try.prog a (fun w' => ∃ p : Regrown, w' = grow (redrawn w p.d) p.os) K := by
  refine ⟨.agg (E.enc y).toArray, fun u hu => ?_, hk⟩
  obtain ⟨p, rfl⟩ := hu
  have q := range_load E (range_below hc (below_regrown w p.d p.os))
  unfold Oper.quietAt execOp
  simp only [ho, hx, Sem.run_bind, q, Result.andThen_ok, Sem.run_pure]
  exact ⟨rfl, rfl⟩
end Go.Proofs.Ytnjdkjkihbgkaaa.RowK
namespace Go.Proofs.Ytnjdkjkihbgkaaa.PairB
set_option maxRecDepth 100000
open Go Go.RowKit Byt OpsM OpsK Rise PairM PairN RowS RowB PairW PairS PairX

set_option maxRecDepth 100000 in
set_option maxHeartbeats 16000000 in
theorem alone_ret (c : Pr) (w : World) (hf : Fit c) :
    Calls Try.prog 35 #[.agg (pc c)] w fun e w' => e = .returned (.bool (oneP c)) ∧ Below w.heap.size w w' := by
  have R1 : Box E (w.alloc (.cells (pc c) 41)) w.heap.size c := Box.new w c _
  have kb : Below w.heap.size w (w.alloc (.cells (pc c) 41)) := below_alloc _ _
  obtain ⟨c0, c1, c2, c3⟩ := box_cells R1
  have ck := OpsK.key c.key (by have := hf.key; unfold maxLen; omega)
  have ce := OpsK.key c.elem (by have := hf.elem; unfold maxLen; omega)
  clear R1 hf
  obtain ⟨r, hr⟩ : ∃ r, oneP c = r := ⟨_, rfl⟩
  have hn : r = oneP c := hr.symm
  rw [hr]
  unfold oneP at hn
  clear hr
  obtain ⟨bk, hbk⟩ : ∃ b, keyL (bytesL c.key) = b := ⟨_, rfl⟩
  obtain ⟨be, hbe⟩ : ∃ b, keyL (bytesL c.elem) = b := ⟨_, rfl⟩
  rw [hbk] at ck hn
  rw [hbe] at ce hn
  clear hbk hbe
  obtain ⟨n, hnn⟩ : ∃ n, c.node = n := ⟨_, rfl⟩
  obtain ⟨s, hs⟩ : ∃ s, c.seq = s := ⟨_, rfl⟩
  rw [hnn] at c2 hn
  rw [hs] at c3 hn
  clear hnn hs
  have HN := aside hn
  clear hn
  have hbe : bk = false ∨ (bk = true ∧ (be = false ∨ be = true)) := by
    cases bk <;> cases be <;> simp
  have hnode : ¬ 0 ≤ n ∨ (0 ≤ n ∧ (¬ n < 8 ∨ n < 8)) := by omega
  rcases hnode with p2 | ⟨p2, p3 | p3⟩ <;> rcases hbe with rfl | ⟨rfl, rfl | rfl⟩
  · have HR : Hid (r = false) := aside (by rw [HN.out]; first | rfl | (simp; done) | (simp; omega))
    clear HN
    go_enter Try.func35, Try.ntmps35
    go_wp2_with (first | (refine (ck _).mono ?_; rintro e w' ⟨rfl, rfl⟩; clear ck) | (refine (ce _).mono ?_; rintro e w' ⟨rfl, rfl⟩; clear ce))
    go_ret
    exact ⟨ret_bool HR.out.symm, kb⟩
  · have HR : Hid (r = false) := aside (by rw [HN.out]; first | rfl | (simp; done) | (simp; omega))
    clear HN
    go_enter Try.func35, Try.ntmps35
    go_wp2_with (first | (refine (ck _).mono ?_; rintro e w' ⟨rfl, rfl⟩; clear ck) | (refine (ce _).mono ?_; rintro e w' ⟨rfl, rfl⟩; clear ce))
    go_ret
    exact ⟨ret_bool HR.out.symm, kb⟩
  · have HR : Hid (r = false) := aside (by rw [HN.out]; first | rfl | (simp; done) | (simp; omega))
    clear HN
    go_enter Try.func35, Try.ntmps35
    go_wp2_with (first | (refine (ck _).mono ?_; rintro e w' ⟨rfl, rfl⟩; clear ck) | (refine (ce _).mono ?_; rintro e w' ⟨rfl, rfl⟩; clear ce))
    go_ret
    exact ⟨ret_bool HR.out.symm, kb⟩
  · have HR : Hid (r = false) := aside (by rw [HN.out]; first | rfl | (simp; done) | (simp; omega))
    clear HN
    go_enter Try.func35, Try.ntmps35
    go_wp2_with (first | (refine (ck _).mono ?_; rintro e w' ⟨rfl, rfl⟩; clear ck) | (refine (ce _).mono ?_; rintro e w' ⟨rfl, rfl⟩; clear ce))
    go_ret
    exact ⟨ret_bool HR.out.symm, kb⟩
  · have HR : Hid (r = false) := aside (by rw [HN.out]; first | rfl | (simp; done) | (simp; omega))
    clear HN
    go_enter Try.func35, Try.ntmps35
    go_wp2_with (first | (refine (ck _).mono ?_; rintro e w' ⟨rfl, rfl⟩; clear ck) | (refine (ce _).mono ?_; rintro e w' ⟨rfl, rfl⟩; clear ce))
    go_ret
    exact ⟨ret_bool HR.out.symm, kb⟩
  · have HR : Hid (r = false) := aside (by rw [HN.out]; first | rfl | (simp; done) | (simp; omega))
    clear HN
    go_enter Try.func35, Try.ntmps35
    go_wp2_with (first | (refine (ck _).mono ?_; rintro e w' ⟨rfl, rfl⟩; clear ck) | (refine (ce _).mono ?_; rintro e w' ⟨rfl, rfl⟩; clear ce))
    go_ret
    exact ⟨ret_bool HR.out.symm, kb⟩
  · have HR : Hid (r = false) := aside (by rw [HN.out]; first | rfl | (simp; done) | (simp; omega))
    clear HN
    go_enter Try.func35, Try.ntmps35
    go_wp2_with (first | (refine (ck _).mono ?_; rintro e w' ⟨rfl, rfl⟩; clear ck) | (refine (ce _).mono ?_; rintro e w' ⟨rfl, rfl⟩; clear ce))
    go_ret
    exact ⟨ret_bool HR.out.symm, kb⟩
  · have HR : Hid (r = false) := aside (by rw [HN.out]; first | rfl | (simp; done) | (simp; omega))
    clear HN
    go_enter Try.func35, Try.ntmps35
    go_wp2_with (first | (refine (ck _).mono ?_; rintro e w' ⟨rfl, rfl⟩; clear ck) | (refine (ce _).mono ?_; rintro e w' ⟨rfl, rfl⟩; clear ce))
    go_ret
    exact ⟨ret_bool HR.out.symm, kb⟩
  · have HR : Hid (r = decide (0 < s)) := aside (by rw [HN.out]; simp only [decide_eq_true p2, decide_eq_true p3, Bool.true_and]; exact decide_eq_decide.2 (by omega))
    clear HN
    go_enter Try.func35, Try.ntmps35
    go_wp2_with (first | (refine (ck _).mono ?_; rintro e w' ⟨rfl, rfl⟩; clear ck) | (refine (ce _).mono ?_; rintro e w' ⟨rfl, rfl⟩; clear ce))
    go_ret
    exact ⟨ret_bool HR.out.symm, kb⟩

/-- A pair without its event. -/
def bareP (x : Pr) : Pr := ⟨x.key, x.elem, 0, 0⟩
theorem info_ev : (Try.prog.info? 39).map (·.size) = some (#[.int .i64 0, .int .i64 0] : Array Value).size := by kernel_rfl
theorem ones_ev : (#[.int .i64 0, .int .i64 0] : Array Value).all (·.oneCell') = true := by kernel_rfl
set_option maxRecDepth 100000 in
set_option maxHeartbeats 4000000 in
theorem bare_ret (x : Pr) (w : World) : Calls Try.prog 70 #[.agg (pc x)] w fun e w' => e = .returned (.agg (pc (bareP x))) ∧ Below w.heap.size w w' := by
  have R1 : Box E ((w.alloc (.cells (pc x) 41)).alloc (.cells (pc E.zero) 41)) w.heap.size x := (Box.new (E := E) w x 41).alloc _
  have R2 : Box E ((w.alloc (.cells (pc x) 41)).alloc (.cells (pc E.zero) 41)) (w.heap.size + 1) E.zero := by
    have z : (w.alloc (.cells (pc x) 41)).heap.size = w.heap.size + 1 := by simp
    rw [← z]
    exact Box.new _ E.zero _
  have kb : Below w.heap.size w ((w.alloc (.cells (pc x) 41)).alloc (.cells (pc E.zero) 41)) := ((Below.refl _ _).alloc (Nat.le_refl _) _).alloc (by simp) _
  go_enter Try.func70, Try.ntmps70
  go_wp2_with (first
    | (refine RowJ.wpList_store_part E rfl rfl 39 _ _ rfl w.heap.size 2 rfl x R1 (bareP x) #[.int .i64 0, .int .i64 0] info_ev rfl ones_ev (of_decide_eq_true rfl) rfl ?_; intro w1 B1 b1 g1 s1; have C1 := R2.kept g1 (by omega); have k1 := kb.trans (b1 _ (Nat.le_refl _)))
    | (refine wpList_load_box E rfl _ rfl _ rfl (bareP x) B1 ?_)
    | (refine wpList_store_box E rfl _ _ rfl (w.heap.size + 1) rfl E.zero C1 (bareP x) rfl ?_; intro w2 B2 b2 g2 s2; have k2 := k1.trans (b2 _ (Nat.le_succ _))))
  obtain ⟨r0, r1, r2, r3⟩ := box_cells B2
  exact bodyPost_ret (v := .agg (pc (bareP x))) (by simp [results, Try.results70, go_sem, r0, r1, r2, r3, pc, bareP]) rfl ⟨rfl, k2⟩
end Go.Proofs.Ytnjdkjkihbgkaaa.PairB
