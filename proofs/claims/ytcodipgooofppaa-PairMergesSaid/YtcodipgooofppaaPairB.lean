/- What alone, May, bare and stays of the project's package pair return: contracts. -/
import Derived.Test.YtcodipgooofppaaPairO
import Derived.Test.YtcodipgooofppaaRowJ
import Derived.Test.YtcodipgooofppaaRowK
namespace Go.Proofs.Ytcodipgooofppaa.PairB
open Go Go.RowKit Byt OpsM OpsK Rise PairM PairN RowS RowB PairW PairS PairX

set_option maxRecDepth 100000 in
set_option maxHeartbeats 16000000 in
theorem alone_ret (c : Pr) (w : World) (hf : Fit c) :
    Calls Try.prog 32 #[.agg (pc c)] w fun e w' => e = .returned (.bool (oneP c)) ∧ Below w.heap.size w w' := by
  have R1 : Box E (w.alloc (.cells (pc c) 26)) w.heap.size c := Box.new w c _
  have kb : Below w.heap.size w (w.alloc (.cells (pc c) 26)) := below_alloc _ _
  obtain ⟨c0, c1, c2, c3⟩ := box_cells R1
  have ck := OpsK.key c.key (by have := hf.key; unfold maxLen; omega)
  have ce := OpsK.key c.elem (by have := hf.elem; unfold maxLen; omega)
  clear R1 hf
  obtain ⟨r, hr⟩ : ∃ r, oneP c = r := ⟨_, rfl⟩
  have hn : r = oneP c := hr.symm
  rw [hr]
  unfold oneP at hn
  clear hr
  obtain ⟨bk, hbk⟩ : ∃ b, keyL (bytesL c.key) = b := ⟨_, rfl⟩
  obtain ⟨be, hbe⟩ : ∃ b, keyL (bytesL c.elem) = b := ⟨_, rfl⟩
  rw [hbk] at ck hn
  rw [hbe] at ce hn
  clear hbk hbe
  obtain ⟨n, hnn⟩ : ∃ n, c.node = n := ⟨_, rfl⟩
  obtain ⟨s, hs⟩ : ∃ s, c.seq = s := ⟨_, rfl⟩
  rw [hnn] at c2 hn
  rw [hs] at c3 hn
  clear hnn hs
  have HN := aside hn
  clear hn
  have hbe : bk = false ∨ (bk = true ∧ (be = false ∨ be = true)) := by
    cases bk <;> cases be <;> simp
  have hnode : ¬ 0 ≤ n ∨ (0 ≤ n ∧ (¬ n < 8 ∨ n < 8)) := by omega
  rcases hnode with p2 | ⟨p2, p3 | p3⟩ <;> rcases hbe with rfl | ⟨rfl, rfl | rfl⟩
  · have HR : Hid (r = false) := aside (by rw [HN.out]; first | rfl | (simp; done) | (simp; omega))
    clear HN
    go_enter Try.func32, Try.ntmps32
    go_wp2_with (first | (refine (ck _).mono ?_; rintro e w' ⟨rfl, rfl⟩; clear ck) | (refine (ce _).mono ?_; rintro e w' ⟨rfl, rfl⟩; clear ce))
    go_ret
    exact ⟨ret_bool HR.out.symm, kb⟩
  · have HR : Hid (r = false) := aside (by rw [HN.out]; first | rfl | (simp; done) | (simp; omega))
    clear HN
    go_enter Try.func32, Try.ntmps32
    go_wp2_with (first | (refine (ck _).mono ?_; rintro e w' ⟨rfl, rfl⟩; clear ck) | (refine (ce _).mono ?_; rintro e w' ⟨rfl, rfl⟩; clear ce))
    go_ret
    exact ⟨ret_bool HR.out.symm, kb⟩
  · have HR : Hid (r = false) := aside (by rw [HN.out]; first | rfl | (simp; done) | (simp; omega))
    clear HN
    go_enter Try.func32, Try.ntmps32
    go_wp2_with (first | (refine (ck _).mono ?_; rintro e w' ⟨rfl, rfl⟩; clear ck) | (refine (ce _).mono ?_; rintro e w' ⟨rfl, rfl⟩; clear ce))
    go_ret
    exact ⟨ret_bool HR.out.symm, kb⟩
  · have HR : Hid (r = false) := aside (by rw [HN.out]; first | rfl | (simp; done) | (simp; omega))
    clear HN
    go_enter Try.func32, Try.ntmps32
    go_wp2_with (first | (refine (ck _).mono ?_; rintro e w' ⟨rfl, rfl⟩; clear ck) | (refine (ce _).mono ?_; rintro e w' ⟨rfl, rfl⟩; clear ce))
    go_ret
    exact ⟨ret_bool HR.out.symm, kb⟩
  · have HR : Hid (r = false) := aside (by rw [HN.out]; first | rfl | (simp; done) | (simp; omega))
    clear HN
    go_enter Try.func32, Try.ntmps32
    go_wp2_with (first | (refine (ck _).mono ?_; rintro e w' ⟨rfl, rfl⟩; clear ck) | (refine (ce _).mono ?_; rintro e w' ⟨rfl, rfl⟩; clear ce))
    go_ret
    exact ⟨ret_bool HR.out.symm, kb⟩
  · have HR : Hid (r = false) := aside (by rw [HN.out]; first | rfl | (simp; done) | (simp; omega))
    clear HN
    go_enter Try.func32, Try.ntmps32
    go_wp2_with (first | (refine (ck _).mono ?_; rintro e w' ⟨rfl, rfl⟩; clear ck) | (refine (ce _).mono ?_; rintro e w' ⟨rfl, rfl⟩; clear ce))
    go_ret
    exact ⟨ret_bool HR.out.symm, kb⟩
  · have HR : Hid (r = false) := aside (by rw [HN.out]; first | rfl | (simp; done) | (simp; omega))
    clear HN
    go_enter Try.func32, Try.ntmps32
    go_wp2_with (first | (refine (ck _).mono ?_; rintro e w' ⟨rfl, rfl⟩; clear ck) | (refine (ce _).mono ?_; rintro e w' ⟨rfl, rfl⟩; clear ce))
    go_ret
    exact ⟨ret_bool HR.out.symm, kb⟩
  · have HR : Hid (r = false) := aside (by rw [HN.out]; first | rfl | (simp; done) | (simp; omega))
    clear HN
    go_enter Try.func32, Try.ntmps32
    go_wp2_with (first | (refine (ck _).mono ?_; rintro e w' ⟨rfl, rfl⟩; clear ck) | (refine (ce _).mono ?_; rintro e w' ⟨rfl, rfl⟩; clear ce))
    go_ret
    exact ⟨ret_bool HR.out.symm, kb⟩
  · have HR : Hid (r = decide (0 < s)) := aside (by rw [HN.out]; simp only [decide_eq_true p2, decide_eq_true p3, Bool.true_and]; exact decide_eq_decide.2 (by omega))
    clear HN
    go_enter Try.func32, Try.ntmps32
    go_wp2_with (first | (refine (ck _).mono ?_; rintro e w' ⟨rfl, rfl⟩; clear ck) | (refine (ce _).mono ?_; rintro e w' ⟨rfl, rfl⟩; clear ce))
    go_ret
    exact ⟨ret_bool HR.out.symm, kb⟩

/-- A pair without its event. -/
def bareP (x : Pr) : Pr := ⟨x.key, x.elem, 0, 0⟩
theorem info_ev : (Try.prog.info? 24).map (·.size) = some (#[.int .i64 0, .int .i64 0] : Array Value).size := by kernel_rfl
theorem ones_ev : (#[.int .i64 0, .int .i64 0] : Array Value).all (·.oneCell') = true := by kernel_rfl
set_option maxRecDepth 100000 in
set_option maxHeartbeats 4000000 in
theorem bare_ret (x : Pr) (w : World) : Calls Try.prog 27 #[.agg (pc x)] w fun e w' => e = .returned (.agg (pc (bareP x))) ∧ Below w.heap.size w w' := by
  have R1 : Box E ((w.alloc (.cells (pc x) 26)).alloc (.cells (pc E.zero) 26)) w.heap.size x := (Box.new (E := E) w x 26).alloc _
  have R2 : Box E ((w.alloc (.cells (pc x) 26)).alloc (.cells (pc E.zero) 26)) (w.heap.size + 1) E.zero := by
    have z : (w.alloc (.cells (pc x) 26)).heap.size = w.heap.size + 1 := by simp
    rw [← z]
    exact Box.new _ E.zero _
  have kb : Below w.heap.size w ((w.alloc (.cells (pc x) 26)).alloc (.cells (pc E.zero) 26)) := ((Below.refl _ _).alloc (Nat.le_refl _) _).alloc (by simp) _
  go_enter Try.func27, Try.ntmps27
  go_wp2_with (first
    | (refine RowJ.wpList_store_part E rfl rfl 24 _ _ rfl w.heap.size 2 rfl x R1 (bareP x) #[.int .i64 0, .int .i64 0] info_ev rfl ones_ev (of_decide_eq_true rfl) rfl ?_; intro w1 B1 b1 g1 s1; have C1 := R2.kept g1 (by omega); have k1 := kb.trans (b1 _ (Nat.le_refl _)))
    | (refine wpList_load_box E rfl _ rfl _ rfl (bareP x) B1 ?_)
    | (refine wpList_store_box E rfl _ _ rfl (w.heap.size + 1) rfl E.zero C1 (bareP x) rfl ?_; intro w2 B2 b2 g2 s2; have k2 := k1.trans (b2 _ (Nat.le_succ _))))
  obtain ⟨r0, r1, r2, r3⟩ := box_cells B2
  exact bodyPost_ret (v := .agg (pc (bareP x))) (by simp [results, Try.results27, go_sem, r0, r1, r2, r3, pc, bareP]) rfl ⟨rfl, k2⟩
end Go.Proofs.Ytcodipgooofppaa.PairB
