/- What the document's Newer, one, May, Get of package reg return: contracts. -/
import Derived.Test.YtffefbhpndjdlaaRegW
import Derived.Test.YtffefbhpndjdlaaKeyR
namespace Go.Proofs.Ytffefbhpndjdlaa.RegR
open Go Go.RowKit Byt OpsM OpsK Rise RegM RegL RowS RegW

set_option maxHeartbeats 4000000 in
theorem newer_ret (a b : Rg) (w : World) :
    Calls Try.prog 18 #[.agg (rc a), .agg (rc b)] w fun e w' => e = .returned (.bool (newerB a b)) ∧ Below w.heap.size w w' := by
  have R1 : RgAt ((w.alloc (.cells (rc a) 26)).alloc (.cells (rc b) 26)) w.heap.size a := (RgAt.new w a _).alloc _
  have R2 : RgAt ((w.alloc (.cells (rc a) 26)).alloc (.cells (rc b) 26)) (w.heap.size + 1) b := by
    have := RgAt.new (w.alloc (.cells (rc a) 26)) b 26
    simpa using this
  have kb : Below w.heap.size w ((w.alloc (.cells (rc a) 26)).alloc (.cells (rc b) 26)) := ((Below.refl _ _).alloc (Nat.le_refl _) _).alloc (by simp) _
  obtain ⟨_, c1, c2, c3, c4⟩ := R1.cells
  obtain ⟨_, d1, d2, d3, d4⟩ := R2.cells
  clear R1 R2
  obtain ⟨r, hr⟩ : ∃ r, newerB a b = r := ⟨_, rfl⟩
  have hn : r = newerB a b := hr.symm
  rw [hr]
  unfold newerB at hn
  clear hr
  by_cases h1 : a.gen = b.gen
  · have t1 : (a.gen != b.gen) = false := by simpa using h1
    rw [if_neg (by simpa using h1)] at hn
    by_cases h2 : a.node = b.node
    · have t2 : (a.node != b.node) = false := by simpa using h2
      rw [if_neg (by simpa using h2)] at hn
      by_cases h3 : a.seq = b.seq
      · have t3 : (a.seq != b.seq) = false := by simpa using h3
        rw [if_neg (by simpa using h3)] at hn
        have HR := aside hn
        clear hn h1 h2 h3
        go_enter Try.func18, Try.ntmps18
        go_wp2
        go_ret
        exact ⟨ret_bool ((above _ _).trans HR.out.symm), kb⟩
      · have t3 : (a.seq != b.seq) = true := by simpa using h3
        rw [if_pos h3] at hn
        have HR := aside hn
        clear hn h1 h2 h3
        go_enter Try.func18, Try.ntmps18
        go_wp2
        go_ret
        exact ⟨ret_bool HR.out.symm, kb⟩
    · have t2 : (a.node != b.node) = true := by simpa using h2
      rw [if_pos h2] at hn
      have HR := aside hn
      clear hn h1 h2
      go_enter Try.func18, Try.ntmps18
      go_wp2
      go_ret
      exact ⟨ret_bool HR.out.symm, kb⟩
  · have t1 : (a.gen != b.gen) = true := by simpa using h1
    rw [if_pos h1] at hn
    have HR := aside hn
    clear hn h1
    go_enter Try.func18, Try.ntmps18
    go_wp2
    go_ret
    exact ⟨ret_bool HR.out.symm, kb⟩

set_option maxRecDepth 100000 in
set_option maxHeartbeats 8000000 in
theorem one_ret (c : Rg) (w : World) (hf : Fit c) :
    Calls Try.prog 21 #[.agg (rc c)] w fun e w' => e = .returned (.bool (oneR c)) ∧ Below w.heap.size w w' := by
  have R1 : RgAt (w.alloc (.cells (rc c) 26)) w.heap.size c := RgAt.new w c _
  have kb : Below w.heap.size w (w.alloc (.cells (rc c) 26)) := (Below.refl _ _).alloc (Nat.le_refl _) _
  obtain ⟨c0, c1, c2, c3, c4⟩ := R1.cells
  have ck := OpsR.key c.key hf.key
  have ce := OpsR.key c.elem hf.elem
  clear R1 hf
  obtain ⟨r, hr⟩ : ∃ r, oneR c = r := ⟨_, rfl⟩
  have hn : r = oneR c := hr.symm
  rw [hr]
  unfold oneR at hn
  clear hr
  obtain ⟨bk, hbk⟩ : ∃ b, keyL (bytesL c.key) = b := ⟨_, rfl⟩
  obtain ⟨be, hbe⟩ : ∃ b, keyL (bytesL c.elem) = b := ⟨_, rfl⟩
  rw [hbk] at ck hn
  rw [hbe] at ce hn
  clear hbk hbe
  cases bk with
  | false =>
    have HR : Hid (r = false) := aside hn
    clear hn
    go_enter Try.func21, Try.ntmps21
    go_wp2_with (first | (refine (ck _).mono ?_; rintro e w' ⟨rfl, rfl⟩; clear ck) | (refine (ce _).mono ?_; rintro e w' ⟨rfl, rfl⟩; clear ce))
    go_ret
    exact ⟨ret_bool HR.out.symm, kb⟩
  | true =>
    cases be with
    | false =>
      have HR : Hid (r = false) := aside hn
      clear hn
      go_enter Try.func21, Try.ntmps21
      go_wp2_with (first | (refine (ck _).mono ?_; rintro e w' ⟨rfl, rfl⟩; clear ck) | (refine (ce _).mono ?_; rintro e w' ⟨rfl, rfl⟩; clear ce))
      go_ret
      exact ⟨ret_bool HR.out.symm, kb⟩
    | true =>
      rw [Bool.true_and, Bool.true_and] at hn
      obtain ⟨g, hg⟩ : ∃ g, c.gen = g := ⟨_, rfl⟩
      obtain ⟨n, hnn⟩ : ∃ n, c.node = n := ⟨_, rfl⟩
      obtain ⟨s, hs⟩ : ∃ s, c.seq = s := ⟨_, rfl⟩
      rw [hg] at c2 hn
      rw [hnn] at c3 hn
      rw [hs] at c4 hn
      clear hg hnn hs
      by_cases p1 : 0 < g
      · by_cases p2 : 0 ≤ n
        · by_cases p3 : n < 8
          · have HR : Hid (r = decide (0 < s)) := aside (by rw [hn]; simp [p1, p2, p3])
            clear hn
            go_enter Try.func21, Try.ntmps21
            go_wp2_with (first | (refine (ck _).mono ?_; rintro e w' ⟨rfl, rfl⟩; clear ck) | (refine (ce _).mono ?_; rintro e w' ⟨rfl, rfl⟩; clear ce))
            go_ret
            exact ⟨ret_bool HR.out.symm, kb⟩
          · have HR : Hid (r = false) := aside (by rw [hn]; simp; omega)
            clear hn
            go_enter Try.func21, Try.ntmps21
            go_wp2_with (first | (refine (ck _).mono ?_; rintro e w' ⟨rfl, rfl⟩; clear ck) | (refine (ce _).mono ?_; rintro e w' ⟨rfl, rfl⟩; clear ce))
            go_ret
            exact ⟨ret_bool HR.out.symm, kb⟩
        · have HR : Hid (r = false) := aside (by rw [hn]; simp; omega)
          clear hn
          go_enter Try.func21, Try.ntmps21
          go_wp2_with (first | (refine (ck _).mono ?_; rintro e w' ⟨rfl, rfl⟩; clear ck) | (refine (ce _).mono ?_; rintro e w' ⟨rfl, rfl⟩; clear ce))
          go_ret
          exact ⟨ret_bool HR.out.symm, kb⟩
      · have HR : Hid (r = false) := aside (by rw [hn]; simp; omega)
        clear hn
        go_enter Try.func21, Try.ntmps21
        go_wp2_with (first | (refine (ck _).mono ?_; rintro e w' ⟨rfl, rfl⟩; clear ck) | (refine (ce _).mono ?_; rintro e w' ⟨rfl, rfl⟩; clear ce))
        go_ret
        exact ⟨ret_bool HR.out.symm, kb⟩
end Go.Proofs.Ytffefbhpndjdlaa.RegR
