/- What the project's Newer, alone, May of package reg return: contracts. -/
import Derived.Test.YtnjdkjkihbgkaaaGreatRegUJ3
namespace Go.Proofs.YtnjdkjkihbgkaaaGreat.RegB
set_option maxRecDepth 100000
open Go Go.RowKit Byt OpsM OpsK Rise RegM RegL RowS RowB RegW RegG

set_option maxHeartbeats 4000000 in
theorem newer_ret (a b : Rg) (w : World) :
    Calls Tryz.prog 103 #[.agg (rc a), .agg (rc b)] w fun e w' => e = .returned (.bool (newerB a b)) ∧ Below w.heap.size w w' := by
  have R1 : RgAt ((w.alloc (.cells (rc a) 43)).alloc (.cells (rc b) 43)) w.heap.size a := (RgAt.new w a _).alloc _
  have R2 : RgAt ((w.alloc (.cells (rc a) 43)).alloc (.cells (rc b) 43)) (w.heap.size + 1) b := by
    have := RgAt.new (w.alloc (.cells (rc a) 43)) b 43
    simpa using this
  have kb : Below w.heap.size w ((w.alloc (.cells (rc a) 43)).alloc (.cells (rc b) 43)) := ((Below.refl _ _).alloc (Nat.le_refl _) _).alloc (by simp) _
  obtain ⟨_, c1, c2, c3, c4⟩ := R1.cells
  obtain ⟨_, d1, d2, d3, d4⟩ := R2.cells
  clear R1 R2
  obtain ⟨r, hr⟩ : ∃ r, newerB a b = r := ⟨_, rfl⟩
  have hn : r = newerB a b := hr.symm
  rw [hr]
  unfold newerB at hn
  clear hr
  by_cases h1 : a.gen = b.gen
  · have t1 : (a.gen != b.gen) = false := by simpa using h1
    rw [if_neg (by simpa using h1)] at hn
    by_cases h2 : a.node = b.node
    · have t2 : (a.node != b.node) = false := by simpa using h2
      rw [if_neg (by simpa using h2)] at hn
      by_cases h3 : a.seq = b.seq
      · have t3 : (a.seq != b.seq) = false := by simpa using h3
        rw [if_neg (by simpa using h3)] at hn
        have HR := aside hn
        clear hn h1 h2 h3
        go_enter Tryz.func103, Tryz.ntmps103
        go_wp2
        go_ret
        exact ⟨ret_bool ((above _ _).trans HR.out.symm), kb⟩
      · have t3 : (a.seq != b.seq) = true := by simpa using h3
        rw [if_pos h3] at hn
        have HR := aside hn
        clear hn h1 h2 h3
        go_enter Tryz.func103, Tryz.ntmps103
        go_wp2
        go_ret
        exact ⟨ret_bool HR.out.symm, kb⟩
    · have t2 : (a.node != b.node) = true := by simpa using h2
      rw [if_pos h2] at hn
      have HR := aside hn
      clear hn h1 h2
      go_enter Tryz.func103, Tryz.ntmps103
      go_wp2
      go_ret
      exact ⟨ret_bool HR.out.symm, kb⟩
  · have t1 : (a.gen != b.gen) = true := by simpa using h1
    rw [if_pos h1] at hn
    have HR := aside hn
    clear hn h1
    go_enter Tryz.func103, Tryz.ntmps103
    go_wp2
    go_ret
    exact ⟨ret_bool HR.out.symm, kb⟩

set_option maxRecDepth 100000 in
set_option maxHeartbeats 16000000 in
theorem alone_ret (c : Rg) (w : World) (hf : Fit c) :
    Calls Tryz.prog 80 #[.agg (rc c)] w fun e w' => e = .returned (.bool (oneR c)) ∧ Below w.heap.size w w' := by
  have R1 : RgAt (w.alloc (.cells (rc c) 43)) w.heap.size c := RgAt.new w c _
  have kb : Below w.heap.size w (w.alloc (.cells (rc c) 43)) := (Below.refl _ _).alloc (Nat.le_refl _) _
  obtain ⟨c0, c1, c2, c3, c4⟩ := R1.cells
  have ck := OpsK.key c.key (by have := hf.key; unfold maxLen; omega)
  have ce := OpsK.key c.elem (by have := hf.elem; unfold maxLen; omega)
  clear R1 hf
  obtain ⟨r, hr⟩ : ∃ r, oneR c = r := ⟨_, rfl⟩
  have hn : r = oneR c := hr.symm
  rw [hr]
  unfold oneR at hn
  clear hr
  obtain ⟨bk, hbk⟩ : ∃ b, keyL (bytesL c.key) = b := ⟨_, rfl⟩
  obtain ⟨be, hbe⟩ : ∃ b, keyL (bytesL c.elem) = b := ⟨_, rfl⟩
  rw [hbk] at ck hn
  rw [hbe] at ce hn
  clear hbk hbe
  obtain ⟨g, hg⟩ : ∃ g, c.gen = g := ⟨_, rfl⟩
  obtain ⟨n, hnn⟩ : ∃ n, c.node = n := ⟨_, rfl⟩
  obtain ⟨s, hs⟩ : ∃ s, c.seq = s := ⟨_, rfl⟩
  rw [hg] at c2 hn
  rw [hnn] at c3 hn
  rw [hs] at c4 hn
  clear hg hnn hs
  have HN := aside hn
  clear hn
  have hbe : bk = false ∨ (bk = true ∧ (be = false ∨ (be = true ∧ (¬ 0 < g ∨ 0 < g)))) := by
    cases bk <;> cases be <;> simp <;> omega
  have hnode : ¬ 0 ≤ n ∨ (0 ≤ n ∧ (¬ n < 8 ∨ n < 8)) := by omega
  rcases hnode with p2 | ⟨p2, p3 | p3⟩ <;> rcases hbe with rfl | ⟨rfl, rfl | ⟨rfl, p1 | p1⟩⟩
  · have HR : Hid (r = false) := aside (by rw [HN.out]; first | rfl | (simp; done) | (simp; omega))
    clear HN
    go_enter Tryz.func80, Tryz.ntmps80
    go_wp2_with (first | (refine (ck _).mono ?_; rintro e w' ⟨rfl, rfl⟩; clear ck) | (refine (ce _).mono ?_; rintro e w' ⟨rfl, rfl⟩; clear ce))
    go_ret
    exact ⟨ret_bool HR.out.symm, kb⟩
  · have HR : Hid (r = false) := aside (by rw [HN.out]; first | rfl | (simp; done) | (simp; omega))
    clear HN
    go_enter Tryz.func80, Tryz.ntmps80
    go_wp2_with (first | (refine (ck _).mono ?_; rintro e w' ⟨rfl, rfl⟩; clear ck) | (refine (ce _).mono ?_; rintro e w' ⟨rfl, rfl⟩; clear ce))
    go_ret
    exact ⟨ret_bool HR.out.symm, kb⟩
  · have HR : Hid (r = false) := aside (by rw [HN.out]; first | rfl | (simp; done) | (simp; omega))
    clear HN
    go_enter Tryz.func80, Tryz.ntmps80
    go_wp2_with (first | (refine (ck _).mono ?_; rintro e w' ⟨rfl, rfl⟩; clear ck) | (refine (ce _).mono ?_; rintro e w' ⟨rfl, rfl⟩; clear ce))
    go_ret
    exact ⟨ret_bool HR.out.symm, kb⟩
  · have HR : Hid (r = false) := aside (by rw [HN.out]; first | rfl | (simp; done) | (simp; omega))
    clear HN
    go_enter Tryz.func80, Tryz.ntmps80
    go_wp2_with (first | (refine (ck _).mono ?_; rintro e w' ⟨rfl, rfl⟩; clear ck) | (refine (ce _).mono ?_; rintro e w' ⟨rfl, rfl⟩; clear ce))
    go_ret
    exact ⟨ret_bool HR.out.symm, kb⟩
  · have HR : Hid (r = false) := aside (by rw [HN.out]; first | rfl | (simp; done) | (simp; omega))
    clear HN
    go_enter Tryz.func80, Tryz.ntmps80
    go_wp2_with (first | (refine (ck _).mono ?_; rintro e w' ⟨rfl, rfl⟩; clear ck) | (refine (ce _).mono ?_; rintro e w' ⟨rfl, rfl⟩; clear ce))
    go_ret
    exact ⟨ret_bool HR.out.symm, kb⟩
  · have HR : Hid (r = false) := aside (by rw [HN.out]; first | rfl | (simp; done) | (simp; omega))
    clear HN
    go_enter Tryz.func80, Tryz.ntmps80
    go_wp2_with (first | (refine (ck _).mono ?_; rintro e w' ⟨rfl, rfl⟩; clear ck) | (refine (ce _).mono ?_; rintro e w' ⟨rfl, rfl⟩; clear ce))
    go_ret
    exact ⟨ret_bool HR.out.symm, kb⟩
  · have HR : Hid (r = false) := aside (by rw [HN.out]; first | rfl | (simp; done) | (simp; omega))
    clear HN
    go_enter Tryz.func80, Tryz.ntmps80
    go_wp2_with (first | (refine (ck _).mono ?_; rintro e w' ⟨rfl, rfl⟩; clear ck) | (refine (ce _).mono ?_; rintro e w' ⟨rfl, rfl⟩; clear ce))
    go_ret
    exact ⟨ret_bool HR.out.symm, kb⟩
  · have HR : Hid (r = false) := aside (by rw [HN.out]; first | rfl | (simp; done) | (simp; omega))
    clear HN
    go_enter Tryz.func80, Tryz.ntmps80
    go_wp2_with (first | (refine (ck _).mono ?_; rintro e w' ⟨rfl, rfl⟩; clear ck) | (refine (ce _).mono ?_; rintro e w' ⟨rfl, rfl⟩; clear ce))
    go_ret
    exact ⟨ret_bool HR.out.symm, kb⟩
  · have HR : Hid (r = false) := aside (by rw [HN.out]; first | rfl | (simp; done) | (simp; omega))
    clear HN
    go_enter Tryz.func80, Tryz.ntmps80
    go_wp2_with (first | (refine (ck _).mono ?_; rintro e w' ⟨rfl, rfl⟩; clear ck) | (refine (ce _).mono ?_; rintro e w' ⟨rfl, rfl⟩; clear ce))
    go_ret
    exact ⟨ret_bool HR.out.symm, kb⟩
  · have HR : Hid (r = false) := aside (by rw [HN.out]; first | rfl | (simp; done) | (simp; omega))
    clear HN
    go_enter Tryz.func80, Tryz.ntmps80
    go_wp2_with (first | (refine (ck _).mono ?_; rintro e w' ⟨rfl, rfl⟩; clear ck) | (refine (ce _).mono ?_; rintro e w' ⟨rfl, rfl⟩; clear ce))
    go_ret
    exact ⟨ret_bool HR.out.symm, kb⟩
  · have HR : Hid (r = false) := aside (by rw [HN.out]; first | rfl | (simp; done) | (simp; omega))
    clear HN
    go_enter Tryz.func80, Tryz.ntmps80
    go_wp2_with (first | (refine (ck _).mono ?_; rintro e w' ⟨rfl, rfl⟩; clear ck) | (refine (ce _).mono ?_; rintro e w' ⟨rfl, rfl⟩; clear ce))
    go_ret
    exact ⟨ret_bool HR.out.symm, kb⟩
  · have HR : Hid (r = decide (0 < s)) := aside (by rw [HN.out]; simp [p1, p2, p3])
    clear HN
    go_enter Tryz.func80, Tryz.ntmps80
    go_wp2_with (first | (refine (ck _).mono ?_; rintro e w' ⟨rfl, rfl⟩; clear ck) | (refine (ce _).mono ?_; rintro e w' ⟨rfl, rfl⟩; clear ce))
    go_ret
    exact ⟨ret_bool HR.out.symm, kb⟩

set_option maxRecDepth 100000 in
set_option maxHeartbeats 8000000 in
theorem may_ret (A : Option Addr) (cap : Nat) (l : List Rg) (w : World) (S : SlR E w A cap l) (hf : Fits l) (hl : l.length ≤ 1000000) :
    Calls Tryz.prog 41 #[.slice A l.length cap] w fun e w' => e = .returned (.bool (mayR l)) ∧ Below w.heap.size w w' := by
  have hcap := S.1
  obtain ⟨r, hr0⟩ : ∃ r, mayR l = r := ⟨_, rfl⟩
  rw [hr0]
  have HR0 := aside hr0
  clear hr0
  go_enter Tryz.func41, Tryz.ntmps41
  go_wp2
  go_loopw [7] (fun i wr => ∃ j : Nat, j ≤ l.length ∧ i = .int .i64 j ∧ Hid (0 < j → mayR (l.take j) = true) ∧ Below w.heap.size w wr) (fun i _ => l.length - (intOf i).toNat)
  case atStart => exact ⟨0, Nat.zero_le _, rfl, aside (fun h => absurd h (by omega)), Below.refl _ _⟩
  case round =>
    obtain ⟨j, hj, rfl, HM, kb⟩ := hrel
    by_cases hlt : j < l.length
    · obtain ⟨b, off, rfl, hbw, hr⟩ := RegW.plain S (by omega)
      have hx : l[j]? = some l[j] := List.getElem?_eq_getElem hlt
      have hxm : l[j] ∈ l := List.getElem_mem hlt
      have hk0 := fun W => alone_ret l[j] W (hf _ hxm)
      have HJ := aside (range_below (hr j _ hx) kb)
      have p0 : (j : Int) < l.length := by omega
      have m0 : ((j : Int)).toNat = j := by omega
      have hno := fun q => HR0.out.symm.trans (may_bad hlt q)
      have hfall := fun (m : Nat) (e : m + 1 = j) (q : ltS (l[m]'(by omega)).key (l[m + 1]'(by omega)).key = false) => HR0.out.symm.trans (may_fall (l := l) (k := m) (by omega) q)
      have hnext := fun (m : Nat) (e : m + 1 = j) (q : mayR (l.take (m + 1)) = true) => may_next (l := l) (k := m) (by omega) q
      have hfirst := fun (q : 0 < l.length) => may_first (l := l) q
      obtain ⟨kx, hkx⟩ : ∃ b, oneR l[j] = b := ⟨_, rfl⟩
      rw [hkx] at hk0
      have HNo := aside hno
      have HOk := aside hkx
      have HFa := aside hfall
      have HNx := aside hnext
      have HFi := aside hfirst
      have HCr := aside hr
      clear hno hfall hnext hfirst hkx hr hxm hf hx S
      cases kx with
      | false =>
        have HR : Hid (r = false) := aside (HNo.out HOk.out)
        go_wp2_with (first
          | (refine (hk0 _).mono ?_; rintro e w' ⟨rfl, k1⟩; have k3 := k2.trans (k1.mono k2.size); clear k1)
          | (refine wpList_load_at E rfl _ rfl b _ rfl l[j] HJ.out ?_)
          | (refine wpList_load_box E rfl _ rfl _ rfl l[j] bx ?_)
          | (refine wpList_store_new E rfl _ _ rfl _ _ _ rfl l[j] _ rfl rfl rfl rfl ?_; intro w2 bx kx gx sx; have k2 := kb.trans (kx.mono kb.size); clear kx gx))
        go_ret
        exact ⟨ret_bool HR.out.symm, k3⟩
      | true =>
        by_cases hj0 : j = 0
        · subst hj0
          have HM2 : Hid (0 < 1 → mayR (l.take 1) = true) := aside (fun _ => by rw [HFi.out hlt]; exact HOk.out)
          have HJ0 : Hid (wr.rangeAt b off (E.enc (l[0]'hlt))) := aside (by have := HJ.out; simpa using this)
          clear HJ
          go_wp2_with (first
            | (refine (hk0 _).mono ?_; rintro e w' ⟨rfl, k1⟩; have k3 := k2.trans (k1.mono k2.size); have c0 := (bx.below k1).cell (j := 0) rfl; clear k1)
            | (refine wpList_load_at E rfl _ rfl b _ rfl (l[0]'hlt) HJ0.out ?_)
            | (refine wpList_load_box E rfl _ rfl _ rfl (l[0]'hlt) bx ?_)
            | (refine wpList_store_new E rfl _ _ rfl _ _ _ rfl (l[0]'hlt) _ rfl rfl rfl rfl ?_; intro w2 bx kx gx sx; have k2 := kb.trans (kx.mono kb.size); clear kx gx))
          go_quiet (fail)
          go_wp2
          go_roundw
          case rel => exact ⟨1, by omega, by go_num, HM2, below_drew k3 _⟩
          case measure => simp [intOf]; omega
        · obtain ⟨m, hm⟩ : ∃ m, m + 1 = j := ⟨j - 1, by omega⟩
          have hml : m < l.length := by omega
          have hy : l[m]? = some (l[m]'hml) := List.getElem?_eq_getElem hml
          have HY := aside (HCr.out m _ hy)
          have q0 : decide (0 < (j : Int)) = true := by simp; omega
          have q00 : 0 < j := by omega
          have HMm : Hid (mayR (l.take (m + 1)) = true) := aside (by have := HM.out (by omega); rwa [← hm] at this)
          have q1 : (m : Int) < l.length := by omega
          have q3 : ((m : Int)).toNat = m := by omega
          have hwr : IntKind.i64.wrap ((j : Int) - 1) = (m : Int) := by rw [IntKind.wrap_i64]; omega
          have HMJ := aside hm
          clear HM hj0 hy hm
          cases hlt2 : ltS (l[m]'hml).key l[j].key with
          | true =>
            have h1 : Op.bytesLess (l[m]'hml).key.toList l[j].key.toList = true := hlt2
            have HM2 : Hid (0 < j + 1 → mayR (l.take (j + 1)) = true) := aside (fun _ => by
              have hm := HMJ.out
              subst hm
              rw [HNx.out m rfl HMm.out, HOk.out, hlt2]; rfl)
            clear hlt2
            go_wp2_with (first
              | (refine (hk0 _).mono ?_; rintro e w' ⟨rfl, k1⟩; have k3 := k2.trans (k1.mono k2.size); have c0 := (bx.below k1).cell (j := 0) rfl; have d0 := (cells (range_below HY.out k3)).1; clear k1)
              | (refine wpList_load_at E rfl _ rfl b _ rfl l[j] HJ.out ?_)
              | (refine wpList_load_box E rfl _ rfl _ rfl l[j] bx ?_)
              | (refine wpList_store_new E rfl _ _ rfl _ _ _ rfl l[j] _ rfl rfl rfl rfl ?_; intro w2 bx kx gx sx; have k2 := kb.trans (kx.mono kb.size); clear kx gx))
            go_quiet (fail)
            go_wp2
            go_roundw
            case rel => exact ⟨j + 1, by omega, by go_num, HM2, below_drew k3 _⟩
            case measure => simp [intOf]; omega
          | false =>
            have HR : Hid (r = false) := aside (by have hm := HMJ.out; subst hm; exact HFa.out m rfl hlt2)
            have h1 : Op.bytesLess (l[m]'hml).key.toList l[j].key.toList = false := hlt2
            clear hlt2
            go_wp2_with (first
              | (refine (hk0 _).mono ?_; rintro e w' ⟨rfl, k1⟩; have k3 := k2.trans (k1.mono k2.size); have c0 := (bx.below k1).cell (j := 0) rfl; have d0 := (cells (range_below HY.out k3)).1; clear k1)
              | (refine wpList_load_at E rfl _ rfl b _ rfl l[j] HJ.out ?_)
              | (refine wpList_load_box E rfl _ rfl _ rfl l[j] bx ?_)
              | (refine wpList_store_new E rfl _ _ rfl _ _ _ rfl l[j] _ rfl rfl rfl rfl ?_; intro w2 bx kx gx sx; have k2 := kb.trans (kx.mono kb.size); clear kx gx))
            go_quiet (fail)
            go_wp2
            go_ret
            exact ⟨ret_bool HR.out.symm, below_drew k3 _⟩
    · have e : j = l.length := by omega
      have HR : Hid (r = true) := aside (by
        rw [← HR0.out]
        by_cases h0 : 0 < j
        · have := HM.out h0
          rwa [e, List.take_length] at this
        · have : l = [] := List.eq_nil_of_length_eq_zero (by omega)
          rw [this]; rfl)
      clear S HM
      go_wp2
      go_ret
      exact ⟨ret_bool HR.out.symm, kb⟩
end Go.Proofs.YtnjdkjkihbgkaaaGreat.RegB
