/- What the document's Newer, one, May, Get of package reg return: contracts. | What the document's Get and May of package reg return: contracts. -/
import Derived.Test.YtnjdkjkihbgkaaaGreatEvWJ3
import Derived.Test.YtnjdkjkihbgkaaaGreatRowGJ6
namespace Go.Proofs.YtnjdkjkihbgkaaaGreat.RegR
set_option maxRecDepth 100000
open Go Go.RowKit Byt OpsM OpsK Rise RegM RegL RowS RegW

set_option maxHeartbeats 4000000 in
theorem newer_ret (a b : Rg) (w : World) :
    Calls Tryz.prog 77 #[.agg (rc a), .agg (rc b)] w fun e w' => e = .returned (.bool (newerB a b)) ∧ Below w.heap.size w w' := by
  have R1 : RgAt ((w.alloc (.cells (rc a) 43)).alloc (.cells (rc b) 43)) w.heap.size a := (RgAt.new w a _).alloc _
  have R2 : RgAt ((w.alloc (.cells (rc a) 43)).alloc (.cells (rc b) 43)) (w.heap.size + 1) b := by
    have := RgAt.new (w.alloc (.cells (rc a) 43)) b 43
    simpa using this
  have kb : Below w.heap.size w ((w.alloc (.cells (rc a) 43)).alloc (.cells (rc b) 43)) := ((Below.refl _ _).alloc (Nat.le_refl _) _).alloc (by simp) _
  obtain ⟨_, c1, c2, c3, c4⟩ := R1.cells
  obtain ⟨_, d1, d2, d3, d4⟩ := R2.cells
  clear R1 R2
  obtain ⟨r, hr⟩ : ∃ r, newerB a b = r := ⟨_, rfl⟩
  have hn : r = newerB a b := hr.symm
  rw [hr]
  unfold newerB at hn
  clear hr
  by_cases h1 : a.gen = b.gen
  · have t1 : (a.gen != b.gen) = false := by simpa using h1
    rw [if_neg (by simpa using h1)] at hn
    by_cases h2 : a.node = b.node
    · have t2 : (a.node != b.node) = false := by simpa using h2
      rw [if_neg (by simpa using h2)] at hn
      by_cases h3 : a.seq = b.seq
      · have t3 : (a.seq != b.seq) = false := by simpa using h3
        rw [if_neg (by simpa using h3)] at hn
        have HR := aside hn
        clear hn h1 h2 h3
        go_enter Tryz.func77, Tryz.ntmps77
        go_wp2
        go_ret
        exact ⟨ret_bool ((above _ _).trans HR.out.symm), kb⟩
      · have t3 : (a.seq != b.seq) = true := by simpa using h3
        rw [if_pos h3] at hn
        have HR := aside hn
        clear hn h1 h2 h3
        go_enter Tryz.func77, Tryz.ntmps77
        go_wp2
        go_ret
        exact ⟨ret_bool HR.out.symm, kb⟩
    · have t2 : (a.node != b.node) = true := by simpa using h2
      rw [if_pos h2] at hn
      have HR := aside hn
      clear hn h1 h2
      go_enter Tryz.func77, Tryz.ntmps77
      go_wp2
      go_ret
      exact ⟨ret_bool HR.out.symm, kb⟩
  · have t1 : (a.gen != b.gen) = true := by simpa using h1
    rw [if_pos h1] at hn
    have HR := aside hn
    clear hn h1
    go_enter Tryz.func77, Tryz.ntmps77
    go_wp2
    go_ret
    exact ⟨ret_bool HR.out.symm, kb⟩

set_option maxRecDepth 100000 in
set_option maxHeartbeats 8000000 in
theorem one_ret (c : Rg) (w : World) (hf : Fit c) :
    Calls Tryz.prog 76 #[.agg (rc c)] w fun e w' => e = .returned (.bool (oneR c)) ∧ Below w.heap.size w w' := by
  have R1 : RgAt (w.alloc (.cells (rc c) 43)) w.heap.size c := RgAt.new w c _
  have kb : Below w.heap.size w (w.alloc (.cells (rc c) 43)) := (Below.refl _ _).alloc (Nat.le_refl _) _
  obtain ⟨c0, c1, c2, c3, c4⟩ := R1.cells
  have ck := OpsR.key c.key hf.key
  have ce := OpsR.key c.elem hf.elem
  clear R1 hf
  obtain ⟨r, hr⟩ : ∃ r, oneR c = r := ⟨_, rfl⟩
  have hn : r = oneR c := hr.symm
  rw [hr]
  unfold oneR at hn
  clear hr
  obtain ⟨bk, hbk⟩ : ∃ b, keyL (bytesL c.key) = b := ⟨_, rfl⟩
  obtain ⟨be, hbe⟩ : ∃ b, keyL (bytesL c.elem) = b := ⟨_, rfl⟩
  rw [hbk] at ck hn
  rw [hbe] at ce hn
  clear hbk hbe
  cases bk with
  | false =>
    have HR : Hid (r = false) := aside hn
    clear hn
    go_enter Tryz.func76, Tryz.ntmps76
    go_wp2_with (first | (refine (ck _).mono ?_; rintro e w' ⟨rfl, rfl⟩; clear ck) | (refine (ce _).mono ?_; rintro e w' ⟨rfl, rfl⟩; clear ce))
    go_ret
    exact ⟨ret_bool HR.out.symm, kb⟩
  | true =>
    cases be with
    | false =>
      have HR : Hid (r = false) := aside hn
      clear hn
      go_enter Tryz.func76, Tryz.ntmps76
      go_wp2_with (first | (refine (ck _).mono ?_; rintro e w' ⟨rfl, rfl⟩; clear ck) | (refine (ce _).mono ?_; rintro e w' ⟨rfl, rfl⟩; clear ce))
      go_ret
      exact ⟨ret_bool HR.out.symm, kb⟩
    | true =>
      rw [Bool.true_and, Bool.true_and] at hn
      obtain ⟨g, hg⟩ : ∃ g, c.gen = g := ⟨_, rfl⟩
      obtain ⟨n, hnn⟩ : ∃ n, c.node = n := ⟨_, rfl⟩
      obtain ⟨s, hs⟩ : ∃ s, c.seq = s := ⟨_, rfl⟩
      rw [hg] at c2 hn
      rw [hnn] at c3 hn
      rw [hs] at c4 hn
      clear hg hnn hs
      by_cases p1 : 0 < g
      · by_cases p2 : 0 ≤ n
        · by_cases p3 : n < 8
          · have HR : Hid (r = decide (0 < s)) := aside (by rw [hn]; simp [p1, p2, p3])
            clear hn
            go_enter Tryz.func76, Tryz.ntmps76
            go_wp2_with (first | (refine (ck _).mono ?_; rintro e w' ⟨rfl, rfl⟩; clear ck) | (refine (ce _).mono ?_; rintro e w' ⟨rfl, rfl⟩; clear ce))
            go_ret
            exact ⟨ret_bool HR.out.symm, kb⟩
          · have HR : Hid (r = false) := aside (by rw [hn]; simp; omega)
            clear hn
            go_enter Tryz.func76, Tryz.ntmps76
            go_wp2_with (first | (refine (ck _).mono ?_; rintro e w' ⟨rfl, rfl⟩; clear ck) | (refine (ce _).mono ?_; rintro e w' ⟨rfl, rfl⟩; clear ce))
            go_ret
            exact ⟨ret_bool HR.out.symm, kb⟩
        · have HR : Hid (r = false) := aside (by rw [hn]; simp; omega)
          clear hn
          go_enter Tryz.func76, Tryz.ntmps76
          go_wp2_with (first | (refine (ck _).mono ?_; rintro e w' ⟨rfl, rfl⟩; clear ck) | (refine (ce _).mono ?_; rintro e w' ⟨rfl, rfl⟩; clear ce))
          go_ret
          exact ⟨ret_bool HR.out.symm, kb⟩
      · have HR : Hid (r = false) := aside (by rw [hn]; simp; omega)
        clear hn
        go_enter Tryz.func76, Tryz.ntmps76
        go_wp2_with (first | (refine (ck _).mono ?_; rintro e w' ⟨rfl, rfl⟩; clear ck) | (refine (ce _).mono ?_; rintro e w' ⟨rfl, rfl⟩; clear ce))
        go_ret
        exact ⟨ret_bool HR.out.symm, kb⟩
end Go.Proofs.YtnjdkjkihbgkaaaGreat.RegR
namespace Go.Proofs.YtnjdkjkihbgkaaaGreat.RegG
set_option maxRecDepth 100000
open Go Go.RowKit Byt OpsM OpsK Rise RegM RegL RowS RegW RegR

/-- What a key has, as two values. -/
def gv : Option Rg → Value
  | none => .tuple #[.agg (rc noR), .bool false]
  | some x => .tuple #[.agg (rc x), .bool true]
theorem ret_val {a b : Value} (h : a = b) : Ending.returned a = .returned b := by rw [h]

set_option maxRecDepth 100000 in
set_option maxHeartbeats 8000000 in
theorem may_ret (A : Option Addr) (cap : Nat) (l : List Rg) (w : World) (S : SlR E w A cap l) (hf : Fits l) :
    Calls Tryz.prog 38 #[.slice A l.length cap] w fun e w' => e = .returned (.bool (mayR l)) ∧ Below w.heap.size w w' := by
  have hcap := S.1
  have hmax : l.length ≤ 9223372036854775807 := by have := S.2.1; unfold maxLen at this; omega
  obtain ⟨r, hr0⟩ : ∃ r, mayR l = r := ⟨_, rfl⟩
  rw [hr0]
  have HR0 := aside hr0
  clear hr0
  go_enter Tryz.func38, Tryz.ntmps38
  go_wp2
  go_loopw [3] (fun i wr => ∃ j : Nat, j ≤ l.length ∧ i = .int .i64 j ∧ Hid (0 < j → mayR (l.take j) = true) ∧ Below w.heap.size w wr) (fun i _ => l.length - (intOf i).toNat)
  case atStart => exact ⟨0, Nat.zero_le _, rfl, aside (fun h => absurd h (by omega)), Below.refl _ _⟩
  case round =>
    obtain ⟨j, hj, rfl, HM, kb⟩ := hrel
    by_cases hlt : j < l.length
    · obtain ⟨b, off, rfl, hbw, hr⟩ := RegW.plain S (by omega)
      have hx : l[j]? = some l[j] := List.getElem?_eq_getElem hlt
      have hxm : l[j] ∈ l := List.getElem_mem hlt
      have hk0 := one_ret l[j] wr (hf _ hxm)
      have HJ := aside (range_below (hr j _ hx) kb)
      have p0 : (j : Int) < l.length := by omega
      have m0 : ((j : Int)).toNat = j := by omega
      have hno := fun q => HR0.out.symm.trans (may_bad hlt q)
      have hfall := fun (m : Nat) (e : m + 1 = j) (q : ltS (l[m]'(by omega)).key (l[m + 1]'(by omega)).key = false) => HR0.out.symm.trans (may_fall (l := l) (k := m) (by omega) q)
      have hnext := fun (m : Nat) (e : m + 1 = j) (q : mayR (l.take (m + 1)) = true) => may_next (l := l) (k := m) (by omega) q
      have hfirst := fun (q : 0 < l.length) => may_first (l := l) q
      obtain ⟨kx, hkx⟩ : ∃ b, oneR l[j] = b := ⟨_, rfl⟩
      rw [hkx] at hk0
      have HNo := aside hno
      have HOk := aside hkx
      have HFa := aside hfall
      have HNx := aside hnext
      have HFi := aside hfirst
      have HCr := aside hr
      clear hno hfall hnext hfirst hkx hr hxm hf hx S
      cases kx with
      | false =>
        have HR : Hid (r = false) := aside (HNo.out HOk.out)
        go_wp2_with (first | (refine wpList_load_reg rfl _ rfl _ _ rfl _ HJ.out ?_) | (refine hk0.mono ?_; rintro e w' ⟨rfl, k1⟩; have kc := kb.trans (k1.mono kb.size)))
        go_quiet (fail)
        go_wp2
        go_ret
        exact ⟨ret_bool HR.out.symm, below_drew kc _⟩
      | true =>
        by_cases hj0 : j = 0
        · subst hj0
          have HM2 : Hid (0 < 1 → mayR (l.take 1) = true) := aside (fun _ => by rw [HFi.out hlt]; exact HOk.out)
          go_wp2_with (first | (refine wpList_load_reg rfl _ rfl _ _ rfl _ HJ.out ?_) | (refine hk0.mono ?_; rintro e w' ⟨rfl, k1⟩; have kc := kb.trans (k1.mono kb.size)))
          go_quiet (fail)
          go_wp2
          go_roundw
          case rel => exact ⟨1, by omega, by go_num, HM2, below_drew kc _⟩
          case measure => simp [intOf]; omega
        · obtain ⟨m, hm⟩ : ∃ m, m + 1 = j := ⟨j - 1, by omega⟩
          have hml : m < l.length := by omega
          have hy : l[m]? = some (l[m]'hml) := List.getElem?_eq_getElem hml
          have HY := aside (range_below (HCr.out m _ hy) kb)
          have q0 : decide (0 < (j : Int)) = true := by simp; omega
          have q00 : 0 < j := by omega
          have HMm : Hid (mayR (l.take (m + 1)) = true) := aside (by have := HM.out (by omega); rwa [← hm] at this)
          have q1 : (m : Int) < l.length := by omega
          have q3 : ((m : Int)).toNat = m := by omega
          have hwr : IntKind.i64.wrap ((j : Int) - 1) = (m : Int) := by rw [IntKind.wrap_i64]; omega
          have HMJ := aside hm
          clear HM hj0 hy hm
          cases hlt2 : ltS (l[m]'hml).key l[j].key with
          | true =>
            have h1 : Op.bytesLess l[j].key.toList (l[m]'hml).key.toList = false := strictS.asymm hlt2
            have h2 := str_no (a := l[j].key) (b := (l[m]'hml).key) (fun e => strictS.ne hlt2 e.symm)
            have HM2 : Hid (0 < j + 1 → mayR (l.take (j + 1)) = true) := aside (fun _ => by
              have hm := HMJ.out
              subst hm
              rw [HNx.out m rfl HMm.out, HOk.out, hlt2]; rfl)
            clear hlt2
            go_wp2_with (first | (refine wpList_load_reg rfl _ rfl _ _ rfl _ HJ.out ?_) | (refine hk0.mono ?_; rintro e w' ⟨rfl, k1⟩; have kc := kb.trans (k1.mono kb.size); obtain ⟨c0, _⟩ := cells (range_below HJ.out k1); obtain ⟨d0, _⟩ := cells (range_below HY.out k1)))
            go_quiet (fail)
            go_wp2
            go_roundw
            case rel => exact ⟨j + 1, by omega, by go_num, HM2, below_drew kc _⟩
            case measure => simp [intOf]; omega
          | false =>
            have HR : Hid (r = false) := aside (by have hm := HMJ.out; subst hm; exact HFa.out m rfl hlt2)
            have h12 : (Op.bytesLess l[j].key.toList (l[m]'hml).key.toList = true) ∨ (Op.bytesLess l[j].key.toList (l[m]'hml).key.toList = false ∧ (l[j].key.toList == (l[m]'hml).key.toList) = true) := by
              cases hl : Op.bytesLess l[j].key.toList (l[m]'hml).key.toList with
              | true => exact .inl rfl
              | false => exact .inr ⟨rfl, str_yes (strictS.tri _ _ hl hlt2)⟩
            clear hlt2
            rcases h12 with h1 | ⟨h1, h2⟩
            all_goals
              go_wp2_with (first | (refine wpList_load_reg rfl _ rfl _ _ rfl _ HJ.out ?_) | (refine hk0.mono ?_; rintro e w' ⟨rfl, k1⟩; have kc := kb.trans (k1.mono kb.size); obtain ⟨c0, _⟩ := cells (range_below HJ.out k1); obtain ⟨d0, _⟩ := cells (range_below HY.out k1)))
              go_quiet (fail)
              go_wp2
              go_ret
              exact ⟨ret_bool HR.out.symm, below_drew kc _⟩
    · have e : j = l.length := by omega
      have HR : Hid (r = true) := aside (by
        rw [← HR0.out]
        by_cases h0 : 0 < j
        · have := HM.out h0
          rwa [e, List.take_length] at this
        · have : l = [] := List.eq_nil_of_length_eq_zero (by omega)
          rw [this]; rfl)
      clear S HM
      go_wp2
      go_ret
      exact ⟨ret_bool HR.out.symm, kb⟩
end Go.Proofs.YtnjdkjkihbgkaaaGreat.RegG
