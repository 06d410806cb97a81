/- What the document's Get and May of package reg return: contracts. -/
import Derived.Test.YtffefbhpndjdlaaRegR
namespace Go.Proofs.Ytffefbhpndjdlaa.RegG
open Go Go.RowKit Byt OpsM OpsK Rise RegM RegL RowS RegW RegR

/-- What a key has, as two values. -/
def gv : Option Rg → Value
  | none => .tuple #[.agg (rc noR), .bool false]
  | some x => .tuple #[.agg (rc x), .bool true]
theorem ret_val {a b : Value} (h : a = b) : Ending.returned a = .returned b := by rw [h]
set_option maxHeartbeats 4000000 in
theorem get_ret (A : Option Addr) (cap : Nat) (l : List Rg) (k : ByteArray) (w : World) (S : SlR E w A cap l) :
    Calls Try.prog 17 #[.slice A l.length cap, .string k] w fun e w' => e = .returned (gv (getR l k)) ∧ Below w.heap.size w w' := by
  have hcap := S.1
  have hmax : l.length ≤ 9223372036854775807 := by have := S.2.1; unfold maxLen at this; omega
  have Z : Below w.heap.size w (w.alloc (.cells (rc noR) 26)) := (Below.refl _ _).alloc (Nat.le_refl _) _
  have N : RgAt (w.alloc (.cells (rc noR) 26)) w.heap.size noR := RgAt.new w noR _
  go_enter Try.func17, Try.ntmps17
  go_wp2
  go_loopw [6] (fun i wr => ∃ j : Nat, j ≤ l.length ∧ i = .int .i64 j ∧ Hid (getR l k = getR (l.drop j) k) ∧ Hid (RgAt wr w.heap.size noR) ∧ Below w.heap.size w wr) (fun i _ => l.length - (intOf i).toNat)
  case atStart => exact ⟨0, Nat.zero_le _, rfl, aside rfl, aside N, Z⟩
  case round =>
    obtain ⟨j, hj, rfl, HG, NN, kb⟩ := hrel
    by_cases hlt : j < l.length
    · obtain ⟨b, off, rfl, hbw, hr⟩ := RegW.plain S (by omega)
      obtain ⟨x, hx⟩ : ∃ x, l[j]? = some x := ⟨_, List.getElem?_eq_getElem hlt⟩
      have hrj := range_below (hr j x hx) kb
      obtain ⟨c0, c1, c2, c3, c4⟩ := cells hrj
      have hd := getD_drop hx
      have p0 : (j : Int) < l.length := by omega
      have m0 : ((j : Int)).toNat = j := by omega
      have HG2 := HG.out
      rw [hd, getR_cons] at HG2
      have HJ := aside hrj
      clear hr S hx hd HG hrj
      by_cases hk : x.key = k
      · have t0 := str_yes hk
        rw [if_pos hk] at HG2
        have HR := aside HG2
        clear HG2 hk
        go_wp2_with (first | (refine wpList_load_reg rfl _ rfl _ _ rfl x HJ.out ?_) | (refine wpList_store_reg rfl rfl _ _ rfl _ rfl noR NN.out x rfl ?_; intro w1 R1 b1 g1; have kc := kb.trans (b1 _ (Nat.le_refl _))) | (refine wpList_load_reg rfl _ rfl _ _ rfl x R1.range ?_))
        obtain ⟨r0, r1, r2, r3, r4⟩ := R1.cells
        exact bodyPost_ret (v := .tuple #[.agg (rc x), .bool true]) (by simp [results, Try.results17, go_sem, r0, r1, r2, r3, r4, rc]) rfl ⟨ret_val (by rw [HR.out]; rfl), kc⟩
      · have t0 := str_no hk
        rw [if_neg hk] at HG2
        have HR := aside HG2
        clear HG2 hk
        go_wp2
        go_roundw
        case rel => exact ⟨j + 1, by omega, by go_num, HR, NN, kb⟩
        case measure => simp [intOf]; omega
    · have e : j = l.length := by omega
      have HR : Hid (getR l k = none) := aside (by rw [HG.out, e, List.drop_length]; rfl)
      clear S HG
      go_wp2_with (first | (refine wpList_load_reg rfl _ rfl _ _ rfl noR NN.out.range ?_) | (refine wpList_store_reg rfl rfl _ _ rfl _ rfl noR NN.out noR rfl ?_; intro w1 R1 b1 g1; have kc := kb.trans (b1 _ (Nat.le_refl _))))
      obtain ⟨r0, r1, r2, r3, r4⟩ := R1.cells
      exact bodyPost_ret (v := .tuple #[.agg (rc noR), .bool false]) (by simp [results, Try.results17, go_sem, r0, r1, r2, r3, r4, rc]) rfl ⟨ret_val (by rw [HR.out]; rfl), kc⟩

set_option maxRecDepth 100000 in
set_option maxHeartbeats 8000000 in
theorem may_ret (A : Option Addr) (cap : Nat) (l : List Rg) (w : World) (S : SlR E w A cap l) (hf : Fits l) :
    Calls Try.prog 10 #[.slice A l.length cap] w fun e w' => e = .returned (.bool (mayR l)) ∧ Below w.heap.size w w' := by
  have hcap := S.1
  have hmax : l.length ≤ 9223372036854775807 := by have := S.2.1; unfold maxLen at this; omega
  obtain ⟨r, hr0⟩ : ∃ r, mayR l = r := ⟨_, rfl⟩
  rw [hr0]
  have HR0 := aside hr0
  clear hr0
  go_enter Try.func10, Try.ntmps10
  go_wp2
  go_loopw [3] (fun i wr => ∃ j : Nat, j ≤ l.length ∧ i = .int .i64 j ∧ Hid (0 < j → mayR (l.take j) = true) ∧ Below w.heap.size w wr) (fun i _ => l.length - (intOf i).toNat)
  case atStart => exact ⟨0, Nat.zero_le _, rfl, aside (fun h => absurd h (by omega)), Below.refl _ _⟩
  case round =>
    obtain ⟨j, hj, rfl, HM, kb⟩ := hrel
    by_cases hlt : j < l.length
    · obtain ⟨b, off, rfl, hbw, hr⟩ := RegW.plain S (by omega)
      have hx : l[j]? = some l[j] := List.getElem?_eq_getElem hlt
      have hxm : l[j] ∈ l := List.getElem_mem hlt
      have hk0 := one_ret l[j] wr (hf _ hxm)
      have HJ := aside (range_below (hr j _ hx) kb)
      have p0 : (j : Int) < l.length := by omega
      have m0 : ((j : Int)).toNat = j := by omega
      have hno := fun q => HR0.out.symm.trans (may_bad hlt q)
      have hfall := fun (m : Nat) (e : m + 1 = j) (q : ltS (l[m]'(by omega)).key (l[m + 1]'(by omega)).key = false) => HR0.out.symm.trans (may_fall (l := l) (k := m) (by omega) q)
      have hnext := fun (m : Nat) (e : m + 1 = j) (q : mayR (l.take (m + 1)) = true) => may_next (l := l) (k := m) (by omega) q
      have hfirst := fun (q : 0 < l.length) => may_first (l := l) q
      obtain ⟨kx, hkx⟩ : ∃ b, oneR l[j] = b := ⟨_, rfl⟩
      rw [hkx] at hk0
      have HNo := aside hno
      have HOk := aside hkx
      have HFa := aside hfall
      have HNx := aside hnext
      have HFi := aside hfirst
      have HCr := aside hr
      clear hno hfall hnext hfirst hkx hr hxm hf hx S
      cases kx with
      | false =>
        have HR : Hid (r = false) := aside (HNo.out HOk.out)
        go_wp2_with (first | (refine wpList_load_reg rfl _ rfl _ _ rfl _ HJ.out ?_) | (refine hk0.mono ?_; rintro e w' ⟨rfl, k1⟩; have kc := kb.trans (k1.mono kb.size)))
        go_quiet (fail)
        go_wp2
        go_ret
        exact ⟨ret_bool HR.out.symm, below_drew kc _⟩
      | true =>
        by_cases hj0 : j = 0
        · subst hj0
          have HM2 : Hid (0 < 1 → mayR (l.take 1) = true) := aside (fun _ => by rw [HFi.out hlt]; exact HOk.out)
          go_wp2_with (first | (refine wpList_load_reg rfl _ rfl _ _ rfl _ HJ.out ?_) | (refine hk0.mono ?_; rintro e w' ⟨rfl, k1⟩; have kc := kb.trans (k1.mono kb.size)))
          go_quiet (fail)
          go_wp2
          go_roundw
          case rel => exact ⟨1, by omega, by go_num, HM2, below_drew kc _⟩
          case measure => simp [intOf]; omega
        · obtain ⟨m, hm⟩ : ∃ m, m + 1 = j := ⟨j - 1, by omega⟩
          have hml : m < l.length := by omega
          have hy : l[m]? = some (l[m]'hml) := List.getElem?_eq_getElem hml
          have HY := aside (range_below (HCr.out m _ hy) kb)
          have q0 : decide (0 < (j : Int)) = true := by simp; omega
          have q00 : 0 < j := by omega
          have HMm : Hid (mayR (l.take (m + 1)) = true) := aside (by have := HM.out (by omega); rwa [← hm] at this)
          have q1 : (m : Int) < l.length := by omega
          have q3 : ((m : Int)).toNat = m := by omega
          have hwr : IntKind.i64.wrap ((j : Int) - 1) = (m : Int) := by rw [IntKind.wrap_i64]; omega
          have HMJ := aside hm
          clear HM hj0 hy hm
          cases hlt2 : ltS (l[m]'hml).key l[j].key with
          | true =>
            have h1 : Op.bytesLess l[j].key.toList (l[m]'hml).key.toList = false := strictS.asymm hlt2
            have h2 := str_no (a := l[j].key) (b := (l[m]'hml).key) (fun e => strictS.ne hlt2 e.symm)
            have HM2 : Hid (0 < j + 1 → mayR (l.take (j + 1)) = true) := aside (fun _ => by
              have hm := HMJ.out
              subst hm
              rw [HNx.out m rfl HMm.out, HOk.out, hlt2]; rfl)
            clear hlt2
            go_wp2_with (first | (refine wpList_load_reg rfl _ rfl _ _ rfl _ HJ.out ?_) | (refine hk0.mono ?_; rintro e w' ⟨rfl, k1⟩; have kc := kb.trans (k1.mono kb.size); obtain ⟨c0, _⟩ := cells (range_below HJ.out k1); obtain ⟨d0, _⟩ := cells (range_below HY.out k1)))
            go_quiet (fail)
            go_wp2
            go_roundw
            case rel => exact ⟨j + 1, by omega, by go_num, HM2, below_drew kc _⟩
            case measure => simp [intOf]; omega
          | false =>
            have HR : Hid (r = false) := aside (by have hm := HMJ.out; subst hm; exact HFa.out m rfl hlt2)
            have h12 : (Op.bytesLess l[j].key.toList (l[m]'hml).key.toList = true) ∨ (Op.bytesLess l[j].key.toList (l[m]'hml).key.toList = false ∧ (l[j].key.toList == (l[m]'hml).key.toList) = true) := by
              cases hl : Op.bytesLess l[j].key.toList (l[m]'hml).key.toList with
              | true => exact .inl rfl
              | false => exact .inr ⟨rfl, str_yes (strictS.tri _ _ hl hlt2)⟩
            clear hlt2
            rcases h12 with h1 | ⟨h1, h2⟩
            all_goals
              go_wp2_with (first | (refine wpList_load_reg rfl _ rfl _ _ rfl _ HJ.out ?_) | (refine hk0.mono ?_; rintro e w' ⟨rfl, k1⟩; have kc := kb.trans (k1.mono kb.size); obtain ⟨c0, _⟩ := cells (range_below HJ.out k1); obtain ⟨d0, _⟩ := cells (range_below HY.out k1)))
              go_quiet (fail)
              go_wp2
              go_ret
              exact ⟨ret_bool HR.out.symm, below_drew kc _⟩
    · have e : j = l.length := by omega
      have HR : Hid (r = true) := aside (by
        rw [← HR0.out]
        by_cases h0 : 0 < j
        · have := HM.out h0
          rwa [e, List.take_length] at this
        · have : l = [] := List.eq_nil_of_length_eq_zero (by omega)
          rw [this]; rfl)
      clear S HM
      go_wp2
      go_ret
      exact ⟨ret_bool HR.out.symm, kb⟩
end Go.Proofs.Ytffefbhpndjdlaa.RegG
