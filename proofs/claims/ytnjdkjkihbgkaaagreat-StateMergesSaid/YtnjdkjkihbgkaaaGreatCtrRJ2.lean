/- What the document's Get, May, put and Same of package ctr return: contracts. | What the document's Same of package ctr, and the law's Few, return: contracts. -/
import Derived.Test.YtnjdkjkihbgkaaaGreatEvWJ3
import Derived.Test.YtnjdkjkihbgkaaaGreatRowGJ6
namespace Go.Proofs.YtnjdkjkihbgkaaaGreat.CtrR
set_option maxRecDepth 100000
open Go Go.RowKit Byt OpsM OpsK Rise CtrM RowS CtrW

theorem ret_int {k : IntKind} {a b : Int} (h : a = b) : Ending.returned (.int k a) = .returned (.int k b) := by rw [h]
set_option maxHeartbeats 2000000 in
theorem get_ret (A : Option Addr) (cap : Nat) (l : List Cn) (k : ByteArray) (w : World) (S : SlR E w A cap l) :
    Calls Tryz.prog 75 #[.slice A l.length cap, .string k] w fun e w' => e = .returned (.int .i64 (getC l k)) ∧ w = w' := by
  have hcap := S.1
  have hmax : l.length ≤ 9223372036854775807 := by have := S.2.1; unfold maxLen at this; omega
  go_enter Tryz.func75, Tryz.ntmps75
  go_wp2
  go_loop [5] (fun i => ∃ j : Nat, j ≤ l.length ∧ i = .int .i64 j ∧ Hid (getC l k = getC (l.drop j) k)) (fun i => l.length - (intOf i).toNat)
  case atStart => exact ⟨0, Nat.zero_le _, rfl, aside rfl⟩
  case round =>
    obtain ⟨j, hj, rfl, HG⟩ := hrel
    by_cases hlt : j < l.length
    · obtain ⟨b, off, rfl, hbw, hr⟩ := CtrW.plain S (by omega)
      obtain ⟨x, hx⟩ : ∃ x, l[j]? = some x := ⟨_, List.getElem?_eq_getElem hlt⟩
      obtain ⟨c0, c1⟩ := cells (hr j x hx)
      have hd := getD_drop hx
      have p0 : (j : Int) < l.length := by omega
      have m0 : ((j : Int)).toNat = j := by omega
      have HG2 := HG.out
      rw [hd, getC_cons] at HG2
      clear hr S hx hd HG
      by_cases hk : x.key = k
      · have t0 := str_yes hk
        rw [if_pos hk] at HG2
        have HR := aside HG2
        clear HG2 hk
        go_wp2
        go_ret
        exact ⟨ret_int HR.out.symm, rfl⟩
      · have t0 := str_no hk
        rw [if_neg hk] at HG2
        have HR := aside HG2
        clear HG2 hk
        go_wp2
        go_round
        case rel => exact ⟨j + 1, by omega, by go_num, HR⟩
        case measure => simp [intOf]; omega
    · have e : j = l.length := by omega
      have HR : Hid (getC l k = 0) := aside (by rw [HG.out, e, List.drop_length]; rfl)
      clear S HG
      go_wp2
      go_ret
      exact ⟨ret_int HR.out.symm, rfl⟩

set_option maxRecDepth 100000 in
set_option maxHeartbeats 8000000 in
theorem may_ret (A : Option Addr) (cap : Nat) (l : List Cn) (w : World) (S : SlR E w A cap l) (hf : Fits l) :
    Calls Tryz.prog 37 #[.slice A l.length cap] w fun e w' => e = .returned (.bool (mayC l)) ∧ Below w.heap.size w w' := by
  have hcap := S.1
  have hmax : l.length ≤ 9223372036854775807 := by have := S.2.1; unfold maxLen at this; omega
  obtain ⟨r, hr0⟩ : ∃ r, mayC l = r := ⟨_, rfl⟩
  rw [hr0]
  have HR0 := aside hr0
  clear hr0
  go_enter Tryz.func37, Tryz.ntmps37
  go_wp2
  go_loopw [3] (fun i wr => ∃ j : Nat, j ≤ l.length ∧ i = .int .i64 j ∧ Hid (0 < j → mayC (l.take j) = true) ∧ Below w.heap.size w wr) (fun i _ => l.length - (intOf i).toNat)
  case atStart => exact ⟨0, Nat.zero_le _, rfl, aside (fun h => absurd h (by omega)), Below.refl _ _⟩
  case round =>
    obtain ⟨j, hj, rfl, HM, kb⟩ := hrel
    by_cases hlt : j < l.length
    · obtain ⟨b, off, rfl, hbw, hr⟩ := CtrW.plain S (by omega)
      have hx : l[j]? = some l[j] := List.getElem?_eq_getElem hlt
      have hxm : l[j] ∈ l := List.getElem_mem hlt
      have hk0 := OpsR.key l[j].key (hf _ hxm).1
      obtain ⟨c0, c1⟩ := cells (range_below (hr j _ hx) kb)
      have p0 : (j : Int) < l.length := by omega
      have m0 : ((j : Int)).toNat = j := by omega
      have hno := fun q => HR0.out.symm.trans (mayC_no hlt q)
      have hok : okC l[j] = (keyL (bytesL l[j].key) && decide (l[j].n ≠ 0)) := rfl
      have hfall := fun (m : Nat) (e : m + 1 = j) (q : ltS (l[m]'(by omega)).key (l[m + 1]'(by omega)).key = false) => HR0.out.symm.trans (mayC_fall (l := l) (k := m) (by omega) q)
      have hnext := fun (m : Nat) (e : m + 1 = j) (q : mayC (l.take (m + 1)) = true) => mayC_next (l := l) (k := m) (by omega) q
      have hfirst := fun (q : 0 < l.length) => mayC_first (l := l) q
      obtain ⟨kx, hkx⟩ : ∃ b, keyL (bytesL l[j].key) = b := ⟨_, rfl⟩
      rw [hkx] at hk0 hok
      have HNo := aside hno
      have HOk := aside hok
      have HFa := aside hfall
      have HNx := aside hnext
      have HFi := aside hfirst
      have HCr := aside hr
      have HX := aside hx
      clear hno hok hfall hnext hfirst hkx hr hxm hf hx S
      cases kx with
      | false =>
        have HR : Hid (r = false) := aside (HNo.out (by rw [HOk.out]; rfl))
        go_wp2_with (first | (refine (hk0 _).mono ?_; rintro e w' ⟨rfl, rfl⟩))
        go_quiet (fail)
        go_wp2
        go_ret
        exact ⟨ret_bool HR.out.symm, below_drew kb _⟩
      | true =>
        by_cases hn : l[j].n = 0
        · have t0 : (l[j].n == 0) = true := by simpa using hn
          have HR : Hid (r = false) := aside (HNo.out (by rw [HOk.out, hn]; rfl))
          clear hn
          go_wp2_with (first | (refine (hk0 _).mono ?_; rintro e w' ⟨rfl, rfl⟩))
          go_quiet (fail)
          go_wp2
          go_ret
          exact ⟨ret_bool HR.out.symm, below_drew kb _⟩
        · have t0 : (l[j].n == 0) = false := by simpa using hn
          have HOk2 : Hid (okC l[j] = true) := aside (by rw [HOk.out]; simpa using hn)
          clear hn
          by_cases hj0 : j = 0
          · subst hj0
            simp only [Nat.zero_mul, Nat.add_zero] at c0 c1
            have HM2 : Hid (0 < 1 → mayC (l.take 1) = true) := aside (fun _ => by rw [HFi.out hlt]; exact HOk2.out)
            go_wp2_with (first | (refine (hk0 _).mono ?_; rintro e w' ⟨rfl, rfl⟩))
            go_quiet (fail)
            go_wp2
            go_roundw
            case rel => exact ⟨1, by omega, by go_num, HM2, below_drew kb _⟩
            case measure => simp [intOf]; omega
          · obtain ⟨m, hm⟩ : ∃ m, m + 1 = j := ⟨j - 1, by omega⟩
            have hml : m < l.length := by omega
            have hy : l[m]? = some (l[m]'hml) := List.getElem?_eq_getElem hml
            obtain ⟨d0, _⟩ := cells (range_below (HCr.out m _ hy) kb)
            have q0 : decide (0 < (j : Int)) = true := by simp; omega
            have q00 : 0 < j := by omega
            have HMm : Hid (mayC (l.take (m + 1)) = true) := aside (by have := HM.out (by omega); rwa [← hm] at this)
            have q1 : (m : Int) < l.length := by omega
            have q3 : ((m : Int)).toNat = m := by omega
            have hwr : IntKind.i64.wrap ((j : Int) - 1) = (m : Int) := by rw [IntKind.wrap_i64]; omega
            have HMJ := aside hm
            clear HM hj0 hy hm
            cases hlt2 : ltS (l[m]'hml).key l[j].key with
            | true =>
              have h1 : Op.bytesLess l[j].key.toList (l[m]'hml).key.toList = false := strictS.asymm hlt2
              have h2 := str_no (a := l[j].key) (b := (l[m]'hml).key) (fun e => strictS.ne hlt2 e.symm)
              have HM2 : Hid (0 < j + 1 → mayC (l.take (j + 1)) = true) := aside (fun _ => by
                have hm := HMJ.out
                subst hm
                rw [HNx.out m rfl HMm.out, HOk2.out, hlt2]; rfl)
              clear hlt2
              go_wp2_with (first | (refine (hk0 _).mono ?_; rintro e w' ⟨rfl, rfl⟩))
              go_quiet (fail)
              go_wp2
              go_roundw
              case rel => exact ⟨j + 1, by omega, by go_num, HM2, below_drew kb _⟩
              case measure => simp [intOf]; omega
            | false =>
              have HR : Hid (r = false) := aside (by have hm := HMJ.out; subst hm; exact HFa.out m rfl hlt2)
              have h12 : (Op.bytesLess l[j].key.toList (l[m]'hml).key.toList = true) ∨ (Op.bytesLess l[j].key.toList (l[m]'hml).key.toList = false ∧ (l[j].key.toList == (l[m]'hml).key.toList) = true) := by
                cases hl : Op.bytesLess l[j].key.toList (l[m]'hml).key.toList with
                | true => exact .inl rfl
                | false => exact .inr ⟨rfl, str_yes (strictS.tri _ _ hl hlt2)⟩
              clear hlt2
              rcases h12 with h1 | ⟨h1, h2⟩
              all_goals
                go_wp2_with (first | (refine (hk0 _).mono ?_; rintro e w' ⟨rfl, rfl⟩))
                go_quiet (fail)
                go_wp2
                go_ret
                exact ⟨ret_bool HR.out.symm, below_drew kb _⟩
    · have e : j = l.length := by omega
      have HR : Hid (r = true) := aside (by
        rw [← HR0.out]
        by_cases h0 : 0 < j
        · have := HM.out h0
          rwa [e, List.take_length] at this
        · have : l = [] := List.eq_nil_of_length_eq_zero (by omega)
          rw [this]; rfl)
      clear S HM
      go_wp2
      go_ret
      exact ⟨ret_bool HR.out.symm, kb⟩
end Go.Proofs.YtnjdkjkihbgkaaaGreat.CtrR
namespace Go.Proofs.YtnjdkjkihbgkaaaGreat.CtrS
set_option maxRecDepth 100000
open Go Go.RowKit Byt OpsM OpsK Rise CtrM RowS CtrW CtrR

/-- Are two counts, or two lists of counts, the same? -/
def sameN (x y : Cn) : Bool := decide (x.key.toList = y.key.toList) && decide (x.n = y.n)
theorem sameN_iff {x y : Cn} : sameN x y = true ↔ x = y := by
  unfold sameN
  simp only [Bool.and_eq_true, decide_eq_true_eq]
  constructor
  · rintro ⟨h1, h2⟩
    cases x; cases y
    simp only at h1 h2
    rw [Rise.toList_inj h1, h2]
  · rintro rfl; exact ⟨rfl, rfl⟩
def sameB : List Cn → List Cn → Bool
  | [], [] => true
  | x :: a, y :: b => sameN x y && sameB a b
  | [], _ :: _ => false
  | _ :: _, [] => false
theorem sameB_iff : ∀ {a b : List Cn}, sameB a b = true ↔ a = b
  | [], [] => by simp [sameB]
  | x :: a, y :: b => by simp [sameB, sameN_iff, sameB_iff (a := a) (b := b)]
  | [], _ :: _ => by simp [sameB]
  | _ :: _, [] => by simp [sameB]
theorem sameB_self (a : List Cn) : sameB a a = true := sameB_iff.2 rfl
theorem sameB_len {a b : List Cn} (h : a.length ≠ b.length) : sameB a b = false := by
  cases hs : sameB a b with
  | false => rfl
  | true => exact absurd (congrArg List.length (sameB_iff.1 hs)) h
theorem equal (w : World) (x y : Cn) : (Op.equalIn 10000 75 (.agg #[.string x.key, .int .i64 x.n]) (.agg #[.string y.key, .int .i64 y.n])).run Tryz.prog w = .ok (sameN x y) w := by
  have hS : Tryz.prog.underlying 75 = some (.struct (Tryz.prog.fieldsOf 75)) := by kernel_rfl
  rw [show (10000 : Nat) = 9999 + 1 from rfl, run_equalIn_agg w 9999 75 _ _ hS (by kernel_rfl)]
  simp only [Program.fieldsOf, Tryz.underlying75]
  go_simp
  unfold sameN
  split
  · split <;> simp_all
  · simp_all

set_option maxRecDepth 100000 in
set_option maxHeartbeats 4000000 in
theorem same_ret (A : Option Addr) (cap : Nat) (a : List Cn) (A' : Option Addr) (cap' : Nat) (b : List Cn) (w : World) (S : SlR E w A cap a) (S' : SlR E w A' cap' b) :
    Calls Tryz.prog 34 #[.slice A a.length cap, .slice A' b.length cap'] w fun e w' => e = .returned (.bool (sameB a b)) ∧ Below w.heap.size w w' := by
  have hmax : a.length ≤ 9223372036854775807 := by have := S.1; have := S.2.1; unfold maxLen at this; omega
  have hmax' : b.length ≤ 9223372036854775807 := by have := S'.1; have := S'.2.1; unfold maxLen at this; omega
  have hcap := S.1
  have hcap' := S'.1
  obtain ⟨r, hr0⟩ : ∃ r, sameB a b = r := ⟨_, rfl⟩
  rw [hr0]
  have HR0 := aside hr0
  clear hr0
  by_cases hl : a.length = b.length
  · have t0 : ((a.length : Int) != (b.length : Int)) = false := by simp; omega
    have HL := aside hl
    clear hl
    go_enter Tryz.func34, Tryz.ntmps34
    go_wp2
    clear t0
    go_loopw [5] (fun i wr => ∃ j : Nat, j ≤ a.length ∧ i = .int .i64 j ∧ Hid (r = sameB (a.drop j) (b.drop j)) ∧ Below w.heap.size w wr) (fun i _ => a.length - (intOf i).toNat)
    case atStart => exact ⟨0, Nat.zero_le _, rfl, aside HR0.out.symm, Below.refl _ _⟩
    case round =>
      obtain ⟨j, hj, rfl, HG, kb⟩ := hrel
      by_cases hlt : j < a.length
      · have hlt' : j < b.length := by have := HL.out; omega
        obtain ⟨p, off, rfl, hbw, hr⟩ := CtrW.plain S (by omega)
        obtain ⟨p', off', rfl, hbw', hr'⟩ := CtrW.plain S' (by omega)
        obtain ⟨x, hx⟩ : ∃ x, a[j]? = some x := ⟨_, List.getElem?_eq_getElem hlt⟩
        obtain ⟨y, hy⟩ : ∃ y, b[j]? = some y := ⟨_, List.getElem?_eq_getElem hlt'⟩
        obtain ⟨c0, c1⟩ := cells (range_below (hr j x hx) kb)
        obtain ⟨d0, d1⟩ := cells (range_below (hr' j y hy) kb)
        have p0 : (j : Int) < a.length := by omega
        have p1 : (j : Int) < b.length := by omega
        have m0 : ((j : Int)).toNat = j := by omega
        have HG2 := HG.out
        rw [getD_drop hx, getD_drop hy] at HG2
        have heq := fun W => equal W x y
        clear hr hr' S S' hx hy HG
        cases hs : sameN x y with
        | true =>
          have HR : Hid (r = sameB (a.drop (j + 1)) (b.drop (j + 1))) := aside (by rw [HG2, sameB, hs]; rfl)
          rw [hs] at heq
          clear HG2 hs
          go_wp2
          go_quiet (fail)
          go_wp2
          go_roundw
          case rel => exact ⟨j + 1, by omega, by go_num, HR, below_drew kb _⟩
          case measure => simp [intOf]; omega
        | false =>
          have HR : Hid (r = false) := aside (by rw [HG2, sameB, hs]; rfl)
          rw [hs] at heq
          clear HG2 hs
          go_wp2
          go_quiet (fail)
          go_wp2
          go_ret
          exact ⟨ret_bool HR.out.symm, below_drew kb _⟩
      · have HR : Hid (r = true) := aside (by
          have := HG.out
          rwa [List.drop_of_length_le (by omega), List.drop_of_length_le (by have := HL.out; omega)] at this)
        clear S S' HG
        go_wp2
        go_ret
        exact ⟨ret_bool HR.out.symm, kb⟩
  · have t0 : ((a.length : Int) != (b.length : Int)) = true := by simp; omega
    have HR : Hid (r = false) := aside (HR0.out.symm.trans (sameB_len hl))
    clear hl
    go_enter Tryz.func34, Tryz.ntmps34
    go_wp2
    go_ret
    exact ⟨ret_bool HR.out.symm, Below.refl _ _⟩

/-- At most thirty counts, of keys of at most 100 bytes. -/
def fewB (l : List Cn) : Bool := decide (l.length ≤ 30) && l.all fun c => decide (c.key.size ≤ 100)
set_option maxHeartbeats 4000000 in
theorem few_ret (A : Option Addr) (cap : Nat) (l : List Cn) (w : World) (S : SlR E w A cap l) (hf : ∀ c ∈ l, c.key.size ≤ maxLen) :
    Calls Tryz.prog 21 #[.slice A l.length cap] w fun e w' => e = .returned (.bool (fewB l)) ∧ w = w' := by
  have hcap := S.1
  have hmax : l.length ≤ 9223372036854775807 := by have := S.2.1; unfold maxLen at this; omega
  obtain ⟨r, hr0⟩ : ∃ r, fewB l = r := ⟨_, rfl⟩
  rw [hr0]
  have HR0 := aside hr0
  clear hr0
  by_cases h30 : 30 < l.length
  · have HR : Hid (r = false) := aside (HR0.out.symm.trans (by unfold fewB; rw [show decide (l.length ≤ 30) = false from decide_eq_false (by omega)]; rfl))
    go_enter Tryz.func21, Tryz.ntmps21
    go_wp2
    go_ret
    exact ⟨ret_bool HR.out.symm, rfl⟩
  · have HR1 : Hid (r = l.all fun c => decide (c.key.size ≤ 100)) := aside (HR0.out.symm.trans (by unfold fewB; rw [show decide (l.length ≤ 30) = true from decide_eq_true (by omega)]; rfl))
    go_enter Tryz.func21, Tryz.ntmps21
    go_wp2
    go_loop [3] (fun i => ∃ j : Nat, j ≤ l.length ∧ i = .int .i64 j ∧ Hid (r = (l.drop j).all fun c => decide (c.key.size ≤ 100))) (fun i => l.length - (intOf i).toNat)
    case atStart => exact ⟨0, Nat.zero_le _, rfl, HR1⟩
    case round =>
      obtain ⟨j, hj, rfl, HG⟩ := hrel
      by_cases hlt : j < l.length
      · obtain ⟨b, off, rfl, hbw, hr⟩ := CtrW.plain S (by omega)
        obtain ⟨x, hx⟩ : ∃ x, l[j]? = some x := ⟨_, List.getElem?_eq_getElem hlt⟩
        obtain ⟨c0, c1⟩ := cells (hr j x hx)
        have hxs := hf x (List.mem_of_getElem? hx)
        unfold maxLen at hxs
        have p0 : (j : Int) < l.length := by omega
        have m0 : ((j : Int)).toNat = j := by omega
        have HG2 := HG.out
        rw [getD_drop hx, List.all_cons] at HG2
        clear hr S hx HG hf
        by_cases hk : 100 < x.key.size
        · have HR : Hid (r = false) := aside (by rw [HG2, decide_eq_false (by omega)]; rfl)
          clear HG2
          go_wp2
          go_ret
          exact ⟨ret_bool HR.out.symm, rfl⟩
        · have HR : Hid (r = (l.drop (j + 1)).all fun c => decide (c.key.size ≤ 100)) := aside (by rw [HG2, decide_eq_true (by omega)]; rfl)
          clear HG2
          go_wp2
          go_round
          case rel => exact ⟨j + 1, by omega, by go_num, HR⟩
          case measure => simp [intOf]; omega
      · have HR : Hid (r = true) := aside (by
          have := HG.out
          rwa [List.drop_of_length_le (by omega)] at this)
        clear S HG hf
        go_wp2
        go_ret
        exact ⟨ret_bool HR.out.symm, rfl⟩
end Go.Proofs.YtnjdkjkihbgkaaaGreat.CtrS
