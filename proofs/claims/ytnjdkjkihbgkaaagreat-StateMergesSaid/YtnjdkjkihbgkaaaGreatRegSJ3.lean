/- What the document's Same of package reg, and the law's Few, return: contracts. | What the document's Less of package pair returns: a contract. | What the document's Same of package pair, and the law's Few, return: contracts. -/
import Derived.Test.YtnjdkjkihbgkaaaGreatRegRJ2
import Derived.Test.YtnjdkjkihbgkaaaGreatRowGJ6
namespace Go.Proofs.YtnjdkjkihbgkaaaGreat.RegS
set_option maxRecDepth 100000
open Go Go.RowKit Byt OpsM OpsK Rise RegM RegL RowS RegW RegR RegG

/-- Are two registers, or two lists of registers, the same? -/
def sameN (x y : Rg) : Bool := decide (x.key.toList = y.key.toList) && (decide (x.elem.toList = y.elem.toList) && (decide (x.gen = y.gen) && (decide (x.node = y.node) && decide (x.seq = y.seq))))
theorem sameN_iff {x y : Rg} : sameN x y = true ↔ x = y := by
  unfold sameN
  simp only [Bool.and_eq_true, decide_eq_true_eq]
  constructor
  · rintro ⟨h1, h2, h3, h4, h5⟩
    cases x; cases y
    simp only at h1 h2 h3 h4 h5
    rw [Rise.toList_inj h1, Rise.toList_inj h2, h3, h4, h5]
  · rintro rfl; exact ⟨rfl, rfl, rfl, rfl, rfl⟩
def sameB : List Rg → List Rg → Bool
  | [], [] => true
  | x :: a, y :: b => sameN x y && sameB a b
  | [], _ :: _ => false
  | _ :: _, [] => false
theorem sameB_iff : ∀ {a b : List Rg}, sameB a b = true ↔ a = b
  | [], [] => by simp [sameB]
  | x :: a, y :: b => by simp [sameB, sameN_iff, sameB_iff (a := a) (b := b)]
  | [], _ :: _ => by simp [sameB]
  | _ :: _, [] => by simp [sameB]
theorem sameB_self (a : List Rg) : sameB a a = true := sameB_iff.2 rfl
theorem sameB_len {a b : List Rg} (h : a.length ≠ b.length) : sameB a b = false := by
  cases hs : sameB a b with
  | false => rfl
  | true => exact absurd (congrArg List.length (sameB_iff.1 hs)) h
theorem equal_ev (d : Nat) (w : World) (a b m n : Int) : (Op.equalIn (d + 1 + 1) 30 (.agg #[.int .i64 a, .int .i64 b]) (.agg #[.int .i64 m, .int .i64 n])).run Tryz.prog w = .ok (decide (a = m) && decide (b = n)) w := by
  have hE : Tryz.prog.underlying 30 = some (.struct (Tryz.prog.fieldsOf 30)) := by kernel_rfl
  rw [run_equalIn_agg w (d + 1) 30 _ _ hE (by kernel_rfl)]
  simp only [Program.fieldsOf, Tryz.underlying30]
  go_simp
  by_cases h1 : a = m <;> by_cases h2 : b = n <;> simp [h1, h2]
theorem equal_d (d : Nat) (w : World) (x y : Rg) : (Op.equalIn (d + 1 + 1 + 1) 43 (.agg (rc x)) (.agg (rc y))).run Tryz.prog w = .ok (sameN x y) w := by
  have hS : Tryz.prog.underlying 43 = some (.struct (Tryz.prog.fieldsOf 43)) := by kernel_rfl
  have hev := fun W => equal_ev d W x.node x.seq y.node y.seq
  rw [run_equalIn_agg w (d + 1 + 1) 43 _ _ hS (by kernel_rfl)]
  simp only [Program.fieldsOf, Tryz.underlying43, rc]
  go_simp
  unfold sameN
  by_cases h1 : x.key.toList = y.key.toList <;> by_cases h2 : x.elem.toList = y.elem.toList <;> by_cases h3 : x.gen = y.gen <;> by_cases h4 : x.node = y.node <;> by_cases h5 : x.seq = y.seq <;> simp [h1, h2, h3, h4, h5]
theorem equal (w : World) (x y : Rg) : (Op.equalIn 10000 43 (.agg (rc x)) (.agg (rc y))).run Tryz.prog w = .ok (sameN x y) w := equal_d 9997 w x y

set_option maxRecDepth 100000 in
set_option maxHeartbeats 4000000 in
theorem same_ret (A : Option Addr) (cap : Nat) (a : List Rg) (A' : Option Addr) (cap' : Nat) (b : List Rg) (w : World) (S : SlR E w A cap a) (S' : SlR E w A' cap' b) :
    Calls Tryz.prog 35 #[.slice A a.length cap, .slice A' b.length cap'] w fun e w' => e = .returned (.bool (sameB a b)) ∧ Below w.heap.size w w' := by
  have hmax : a.length ≤ 9223372036854775807 := by have := S.1; have := S.2.1; unfold maxLen at this; omega
  have hmax' : b.length ≤ 9223372036854775807 := by have := S'.1; have := S'.2.1; unfold maxLen at this; omega
  have hcap := S.1
  have hcap' := S'.1
  obtain ⟨r, hr0⟩ : ∃ r, sameB a b = r := ⟨_, rfl⟩
  rw [hr0]
  have HR0 := aside hr0
  clear hr0
  by_cases hl : a.length = b.length
  · have t0 : ((a.length : Int) != (b.length : Int)) = false := by simp; omega
    have HL := aside hl
    clear hl
    go_enter Tryz.func35, Tryz.ntmps35
    go_wp2
    clear t0
    go_loopw [5] (fun i wr => ∃ j : Nat, j ≤ a.length ∧ i = .int .i64 j ∧ Hid (r = sameB (a.drop j) (b.drop j)) ∧ Below w.heap.size w wr) (fun i _ => a.length - (intOf i).toNat)
    case atStart => exact ⟨0, Nat.zero_le _, rfl, aside HR0.out.symm, Below.refl _ _⟩
    case round =>
      obtain ⟨j, hj, rfl, HG, kb⟩ := hrel
      by_cases hlt : j < a.length
      · have hlt' : j < b.length := by have := HL.out; omega
        obtain ⟨p, off, rfl, hbw, hr⟩ := RegW.plain S (by omega)
        obtain ⟨p', off', rfl, hbw', hr'⟩ := RegW.plain S' (by omega)
        obtain ⟨x, hx⟩ : ∃ x, a[j]? = some x := ⟨_, List.getElem?_eq_getElem hlt⟩
        obtain ⟨y, hy⟩ : ∃ y, b[j]? = some y := ⟨_, List.getElem?_eq_getElem hlt'⟩
        obtain ⟨c0, c1, c2, c3, c4⟩ := cells (range_below (hr j x hx) kb)
        obtain ⟨d0, d1, d2, d3, d4⟩ := cells (range_below (hr' j y hy) kb)
        have p0 : (j : Int) < a.length := by omega
        have p1 : (j : Int) < b.length := by omega
        have m0 : ((j : Int)).toNat = j := by omega
        have HG2 := HG.out
        rw [getD_drop hx, getD_drop hy] at HG2
        have heq := fun W => equal W x y
        unfold rc at heq
        clear hr hr' S S' hx hy HG
        cases hs : sameN x y with
        | true =>
          have HR : Hid (r = sameB (a.drop (j + 1)) (b.drop (j + 1))) := aside (by rw [HG2, sameB, hs]; rfl)
          rw [hs] at heq
          clear HG2 hs
          go_wp2
          go_quiet (fail)
          go_wp2
          go_roundw
          case rel => exact ⟨j + 1, by omega, by go_num, HR, below_drew kb _⟩
          case measure => simp [intOf]; omega
        | false =>
          have HR : Hid (r = false) := aside (by rw [HG2, sameB, hs]; rfl)
          rw [hs] at heq
          clear HG2 hs
          go_wp2
          go_quiet (fail)
          go_wp2
          go_ret
          exact ⟨ret_bool HR.out.symm, below_drew kb _⟩
      · have HR : Hid (r = true) := aside (by
          have := HG.out
          rwa [List.drop_of_length_le (by omega), List.drop_of_length_le (by have := HL.out; omega)] at this)
        clear S S' HG
        go_wp2
        go_ret
        exact ⟨ret_bool HR.out.symm, kb⟩
  · have t0 : ((a.length : Int) != (b.length : Int)) = true := by simp; omega
    have HR : Hid (r = false) := aside (HR0.out.symm.trans (sameB_len hl))
    clear hl
    go_enter Tryz.func35, Tryz.ntmps35
    go_wp2
    go_ret
    exact ⟨ret_bool HR.out.symm, Below.refl _ _⟩
/-- At most thirty registers, of texts of at most 100 bytes. -/
def fewB (l : List Rg) : Bool := decide (l.length ≤ 30) && l.all fun c => decide (c.key.size ≤ 100 ∧ c.elem.size ≤ 100)
set_option maxHeartbeats 4000000 in
theorem few_ret (A : Option Addr) (cap : Nat) (l : List Rg) (w : World) (S : SlR E w A cap l) (hf : ∀ c ∈ l, c.key.size ≤ maxLen ∧ c.elem.size ≤ maxLen) :
    Calls Tryz.prog 22 #[.slice A l.length cap] w fun e w' => e = .returned (.bool (fewB l)) ∧ w = w' := by
  have hcap := S.1
  have hmax : l.length ≤ 9223372036854775807 := by have := S.2.1; unfold maxLen at this; omega
  obtain ⟨r, hr0⟩ : ∃ r, fewB l = r := ⟨_, rfl⟩
  rw [hr0]
  have HR0 := aside hr0
  clear hr0
  by_cases h30 : 30 < l.length
  · have HR : Hid (r = false) := aside (HR0.out.symm.trans (by unfold fewB; rw [show decide (l.length ≤ 30) = false from decide_eq_false (by omega)]; rfl))
    go_enter Tryz.func22, Tryz.ntmps22
    go_wp2
    go_ret
    exact ⟨ret_bool HR.out.symm, rfl⟩
  · have HR1 : Hid (r = l.all fun c => decide (c.key.size ≤ 100 ∧ c.elem.size ≤ 100)) := aside (HR0.out.symm.trans (by unfold fewB; rw [show decide (l.length ≤ 30) = true from decide_eq_true (by omega)]; rfl))
    go_enter Tryz.func22, Tryz.ntmps22
    go_wp2
    go_loop [3] (fun i => ∃ j : Nat, j ≤ l.length ∧ i = .int .i64 j ∧ Hid (r = (l.drop j).all fun c => decide (c.key.size ≤ 100 ∧ c.elem.size ≤ 100))) (fun i => l.length - (intOf i).toNat)
    case atStart => exact ⟨0, Nat.zero_le _, rfl, HR1⟩
    case round =>
      obtain ⟨j, hj, rfl, HG⟩ := hrel
      by_cases hlt : j < l.length
      · obtain ⟨b, off, rfl, hbw, hr⟩ := RegW.plain S (by omega)
        obtain ⟨x, hx⟩ : ∃ x, l[j]? = some x := ⟨_, List.getElem?_eq_getElem hlt⟩
        obtain ⟨c0, c1, _, _, _⟩ := cells (hr j x hx)
        obtain ⟨hxs, hxe⟩ := hf x (List.mem_of_getElem? hx)
        unfold maxLen at hxs hxe
        have p0 : (j : Int) < l.length := by omega
        have m0 : ((j : Int)).toNat = j := by omega
        have HG2 := HG.out
        rw [getD_drop hx, List.all_cons] at HG2
        clear hr S hx HG hf
        by_cases hk : 100 < x.key.size
        · have HR : Hid (r = false) := aside (by rw [HG2, decide_eq_false (by omega)]; rfl)
          clear HG2
          go_wp2
          go_ret
          exact ⟨ret_bool HR.out.symm, rfl⟩
        · by_cases he : 100 < x.elem.size
          · have HR : Hid (r = false) := aside (by rw [HG2, decide_eq_false (by omega)]; rfl)
            clear HG2
            go_wp2
            go_ret
            exact ⟨ret_bool HR.out.symm, rfl⟩
          · have HR : Hid (r = (l.drop (j + 1)).all fun c => decide (c.key.size ≤ 100 ∧ c.elem.size ≤ 100)) := aside (by rw [HG2, decide_eq_true (by omega)]; rfl)
            clear HG2
            go_wp2
            go_round
            case rel => exact ⟨j + 1, by omega, by go_num, HR⟩
            case measure => simp [intOf]; omega
      · have HR : Hid (r = true) := aside (by
          have := HG.out
          rwa [List.drop_of_length_le (by omega)] at this)
        clear S HG hf
        go_wp2
        go_ret
        exact ⟨ret_bool HR.out.symm, rfl⟩
end Go.Proofs.YtnjdkjkihbgkaaaGreat.RegS
namespace Go.Proofs.YtnjdkjkihbgkaaaGreat.PairR
set_option maxRecDepth 100000
open Go Go.RowKit Byt OpsM OpsK Rise PairM PairN RowS RowB PairW

set_option maxHeartbeats 4000000 in
theorem less_ret (a b : Pr) (w : World) :
    Calls Tryz.prog 79 #[.agg (pc a), .agg (pc b)] w fun e w' => e = .returned (.bool (lessP a b)) ∧ Below w.heap.size w w' := by
  have R1 : Box E ((w.alloc (.cells (pc a) 63)).alloc (.cells (pc b) 63)) w.heap.size a := (Box.new (E := E) w a 63).alloc _
  have R2 : Box E ((w.alloc (.cells (pc a) 63)).alloc (.cells (pc b) 63)) (w.heap.size + 1) b := by
    have z : (w.alloc (.cells (pc a) 63)).heap.size = w.heap.size + 1 := by simp
    rw [← z]
    exact Box.new _ b _
  have kb : Below w.heap.size w ((w.alloc (.cells (pc a) 63)).alloc (.cells (pc b) 63)) := ((Below.refl _ _).alloc (Nat.le_refl _) _).alloc (by simp) _
  obtain ⟨c1, c2, c3, c4⟩ := box_cells R1
  obtain ⟨d1, d2, d3, d4⟩ := box_cells R2
  clear R1 R2
  obtain ⟨r, hr⟩ : ∃ r, lessP a b = r := ⟨_, rfl⟩
  have hn : r = lessP a b := hr.symm
  rw [hr]
  unfold lessP at hn
  clear hr
  by_cases h1 : a.key = b.key
  · have t1 := bne_yes h1
    have u1 : a.key.toList = b.key.toList := by rw [h1]
    rw [if_pos h1] at hn
    by_cases h2 : a.elem = b.elem
    · have t2 := bne_yes h2
      have u2 : a.elem.toList = b.elem.toList := by rw [h2]
      rw [if_pos h2] at hn
      by_cases h3 : a.node = b.node
      · have t3 : (a.node != b.node) = false := by simpa using h3
        rw [if_pos h3] at hn
        have HR : Hid (r = decide (a.seq < b.seq)) := aside hn
        clear hn h1 h2 h3
        go_enter Tryz.func79, Tryz.ntmps79
        go_wp2
        go_ret
        exact ⟨ret_bool HR.out.symm, kb⟩
      · have t3 : (a.node != b.node) = true := by simpa using h3
        rw [if_neg h3] at hn
        have HR : Hid (r = decide (a.node < b.node)) := aside hn
        clear hn h1 h2 h3
        go_enter Tryz.func79, Tryz.ntmps79
        go_wp2
        go_ret
        exact ⟨ret_bool HR.out.symm, kb⟩
    · have t2 := bne_no h2
      have u2 := str_no h2
      rw [if_neg h2] at hn
      have HR : Hid (r = Op.bytesLess a.elem.toList b.elem.toList) := aside hn
      clear hn h1 h2
      go_enter Tryz.func79, Tryz.ntmps79
      go_wp2
      go_ret
      exact ⟨ret_bool HR.out.symm, kb⟩
  · have t1 := bne_no h1
    have u1 := str_no h1
    rw [if_neg h1] at hn
    have HR : Hid (r = Op.bytesLess a.key.toList b.key.toList) := aside hn
    clear hn h1
    go_enter Tryz.func79, Tryz.ntmps79
    go_wp2
    go_ret
    exact ⟨ret_bool HR.out.symm, kb⟩
end Go.Proofs.YtnjdkjkihbgkaaaGreat.PairR
namespace Go.Proofs.YtnjdkjkihbgkaaaGreat.PairS
set_option maxRecDepth 100000
open Go Go.RowKit Byt OpsM OpsK Rise PairM PairN RowS RowB PairW PairR

/-- Are two pairs, or two lists of pairs, the same? -/
def sameN (x y : Pr) : Bool := decide (x.key.toList = y.key.toList) && (decide (x.elem.toList = y.elem.toList) && (decide (x.node = y.node) && decide (x.seq = y.seq)))
theorem sameN_iff {x y : Pr} : sameN x y = true ↔ x = y := by
  unfold sameN
  simp only [Bool.and_eq_true, decide_eq_true_eq]
  constructor
  · rintro ⟨h1, h2, h4, h5⟩
    cases x; cases y
    simp only at h1 h2 h4 h5
    rw [Rise.toList_inj h1, Rise.toList_inj h2, h4, h5]
  · rintro rfl; exact ⟨rfl, rfl, rfl, rfl⟩
def sameB : List Pr → List Pr → Bool
  | [], [] => true
  | x :: a, y :: b => sameN x y && sameB a b
  | [], _ :: _ => false
  | _ :: _, [] => false
theorem sameB_iff : ∀ {a b : List Pr}, sameB a b = true ↔ a = b
  | [], [] => by simp [sameB]
  | x :: a, y :: b => by simp [sameB, sameN_iff, sameB_iff (a := a) (b := b)]
  | [], _ :: _ => by simp [sameB]
  | _ :: _, [] => by simp [sameB]
theorem sameB_self (a : List Pr) : sameB a a = true := sameB_iff.2 rfl
theorem sameB_len {a b : List Pr} (h : a.length ≠ b.length) : sameB a b = false := by
  cases hs : sameB a b with
  | false => rfl
  | true => exact absurd (congrArg List.length (sameB_iff.1 hs)) h
theorem equal_ev (d : Nat) (w : World) (a b m n : Int) : (Op.equalIn (d + 1 + 1) 30 (.agg #[.int .i64 a, .int .i64 b]) (.agg #[.int .i64 m, .int .i64 n])).run Tryz.prog w = .ok (decide (a = m) && decide (b = n)) w := by
  have hE : Tryz.prog.underlying 30 = some (.struct (Tryz.prog.fieldsOf 30)) := by kernel_rfl
  rw [run_equalIn_agg w (d + 1) 30 _ _ hE (by kernel_rfl)]
  simp only [Program.fieldsOf, Tryz.underlying30]
  go_simp
  by_cases h1 : a = m <;> by_cases h2 : b = n <;> simp [h1, h2]
theorem equal_d (d : Nat) (w : World) (x y : Pr) : (Op.equalIn (d + 1 + 1 + 1) 63 (.agg (pc x)) (.agg (pc y))).run Tryz.prog w = .ok (sameN x y) w := by
  have hS : Tryz.prog.underlying 63 = some (.struct (Tryz.prog.fieldsOf 63)) := by kernel_rfl
  have hev := fun W => equal_ev d W x.node x.seq y.node y.seq
  rw [run_equalIn_agg w (d + 1 + 1) 63 _ _ hS (by kernel_rfl)]
  simp only [Program.fieldsOf, Tryz.underlying63, pc]
  go_simp
  unfold sameN
  by_cases h1 : x.key.toList = y.key.toList <;> by_cases h2 : x.elem.toList = y.elem.toList <;> by_cases h4 : x.node = y.node <;> by_cases h5 : x.seq = y.seq <;> simp [h1, h2, h4, h5]
theorem equal (w : World) (x y : Pr) : (Op.equalIn 10000 63 (.agg (pc x)) (.agg (pc y))).run Tryz.prog w = .ok (sameN x y) w := equal_d 9997 w x y

set_option maxRecDepth 100000 in
set_option maxHeartbeats 4000000 in
theorem same_ret (A : Option Addr) (cap : Nat) (a : List Pr) (A' : Option Addr) (cap' : Nat) (b : List Pr) (w : World) (S : SlR E w A cap a) (S' : SlR E w A' cap' b) :
    Calls Tryz.prog 36 #[.slice A a.length cap, .slice A' b.length cap'] w fun e w' => e = .returned (.bool (sameB a b)) ∧ Below w.heap.size w w' := by
  have hmax : a.length ≤ 9223372036854775807 := by have := S.1; have := S.2.1; unfold maxLen at this; omega
  have hmax' : b.length ≤ 9223372036854775807 := by have := S'.1; have := S'.2.1; unfold maxLen at this; omega
  have hcap := S.1
  have hcap' := S'.1
  obtain ⟨r, hr0⟩ : ∃ r, sameB a b = r := ⟨_, rfl⟩
  rw [hr0]
  have HR0 := aside hr0
  clear hr0
  by_cases hl : a.length = b.length
  · have t0 : ((a.length : Int) != (b.length : Int)) = false := by simp; omega
    have HL := aside hl
    clear hl
    go_enter Tryz.func36, Tryz.ntmps36
    go_wp2
    clear t0
    go_loopw [5] (fun i wr => ∃ j : Nat, j ≤ a.length ∧ i = .int .i64 j ∧ Hid (r = sameB (a.drop j) (b.drop j)) ∧ Below w.heap.size w wr) (fun i _ => a.length - (intOf i).toNat)
    case atStart => exact ⟨0, Nat.zero_le _, rfl, aside HR0.out.symm, Below.refl _ _⟩
    case round =>
      obtain ⟨j, hj, rfl, HG, kb⟩ := hrel
      by_cases hlt : j < a.length
      · have hlt' : j < b.length := by have := HL.out; omega
        obtain ⟨p, off, rfl, hbw, hr⟩ := PairW.plain S (by omega)
        obtain ⟨p', off', rfl, hbw', hr'⟩ := PairW.plain S' (by omega)
        obtain ⟨x, hx⟩ : ∃ x, a[j]? = some x := ⟨_, List.getElem?_eq_getElem hlt⟩
        obtain ⟨y, hy⟩ : ∃ y, b[j]? = some y := ⟨_, List.getElem?_eq_getElem hlt'⟩
        obtain ⟨c0, c1, c2, c3⟩ := cells (range_below (hr j x hx) kb)
        obtain ⟨d0, d1, d2, d3⟩ := cells (range_below (hr' j y hy) kb)
        have p0 : (j : Int) < a.length := by omega
        have p1 : (j : Int) < b.length := by omega
        have m0 : ((j : Int)).toNat = j := by omega
        have HG2 := HG.out
        rw [getD_drop hx, getD_drop hy] at HG2
        have heq := fun W => equal W x y
        unfold pc at heq
        clear hr hr' S S' hx hy HG
        cases hs : sameN x y with
        | true =>
          have HR : Hid (r = sameB (a.drop (j + 1)) (b.drop (j + 1))) := aside (by rw [HG2, sameB, hs]; rfl)
          rw [hs] at heq
          clear HG2 hs
          go_wp2
          go_quiet (fail)
          go_wp2
          go_roundw
          case rel => exact ⟨j + 1, by omega, by go_num, HR, below_drew kb _⟩
          case measure => simp [intOf]; omega
        | false =>
          have HR : Hid (r = false) := aside (by rw [HG2, sameB, hs]; rfl)
          rw [hs] at heq
          clear HG2 hs
          go_wp2
          go_quiet (fail)
          go_wp2
          go_ret
          exact ⟨ret_bool HR.out.symm, below_drew kb _⟩
      · have HR : Hid (r = true) := aside (by
          have := HG.out
          rwa [List.drop_of_length_le (by omega), List.drop_of_length_le (by have := HL.out; omega)] at this)
        clear S S' HG
        go_wp2
        go_ret
        exact ⟨ret_bool HR.out.symm, kb⟩
  · have t0 : ((a.length : Int) != (b.length : Int)) = true := by simp; omega
    have HR : Hid (r = false) := aside (HR0.out.symm.trans (sameB_len hl))
    clear hl
    go_enter Tryz.func36, Tryz.ntmps36
    go_wp2
    go_ret
    exact ⟨ret_bool HR.out.symm, Below.refl _ _⟩
/-- At most thirty pairs, of texts of at most 100 bytes. -/
def fewB (l : List Pr) : Bool := decide (l.length ≤ 30) && l.all fun c => decide (c.key.size ≤ 100 ∧ c.elem.size ≤ 100)
set_option maxHeartbeats 4000000 in
theorem few_ret (A : Option Addr) (cap : Nat) (l : List Pr) (w : World) (S : SlR E w A cap l) (hf : ∀ c ∈ l, c.key.size ≤ maxLen ∧ c.elem.size ≤ maxLen) :
    Calls Tryz.prog 23 #[.slice A l.length cap] w fun e w' => e = .returned (.bool (fewB l)) ∧ w = w' := by
  have hcap := S.1
  have hmax : l.length ≤ 9223372036854775807 := by have := S.2.1; unfold maxLen at this; omega
  obtain ⟨r, hr0⟩ : ∃ r, fewB l = r := ⟨_, rfl⟩
  rw [hr0]
  have HR0 := aside hr0
  clear hr0
  by_cases h30 : 30 < l.length
  · have HR : Hid (r = false) := aside (HR0.out.symm.trans (by unfold fewB; rw [show decide (l.length ≤ 30) = false from decide_eq_false (by omega)]; rfl))
    go_enter Tryz.func23, Tryz.ntmps23
    go_wp2
    go_ret
    exact ⟨ret_bool HR.out.symm, rfl⟩
  · have HR1 : Hid (r = l.all fun c => decide (c.key.size ≤ 100 ∧ c.elem.size ≤ 100)) := aside (HR0.out.symm.trans (by unfold fewB; rw [show decide (l.length ≤ 30) = true from decide_eq_true (by omega)]; rfl))
    go_enter Tryz.func23, Tryz.ntmps23
    go_wp2
    go_loop [3] (fun i => ∃ j : Nat, j ≤ l.length ∧ i = .int .i64 j ∧ Hid (r = (l.drop j).all fun c => decide (c.key.size ≤ 100 ∧ c.elem.size ≤ 100))) (fun i => l.length - (intOf i).toNat)
    case atStart => exact ⟨0, Nat.zero_le _, rfl, HR1⟩
    case round =>
      obtain ⟨j, hj, rfl, HG⟩ := hrel
      by_cases hlt : j < l.length
      · obtain ⟨b, off, rfl, hbw, hr⟩ := PairW.plain S (by omega)
        obtain ⟨x, hx⟩ : ∃ x, l[j]? = some x := ⟨_, List.getElem?_eq_getElem hlt⟩
        obtain ⟨c0, c1, _, _⟩ := cells (hr j x hx)
        obtain ⟨hxs, hxe⟩ := hf x (List.mem_of_getElem? hx)
        unfold maxLen at hxs hxe
        have p0 : (j : Int) < l.length := by omega
        have m0 : ((j : Int)).toNat = j := by omega
        have HG2 := HG.out
        rw [getD_drop hx, List.all_cons] at HG2
        clear hr S hx HG hf
        by_cases hk : 100 < x.key.size
        · have HR : Hid (r = false) := aside (by rw [HG2, decide_eq_false (by omega)]; rfl)
          clear HG2
          go_wp2
          go_ret
          exact ⟨ret_bool HR.out.symm, rfl⟩
        · by_cases he : 100 < x.elem.size
          · have HR : Hid (r = false) := aside (by rw [HG2, decide_eq_false (by omega)]; rfl)
            clear HG2
            go_wp2
            go_ret
            exact ⟨ret_bool HR.out.symm, rfl⟩
          · have HR : Hid (r = (l.drop (j + 1)).all fun c => decide (c.key.size ≤ 100 ∧ c.elem.size ≤ 100)) := aside (by rw [HG2, decide_eq_true (by omega)]; rfl)
            clear HG2
            go_wp2
            go_round
            case rel => exact ⟨j + 1, by omega, by go_num, HR⟩
            case measure => simp [intOf]; omega
      · have HR : Hid (r = true) := aside (by
          have := HG.out
          rwa [List.drop_of_length_le (by omega)] at this)
        clear S HG hf
        go_wp2
        go_ret
        exact ⟨ret_bool HR.out.symm, rfl⟩
end Go.Proofs.YtnjdkjkihbgkaaaGreat.PairS
