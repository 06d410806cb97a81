/- What the document's Same of package pair, and the law's Few, return: contracts. -/
import Derived.Test.YtcodipgooofppaaPairR
namespace Go.Proofs.Ytcodipgooofppaa.PairS
open Go Go.RowKit Byt OpsM OpsK Rise PairM PairN RowS RowB PairW PairR

/-- Are two pairs, or two lists of pairs, the same? -/
def sameN (x y : Pr) : Bool := decide (x.key.toList = y.key.toList) && (decide (x.elem.toList = y.elem.toList) && (decide (x.node = y.node) && decide (x.seq = y.seq)))
theorem sameN_iff {x y : Pr} : sameN x y = true ↔ x = y := by
  unfold sameN
  simp only [Bool.and_eq_true, decide_eq_true_eq]
  constructor
  · rintro ⟨h1, h2, h4, h5⟩
    cases x; cases y
    simp only at h1 h2 h4 h5
    rw [Rise.toList_inj h1, Rise.toList_inj h2, h4, h5]
  · rintro rfl; exact ⟨rfl, rfl, rfl, rfl⟩
def sameB : List Pr → List Pr → Bool
  | [], [] => true
  | x :: a, y :: b => sameN x y && sameB a b
  | [], _ :: _ => false
  | _ :: _, [] => false
theorem sameB_iff : ∀ {a b : List Pr}, sameB a b = true ↔ a = b
  | [], [] => by simp [sameB]
  | x :: a, y :: b => by simp [sameB, sameN_iff, sameB_iff (a := a) (b := b)]
  | [], _ :: _ => by simp [sameB]
  | _ :: _, [] => by simp [sameB]
theorem sameB_self (a : List Pr) : sameB a a = true := sameB_iff.2 rfl
theorem sameB_len {a b : List Pr} (h : a.length ≠ b.length) : sameB a b = false := by
  cases hs : sameB a b with
  | false => rfl
  | true => exact absurd (congrArg List.length (sameB_iff.1 hs)) h
theorem equal_ev (d : Nat) (w : World) (a b m n : Int) : (Op.equalIn (d + 1 + 1) 24 (.agg #[.int .i64 a, .int .i64 b]) (.agg #[.int .i64 m, .int .i64 n])).run Try.prog w = .ok (decide (a = m) && decide (b = n)) w := by
  have hE : Try.prog.underlying 24 = some (.struct (Try.prog.fieldsOf 24)) := by kernel_rfl
  rw [run_equalIn_agg w (d + 1) 24 _ _ hE (by kernel_rfl)]
  simp only [Program.fieldsOf, Try.underlying24]
  go_simp
  by_cases h1 : a = m <;> by_cases h2 : b = n <;> simp [h1, h2]
theorem equal_d (d : Nat) (w : World) (x y : Pr) : (Op.equalIn (d + 1 + 1 + 1) 26 (.agg (pc x)) (.agg (pc y))).run Try.prog w = .ok (sameN x y) w := by
  have hS : Try.prog.underlying 26 = some (.struct (Try.prog.fieldsOf 26)) := by kernel_rfl
  have hev := fun W => equal_ev d W x.node x.seq y.node y.seq
  rw [run_equalIn_agg w (d + 1 + 1) 26 _ _ hS (by kernel_rfl)]
  simp only [Program.fieldsOf, Try.underlying26, pc]
  go_simp
  unfold sameN
  by_cases h1 : x.key.toList = y.key.toList <;> by_cases h2 : x.elem.toList = y.elem.toList <;> by_cases h4 : x.node = y.node <;> by_cases h5 : x.seq = y.seq <;> simp [h1, h2, h4, h5]
theorem equal (w : World) (x y : Pr) : (Op.equalIn 10000 26 (.agg (pc x)) (.agg (pc y))).run Try.prog w = .ok (sameN x y) w := equal_d 9997 w x y

set_option maxRecDepth 100000 in
set_option maxHeartbeats 4000000 in
theorem same_ret (A : Option Addr) (cap : Nat) (a : List Pr) (A' : Option Addr) (cap' : Nat) (b : List Pr) (w : World) (S : SlR E w A cap a) (S' : SlR E w A' cap' b) :
    Calls Try.prog 12 #[.slice A a.length cap, .slice A' b.length cap'] w fun e w' => e = .returned (.bool (sameB a b)) ∧ Below w.heap.size w w' := by
  have hmax : a.length ≤ 9223372036854775807 := by have := S.1; have := S.2.1; unfold maxLen at this; omega
  have hmax' : b.length ≤ 9223372036854775807 := by have := S'.1; have := S'.2.1; unfold maxLen at this; omega
  have hcap := S.1
  have hcap' := S'.1
  obtain ⟨r, hr0⟩ : ∃ r, sameB a b = r := ⟨_, rfl⟩
  rw [hr0]
  have HR0 := aside hr0
  clear hr0
  by_cases hl : a.length = b.length
  · have t0 : ((a.length : Int) != (b.length : Int)) = false := by simp; omega
    have HL := aside hl
    clear hl
    go_enter Try.func12, Try.ntmps12
    go_wp2
    clear t0
    go_loopw [5] (fun i wr => ∃ j : Nat, j ≤ a.length ∧ i = .int .i64 j ∧ Hid (r = sameB (a.drop j) (b.drop j)) ∧ Below w.heap.size w wr) (fun i _ => a.length - (intOf i).toNat)
    case atStart => exact ⟨0, Nat.zero_le _, rfl, aside HR0.out.symm, Below.refl _ _⟩
    case round =>
      obtain ⟨j, hj, rfl, HG, kb⟩ := hrel
      by_cases hlt : j < a.length
      · have hlt' : j < b.length := by have := HL.out; omega
        obtain ⟨p, off, rfl, hbw, hr⟩ := PairW.plain S (by omega)
        obtain ⟨p', off', rfl, hbw', hr'⟩ := PairW.plain S' (by omega)
        obtain ⟨x, hx⟩ : ∃ x, a[j]? = some x := ⟨_, List.getElem?_eq_getElem hlt⟩
        obtain ⟨y, hy⟩ : ∃ y, b[j]? = some y := ⟨_, List.getElem?_eq_getElem hlt'⟩
        obtain ⟨c0, c1, c2, c3⟩ := cells (range_below (hr j x hx) kb)
        obtain ⟨d0, d1, d2, d3⟩ := cells (range_below (hr' j y hy) kb)
        have p0 : (j : Int) < a.length := by omega
        have p1 : (j : Int) < b.length := by omega
        have m0 : ((j : Int)).toNat = j := by omega
        have HG2 := HG.out
        rw [getD_drop hx, getD_drop hy] at HG2
        have heq := fun W => equal W x y
        unfold pc at heq
        clear hr hr' S S' hx hy HG
        cases hs : sameN x y with
        | true =>
          have HR : Hid (r = sameB (a.drop (j + 1)) (b.drop (j + 1))) := aside (by rw [HG2, sameB, hs]; rfl)
          rw [hs] at heq
          clear HG2 hs
          go_wp2
          go_quiet (fail)
          go_wp2
          go_roundw
          case rel => exact ⟨j + 1, by omega, by go_num, HR, below_drew kb _⟩
          case measure => simp [intOf]; omega
        | false =>
          have HR : Hid (r = false) := aside (by rw [HG2, sameB, hs]; rfl)
          rw [hs] at heq
          clear HG2 hs
          go_wp2
          go_quiet (fail)
          go_wp2
          go_ret
          exact ⟨ret_bool HR.out.symm, below_drew kb _⟩
      · have HR : Hid (r = true) := aside (by
          have := HG.out
          rwa [List.drop_of_length_le (by omega), List.drop_of_length_le (by have := HL.out; omega)] at this)
        clear S S' HG
        go_wp2
        go_ret
        exact ⟨ret_bool HR.out.symm, kb⟩
  · have t0 : ((a.length : Int) != (b.length : Int)) = true := by simp; omega
    have HR : Hid (r = false) := aside (HR0.out.symm.trans (sameB_len hl))
    clear hl
    go_enter Try.func12, Try.ntmps12
    go_wp2
    go_ret
    exact ⟨ret_bool HR.out.symm, Below.refl _ _⟩
/-- At most thirty pairs, of texts of at most 100 bytes. -/
def fewB (l : List Pr) : Bool := decide (l.length ≤ 30) && l.all fun c => decide (c.key.size ≤ 100 ∧ c.elem.size ≤ 100)
set_option maxHeartbeats 4000000 in
theorem few_ret (A : Option Addr) (cap : Nat) (l : List Pr) (w : World) (S : SlR E w A cap l) (hf : ∀ c ∈ l, c.key.size ≤ maxLen ∧ c.elem.size ≤ maxLen) :
    Calls Try.prog 10 #[.slice A l.length cap] w fun e w' => e = .returned (.bool (fewB l)) ∧ w = w' := by
  have hcap := S.1
  have hmax : l.length ≤ 9223372036854775807 := by have := S.2.1; unfold maxLen at this; omega
  obtain ⟨r, hr0⟩ : ∃ r, fewB l = r := ⟨_, rfl⟩
  rw [hr0]
  have HR0 := aside hr0
  clear hr0
  by_cases h30 : 30 < l.length
  · have HR : Hid (r = false) := aside (HR0.out.symm.trans (by unfold fewB; rw [show decide (l.length ≤ 30) = false from decide_eq_false (by omega)]; rfl))
    go_enter Try.func10, Try.ntmps10
    go_wp2
    go_ret
    exact ⟨ret_bool HR.out.symm, rfl⟩
  · have HR1 : Hid (r = l.all fun c => decide (c.key.size ≤ 100 ∧ c.elem.size ≤ 100)) := aside (HR0.out.symm.trans (by unfold fewB; rw [show decide (l.length ≤ 30) = true from decide_eq_true (by omega)]; rfl))
    go_enter Try.func10, Try.ntmps10
    go_wp2
    go_loop [3] (fun i => ∃ j : Nat, j ≤ l.length ∧ i = .int .i64 j ∧ Hid (r = (l.drop j).all fun c => decide (c.key.size ≤ 100 ∧ c.elem.size ≤ 100))) (fun i => l.length - (intOf i).toNat)
    case atStart => exact ⟨0, Nat.zero_le _, rfl, HR1⟩
    case round =>
      obtain ⟨j, hj, rfl, HG⟩ := hrel
      by_cases hlt : j < l.length
      · obtain ⟨b, off, rfl, hbw, hr⟩ := PairW.plain S (by omega)
        obtain ⟨x, hx⟩ : ∃ x, l[j]? = some x := ⟨_, List.getElem?_eq_getElem hlt⟩
        obtain ⟨c0, c1, _, _⟩ := cells (hr j x hx)
        obtain ⟨hxs, hxe⟩ := hf x (List.mem_of_getElem? hx)
        unfold maxLen at hxs hxe
        have p0 : (j : Int) < l.length := by omega
        have m0 : ((j : Int)).toNat = j := by omega
        have HG2 := HG.out
        rw [getD_drop hx, List.all_cons] at HG2
        clear hr S hx HG hf
        by_cases hk : 100 < x.key.size
        · have HR : Hid (r = false) := aside (by rw [HG2, decide_eq_false (by omega)]; rfl)
          clear HG2
          go_wp2
          go_ret
          exact ⟨ret_bool HR.out.symm, rfl⟩
        · by_cases he : 100 < x.elem.size
          · have HR : Hid (r = false) := aside (by rw [HG2, decide_eq_false (by omega)]; rfl)
            clear HG2
            go_wp2
            go_ret
            exact ⟨ret_bool HR.out.symm, rfl⟩
          · have HR : Hid (r = (l.drop (j + 1)).all fun c => decide (c.key.size ≤ 100 ∧ c.elem.size ≤ 100)) := aside (by rw [HG2, decide_eq_true (by omega)]; rfl)
            clear HG2
            go_wp2
            go_round
            case rel => exact ⟨j + 1, by omega, by go_num, HR⟩
            case measure => simp [intOf]; omega
      · have HR : Hid (r = true) := aside (by
          have := HG.out
          rwa [List.drop_of_length_le (by omega)] at this)
        clear S HG hf
        go_wp2
        go_ret
        exact ⟨ret_bool HR.out.symm, rfl⟩
end Go.Proofs.Ytcodipgooofppaa.PairS
