/- What the document's Same of package reg, and the law's Few, return: contracts. | What the document's Less of package pair returns: a contract. | What the document's Same of package pair, and the law's Few, return: contracts. | What the document's has and May of package pair return: contracts. | What the document's Event, May and Same of package state return: contracts. -/
import Derived.Test.YtnjdkjkihbgkaaaOpsKJ6
import Derived.Test.YtnjdkjkihbgkaaaRowGJ3
namespace Go.Proofs.Ytnjdkjkihbgkaaa.RegS
set_option maxRecDepth 100000
open Go Go.RowKit Byt OpsM OpsK Rise RegM RegL RowS RegW RegR RegG

/-- Are two registers, or two lists of registers, the same? -/
def sameN (x y : Rg) : Bool := decide (x.key.toList = y.key.toList) && (decide (x.elem.toList = y.elem.toList) && (decide (x.gen = y.gen) && (decide (x.node = y.node) && decide (x.seq = y.seq))))
theorem sameN_iff {x y : Rg} : sameN x y = true ↔ x = y := by
  unfold sameN
  simp only [Bool.and_eq_true, decide_eq_true_eq]
  constructor
  · rintro ⟨h1, h2, h3, h4, h5⟩
    cases x; cases y
    simp only at h1 h2 h3 h4 h5
    rw [Rise.toList_inj h1, Rise.toList_inj h2, h3, h4, h5]
  · rintro rfl; exact ⟨rfl, rfl, rfl, rfl, rfl⟩
def sameB : List Rg → List Rg → Bool
  | [], [] => true
  | x :: a, y :: b => sameN x y && sameB a b
  | [], _ :: _ => false
  | _ :: _, [] => false
theorem sameB_iff : ∀ {a b : List Rg}, sameB a b = true ↔ a = b
  | [], [] => by simp [sameB]
  | x :: a, y :: b => by simp [sameB, sameN_iff, sameB_iff (a := a) (b := b)]
  | [], _ :: _ => by simp [sameB]
  | _ :: _, [] => by simp [sameB]
theorem sameB_self (a : List Rg) : sameB a a = true := sameB_iff.2 rfl
theorem sameB_len {a b : List Rg} (h : a.length ≠ b.length) : sameB a b = false := by
  cases hs : sameB a b with
  | false => rfl
  | true => exact absurd (congrArg List.length (sameB_iff.1 hs)) h
theorem equal_ev (d : Nat) (w : World) (a b m n : Int) : (Op.equalIn (d + 1 + 1) 39 (.agg #[.int .i64 a, .int .i64 b]) (.agg #[.int .i64 m, .int .i64 n])).run Try.prog w = .ok (decide (a = m) && decide (b = n)) w := by
  have hE : Try.prog.underlying 39 = some (.struct (Try.prog.fieldsOf 39)) := by kernel_rfl
  rw [run_equalIn_agg w (d + 1) 39 _ _ hE (by kernel_rfl)]
  simp only [Program.fieldsOf, Try.underlying39]
  go_simp
  by_cases h1 : a = m <;> by_cases h2 : b = n <;> simp [h1, h2]
theorem equal_d (d : Nat) (w : World) (x y : Rg) : (Op.equalIn (d + 1 + 1 + 1) 56 (.agg (rc x)) (.agg (rc y))).run Try.prog w = .ok (sameN x y) w := by
  have hS : Try.prog.underlying 56 = some (.struct (Try.prog.fieldsOf 56)) := by kernel_rfl
  have hev := fun W => equal_ev d W x.node x.seq y.node y.seq
  rw [run_equalIn_agg w (d + 1 + 1) 56 _ _ hS (by kernel_rfl)]
  simp only [Program.fieldsOf, Try.underlying56, rc]
  go_simp
  unfold sameN
  by_cases h1 : x.key.toList = y.key.toList <;> by_cases h2 : x.elem.toList = y.elem.toList <;> by_cases h3 : x.gen = y.gen <;> by_cases h4 : x.node = y.node <;> by_cases h5 : x.seq = y.seq <;> simp [h1, h2, h3, h4, h5]
theorem equal (w : World) (x y : Rg) : (Op.equalIn 10000 56 (.agg (rc x)) (.agg (rc y))).run Try.prog w = .ok (sameN x y) w := equal_d 9997 w x y

/-- At most thirty registers, of texts of at most 100 bytes. -/
def fewB (l : List Rg) : Bool := decide (l.length ≤ 30) && l.all fun c => decide (c.key.size ≤ 100 ∧ c.elem.size ≤ 100)
set_option maxHeartbeats 4000000 in
theorem few_ret (A : Option Addr) (cap : Nat) (l : List Rg) (w : World) (S : SlR E w A cap l) (hf : ∀ c ∈ l, c.key.size ≤ maxLen ∧ c.elem.size ≤ maxLen) :
    Calls Try.prog 14 #[.slice A l.length cap] w fun e w' => e = .returned (.bool (fewB l)) ∧ w = w' := by
  have hcap := S.1
  have hmax : l.length ≤ 9223372036854775807 := by have := S.2.1; unfold maxLen at this; omega
  obtain ⟨r, hr0⟩ : ∃ r, fewB l = r := ⟨_, rfl⟩
  rw [hr0]
  have HR0 := aside hr0
  clear hr0
  by_cases h30 : 30 < l.length
  · have HR : Hid (r = false) := aside (HR0.out.symm.trans (by unfold fewB; rw [show decide (l.length ≤ 30) = false from decide_eq_false (by omega)]; rfl))
    go_enter Try.func14, Try.ntmps14
    go_wp2
    go_ret
    exact ⟨ret_bool HR.out.symm, rfl⟩
  · have HR1 : Hid (r = l.all fun c => decide (c.key.size ≤ 100 ∧ c.elem.size ≤ 100)) := aside (HR0.out.symm.trans (by unfold fewB; rw [show decide (l.length ≤ 30) = true from decide_eq_true (by omega)]; rfl))
    go_enter Try.func14, Try.ntmps14
    go_wp2
    go_loop [3] (fun i => ∃ j : Nat, j ≤ l.length ∧ i = .int .i64 j ∧ Hid (r = (l.drop j).all fun c => decide (c.key.size ≤ 100 ∧ c.elem.size ≤ 100))) (fun i => l.length - (intOf i).toNat)
    case atStart => exact ⟨0, Nat.zero_le _, rfl, HR1⟩
    case round =>
      obtain ⟨j, hj, rfl, HG⟩ := hrel
      by_cases hlt : j < l.length
      · obtain ⟨b, off, rfl, hbw, hr⟩ := RegW.plain S (by omega)
        obtain ⟨x, hx⟩ : ∃ x, l[j]? = some x := ⟨_, List.getElem?_eq_getElem hlt⟩
        obtain ⟨c0, c1, _, _, _⟩ := cells (hr j x hx)
        obtain ⟨hxs, hxe⟩ := hf x (List.mem_of_getElem? hx)
        unfold maxLen at hxs hxe
        have p0 : (j : Int) < l.length := by omega
        have m0 : ((j : Int)).toNat = j := by omega
        have HG2 := HG.out
        rw [getD_drop hx, List.all_cons] at HG2
        clear hr S hx HG hf
        by_cases hk : 100 < x.key.size
        · have HR : Hid (r = false) := aside (by rw [HG2, decide_eq_false (by omega)]; rfl)
          clear HG2
          go_wp2
          go_ret
          exact ⟨ret_bool HR.out.symm, rfl⟩
        · by_cases he : 100 < x.elem.size
          · have HR : Hid (r = false) := aside (by rw [HG2, decide_eq_false (by omega)]; rfl)
            clear HG2
            go_wp2
            go_ret
            exact ⟨ret_bool HR.out.symm, rfl⟩
          · have HR : Hid (r = (l.drop (j + 1)).all fun c => decide (c.key.size ≤ 100 ∧ c.elem.size ≤ 100)) := aside (by rw [HG2, decide_eq_true (by omega)]; rfl)
            clear HG2
            go_wp2
            go_round
            case rel => exact ⟨j + 1, by omega, by go_num, HR⟩
            case measure => simp [intOf]; omega
      · have HR : Hid (r = true) := aside (by
          have := HG.out
          rwa [List.drop_of_length_le (by omega)] at this)
        clear S HG hf
        go_wp2
        go_ret
        exact ⟨ret_bool HR.out.symm, rfl⟩
end Go.Proofs.Ytnjdkjkihbgkaaa.RegS
namespace Go.Proofs.Ytnjdkjkihbgkaaa.PairR
set_option maxRecDepth 100000
open Go Go.RowKit Byt OpsM OpsK Rise PairM PairN RowS RowB PairW

end Go.Proofs.Ytnjdkjkihbgkaaa.PairR
namespace Go.Proofs.Ytnjdkjkihbgkaaa.PairS
set_option maxRecDepth 100000
open Go Go.RowKit Byt OpsM OpsK Rise PairM PairN RowS RowB PairW PairR

/-- Are two pairs, or two lists of pairs, the same? -/
def sameN (x y : Pr) : Bool := decide (x.key.toList = y.key.toList) && (decide (x.elem.toList = y.elem.toList) && (decide (x.node = y.node) && decide (x.seq = y.seq)))
theorem sameN_iff {x y : Pr} : sameN x y = true ↔ x = y := by
  unfold sameN
  simp only [Bool.and_eq_true, decide_eq_true_eq]
  constructor
  · rintro ⟨h1, h2, h4, h5⟩
    cases x; cases y
    simp only at h1 h2 h4 h5
    rw [Rise.toList_inj h1, Rise.toList_inj h2, h4, h5]
  · rintro rfl; exact ⟨rfl, rfl, rfl, rfl⟩
def sameB : List Pr → List Pr → Bool
  | [], [] => true
  | x :: a, y :: b => sameN x y && sameB a b
  | [], _ :: _ => false
  | _ :: _, [] => false
theorem sameB_iff : ∀ {a b : List Pr}, sameB a b = true ↔ a = b
  | [], [] => by simp [sameB]
  | x :: a, y :: b => by simp [sameB, sameN_iff, sameB_iff (a := a) (b := b)]
  | [], _ :: _ => by simp [sameB]
  | _ :: _, [] => by simp [sameB]
theorem sameB_self (a : List Pr) : sameB a a = true := sameB_iff.2 rfl
theorem sameB_len {a b : List Pr} (h : a.length ≠ b.length) : sameB a b = false := by
  cases hs : sameB a b with
  | false => rfl
  | true => exact absurd (congrArg List.length (sameB_iff.1 hs)) h
theorem equal_ev (d : Nat) (w : World) (a b m n : Int) : (Op.equalIn (d + 1 + 1) 39 (.agg #[.int .i64 a, .int .i64 b]) (.agg #[.int .i64 m, .int .i64 n])).run Try.prog w = .ok (decide (a = m) && decide (b = n)) w := by
  have hE : Try.prog.underlying 39 = some (.struct (Try.prog.fieldsOf 39)) := by kernel_rfl
  rw [run_equalIn_agg w (d + 1) 39 _ _ hE (by kernel_rfl)]
  simp only [Program.fieldsOf, Try.underlying39]
  go_simp
  by_cases h1 : a = m <;> by_cases h2 : b = n <;> simp [h1, h2]
theorem equal_d (d : Nat) (w : World) (x y : Pr) : (Op.equalIn (d + 1 + 1 + 1) 41 (.agg (pc x)) (.agg (pc y))).run Try.prog w = .ok (sameN x y) w := by
  have hS : Try.prog.underlying 41 = some (.struct (Try.prog.fieldsOf 41)) := by kernel_rfl
  have hev := fun W => equal_ev d W x.node x.seq y.node y.seq
  rw [run_equalIn_agg w (d + 1 + 1) 41 _ _ hS (by kernel_rfl)]
  simp only [Program.fieldsOf, Try.underlying41, pc]
  go_simp
  unfold sameN
  by_cases h1 : x.key.toList = y.key.toList <;> by_cases h2 : x.elem.toList = y.elem.toList <;> by_cases h4 : x.node = y.node <;> by_cases h5 : x.seq = y.seq <;> simp [h1, h2, h4, h5]
theorem equal (w : World) (x y : Pr) : (Op.equalIn 10000 41 (.agg (pc x)) (.agg (pc y))).run Try.prog w = .ok (sameN x y) w := equal_d 9997 w x y

/-- At most thirty pairs, of texts of at most 100 bytes. -/
def fewB (l : List Pr) : Bool := decide (l.length ≤ 30) && l.all fun c => decide (c.key.size ≤ 100 ∧ c.elem.size ≤ 100)
set_option maxHeartbeats 4000000 in
theorem few_ret (A : Option Addr) (cap : Nat) (l : List Pr) (w : World) (S : SlR E w A cap l) (hf : ∀ c ∈ l, c.key.size ≤ maxLen ∧ c.elem.size ≤ maxLen) :
    Calls Try.prog 15 #[.slice A l.length cap] w fun e w' => e = .returned (.bool (fewB l)) ∧ w = w' := by
  have hcap := S.1
  have hmax : l.length ≤ 9223372036854775807 := by have := S.2.1; unfold maxLen at this; omega
  obtain ⟨r, hr0⟩ : ∃ r, fewB l = r := ⟨_, rfl⟩
  rw [hr0]
  have HR0 := aside hr0
  clear hr0
  by_cases h30 : 30 < l.length
  · have HR : Hid (r = false) := aside (HR0.out.symm.trans (by unfold fewB; rw [show decide (l.length ≤ 30) = false from decide_eq_false (by omega)]; rfl))
    go_enter Try.func15, Try.ntmps15
    go_wp2
    go_ret
    exact ⟨ret_bool HR.out.symm, rfl⟩
  · have HR1 : Hid (r = l.all fun c => decide (c.key.size ≤ 100 ∧ c.elem.size ≤ 100)) := aside (HR0.out.symm.trans (by unfold fewB; rw [show decide (l.length ≤ 30) = true from decide_eq_true (by omega)]; rfl))
    go_enter Try.func15, Try.ntmps15
    go_wp2
    go_loop [3] (fun i => ∃ j : Nat, j ≤ l.length ∧ i = .int .i64 j ∧ Hid (r = (l.drop j).all fun c => decide (c.key.size ≤ 100 ∧ c.elem.size ≤ 100))) (fun i => l.length - (intOf i).toNat)
    case atStart => exact ⟨0, Nat.zero_le _, rfl, HR1⟩
    case round =>
      obtain ⟨j, hj, rfl, HG⟩ := hrel
      by_cases hlt : j < l.length
      · obtain ⟨b, off, rfl, hbw, hr⟩ := PairW.plain S (by omega)
        obtain ⟨x, hx⟩ : ∃ x, l[j]? = some x := ⟨_, List.getElem?_eq_getElem hlt⟩
        obtain ⟨c0, c1, _, _⟩ := cells (hr j x hx)
        obtain ⟨hxs, hxe⟩ := hf x (List.mem_of_getElem? hx)
        unfold maxLen at hxs hxe
        have p0 : (j : Int) < l.length := by omega
        have m0 : ((j : Int)).toNat = j := by omega
        have HG2 := HG.out
        rw [getD_drop hx, List.all_cons] at HG2
        clear hr S hx HG hf
        by_cases hk : 100 < x.key.size
        · have HR : Hid (r = false) := aside (by rw [HG2, decide_eq_false (by omega)]; rfl)
          clear HG2
          go_wp2
          go_ret
          exact ⟨ret_bool HR.out.symm, rfl⟩
        · by_cases he : 100 < x.elem.size
          · have HR : Hid (r = false) := aside (by rw [HG2, decide_eq_false (by omega)]; rfl)
            clear HG2
            go_wp2
            go_ret
            exact ⟨ret_bool HR.out.symm, rfl⟩
          · have HR : Hid (r = (l.drop (j + 1)).all fun c => decide (c.key.size ≤ 100 ∧ c.elem.size ≤ 100)) := aside (by rw [HG2, decide_eq_true (by omega)]; rfl)
            clear HG2
            go_wp2
            go_round
            case rel => exact ⟨j + 1, by omega, by go_num, HR⟩
            case measure => simp [intOf]; omega
      · have HR : Hid (r = true) := aside (by
          have := HG.out
          rwa [List.drop_of_length_le (by omega)] at this)
        clear S HG hf
        go_wp2
        go_ret
        exact ⟨ret_bool HR.out.symm, rfl⟩
end Go.Proofs.Ytnjdkjkihbgkaaa.PairS
namespace Go.Proofs.Ytnjdkjkihbgkaaa.PairG
set_option maxRecDepth 100000
open Go Go.RowKit Byt OpsM OpsK Rise PairM PairN RowS RowB PairW PairR PairS

theorem sameN_no {x y : Pr} (h : x ≠ y) : sameN x y = false := by
  cases e : sameN x y with
  | false => rfl
  | true => exact absurd (sameN_iff.1 e) h

theorem one_is (p : Pr) : oneP p = (keyL (bytesL p.key) && (keyL (bytesL p.elem) && (decide (0 ≤ p.node) && (decide (p.node < 8) && decide (1 ≤ p.seq))))) := rfl
/-- What one place of a list says of the whole. -/
structure Place (l : List Pr) (r : Bool) (j : Nat) (x : Pr) : Prop where
  bad : oneP x = false → r = false
  first : j = 0 → oneP x = true → mayP (l.take (j + 1)) = true
  next : ∀ y, 0 < j → l[j - 1]? = some y → mayP (l.take j) = true → oneP x = true → lessP y x = true → mayP (l.take (j + 1)) = true
  fall : ∀ y, 0 < j → l[j - 1]? = some y → lessP y x = false → r = false
theorem place {l : List Pr} {r : Bool} {j : Nat} {x : Pr} (hr : mayP l = r) (hx : l[j]? = some x) : Place l r j x := by
  obtain ⟨hj, rfl⟩ := List.getElem?_eq_some_iff.1 hx
  subst hr
  refine ⟨fun h => may_bad hj h, fun h0 h => ?_, fun y h0 hy hm ho hl => ?_, fun y h0 hy hl => ?_⟩
  · subst h0
    rw [may_first hj]
    exact h
  · obtain ⟨m, rfl⟩ : ∃ m, j = m + 1 := ⟨j - 1, by omega⟩
    obtain ⟨hm2, rfl⟩ := List.getElem?_eq_some_iff.1 hy
    rw [may_next hj hm, ho]
    simpa using hl
  · obtain ⟨m, rfl⟩ : ∃ m, j = m + 1 := ⟨j - 1, by omega⟩
    obtain ⟨hm2, rfl⟩ := List.getElem?_eq_some_iff.1 hy
    exact may_fall hj hl
end Go.Proofs.Ytnjdkjkihbgkaaa.PairG
namespace Go.Proofs.Ytnjdkjkihbgkaaa.StR
set_option maxRecDepth 100000
open Go Go.RowKit Byt OpsM Rise RowS StM StW



/-- Are two states the same? -/
def sameS (a b : St) : Bool := CtrS.sameB a.c b.c && (RegS.sameB a.r b.r && PairS.sameB a.p b.p)
theorem sameS_iff {a b : St} : sameS a b = true ↔ a = b := by
  unfold sameS
  rw [Bool.and_eq_true, Bool.and_eq_true, CtrS.sameB_iff, RegS.sameB_iff, PairS.sameB_iff]
  exact ⟨fun h => St_ext h.1 h.2.1 h.2.2, fun h => by rw [h]; exact ⟨rfl, rfl, rfl⟩⟩
end Go.Proofs.Ytnjdkjkihbgkaaa.StR
