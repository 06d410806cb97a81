/- What ops.sign and ops.Key return: contracts. | What the document's Key of package ops returns: a contract. | What the document's Get, May, put and Same of package ctr return: contracts. | What the document's Same of package ctr, and the law's Few, return: contracts. | What the document's Newer, one, May, Get of package reg return: contracts. | What the document's Get and May of package reg return: contracts. -/
import Derived.Test.YtnjdkjkihbgkaaaKeyMJ4
import Derived.Test.YtnjdkjkihbgkaaaCelJ3
namespace Go.Proofs.Ytnjdkjkihbgkaaa.OpsK
set_option maxRecDepth 100000
open Go.RowKit Byt OpsM

theorem ret_bool {a b : Bool} (h : a = b) : Ending.returned (.bool a) = .returned (.bool b) := by rw [h]
theorem parts {x : Int} (_h : B x) : (x ≤ 47 ∧ signB x = false) ∨ (48 ≤ x ∧ x ≤ 57 ∧ signB x = true) ∨ (58 ≤ x ∧ x ≤ 96 ∧ signB x = false) ∨ (97 ≤ x ∧ x ≤ 122 ∧ signB x = true) ∨ (123 ≤ x ∧ signB x = false) := by
  have hb : signB x = true ↔ (97 ≤ x ∧ x ≤ 122) ∨ (48 ≤ x ∧ x ≤ 57) := by
    unfold signB
    simp only [Bool.or_eq_true, Bool.and_eq_true, decide_eq_true_eq]
  have hf : signB x = false ↔ ¬ ((97 ≤ x ∧ x ≤ 122) ∨ (48 ≤ x ∧ x ≤ 57)) := by
    rw [← hb]
    simp
  rw [hb, hf]
  omega
theorem sign (x : Int) (hx : B x) (w : World) :
    Calls Try.prog 60 #[.int .u8 x] w fun e w' => e = .returned (.bool (signB x)) ∧ w = w' := by
  have hB := hx
  unfold B at hB
  obtain ⟨b0, b1⟩ := hB
  rcases parts hx with ⟨h1, hs⟩ | ⟨h1, h2, hs⟩ | ⟨h1, h2, hs⟩ | ⟨h1, h2, hs⟩ | ⟨h1, hs⟩
  all_goals
    have HS := aside hs
    clear hs
    go_enter Try.func60, Try.ntmps60
    go_wp2
    go_ret
    refine ⟨ret_bool ?_, rfl⟩
    rw [HS.out]
    try (simp; try omega)

theorem all_take (l : List Int) (k : Nat) (h : k < l.length) : (l.take (k + 1)).all signB = ((l.take k).all signB && signB (l.getD k 0)) := by
  rw [List.take_add_one, List.all_append, List.getElem?_eq_getElem h, List.getD_eq_getElem?_getD, List.getElem?_eq_getElem h]
  simp
theorem keyL_all {l : List Int} (h : 1 ≤ l.length ∧ l.length ≤ 8) (ha : l.all signB = true) : keyL l = true := by
  unfold keyL
  simp [h.1, h.2, ha]
theorem all_false {l : List Int} {k : Nat} (h : k < l.length) (hs : signB (l.getD k 0) = false) : l.all signB = false := by
  rw [List.all_eq_false]
  refine ⟨l[k], List.getElem_mem h, ?_⟩
  rw [List.getD_eq_getElem?_getD, List.getElem?_eq_getElem h] at hs
  simpa using hs
theorem keyL_no {l : List Int} {k : Nat} (h : k < l.length) (hs : signB (l.getD k 0) = false) : keyL l = false := by
  unfold keyL
  rw [all_false h hs]
  simp
theorem keyL_out {l : List Int} (h : ¬ (1 ≤ l.length ∧ l.length ≤ 8)) : keyL l = false := by
  unfold keyL
  rw [Bool.and_eq_false_iff]
  left
  rw [Bool.and_eq_false_iff, decide_eq_false_iff_not, decide_eq_false_iff_not]
  omega
theorem byte_at (s : ByteArray) (k : Nat) (h : k < s.size) : (bytesL s).getD k 0 = (s[k].toNat : Int) := by
  unfold bytesL
  have h1 : k < s.data.toList.length := by simpa using h
  rw [List.getD_eq_getElem?_getD, List.getElem?_map, List.getElem?_eq_getElem h1]
  rfl

set_option maxHeartbeats 1000000 in
theorem key (s : ByteArray) (hs : s.size ≤ maxLen) (w : World) :
    Calls Try.prog 33 #[.string s] w fun e w' => e = .returned (.bool (keyL (bytesL s))) ∧ w = w' := by
  unfold maxLen at hs
  have hl := bytesL_length s
  by_cases h1 : s.size < 1
  · have HR := aside (keyL_out (l := bytesL s) (by omega))
    clear hl
    go_enter Try.func33, Try.ntmps33
    go_wp2
    go_ret
    exact ⟨ret_bool HR.out.symm, rfl⟩
  · by_cases h8 : 8 < s.size
    · have HR := aside (keyL_out (l := bytesL s) (by omega))
      clear hl
      go_enter Try.func33, Try.ntmps33
      go_wp2
      go_ret
      exact ⟨ret_bool HR.out.symm, rfl⟩
    · have HL := aside hl
      clear hl
      go_enter Try.func33, Try.ntmps33
      go_wp2
      go_loop [14] (fun i => ∃ k : Nat, k ≤ s.size ∧ i = .int .i64 k ∧ Hid (((bytesL s).take k).all signB = true)) (fun i => s.size - (intOf i).toNat)
      case atStart => exact ⟨0, Nat.zero_le _, rfl, aside (by simp)⟩
      case round =>
        obtain ⟨k, hk, rfl, HA⟩ := hrel
        by_cases hlt : k < s.size
        · have hb := byte_at s k hlt
          have hB : B (s[k].toNat : Int) := by have := s[k].toNat_lt; unfold B; omega
          have hsg := sign (s[k].toNat : Int) hB
          cases hs : signB (s[k].toNat : Int) with
          | true =>
            rw [hs] at hsg
            have HS : Hid (signB ((bytesL s).getD k 0) = true) := aside (by rw [hb, hs])
            clear hb hs hB
            go_wp2_with (first | (refine (hsg _).mono ?_; rintro e w' ⟨rfl, rfl⟩))
            go_round
            case rel => exact ⟨k + 1, by omega, by go_num, aside (by rw [all_take _ _ (by rw [HL.out]; exact hlt), HA.out, HS.out]; rfl)⟩
            case measure => simp [intOf]; omega
          | false =>
            rw [hs] at hsg
            have HS : Hid (signB ((bytesL s).getD k 0) = false) := aside (by rw [hb, hs])
            clear hb hs hB
            go_wp2_with (first | (refine (hsg _).mono ?_; rintro e w' ⟨rfl, rfl⟩))
            go_ret
            exact ⟨ret_bool (keyL_no (by rw [HL.out]; exact hlt) HS.out).symm, rfl⟩
        · go_wp2
          go_ret
          refine ⟨ret_bool (keyL_all (by rw [HL.out]; omega) ?_).symm, rfl⟩
          have := HA.out
          rwa [List.take_of_length_le (by rw [HL.out]; omega)] at this
end Go.Proofs.Ytnjdkjkihbgkaaa.OpsK
namespace Go.Proofs.Ytnjdkjkihbgkaaa.OpsR
set_option maxRecDepth 100000
open Go Go.RowKit Byt OpsM OpsK

end Go.Proofs.Ytnjdkjkihbgkaaa.OpsR
namespace Go.Proofs.Ytnjdkjkihbgkaaa.CtrR
set_option maxRecDepth 100000
open Go Go.RowKit Byt OpsM OpsK Rise CtrM RowS CtrW

theorem ret_int {k : IntKind} {a b : Int} (h : a = b) : Ending.returned (.int k a) = .returned (.int k b) := by rw [h]

end Go.Proofs.Ytnjdkjkihbgkaaa.CtrR
namespace Go.Proofs.Ytnjdkjkihbgkaaa.CtrS
set_option maxRecDepth 100000
open Go Go.RowKit Byt OpsM OpsK Rise CtrM RowS CtrW CtrR

/-- Are two counts, or two lists of counts, the same? -/
def sameN (x y : Cn) : Bool := decide (x.key.toList = y.key.toList) && decide (x.n = y.n)
theorem sameN_iff {x y : Cn} : sameN x y = true ↔ x = y := by
  unfold sameN
  simp only [Bool.and_eq_true, decide_eq_true_eq]
  constructor
  · rintro ⟨h1, h2⟩
    cases x; cases y
    simp only at h1 h2
    rw [Rise.toList_inj h1, h2]
  · rintro rfl; exact ⟨rfl, rfl⟩
def sameB : List Cn → List Cn → Bool
  | [], [] => true
  | x :: a, y :: b => sameN x y && sameB a b
  | [], _ :: _ => false
  | _ :: _, [] => false
theorem sameB_iff : ∀ {a b : List Cn}, sameB a b = true ↔ a = b
  | [], [] => by simp [sameB]
  | x :: a, y :: b => by simp [sameB, sameN_iff, sameB_iff (a := a) (b := b)]
  | [], _ :: _ => by simp [sameB]
  | _ :: _, [] => by simp [sameB]
theorem sameB_self (a : List Cn) : sameB a a = true := sameB_iff.2 rfl
theorem sameB_len {a b : List Cn} (h : a.length ≠ b.length) : sameB a b = false := by
  cases hs : sameB a b with
  | false => rfl
  | true => exact absurd (congrArg List.length (sameB_iff.1 hs)) h
theorem equal (w : World) (x y : Cn) : (Op.equalIn 10000 53 (.agg #[.string x.key, .int .i64 x.n]) (.agg #[.string y.key, .int .i64 y.n])).run Try.prog w = .ok (sameN x y) w := by
  have hS : Try.prog.underlying 53 = some (.struct (Try.prog.fieldsOf 53)) := by kernel_rfl
  rw [show (10000 : Nat) = 9999 + 1 from rfl, run_equalIn_agg w 9999 53 _ _ hS (by kernel_rfl)]
  simp only [Program.fieldsOf, Try.underlying53]
  go_simp
  unfold sameN
  split
  · split <;> simp_all
  · simp_all


/-- At most thirty counts, of keys of at most 100 bytes. -/
def fewB (l : List Cn) : Bool := decide (l.length ≤ 30) && l.all fun c => decide (c.key.size ≤ 100)
set_option maxHeartbeats 4000000 in
theorem few_ret (A : Option Addr) (cap : Nat) (l : List Cn) (w : World) (S : SlR E w A cap l) (hf : ∀ c ∈ l, c.key.size ≤ maxLen) :
    Calls Try.prog 13 #[.slice A l.length cap] w fun e w' => e = .returned (.bool (fewB l)) ∧ w = w' := by
  have hcap := S.1
  have hmax : l.length ≤ 9223372036854775807 := by have := S.2.1; unfold maxLen at this; omega
  obtain ⟨r, hr0⟩ : ∃ r, fewB l = r := ⟨_, rfl⟩
  rw [hr0]
  have HR0 := aside hr0
  clear hr0
  by_cases h30 : 30 < l.length
  · have HR : Hid (r = false) := aside (HR0.out.symm.trans (by unfold fewB; rw [show decide (l.length ≤ 30) = false from decide_eq_false (by omega)]; rfl))
    go_enter Try.func13, Try.ntmps13
    go_wp2
    go_ret
    exact ⟨ret_bool HR.out.symm, rfl⟩
  · have HR1 : Hid (r = l.all fun c => decide (c.key.size ≤ 100)) := aside (HR0.out.symm.trans (by unfold fewB; rw [show decide (l.length ≤ 30) = true from decide_eq_true (by omega)]; rfl))
    go_enter Try.func13, Try.ntmps13
    go_wp2
    go_loop [3] (fun i => ∃ j : Nat, j ≤ l.length ∧ i = .int .i64 j ∧ Hid (r = (l.drop j).all fun c => decide (c.key.size ≤ 100))) (fun i => l.length - (intOf i).toNat)
    case atStart => exact ⟨0, Nat.zero_le _, rfl, HR1⟩
    case round =>
      obtain ⟨j, hj, rfl, HG⟩ := hrel
      by_cases hlt : j < l.length
      · obtain ⟨b, off, rfl, hbw, hr⟩ := CtrW.plain S (by omega)
        obtain ⟨x, hx⟩ : ∃ x, l[j]? = some x := ⟨_, List.getElem?_eq_getElem hlt⟩
        obtain ⟨c0, c1⟩ := cells (hr j x hx)
        have hxs := hf x (List.mem_of_getElem? hx)
        unfold maxLen at hxs
        have p0 : (j : Int) < l.length := by omega
        have m0 : ((j : Int)).toNat = j := by omega
        have HG2 := HG.out
        rw [getD_drop hx, List.all_cons] at HG2
        clear hr S hx HG hf
        by_cases hk : 100 < x.key.size
        · have HR : Hid (r = false) := aside (by rw [HG2, decide_eq_false (by omega)]; rfl)
          clear HG2
          go_wp2
          go_ret
          exact ⟨ret_bool HR.out.symm, rfl⟩
        · have HR : Hid (r = (l.drop (j + 1)).all fun c => decide (c.key.size ≤ 100)) := aside (by rw [HG2, decide_eq_true (by omega)]; rfl)
          clear HG2
          go_wp2
          go_round
          case rel => exact ⟨j + 1, by omega, by go_num, HR⟩
          case measure => simp [intOf]; omega
      · have HR : Hid (r = true) := aside (by
          have := HG.out
          rwa [List.drop_of_length_le (by omega)] at this)
        clear S HG hf
        go_wp2
        go_ret
        exact ⟨ret_bool HR.out.symm, rfl⟩
end Go.Proofs.Ytnjdkjkihbgkaaa.CtrS
namespace Go.Proofs.Ytnjdkjkihbgkaaa.RegR
set_option maxRecDepth 100000
open Go Go.RowKit Byt OpsM OpsK Rise RegM RegL RowS RegW


end Go.Proofs.Ytnjdkjkihbgkaaa.RegR
namespace Go.Proofs.Ytnjdkjkihbgkaaa.RegG
set_option maxRecDepth 100000
open Go Go.RowKit Byt OpsM OpsK Rise RegM RegL RowS RegW RegR

/-- What a key has, as two values. -/
def gv : Option Rg → Value
  | none => .tuple #[.agg (rc noR), .bool false]
  | some x => .tuple #[.agg (rc x), .bool true]
theorem ret_val {a b : Value} (h : a = b) : Ending.returned a = .returned b := by rw [h]

end Go.Proofs.Ytnjdkjkihbgkaaa.RegG
