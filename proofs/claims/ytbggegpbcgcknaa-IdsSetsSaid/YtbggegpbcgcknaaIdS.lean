/- What set returns: a contract. -/
import Derived.Test.YtbggegpbcgcknaaIdK
import Derived.Test.YtbggegpbcgcknaaIdR
namespace Go.Proofs.Ytbggegpbcgcknaa.IdS
open Go Go.RowKit IdM Byt IdW IdK

theorem make_set (w : World) (n : Int) : (Instr.makeMap 41 (some (.int .i64 n))).run Try.prog w = .ok (.map (some w.heap.size)) (w.alloc (.map #[] 0)) := by
  simp [Instr.makeMap, run_underlying Try.underlying41, asInt, go_sem]

theorem mem_take_succ {l : List Idn} {k : Nat} (h : k < l.length) (z : Idn) : z ∈ l.getD k nought :: l.take k ↔ z ∈ l.take (k + 1) := by
  rw [List.take_add_one, List.mem_append, List.mem_cons, List.getD_eq_getElem?_getD, List.getElem?_eq_getElem h]
  simp [or_comm]

set_option maxHeartbeats 1000000 in
theorem set_ret (A : Option Addr) (cap : Nat) (l : List Idn) (w : World) (S : SlI w A cap l) (hl : l.length ≤ 1000) :
    Calls Try.prog 30 #[.slice A l.length cap] w fun e w' => ∃ b, e = .returned (.map (some b)) ∧ w.heap.size ≤ b ∧ SetIn w' b l.length l ∧ Below w.heap.size w w' := by
  have hmm := make_set
  go_enter Try.func30, Try.ntmps30
  go_wp2_with fail
  go_loopw [11] (fun i wr => ∃ k : Nat, k ≤ l.length ∧ i = .int .i64 k ∧ SetIn wr w.heap.size k (l.take k) ∧ Below w.heap.size w wr) (fun i _ => l.length - (intOf i).toNat)
  case atStart => exact ⟨0, Nat.zero_le _, rfl, by simpa using SetIn.made w, (Below.refl _ _).alloc (Nat.le_refl _) _⟩
  case round =>
    obtain ⟨k, hk, rfl, hset, kb⟩ := hrel
    by_cases hlt : k < l.length
    · obtain ⟨b, off, rfl, hbw, hr⟩ := S.plain (by omega)
      have hr1 := range_below (hr k hlt) kb
      obtain ⟨x, hx⟩ : ∃ x, l.getD k nought = x := ⟨_, rfl⟩
      rw [hx] at hr1
      have HX := aside hx
      have p0 : (k : Int) < l.length := by omega
      have m0 : ((k : Int)).toNat = k := by omega
      clear hr S hx
      go_wp2_with (first | (refine wpList_load_id rfl _ rfl _ _ rfl x hr1 ?_) | (refine wpList_store_new rfl _ _ rfl _ _ x _ rfl _ rfl (by simp) rfl rfl ?_) | (refine wpList_load_box rfl _ rfl _ rfl x (Box.new wr x _) ?_) | (refine wpList_put _ rfl _ _ _ rfl w.heap.size k _ rfl (hset.alloc _) (by omega) x rfl rfl ?_; intro w1 hs1 hg1))
      go_roundw
      case rel =>
        refine ⟨k + 1, by omega, by go_num, hs1.congr (fun z => ?_), ?_⟩
        · rw [← HX.out]
          exact mem_take_succ hlt z
        · exact below_grown (kb.alloc kb.size _) (by have := kb.size; simp; omega) hg1 (fun j hj => by cases hj; exact Nat.le_refl _)
      case measure => simp [intOf]; omega
    · have e : k = l.length := by omega
      subst e
      rw [List.take_length] at hset
      go_wp2
      go_ret
      exact ⟨_, rfl, Nat.le_refl _, hset, kb⟩
end Go.Proofs.Ytbggegpbcgcknaa.IdS
