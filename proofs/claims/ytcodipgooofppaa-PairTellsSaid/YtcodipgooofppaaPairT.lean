/- What note and stays of the project's package pair return: contracts. -/
import Derived.Test.YtcodipgooofppaaPairK
import Derived.Test.YtcodipgooofppaaPairB
import Derived.Test.YtcodipgooofppaaForks
namespace Go.Proofs.Ytcodipgooofppaa.PairT
open Go Go.RowKit Byt Rise PairM PairN RowS RowB PairW PairS PairK

/-- Which numbers stay. -/
def stB (n : Int) : Bool := decide (n = 2) || (decide (n = 4) || (decide (n = 6) || decide (n = 7)))
theorem or_fresh {a t : Int} (ht : t = 1 ∨ t = 2 ∨ t = 4) (h0 : 0 ≤ a) (h : a < t) : bits .or .i64 a t = a + t := by
  have : (t = 1 ∧ a = 0) ∨ (t = 2 ∧ (a = 0 ∨ a = 1)) ∨ (t = 4 ∧ (a = 0 ∨ a = 1 ∨ a = 2 ∨ a = 3)) := by omega
  rcases this with ⟨rfl, rfl⟩ | ⟨rfl, rfl | rfl⟩ | ⟨rfl, rfl | rfl | rfl | rfl⟩ <;> decide
theorem or_again {a t : Int} (ht : t = 1 ∨ t = 2 ∨ t = 4) (h0 : 0 ≤ a) (h : a < t) : bits .or .i64 (a + t) t = a + t := by
  have : (t = 1 ∧ a = 0) ∨ (t = 2 ∧ (a = 0 ∨ a = 1)) ∨ (t = 4 ∧ (a = 0 ∨ a = 1 ∨ a = 2 ∨ a = 3)) := by omega
  rcases this with ⟨rfl, rfl⟩ | ⟨rfl, rfl | rfl⟩ | ⟨rfl, rfl | rfl | rfl | rfl⟩ <;> decide
/-- The numbers of pairs, one bit more for those of a list. -/
def noted (t : Int) (f : Pr → Int) (l : List Pr) : Pr → Int := fun x => if x ∈ l then f x + t else f x
theorem noted_nil (t : Int) (f : Pr → Int) : noted t f [] = f := by
  funext x
  simp [noted]
theorem noted_or {t : Int} {f : Pr → Int} (ht : t = 1 ∨ t = 2 ∨ t = 4) (hf : ∀ x, 0 ≤ f x ∧ f x < t) (l : List Pr) (x : Pr) : bits .or .i64 (noted t f l x) t = f x + t := by
  unfold noted
  split
  · exact or_again ht (hf x).1 (hf x).2
  · exact or_fresh ht (hf x).1 (hf x).2
theorem noted_next {t : Int} {f : Pr → Int} {l : List Pr} {k : Nat} {x : Pr} (h : l[k]? = some x) (z : Pr) : upd (noted t f (l.take k)) x (f x + t) z = noted t f (l.take (k + 1)) z := by
  obtain ⟨hk, rfl⟩ := List.getElem?_eq_some_iff.1 h
  unfold upd noted
  rw [List.take_succ_eq_append_getElem hk]
  simp only [List.mem_append, List.mem_singleton]
  by_cases hz : z = l[k]
  · subst hz
    simp
  · simp [hz]
theorem keys_next {l : List Pr} {k : Nat} {x : Pr} (h : l[k]? = some x) (K : List Pr) (z : Pr) : z ∈ x :: (K ++ l.take k) ↔ z ∈ K ++ l.take (k + 1) := by
  obtain ⟨hk, rfl⟩ := List.getElem?_eq_some_iff.1 h
  rw [List.take_succ_eq_append_getElem hk]
  simp only [List.mem_cons, List.mem_append, List.not_mem_nil, or_false]
  constructor
  · rintro (h | h | h)
    · exact .inr (.inr h)
    · exact .inl h
    · exact .inr (.inl h)
  · rintro (h | h | h)
    · exact .inr (.inl h)
    · exact .inr (.inr h)
    · exact .inl h

set_option maxHeartbeats 4000000 in
theorem stays_ret (n : Int) (h0 : 0 ≤ n) (h8 : n < 8) (w : World) : Calls Try.prog 33 #[.int .i64 n] w fun e w' => e = .returned (.bool (stB n)) ∧ w = w' := by
  have : n = 0 ∨ n = 1 ∨ n = 2 ∨ n = 3 ∨ n = 4 ∨ n = 5 ∨ n = 6 ∨ n = 7 := by omega
  rcases this with rfl | rfl | rfl | rfl | rfl | rfl | rfl | rfl <;>
  · go_enter Try.func33, Try.ntmps33
    go_wp2
    go_ret
    exact ⟨rfl, rfl⟩
def treeN : Forks.Tree := .free 0 (.free 3 (.act 1 (.two 2 (.free 4 (.act 5 (.free 6 (.act 7 .ends)))) 5 (.free 6 (.act 2 (.free 4 (.act 7 .ends)))))))
set_option maxRecDepth 100000 in
set_option maxHeartbeats 8000000 in
theorem note_ret (b n : Nat) (K : List Pr) (f : Pr → Int) (A : Option Addr) (cap : Nat) (l : List Pr) (t : Int) (w : World) (h : NumIn w b n K f) (S : SlR E w A cap l) (hf : Fits l) (ht : t = 1 ∨ t = 2 ∨ t = 4) (hv : ∀ x, 0 ≤ f x ∧ f x < t) (hn : n ≤ 1000000) (hl : l.length ≤ 1000000) :
    Calls Try.prog 28 #[.map (some b), .slice A l.length cap, .int .i64 t] w fun e w' => e = .returned (.tuple #[]) ∧ NumIn w' b (n + l.length) (K ++ l) (noted t f l) ∧ w.grownBy w' (some b) := by
  have hcap := S.1
  have HT := aside ht
  have HV := aside hv
  clear ht hv
  go_enter Try.func28, Try.ntmps28
  go_wp2_with fail
  go_loopw [10] (fun i wr => ∃ k : Nat, k ≤ l.length ∧ i = .int .i64 k ∧ NumIn wr b (n + k) (K ++ l.take k) (noted t f (l.take k)) ∧ w.grownBy wr (some b)) (fun i _ => l.length - (intOf i).toNat)
  case atStart => exact ⟨0, Nat.zero_le _, rfl, by simpa [noted_nil] using h, grown_of_below (Below.refl _ _) _⟩
  case round =>
    obtain ⟨k, hk, rfl, hset, kg⟩ := hrel
    by_cases hlt : k < l.length
    · obtain ⟨g, off, rfl, hbw, hr⟩ := PairW.plain S (by omega)
      obtain ⟨x, hx⟩ : ∃ x, l[k]? = some x := ⟨_, List.getElem?_eq_getElem hlt⟩
      have hgd := good_of (hf x (List.mem_of_getElem? hx))
      have hne : g ≠ b := by
        obtain ⟨D, ⟨es, clock, hm, _⟩, _⟩ := h
        exact map_not_cells hm (hr k x hx)
      have hr1 := range_kept (hr k x hx) kg hbw hne
      have HK := aside (keys_next hx K)
      have HM := aside (fun z => noted_next (t := t) (f := f) hx z)
      obtain ⟨m, hm0⟩ : ∃ m, noted t f (l.take k) = m := ⟨_, rfl⟩
      have HO : Hid (bits .or .i64 (m x) t = f x + t) := aside (by rw [← hm0]; exact noted_or HT.out HV.out _ x)
      rw [hm0] at hset HM
      have HR : Hid (PairW.In64 (f x + t)) := aside (by have := HV.out x; have := HT.out; unfold PairW.In64; omega)
      have p0 : (k : Int) < l.length := by omega
      have m0 : ((k : Int)).toNat = k := by omega
      clear hr S hx hf hm0 h
      go_wp2_with (first
        | (refine wpList_load_at E rfl _ rfl g _ rfl x hr1 ?_)
        | (refine wpList_store_new E rfl _ _ rfl _ _ _ rfl x _ rfl rfl rfl rfl ?_; intro w2 bx kx gx sx))
      have hs2 := hset.kept gx (by simp)
      have kg2 := kg.trans (gx.but _)
      clear hset kg kx gx
      refine Forks.region treeN (by kernel_rfl) (by kernel_rfl) rfl (by kernel_rfl) (by intro c a d v w h; cases d <;> exact h) ?_
      unfold treeN
      rename World => V
      have bz : Box E V.drew _ x := bx
      have sz : NumIn V.drew b _ _ m := hs2
      have kz : w.grownBy V.drew (some b) := kg2.trans (grown_of_below (below_drew1 (Below.refl V.heap.size V)) _)
      generalize V.drew = wz at bz sz kz ⊢
      clear bx hs2 kg2
      simp only [Act.put]
      repeat (refine Forks.reads rfl rfl ?_; go_big_quiet_step (fail); refine wpQuiet_nil ?_)
      refine Forks.acts rfl ?_
      go_wp2_with (first | (refine wpList_load_box E rfl _ rfl _ rfl x bz ?_))
      refine Forks.on ?_
      refine Forks.forks rfl rfl ?_ ?_
      · go_wp2_with (first | (refine wpList_find _ rfl _ _ rfl b _ _ m rfl sz x hgd rfl ?_))
        refine Forks.on ?_
        (try simp only [Act.put, List.setIfInBounds_toArray, List.set_cons_succ, List.set_cons_zero])
        repeat (refine Forks.reads rfl rfl ?_; go_big_quiet_step (fail); refine wpQuiet_nil ?_)
        refine Forks.acts rfl ?_
        go_wp2_with (first | (refine wpList_entry _ rfl _ _ rfl b _ _ m rfl sz (by omega) x hgd rfl ?_; intro v0 st w5 g5 hl5 hst))
        refine Forks.on ?_
        (try simp only [Act.put, List.setIfInBounds_toArray, List.set_cons_succ, List.set_cons_zero])
        repeat (refine Forks.reads rfl rfl ?_; go_big_quiet_step (fail); refine wpQuiet_nil ?_)
        have HO2 := HO.out
        simp only [HO2]
        clear HO2
        refine Forks.acts rfl ?_
        have hs6 := hst w5 (f x + t) HR.out rfl
        go_wp2_with (first | (refine wpList_stored _ rfl _ _ _ rfl b rfl st rfl (f x + t) rfl hs6 ?_; rintro w6 ⟨n6, g6⟩))
        refine Forks.on ?_
        refine Forks.ends ?_
        go_wp2_with fail
        go_roundw
        case rel => exact ⟨k + 1, by omega, by go_num, (n6.congr HK.out HM.out).up (by omega), (kz.trans g5).trans g6⟩
        case measure => simp [intOf]; omega
      · go_wp2_with (first | (refine wpList_entry _ rfl _ _ rfl b _ _ m rfl sz (by omega) x hgd rfl ?_; intro v0 st w5 g5 hl5 hst))
        refine Forks.on ?_
        (try simp only [Act.put, List.setIfInBounds_toArray, List.set_cons_succ, List.set_cons_zero])
        repeat (refine Forks.reads rfl rfl ?_; go_big_quiet_step (fail); refine wpQuiet_nil ?_)
        refine Forks.acts rfl ?_
        obtain ⟨K5, n5⟩ := hl5
        go_wp2_with (first | (refine wpList_find _ rfl _ _ rfl b _ _ m rfl n5 x hgd rfl ?_))
        refine Forks.on ?_
        (try simp only [Act.put, List.setIfInBounds_toArray, List.set_cons_succ, List.set_cons_zero])
        repeat (refine Forks.reads rfl rfl ?_; go_big_quiet_step (fail); refine wpQuiet_nil ?_)
        have HO2 := HO.out
        simp only [HO2]
        clear HO2
        refine Forks.acts rfl ?_
        have hs6 := hst w5 (f x + t) HR.out rfl
        go_wp2_with (first | (refine wpList_stored _ rfl _ _ _ rfl b rfl st rfl (f x + t) rfl hs6 ?_; rintro w6 ⟨n6, g6⟩))
        refine Forks.on ?_
        refine Forks.ends ?_
        go_wp2_with fail
        go_roundw
        case rel => exact ⟨k + 1, by omega, by go_num, (n6.congr HK.out HM.out).up (by omega), (kz.trans g5).trans g6⟩
        case measure => simp [intOf]; omega
    · have e : k = l.length := by omega
      subst e
      rw [List.take_length] at hset
      go_wp2_with fail
      go_end0
      exact ⟨rfl, hset, kg⟩
end Go.Proofs.Ytcodipgooofppaa.PairT
