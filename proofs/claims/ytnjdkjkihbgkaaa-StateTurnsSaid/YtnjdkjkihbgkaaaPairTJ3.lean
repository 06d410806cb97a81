/- What note and stays of the project's package pair return: contracts. | A row of structs sorted: what the library's words on its cells come to, whatever the fields. No condition. | A contract of the library's, laid at this program. -/
import Derived.Test.YtnjdkjkihbgkaaaPairK
import Derived.Test.YtnjdkjkihbgkaaaGrewMJ4
import Derived.Test.YtnjdkjkihbgkaaaRegEJ2
import Derived.Test.YtnjdkjkihbgkaaaRowBJ2
import Derived.Shelf.GgSortFunc.InsertionK
import Derived.Shelf.SlLaysF0
import Derived.Test.YtnjdkjkihbgkaaaProg
namespace Go.Proofs.Ytnjdkjkihbgkaaa.PairT
set_option maxRecDepth 100000
open Go Go.RowKit Byt Rise PairM PairN RowS RowB PairW PairS PairK

/-- Which numbers stay. -/
def stB (n : Int) : Bool := decide (n = 2) || (decide (n = 4) || (decide (n = 6) || decide (n = 7)))
theorem or_fresh {a t : Int} (ht : t = 1 ∨ t = 2 ∨ t = 4) (h0 : 0 ≤ a) (h : a < t) : bits .or .i64 a t = a + t := by
  have : (t = 1 ∧ a = 0) ∨ (t = 2 ∧ (a = 0 ∨ a = 1)) ∨ (t = 4 ∧ (a = 0 ∨ a = 1 ∨ a = 2 ∨ a = 3)) := by omega
  rcases this with ⟨rfl, rfl⟩ | ⟨rfl, rfl | rfl⟩ | ⟨rfl, rfl | rfl | rfl | rfl⟩ <;> decide
theorem or_again {a t : Int} (ht : t = 1 ∨ t = 2 ∨ t = 4) (h0 : 0 ≤ a) (h : a < t) : bits .or .i64 (a + t) t = a + t := by
  have : (t = 1 ∧ a = 0) ∨ (t = 2 ∧ (a = 0 ∨ a = 1)) ∨ (t = 4 ∧ (a = 0 ∨ a = 1 ∨ a = 2 ∨ a = 3)) := by omega
  rcases this with ⟨rfl, rfl⟩ | ⟨rfl, rfl | rfl⟩ | ⟨rfl, rfl | rfl | rfl | rfl⟩ <;> decide
/-- The numbers of pairs, one bit more for those of a list. -/
def noted (t : Int) (f : Pr → Int) (l : List Pr) : Pr → Int := fun x => if x ∈ l then f x + t else f x
theorem noted_nil (t : Int) (f : Pr → Int) : noted t f [] = f := by
  funext x
  simp [noted]
theorem noted_or {t : Int} {f : Pr → Int} (ht : t = 1 ∨ t = 2 ∨ t = 4) (hf : ∀ x, 0 ≤ f x ∧ f x < t) (l : List Pr) (x : Pr) : bits .or .i64 (noted t f l x) t = f x + t := by
  unfold noted
  split
  · exact or_again ht (hf x).1 (hf x).2
  · exact or_fresh ht (hf x).1 (hf x).2
theorem noted_next {t : Int} {f : Pr → Int} {l : List Pr} {k : Nat} {x : Pr} (h : l[k]? = some x) (z : Pr) : upd (noted t f (l.take k)) x (f x + t) z = noted t f (l.take (k + 1)) z := by
  obtain ⟨hk, rfl⟩ := List.getElem?_eq_some_iff.1 h
  unfold upd noted
  rw [List.take_succ_eq_append_getElem hk]
  simp only [List.mem_append, List.mem_singleton]
  by_cases hz : z = l[k]
  · subst hz
    simp
  · simp [hz]
theorem keys_next {l : List Pr} {k : Nat} {x : Pr} (h : l[k]? = some x) (K : List Pr) (z : Pr) : z ∈ x :: (K ++ l.take k) ↔ z ∈ K ++ l.take (k + 1) := by
  obtain ⟨hk, rfl⟩ := List.getElem?_eq_some_iff.1 h
  rw [List.take_succ_eq_append_getElem hk]
  simp only [List.mem_cons, List.mem_append, List.not_mem_nil, or_false]
  constructor
  · rintro (h | h | h)
    · exact .inr (.inr h)
    · exact .inl h
    · exact .inr (.inl h)
  · rintro (h | h | h)
    · exact .inr (.inl h)
    · exact .inr (.inr h)
    · exact .inl h

set_option maxHeartbeats 4000000 in
theorem stays_ret (n : Int) (h0 : 0 ≤ n) (h8 : n < 8) (w : World) : Calls Try.prog 65 #[.int .i64 n] w fun e w' => e = .returned (.bool (stB n)) ∧ w = w' := by
  have : n = 0 ∨ n = 1 ∨ n = 2 ∨ n = 3 ∨ n = 4 ∨ n = 5 ∨ n = 6 ∨ n = 7 := by omega
  rcases this with rfl | rfl | rfl | rfl | rfl | rfl | rfl | rfl <;>
  · go_enter Try.func65, Try.ntmps65
    go_wp2
    go_ret
    exact ⟨rfl, rfl⟩
def treeN : Forks.Tree := .free 0 (.free 3 (.act 1 (.two 2 (.free 4 (.act 5 (.free 6 (.act 7 .ends)))) 5 (.free 6 (.act 2 (.free 4 (.act 7 .ends)))))))
set_option maxRecDepth 100000 in
set_option maxHeartbeats 8000000 in
theorem note_ret (b n : Nat) (K : List Pr) (f : Pr → Int) (A : Option Addr) (cap : Nat) (l : List Pr) (t : Int) (w : World) (h : NumIn w b n K f) (S : SlR E w A cap l) (hf : Fits l) (ht : t = 1 ∨ t = 2 ∨ t = 4) (hv : ∀ x, 0 ≤ f x ∧ f x < t) (hn : n ≤ 1000000) (hl : l.length ≤ 1000000) :
    Calls Try.prog 42 #[.map (some b), .slice A l.length cap, .int .i64 t] w fun e w' => e = .returned (.tuple #[]) ∧ NumIn w' b (n + l.length) (K ++ l) (noted t f l) ∧ w.grownBy w' (some b) := by
  have hcap := S.1
  have HT := aside ht
  have HV := aside hv
  clear ht hv
  go_enter Try.func42, Try.ntmps42
  go_wp2_with fail
  go_loopw [10] (fun i wr => ∃ k : Nat, k ≤ l.length ∧ i = .int .i64 k ∧ NumIn wr b (n + k) (K ++ l.take k) (noted t f (l.take k)) ∧ w.grownBy wr (some b)) (fun i _ => l.length - (intOf i).toNat)
  case atStart => exact ⟨0, Nat.zero_le _, rfl, by simpa [noted_nil] using h, grown_of_below (Below.refl _ _) _⟩
  case round =>
    obtain ⟨k, hk, rfl, hset, kg⟩ := hrel
    by_cases hlt : k < l.length
    · obtain ⟨g, off, rfl, hbw, hr⟩ := PairW.plain S (by omega)
      obtain ⟨x, hx⟩ : ∃ x, l[k]? = some x := ⟨_, List.getElem?_eq_getElem hlt⟩
      have hgd := good_of (hf x (List.mem_of_getElem? hx))
      have hne : g ≠ b := by
        obtain ⟨D, ⟨es, clock, hm, _⟩, _⟩ := h
        exact map_not_cells hm (hr k x hx)
      have hr1 := range_kept (hr k x hx) kg hbw hne
      have HK := aside (keys_next hx K)
      have HM := aside (fun z => noted_next (t := t) (f := f) hx z)
      obtain ⟨m, hm0⟩ : ∃ m, noted t f (l.take k) = m := ⟨_, rfl⟩
      have HO : Hid (bits .or .i64 (m x) t = f x + t) := aside (by rw [← hm0]; exact noted_or HT.out HV.out _ x)
      rw [hm0] at hset HM
      have HR : Hid (PairW.In64 (f x + t)) := aside (by have := HV.out x; have := HT.out; unfold PairW.In64; omega)
      have p0 : (k : Int) < l.length := by omega
      have m0 : ((k : Int)).toNat = k := by omega
      clear hr S hx hf hm0 h
      go_wp2_with (first
        | (refine wpList_load_at E rfl _ rfl g _ rfl x hr1 ?_)
        | (refine wpList_store_new E rfl _ _ rfl _ _ _ rfl x _ rfl rfl rfl rfl ?_; intro w2 bx kx gx sx))
      have hs2 := hset.kept gx (by simp)
      have kg2 := kg.trans (gx.but _)
      clear hset kg kx gx
      refine Forks.region treeN (by kernel_rfl) (by kernel_rfl) rfl (by kernel_rfl) (by intro c a d v w h; cases d <;> exact h) ?_
      unfold treeN
      rename World => V
      have bz : Box E V.drew _ x := bx
      have sz : NumIn V.drew b _ _ m := hs2
      have kz : w.grownBy V.drew (some b) := kg2.trans (grown_of_below (below_drew1 (Below.refl V.heap.size V)) _)
      generalize V.drew = wz at bz sz kz ⊢
      clear bx hs2 kg2
      simp only [Act.put]
      repeat (refine Forks.reads rfl rfl ?_; go_big_quiet_step (fail); refine wpQuiet_nil ?_)
      refine Forks.acts rfl ?_
      go_wp2_with (first | (refine wpList_load_box E rfl _ rfl _ rfl x bz ?_))
      refine Forks.on ?_
      refine Forks.forks rfl rfl ?_ ?_
      · go_wp2_with (first | (refine wpList_find _ rfl _ _ rfl b _ _ m rfl sz x hgd rfl ?_))
        refine Forks.on ?_
        (try simp only [Act.put, List.setIfInBounds_toArray, List.set_cons_succ, List.set_cons_zero])
        repeat (refine Forks.reads rfl rfl ?_; go_big_quiet_step (fail); refine wpQuiet_nil ?_)
        refine Forks.acts rfl ?_
        go_wp2_with (first | (refine wpList_entry _ rfl _ _ rfl b _ _ m rfl sz (by omega) x hgd rfl ?_; intro v0 st w5 g5 hl5 hst))
        refine Forks.on ?_
        (try simp only [Act.put, List.setIfInBounds_toArray, List.set_cons_succ, List.set_cons_zero])
        repeat (refine Forks.reads rfl rfl ?_; go_big_quiet_step (fail); refine wpQuiet_nil ?_)
        have HO2 := HO.out
        simp only [HO2]
        clear HO2
        refine Forks.acts rfl ?_
        have hs6 := hst w5 (f x + t) HR.out rfl
        go_wp2_with (first | (refine wpList_stored _ rfl _ _ _ rfl b rfl st rfl (f x + t) rfl hs6 ?_; rintro w6 ⟨n6, g6⟩))
        refine Forks.on ?_
        refine Forks.ends ?_
        go_wp2_with fail
        go_roundw
        case rel => exact ⟨k + 1, by omega, by go_num, (n6.congr HK.out HM.out).up (by omega), (kz.trans g5).trans g6⟩
        case measure => simp [intOf]; omega
      · go_wp2_with (first | (refine wpList_entry _ rfl _ _ rfl b _ _ m rfl sz (by omega) x hgd rfl ?_; intro v0 st w5 g5 hl5 hst))
        refine Forks.on ?_
        (try simp only [Act.put, List.setIfInBounds_toArray, List.set_cons_succ, List.set_cons_zero])
        repeat (refine Forks.reads rfl rfl ?_; go_big_quiet_step (fail); refine wpQuiet_nil ?_)
        refine Forks.acts rfl ?_
        obtain ⟨K5, n5⟩ := hl5
        go_wp2_with (first | (refine wpList_find _ rfl _ _ rfl b _ _ m rfl n5 x hgd rfl ?_))
        refine Forks.on ?_
        (try simp only [Act.put, List.setIfInBounds_toArray, List.set_cons_succ, List.set_cons_zero])
        repeat (refine Forks.reads rfl rfl ?_; go_big_quiet_step (fail); refine wpQuiet_nil ?_)
        have HO2 := HO.out
        simp only [HO2]
        clear HO2
        refine Forks.acts rfl ?_
        have hs6 := hst w5 (f x + t) HR.out rfl
        go_wp2_with (first | (refine wpList_stored _ rfl _ _ _ rfl b rfl st rfl (f x + t) rfl hs6 ?_; rintro w6 ⟨n6, g6⟩))
        refine Forks.on ?_
        refine Forks.ends ?_
        go_wp2_with fail
        go_roundw
        case rel => exact ⟨k + 1, by omega, by go_num, (n6.congr HK.out HM.out).up (by omega), (kz.trans g5).trans g6⟩
        case measure => simp [intOf]; omega
    · have e : k = l.length := by omega
      subst e
      rw [List.take_length] at hset
      go_wp2_with fail
      go_end0
      exact ⟨rfl, hset, kg⟩
end Go.Proofs.Ytnjdkjkihbgkaaa.PairT
namespace Go.Proofs.Ytnjdkjkihbgkaaa.RowZ
set_option maxRecDepth 100000
open Go Go.Shelf Go.Sort Go.RowKit Go.Lib RowS RowB

variable {α : Type} [Inhabited α] (E : Enc α)
theorem flatK_eq (l : List α) : flatK E.enc E.k l.toArray = (flat E l).toArray := by
  refine ext_get! (by simp [flat_length]) (fun t ht => ?_)
  have ht' : t < l.length * E.k := by simpa using ht
  have hpos := E.pos
  have hi : t / E.k < l.length := (Nat.div_lt_iff_lt_mul hpos).2 ht'
  have hj : t % E.k < E.k := Nat.mod_lt _ hpos
  have hx : l[t / E.k]? = some l[t / E.k] := List.getElem?_eq_getElem hi
  have hv : (E.enc l[t / E.k])[t % E.k]? = some ((E.enc l[t / E.k])[t % E.k]'(by rw [E.len]; exact hj)) := List.getElem?_eq_getElem _
  have e := flat_at E l _ _ _ _ hx hv
  rw [show t / E.k * E.k + t % E.k = t by rw [Nat.mul_comm]; exact Nat.div_add_mod t E.k] at e
  rw [get_flatK _ _ _ t (by simpa using ht')]
  have q1 : (flat E l).toArray[t]! = (E.enc l[t / E.k])[t % E.k]'(by rw [E.len]; exact hj) := by
    rw [Array.getElem!_eq_getD, Array.getD_eq_getD_getElem?, List.getElem?_toArray, e]
    rfl
  have q2 : l.toArray[t / E.k]! = l[t / E.k] := by
    rw [Array.getElem!_eq_getD, Array.getD_eq_getD_getElem?, List.getElem?_toArray, hx]
    rfl
  rw [q1, q2, List.getElem!_eq_getElem?_getD, hv]
  rfl
theorem size_row (w : World) (blk off : Nat) (d : Array α) : (putRowK E.enc E.k w blk off d).heap.size = w.heap.size := by simp [putRowK, putRow, mapBlock]
variable {E}
omit [Inhabited α] in
theorem owns_lt {w : World} {base g cap : Nat} {l : List α} (h : w.ownsRow base E.T E.k (.slice (some ⟨g, 0, none⟩) l.length cap) l.length (flat E l)) : base ≤ g ∧ g < w.heap.size := h.lt g rfl
theorem holds_own {w : World} {base g cap : Nat} {l : List α} (h : w.ownsRow base E.T E.k (.slice (some ⟨g, 0, none⟩) l.length cap) l.length (flat E l)) : HoldsK E.enc E.k w g 0 l.toArray := by
  unfold HoldsK Holds
  rw [flatK_eq]
  intro j hj
  have hj' : j < (flat E l).length := by simpa using hj
  refine ⟨?_, by rw [Nat.zero_add]; exact h.frozenAt j⟩
  rw [Nat.zero_add, h.cellAt j (by rw [flat_length] at hj'; exact hj'), List.getElem?_eq_getElem hj']
  rw [Array.getElem!_eq_getD, Array.getD_eq_getD_getElem?, List.getElem?_toArray, List.getElem?_eq_getElem hj']
  rfl
theorem own_sorted {w : World} {base g cap : Nat} {l l' : List α} (h : w.ownsRow base E.T E.k (.slice (some ⟨g, 0, none⟩) l.length cap) l.length (flat E l)) (hl : l'.length = l.length) (n : Nat) (os : Array Obj) :
    (sortWorldK E.enc E.k w g 0 n l'.toArray os).ownsRow base E.T E.k (.slice (some ⟨g, 0, none⟩) l.length cap) l.length (flat E l') ∧ w.grownBy (sortWorldK E.enc E.k w g 0 n l'.toArray os) (some g) := by
  have hlt := (owns_lt h).2
  constructor
  · refine ⟨by rw [flat_length, hl], ?_⟩
    rcases h.2 with ⟨e, _⟩ | ⟨g', cap', cur, e, hbg, hg, h1, h2, h3, h4⟩
    · cases e
    · injection e with e1 e2 e3
      injection e1 with e1
      injection e1 with e1
      subst e1
      subst e3
      refine .inr ⟨g, cap, putCells id 0 (flat E l').toArray cur, rfl, hbg, ?_, h1, h2, by simpa [putCells] using h3, ?_⟩
      · unfold sortWorldK
        rw [Sort.heap_grow_old _ _ (by rw [size_row]; exact hlt)]
        unfold putRowK putRow mapBlock
        rw [flatK_eq]
        show (Array.modify w.heap g _)[g]? = _
        rw [Array.getElem?_modify, if_pos rfl, hg]
        rfl
      · have hc : l.length * E.k ≤ cur.size := by rw [h3]; exact Nat.mul_le_mul_right _ h1
        apply List.ext_getElem?
        intro j
        rw [List.getElem?_take]
        by_cases hj : j < l.length * E.k
        · have hj' : j < (flat E l').length := by rw [flat_length, hl]; exact hj
          rw [if_pos hj, Array.getElem?_toList, putCells, Array.getElem?_mapIdx, Array.getElem?_eq_getElem (by omega), Option.map_some, if_pos ⟨Nat.zero_le _, by simpa using hj'⟩, List.getElem?_eq_getElem hj']
          simp only [id, Nat.sub_zero]
          rw [Array.getElem!_eq_getD, Array.getD_eq_getD_getElem?, List.getElem?_toArray, List.getElem?_eq_getElem hj']
          rfl
        · rw [if_neg hj, List.getElem?_eq_none (by rw [flat_length, hl]; omega)]
  · unfold sortWorldK
    refine ⟨rfl, rfl, rfl, ?_, fun i hi hne => ?_⟩
    · rw [Sort.size_grow, size_row]
      exact Nat.le_add_right _ _
    · rw [Sort.heap_grow_old _ _ (by rw [size_row]; exact hi)]
      show (Array.modify w.heap g _)[i]? = _
      rw [Array.getElem?_modify, if_neg (fun e => hne (by rw [e]))]
end Go.Proofs.Ytnjdkjkihbgkaaa.RowZ
namespace Go.Proofs
set_option maxRecDepth 100000
open Go.Shelf
def Try.sortPairs_ren : Go.Shelf.Ren := ⟨fun | 6 => 66 | 15 => 73 | 14 => 72 | 28 => 83 | 29 => 84 | 20 => 75 | 21 => 76 | 22 => 77 | 23 => 78 | 24 => 79 | 25 => 80 | 26 => 81 | 27 => 82 | 46 => 94 | 47 => 95 | 48 => 96 | 49 => 97 | 50 => 98 | 57 => 103 | n => n, fun | 22 => 24 | 24 => 41 | 25 => 108 | 3 => 3 | 39 => 109 | 0 => 0 | 53 => 124 | 55 => 88 | 4 => 4 | 46 => 117 | 45 => 116 | 50 => 121 | 5 => 5 | 9 => 9 | 66 => 132 | 70 => 136 | 76 => 140 | 77 => 141 | n => n, fun | n => n⟩
theorem Try.sortPairs : Go.Proofs.SlLaysF0.n6 Try.prog Try.sortPairs_ren := {
  mixed := by kernel_rfl
  f6 := ⟨Try.f66.name, by decide, Try.func66.trans (congrArg some (by kernel_rfl))⟩
  f14 := ⟨Try.f72.name, by decide, Try.func72.trans (congrArg some (by kernel_rfl))⟩
  f15 := Try.func73.trans (congrArg some (by kernel_rfl))
  f20 := ⟨Try.f75.name, by decide, Try.func75.trans (congrArg some (by kernel_rfl))⟩
  f21 := ⟨Try.f76.name, by decide, Try.func76.trans (congrArg some (by kernel_rfl))⟩
  f22 := ⟨Try.f77.name, by decide, Try.func77.trans (congrArg some (by kernel_rfl))⟩
  f23 := ⟨Try.f78.name, by decide, Try.func78.trans (congrArg some (by kernel_rfl))⟩
  f24 := ⟨Try.f79.name, by decide, Try.func79.trans (congrArg some (by kernel_rfl))⟩
  f25 := ⟨Try.f80.name, by decide, Try.func80.trans (congrArg some (by kernel_rfl))⟩
  f26 := ⟨Try.f81.name, by decide, Try.func81.trans (congrArg some (by kernel_rfl))⟩
  f27 := ⟨Try.f82.name, by decide, Try.func82.trans (congrArg some (by kernel_rfl))⟩
  f28 := Try.func83.trans (congrArg some (by kernel_rfl))
  f29 := Try.func84.trans (congrArg some (by kernel_rfl))
  f46 := ⟨Try.f94.name, by decide, Try.func94.trans (congrArg some (by kernel_rfl))⟩
  f47 := Try.func95.trans (congrArg some (by kernel_rfl))
  f48 := Try.func96.trans (congrArg some (by kernel_rfl))
  f49 := ⟨Try.f97.name, by decide, Try.func97.trans (congrArg some (by kernel_rfl))⟩
  f50 := ⟨Try.f98.name, by decide, Try.func98.trans (congrArg some (by kernel_rfl))⟩
  f57 := ⟨Try.f103.name, by decide, Try.func103.trans (congrArg some (by kernel_rfl))⟩
  t0 := Try.underlying0
  a0 := Try.isAgg0
  z0 := Try.sizeOf0
  v0 := Try.zeroValue0
  t3 := Try.underlying3
  a3 := Try.isAgg3
  z3 := Try.sizeOf3
  v3 := Try.zeroValue3
  t4 := Try.underlying4
  a4 := Try.isAgg4
  z4 := Try.sizeOf4
  v4 := Try.zeroValue4
  t5 := Try.underlying5
  a5 := Try.isAgg5
  z5 := Try.sizeOf5
  v5 := Try.zeroValue5
  t9 := Try.underlying9
  a9 := Try.isAgg9
  z9 := Try.sizeOf9
  v9 := Try.zeroValue9
  t22 := Try.underlying24
  a22 := Try.isAgg24
  z22 := Try.sizeOf24
  v22 := Try.zeroValue24
  t25 := Try.underlying108
  a25 := Try.isAgg108
  z25 := Try.sizeOf108
  v25 := Try.zeroValue108
  t39 := Try.underlying109
  a39 := Try.isAgg109
  z39 := Try.sizeOf109
  v39 := Try.zeroValue109
  t45 := Try.underlying116
  a45 := Try.isAgg116
  z45 := Try.sizeOf116
  v45 := Try.zeroValue116
  t46 := Try.underlying117
  a46 := Try.isAgg117
  z46 := Try.sizeOf117
  v46 := Try.zeroValue117
  t50 := Try.underlying121
  a50 := Try.isAgg121
  z50 := Try.sizeOf121
  v50 := Try.zeroValue121
  t53 := Try.underlying124
  a53 := Try.isAgg124
  z53 := Try.sizeOf124
  v53 := Try.zeroValue124
  t55 := Try.underlying88
  a55 := Try.isAgg88
  z55 := Try.sizeOf88
  v55 := Try.zeroValue88
  t66 := Try.underlying132
  a66 := Try.isAgg132
  z66 := Try.sizeOf132
  v66 := Try.zeroValue132
  t70 := Try.underlying136
  a70 := Try.isAgg136
  z70 := Try.sizeOf136
  v70 := Try.zeroValue136
  t76 := Try.underlying140
  a76 := Try.isAgg140
  z76 := Try.sizeOf140
  v76 := Try.zeroValue140
  t77 := Try.underlying141
  a77 := Try.isAgg141
  z77 := Try.sizeOf141
  v77 := Try.zeroValue141 }
end Go.Proofs
