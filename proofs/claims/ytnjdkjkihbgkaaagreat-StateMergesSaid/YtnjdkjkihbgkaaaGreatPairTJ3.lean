/- What note and stays of the project's package pair return: contracts. | A row of structs sorted: what the library's words on its cells come to, whatever the fields. No condition. | A contract of the library's, laid at this program. -/
import Derived.Test.YtnjdkjkihbgkaaaGreatPairK
import Derived.Test.YtnjdkjkihbgkaaaGreatPairOJ4
import Derived.Test.YtnjdkjkihbgkaaaGreatRegCJ3
import Derived.Test.YtnjdkjkihbgkaaaGreatRowBJ2
import Derived.Shelf.GgSortFunc.InsertionK
import Derived.Shelf.SlLaysF0
import Derived.Test.YtnjdkjkihbgkaaaGreatProg
namespace Go.Proofs.YtnjdkjkihbgkaaaGreat.PairT
set_option maxRecDepth 100000
open Go Go.RowKit Byt Rise PairM PairN RowS RowB PairW PairS PairK

/-- Which numbers stay. -/
def stB (n : Int) : Bool := decide (n = 2) || (decide (n = 4) || (decide (n = 6) || decide (n = 7)))
theorem or_fresh {a t : Int} (ht : t = 1 ∨ t = 2 ∨ t = 4) (h0 : 0 ≤ a) (h : a < t) : bits .or .i64 a t = a + t := by
  have : (t = 1 ∧ a = 0) ∨ (t = 2 ∧ (a = 0 ∨ a = 1)) ∨ (t = 4 ∧ (a = 0 ∨ a = 1 ∨ a = 2 ∨ a = 3)) := by omega
  rcases this with ⟨rfl, rfl⟩ | ⟨rfl, rfl | rfl⟩ | ⟨rfl, rfl | rfl | rfl | rfl⟩ <;> decide
theorem or_again {a t : Int} (ht : t = 1 ∨ t = 2 ∨ t = 4) (h0 : 0 ≤ a) (h : a < t) : bits .or .i64 (a + t) t = a + t := by
  have : (t = 1 ∧ a = 0) ∨ (t = 2 ∧ (a = 0 ∨ a = 1)) ∨ (t = 4 ∧ (a = 0 ∨ a = 1 ∨ a = 2 ∨ a = 3)) := by omega
  rcases this with ⟨rfl, rfl⟩ | ⟨rfl, rfl | rfl⟩ | ⟨rfl, rfl | rfl | rfl | rfl⟩ <;> decide
/-- The numbers of pairs, one bit more for those of a list. -/
def noted (t : Int) (f : Pr → Int) (l : List Pr) : Pr → Int := fun x => if x ∈ l then f x + t else f x
theorem noted_nil (t : Int) (f : Pr → Int) : noted t f [] = f := by
  funext x
  simp [noted]
theorem noted_or {t : Int} {f : Pr → Int} (ht : t = 1 ∨ t = 2 ∨ t = 4) (hf : ∀ x, 0 ≤ f x ∧ f x < t) (l : List Pr) (x : Pr) : bits .or .i64 (noted t f l x) t = f x + t := by
  unfold noted
  split
  · exact or_again ht (hf x).1 (hf x).2
  · exact or_fresh ht (hf x).1 (hf x).2
theorem noted_next {t : Int} {f : Pr → Int} {l : List Pr} {k : Nat} {x : Pr} (h : l[k]? = some x) (z : Pr) : upd (noted t f (l.take k)) x (f x + t) z = noted t f (l.take (k + 1)) z := by
  obtain ⟨hk, rfl⟩ := List.getElem?_eq_some_iff.1 h
  unfold upd noted
  rw [List.take_succ_eq_append_getElem hk]
  simp only [List.mem_append, List.mem_singleton]
  by_cases hz : z = l[k]
  · subst hz
    simp
  · simp [hz]
theorem keys_next {l : List Pr} {k : Nat} {x : Pr} (h : l[k]? = some x) (K : List Pr) (z : Pr) : z ∈ x :: (K ++ l.take k) ↔ z ∈ K ++ l.take (k + 1) := by
  obtain ⟨hk, rfl⟩ := List.getElem?_eq_some_iff.1 h
  rw [List.take_succ_eq_append_getElem hk]
  simp only [List.mem_cons, List.mem_append, List.not_mem_nil, or_false]
  constructor
  · rintro (h | h | h)
    · exact .inr (.inr h)
    · exact .inl h
    · exact .inr (.inl h)
  · rintro (h | h | h)
    · exact .inr (.inl h)
    · exact .inr (.inr h)
    · exact .inl h

set_option maxHeartbeats 4000000 in
theorem stays_ret (n : Int) (h0 : 0 ≤ n) (h8 : n < 8) (w : World) : Calls Tryz.prog 105 #[.int .i64 n] w fun e w' => e = .returned (.bool (stB n)) ∧ w = w' := by
  have : n = 0 ∨ n = 1 ∨ n = 2 ∨ n = 3 ∨ n = 4 ∨ n = 5 ∨ n = 6 ∨ n = 7 := by omega
  rcases this with rfl | rfl | rfl | rfl | rfl | rfl | rfl | rfl <;>
  · go_enter Tryz.func105, Tryz.ntmps105
    go_wp2
    go_ret
    exact ⟨rfl, rfl⟩
def treeN : Forks.Tree := .free 0 (.free 3 (.act 1 (.two 2 (.free 4 (.act 5 (.free 6 (.act 7 .ends)))) 5 (.free 6 (.act 2 (.free 4 (.act 7 .ends)))))))
set_option maxRecDepth 100000 in
set_option maxHeartbeats 8000000 in
theorem note_ret (b n : Nat) (K : List Pr) (f : Pr → Int) (A : Option Addr) (cap : Nat) (l : List Pr) (t : Int) (w : World) (h : NumIn w b n K f) (S : SlR E w A cap l) (hf : Fits l) (ht : t = 1 ∨ t = 2 ∨ t = 4) (hv : ∀ x, 0 ≤ f x ∧ f x < t) (hn : n ≤ 1000000) (hl : l.length ≤ 1000000) :
    Calls Tryz.prog 95 #[.map (some b), .slice A l.length cap, .int .i64 t] w fun e w' => e = .returned (.tuple #[]) ∧ NumIn w' b (n + l.length) (K ++ l) (noted t f l) ∧ w.grownBy w' (some b) := by
  have hcap := S.1
  have HT := aside ht
  have HV := aside hv
  clear ht hv
  go_enter Tryz.func95, Tryz.ntmps95
  go_wp2_with fail
  go_loopw [10] (fun i wr => ∃ k : Nat, k ≤ l.length ∧ i = .int .i64 k ∧ NumIn wr b (n + k) (K ++ l.take k) (noted t f (l.take k)) ∧ w.grownBy wr (some b)) (fun i _ => l.length - (intOf i).toNat)
  case atStart => exact ⟨0, Nat.zero_le _, rfl, by simpa [noted_nil] using h, grown_of_below (Below.refl _ _) _⟩
  case round =>
    obtain ⟨k, hk, rfl, hset, kg⟩ := hrel
    by_cases hlt : k < l.length
    · obtain ⟨g, off, rfl, hbw, hr⟩ := PairW.plain S (by omega)
      obtain ⟨x, hx⟩ : ∃ x, l[k]? = some x := ⟨_, List.getElem?_eq_getElem hlt⟩
      have hgd := good_of (hf x (List.mem_of_getElem? hx))
      have hne : g ≠ b := by
        obtain ⟨D, ⟨es, clock, hm, _⟩, _⟩ := h
        exact map_not_cells hm (hr k x hx)
      have hr1 := range_kept (hr k x hx) kg hbw hne
      have HK := aside (keys_next hx K)
      have HM := aside (fun z => noted_next (t := t) (f := f) hx z)
      obtain ⟨m, hm0⟩ : ∃ m, noted t f (l.take k) = m := ⟨_, rfl⟩
      have HO : Hid (bits .or .i64 (m x) t = f x + t) := aside (by rw [← hm0]; exact noted_or HT.out HV.out _ x)
      rw [hm0] at hset HM
      have HR : Hid (PairW.In64 (f x + t)) := aside (by have := HV.out x; have := HT.out; unfold PairW.In64; omega)
      have p0 : (k : Int) < l.length := by omega
      have m0 : ((k : Int)).toNat = k := by omega
      clear hr S hx hf hm0 h
      go_wp2_with (first
        | (refine wpList_load_at E rfl _ rfl g _ rfl x hr1 ?_)
        | (refine wpList_store_new E rfl _ _ rfl _ _ _ rfl x _ rfl rfl rfl rfl ?_; intro w2 bx kx gx sx))
      have hs2 := hset.kept gx (by simp)
      have kg2 := kg.trans (gx.but _)
      clear hset kg kx gx
      refine Forks.region treeN (by kernel_rfl) (by kernel_rfl) rfl (by kernel_rfl) (by intro c a d v w h; cases d <;> exact h) ?_
      unfold treeN
      rename World => V
      have bz : Box E V.drew _ x := bx
      have sz : NumIn V.drew b _ _ m := hs2
      have kz : w.grownBy V.drew (some b) := kg2.trans (grown_of_below (below_drew1 (Below.refl V.heap.size V)) _)
      generalize V.drew = wz at bz sz kz ⊢
      clear bx hs2 kg2
      simp only [Act.put]
      repeat (refine Forks.reads rfl rfl ?_; go_big_quiet_step (fail); refine wpQuiet_nil ?_)
      refine Forks.acts rfl ?_
      go_wp2_with (first | (refine wpList_load_box E rfl _ rfl _ rfl x bz ?_))
      refine Forks.on ?_
      refine Forks.forks rfl rfl ?_ ?_
      · go_wp2_with (first | (refine wpList_find _ rfl _ _ rfl b _ _ m rfl sz x hgd rfl ?_))
        refine Forks.on ?_
        (try simp only [Act.put, List.setIfInBounds_toArray, List.set_cons_succ, List.set_cons_zero])
        repeat (refine Forks.reads rfl rfl ?_; go_big_quiet_step (fail); refine wpQuiet_nil ?_)
        refine Forks.acts rfl ?_
        go_wp2_with (first | (refine wpList_entry _ rfl _ _ rfl b _ _ m rfl sz (by omega) x hgd rfl ?_; intro v0 st w5 g5 hl5 hst))
        refine Forks.on ?_
        (try simp only [Act.put, List.setIfInBounds_toArray, List.set_cons_succ, List.set_cons_zero])
        repeat (refine Forks.reads rfl rfl ?_; go_big_quiet_step (fail); refine wpQuiet_nil ?_)
        have HO2 := HO.out
        simp only [HO2]
        clear HO2
        refine Forks.acts rfl ?_
        have hs6 := hst w5 (f x + t) HR.out rfl
        go_wp2_with (first | (refine wpList_stored _ rfl _ _ _ rfl b rfl st rfl (f x + t) rfl hs6 ?_; rintro w6 ⟨n6, g6⟩))
        refine Forks.on ?_
        refine Forks.ends ?_
        go_wp2_with fail
        go_roundw
        case rel => exact ⟨k + 1, by omega, by go_num, (n6.congr HK.out HM.out).up (by omega), (kz.trans g5).trans g6⟩
        case measure => simp [intOf]; omega
      · go_wp2_with (first | (refine wpList_entry _ rfl _ _ rfl b _ _ m rfl sz (by omega) x hgd rfl ?_; intro v0 st w5 g5 hl5 hst))
        refine Forks.on ?_
        (try simp only [Act.put, List.setIfInBounds_toArray, List.set_cons_succ, List.set_cons_zero])
        repeat (refine Forks.reads rfl rfl ?_; go_big_quiet_step (fail); refine wpQuiet_nil ?_)
        refine Forks.acts rfl ?_
        obtain ⟨K5, n5⟩ := hl5
        go_wp2_with (first | (refine wpList_find _ rfl _ _ rfl b _ _ m rfl n5 x hgd rfl ?_))
        refine Forks.on ?_
        (try simp only [Act.put, List.setIfInBounds_toArray, List.set_cons_succ, List.set_cons_zero])
        repeat (refine Forks.reads rfl rfl ?_; go_big_quiet_step (fail); refine wpQuiet_nil ?_)
        have HO2 := HO.out
        simp only [HO2]
        clear HO2
        refine Forks.acts rfl ?_
        have hs6 := hst w5 (f x + t) HR.out rfl
        go_wp2_with (first | (refine wpList_stored _ rfl _ _ _ rfl b rfl st rfl (f x + t) rfl hs6 ?_; rintro w6 ⟨n6, g6⟩))
        refine Forks.on ?_
        refine Forks.ends ?_
        go_wp2_with fail
        go_roundw
        case rel => exact ⟨k + 1, by omega, by go_num, (n6.congr HK.out HM.out).up (by omega), (kz.trans g5).trans g6⟩
        case measure => simp [intOf]; omega
    · have e : k = l.length := by omega
      subst e
      rw [List.take_length] at hset
      go_wp2_with fail
      go_end0
      exact ⟨rfl, hset, kg⟩
end Go.Proofs.YtnjdkjkihbgkaaaGreat.PairT
namespace Go.Proofs.YtnjdkjkihbgkaaaGreat.RowZ
set_option maxRecDepth 100000
open Go Go.Shelf Go.Sort Go.RowKit Go.Lib RowS RowB

variable {α : Type} [Inhabited α] (E : Enc α)
theorem flatK_eq (l : List α) : flatK E.enc E.k l.toArray = (flat E l).toArray := by
  refine ext_get! (by simp [flat_length]) (fun t ht => ?_)
  have ht' : t < l.length * E.k := by simpa using ht
  have hpos := E.pos
  have hi : t / E.k < l.length := (Nat.div_lt_iff_lt_mul hpos).2 ht'
  have hj : t % E.k < E.k := Nat.mod_lt _ hpos
  have hx : l[t / E.k]? = some l[t / E.k] := List.getElem?_eq_getElem hi
  have hv : (E.enc l[t / E.k])[t % E.k]? = some ((E.enc l[t / E.k])[t % E.k]'(by rw [E.len]; exact hj)) := List.getElem?_eq_getElem _
  have e := flat_at E l _ _ _ _ hx hv
  rw [show t / E.k * E.k + t % E.k = t by rw [Nat.mul_comm]; exact Nat.div_add_mod t E.k] at e
  rw [get_flatK _ _ _ t (by simpa using ht')]
  have q1 : (flat E l).toArray[t]! = (E.enc l[t / E.k])[t % E.k]'(by rw [E.len]; exact hj) := by
    rw [Array.getElem!_eq_getD, Array.getD_eq_getD_getElem?, List.getElem?_toArray, e]
    rfl
  have q2 : l.toArray[t / E.k]! = l[t / E.k] := by
    rw [Array.getElem!_eq_getD, Array.getD_eq_getD_getElem?, List.getElem?_toArray, hx]
    rfl
  rw [q1, q2, List.getElem!_eq_getElem?_getD, hv]
  rfl
theorem size_row (w : World) (blk off : Nat) (d : Array α) : (putRowK E.enc E.k w blk off d).heap.size = w.heap.size := by simp [putRowK, putRow, mapBlock]
variable {E}
omit [Inhabited α] in
theorem owns_lt {w : World} {base g cap : Nat} {l : List α} (h : w.ownsRow base E.T E.k (.slice (some ⟨g, 0, none⟩) l.length cap) l.length (flat E l)) : base ≤ g ∧ g < w.heap.size := h.lt g rfl
theorem holds_own {w : World} {base g cap : Nat} {l : List α} (h : w.ownsRow base E.T E.k (.slice (some ⟨g, 0, none⟩) l.length cap) l.length (flat E l)) : HoldsK E.enc E.k w g 0 l.toArray := by
  unfold HoldsK Holds
  rw [flatK_eq]
  intro j hj
  have hj' : j < (flat E l).length := by simpa using hj
  refine ⟨?_, by rw [Nat.zero_add]; exact h.frozenAt j⟩
  rw [Nat.zero_add, h.cellAt j (by rw [flat_length] at hj'; exact hj'), List.getElem?_eq_getElem hj']
  rw [Array.getElem!_eq_getD, Array.getD_eq_getD_getElem?, List.getElem?_toArray, List.getElem?_eq_getElem hj']
  rfl
theorem own_sorted {w : World} {base g cap : Nat} {l l' : List α} (h : w.ownsRow base E.T E.k (.slice (some ⟨g, 0, none⟩) l.length cap) l.length (flat E l)) (hl : l'.length = l.length) (n : Nat) (os : Array Obj) :
    (sortWorldK E.enc E.k w g 0 n l'.toArray os).ownsRow base E.T E.k (.slice (some ⟨g, 0, none⟩) l.length cap) l.length (flat E l') ∧ w.grownBy (sortWorldK E.enc E.k w g 0 n l'.toArray os) (some g) := by
  have hlt := (owns_lt h).2
  constructor
  · refine ⟨by rw [flat_length, hl], ?_⟩
    rcases h.2 with ⟨e, _⟩ | ⟨g', cap', cur, e, hbg, hg, h1, h2, h3, h4⟩
    · cases e
    · injection e with e1 e2 e3
      injection e1 with e1
      injection e1 with e1
      subst e1
      subst e3
      refine .inr ⟨g, cap, putCells id 0 (flat E l').toArray cur, rfl, hbg, ?_, h1, h2, by simpa [putCells] using h3, ?_⟩
      · unfold sortWorldK
        rw [Sort.heap_grow_old _ _ (by rw [size_row]; exact hlt)]
        unfold putRowK putRow mapBlock
        rw [flatK_eq]
        show (Array.modify w.heap g _)[g]? = _
        rw [Array.getElem?_modify, if_pos rfl, hg]
        rfl
      · have hc : l.length * E.k ≤ cur.size := by rw [h3]; exact Nat.mul_le_mul_right _ h1
        apply List.ext_getElem?
        intro j
        rw [List.getElem?_take]
        by_cases hj : j < l.length * E.k
        · have hj' : j < (flat E l').length := by rw [flat_length, hl]; exact hj
          rw [if_pos hj, Array.getElem?_toList, putCells, Array.getElem?_mapIdx, Array.getElem?_eq_getElem (by omega), Option.map_some, if_pos ⟨Nat.zero_le _, by simpa using hj'⟩, List.getElem?_eq_getElem hj']
          simp only [id, Nat.sub_zero]
          rw [Array.getElem!_eq_getD, Array.getD_eq_getD_getElem?, List.getElem?_toArray, List.getElem?_eq_getElem hj']
          rfl
        · rw [if_neg hj, List.getElem?_eq_none (by rw [flat_length, hl]; omega)]
  · unfold sortWorldK
    refine ⟨rfl, rfl, rfl, ?_, fun i hi hne => ?_⟩
    · rw [Sort.size_grow, size_row]
      exact Nat.le_add_right _ _
    · rw [Sort.heap_grow_old _ _ (by rw [size_row]; exact hi)]
      show (Array.modify w.heap g _)[i]? = _
      rw [Array.getElem?_modify, if_neg (fun e => hne (by rw [e]))]
end Go.Proofs.YtnjdkjkihbgkaaaGreat.RowZ
namespace Go.Proofs
set_option maxRecDepth 100000
open Go.Shelf
def Tryz.sortPairs_ren : Go.Shelf.Ren := ⟨fun | 6 => 106 | 15 => 110 | 14 => 109 | 28 => 120 | 29 => 121 | 20 => 112 | 21 => 113 | 22 => 114 | 23 => 115 | 24 => 116 | 25 => 117 | 26 => 118 | 27 => 119 | 46 => 131 | 47 => 132 | 48 => 133 | 49 => 134 | 50 => 135 | 57 => 140 | n => n, fun | 22 => 24 | 24 => 63 | 25 => 116 | 3 => 3 | 39 => 111 | 0 => 0 | 53 => 130 | 55 => 77 | 4 => 4 | 46 => 123 | 45 => 122 | 50 => 127 | 5 => 5 | 9 => 9 | 66 => 138 | 70 => 142 | 76 => 146 | 77 => 147 | n => n, fun | n => n⟩
theorem Tryz.sortPairs : Go.Proofs.SlLaysF0.n6 Tryz.prog Tryz.sortPairs_ren := {
  mixed := by kernel_rfl
  f6 := ⟨Tryz.f106.name, by decide, Tryz.func106.trans (congrArg some (by kernel_rfl))⟩
  f14 := ⟨Tryz.f109.name, by decide, Tryz.func109.trans (congrArg some (by kernel_rfl))⟩
  f15 := Tryz.func110.trans (congrArg some (by kernel_rfl))
  f20 := ⟨Tryz.f112.name, by decide, Tryz.func112.trans (congrArg some (by kernel_rfl))⟩
  f21 := ⟨Tryz.f113.name, by decide, Tryz.func113.trans (congrArg some (by kernel_rfl))⟩
  f22 := ⟨Tryz.f114.name, by decide, Tryz.func114.trans (congrArg some (by kernel_rfl))⟩
  f23 := ⟨Tryz.f115.name, by decide, Tryz.func115.trans (congrArg some (by kernel_rfl))⟩
  f24 := ⟨Tryz.f116.name, by decide, Tryz.func116.trans (congrArg some (by kernel_rfl))⟩
  f25 := ⟨Tryz.f117.name, by decide, Tryz.func117.trans (congrArg some (by kernel_rfl))⟩
  f26 := ⟨Tryz.f118.name, by decide, Tryz.func118.trans (congrArg some (by kernel_rfl))⟩
  f27 := ⟨Tryz.f119.name, by decide, Tryz.func119.trans (congrArg some (by kernel_rfl))⟩
  f28 := Tryz.func120.trans (congrArg some (by kernel_rfl))
  f29 := Tryz.func121.trans (congrArg some (by kernel_rfl))
  f46 := ⟨Tryz.f131.name, by decide, Tryz.func131.trans (congrArg some (by kernel_rfl))⟩
  f47 := Tryz.func132.trans (congrArg some (by kernel_rfl))
  f48 := Tryz.func133.trans (congrArg some (by kernel_rfl))
  f49 := ⟨Tryz.f134.name, by decide, Tryz.func134.trans (congrArg some (by kernel_rfl))⟩
  f50 := ⟨Tryz.f135.name, by decide, Tryz.func135.trans (congrArg some (by kernel_rfl))⟩
  f57 := ⟨Tryz.f140.name, by decide, Tryz.func140.trans (congrArg some (by kernel_rfl))⟩
  t0 := Tryz.underlying0
  a0 := Tryz.isAgg0
  z0 := Tryz.sizeOf0
  v0 := Tryz.zeroValue0
  t3 := Tryz.underlying3
  a3 := Tryz.isAgg3
  z3 := Tryz.sizeOf3
  v3 := Tryz.zeroValue3
  t4 := Tryz.underlying4
  a4 := Tryz.isAgg4
  z4 := Tryz.sizeOf4
  v4 := Tryz.zeroValue4
  t5 := Tryz.underlying5
  a5 := Tryz.isAgg5
  z5 := Tryz.sizeOf5
  v5 := Tryz.zeroValue5
  t9 := Tryz.underlying9
  a9 := Tryz.isAgg9
  z9 := Tryz.sizeOf9
  v9 := Tryz.zeroValue9
  t22 := Tryz.underlying24
  a22 := Tryz.isAgg24
  z22 := Tryz.sizeOf24
  v22 := Tryz.zeroValue24
  t25 := Tryz.underlying116
  a25 := Tryz.isAgg116
  z25 := Tryz.sizeOf116
  v25 := Tryz.zeroValue116
  t39 := Tryz.underlying111
  a39 := Tryz.isAgg111
  z39 := Tryz.sizeOf111
  v39 := Tryz.zeroValue111
  t45 := Tryz.underlying122
  a45 := Tryz.isAgg122
  z45 := Tryz.sizeOf122
  v45 := Tryz.zeroValue122
  t46 := Tryz.underlying123
  a46 := Tryz.isAgg123
  z46 := Tryz.sizeOf123
  v46 := Tryz.zeroValue123
  t50 := Tryz.underlying127
  a50 := Tryz.isAgg127
  z50 := Tryz.sizeOf127
  v50 := Tryz.zeroValue127
  t53 := Tryz.underlying130
  a53 := Tryz.isAgg130
  z53 := Tryz.sizeOf130
  v53 := Tryz.zeroValue130
  t55 := Tryz.underlying77
  a55 := Tryz.isAgg77
  z55 := Tryz.sizeOf77
  v55 := Tryz.zeroValue77
  t66 := Tryz.underlying138
  a66 := Tryz.isAgg138
  z66 := Tryz.sizeOf138
  v66 := Tryz.zeroValue138
  t70 := Tryz.underlying142
  a70 := Tryz.isAgg142
  z70 := Tryz.sizeOf142
  v70 := Tryz.zeroValue142
  t76 := Tryz.underlying146
  a76 := Tryz.isAgg146
  z76 := Tryz.sizeOf146
  v76 := Tryz.zeroValue146
  t77 := Tryz.underlying147
  a77 := Tryz.isAgg147
  z77 := Tryz.sizeOf147
  v77 := Tryz.zeroValue147 }
end Go.Proofs
