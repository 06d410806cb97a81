/- slices.SortFunc at ids: the library's contract, laid at this program. | What set returns: a contract. -/
import Derived.Test.YteojkfbnenfmkaaDoorEvWJ7
import Derived.Shelf.SlSortCmp.NoneTotal
import Derived.Test.YteojkfbnenfmkaaDoorDhCJ2
import Derived.Test.YteojkfbnenfmkaaDoorIdK
namespace Go.Proofs.YteojkfbnenfmkaaDoor.IdR
set_option maxRecDepth 100000
open Go Go.Shelf Go.Sort Go.RowKit Go.Lib IdM Byt IdW IdC

def enc (x : Idn) : List Value := bv x.1
theorem enc_len (x : Idn) : (enc x).length = 32 := by rw [enc, bv_length, Idn_len]
theorem swo : SWO (ltOf cf) where
  irrefl x := by unfold ltOf; rw [ltOf_cf]; exact less_irrefl x
  trans x y z h1 h2 := by unfold ltOf at *; rw [ltOf_cf] at *; exact less_trans h1 h2
  ntrans x y z h1 h2 := by
    unfold ltOf at *
    rw [ltOf_cf] at *
    cases h3 : less x z with
    | false => rfl
    | true =>
      by_cases hxy : x = y
      · subst hxy; rw [h3] at h2; cases h2
      · have h4 := less_of_ne h1 hxy
        have h5 := less_trans h4 h3
        rw [h2] at h5
        cases h5
theorem cmpLays (blk off size : Nat) (w : World) : CmpLays Tryd.prog 52 #[] enc 32 cf blk off size w := fun _ _ _ _ x y => order_ret x y _
theorem agg_id (w : World) : (isAgg 42).run Tryd.prog w = .ok true w := by kernel_rfl
theorem size_id (w : World) : (Go.sizeOf 42).run Tryd.prog w = .ok 32 w := by kernel_rfl
theorem sortf (blk off cap : Nat) (d : Array Idn) (w : World) (hH : HoldsK enc 32 w blk off d) (hblk : blk < w.heap.size) (hsz : d.size < 4611686018427387904) :
    Calls Tryd.prog 51 #[.slice (some ⟨blk, off, none⟩) d.size cap, .func (.func 52) #[] #[]] w fun e w' =>
      e = .returned (.tuple #[]) ∧ ∃ d' n os, PermIn 0 d.size d d' ∧ SortedIn (ltOf cf) 0 d.size d' ∧ w' = sortWorldK enc 32 w blk off n d' os := by
  have eg : ∀ args w, (callFunc 52 args).run Tryd.prog w = .ok (.enter 52 args) w := enters_of Tryd.func52 (by kernel_rfl) rfl
  exact AnyQ.slices_SortFunc Tryd.sortIds 32 agg_id size_id enc enc_len (fun x v hv => bv_one x.1 v hv) cf swo 52 #[] blk off cap d w eg (cmpLays blk off d.size w) hH hblk hsz
theorem flatK_eq (l : List Idn) : flatK enc 32 l.toArray = (bv (flat l)).toArray := by
  refine ext_get! (by simp [bv_length, flat_length]) (fun t ht => ?_)
  have ht' : t < l.length * 32 := by simpa using ht
  have hi : t / 32 < l.length := by omega
  have hj : t % 32 < 32 := by omega
  have e := flat_at l (t / 32) (t % 32) hi hj
  rw [show t / 32 * 32 + t % 32 = t by omega] at e
  rw [get_flatK _ _ _ t (by simpa using ht')]
  have q1 : (bv (flat l)).toArray[t]! = .int .u8 ((flat l).getD t 0) := by
    rw [Array.getElem!_eq_getD, Array.getD_eq_getD_getElem?, List.getElem?_toArray, bv_at _ (by rw [flat_length]; exact ht')]
    rfl
  have q2 : l.toArray[t / 32]! = l.getD (t / 32) nought := by
    rw [Array.getElem!_eq_getD, Array.getD_eq_getD_getElem?, List.getElem?_toArray, List.getD_eq_getElem?_getD]
    rfl
  have q3 : ∀ z : Idn, (enc z)[t % 32]! = .int .u8 (z.1.getD (t % 32) 0) := by
    intro z
    rw [List.getElem!_eq_getElem?_getD, enc, bv_at _ (by rw [Idn_len]; exact hj)]
    rfl
  rw [q1, q2, q3, e]
theorem owns_lt {w : World} {base g cap : Nat} {l : List Idn} (h : w.ownsRow base 42 32 (.slice (some ⟨g, 0, none⟩) l.length cap) l.length (bv (flat l))) : base ≤ g ∧ g < w.heap.size := h.lt g rfl
theorem holds_own {w : World} {base g cap : Nat} {l : List Idn} (h : w.ownsRow base 42 32 (.slice (some ⟨g, 0, none⟩) l.length cap) l.length (bv (flat l))) : HoldsK enc 32 w g 0 l.toArray := by
  unfold HoldsK Holds
  rw [flatK_eq]
  intro j hj
  have hj' : j < (flat l).length := by simpa [bv_length] using hj
  refine ⟨?_, by rw [Nat.zero_add]; exact h.frozenAt j⟩
  rw [Nat.zero_add, h.cellAt j (by rw [flat_length] at hj'; exact hj'), bv_at _ hj']
  rw [Array.getElem!_eq_getD, Array.getD_eq_getD_getElem?, List.getElem?_toArray, bv_at _ hj']
  rfl
theorem own_sorted {w : World} {base g cap : Nat} {l l' : List Idn} (h : w.ownsRow base 42 32 (.slice (some ⟨g, 0, none⟩) l.length cap) l.length (bv (flat l))) (hl : l'.length = l.length) (n : Nat) (os : Array Obj) :
    (sortWorldK enc 32 w g 0 n l'.toArray os).ownsRow base 42 32 (.slice (some ⟨g, 0, none⟩) l.length cap) l.length (bv (flat l')) ∧ w.grownBy (sortWorldK enc 32 w g 0 n l'.toArray os) (some g) := by
  have hlt := (owns_lt h).2
  constructor
  · refine ⟨by rw [bv_length, flat_length, hl], ?_⟩
    rcases h.2 with ⟨e, _⟩ | ⟨g', cap', cur, e, hbg, hg, h1, h2, h3, h4⟩
    · cases e
    · injection e with e1 e2 e3
      injection e1 with e1
      injection e1 with e1
      subst e1
      subst e3
      refine .inr ⟨g, cap, putCells id 0 (bv (flat l')).toArray cur, rfl, hbg, ?_, h1, h2, by simpa [putCells] using h3, ?_⟩
      · unfold sortWorldK
        rw [Sort.heap_grow_old _ _ (by rw [size_putRowK]; exact hlt)]
        unfold putRowK putRow mapBlock
        rw [flatK_eq]
        show (Array.modify w.heap g _)[g]? = _
        rw [Array.getElem?_modify, if_pos rfl, hg]
        rfl
      · have hc : l.length * 32 ≤ cur.size := by rw [h3]; exact Nat.mul_le_mul_right _ h1
        apply List.ext_getElem?
        intro j
        rw [List.getElem?_take]
        by_cases hj : j < l.length * 32
        · have hj' : j < (flat l').length := by rw [flat_length, hl]; exact hj
          rw [if_pos hj, Array.getElem?_toList, putCells, Array.getElem?_mapIdx, Array.getElem?_eq_getElem (by omega), Option.map_some, if_pos ⟨Nat.zero_le _, by simpa [bv_length] using hj'⟩, bv_at _ hj']
          simp only [id, Nat.sub_zero]
          rw [Array.getElem!_eq_getD, Array.getD_eq_getD_getElem?, List.getElem?_toArray, bv_at _ hj']
          rfl
        · rw [if_neg hj, List.getElem?_eq_none (by rw [bv_length, flat_length, hl]; omega)]
  · unfold sortWorldK
    refine ⟨rfl, rfl, rfl, ?_, fun i hi hne => ?_⟩
    · rw [Sort.size_grow, size_putRowK]
      exact Nat.le_add_right _ _
    · rw [Sort.heap_grow_old _ _ (by rw [size_putRowK]; exact hi)]
      show (Array.modify w.heap g _)[i]? = _
      rw [Array.getElem?_modify, if_neg (fun e => hne (by rw [e]))]
/-- Sorted, and each of them once: rising. -/
theorem rising_of {l l' : List Idn} (hn : l.Nodup) (hp : PermIn 0 l.length l.toArray l'.toArray) (hs : SortedIn (ltOf cf) 0 l.length l'.toArray) : l'.length = l.length ∧ l' = IdM.sort l := by
  have hl : l'.length = l.length := by simpa using hp.1
  have hperm : l'.Perm l := by
    have q := hp.2.2
    have e1 : (l.toArray.extract 0 l.length).toList = l := by simp
    have e2 : (l'.toArray.extract 0 l.length).toList = l' := by rw [← hl]; simp
    rw [e1, e2] at q
    exact q
  refine ⟨hl, eq_sort ?_ (fun x => hperm.mem_iff)⟩
  have hn' : l'.Nodup := hperm.nodup_iff.2 hn
  unfold Rising
  rw [List.pairwise_iff_getElem]
  intro i j hi hj hij
  have q := hs i j (Nat.zero_le _) hij (by omega)
  unfold ltOf at q
  rw [ltOf_cf] at q
  have e : ∀ (k : Nat) (hk : k < l'.length), l'.toArray[k]! = l'[k] := by
    intro k hk
    rw [Array.getElem!_eq_getD, Array.getD_eq_getD_getElem?, List.getElem?_toArray, List.getElem?_eq_getElem hk]
    rfl
  rw [e i hi, e j hj] at q
  refine less_of_ne q (fun e => ?_)
  have := (List.nodup_iff_pairwise_ne.1 hn')
  exact (List.pairwise_iff_getElem.1 this i j hi hj hij) e.symm
end Go.Proofs.YteojkfbnenfmkaaDoor.IdR
namespace Go.Proofs.YteojkfbnenfmkaaDoor.IdS
set_option maxRecDepth 100000
open Go Go.RowKit IdM Byt IdW IdK

theorem make_set (w : World) (n : Int) : (Instr.makeMap 57 (some (.int .i64 n))).run Tryd.prog w = .ok (.map (some w.heap.size)) (w.alloc (.map #[] 0)) := by
  simp [Instr.makeMap, run_underlying Tryd.underlying57, asInt, go_sem]

theorem mem_take_succ {l : List Idn} {k : Nat} (h : k < l.length) (z : Idn) : z ∈ l.getD k nought :: l.take k ↔ z ∈ l.take (k + 1) := by
  rw [List.take_add_one, List.mem_append, List.mem_cons, List.getD_eq_getElem?_getD, List.getElem?_eq_getElem h]
  simp [or_comm]

set_option maxHeartbeats 1000000 in
theorem set_ret (A : Option Addr) (cap : Nat) (l : List Idn) (w : World) (S : SlI w A cap l) (hl : l.length ≤ 1000) :
    Calls Tryd.prog 37 #[.slice A l.length cap] w fun e w' => ∃ b, e = .returned (.map (some b)) ∧ w.heap.size ≤ b ∧ SetIn w' b l.length l ∧ Below w.heap.size w w' := by
  have hmm := make_set
  go_enter Tryd.func37, Tryd.ntmps37
  go_wp2_with fail
  go_loopw [11] (fun i wr => ∃ k : Nat, k ≤ l.length ∧ i = .int .i64 k ∧ SetIn wr w.heap.size k (l.take k) ∧ Below w.heap.size w wr) (fun i _ => l.length - (intOf i).toNat)
  case atStart => exact ⟨0, Nat.zero_le _, rfl, by simpa using SetIn.made w, (Below.refl _ _).alloc (Nat.le_refl _) _⟩
  case round =>
    obtain ⟨k, hk, rfl, hset, kb⟩ := hrel
    by_cases hlt : k < l.length
    · obtain ⟨b, off, rfl, hbw, hr⟩ := S.plain (by omega)
      have hr1 := range_below (hr k hlt) kb
      obtain ⟨x, hx⟩ : ∃ x, l.getD k nought = x := ⟨_, rfl⟩
      rw [hx] at hr1
      have HX := aside hx
      have p0 : (k : Int) < l.length := by omega
      have m0 : ((k : Int)).toNat = k := by omega
      clear hr S hx
      go_wp2_with (first | (refine wpList_load_id rfl _ rfl _ _ rfl x hr1 ?_) | (refine wpList_store_new rfl _ _ rfl _ _ x _ rfl _ rfl (by simp) rfl rfl ?_) | (refine wpList_load_box rfl _ rfl _ rfl x (Box.new wr x _) ?_) | (refine wpList_put _ rfl _ _ _ rfl w.heap.size k _ rfl (hset.alloc _) (by omega) x rfl rfl ?_; intro w1 hs1 hg1))
      go_roundw
      case rel =>
        refine ⟨k + 1, by omega, by go_num, hs1.congr (fun z => ?_), ?_⟩
        · rw [← HX.out]
          exact mem_take_succ hlt z
        · exact below_grown (kb.alloc kb.size _) (by have := kb.size; simp; omega) hg1 (fun j hj => by cases hj; exact Nat.le_refl _)
      case measure => simp [intOf]; omega
    · have e : k = l.length := by omega
      subst e
      rw [List.take_length] at hset
      go_wp2
      go_ret
      exact ⟨_, rfl, Nat.le_refl _, hset, kb⟩
end Go.Proofs.YteojkfbnenfmkaaDoor.IdS
