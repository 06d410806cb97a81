/- What the project's order of package dag returns: a contract. | As Grow, where the last operation may write what was there: it waits for all others. No condition. -/
import Derived.Test.YtechkdhehipliaaGreatDoorDhOJ3
import Derived.Test.YtechkdhehipliaaGreatDoorRotMJ8
import Derived.Shelf.SlSortCmp.NoneTotal
import Derived.Test.YtechkdhehipliaaGreatDoorCmRJ3
namespace Go.Proofs.YtechkdhehipliaaGreatDoor.DhP
set_option maxRecDepth 100000
open Go Go.Shelf Go.Sort Go.RowKit Go.Lib Byt IdM IdW OpsM OpsW CmM StW CmW CmX CmY DgM DgW DgI DhO

theorem cf_neg (l : List Cv) (own : List Idn) (i j : Nat) : decide (cfN l own i j < 0) = true ↔ gN l i < gN l j ∨ gN l i = gN l j ∧ less (own.getD i nought) (own.getD j nought) = true := by
  rw [decide_eq_true_eq]
  unfold cfN
  by_cases h : gN l i = gN l j
  · rw [if_pos h]
    cases h1 : less (own.getD i nought) (own.getD j nought) with
    | true => rw [if_pos rfl]; exact ⟨fun _ => .inr ⟨h, rfl⟩, fun _ => by omega⟩
    | false =>
      rw [if_neg (by simp)]
      constructor
      · intro h2
        split at h2 <;> omega
      · rintro (h2 | ⟨_, h2⟩)
        · omega
        · cases h2
  · rw [if_neg h]
    by_cases h2 : gN l i < gN l j
    · rw [if_pos h2]; exact ⟨fun _ => .inl h2, fun _ => by omega⟩
    · rw [if_neg h2]
      constructor
      · intro h3; omega
      · rintro (h3 | ⟨h3, _⟩)
        · exact absurd h3 h2
        · exact absurd h3 h
def cfF (l : List Cv) (own : List Idn) (n : Nat) (x y : Fin n) : Int := cfN l own x.1 y.1
def encF (n : Nat) (x : Fin n) : Value := .int .i64 (x.1 : Nat)
theorem lt_iff (l : List Cv) (own : List Idn) (n : Nat) (x y : Fin n) : ltOf (cfF l own n) x y = true ↔ gN l x.1 < gN l y.1 ∨ gN l x.1 = gN l y.1 ∧ less (own.getD x.1 nought) (own.getD y.1 nought) = true := cf_neg l own x.1 y.1
theorem swo (l : List Cv) (own : List Idn) (n : Nat) : SWO (ltOf (cfF l own n)) where
  irrefl x := by
    rw [← Bool.not_eq_true, lt_iff, less_irrefl]
    rintro (h | ⟨_, h⟩)
    · omega
    · cases h
  trans x y z h1 h2 := by
    rw [lt_iff] at *
    rcases h1 with h1 | ⟨h1, h1'⟩ <;> rcases h2 with h2 | ⟨h2, h2'⟩
    · exact .inl (by omega)
    · exact .inl (by omega)
    · exact .inl (by omega)
    · exact .inr ⟨by omega, less_trans h1' h2'⟩
  ntrans x y z h1 h2 := by
    rw [← Bool.not_eq_true, lt_iff] at *
    rintro (h3 | ⟨h3, h3'⟩)
    · by_cases e : gN l x.1 < gN l y.1
      · exact h1 (.inl e)
      · by_cases e2 : gN l y.1 < gN l z.1
        · exact h2 (.inl e2)
        · omega
    · by_cases e : gN l x.1 < gN l y.1
      · exact h1 (.inl e)
      · by_cases e2 : gN l y.1 < gN l z.1
        · exact h2 (.inl e2)
        · have e3 : gN l x.1 = gN l y.1 := by omega
          have k1 : less (own.getD x.1 nought) (own.getD y.1 nought) = false := by
            rw [← Bool.not_eq_true]; exact fun k => h1 (.inr ⟨e3, k⟩)
          have k2 : less (own.getD y.1 nought) (own.getD z.1 nought) = false := by
            rw [← Bool.not_eq_true]; exact fun k => h2 (.inr ⟨by omega, k⟩)
          by_cases e4 : own.getD x.1 nought = own.getD y.1 nought
          · rw [e4, k2] at h3'; cases h3'
          · have k3 := less_of_ne k1 (fun e => e4 e)
            have k4 := less_trans k3 h3'
            rw [k2] at k4
            cases k4
/-- A block stays. -/
theorem blk_below {w w' : World} {g : Nat} {o : Obj} (h : w.heap[g]? = some o) (hb : Below w.heap.size w w') : w'.heap[g]? = some o := by rw [hb.block g (Array.getElem?_eq_some_iff.1 h).1, h]
/-- Numbers in a block of their own. -/
theorem slN_block {w : World} {g : Nat} {P : List Nat} {t : TypeId} (h : w.heap[g]? = some (.cells (nv P).toArray t (0, 0))) (hl : P.length ≤ maxLen) : SlN w (some ⟨g, 0, none⟩) P.length P :=
  ⟨Nat.le_refl _, hl, .inr ⟨_, rfl, fun i v hv => by
    rw [Addr.add_lit, Nat.zero_add, cell_of_row w g i _ t (0, 0) h, List.getElem?_toArray]
    exact hv⟩⟩
theorem info_one : (Tryz.prog.info? 3).map (·.size) = some 1 := by kernel_rfl
section
variable {ops : Array Oper} {rest : List Oper} {o : Oper} {a : Act} {w : World} {Q : Exit → Act → World → Prop}
theorem make_ints (hgd : o.guard = none) (x y : Operand) (ho : o.op = .makeSlice 81 x y) (n : Nat) (hx : a.eval x = .int .i64 n) (hy : a.eval y = .int .i64 n) (hn : n ≤ 1000000)
    (h : ∀ w1, w1.heap[w.heap.size]? = some (.cells (nv (List.replicate n 0)).toArray 3 (0, 0)) → Below w.heap.size w w1 → w1.heap.size = w.heap.size + 1 → wpList Tryz.prog ops Q rest (a.put o.dst (.slice (some ⟨w.heap.size, 0, none⟩) n n)) w1) : wpList Tryz.prog ops Q (o :: rest) a w := by
  refine wpList_plain hgd fun K hK => ?_
  obtain ⟨i, hi, z0, z1, z2⟩ := info_parts info_int
  have hrun := run_make (P := Tryz.prog) w 81 3 i (.int .i64 0) Tryz.underlying81 hi z0 .i64 .i64 n n (by omega) (by omega) (by rw [z2]; omega) (by omega)
  rw [show (Value.int .i64 0).cells = #[.int .i64 0] from rfl, z1, Nat.mul_one, Int.toNat_natCast, Small.made_replicate] at hrun
  unfold Oper.wp
  simp [execOp, ho, hx, hy, hrun, Result.andThen]
  refine hK _ _ (h _ ?_ ((Below.refl _ _).alloc (Nat.le_refl _) _) (by simp))
  rw [heap_alloc_new]
  unfold nv
  rw [List.map_replicate]
  rfl
/-- One number stored. -/
theorem store_int (hgd : o.guard = none) (hd : o.dst = none) (x y : Operand) (ho : o.op = .store 3 x y) (g j : Nat) (L : List Nat) (hg : w.heap[g]? = some (.cells (nv L).toArray 3 (0, 0))) (hj : j < L.length)
    (hx : a.eval x = .pointer (some ⟨g, j, none⟩)) (n : Nat) (hy : a.eval y = .int .i64 n)
    (h : ∀ w', w'.heap[g]? = some (.cells (nv (L.set j n)).toArray 3 (0, 0)) → (∀ B, B ≤ g → Below B w w') → w'.heap.size = w.heap.size → wpList Tryz.prog ops Q rest a w') : wpList Tryz.prog ops Q (o :: rest) a w := by
  refine wpList_plain hgd fun K' hK => ?_
  have hrun := RowF.run_store_one (T := 3) (v := .int .i64 n) hg (by rw [List.size_toArray, nv_length]; exact hj) info_one rfl rfl
  unfold Oper.wp execOp
  simp only [ho, hx, hy, Sem.run_bind, hrun, Result.andThen_ok, Sem.run_pure]
  refine hK _ _ ?_
  rw [hd]
  refine h _ ?_ (fun B hB => (Below.refl B w).setCell (p := ⟨g, j, none⟩) hB _) (by simp [World.setCell])
  simp only [World.setCell]
  rw [Array.getElem?_modify, if_pos rfl, hg]
  simp [nv, List.map_set]
end
theorem extract_all {α : Type} (d : Array α) {n : Nat} (h : d.size = n) : (d.extract 0 n).toList = d.toList := by
  subst h
  simp
theorem one_enc (n : Nat) : OneCell (encF n) := fun _ => rfl
theorem fin_vals (n : Nat) : (List.finRange n).map (fun x => x.1) = List.range n := by
  apply List.ext_getElem
  · simp
  · intro i h1 h2
    simp
theorem nv_fin {n : Nat} (L : List (Fin n)) : L.map (encF n) = nv (L.map fun x => x.1) := by
  unfold nv encF
  rw [List.map_map]
  rfl
theorem grown_sorted {n g k : Nat} [Inhabited (Fin n)] {w : World} {d : Array (Fin n)} {os : Array Obj} : w.grownBy (sortWorld (encF n) w g 0 k d os) (some g) := by
  unfold sortWorld
  refine ⟨rfl, rfl, rfl, ?_, fun i hi hne => ?_⟩
  · rw [Sort.size_grow, size_putRow]
    exact Nat.le_add_right _ _
  · rw [Sort.heap_grow_old _ _ (by rw [size_putRow]; exact hi)]
    show (Array.modify w.heap g _)[i]? = _
    rw [Array.getElem?_modify, if_neg (fun e => hne (by rw [e]))]
theorem heap_sorted {n g k : Nat} [Inhabited (Fin n)] {w : World} {d : Array (Fin n)} {os : Array Obj} {L : List Nat} {t : TypeId} (hg : w.heap[g]? = some (.cells (nv L).toArray t (0, 0))) (hd : d.size = L.length) : (sortWorld (encF n) w g 0 k d os).heap[g]? = some (.cells (nv (d.toList.map fun x => x.1)).toArray t (0, 0)) := by
  have hlt : g < w.heap.size := (Array.getElem?_eq_some_iff.1 hg).1
  unfold sortWorld
  rw [Sort.heap_grow_old _ _ (by rw [size_putRow]; exact hlt)]
  unfold putRow mapBlock
  show (Array.modify w.heap g _)[g]? = _
  rw [Array.getElem?_modify, if_pos rfl, hg]
  simp only [Option.map_some, onCells]
  congr 2
  rw [← nv_fin]
  apply Array.ext_getElem?
  intro i
  by_cases hi : i < d.size
  · rw [putCells, Array.getElem?_mapIdx, Array.getElem?_eq_getElem (by rw [List.size_toArray, nv_length]; omega), Option.map_some, if_pos ⟨Nat.zero_le _, by omega⟩, List.getElem?_toArray, List.getElem?_map, Array.getElem?_toList, Array.getElem?_eq_getElem hi, Option.map_some, Nat.sub_zero, getElem!_pos d i hi]
  · rw [Array.getElem?_eq_none (by simp [putCells, nv_length]; omega), Array.getElem?_eq_none (by simp; omega)]
theorem sort_places (A A' : Option Addr) (cap cap' : Nat) (l : List Cv) (own : List Idn) (w W : World) (S : SlK w A cap l) (T : SlI w A' cap' own) (ho : own.length = l.length) (hl : l.length ≤ 1000000) (hb : Below w.heap.size w W) (g g0 g1 : Nat)
    (c0 : ∃ t, W.heap[g0]? = some (.cells #[.slice A l.length cap] t (0, 0))) (c1 : ∃ t, W.heap[g1]? = some (.cells #[.slice A' own.length cap'] t (0, 0))) (h0 : g0 ≠ g) (h1 : g1 ≠ g) (hwg : w.heap.size ≤ g) (hg : W.heap[g]? = some (.cells (nv (List.range l.length)).toArray 3 (0, 0))) :
    Calls Tryz.prog 86 #[.slice (some ⟨g, 0, none⟩) l.length l.length, .func (.func 87) #[] #[.pointer (some ⟨g0, 0, none⟩), .pointer (some ⟨g1, 0, none⟩)]] W fun e w' =>
      e = .returned (.tuple #[]) ∧ ∃ P, w'.heap[g]? = some (.cells (nv P).toArray 3 (0, 0)) ∧ P.Perm (List.range l.length) ∧ P.Pairwise (fun i j => ¬ cfN l own j i < 0) ∧ Below w.heap.size w w' := by
  have hlt : g < W.heap.size := (Array.getElem?_eq_some_iff.1 hg).1
  obtain ⟨n, hn⟩ : ∃ n, l.length = n := ⟨_, rfl⟩
  cases n with
  | zero =>
    rw [hn] at hg ⊢
    refine (AnyF.slices_SortFunc_none (P := Tryz.prog) (ρ := Tryz.sortInts_ren) { Tryz.sortInts with } _ _ _ W).mono ?_
    rintro e w' ⟨rfl, rfl⟩
    exact ⟨rfl, [], hg, List.Perm.refl _, List.Pairwise.nil, hb⟩
  | succ m =>
    have eg : ∀ args w, (callFunc 87 args).run Tryz.prog w = .ok (.enter 87 args) w := enters_of Tryz.func87 (by kernel_rfl) rfl
    have hcmp : CmpLays1 Tryz.prog 87 #[.pointer (some ⟨g0, 0, none⟩), .pointer (some ⟨g1, 0, none⟩)] (encF (m + 1)) (cfF l own (m + 1)) g 0 (m + 1) W := by
      intro k os dk _ x y
      have gr : W.grownBy (sortWorld (encF (m + 1)) W g 0 k dk os) (some g) := grown_sorted
      have hb2 : Below w.heap.size w (sortWorld (encF (m + 1)) W g 0 k dk os) := below_grown hb (Nat.le_trans hwg (Nat.le_of_lt hlt)) gr (fun q hq => by cases hq; exact hwg)
      obtain ⟨t0, e0⟩ := c0
      obtain ⟨t1, e1⟩ := c1
      have E : Env (sortWorld (encF (m + 1)) W g 0 k dk os) g0 g1 A A' cap cap' l own := ⟨⟨t0, by rw [gr.block g0 (Array.getElem?_eq_some_iff.1 e0).1 (fun e => h0 (by injection e)), e0]⟩, ⟨t1, by rw [gr.block g1 (Array.getElem?_eq_some_iff.1 e1).1 (fun e => h1 (by injection e)), e1]⟩, S.below hb2, T.below hb2⟩
      exact cmp_ret g0 g1 A A' cap cap' l own x.1 y.1 (by have := x.2; omega) (by have := y.2; omega) ho _ E
    have hsz : (List.finRange (m + 1)).toArray.size = m + 1 := by simp
    have hH : Holds (encF (m + 1)) W g 0 (List.finRange (m + 1)).toArray := by
      intro j hj
      rw [hsz] at hj
      refine ⟨?_, by simp [World.frozen?, hg]⟩
      rw [Nat.zero_add, cell_of_row W g j _ _ (0, 0) hg, hn, List.getElem?_toArray]
      rw [getElem!_pos _ j (by rw [hsz]; exact hj)]
      simp [nv, hj, encF]
    have q := Any.slices_SortFunc Tryz.sortInts (encF (m + 1)) (one_enc _) (cfF l own (m + 1)) (swo l own (m + 1)) 87 #[.pointer (some ⟨g0, 0, none⟩), .pointer (some ⟨g1, 0, none⟩)] g 0 (m + 1) (List.finRange (m + 1)).toArray W eg (by rw [hsz]; exact hcmp) hH hlt (by rw [hsz]; omega)
    rw [hsz] at q
    rw [hn]
    refine q.mono ?_
    rintro e w' ⟨rfl, d', k, os, hp, hs, rfl⟩
    have hd : d'.size = m + 1 := by rw [hp.1, hsz]
    have hperm : d'.toList.Perm (List.finRange (m + 1)) := by
      have q := hp.2.2
      rw [extract_all d' hd, extract_all _ hsz] at q
      exact q
    have gr : W.grownBy (sortWorld (encF (m + 1)) W g 0 k d' os) (some g) := grown_sorted
    have hbe : Below w.heap.size w (sortWorld (encF (m + 1)) W g 0 k d' os) := below_grown hb (Nat.le_trans hwg (Nat.le_of_lt hlt)) gr (fun q hq => by cases hq; exact hwg)
    have hge := heap_sorted (n := m + 1) (k := k) (os := os) hg (d := d') (by rw [hd, List.length_range, hn])
    refine ⟨rfl, d'.toList.map (fun x => x.1), hge, ?_, ?_, hbe⟩
    · have := hperm.map (fun x => x.1)
      rwa [fin_vals] at this
    · rw [List.pairwise_map, List.pairwise_iff_getElem]
      intro i j hi hj hij
      have hi' : i < d'.size := by simpa using hi
      have hj' : j < d'.size := by simpa using hj
      have q := hs i j (Nat.zero_le _) hij (by omega)
      rw [getElem!_pos d' i hi', getElem!_pos d' j hj'] at q
      unfold ltOf at q
      simpa [cfF] using of_decide_eq_false q
theorem range_set (n k : Nat) : ((List.range n).map fun i => if i < k then i else 0).set k k = (List.range n).map fun i => if i < k + 1 then i else 0 := by
  apply List.ext_getElem
  · simp
  · intro i h1 h2
    simp only [List.length_set, List.length_map, List.length_range] at h1
    rw [List.getElem_set]
    simp only [List.getElem_map, List.getElem_range]
    by_cases e : k = i
    · subst e
      rw [if_pos rfl, if_pos (by omega)]
    · rw [if_neg e]
      by_cases e2 : i < k
      · rw [if_pos e2, if_pos (by omega)]
      · rw [if_neg e2, if_neg (by omega)]
theorem fill_no (n : Nat) : List.replicate n 0 = (List.range n).map fun i => if i < 0 then i else 0 := by
  apply List.ext_getElem
  · simp
  · intro i h1 h2
    simp
theorem fill_all (n : Nat) : ((List.range n).map fun i => if i < n then i else 0) = List.range n := by
  apply List.ext_getElem
  · simp
  · intro i h1 h2
    simp only [List.length_map, List.length_range] at h1
    simp [h1]
/-- Places in order. -/
def Placed (l : List Cv) (own : List Idn) (P : List Nat) : Prop := P.Perm (List.range l.length) ∧ P.Pairwise (fun i j => ¬ cfN l own j i < 0)
set_option maxRecDepth 100000 in
set_option maxHeartbeats 16000000 in
theorem order_ret (A A' : Option Addr) (cap cap' : Nat) (l : List Cv) (own : List Idn) (w : World) (S : SlK w A cap l) (T : SlI w A' cap' own) (ho : own.length = l.length) (hl : l.length ≤ 1000000) :
    Calls Tryz.prog 62 #[.slice A l.length cap, .slice A' own.length cap'] w fun e w' => ∃ bp P, e = .returned (.slice (some ⟨bp, 0, none⟩) l.length l.length) ∧ w.heap.size ≤ bp ∧ w'.heap[bp]? = some (.cells (nv P).toArray 3 (0, 0)) ∧ Placed l own P ∧ Below w.heap.size w w' := by
  have hmf : ∀ (fn : Fn) (first cap : Array Value) (w : World), (Instr.makeFunc fn first cap).run Tryz.prog w = .ok (.func fn first cap) w := fun _ _ _ _ => rfl
  have z1 : (w.alloc (.cells #[.slice A l.length cap] 22)).heap.size = w.heap.size + 1 := by simp
  have C0 : ((w.alloc (.cells #[.slice A l.length cap] 22)).alloc (.cells #[.slice A' own.length cap'] 23)).heap[w.heap.size]? = some (.cells #[.slice A l.length cap] 22 (0, 0)) := by
    rw [(StW.below_alloc (w.alloc (.cells #[.slice A l.length cap] 22)) _).block _ (by simp), heap_alloc_new]
  have C1 : ((w.alloc (.cells #[.slice A l.length cap] 22)).alloc (.cells #[.slice A' own.length cap'] 23)).heap[w.heap.size + 1]? = some (.cells #[.slice A' own.length cap'] 23 (0, 0)) := by
    rw [← z1, heap_alloc_new]
  have kb : Below w.heap.size w ((w.alloc (.cells #[.slice A l.length cap] 22)).alloc (.cells #[.slice A' own.length cap'] 23)) := ((Below.refl _ _).alloc (Nat.le_refl _) _).alloc (by simp) _
  have z2 : w.heap.size + 1 < ((w.alloc (.cells #[.slice A l.length cap] 22)).alloc (.cells #[.slice A' own.length cap'] 23)).heap.size := by simp
  generalize hW : (w.alloc (.cells #[.slice A l.length cap] 22)).alloc (.cells #[.slice A' own.length cap'] 23) = W at C0 C1 kb z2
  have c0 := cell_row ⟨_, C0⟩
  have HO := aside ho
  clear z1 ho
  go_enter Tryz.func62, Tryz.ntmps62
  go_wp2_with (first | go_skip | (refine make_ints rfl _ _ rfl l.length rfl rfl hl ?_; intro w1 hg1 k1 s1; have b1 := kb.trans (k1.mono kb.size); have D0 : w1.heap[w.heap.size]? = _ := (k1.block _ (by omega)).trans C0; have D1 : w1.heap[w.heap.size + 1]? = _ := (k1.block _ (by omega)).trans C1; clear s1 C0 C1 kb))
  go_loopw [12] (fun i wr => ∃ k : Nat, k ≤ l.length ∧ i = .int .i64 k ∧ wr.heap[W.heap.size]? = some (.cells (nv ((List.range l.length).map fun i => if i < k then i else 0)).toArray 3 (0, 0)) ∧ wr.heap[w.heap.size]? = some (.cells #[.slice A l.length cap] 22 (0, 0)) ∧ wr.heap[w.heap.size + 1]? = some (.cells #[.slice A' own.length cap'] 23 (0, 0)) ∧ Below w.heap.size w wr) (fun i _ => l.length - (intOf i).toNat)
  case atStart =>
    exact ⟨0, Nat.zero_le _, rfl, by rw [hg1, fill_no], D0, D1, b1⟩
  case round =>
    clear D0 D1 b1 hg1 c0
    obtain ⟨k, hk, rfl, hg, D0, D1, b1⟩ := hrel
    by_cases hlt : k < l.length
    · have p0 : (k : Int) < l.length := by omega
      have m0 : ((k : Int)).toNat = k := by omega
      go_wp2_with (first | go_skip | (refine store_int rfl rfl _ _ rfl W.heap.size k _ hg (by simp; omega) rfl k rfl ?_; intro w2 hg2 f2 s2))
      go_roundw
      case rel =>
        refine ⟨k + 1, by omega, by go_num, by rw [hg2, range_set], ?_, ?_, b1.trans (f2 _ (by omega))⟩
        · rw [(f2 (w.heap.size + 1 + 1) (by omega)).block _ (by omega), D0]
        · rw [(f2 (w.heap.size + 1 + 1) (by omega)).block _ (by omega), D1]
      case measure => simp [intOf]; omega
    · have ek : k = l.length := by omega
      subst ek
      have hg3 : wr.heap[W.heap.size]? = some (.cells (nv (List.range l.length)).toArray 3 (0, 0)) := by
        rw [hg, fill_all]
      have q := sort_places A A' cap cap' l own w wr S T HO.out hl b1 W.heap.size w.heap.size (w.heap.size + 1) ⟨_, D0⟩ ⟨_, D1⟩ (by omega) (by omega) (by omega) hg3
      clear hg
      go_wp2_with (first | go_skip)
      refine q.mono ?_
      rintro e w3 ⟨rfl, P, hg4, hp, hs, b3⟩
      go_wp2_with (first | go_skip)
      go_ret
      exact ⟨_, P, rfl, by omega, hg4, ⟨hp, hs.imp fun h => by omega⟩, b3⟩
end Go.Proofs.YtechkdhehipliaaGreatDoor.DhP
namespace Go.Proofs.YtechkdhehipliaaGreatDoor.GrowL
set_option maxRecDepth 100000
open Go Go.Sort Go.RowKit

section
variable {P : Program} {ops : Array Oper} {Q : Exit → Act → World → Prop} {md : Region.Mode}

/-- Operation j waits for operation i, straight or by others. -/
def ahead (md : Region.Mode) (ops : Array Oper) (i : Nat) : Nat → Nat → Bool
  | 0, _ => false
  | fuel + 1, j => match ops[j]? with
    | none => false
    | some o => o.after.toList.any fun e => Region.binds md e && (e.on == i || ahead md ops i fuel e.on)
/-- What is listed has all listed that it waits for. -/
def Shut (md : Region.Mode) (ops : Array Oper) (listed : Array Bool) : Prop :=
  ∀ j o, ops[j]? = some o → listed.getD j false = true → ∀ e ∈ o.after, Region.binds md e = true → listed.getD e.on false = true
theorem Shut.none (n : Nat) : Shut md ops (Array.replicate n false) := fun j o _ hl => by
  by_cases h : j < n
  · simp [h] at hl
  · simp [h] at hl
theorem Shut.set {i : Nat} {listed : Array Bool} (h : Shut md ops listed) (hi : i ∈ Region.ready md ops listed) : Shut md ops (listed.setIfInBounds i true) := by
  intro j o ho hl e he hb
  refine getD_set_true ?_
  by_cases hij : i = j
  · subst hij
    obtain ⟨_, o', ho', hall⟩ := mem_ready.1 hi
    obtain rfl : o = o' := Option.some.inj (ho.symm.trans ho')
    exact hall e he hb
  · rw [getD_set_ne false hij] at hl
    exact h j o ho hl e he hb
theorem ahead_listed {i : Nat} {listed : Array Bool} (hS : Shut md ops listed) : ∀ (fuel j : Nat), ahead md ops i fuel j = true → (listed.getD j false = true ∨ j ∈ Region.ready md ops listed) → listed.getD i false = true
  | 0, _, h, _ => by simp [ahead] at h
  | fuel + 1, j, h, hj => by
    unfold ahead at h
    cases ho : ops[j]? with
    | none => rw [ho] at h; cases h
    | some o =>
      rw [ho] at h
      simp only [List.any_eq_true, Bool.and_eq_true, Bool.or_eq_true, beq_iff_eq] at h
      obtain ⟨e, he, hb, h⟩ := h
      have he : e ∈ o.after := Array.mem_toList_iff.1 he
      have hl : listed.getD e.on false = true := by
        rcases hj with hj | hj
        · exact hS j o ho hj e he hb
        · obtain ⟨_, o', ho', hall⟩ := mem_ready.1 hj
          obtain rfl : o = o' := Option.some.inj (ho.symm.trans ho')
          exact hall e he hb
      rcases h with h | h
      · rw [← h]; exact hl
      · exact ahead_listed hS fuel e.on h (.inl hl)
theorem not_both {i : Nat} {listed : Array Bool} (h1 : listed.getD i true = false) (h2 : listed.getD i false = true) : False := by
  by_cases hlt : i < listed.size
  · simp [hlt] at h1 h2
    rw [h1] at h2
    cases h2
  · simp [Array.getElem?_eq_none (Nat.le_of_not_lt hlt)] at h2

/-- Whatever order is picked from here on, and each operation but L leaves all that was there as it was. -/
def M (L : Nat) (P : Program) (md : Region.Mode) (ops : Array Oper) (Q : Exit → Act → World → Prop) : Nat → Array Bool → Act → World → Prop
  | 0, listed, a, w => Region.ready md ops listed = [] ∧ Q .normal a w
  | fuel + 1, listed, a, w => (Region.ready md ops listed = [] → Q .normal a w) ∧
    ∀ i ∈ Region.ready md ops listed, wpOp P ops Q i (fun a' w' => (i ≠ L → Below w.heap.size w w') ∧ M L P md ops Q fuel (listed.setIfInBounds i true) a' w') a w
theorem M.any {L : Nat} : ∀ (fuel : Nat) (listed : Array Bool) (a : Act) (w : World), M L P md ops Q fuel listed a w → wpAny P md ops Q fuel listed a w
  | 0, _, _, _, h => h
  | fuel + 1, _, _, _, h => ⟨h.1, fun i hi => wpOp_mono (fun a' w' h' => M.any fuel _ a' w' h'.2) (h.2 i hi)⟩

/-- An operation that only reads, and that L waits for, may come first. -/
theorem M.first {L i : Nat} {oi : Oper} {v : Value} (hi : ops[i]? = some oi) (hs : Region.noSelect ops = true) {af : Nat} (hA : ahead md ops i af L = true)
    (hQ : ∀ c a w, Q (.panic c) (a.put oi.dst v) w → Q (.panic c) a w) (fuel : Nat) :
    ∀ (listed : Array Bool) (a : Act) (w : World), Shut md ops listed →
      (∀ j oj, ops[j]? = some oj → j ≠ i → listed.getD j true = false → (∀ e ∈ oj.after, Region.binds md e = true → e.on ≠ i) → oi.apart ops oj = true) →
      i ∈ Region.ready md ops listed → YieldsIf P ops (Below w.heap.size w) oi v a →
      M L P md ops Q fuel (listed.setIfInBounds i true) (a.put oi.dst v) w → M L P md ops Q (fuel + 1) listed a w := by
  have sel := fun (j : Nat) (o : Oper) (cs : Array SelectCase) (b : Bool) (h : ops[j]? = some o) => Region.noSelect_spec hs j o cs b h
  induction fuel with
  | zero =>
    intro listed a w _ _ hr hy H
    refine ⟨fun h0 => absurd hr (by rw [h0]; simp), fun j hj => ?_⟩
    by_cases e : j = i
    · subst e
      exact hy.wpOp hi (Below.refl _ _) ⟨fun _ => Below.refl _ _, H⟩
    · exact absurd (ready_mono hj e) (by rw [H.1]; simp)
  | succ fuel ih =>
    intro listed a w hS hf hr hy H
    refine ⟨fun h0 => absurd hr (by rw [h0]; simp), fun j hj => ?_⟩
    by_cases e : j = i
    · subst e
      exact hy.wpOp hi (Below.refl _ _) ⟨fun _ => Below.refl _ _, H⟩
    · have hjL : j ≠ L := by
        rintro rfl
        exact not_both (mem_ready.1 hr).1 (ahead_listed hS af j hA (.inr hj))
      have hstep := H.2 j (ready_mono hj e)
      obtain ⟨hun, oj, hoj, hall⟩ := mem_ready.1 hj
      have hno : ∀ x ∈ oj.after, Region.binds md x = true → x.on ≠ i := by
        intro x hx hb hxi
        have p1 := hall x hx hb
        rw [hxi] at p1
        exact not_both (mem_ready.1 hr).1 p1
      refine wpOp_mono (fun a' w' h3 => ⟨h3.2.1, ?_⟩) (wpOp_putIf hoj (hf j oj hoj e hun hno) (fun cs b => sel i oi cs b hi) (fun cs b => sel j oj cs b hoj) hQ hy hstep)
      obtain ⟨y1, y2, y3⟩ := h3
      refine ih (listed.setIfInBounds j true) a' w' (hS.set hj) (fun k ok hk hki hku hkn => hf k ok hk hki ?_ hkn) (ready_mono hr (fun h => e h.symm)) (Grow.later y1 (y2 hjL)) ?_
      · by_cases ejk : j = k
        · subst ejk; exact hun
        · rwa [getD_set_ne true ejk] at hku
      · rw [Array.setIfInBounds_comm _ _ e]
        exact y3

/-- As Grow.plain, checks for nil besides. -/
def plain (o : Oper) : Bool := match o.op with
  | .nilCheck _ => true
  | _ => Grow.plain o
/-- The order that is walked: each operation by its number, with whether it only reads. -/
def orderB (L : Nat) (md : Region.Mode) (ops : Array Oper) : List (Nat × Bool) → Array Bool → Bool
  | [], listed => (Region.ready md ops listed).isEmpty
  | (i, true) :: r, listed => ((Region.ready md ops listed).contains i && Region.free md ops listed i && ((ops[i]?).map plain).getD false && ahead md ops i ops.size L) && orderB L md ops r (listed.setIfInBounds i true)
  | (i, false) :: r, listed => Region.ready md ops listed == [i] && orderB L md ops r (listed.setIfInBounds i true)
/-- Such an order, if there is one. -/
def orderOf (md : Region.Mode) (ops : Array Oper) : Nat → Array Bool → List (Nat × Bool)
  | 0, _ => []
  | fuel + 1, listed =>
    match (Region.ready md ops listed).find? fun i => Region.free md ops listed i && ((ops[i]?).map plain).getD false with
    | some i => (i, true) :: orderOf md ops fuel (listed.setIfInBounds i true)
    | none => match Region.ready md ops listed with
      | i :: _ => (i, false) :: orderOf md ops fuel (listed.setIfInBounds i true)
      | [] => []

/-- What is asked of each operation, in that order. -/
def Seq (L : Nat) (P : Program) (ops : Array Oper) (Q : Exit → Act → World → Prop) : List (Nat × Bool) → Act → World → Prop
  | [], a, w => Q .normal a w
  | (i, true) :: r, a, w => ∃ o, ops[i]? = some o ∧ ∃ v, YieldsIf P ops (Below w.heap.size w) o v a ∧ Seq L P ops Q r (a.put o.dst v) w
  | (i, false) :: r, a, w => Forks.One P ops Q i (fun a' w' => Below w.heap.size w w' ∧ Seq L P ops Q r a' w') a w ∨ (i = L ∧ Forks.One P ops Q i (fun a' w' => Seq L P ops Q r a' w') a w)

theorem seq_M {L : Nat} (hs : Region.noSelect ops = true) (hQ : ∀ c a d v w, Q (.panic c) (a.put d v) w → Q (.panic c) a w) : ∀ (l : List (Nat × Bool)) (listed : Array Bool) (a : Act) (w : World), Shut md ops listed →
    orderB L md ops l listed = true → Seq L P ops Q l a w → M L P md ops Q l.length listed a w
  | [], listed, a, w, _, hB, h => ⟨by simpa [orderB] using hB, h⟩
  | (i, true) :: r, listed, a, w, hS, hB, ⟨o, ho, v, hy, h⟩ => by
    simp only [orderB, Bool.and_eq_true] at hB
    obtain ⟨⟨⟨⟨h1, h2⟩, _⟩, h3⟩, h4⟩ := hB
    have hr : i ∈ Region.ready md ops listed := by simpa using h1
    exact M.first ho hs h3 (fun c a w => hQ c a o.dst v w) r.length listed a w hS (Region.free_spec ho h2) hr hy (seq_M hs hQ r _ _ _ (hS.set hr) h4 h)
  | (i, false) :: r, listed, a, w, hS, hB, h => by
    simp only [orderB, Bool.and_eq_true, beq_iff_eq] at hB
    obtain ⟨h1, h4⟩ := hB
    have hS' : Shut md ops (listed.setIfInBounds i true) := hS.set (by rw [h1]; simp)
    refine ⟨fun h0 => (by rw [h1] at h0; cases h0), fun j hj => ?_⟩
    rw [h1] at hj
    obtain rfl : j = i := by simpa using hj
    rcases h with h | ⟨e, h⟩
    · exact h.op (fun a' w' hh => ⟨fun _ => hh.1, seq_M hs hQ r _ _ _ hS' h4 hh.2⟩)
    · exact h.op (fun a' w' hh => ⟨fun hne => absurd e hne, seq_M hs hQ r _ _ _ hS' h4 hh⟩)

/-- One order serves every order. -/
theorem region (L : Nat) {id : Nat} {a : Act} {w : World} {l : List Oper} (order : List (Nat × Bool)) (hm : P.follows .mixedOrders = true) (hs : Region.noSelect l.toArray = true)
    (hl : order.length = l.toArray.size) (hB : orderB L .any l.toArray order (Array.replicate l.toArray.size false) = true) (hQ : ∀ c a d v w, Q (.panic c) (a.put d v) w → Q (.panic c) a w)
    (h : Seq L P l.toArray Q order a w.drew) : (Code.region id l.toArray true).wp P Q a w := by
  refine wp_region_any hm (M.any (L := L) _ _ _ _ ?_)
  have := seq_M (md := .any) hs hQ order (Array.replicate l.toArray.size false) a w.drew (Shut.none _) hB h
  rw [hl] at this
  exact this

/-- One operation that only reads: in every world that grew from this one it yields one and the same. -/
theorem reads {L : Nat} {l : List Oper} {i : Nat} {o : Oper} {r : List (Nat × Bool)} {a : Act} {w : World} (hn : Grow.nth l i = some o) (hp : Grow.plain o = true)
    (h : wpQuiet P l.toArray (fun w' => ∃ p : Regrown, w' = grow (redrawn w p.d) p.os) (fun a' => Seq L P l.toArray Q r a' w) [o] a) : Seq L P l.toArray Q ((i, true) :: r) a w := by
  have ho := (Grow.nth_at l i).trans hn
  unfold wpQuiet at h
  split at h
  · rename_i hw
    obtain ⟨v, h1, h2⟩ := h
    refine ⟨o, ho, v, .inl ⟨hw, fun u hu => ?_⟩, h2⟩
    have q := h1 u (regrown_of_below hu)
    unfold Oper.quietAt at q
    cases hx : (execOp a.eval o).run P u with
    | ok n u' =>
      obtain ⟨x, rfl⟩ := Grow.plain_value hp hx
      rw [hx] at q
      obtain ⟨rfl, rfl⟩ := q
      rfl
    | halt x u' => rw [hx] at q; exact q.elim
  · rename_i hw
    exact ⟨o, ho, undef, .inr ⟨by simpa using hw, rfl⟩, h⟩
/-- A nil check of what is not nil. -/
theorem checks {L : Nat} {l : List Oper} {i : Nat} {o : Oper} {r : List (Nat × Bool)} {a : Act} {w : World} (hn : Grow.nth l i = some o) (hgd : o.guard = none) (x : Operand) (ho : o.op = .nilCheck x) (p : Addr) (hx : a.eval x = .pointer (some p))
    (h : Seq L P l.toArray Q r (a.put o.dst (.pointer (some p))) w) : Seq L P l.toArray Q ((i, true) :: r) a w := by
  refine ⟨o, (Grow.nth_at l i).trans hn, .pointer (some p), .inl ⟨by simp [Region.wanted, hgd], fun u _ => ?_⟩, h⟩
  unfold execOp
  simp only [ho, hx]
  rfl
/-- What follows a call. -/
def On (L : Nat) (P : Program) (ops : Array Oper) (Q : Exit → Act → World → Prop) (r : List (Nat × Bool)) (w : World) (a' : Act) (w' : World) : Prop := Below w.heap.size w w' ∧ Seq L P ops Q r a' w'
/-- One operation that acts: a call. -/
theorem acts {L : Nat} {l : List Oper} {i : Nat} {o : Oper} {r : List (Nat × Bool)} {a : Act} {w : World} (hn : Grow.nth l i = some o)
    (h : wpList P l.toArray (Exit.then (On L P l.toArray Q r w) Q) [o] a w) : Seq L P l.toArray Q ((i, false) :: r) a w :=
  .inl ⟨o, (Grow.nth_at l i).trans hn, h⟩
/-- What follows the last operation. -/
def Done (Q : Exit → Act → World → Prop) (a' : Act) (w' : World) : Prop := Q .normal a' w'
/-- The last operation: it may write what was there. -/
theorem last {L : Nat} {l : List Oper} {o : Oper} {a : Act} {w : World} (hn : Grow.nth l L = some o)
    (h : wpList P l.toArray (Exit.then (Done Q) Q) [o] a w) : Seq L P l.toArray Q [(L, false)] a w :=
  .inr ⟨rfl, o, (Grow.nth_at l L).trans hn, h⟩
theorem done {a : Act} {w : World} (h : Q .normal a w) : Done Q a w := h
end
end Go.Proofs.YtechkdhehipliaaGreatDoor.GrowL
