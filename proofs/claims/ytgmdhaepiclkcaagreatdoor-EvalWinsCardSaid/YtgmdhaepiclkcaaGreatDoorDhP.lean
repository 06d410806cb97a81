/- What the project's order of package dag returns: a contract. -/
import Derived.Test.YtgmdhaepiclkcaaGreatDoorDhOJ3
import Derived.Test.YtgmdhaepiclkcaaGreatDoorSmallJ8
import Derived.Shelf.SlSortCmp.NoneTotal
namespace Go.Proofs.YtgmdhaepiclkcaaGreatDoor.DhP
set_option maxRecDepth 100000
open Go Go.Shelf Go.Sort Go.RowKit Go.Lib Byt IdM IdW OpsM OpsW CmM StW CmW CmX CmY DgM DgW DgI DhO
theorem cf_neg (l : List Cv) (own : List Idn) (i j : Nat) : decide (cfN l own i j < 0) = true ↔ gN l i < gN l j ∨ gN l i = gN l j ∧ less (own.getD i nought) (own.getD j nought) = true := by
 rw [decide_eq_true_eq]
 unfold cfN
 by_cases h : gN l i = gN l j
 · rw [if_pos h]
   cases h1 : less (own.getD i nought) (own.getD j nought) with
   | true => rw [if_pos rfl]; exact ⟨fun _ => .inr ⟨h, rfl⟩, fun _ => by omega⟩
   | false =>
     rw [if_neg (by simp)]
     constructor
     · intro h2
       split at h2 <;> omega
     · rintro (h2 | ⟨_, h2⟩)
       · omega
       · cases h2
 · rw [if_neg h]
   by_cases h2 : gN l i < gN l j
   · rw [if_pos h2]; exact ⟨fun _ => .inl h2, fun _ => by omega⟩
   · rw [if_neg h2]
     constructor
     · intro h3; omega
     · rintro (h3 | ⟨h3, _⟩)
       · exact absurd h3 h2
       · exact absurd h3 h
def cfF (l : List Cv) (own : List Idn) (n : Nat) (x y : Fin n) : Int := cfN l own x.1 y.1
def encF (n : Nat) (x : Fin n) : Value := .int .i64 (x.1 : Nat)
theorem lt_iff (l : List Cv) (own : List Idn) (n : Nat) (x y : Fin n) : ltOf (cfF l own n) x y = true ↔ gN l x.1 < gN l y.1 ∨ gN l x.1 = gN l y.1 ∧ less (own.getD x.1 nought) (own.getD y.1 nought) = true := cf_neg l own x.1 y.1
theorem swo (l : List Cv) (own : List Idn) (n : Nat) : SWO (ltOf (cfF l own n)) where
 irrefl x := by
   rw [← Bool.not_eq_true, lt_iff, less_irrefl]
   rintro (h | ⟨_, h⟩)
   · omega
   · cases h
 trans x y z h1 h2 := by
   rw [lt_iff] at *
   rcases h1 with h1 | ⟨h1, h1'⟩ <;> rcases h2 with h2 | ⟨h2, h2'⟩
   · exact .inl (by omega)
   · exact .inl (by omega)
   · exact .inl (by omega)
   · exact .inr ⟨by omega, less_trans h1' h2'⟩
 ntrans x y z h1 h2 := by
   rw [← Bool.not_eq_true, lt_iff] at *
   rintro (h3 | ⟨h3, h3'⟩)
   · by_cases e : gN l x.1 < gN l y.1
     · exact h1 (.inl e)
     · by_cases e2 : gN l y.1 < gN l z.1
       · exact h2 (.inl e2)
       · omega
   · by_cases e : gN l x.1 < gN l y.1
     · exact h1 (.inl e)
     · by_cases e2 : gN l y.1 < gN l z.1
       · exact h2 (.inl e2)
       · have e3 : gN l x.1 = gN l y.1 := by omega
         have k1 : less (own.getD x.1 nought) (own.getD y.1 nought) = false := by
           rw [← Bool.not_eq_true]; exact fun k => h1 (.inr ⟨e3, k⟩)
         have k2 : less (own.getD y.1 nought) (own.getD z.1 nought) = false := by
           rw [← Bool.not_eq_true]; exact fun k => h2 (.inr ⟨by omega, k⟩)
         by_cases e4 : own.getD x.1 nought = own.getD y.1 nought
         · rw [e4, k2] at h3'; cases h3'
         · have k3 := less_of_ne k1 (fun e => e4 e)
           have k4 := less_trans k3 h3'
           rw [k2] at k4
           cases k4
theorem blk_below {w w' : World} {g : Nat} {o : Obj} (h : w.heap[g]? = some o) (hb : Below w.heap.size w w') : w'.heap[g]? = some o := by rw [hb.block g (Array.getElem?_eq_some_iff.1 h).1, h]
theorem info_one : (Tryz.prog.info? 3).map (·.size) = some 1 := by kernel_rfl
section
variable {ops : Array Oper} {rest : List Oper} {o : Oper} {a : Act} {w : World} {Q : Exit → Act → World → Prop}
theorem make_ints (hgd : o.guard = none) (x y : Operand) (ho : o.op = .makeSlice 106 x y) (n : Nat) (hx : a.eval x = .int .i64 n) (hy : a.eval y = .int .i64 n) (hn : n ≤ 1500000000000)
   (h : ∀ w1, w1.heap[w.heap.size]? = some (.cells (nv (List.replicate n 0)).toArray 3 (0, 0)) → Below w.heap.size w w1 → w1.heap.size = w.heap.size + 1 → wpList Tryz.prog ops Q rest (a.put o.dst (.slice (some ⟨w.heap.size, 0, none⟩) n n)) w1) : wpList Tryz.prog ops Q (o :: rest) a w := by
 refine wpList_plain hgd fun K hK => ?_
 obtain ⟨i, hi, z0, z1, z2⟩ := info_parts info_int
 have hrun := run_make (P := Tryz.prog) w 106 3 i (.int .i64 0) Tryz.underlying106 hi z0 .i64 .i64 n n (by omega) (by omega) (by rw [z2]; omega) (by omega)
 rw [show (Value.int .i64 0).cells = #[.int .i64 0] from rfl, z1, Nat.mul_one, Int.toNat_natCast, Small.made_replicate] at hrun
 unfold Oper.wp
 simp [execOp, ho, hx, hy, hrun, Result.andThen]
 refine hK _ _ (h _ ?_ ((Below.refl _ _).alloc (Nat.le_refl _) _) (by simp))
 rw [heap_alloc_new]
 unfold nv
 rw [List.map_replicate]
 rfl
theorem store_int (hgd : o.guard = none) (hd : o.dst = none) (x y : Operand) (ho : o.op = .store 3 x y) (g j : Nat) (L : List Nat) (hg : w.heap[g]? = some (.cells (nv L).toArray 3 (0, 0))) (hj : j < L.length)
   (hx : a.eval x = .pointer (some ⟨g, j, none⟩)) (n : Nat) (hy : a.eval y = .int .i64 n)
   (h : ∀ w', w'.heap[g]? = some (.cells (nv (L.set j n)).toArray 3 (0, 0)) → (∀ B, B ≤ g → Below B w w') → w'.heap.size = w.heap.size → wpList Tryz.prog ops Q rest a w') : wpList Tryz.prog ops Q (o :: rest) a w := by
 refine wpList_plain hgd fun K' hK => ?_
 have hrun := RowF.run_store_one (T := 3) (v := .int .i64 n) hg (by rw [List.size_toArray, nv_length]; exact hj) info_one rfl rfl
 unfold Oper.wp execOp
 simp only [ho, hx, hy, Sem.run_bind, hrun, Result.andThen_ok, Sem.run_pure]
 refine hK _ _ ?_
 rw [hd]
 refine h _ ?_ (fun B hB => (Below.refl B w).setCell (p := ⟨g, j, none⟩) hB _) (by simp [World.setCell])
 simp only [World.setCell]
 rw [Array.getElem?_modify, if_pos rfl, hg]
 simp [nv, List.map_set]
end
theorem extract_all {α : Type} (d : Array α) {n : Nat} (h : d.size = n) : (d.extract 0 n).toList = d.toList := by
 subst h
 simp
theorem one_enc (n : Nat) : OneCell (encF n) := fun _ => rfl
theorem fin_vals (n : Nat) : (List.finRange n).map (fun x => x.1) = List.range n := by
 apply List.ext_getElem
 · simp
 · intro i h1 h2
   simp
theorem nv_fin {n : Nat} (L : List (Fin n)) : L.map (encF n) = nv (L.map fun x => x.1) := by
 unfold nv encF
 rw [List.map_map]
 rfl
theorem grown_sorted {n g k : Nat} [Inhabited (Fin n)] {w : World} {d : Array (Fin n)} {os : Array Obj} : w.grownBy (sortWorld (encF n) w g 0 k d os) (some g) := by
 unfold sortWorld
 refine ⟨rfl, rfl, rfl, ?_, fun i hi hne => ?_⟩
 · rw [Sort.size_grow, size_putRow]
   exact Nat.le_add_right _ _
 · rw [Sort.heap_grow_old _ _ (by rw [size_putRow]; exact hi)]
   show (Array.modify w.heap g _)[i]? = _
   rw [Array.getElem?_modify, if_neg (fun e => hne (by rw [e]))]
theorem heap_sorted {n g k : Nat} [Inhabited (Fin n)] {w : World} {d : Array (Fin n)} {os : Array Obj} {L : List Nat} {t : TypeId} (hg : w.heap[g]? = some (.cells (nv L).toArray t (0, 0))) (hd : d.size = L.length) : (sortWorld (encF n) w g 0 k d os).heap[g]? = some (.cells (nv (d.toList.map fun x => x.1)).toArray t (0, 0)) := by
 have hlt : g < w.heap.size := (Array.getElem?_eq_some_iff.1 hg).1
 unfold sortWorld
 rw [Sort.heap_grow_old _ _ (by rw [size_putRow]; exact hlt)]
 unfold putRow mapBlock
 show (Array.modify w.heap g _)[g]? = _
 rw [Array.getElem?_modify, if_pos rfl, hg]
 simp only [Option.map_some, onCells]
 congr 2
 rw [← nv_fin]
 apply Array.ext_getElem?
 intro i
 by_cases hi : i < d.size
 · rw [putCells, Array.getElem?_mapIdx, Array.getElem?_eq_getElem (by rw [List.size_toArray, nv_length]; omega), Option.map_some, if_pos ⟨Nat.zero_le _, by omega⟩, List.getElem?_toArray, List.getElem?_map, Array.getElem?_toList, Array.getElem?_eq_getElem hi, Option.map_some, Nat.sub_zero, getElem!_pos d i hi]
 · rw [Array.getElem?_eq_none (by simp [putCells, nv_length]; omega), Array.getElem?_eq_none (by simp; omega)]
theorem sort_places (A A' : Option Addr) (cap cap' : Nat) (l : List Cv) (own : List Idn) (w W : World) (S : SlK w A cap l) (T : SlI w A' cap' own) (ho : own.length = l.length) (hl : l.length ≤ 1500000000000) (hb : Below w.heap.size w W) (g g0 g1 : Nat)
   (c0 : ∃ t, W.heap[g0]? = some (.cells #[.slice A l.length cap] t (0, 0))) (c1 : ∃ t, W.heap[g1]? = some (.cells #[.slice A' own.length cap'] t (0, 0))) (h0 : g0 ≠ g) (h1 : g1 ≠ g) (hwg : w.heap.size ≤ g) (hg : W.heap[g]? = some (.cells (nv (List.range l.length)).toArray 3 (0, 0))) :
   Calls Tryz.prog 115 #[.slice (some ⟨g, 0, none⟩) l.length l.length, .func (.func 116) #[] #[.pointer (some ⟨g0, 0, none⟩), .pointer (some ⟨g1, 0, none⟩)]] W fun e w' =>
     e = .returned (.tuple #[]) ∧ ∃ P, w'.heap[g]? = some (.cells (nv P).toArray 3 (0, 0)) ∧ P.Perm (List.range l.length) ∧ P.Pairwise (fun i j => ¬ cfN l own j i < 0) ∧ Below w.heap.size w w' := by
 have hlt : g < W.heap.size := (Array.getElem?_eq_some_iff.1 hg).1
 obtain ⟨n, hn⟩ : ∃ n, l.length = n := ⟨_, rfl⟩
 cases n with
 | zero =>
   rw [hn] at hg ⊢
   refine (AnyF.slices_SortFunc_none (P := Tryz.prog) (ρ := Tryz.sortInts_ren) { Tryz.sortInts with } _ _ _ W).mono ?_
   rintro e w' ⟨rfl, rfl⟩
   exact ⟨rfl, [], hg, List.Perm.refl _, List.Pairwise.nil, hb⟩
 | succ m =>
   have eg : ∀ args w, (callFunc 116 args).run Tryz.prog w = .ok (.enter 116 args) w := enters_of Tryz.func116 (by kernel_rfl) rfl
   have hcmp : CmpLays1 Tryz.prog 116 #[.pointer (some ⟨g0, 0, none⟩), .pointer (some ⟨g1, 0, none⟩)] (encF (m + 1)) (cfF l own (m + 1)) g 0 (m + 1) W := by
     intro k os dk _ x y
     have gr : W.grownBy (sortWorld (encF (m + 1)) W g 0 k dk os) (some g) := grown_sorted
     have hb2 : Below w.heap.size w (sortWorld (encF (m + 1)) W g 0 k dk os) := below_grown hb (Nat.le_trans hwg (Nat.le_of_lt hlt)) gr (fun q hq => by cases hq; exact hwg)
     obtain ⟨t0, e0⟩ := c0
     obtain ⟨t1, e1⟩ := c1
     have E : Env (sortWorld (encF (m + 1)) W g 0 k dk os) g0 g1 A A' cap cap' l own := ⟨⟨t0, by rw [gr.block g0 (Array.getElem?_eq_some_iff.1 e0).1 (fun e => h0 (by injection e)), e0]⟩, ⟨t1, by rw [gr.block g1 (Array.getElem?_eq_some_iff.1 e1).1 (fun e => h1 (by injection e)), e1]⟩, S.below hb2, T.below hb2⟩
     exact cmp_ret g0 g1 A A' cap cap' l own x.1 y.1 (by have := x.2; omega) (by have := y.2; omega) ho _ E
   have hsz : (List.finRange (m + 1)).toArray.size = m + 1 := by simp
   have hH : Holds (encF (m + 1)) W g 0 (List.finRange (m + 1)).toArray := by
     intro j hj
     rw [hsz] at hj
     refine ⟨?_, by simp [World.frozen?, hg]⟩
     rw [Nat.zero_add, cell_of_row W g j _ _ (0, 0) hg, hn, List.getElem?_toArray]
     rw [getElem!_pos _ j (by rw [hsz]; exact hj)]
     simp [nv, hj, encF]
   have q := Any.slices_SortFunc Tryz.sortInts (encF (m + 1)) (one_enc _) (cfF l own (m + 1)) (swo l own (m + 1)) 116 #[.pointer (some ⟨g0, 0, none⟩), .pointer (some ⟨g1, 0, none⟩)] g 0 (m + 1) (List.finRange (m + 1)).toArray W eg (by rw [hsz]; exact hcmp) hH hlt (by rw [hsz]; omega)
   rw [hsz] at q
   rw [hn]
   refine q.mono ?_
   rintro e w' ⟨rfl, d', k, os, hp, hs, rfl⟩
   have hd : d'.size = m + 1 := by rw [hp.1, hsz]
   have hperm : d'.toList.Perm (List.finRange (m + 1)) := by
     have q := hp.2.2
     rw [extract_all d' hd, extract_all _ hsz] at q
     exact q
   have gr : W.grownBy (sortWorld (encF (m + 1)) W g 0 k d' os) (some g) := grown_sorted
   have hbe : Below w.heap.size w (sortWorld (encF (m + 1)) W g 0 k d' os) := below_grown hb (Nat.le_trans hwg (Nat.le_of_lt hlt)) gr (fun q hq => by cases hq; exact hwg)
   have hge := heap_sorted (n := m + 1) (k := k) (os := os) hg (d := d') (by rw [hd, List.length_range, hn])
   refine ⟨rfl, d'.toList.map (fun x => x.1), hge, ?_, ?_, hbe⟩
   · have := hperm.map (fun x => x.1)
     rwa [fin_vals] at this
   · rw [List.pairwise_map, List.pairwise_iff_getElem]
     intro i j hi hj hij
     have hi' : i < d'.size := by simpa using hi
     have hj' : j < d'.size := by simpa using hj
     have q := hs i j (Nat.zero_le _) hij (by omega)
     rw [getElem!_pos d' i hi', getElem!_pos d' j hj'] at q
     unfold ltOf at q
     simpa [cfF] using of_decide_eq_false q
theorem range_set (n k : Nat) : ((List.range n).map fun i => if i < k then i else 0).set k k = (List.range n).map fun i => if i < k + 1 then i else 0 := by
 apply List.ext_getElem
 · simp
 · intro i h1 h2
   simp only [List.length_set, List.length_map, List.length_range] at h1
   rw [List.getElem_set]
   simp only [List.getElem_map, List.getElem_range]
   by_cases e : k = i
   · subst e
     rw [if_pos rfl, if_pos (by omega)]
   · rw [if_neg e]
     by_cases e2 : i < k
     · rw [if_pos e2, if_pos (by omega)]
     · rw [if_neg e2, if_neg (by omega)]
theorem fill_no (n : Nat) : List.replicate n 0 = (List.range n).map fun i => if i < 0 then i else 0 := by
 apply List.ext_getElem
 · simp
 · intro i h1 h2
   simp
theorem fill_all (n : Nat) : ((List.range n).map fun i => if i < n then i else 0) = List.range n := by
 apply List.ext_getElem
 · simp
 · intro i h1 h2
   simp only [List.length_map, List.length_range] at h1
   simp [h1]
def Placed (l : List Cv) (own : List Idn) (P : List Nat) : Prop := P.Perm (List.range l.length) ∧ P.Pairwise (fun i j => ¬ cfN l own j i < 0)
set_option maxRecDepth 100000 in
set_option maxHeartbeats 16000000 in
theorem order_ret (A A' : Option Addr) (cap cap' : Nat) (l : List Cv) (own : List Idn) (w : World) (S : SlK w A cap l) (T : SlI w A' cap' own) (ho : own.length = l.length) (hl : l.length ≤ 1500000000000) :
   Calls Tryz.prog 66 #[.slice A l.length cap, .slice A' own.length cap'] w fun e w' => ∃ bp P, e = .returned (.slice (some ⟨bp, 0, none⟩) l.length l.length) ∧ w.heap.size ≤ bp ∧ w'.heap[bp]? = some (.cells (nv P).toArray 3 (0, 0)) ∧ Placed l own P ∧ Below w.heap.size w w' := by
 have hmf : ∀ (fn : Fn) (first cap : Array Value) (w : World), (Instr.makeFunc fn first cap).run Tryz.prog w = .ok (.func fn first cap) w := fun _ _ _ _ => rfl
 have z1 : (w.alloc (.cells #[.slice A l.length cap] 22)).heap.size = w.heap.size + 1 := by simp
 have C0 : ((w.alloc (.cells #[.slice A l.length cap] 22)).alloc (.cells #[.slice A' own.length cap'] 23)).heap[w.heap.size]? = some (.cells #[.slice A l.length cap] 22 (0, 0)) := by
   rw [(StW.below_alloc (w.alloc (.cells #[.slice A l.length cap] 22)) _).block _ (by simp), heap_alloc_new]
 have C1 : ((w.alloc (.cells #[.slice A l.length cap] 22)).alloc (.cells #[.slice A' own.length cap'] 23)).heap[w.heap.size + 1]? = some (.cells #[.slice A' own.length cap'] 23 (0, 0)) := by
   rw [← z1, heap_alloc_new]
 have kb : Below w.heap.size w ((w.alloc (.cells #[.slice A l.length cap] 22)).alloc (.cells #[.slice A' own.length cap'] 23)) := ((Below.refl _ _).alloc (Nat.le_refl _) _).alloc (by simp) _
 have z2 : w.heap.size + 1 < ((w.alloc (.cells #[.slice A l.length cap] 22)).alloc (.cells #[.slice A' own.length cap'] 23)).heap.size := by simp
 generalize hW : (w.alloc (.cells #[.slice A l.length cap] 22)).alloc (.cells #[.slice A' own.length cap'] 23) = W at C0 C1 kb z2
 have c0 := cell_row ⟨_, C0⟩
 have HO := aside ho
 clear z1 ho
 go_enter Tryz.func66, Tryz.ntmps66
 go_wp2_with (first | go_skip | (refine make_ints rfl _ _ rfl l.length rfl rfl hl ?_; intro w1 hg1 k1 s1; have b1 := kb.trans (k1.mono kb.size); have D0 : w1.heap[w.heap.size]? = _ := (k1.block _ (by omega)).trans C0; have D1 : w1.heap[w.heap.size + 1]? = _ := (k1.block _ (by omega)).trans C1; clear s1 C0 C1 kb))
 go_loopw [12] (fun i wr => ∃ k : Nat, k ≤ l.length ∧ i = .int .i64 k ∧ wr.heap[W.heap.size]? = some (.cells (nv ((List.range l.length).map fun i => if i < k then i else 0)).toArray 3 (0, 0)) ∧ wr.heap[w.heap.size]? = some (.cells #[.slice A l.length cap] 22 (0, 0)) ∧ wr.heap[w.heap.size + 1]? = some (.cells #[.slice A' own.length cap'] 23 (0, 0)) ∧ Below w.heap.size w wr) (fun i _ => l.length - (intOf i).toNat)
 case atStart =>
   exact ⟨0, Nat.zero_le _, rfl, by rw [hg1, fill_no], D0, D1, b1⟩
 case round =>
   clear D0 D1 b1 hg1 c0
   obtain ⟨k, hk, rfl, hg, D0, D1, b1⟩ := hrel
   by_cases hlt : k < l.length
   · have p0 : (k : Int) < l.length := by omega
     have m0 : ((k : Int)).toNat = k := by omega
     go_wp2_with (first | go_skip | (refine store_int rfl rfl _ _ rfl W.heap.size k _ hg (by simp; omega) rfl k rfl ?_; intro w2 hg2 f2 s2))
     go_roundw
     case rel =>
       refine ⟨k + 1, by omega, by go_num, by rw [hg2, range_set], ?_, ?_, b1.trans (f2 _ (by omega))⟩
       · rw [(f2 (w.heap.size + 1 + 1) (by omega)).block _ (by omega), D0]
       · rw [(f2 (w.heap.size + 1 + 1) (by omega)).block _ (by omega), D1]
     case measure => simp [intOf]; omega
   · have ek : k = l.length := by omega
     subst ek
     have hg3 : wr.heap[W.heap.size]? = some (.cells (nv (List.range l.length)).toArray 3 (0, 0)) := by
       rw [hg, fill_all]
     have q := sort_places A A' cap cap' l own w wr S T HO.out hl b1 W.heap.size w.heap.size (w.heap.size + 1) ⟨_, D0⟩ ⟨_, D1⟩ (by omega) (by omega) (by omega) hg3
     clear hg
     go_wp2_with (first | go_skip)
     refine q.mono ?_
     rintro e w3 ⟨rfl, P, hg4, hp, hs, b3⟩
     go_wp2_with (first | go_skip)
     go_ret
     exact ⟨_, P, rfl, by omega, hg4, ⟨hp, hs.imp fun h => by omega⟩, b3⟩
end Go.Proofs.YtgmdhaepiclkcaaGreatDoor.DhP
