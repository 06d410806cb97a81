/- What the project's Sorted of package dag returns, where known answers as the document does. No condition. | What package store's laws need of package dag, and of the document's Get: as they are. No condition. | Rows that grow and have no byte in any cell: what holds bytes lies elsewhere. No condition. -/
import Derived.Test.YtgoapaanmcmlmaaGreatDoorDhCJ10
import Derived.Test.YtgoapaanmcmlmaaGreatDoorIdXJ10
import Derived.Test.YtgoapaanmcmlmaaGreatDoorDhK
import Derived.Test.YtgoapaanmcmlmaaGreatDoorCmI
import Derived.Lib.AppendZeros
namespace Go.Proofs.YtgoapaanmcmlmaaGreatDoor.DhD
set_option maxRecDepth 100000
open Go Go.Sort Go.RowKit Byt IdM IdW IdK IdS OpsM OpsW CmM StW CmW CmX CmY CmA DgM DgW DgR DgX DgY DgI DgF DgS DhO DhP DhT DhK DhC DhA DhB
open Classical
theorem sorted_perm {l m : List Com} (C : Closed hashK l) (hp : m.Perm l) (ho : InOrder hashK m) : IsSorted l m := by
 unfold IsSorted
 rw [if_pos C]
 exact ⟨ho, fun z => hp.mem_iff⟩
set_option maxRecDepth 100000 in
set_option maxHeartbeats 32000000 in
theorem sorted_ret (X : KnownRet) (A : Option Addr) (cap : Nat) (l : List Cv) (w : World) (S : SlK w A cap l) (hl : l.length ≤ 1500000000000) (hK : ShaE.KIn w) :
   Calls Tryz.prog 21 #[.slice A l.length cap] w fun e w' => ∃ m, IsSorted (coms l) m ∧ NewC m w e w' := by
 have hmax := S.len
 unfold NewC
 go_enter Tryz.func21, Tryz.ntmps21
 go_wp2_with (first | go_skip)
 refine (ids_ret A cap l w S hl hK).mono ?_
 rintro e w1 ⟨A1, c1, rfl, T1, k1⟩
 go_wp2_with (first | go_skip)
 refine (X A A1 cap c1 l _ w1 (S.below k1) T1 rfl hl).mono ?_
 rintro e w2 ⟨mo, b, rfl, hb, hv, k2⟩
 have b2 := k1.trans (k2.mono k1.size)
 by_cases C : Closed hashK (coms l)
 · rw [decide_eq_true C] at hb
   subst hb
   obtain ⟨mb, rfl, _, _⟩ := hv rfl
   have hfew : l.length ≤ 8388608 := by
     have := DgL.closed_few C
     rwa [coms_len] at this
   have hps : ∀ v ∈ l, v.c.ps.length ≤ 1500000000000 := fun v hv => by
     have := (lineB_iff.1 (mayK_iff.1 (C.may v.c (List.mem_map_of_mem hv))).1).2.2.1
     omega
   have hall : (coms l).all mayK = true := List.all_eq_true.2 fun c hc => C.may c hc
   have hid : idsD (coms l) = (coms l).map hashK := by rw [idsD, if_pos hall]
   have hil : (idsD (coms l)).length = l.length := by rw [hid, List.length_map, coms_len]
   obtain ⟨i, hi, z0, z1, z2⟩ := info_parts KE.info
   obtain ⟨w3, hmk, own3, g3⟩ := run_make_own (P := Tryz.prog) w2 w2.heap.size 35 29 i (.agg (KE.enc KE.zero).toArray) 8 Tryz.underlying35 hi z0 z1 .i64 .i64 l.length (by rw [z2]; show 96 * _ ≤ _; omega) (by unfold maxLen; omega) (Nat.le_refl _)
   have kb3 : Below w2.heap.size w2 w3 := below_grown (Below.refl _ _) (Nat.le_refl _) g3 (fun k hk => by cases hk)
   have q := order_ret A A1 cap c1 l (idsD (coms l)) w3 ((S.below b2).below kb3) ((T1.below k2).below kb3) hil hl
   have HSB := aside (S.below b2)
   have HCL := aside C
   have HID := aside hid
   have HPS := aside hps
   clear hi z0 z1 z2 g3 C hall hid hil hv T1 hps
   go_wp2_with (first | go_skip)
   refine q.mono ?_
   rintro e w4 ⟨bp, P, rfl, hbp, SP, hP, k4⟩
   have b4 := kb3.trans (k4.mono kb3.size)
   have O4 := aside (owns_below own3 k4)
   have hne : Hid (Value.ownBlock (.slice (some ⟨w2.heap.size, 0, none⟩) 0 l.length) ≠ some bp) := aside (fun e => by
     have := (own3.lt bp e).2
     omega)
   have HP := aside hP
   have HPL := aside (show P.length = l.length by rw [hP.1.length_eq, List.length_range])
   clear own3 hmk q kb3 k4 hP hbp
   go_wp2_with (first | go_skip)
   go_loopw [6, 26] (fun o i wq => ∃ (k : Nat) (us : List Cv), k ≤ l.length ∧ us.length = k ∧ i = .int .i64 k ∧ Hid (coms us = atC l (P.take k)) ∧ Hid (wq.ownsRow w2.heap.size 29 8 o us.length (RowS.flat KE us)) ∧ Hid (Held wq o us) ∧ Hid (o.ownBlock ≠ some bp) ∧ wq.heap[bp]? = some (.cells (nv P).toArray 3 (0, 0)) ∧ Below w2.heap.size w2 wq) (fun _ i _ => l.length - (intOf i).toNat)
   case atStart => exact ⟨0, [], Nat.zero_le _, rfl, rfl, aside rfl, O4, aside (Held.nil _ _), hne, SP, b4⟩
   case round =>
     clear O4 hne SP b4
     rename World => wq
     obtain ⟨k, us, hk, hnk, rfl, HU, HO, HH, HNE, SP, kb⟩ := hrel
     by_cases hlt : k < l.length
     · obtain ⟨p, hp⟩ : ∃ p, P[k]? = some p := ⟨_, List.getElem?_eq_getElem (by rw [HPL.out]; exact hlt)⟩
       have cp : wq.cell? ⟨bp, k, none⟩ = some (.int .i64 p) := by rw [cell_of_row wq bp k _ _ (0, 0) SP, List.getElem?_toArray, nv_at hp]
       have hpl : p < l.length := by simpa using HP.out.1.mem_iff.1 (List.mem_of_getElem? hp)
       obtain ⟨b, off, rfl, hbw, hrg⟩ := HSB.out.plain (by omega)
       obtain ⟨x, hx⟩ : ∃ x, l[p]? = some x := ⟨_, List.getElem?_eq_getElem hpl⟩
       have rx := range_on (hrg p x hx) kb
       have hxm := List.mem_of_getElem? hx
       have IX := (HSB.out.each x hxm).1.below kb
       have FX := aside (HSB.out.each x hxm).2
       have hcp := fun W (I : In W x) => copied_ret x W I (HPS.out x hxm)
       have p0 : (k : Int) < l.length := by omega
       have m0 : ((k : Int)).toNat = k := by omega
       have p1 : (p : Int) < l.length := by omega
       have m1 : ((p : Int)).toNat = p := by omega
       have HN := aside (atC_next hp hx)
       have hbq := (Array.getElem?_eq_some_iff.1 SP).1
       clear hrg hx hxm hp
       go_wp2_with (first | go_skip | (refine load_at rfl _ rfl _ _ rfl x rx ?_))
       refine (hcp _ IX).mono ?_
       rintro e w6 ⟨u, rfl, hu, IU, k6, hfar⟩
       have b6 := kb.trans (k6.mono kb.size)
       have O6 := aside (owns_below HO.out k6)
       have H6 := HH.out.below k6
       have P6 := blk_below SP k6
       have hlt6 : ∀ q, Value.ownBlock _ = some q → q < wq.heap.size := fun q hq => (HO.out.lt q hq).2
       have HH6 := aside (H6.snoc IU (fit_of hu FX.out) (fun b off sp e e2 => by
         have h1 := hfar b off sp e
         have h2 := hlt6 b e2
         omega))
       have HU6 := aside (show coms (us ++ [u]) = atC l (P.take (k + 1)) by rw [coms_snoc, HU.out, hu, HN.out])
       clear H6 hlt6 hfar HO HH HU hcp cp SP HN
       go_wp2_with (first | go_skip | (refine build_com rfl _ rfl u rfl ?_; intro w7 B7 k7; have b7 := b6.trans (k7.mono b6.size); have O7 := aside (owns_below O6.out k7); have H7 := aside (HH6.out.below k7); have P7 := blk_below P6 k7) | (refine RowB.wpList_append_at KE rfl (.tmp 30) (.tmp 36) rfl w2.heap.size _ us.length us rfl O7.out _ u rfl B7 (by omega) b7.size ?_; intro v8 w8 o8 g8 e8))
       have b8 : Below w2.heap.size w2 w8 := below_grown b7 b7.size g8 (fun q hq => (O7.out.lt q hq).1)
       have H8 := aside (H7.out.grown g8 e8)
       have hb7 := (Array.getElem?_eq_some_iff.1 P7).1
       have P8 : w8.heap[bp]? = _ := (g8.block bp hb7 (fun e => HNE.out e.symm)).trans P7
       have N8 : Hid (v8.ownBlock ≠ some bp) := aside (fun e => by
         rcases e8 with e8 | e8
         · rw [e8] at e; exact HNE.out e
         · rw [e8] at e
           injection e with e
           omega)
       go_roundw
       case rel => exact ⟨k + 1, us ++ [u], by omega, by simp; omega, by go_num, HU6, aside (by rw [List.length_append]; exact o8), H8, N8, P8, b8⟩
       case measure => simp [intOf]; omega
     · obtain rfl : k = l.length := by omega
       have HO2 := HO.out
       have HU2 := HU.out
       rw [show P.take l.length = P by rw [← HPL.out, List.take_length]] at HU2
       obtain ⟨A6, c6, rfl, R6⟩ := own_in HO2 HH.out.each
       have HU3 := aside HU2
       have HSO := aside (sorted_perm HCL.out (atC_perm HP.out.1) (inOrder HID.out HP.out HCL.out))
       clear HO HO2 HU HU2 HH
       go_wp2_with (first | go_skip)
       go_ret
       exact ⟨_, HSO.out, A6, c6, us, rfl, R6, HU3.out, b2.trans (kb.mono b2.size)⟩
 · rw [decide_eq_false C] at hb
   subst hb
   have HC := aside C
   clear C hv
   go_wp2_with (first | go_skip)
   go_ret
   refine ⟨[], ?_, none, 0, [], rfl, SlK.nil _, rfl, b2⟩
   unfold IsSorted
   rw [if_neg HC.out]
end Go.Proofs.YtgoapaanmcmlmaaGreatDoor.DhD
namespace Go.Proofs.YtgoapaanmcmlmaaGreatDoor.StoH
set_option maxRecDepth 100000
open Go Go.Sort Go.RowKit StoG
theorem dag1 : Dag1 := ⟨fun A cap l w S hl K => DhA.closed_ret DhK.known_ret A cap l w S (by omega) K⟩
theorem dag2 : Dag2 := ⟨fun A cap l w S hl K => DhA.closed_ret DhK.known_ret A cap l w S (by omega) K, fun A cap l w S hl K => DhD.sorted_ret DhK.known_ret A cap l w S (by omega) K⟩
end Go.Proofs.YtgoapaanmcmlmaaGreatDoor.StoH
namespace Go.Proofs.YtgoapaanmcmlmaaGreatDoor.StoJ
set_option maxRecDepth 100000
open Go Go.Sort Go.RowKit Byt IdM IdW OpsM OpsW CmM StW CmW CmX CmY DgM DgW RowS
def Dry (w : World) (v : Value) : Prop := ∀ g, v.ownBlock = some g → CmD.NoU8 w g
theorem dry_nil (w : World) : Dry w (.slice none 0 0) := fun g h => by cases h
theorem no_cells {w : World} {g : Nat} {cs : Array Value} {e : TypeId} {fz : Nat × Nat} (h : w.heap[g]? = some (.cells cs e fz)) (hc : ∀ u ∈ cs.toList, CmD.isU8 u = false) : CmD.NoU8 w g := fun j v hv => by
 rw [cell_of_row _ _ _ _ _ _ h] at hv
 exact hc v (List.mem_of_getElem? (by simpa using hv))
theorem cells_no {w : World} {g : Nat} {cs : Array Value} {e : TypeId} {fz : Nat × Nat} (h : w.heap[g]? = some (.cells cs e fz)) (hn : CmD.NoU8 w g) : ∀ u ∈ cs.toList, CmD.isU8 u = false := fun u hu => by
 obtain ⟨j, hj⟩ := List.mem_iff_getElem?.1 hu
 exact hn j u (by rw [cell_of_row _ _ _ _ _ _ h]; simpa using hj)
theorem no_kept {w w' : World} {g : Nat} {row : Option Nat} (h : CmD.NoU8 w g) (hl : g < w.heap.size) (hg : w.grownBy w' row) (hne : some g ≠ row) : CmD.NoU8 w' g := fun j v hv => h j v (by
 unfold World.cell? at hv ⊢
 rw [hg.block g hl hne] at hv
 exact hv)
theorem Dry.kept {w w' : World} {v : Value} {row : Option Nat} (h : Dry w v) (hl : ∀ g, v.ownBlock = some g → g < w.heap.size) (hg : w.grownBy w' row) (hne : ∀ g, v.ownBlock = some g → some g ≠ row) : Dry w' v := fun g hq => no_kept (h g hq) (hl g hq) hg (hne g hq)
theorem zero_mem {z : Array Value} {n : Nat} {u : Value} (hz : 0 < z.size) (h : u ∈ (Builtin.zeroCells z n).toList) : u ∈ z.toList := by
 unfold Builtin.zeroCells at h
 simp only [Array.toList_map, Array.toList_range, List.mem_map, List.mem_range] at h
 obtain ⟨i, _, rfl⟩ := h
 have hlt : i % z.size < z.size := Nat.mod_lt _ hz
 rw [getElem!_pos z (i % z.size) hlt]
 exact Array.getElem_mem_toList hlt
section
variable {P : Program} (w : World)
theorem run_append_dry (base : Nat) (t ty e : TypeId) (i : TypeInfo) (z : Value) (size bytes : Nat) (ht : P.underlying t = some (.slice e)) (hi : P.info? e = some i) (hz : i.zero = some z)
   (hsize : i.size = size) (hby : i.bytes = bytes) (hzs : z.cells.size = size) (hsz : 0 < size)
   (v : Value) (n : Nat) (xs : List Value) (hown : w.ownsRow base e size v n xs)
   (a : Addr) (c : Nat) (news : List Value) (hl : news.length = size) (hnews : ∀ j u, news[j]? = some u → w.cell? (a.add j) = some u) (h1 : ∀ u ∈ news, u.oneCell' = true)
   (h63 : n + 1 ≤ maxLen) (hbytes : (n + 1) * bytes ≤ 140737488355328) (hbase : base ≤ w.heap.size) (hd : Dry w v) (hz0 : ∀ u ∈ z.cells.toList, CmD.isU8 u = false) (hn0 : ∀ u ∈ news, CmD.isU8 u = false) :
   ∃ v' w', (Builtin.append_ #[t, t] ty #[v, .slice (some a) 1 c]).run P w = .ok v' w' ∧ w'.ownsRow base e size v' (n + 1) (xs ++ news) ∧ w.grownBy w' v.ownBlock ∧
     (v'.ownBlock = v.ownBlock ∨ v'.ownBlock = some w.heap.size) ∧ Dry w' v' := by
 obtain ⟨v', w', hr, o1, o2, _, o4⟩ := run_append_own_at (P := P) w base t ty e i z size bytes ht hi hz hsize hby hzs hsz v n xs hown a 1 c news (by rw [hl, Nat.one_mul]) hnews h1 h63 hbytes hbase
 refine ⟨v', w', hr, o1, o2, o4, ?_⟩
 subst hsize
 subst hby
 have hsmall : n + 1 ≤ 9223372036854775807 := by simp only [maxLen] at h63; omega
 have hpos : 0 < z.cells.size := by omega
 have hzz : ∀ k, ∀ u ∈ (Builtin.zeroCells z.cells k).toList, CmD.isU8 u = false := fun k u hu => hz0 u (zero_mem hpos hu)
 have hl1 : news.length = 1 * i.size := by rw [hl, Nat.one_mul]
 rcases hown.2 with ⟨rfl, rfl⟩ | ⟨g, cap, cur, rfl, hbg, hg, hnc, hcm, hcs, htake⟩
 · have hr2 := run_append_nil (P := P) w t ty e i z ht hi hz a 1 c news hl1 hnews (by omega) (by omega) (by omega)
   rw [hr] at hr2
   injection hr2 with e1 e2
   subst e1
   subst e2
   intro q hq
   injection hq with hq
   subst hq
   refine no_cells (heap_alloc_new w.drew _) fun u hu => ?_
   rw [Array.toList_append, List.mem_append] at hu
   rcases hu with hu | hu
   · exact hn0 u hu
   · exact hzz _ u hu
 · have hcur := cells_no hg (hd g rfl)
   by_cases hroom : n + 1 ≤ cap
   · have hfit : n * i.size + news.length ≤ cur.size := by rw [hl1, hcs, ← Nat.add_mul]; exact Nat.mul_le_mul_right _ hroom
     have hr2 := run_append_room (P := P) w t ty e i ht hi g n cap cur hg a 1 c news hl1 hnews h1 hroom hfit
     rw [hr] at hr2
     injection hr2 with e1 e2
     subst e1
     subst e2
     intro q hq
     injection hq with hq
     subst hq
     refine no_cells (setRow_heap w _ cur _ e _ hg) fun u hu => ?_
     simp only [List.mem_append] at hu
     rcases hu with (hu | hu) | hu
     · exact hcur u (List.mem_of_mem_take hu)
     · exact hn0 u hu
     · exact hcur u (List.mem_of_mem_drop hu)
   · have holds : ∀ j u, xs[j]? = some u → w.cell? ((⟨g, 0, none⟩ : Addr).add j) = some u := hown.cells (g := g) rfl
     have hr2 := run_append_grow (P := P) w t ty e i z ht hi hz ⟨g, 0, none⟩ n cap xs hown.1 holds a 1 c news hl1 hnews (by omega) (by omega) (growslice_fits (by omega) hbytes)
     rw [hr] at hr2
     injection hr2 with e1 e2
     subst e1
     subst e2
     intro q hq
     injection hq with hq
     subst hq
     refine no_cells (heap_alloc_new w.drew _) fun u hu => ?_
     simp only [Array.toList_append, List.mem_append] at hu
     rcases hu with (hu | hu) | hu
     · exact hcur u (by rw [← htake] at hu; exact List.mem_of_mem_take hu)
     · exact hn0 u hu
     · exact hzz _ u hu
end
theorem append_dry {α : Type} {w : World} {ops : Array Oper} {rest : List Oper} {o : Oper} {a : Act} {Q : Exit → Act → World → Prop} (E : Enc α) (hE : ∀ x, ∀ u ∈ E.enc x, CmD.isU8 u = false) (hgd : o.guard = none) (s x : Operand)
   (ho : o.op = .call { callee := .builtin .append, args := #[s, x], argTypes := #[E.S, E.S] })
   (base : Nat) (v : Value) (n : Nat) (xs : List α) (hs : a.eval s = v) (hown : w.ownsRow base E.T E.k v n (flat E xs)) (hd : Dry w v)
   (g : Nat) (y : α) (hx : a.eval x = .slice (some ⟨g, 0, none⟩) 1 1) (hr : RowB.Box E w g y)
   (h63 : n ≤ 100000000) (hbase : base ≤ w.heap.size)
   (h : ∀ v' w', w'.ownsRow base E.T E.k v' (n + 1) (flat E (xs ++ [y])) → w.grownBy w' v.ownBlock → (v'.ownBlock = v.ownBlock ∨ v'.ownBlock = some w.heap.size) → Dry w' v' → wpList Tryz.prog ops Q rest (a.put o.dst v') w') : wpList Tryz.prog ops Q (o :: rest) a w := by
 obtain ⟨i, hi, z0, z1, z2⟩ := info_parts E.info
 have hb : (n + 1) * E.bytes ≤ 140737488355328 := by
   have h3 : (n + 1) * E.bytes ≤ 100000001 * 100 := Nat.mul_le_mul (by omega) E.small
   omega
 obtain ⟨v', w', hrun, o1, o2, o4, o5⟩ := run_append_dry (P := Tryz.prog) w base E.S o.type E.T i (.agg (E.enc E.zero).toArray) E.k E.bytes E.slice hi z0 z1 z2 (by simp [Value.cells, E.len]) E.pos v n (flat E xs) hown ⟨g, 0, none⟩ 1 (E.enc y) (E.len y)
   (fun j u hu => by rw [Addr.add_lit, Nat.zero_add]; exact hr.cell hu) (fun u hu => E.one y u hu) (by unfold maxLen; omega) hb hbase hd (fun u hu => hE _ u (by simpa [Value.cells] using hu)) (fun u hu => hE _ u hu)
 exact Lib.wpList_append_run w hgd s x E.S E.S ho v (.slice (some ⟨g, 0, none⟩) 1 1) hs hx v' w' hrun (h v' w' (by rw [RowS.flat_append, RowS.flat_one]; exact o1) o2 o4 o5)
theorem dry_com (x : Cv) : ∀ u ∈ KE.enc x, CmD.isU8 u = false := fun u hu => by
 simp only [KE, List.mem_cons, List.not_mem_nil, or_false] at hu
 rcases hu with rfl | rfl | rfl | rfl | rfl | rfl | rfl | rfl <;> rfl
def nums (l : List Int) : List Value := l.map (Value.int .i64)
theorem nums_snoc (l : List Int) (n : Int) : nums (l ++ [n]) = nums l ++ [.int .i64 n] := by simp [nums]
theorem zero_num : (Tryz.prog.info? 3).map (fun i => (i.zero, i.size, i.bytes)) = some (some (.int .i64 0), 1, 8) := by kernel_rfl
theorem append_num {w : World} {ops : Array Oper} {rest : List Oper} {o : Oper} {a : Act} {Q : Exit → Act → World → Prop} (hgd : o.guard = none) (s x : Operand)
   (ho : o.op = .call { callee := .builtin .append, args := #[s, x], argTypes := #[45, 45] })
   (base : Nat) (v : Value) (n : Nat) (xs : List Int) (hs : a.eval s = v) (hown : w.ownsRow base 3 1 v n (nums xs)) (hd : Dry w v)
   (g : Nat) (y : Int) (hx : a.eval x = .slice (some ⟨g, 0, none⟩) 1 1) (hr : One w g (.int .i64 y))
   (h63 : n ≤ 100000000) (hbase : base ≤ w.heap.size)
   (h : ∀ v' w', w'.ownsRow base 3 1 v' (n + 1) (nums (xs ++ [y])) → w.grownBy w' v.ownBlock → (v'.ownBlock = v.ownBlock ∨ v'.ownBlock = some w.heap.size) → Dry w' v' → wpList Tryz.prog ops Q rest (a.put o.dst v') w') : wpList Tryz.prog ops Q (o :: rest) a w := by
 obtain ⟨i, hi, z0, z1, z2⟩ := info_parts zero_num
 obtain ⟨v', w', hrun, o1, o2, o4, o5⟩ := run_append_dry (P := Tryz.prog) w base 45 o.type 3 i (.int .i64 0) 1 8 Tryz.underlying45 hi z0 z1 z2 rfl (by omega) v n (nums xs) hown ⟨g, 0, none⟩ 1 [.int .i64 y] rfl
   (fun j u hu => by
     rw [Addr.add_lit, Nat.zero_add]
     match j, hu with
     | 0, hu => simp at hu; subst hu; exact hr.cell
     | j + 1, hu => simp at hu) (fun u hu => by simp at hu; subst hu; rfl) (by unfold maxLen; omega) (by omega) hbase hd (fun u hu => by simp [Value.cells] at hu; subst hu; rfl) (fun u hu => by simp at hu; subst hu; rfl)
 exact Lib.wpList_append_run w hgd s x 45 45 ho v (.slice (some ⟨g, 0, none⟩) 1 1) hs hx v' w' hrun (h v' w' (by rw [nums_snoc]; exact o1) o2 o4 o5)
end Go.Proofs.YtgoapaanmcmlmaaGreatDoor.StoJ
