/- Rows of commits of the call's own: a field stored in place, one taken out, one more behind a slice that has no room. No condition but sizes. -/
import Derived.Test.YteojkfbnenfmkaaDoorIdTJ6
import Derived.Test.YteojkfbnenfmkaaDoorRowFJ4
import Derived.Test.YteojkfbnenfmkaaDoorDgKJ8
import Derived.Lib.AppendZeros
import Derived.Lib.SliceRun
namespace Go.Proofs.YteojkfbnenfmkaaDoor.WtG
set_option maxRecDepth 100000
open Go Go.Sort Go.RowKit Byt IdM IdW OpsM OpsW CmM StW CmW CmX CmY DgM DgW RowS RowH DhB

section
variable {w : World} {base g n cap : Nat}
theorem own_block {xs : List Value} (h : w.ownsRow base 29 8 (.slice (some ⟨g, 0, none⟩) n cap) n xs) : ∃ cur, base ≤ g ∧ w.heap[g]? = some (.cells cur 29 (0, 0)) ∧ n ≤ cap ∧ cap ≤ maxLen ∧ cur.size = cap * 8 ∧ cur.toList.take (n * 8) = xs := by
  rcases h.2 with ⟨h', _⟩ | ⟨g', cap', cur, h', hb, hg, hnc, hcm, hcs, htake⟩
  · simp at h'
  · simp only [Value.slice.injEq, Option.some.injEq, Addr.mk.injEq, and_true, true_and] at h'
    obtain ⟨rfl, rfl⟩ := h'
    exact ⟨cur, hb, hg, hnc, hcm, hcs, htake⟩
/-- The first ones of a row. -/
theorem own_pre {xs : List Value} (h : w.ownsRow base 29 8 (.slice (some ⟨g, 0, none⟩) n cap) n xs) (m : Nat) (hm : m ≤ n) : w.ownsRow base 29 8 (.slice (some ⟨g, 0, none⟩) m cap) m (xs.take (m * 8)) := by
  obtain ⟨cur, h1, h2, h3, h4, h5, h6⟩ := own_block h
  refine ⟨?_, .inr ⟨g, cap, cur, rfl, h1, h2, Nat.le_trans hm h3, h4, h5, ?_⟩⟩
  · rw [List.length_take, h.1]
    omega
  · rw [← h6, List.take_take, Nat.min_eq_left (by omega)]
theorem own_len {l : List Cv} {v : Value} (h : w.ownsRow base 29 8 v n (RowS.flat KE l)) : l.length = n := by
  have := h.1
  rw [RowS.flat_length] at this
  exact Nat.eq_of_mul_eq_mul_right (by decide : 0 < 8) this
theorem flat_set (pre post : List Cv) (v : Cv) (A2 : Option Addr) (k2 : Nat) : (RowS.flat KE (pre ++ v :: post)).set (pre.length * 8 + 3) (.slice A2 v.c.ps.length k2) = RowS.flat KE (pre ++ ⟨A2, k2, v.c⟩ :: post) := by
  rw [RowS.flat_append, RowS.flat_append, RowS.flat_cons, RowS.flat_cons]
  have hl : (RowS.flat KE pre).length = pre.length * 8 := RowS.flat_length KE pre
  rw [← hl, List.set_append_right _ _ (by omega), Nat.add_sub_cancel_left]
  rfl
/-- The parents of a commit stored, in a row of the call's own. -/
theorem wpList_store_ps {ops : Array Oper} {rest : List Oper} {o : Oper} {a : Act} {Q : Exit → Act → World → Prop} (hgd : o.guard = none) (hd : o.dst = none) (x y : Operand) (ho : o.op = .store 25 x y)
    (pre post : List Cv) (v : Cv) (hown : w.ownsRow base 29 8 (.slice (some ⟨g, 0, none⟩) n cap) n (RowS.flat KE (pre ++ v :: post)))
    (off : Nat) (hoff : off = pre.length * 8 + 3) (hx : a.eval x = .pointer (some ⟨g, off, none⟩)) (A2 : Option Addr) (k2 : Nat) (hy : a.eval y = .slice A2 v.c.ps.length k2)
    (h : ∀ w', w'.ownsRow base 29 8 (.slice (some ⟨g, 0, none⟩) n cap) n (RowS.flat KE (pre ++ ⟨A2, k2, v.c⟩ :: post)) → w.grownBy w' (some g) → wpList Tryd.prog ops Q rest a w') : wpList Tryd.prog ops Q (o :: rest) a w := by
  subst hoff
  obtain ⟨cur, _, hg, hnc, _, hcs, _⟩ := own_block hown
  have hn := own_len hown
  rw [List.length_append, List.length_cons] at hn
  have hrun := RowF.run_store_one (T := 25) (v := .slice A2 v.c.ps.length k2) hg (j := pre.length * 8 + 3) (by rw [hcs]; omega) DhC.info_ids rfl rfl
  obtain ⟨h1, g1⟩ := hown.stored (pre.length * 8 + 3) (.slice A2 v.c.ps.length k2)
  rw [flat_set] at h1
  refine wpList_plain hgd fun K hK => ?_
  unfold Oper.wp execOp
  simp only [ho, hx, hy, Sem.run_bind, hrun, Result.andThen_ok, Sem.run_pure]
  refine hK _ _ ?_
  rw [hd]
  exact h _ h1 g1
theorem zero_cells : (Builtin.zeroCells (Value.agg (cc noV)).cells 1).toList = KE.enc noV := by kernel_rfl
/-- One commit of a row is laid nought. -/
theorem run_clear_one (w : World) (g o c : Nat) (ty : TypeId) (hc : ∀ j, j < 8 → (w.cell? ⟨g, o + j, none⟩).isSome = true) (hf : ∀ j, j < 8 → w.frozen? ⟨g, o + j, none⟩ = false) :
    (Builtin.clear_ #[22] ty #[.slice (some ⟨g, o, none⟩) 1 c]).run Tryd.prog w = .ok (.tuple #[]) (w.setCells g o (KE.enc noV)) := by
  have hst := run_storeCells_cells (P := Tryd.prog) g o (KE.enc noV) 0 w (fun j hj => by rw [Nat.add_zero]; exact hc j hj) (fun j hj => by rw [Nat.add_zero]; exact hf j hj) (KE.one noV)
  simp only [Nat.add_zero] at hst
  obtain ⟨i, hi, z0, z1, z2⟩ := info_parts KE.info
  have hz : (zeroValue 29).run Tryd.prog w = .ok (.agg (cc noV)) w := by
    have hi' : Tryd.prog.info? 29 = some i := hi
    simp [zeroValue, typeInfo, hi', z0]
    rfl
  simp only [Builtin.clear_, List.getElem?_toArray, List.getElem?_cons_zero, Sem.run_bind, run_underlying Tryd.underlying22, Result.andThen_ok, hz, zero_cells, hst, Sem.run_pure]
/-- One of a row is taken out: the others stand one behind the other. -/
theorem run_cut (w : World) (base g cap : Nat) (l : List Cv) (i : Nat) (hi : i < l.length) (h : w.ownsRow base 29 8 (.slice (some ⟨g, 0, none⟩) l.length cap) l.length (RowS.flat KE l)) (D : Nat) (hD : cap ≠ i + 1 → D = (i + 1) * 8) (c : Nat) :
    ∃ w1, (∀ ty, (Builtin.append_ #[22, 22] ty #[.slice (some ⟨g, 0, none⟩) i cap, .slice (some ⟨g, D, none⟩) (l.length - (i + 1)) c]).run Tryd.prog w = .ok (.slice (some ⟨g, 0, none⟩) (l.length - 1) cap) w1) ∧ w.grownBy w1 (some g) ∧ ∃ z, z.length = 8 ∧ w1.ownsRow base 29 8 (.slice (some ⟨g, 0, none⟩) l.length cap) l.length (RowS.flat KE (l.take i ++ l.drop (i + 1)) ++ z) := by
  obtain ⟨cur, h1, h2, h3, h4, h5, h6⟩ := own_block h
  obtain ⟨f, hf, z0, z1, z2⟩ := info_parts KE.info
  have hnl : (RowS.flat KE (l.drop (i + 1))).length = (l.length - (i + 1)) * 8 := by rw [RowS.flat_length, List.length_drop]; rfl
  have hfl : (RowS.flat KE (l.take i)).length = i * 8 := by rw [RowS.flat_length, List.length_take, Nat.min_eq_left (by omega)]; rfl
  have hnews : ∀ j u, (RowS.flat KE (l.drop (i + 1)))[j]? = some u → w.cell? ((⟨g, D, none⟩ : Addr).add j) = some u := fun j u hu => by
    have hj := (List.getElem?_eq_some_iff.1 hu).1
    rw [hnl] at hj
    rw [hD (by omega), Addr.add_lit]
    have e : RowS.flat KE l = RowS.flat KE (l.take (i + 1)) ++ RowS.flat KE (l.drop (i + 1)) := by rw [← RowS.flat_append, List.take_append_drop]
    have hl2 : (RowS.flat KE (l.take (i + 1))).length = (i + 1) * 8 := by rw [RowS.flat_length, List.length_take, Nat.min_eq_left (by omega)]; rfl
    have := h.cells rfl ((i + 1) * 8 + j) u (by rw [e, List.getElem?_append_right (by omega), hl2, Nat.add_sub_cancel_left]; exact hu)
    rwa [Addr.add_lit, Nat.zero_add] at this
  have hcur : cur.toList.take (i * 8) = RowS.flat KE (l.take i) := by
    have e : RowS.flat KE l = RowS.flat KE (l.take i) ++ RowS.flat KE (l.drop i) := by rw [← RowS.flat_append, List.take_append_drop]
    have : (cur.toList.take (l.length * 8)).take (i * 8) = (RowS.flat KE (l.take i) ++ RowS.flat KE (l.drop i)).take (i * 8) := by rw [h6, e]
    rw [List.take_take, Nat.min_eq_left (by omega)] at this
    rw [this, ← hfl, List.take_left]
  have hs1 : f.size = 8 := z1
  have hr := fun ty => run_append_room (P := Tryd.prog) w 22 ty 29 f Tryd.underlying22 hf g i cap cur h2 ⟨g, D, none⟩ (l.length - (i + 1)) c (RowS.flat KE (l.drop (i + 1))) (by rw [hnl, hs1]) hnews (RowS.flat_ones KE _) (by omega) (by rw [hnl, h5, hs1]; omega)
  refine ⟨_, fun ty => by rw [hr ty, show i + (l.length - (i + 1)) = l.length - 1 by omega], ?_, (cur.toList.drop (i * 8 + (l.length - (i + 1)) * 8)).take 8, ?_, ?_⟩
  · refine ⟨rfl, rfl, rfl, by simp [World.setRow], fun k _ hk => ?_⟩
    simp only [World.setRow]
    rw [Array.getElem?_modify, if_neg (fun e => hk (by rw [← e]))]
  · rw [List.length_take, List.length_drop, Array.length_toList (xs := cur), h5]
    omega
  · have hlc : (l.take i ++ l.drop (i + 1)).length = l.length - 1 := by rw [List.length_append, List.length_take, List.length_drop]; omega
    have hfc : (RowS.flat KE (l.take i ++ l.drop (i + 1))).length = (l.length - 1) * 8 := by rw [RowS.flat_length, hlc]; rfl
    refine ⟨?_, .inr ⟨g, cap, _, rfl, h1, setRow_heap w g _ _ _ _ h2, h3, h4, ?_, ?_⟩⟩
    · rw [List.length_append, hfc, List.length_take, List.length_drop, Array.length_toList (xs := cur), h5]
      omega
    · simp only [List.size_toArray, List.length_append, List.length_take, List.length_drop, Array.length_toList (xs := cur), h5, hnl, hs1]
      omega
    · rw [hs1, hcur, ← RowS.flat_append]
      simp only [hnl]
      rw [List.take_append, hfc, List.take_of_length_le (by omega)]
      congr 2
      omega
/-- What is laid nought behind a row does not matter. -/
theorem cleared {w w2 : World} {base g n cap m : Nat} {l : List Cv} {z : List Value} (h : w.ownsRow base 29 8 (.slice (some ⟨g, 0, none⟩) n cap) n (RowS.flat KE l ++ z)) (hl : l.length = m) (hm : n = m + 1) (hz : z.length = 8) (hw : w2 = w.setCells g (m * 8) (KE.enc noV)) :
    w2.ownsRow base 29 8 (.slice (some ⟨g, 0, none⟩) m cap) m (RowS.flat KE l) ∧ w.grownBy w2 (some g) := by
  subst hw
  obtain ⟨y, hy⟩ : ∃ y, KE.enc noV = y := ⟨_, rfl⟩
  have hy8 : y.length = 8 := by rw [← hy]; exact KE.len noV
  rw [hy]
  clear hy
  have hfl : (RowS.flat KE l).length = m * 8 := by rw [RowS.flat_length, hl]; rfl
  obtain ⟨x, hx⟩ : ∃ x, RowS.flat KE l = x := ⟨_, rfl⟩
  rw [hx] at h hfl ⊢
  clear hx
  obtain ⟨h1, g1⟩ := stored_all y (m * 8) _ w h
  refine ⟨?_, g1⟩
  have e : setL (x ++ z) (m * 8) y = x ++ y := by
    have := setL_mid y x z [] (by rw [hz, hy8])
    rwa [hfl, List.append_nil, List.append_nil] at this
  rw [e] at h1
  have h2 := own_pre h1 m (by omega)
  have e2 : (x ++ y).take (m * 8) = x := by rw [← hfl, List.take_left]
  rwa [e2] at h2
theorem there_at {w : World} {base g n cap : Nat} {xs : List Value} (h : w.ownsRow base 29 8 (.slice (some ⟨g, 0, none⟩) n cap) n xs) {m : Nat} (hm : m + 1 ≤ n) : (∀ j, j < 8 → (w.cell? ⟨g, m * 8 + j, none⟩).isSome = true) ∧ ∀ j, j < 8 → w.frozen? ⟨g, m * 8 + j, none⟩ = false := by
  obtain ⟨cur, h1, h2, h3, h4, h5, h6⟩ := own_block h
  refine ⟨fun j hj => ?_, fun j hj => h.frozenAt _⟩
  rw [cell_of_row w g (m * 8 + j) _ _ (0, 0) h2, Array.getElem?_eq_getElem (by rw [h5]; omega)]
  rfl
end
set_option maxHeartbeats 2000000 in
/-- One commit more behind a slice that has no room. -/
theorem append_full {w : World} {ops : Array Oper} {rest : List Oper} {o : Oper} {a : Act} {Q : Exit → Act → World → Prop} (hgd : o.guard = none) (s x : Operand)
    (ho : o.op = .call { callee := .builtin .append, args := #[s, x], argTypes := #[22, 22] })
    (A : Option Addr) (n : Nat) (l : List Cv) (hn : l.length = n) (hs : a.eval s = .slice A n n) (S : SlR KE w A n l) (g : Nat) (y : Cv) (hx : a.eval x = .slice (some ⟨g, 0, none⟩) 1 1) (hr : RowB.Box KE w g y) (hl : n ≤ 1000000)
    (h : ∀ w' cap', w'.ownsRow w.heap.size 29 8 (.slice (some ⟨w.heap.size, 0, none⟩) (n + 1) cap') (n + 1) (RowS.flat KE (l ++ [y])) → Below w.heap.size w w' → wpList Tryd.prog ops Q rest (a.put o.dst (.slice (some ⟨w.heap.size, 0, none⟩) (n + 1) cap')) w') : wpList Tryd.prog ops Q (o :: rest) a w := by
  subst hn
  obtain ⟨f, hf, z0, z1, z2⟩ := info_parts KE.info
  have hs1 : f.size = 8 := z1
  have hs2 : f.bytes = 96 := z2
  have hnew : ∀ j u, (KE.enc y)[j]? = some u → w.cell? ((⟨g, 0, none⟩ : Addr).add j) = some u := fun j u hu => by
    rw [Addr.add_lit, Nat.zero_add]
    exact hr.cell hu
  have hlen : (RowS.flat KE (l ++ [y])).length = (l.length + 1) * 8 := by rw [RowS.flat_length, List.length_append]; rfl
  have own : ∀ (G : Nat) (Z : Array Value), l.length + 1 ≤ G → G ≤ maxLen → Z.size = (G - (l.length + 1)) * 8 → (w.drew.alloc (.cells ((RowS.flat KE (l ++ [y])).toArray ++ Z) 29)).ownsRow w.heap.size 29 8 (.slice (some ⟨w.heap.size, 0, none⟩) (l.length + 1) G) (l.length + 1) (RowS.flat KE (l ++ [y])) := fun G Z h1 h2 h3 => by
    refine ⟨hlen, .inr ⟨w.heap.size, G, _, rfl, Nat.le_refl _, heap_alloc_new w.drew _, h1, h2, ?_, ?_⟩⟩
    · rw [Array.size_append, List.size_toArray, hlen, h3]
      omega
    · rw [Array.toList_append, List.take_append_of_le_length (by rw [← hlen]; simp), ← hlen]
      simp
  have kb : ∀ o, Below w.heap.size w (w.drew.alloc o) := fun o => (below_drew1 (Below.refl _ _)).alloc (Nat.le_refl _) _
  have hzs : ∀ k, (Builtin.zeroCells (Value.agg (cc noV)).cells k).size = k * 8 := fun k => by simp [Builtin.zeroCells, Value.cells, cc]
  rcases S.2.2 with ⟨rfl, rfl, _⟩ | ⟨ad, rfl, hc⟩
  · have hrun := run_append_nil (P := Tryd.prog) w 22 o.type 29 f (.agg (cc noV)) Tryd.underlying22 hf z0 ⟨g, 0, none⟩ 1 1 (KE.enc y) (by rw [hs1]; rfl) hnew (by omega) (by omega) (by rw [hs2]; omega)
    refine Lib.wpList_append_run w hgd s x 22 22 ho _ _ hs hx _ _ hrun (h _ _ ?_ (kb _))
    have := own (grownCap w 1 0 29) (Builtin.zeroCells (Value.agg (cc noV)).cells (grownCap w 1 0 29 - 1)) (grownCap_ge w 1 0 _) (grownCap_le_maxLen w 1 0 _ (by unfold maxLen; omega)) (hzs _)
    rw [show RowS.flat KE ([] ++ [y]) = KE.enc y from RowS.flat_one KE y] at this ⊢
    exact this
  · have hrun := run_append_grow (P := Tryd.prog) w 22 o.type 29 f (.agg (cc noV)) Tryd.underlying22 hf z0 ad l.length l.length (RowS.flat KE l) (by rw [RowS.flat_length, hs1]; rfl) hc ⟨g, 0, none⟩ 1 1 (KE.enc y) (by rw [hs1]; rfl) hnew (by omega) (by omega) (growslice_fits (by omega) (by rw [hs2]; omega))
    refine Lib.wpList_append_run w hgd s x 22 22 ho _ _ hs hx _ _ hrun (h _ _ ?_ (kb _))
    have := own (grownCap w (l.length + 1) l.length 29) (Builtin.zeroCells (Value.agg (cc noV)).cells (grownCap w (l.length + 1) l.length 29 - (l.length + 1))) (grownCap_ge w _ _ _) (grownCap_le_maxLen w _ _ _ (by unfold maxLen; omega)) (hzs _)
    rw [show (RowS.flat KE l).toArray ++ (KE.enc y).toArray = (RowS.flat KE (l ++ [y])).toArray by rw [RowS.flat_append, RowS.flat_one]; simp]
    exact this
/-- From one place to another one, also with the room given. -/
theorem part_lh {w : World} {A : Option Addr} {cap : Nat} {l : List Cv} (S : SlR KE w A cap l) (i j : Nat) (hij : i ≤ j) (hj : j ≤ l.length) :
    ∃ A' cap', (∀ (W : World) (k1 k2 : IntKind), (Instr.sliceAt 22 (.slice A l.length cap) (some (.int k1 i)) (some (.int k2 j)) none).run Tryd.prog W = .ok (.slice A' (j - i) cap') W) ∧ SlR KE w A' cap' ((l.drop i).take (j - i)) := by
  obtain ⟨A', cap', h1, h2, _⟩ := SlR.part S i j hij hj
  refine ⟨A', cap', fun W k1 k2 => ?_, h2⟩
  have hc := S.1
  rw [← h1]
  refine (run_sliceAt_slice W KE.S _ _ _ _ (RowP.under_e KE)).trans ((run_slice_lh W KE.S A l.length cap (RowP.under_e KE) k1 k2 i j (by omega) (by omega) (by omega)).trans ?_)
  exact (congrArg (fun r => Result.andThen r _) (RowP.size_e KE W)).trans rfl
theorem part_lhm {w : World} {A : Option Addr} {cap : Nat} {l : List Cv} (S : SlR KE w A cap l) (i : Nat) (hi : i ≤ l.length) :
    ∃ A', (∀ (W : World) (k1 k2 k3 : IntKind), (Instr.sliceAt 22 (.slice A l.length cap) (some (.int k1 i)) (some (.int k2 l.length)) (some (.int k3 l.length))).run Tryd.prog W = .ok (.slice A' (l.length - i) (l.length - i)) W) ∧ SlR KE w A' (l.length - i) (l.drop i) := by
  have hc := S.1
  have hm := S.2.1
  have S2 : SlR KE w A l.length l := ⟨Nat.le_refl _, Nat.le_trans hc hm, S.2.2.imp (fun ⟨a, b, c⟩ => ⟨a, b, by rw [b]; rfl⟩) id⟩
  obtain ⟨A', cap', h1, h2, _⟩ := SlR.part S2 i l.length hi (Nat.le_refl _)
  have hcap : cap' = l.length - i := by
    unfold sliced at h1
    injection h1 with _ _ h
    exact h.symm
  subst hcap
  rw [List.take_of_length_le (by simp)] at h2
  refine ⟨A', fun W k1 k2 k3 => ?_, h2⟩
  rw [← h1]
  refine (run_sliceAt_slice W KE.S _ _ _ _ (RowP.under_e KE)).trans ((run_slice_lhm W KE.S A l.length cap (RowP.under_e KE) k1 k2 k3 i l.length l.length (by omega) (by omega) (by omega) (by omega)).trans ?_)
  exact (congrArg (fun r => Result.andThen r _) (RowP.size_e KE W)).trans rfl
end Go.Proofs.YteojkfbnenfmkaaDoor.WtG
