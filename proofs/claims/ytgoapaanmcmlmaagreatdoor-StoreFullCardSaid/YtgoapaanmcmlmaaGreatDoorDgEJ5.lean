/- What the laws' Two of package dag returns: a contract. | What the document's Find of package dag returns: a contract. | A table of who knows whom, as it is found out: what a pass over it keeps. No condition. | A table of truth values in memory, row by row: made, read, turned. No condition. | What the document's Knows of package dag returns: a contract. -/
import Derived.Test.YtgoapaanmcmlmaaGreatDoorDgJ
import Derived.Test.YtgoapaanmcmlmaaGreatDoorOpenKJ3
import Derived.Test.YtgoapaanmcmlmaaGreatDoorForksJ3
import Derived.Test.YtgoapaanmcmlmaaGreatDoorDgMJ2
import Derived.Test.YtgoapaanmcmlmaaGreatDoorRotMJ9
import Derived.Deep.LoopGhost
namespace Go.Proofs.YtgoapaanmcmlmaaGreatDoor.DgE
set_option maxRecDepth 100000
open Go Go.Sort Go.RowKit Byt IdM IdW OpsM OpsW CmM StW CmW CmX CmY CmA DgM DgW DgJ
end Go.Proofs.YtgoapaanmcmlmaaGreatDoor.DgE
namespace Go.Proofs.YtgoapaanmcmlmaaGreatDoor.DgG
set_option maxRecDepth 100000
open Go Go.Sort Go.RowKit Byt IdM IdW OpsM OpsW CmM StW CmW CmX CmY DgM DgN DgW DgR
end Go.Proofs.YtgoapaanmcmlmaaGreatDoor.DgG
namespace Go.Proofs.YtgoapaanmcmlmaaGreatDoor.DgP
set_option maxRecDepth 100000
open IdM CmM DgM DgN
open Classical
def upd (K : Nat → Nat → Bool) (i j : Nat) : Nat → Nat → Bool := fun a b => if a = i ∧ b = j then true else K a b
theorem upd_at (K : Nat → Nat → Bool) (i j : Nat) : upd K i j i j = true := if_pos ⟨rfl, rfl⟩
theorem upd_le {K : Nat → Nat → Bool} {i j a b : Nat} (h : K a b = true) : upd K i j a b = true := by
 unfold upd
 split
 · rfl
 · exact h
theorem upd_or {K : Nat → Nat → Bool} {i j a b : Nat} (h : upd K i j a b = true) : (a = i ∧ b = j) ∨ K a b = true := by
 unfold upd at h
 split at h
 · rename_i hc; exact .inl hc
 · exact .inr h
def cnt (n : Nat) (K : Nat → Nat → Bool) : Nat := (List.range (n * n)).countP fun m => !K (m / n) (m % n)
theorem count_less {α : Type} {p q : α → Bool} : ∀ l : List α, (∀ x ∈ l, q x = true → p x = true) → (∃ x ∈ l, p x = true ∧ q x = false) → l.countP q < l.countP p
 | [], _, h => by obtain ⟨x, hx, _⟩ := h; simp at hx
 | y :: l, h, hx => by
   have hl : ∀ x ∈ l, q x = true → p x = true := fun x hx => h x (List.mem_cons_of_mem _ hx)
   have mono : l.countP q ≤ l.countP p := List.countP_mono_left hl
   rw [List.countP_cons, List.countP_cons]
   obtain ⟨x, hx, h1, h2⟩ := hx
   rcases List.mem_cons.1 hx with rfl | hx
   · rw [h1, h2]; simp; omega
   · have ih := count_less l hl ⟨x, hx, h1, h2⟩
     have hy := h y (by simp)
     cases hq : q y <;> cases hp : p y
     · simpa using ih
     · simp; omega
     · rw [hy hq] at hp; cases hp
     · simp; omega
theorem cnt_upd {n i j : Nat} {K : Nat → Nat → Bool} (hi : i < n) (hj : j < n) (h : K i j = false) : cnt n (upd K i j) < cnt n K := by
 refine count_less _ (fun m _ hm => ?_) ⟨i * n + j, ?_, ?_, ?_⟩
 · cases hk : K (m / n) (m % n) with
   | false => rfl
   | true => rw [upd_le hk] at hm; cases hm
 · rw [List.mem_range]
   have : (i + 1) * n ≤ n * n := Nat.mul_le_mul_right n hi
   rw [Nat.add_mul, Nat.one_mul] at this
   omega
 · have hn : 0 < n := by omega
   rw [show (i * n + j) / n = i by rw [Nat.mul_comm, Nat.mul_add_div hn, Nat.div_eq_of_lt hj, Nat.add_zero], show (i * n + j) % n = j by rw [Nat.mul_comm, Nat.mul_add_mod, Nat.mod_eq_of_lt hj], h]
   rfl
 · have hn : 0 < n := by omega
   rw [show (i * n + j) / n = i by rw [Nat.mul_comm, Nat.mul_add_div hn, Nat.div_eq_of_lt hj, Nat.add_zero], show (i * n + j) % n = j by rw [Nat.mul_comm, Nat.mul_add_mod, Nat.mod_eq_of_lt hj], upd_at]
   rfl
section
variable (l : List Com) (all : List Idn)
def Sound (K : Nat → Nat → Bool) : Prop := ∀ i j, K i j = true → KnI l all i j
def Row (K : Nat → Nat → Bool) (i p : Nat) (m : Nat) : Prop := ∀ j, j < m → (j = p ∨ K p j = true) → K i j = true
structure Pass (n : Nat) (c0 : Nat) (K : Nat → Nat → Bool) (more : Bool) (done : Prop) : Prop where
 sound : Sound l all K
 less : more = true → cnt n K < c0
 same : more = false → cnt n K = c0 ∧ done
end
theorem sound_upd {l : List Com} {all : List Idn} {K : Nat → Nat → Bool} (h : Sound l all K) {i p j : Nat} (hp : ParI l all i p) (hj : j = p ∨ K p j = true) : Sound l all (upd K i j) := by
 intro a b hab
 rcases upd_or hab with ⟨rfl, rfl⟩ | hab
 · rcases hj with rfl | hj
   · exact .one hp
   · exact .more hp (h _ _ hj)
 · exact h a b hab
theorem Pass.found {l : List Com} {all : List Idn} {n c0 : Nat} {K : Nat → Nat → Bool} {more : Bool} {done done' : Prop} (h : Pass l all n c0 K more done) {i p j : Nat} (hp : ParI l all i p) (hj : j = p ∨ K p j = true) (hi : i < n) (hjn : j < n) (hk : K i j = false) : Pass l all n c0 (upd K i j) true done' := by
 refine ⟨sound_upd h.sound hp hj, fun _ => ?_, fun e => by cases e⟩
 have h1 := cnt_upd hi hjn hk
 cases hm : more with
 | true => have := h.less hm; omega
 | false => have := (h.same hm).1; omega
theorem Pass.imp {l : List Com} {all : List Idn} {n c0 : Nat} {K : Nat → Nat → Bool} {more : Bool} {done done' : Prop} (h : Pass l all n c0 K more done) (hd : more = false → done → done') : Pass l all n c0 K more done' :=
 ⟨h.sound, h.less, fun e => ⟨(h.same e).1, hd e (h.same e).2⟩⟩
end Go.Proofs.YtgoapaanmcmlmaaGreatDoor.DgP
namespace Go.Proofs.YtgoapaanmcmlmaaGreatDoor.DgT
set_option maxRecDepth 100000
open Go Go.Sort Go.RowKit Byt IdM IdW OpsM OpsW CmM StW CmW DgP
def rowV (n g : Nat) : Value := .slice (some ⟨g, 0, none⟩) n n
def bits (n : Nat) (f : Nat → Bool) : Array Value := ((List.range n).map fun j => Value.bool (f j)).toArray
theorem bits_size (n : Nat) (f : Nat → Bool) : (bits n f).size = n := by simp [bits]
theorem bits_at {n j : Nat} (f : Nat → Bool) (hj : j < n) : (bits n f)[j]? = some (.bool (f j)) := by
 simp [bits, hj]
theorem bits_no (n : Nat) : (List.replicate n (Value.bool false)).toArray = bits n fun _ => false := by
 apply Array.ext_getElem?
 intro i
 by_cases h : i < n <;> simp [bits, h]
theorem bits_set {n j : Nat} (f : Nat → Bool) (hj : j < n) : (bits n f).setIfInBounds j (.bool true) = bits n fun i => if i = j then true else f i := by
 apply Array.ext_getElem?
 intro i
 rw [Array.getElem?_setIfInBounds]
 by_cases hi : i < n
 · rw [bits_at _ hi, bits_at _ hi, bits_size]
   by_cases e : j = i
   · subst e; rw [if_pos rfl, if_pos hj, if_pos rfl]
   · rw [if_neg e, if_neg (fun h => e h.symm)]
 · rw [Array.getElem?_eq_none (by rw [bits_size]; omega), Array.getElem?_eq_none (by rw [bits_size]; omega), bits_size]
   by_cases e : j = i
   · omega
   · rw [if_neg e]
structure Tab (w : World) (base : Nat) (v : Value) (n : Nat) (gs : List Nat) (K : Nat → Nat → Bool) : Prop where
 row : w.ownsRow base 96 1 v gs.length (gs.map (rowV n))
 each : ∀ i g, gs[i]? = some g → base ≤ g ∧ w.heap[g]? = some (.cells (bits n (K i)) 4 (0, 0))
 nodup : gs.Nodup
theorem Tab.nil (w : World) (base n : Nat) (K : Nat → Nat → Bool) : Tab w base (.slice none 0 0) n [] K := ⟨⟨rfl, .inl ⟨rfl, rfl⟩⟩, fun i g h => by simp at h, List.nodup_nil⟩
theorem Tab.below {w w' : World} {base n : Nat} {v : Value} {gs : List Nat} {K : Nat → Nat → Bool} (h : Tab w base v n gs K) (hb : Below w.heap.size w w') : Tab w' base v n gs K :=
 ⟨owns_below h.row hb, fun i g hi => ⟨(h.each i g hi).1, by rw [hb.block g (Array.getElem?_eq_some_iff.1 (h.each i g hi).2).1]; exact (h.each i g hi).2⟩, h.nodup⟩
theorem Tab.lt {w : World} {base n : Nat} {v : Value} {gs : List Nat} {K : Nat → Nat → Bool} (h : Tab w base v n gs K) : ∀ g ∈ gs, g < w.heap.size := fun g hg => by
 obtain ⟨i, hi⟩ := List.mem_iff_getElem?.1 hg
 exact (Array.getElem?_eq_some_iff.1 (h.each i g hi).2).1
theorem Tab.at {w : World} {base n : Nat} {v : Value} {gs : List Nat} {K : Nat → Nat → Bool} (h : Tab w base v n gs K) (hp : 0 < gs.length) : ∃ r cap, v = .slice (some ⟨r, 0, none⟩) gs.length cap ∧ base ≤ r := by
 rcases h.row.2 with ⟨_, h0⟩ | ⟨g, cap, cur, hv, hb, _⟩
 · omega
 · exact ⟨g, cap, hv, hb⟩
theorem Tab.cell {w : World} {base n r cap : Nat} {gs : List Nat} {K : Nat → Nat → Bool} (h : Tab w base (.slice (some ⟨r, 0, none⟩) gs.length cap) n gs K) {i g : Nat} (hi : gs[i]? = some g) : w.cell? ⟨r, i, none⟩ = some (rowV n g) := by
 have hlt := (List.getElem?_eq_some_iff.1 hi).1
 rw [h.row.cellAt i (by omega), List.getElem?_map, hi]
 rfl
theorem Tab.bit {w : World} {base n : Nat} {v : Value} {gs : List Nat} {K : Nat → Nat → Bool} (h : Tab w base v n gs K) {i g j : Nat} (hi : gs[i]? = some g) (hj : j < n) : w.cell? ⟨g, j, none⟩ = some (.bool (K i j)) := by
 rw [cell_of_row w g j _ _ (0, 0) (h.each i g hi).2, bits_at _ hj]
theorem info_bool : (Tryz.prog.info? 4).map (·.size) = some 1 := by kernel_rfl
theorem zero_bool : (Tryz.prog.info? 4).map (fun i => (i.zero, i.size, i.bytes)) = some (some (.bool false), 1, 1) := by kernel_rfl
theorem zero_row : (Tryz.prog.info? 96).map (fun i => (i.zero, i.size, i.bytes)) = some (some (.slice none 0 0), 1, 24) := by kernel_rfl
section
variable {ops : Array Oper} {rest : List Oper} {o : Oper} {a : Act} {w : World} {Q : Exit → Act → World → Prop}
theorem store_bit (hgd : o.guard = none) (hd : o.dst = none) (x y : Operand) (ho : o.op = .store 4 x y)
   (base n r cap : Nat) (gs : List Nat) (K : Nat → Nat → Bool) (h : Tab w base (.slice (some ⟨r, 0, none⟩) gs.length cap) n gs K) (i g j : Nat) (hi : gs[i]? = some g) (hj : j < n)
   (hx : a.eval x = .pointer (some ⟨g, j, none⟩)) (hy : a.eval y = .bool true)
   (hk : ∀ w', Tab w' base (.slice (some ⟨r, 0, none⟩) gs.length cap) n gs (upd K i j) → (∀ B, B ≤ base → Below B w w') → wpList Tryz.prog ops Q rest a w') : wpList Tryz.prog ops Q (o :: rest) a w := by
 obtain ⟨hbg, hg⟩ := h.each i g hi
 refine wpList_plain hgd fun K' hK => ?_
 have hrun := RowF.run_store_one (T := 4) (v := .bool true) hg (by rw [bits_size]; exact hj) info_bool rfl rfl
 unfold Oper.wp execOp
 simp only [ho, hx, hy, Sem.run_bind, hrun, Result.andThen_ok, Sem.run_pure]
 refine hK _ _ ?_
 rw [hd]
 have hother : ∀ k, k ≠ g → (w.setCell ⟨g, j, none⟩ (.bool true)).heap[k]? = w.heap[k]? := fun k hne => by
   simp only [World.setCell]
   rw [Array.getElem?_modify, if_neg (fun e => hne e.symm)]
 have hgrown : w.grownBy (w.setCell ⟨g, j, none⟩ (.bool true)) (some g) := ⟨rfl, rfl, rfl, by simp [World.setCell], fun k _ hne => hother k (fun e => hne (by rw [e]))⟩
 refine hk _ ⟨h.row.kept hgrown (.inr fun e => ?_), fun k q hq => ⟨(h.each k q hq).1, ?_⟩, h.nodup⟩ (fun B hB => (Below.refl B w).setCell (p := ⟨g, j, none⟩) (Nat.le_trans hB hbg) _)
 · rcases h.row.2 with ⟨e0, _⟩ | ⟨r', cap', cur, hv, _, hr, _⟩
   · cases e0
   · injection hv with e1
     injection e1 with e2
     injection e2 with e3
     simp only [Value.ownBlock, Option.some.injEq] at e
     rw [← e3, e, hg] at hr
     injection hr with e4
     injection e4 with _ e5
     exact absurd e5 (by decide)
 · by_cases e : q = g
   · subst e
     have hki : k = i := by
       obtain ⟨h1, e1⟩ := List.getElem?_eq_some_iff.1 hq
       obtain ⟨h2, e2⟩ := List.getElem?_eq_some_iff.1 hi
       exact (List.getElem_inj h.nodup).1 (e1.trans e2.symm)
     subst hki
     simp only [World.setCell]
     rw [Array.getElem?_modify, if_pos rfl, hg]
     have e : (fun m => if m = j then true else K k m) = upd K k j k := by
       funext m
       unfold upd
       simp
     rw [← e, ← bits_set _ hj]
     rfl
   · rw [hother q e, (h.each k q hq).2]
     have hki : k ≠ i := by
       rintro rfl
       rw [hi] at hq
       exact e (Option.some.inj hq).symm
     congr 2
     unfold bits upd
     congr 1
     exact List.map_congr_left fun m _ => by simp [hki]
theorem append_row (hgd : o.guard = none) (s x : Operand) (ho : o.op = .call { callee := .builtin .append, args := #[s, x], argTypes := #[92, 92] })
   (base n : Nat) (v : Value) (gs : List Nat) (h : Tab w base v n gs fun _ _ => false) (g : Nat) (hg : w.heap[g]? = some (.cells (bits n fun _ => false) 4 (0, 0))) (hbg : base ≤ g) (hnew : g ∉ gs)
   (ad : Addr) (hs : a.eval s = v) (hx : a.eval x = .slice (some ad) 1 1) (hc : w.cell? ad = some (rowV n g)) (had : ad.add 0 = ad) (hlen : gs.length ≤ 100000) (hbase : base ≤ w.heap.size)
   (hk : ∀ v' w', Tab w' base v' n (gs ++ [g]) (fun _ _ => false) → (∀ B, B ≤ base → Below B w w') → wpList Tryz.prog ops Q rest (a.put o.dst v') w') : wpList Tryz.prog ops Q (o :: rest) a w := by
 obtain ⟨i, hi, z0, z1, z2⟩ := info_parts zero_row
 have hap : ∀ k q, (gs ++ [g])[k]? = some q → base ≤ q ∧ w.heap[q]? = some (.cells (bits n fun _ => false) 4 (0, 0)) := fun k q hq => by
   by_cases hlt : k < gs.length
   · rw [List.getElem?_append_left hlt] at hq
     exact h.each k q hq
   · rw [List.getElem?_append_right (by omega)] at hq
     have hk0 : k - gs.length = 0 := by
       have := (List.getElem?_eq_some_iff.1 hq).1
       simpa using this
     rw [hk0] at hq
     obtain rfl : g = q := by simpa using hq
     exact ⟨hbg, hg⟩
 have hmem : ∀ q ∈ gs ++ [g], base ≤ q ∧ w.heap[q]? = some (.cells (bits n fun _ => false) 4 (0, 0)) := fun q hq => by
   obtain ⟨k, hk⟩ := List.mem_iff_getElem?.1 hq
   exact hap k q hk
 refine wpList_append_own w hgd s x 92 ho base 96 i (.slice none 0 0) 1 24 Tryz.underlying92 hi z0 z1 z2 rfl (by decide) v gs.length (gs.map (rowV n)) hs h.row ad 1 1 [rowV n g] hx rfl (fun j u hu => ?_) (fun u hu => by rw [List.mem_singleton.1 hu]; rfl) (by unfold maxLen; omega) (by omega) hbase (fun v' w' a1 a2 _ => ?_)
 · match j, hu with
   | 0, hu =>
     simp only [List.getElem?_cons_zero, Option.some.injEq] at hu
     rw [had, hc, hu]
 · have hne : ∀ q ∈ gs ++ [g], v.ownBlock ≠ some q := fun q hq e => by
     rcases h.row.2 with ⟨rfl, _⟩ | ⟨r', cap', cur, rfl, _, hr, _⟩
     · cases e
     · simp only [Value.ownBlock, Option.some.injEq] at e
       rw [e, (hmem q hq).2] at hr
       injection hr with e4
       injection e4 with _ e5
       exact absurd e5 (by decide)
   refine hk v' w' ⟨by rw [List.length_append, List.map_append]; exact a1, fun k q hq => ?_, ?_⟩ (fun B hB => below_grown (Below.refl B w) (Nat.le_trans hB hbase) a2 (fun q hq => Nat.le_trans hB (h.row.lt q hq).1))
   · obtain ⟨h1, h2⟩ := hap k q hq
     exact ⟨h1, by rw [a2.block q (Array.getElem?_eq_some_iff.1 h2).1 (fun e => hne q (List.mem_of_getElem? hq) e.symm)]; exact h2⟩
   · rw [List.nodup_append]
     exact ⟨h.nodup, by simp, fun q hq q' hq' e => by
       rw [List.mem_singleton.1 hq'] at e
       exact hnew (e ▸ hq)⟩
end
end Go.Proofs.YtgoapaanmcmlmaaGreatDoor.DgT
namespace Go.Proofs.YtgoapaanmcmlmaaGreatDoor.DgK
set_option maxRecDepth 100000
open Go Go.Sort Go.RowKit Byt IdM IdW OpsM OpsW CmM StW CmW CmX CmY DgM DgN DgP DgW DgT DgR
theorem make_row {ops : Array Oper} {rest : List Oper} {o : Oper} {a : Act} {w : World} {Q : Exit → Act → World → Prop} (hgd : o.guard = none) (x y : Operand) (ho : o.op = .makeSlice 96 x y)
   (n : Nat) (hx : a.eval x = .int .i64 n) (hy : a.eval y = .int .i64 n) (hn : n ≤ 100000)
   (h : ∀ w1, w1.heap[w.heap.size]? = some (.cells (DgT.bits n fun _ => false) 4 (0, 0)) → Below w.heap.size w w1 → w1.heap.size = w.heap.size + 1 → wpList Tryz.prog ops Q rest (a.put o.dst (.slice (some ⟨w.heap.size, 0, none⟩) n n)) w1) : wpList Tryz.prog ops Q (o :: rest) a w :=
 Small.wpList_make_at hgd 96 x y ho 4 (.bool false) Tryz.underlying96 zero_bool rfl n hx hy n rfl (by omega) (h _ (by rw [heap_alloc_new, bits_no]) ((Below.refl _ _).alloc (Nat.le_refl _) _) (by simp))
def Done (l : List Com) (all : List Idn) (n : Nat) (K : Nat → Nat → Bool) (i : Nat) : Prop := ∀ i' c, i' < i → l[i']? = some c → ∀ a ∈ c.ps, ∀ p, idx all a = some p → Row K i' p n
def Half (all : List Idn) (n : Nat) (K : Nat → Nat → Bool) (i : Nat) (ps : List Idn) (t : Nat) : Prop := ∀ t' a, t' < t → ps[t']? = some a → ∀ p, idx all a = some p → Row K i p n
theorem done_next {l : List Com} {all : List Idn} {n : Nat} {K : Nat → Nat → Bool} {i t : Nat} {c : Com} (h : Done l all n K i) (hc : l[i]? = some c) (hh : Half all n K i c.ps t) (ht : c.ps.length ≤ t) : Done l all n K (i + 1) := by
 intro i' c' hi' hc' a ha p hp
 by_cases e : i' = i
 · subst e
   rw [hc] at hc'
   obtain rfl := Option.some.inj hc'
   obtain ⟨t', ht'⟩ := List.mem_iff_getElem?.1 ha
   exact hh t' a (Nat.lt_of_lt_of_le (List.getElem?_eq_some_iff.1 ht').1 ht) ht' p hp
 · exact h i' c' (by omega) hc' a ha p hp
theorem half_next {all : List Idn} {n : Nat} {K : Nat → Nat → Bool} {i t : Nat} {ps : List Idn} {a : Idn} (h : Half all n K i ps t) (ha : ps[t]? = some a) (hr : ∀ p, idx all a = some p → Row K i p n) : Half all n K i ps (t + 1) := by
 intro t' a' ht' ha' p hp
 by_cases e : t' = t
 · subst e
   rw [ha] at ha'
   obtain rfl := Option.some.inj ha'
   exact hr p hp
 · exact h t' a' (by omega) ha' p hp
theorem row_next {K : Nat → Nat → Bool} {i p j : Nat} (h : Row K i p j) (hk : (j = p ∨ K p j = true) → K i j = true) : Row K i p (j + 1) := by
 intro j' hj' hc
 by_cases e : j' = j
 · subst e; exact hk hc
 · exact h j' (by omega) hc
theorem done_all {l : List Com} {all : List Idn} {K : Nat → Nat → Bool} (hall : all.length = l.length) (h : Done l all l.length K l.length) {i j : Nat} (hk : KnI l all i j) : K i j = true := by
 have hrow : ∀ i p, ParI l all i p → Row K i p l.length := by
   rintro i p ⟨c, a, hc, ha, hp⟩
   exact h i c (List.getElem?_eq_some_iff.1 hc).1 hc a ha p hp
 induction hk with
 | one hp =>
   obtain ⟨c, a, hc, ha, hx⟩ := hp
   exact hrow _ _ ⟨c, a, hc, ha, hx⟩ _ (by have := idx_lt hx; omega) (.inl rfl)
 | more hp hk ih => exact hrow _ _ hp _ (by have := (kni_lt hk).2; omega) (.inr ih)
def Whole (l : List Com) (all : List Idn) (K : Nat → Nat → Bool) : Prop := ∀ i j, K i j = true ↔ KnI l all i j
def NewT (l : List Com) (all : List Idn) (w : World) (e : Ending) (w' : World) : Prop :=
 ∃ v gs K, e = .returned v ∧ gs.length = l.length ∧ Tab w' w.heap.size v l.length gs K ∧ Whole l all K ∧ Below w.heap.size w w'
theorem cell_ps_at {w : World} {b off : Nat} {x : Cv} (h : w.rangeAt b off (cc x).toList) : w.cell? ⟨b, off + 3, none⟩ = some (.slice x.a x.c.ps.length x.k) := h 3 _ rfl
set_option maxRecDepth 100000 in
set_option maxHeartbeats 32000000 in
theorem knows_ret (A A' : Option Addr) (cap cap' : Nat) (l : List Cv) (all : List Idn) (w : World) (S : SlK w A cap l) (T : SlI w A' cap' all) (hall : all.length = l.length) (hl : l.length ≤ 1000) :
   Calls Tryz.prog 65 #[.slice A l.length cap, .slice A' all.length cap'] w (NewT (coms l) all w) := by
 have hmax := S.len
 obtain ⟨n, hn⟩ : ∃ n, l.length = n := ⟨_, rfl⟩
 have HN := aside hn
 have HALL := aside hall
 unfold NewT
 rw [coms_len, hn]
 rw [hn] at hl hmax
 clear hn hall
 go_enter Tryz.func65, Tryz.ntmps65
 go_wp2_with (first | go_skip)
 go_loopw [5, 6] (fun o i wr => ∃ (k : Nat) (gs : List Nat), k ≤ n ∧ i = .int .i64 k ∧ Hid (gs.length = k) ∧ Hid (Tab wr w.heap.size o n gs fun _ _ => false) ∧ Below w.heap.size w wr) (fun _ i _ => n - (intOf i).toNat)
 case atStart => exact ⟨0, [], Nat.zero_le _, rfl, aside rfl, aside (Tab.nil w w.heap.size n _), Below.refl _ _⟩
 case round =>
   obtain ⟨k, gs, hk, rfl, HG, HT, kb⟩ := hrel
   by_cases hlt : k < n
   · have p0 : (k : Int) < n := by omega
     have hnew : wr.heap.size ∉ gs := fun hm => Nat.lt_irrefl _ (HT.out.lt _ hm)
     have hlen : gs.length ≤ 100000 := by rw [HG.out]; omega
     have hgb := kb.size
     go_wp2_with (first | go_skip | (refine make_row rfl _ _ rfl n rfl rfl (by omega) ?_; intro w1 hg1 k1 s1; have b1 := kb.trans (k1.mono kb.size); have T2 := (HT.out.below k1).below (StW.below_alloc w1 (.cells #[.slice (some ⟨wr.heap.size, 0, none⟩) n n] 96)); have b2 : Below w.heap.size w (w1.alloc (.cells #[.slice (some ⟨wr.heap.size, 0, none⟩) n n] 96)) := b1.alloc b1.size _; have hg2 : (w1.alloc (.cells #[.slice (some ⟨wr.heap.size, 0, none⟩) n n] 96)).heap[wr.heap.size]? = some (.cells (DgT.bits n fun _ => false) 4 (0, 0)) := (((StW.below_alloc w1 _).block _ (by omega)).trans hg1); have hc2 : (w1.alloc (.cells #[.slice (some ⟨wr.heap.size, 0, none⟩) n n] 96)).cell? ⟨w1.heap.size, 0, none⟩ = some (rowV n wr.heap.size) := (by rw [cell_of_row _ _ 0 #[.slice (some ⟨wr.heap.size, 0, none⟩) n n] 96 (0, 0) (heap_alloc_new w1 _)]; rfl); clear s1 hg1 k1) | (refine append_row rfl (.tmp 18) (.tmp 22) rfl w.heap.size n _ gs T2 wr.heap.size hg2 hgb hnew ⟨w1.heap.size, 0, none⟩ rfl rfl hc2 rfl hlen b2.size ?_; intro v6 w6 T6 k6))
     have b6 := b2.trans (k6 w.heap.size (Nat.le_refl _))
     have hl6 : (gs ++ [wr.heap.size]).length = k + 1 := by rw [List.length_append, HG.out]; rfl
     have HG6 := aside hl6
     have HT6 := aside T6
     clear HG HT hnew hlen hgb T2 b2 hg2 hc2 T6 k6 hl6
     go_roundw
     case rel => exact ⟨k + 1, gs ++ [wr.heap.size], by omega, by go_num, HG6, HT6, b6⟩
     case measure => simp [intOf]; omega
   · have e : k = n := by omega
     have HG2 : Hid (gs.length = n) := aside (HG.out.trans e)
     have pn : ¬ (k : Int) < n := by omega
     clear HG hk hlt
     by_cases h0 : n = 0
     · have pz : ¬ (0 : Int) < n := by omega
       have hwhole := aside (show Whole (coms l) all (fun _ _ => false) from fun i j => ⟨fun h => (by cases h), fun h => absurd (kni_lt h).1 (by rw [coms_len, HN.out, h0]; exact Nat.not_lt_zero _)⟩)
       clear S T h0 e
       go_wp2_with (first | go_skip)
       go_loopg [7] 1 (fun gm mo wr => ∃ more : Bool, mo = .bool more ∧ Hid (gm = if more = true then 1 else 0) ∧ Hid (Tab wr w.heap.size u5 n gs fun _ _ => false) ∧ Below w.heap.size w wr)
       case atStart => exact ⟨true, rfl, aside rfl, HT, kb⟩
       case round =>
         clear HT kb
         obtain ⟨more, rfl, HM, HT, kb⟩ := hrel
         cases more with
         | false =>
           clear HM
           go_wp2_with (first | go_skip)
           go_ret
           exact ⟨_, gs, _, rfl, HG2.out, HT.out, hwhole.out, kb⟩
         | true =>
           go_wp2_with (first | go_skip)
           go_loopw [7, 8] (fun mo i wr => mo = .bool false ∧ i = .int .i64 0 ∧ Hid (Tab wr w.heap.size u5 n gs fun _ _ => false) ∧ Below w.heap.size w wr) (fun _ _ _ => 0)
           case atStart => exact ⟨rfl, rfl, HT, kb⟩
           case round =>
             clear HT kb
             obtain ⟨rfl, rfl, HT, kb⟩ := hrel
             go_wp2_with (first | go_skip)
             go_roundg 0
             case measure => rw [HM.out]; decide
             case rel => exact ⟨false, rfl, aside rfl, HT, kb⟩
     · obtain ⟨r, rc, rfl, hbr⟩ := HT.out.at (by rw [HG2.out]; omega)
       obtain ⟨b, off, rfl, hbw, hrg⟩ := S.plain (by rw [HN.out]; omega)
       have HRG := aside hrg
       have HS := aside S.each
       have HTT := aside T
       clear S T hrg h0
       have HCN : Hid ((coms l).length = n) := aside (by rw [coms_len, HN.out])
       go_wp2_with (first | go_skip)
       clear pn e
       go_loopg [7] (cnt n (fun _ _ => false) + 1) (fun gm mo wr => ∃ (K : Nat → Nat → Bool) (more : Bool), mo = .bool more ∧ Hid (gm = cnt n K + (if more = true then 1 else 0)) ∧ Hid (Tab wr w.heap.size (.slice (some ⟨r, 0, none⟩) gs.length rc) n gs K) ∧ Hid (Sound (coms l) all K) ∧ Hid (more = false → Done (coms l) all n K n) ∧ Below w.heap.size w wr)
       case atStart => exact ⟨fun _ _ => false, true, rfl, aside rfl, HT, aside (fun i j h => by cases h), aside (fun h => by cases h), kb⟩
       case round =>
         clear HT kb
         obtain ⟨K, more, rfl, HM, HT, HSO, HDO, kb⟩ := hrel
         cases more with
         | false =>
           have hwhole := aside (show Whole (coms l) all K from fun i j => ⟨HSO.out i j, fun h => done_all (by rw [HALL.out, coms_len]) (by rw [HCN.out]; exact HDO.out rfl) h⟩)
           clear HM HSO HDO
           go_wp2_with (first | go_skip)
           go_ret
           exact ⟨_, gs, K, rfl, HG2.out, HT.out, hwhole.out, kb⟩
         | true =>
           have HP0 : Hid (Pass (coms l) all n (cnt n K) K false (Done (coms l) all n K 0)) := aside ⟨HSO.out, fun h => (by cases h), fun _ => ⟨rfl, fun i' c hi' => absurd hi' (Nat.not_lt_zero _)⟩⟩
           clear HSO HDO
           go_wp2_with (first | go_skip)
           go_loopw [7, 8] (fun mo i wr => ∃ (k : Nat) (K1 : Nat → Nat → Bool) (more : Bool), k ≤ n ∧ i = .int .i64 k ∧ mo = .bool more ∧ Hid (Pass (coms l) all n (cnt n K) K1 more (Done (coms l) all n K1 k)) ∧ Hid (Tab wr w.heap.size (.slice (some ⟨r, 0, none⟩) gs.length rc) n gs K1) ∧ Below w.heap.size w wr) (fun _ i _ => n - (intOf i).toNat)
           case atStart => exact ⟨0, K, false, Nat.zero_le _, rfl, rfl, HP0, HT, kb⟩
           case round =>
             clear HP0 HT kb
             obtain ⟨k, K1, more, hk, rfl, rfl, HP, HT, kb⟩ := hrel
             by_cases hlt : k < n
             · obtain ⟨x, hx⟩ : ∃ x, l[k]? = some x := ⟨_, List.getElem?_eq_getElem (by rw [HN.out]; exact hlt)⟩
               have rx := HRG.out k x hx
               have IX := (HS.out x (List.mem_of_getElem? hx)).1
               obtain ⟨ad, hA⟩ : ∃ ad, x.a = ad := ⟨_, rfl⟩
               have d0 := cell_ps_at rx
               unfold In at IX
               rw [hA] at d0 IX
               have HX := aside (coms_at hx)
               have hbd := block_lt_of_cell d0
               obtain ⟨ps, hps⟩ : ∃ ps, x.c.ps = ps := ⟨_, rfl⟩
               rw [hps] at d0 IX
               have HPS := aside hps
               have hpsl : ps.length ≤ 9223372036854775807 := by have := IX.1; have := IX.2.1; unfold maxLen at this; omega
               have p0 : (k : Int) < n := by omega
               have m0 : ((k : Int)).toNat = k := by omega
               have HP1 : Hid (Pass (coms l) all n (cnt n K) K1 more (Done (coms l) all n K1 k ∧ Half all n K1 k ps 0)) := aside (HP.out.imp fun _ h => ⟨h, fun t' a ht' => absurd ht' (Nat.not_lt_zero _)⟩)
               clear HP hA hps hx rx
               go_wp2_with (first | go_skip)
               go_loopw [7, 9] (fun mo i wr => ∃ (t : Nat) (K2 : Nat → Nat → Bool) (more : Bool), t ≤ ps.length ∧ i = .int .i64 t ∧ mo = .bool more ∧ Hid (Pass (coms l) all n (cnt n K) K2 more (Done (coms l) all n K2 k ∧ Half all n K2 k ps t)) ∧ Hid (Tab wr w.heap.size (.slice (some ⟨r, 0, none⟩) gs.length rc) n gs K2) ∧ Below w.heap.size w wr) (fun _ i _ => ps.length - (intOf i).toNat)
               case atStart => exact ⟨0, K1, more, Nat.zero_le _, rfl, rfl, HP1, HT, kb⟩
               case round =>
                 clear HP1 HT kb
                 obtain ⟨t, K2, more, ht, rfl, rfl, HP, HT, kb⟩ := hrel
                 have d1 := (kb.cell hbd).trans d0
                 by_cases htl : t < ps.length
                 · obtain ⟨b2, off2, rfl, hb2, hr2⟩ := SlI.plain IX (by omega)
                   obtain ⟨a, ha⟩ : ∃ a, ps[t]? = some a := ⟨_, List.getElem?_eq_getElem htl⟩
                   have ra := IdW.range_below (hr2 t htl) kb
                   rw [show ps.getD t nought = a by rw [List.getD_eq_getElem?_getD, ha]; rfl] at ra
                   have HAt := aside ha
                   have pt : (t : Int) < ps.length := by omega
                   have mt : ((t : Int)).toNat = t := by omega
                   have hat := DgR.at_ret A' cap' all a _ (HTT.out.below kb)
                   clear hr2 ha
                   cases hq : idx all a with
                   | none =>
                     have hai : atI all a = -1 := by unfold atI; rw [hq]
                     rw [hai] at hat
                     have HQ := aside hq
                     clear hq hai
                     go_wp2_with (first | go_skip | (refine wpList_load_id rfl _ rfl _ _ rfl a ra ?_))
                     refine hat.mono ?_
                     rintro e w1 ⟨rfl, k1⟩
                     have b1 := kb.trans (k1.mono kb.size)
                     have T1 := aside (HT.out.below k1)
                     clear hat kb k1 HT d1 ra
                     go_wp2_with (first | go_skip)
                     go_loopw [7, 11] (fun mo i wr => mo = .bool more ∧ Hid (Tab wr w.heap.size (.slice (some ⟨r, 0, none⟩) gs.length rc) n gs K2) ∧ Below w.heap.size w wr) (fun _ i _ => n - (intOf i).toNat)
                     case atStart => exact ⟨rfl, T1, b1⟩
                     case round =>
                       clear T1 b1
                       obtain ⟨rfl, HT, kb⟩ := hrel
                       have HPn : Hid (Pass (coms l) all n (cnt n K) K2 more (Done (coms l) all n K2 k ∧ Half all n K2 k ps (t + 1))) := aside (HP.out.imp fun _ h => ⟨h.1, half_next h.2 HAt.out (fun p hp => by rw [HQ.out] at hp; cases hp)⟩)
                       clear HP
                       go_wp2_with (first | go_skip)
                       go_roundw
                       case rel => exact ⟨t + 1, K2, more, by omega, by go_num, rfl, HPn, HT, kb⟩
                       case measure => simp [intOf]; omega
                   | some p =>
                     have hai : atI all a = (p : Int) := by unfold atI; rw [hq]
                     rw [hai] at hat
                     have HQ := aside hq
                     have hpn : p < n := by have := idx_lt hq; rw [HALL.out, HN.out] at this; exact this
                     have HPI : Hid (ParI (coms l) all k p) := aside ⟨x.c, a, HX.out, by rw [HPS.out]; exact List.mem_of_getElem? HAt.out, hq⟩
                     clear hq hai
                     go_wp2_with (first | go_skip | (refine wpList_load_id rfl _ rfl _ _ rfl a ra ?_))
                     refine hat.mono ?_
                     rintro e w1 ⟨rfl, k1⟩
                     have b1 := kb.trans (k1.mono kb.size)
                     have T1 := aside (HT.out.below k1)
                     have HP2 : Hid (Pass (coms l) all n (cnt n K) K2 more ((Done (coms l) all n K2 k ∧ Half all n K2 k ps t) ∧ Row K2 k p 0)) := aside (HP.out.imp fun _ h => ⟨h, fun j hj => absurd hj (Nat.not_lt_zero _)⟩)
                     obtain ⟨gk, hgk⟩ : ∃ g, gs[k]? = some g := ⟨_, List.getElem?_eq_getElem (by rw [HG2.out]; exact hlt)⟩
                     obtain ⟨gp, hgp⟩ : ∃ g, gs[p]? = some g := ⟨_, List.getElem?_eq_getElem (by rw [HG2.out]; exact hpn)⟩
                     have HGK := aside hgk
                     have HGP := aside hgp
                     have hp0 : (0 : Int) ≤ (p : Int) := by omega
                     have mp : ((p : Int)).toNat = p := by omega
                     have pkg : (k : Int) < (gs.length : Int) := by rw [HG2.out]; omega
                     have ppg : (p : Int) < (gs.length : Int) := by rw [HG2.out]; omega
                     clear hat kb k1 HT d1 ra HP hgk hgp
                     go_wp2_with (first | go_skip)
                     go_loopw [7, 11] (fun mo i wr => ∃ (j : Nat) (K3 : Nat → Nat → Bool) (more : Bool), j ≤ n ∧ i = .int .i64 j ∧ mo = .bool more ∧ Hid (Pass (coms l) all n (cnt n K) K3 more ((Done (coms l) all n K3 k ∧ Half all n K3 k ps t) ∧ Row K3 k p j)) ∧ Hid (Tab wr w.heap.size (.slice (some ⟨r, 0, none⟩) gs.length rc) n gs K3) ∧ Below w.heap.size w wr) (fun _ i _ => n - (intOf i).toNat)
                     case atStart => exact ⟨0, K2, more, Nat.zero_le _, rfl, rfl, HP2, T1, b1⟩
                     case round =>
                       clear HP2 T1 b1
                       obtain ⟨j, K3, more, hj, rfl, rfl, HP, HT, kb⟩ := hrel
                       by_cases hjn : j < n
                       · have pj : (j : Int) < n := by omega
                         have mj : ((j : Int)).toNat = j := by omega
                         have ck : wr.cell? ⟨r, k, none⟩ = some (.slice (some ⟨gk, 0, none⟩) n n) := HT.out.cell HGK.out
                         have cp : wr.cell? ⟨r, p, none⟩ = some (.slice (some ⟨gp, 0, none⟩) n n) := HT.out.cell HGP.out
                         have bk := HT.out.bit HGK.out hjn
                         have bp := HT.out.bit HGP.out hjn
                         obtain ⟨u, hu⟩ : ∃ u, K3 k j = u := ⟨_, rfl⟩
                         obtain ⟨v, hv⟩ : ∃ v, K3 p j = v := ⟨_, rfl⟩
                         obtain ⟨q, hq⟩ : ∃ q, ((j : Int) == (p : Int)) = q := ⟨_, rfl⟩
                         rw [hu] at bk
                         rw [hv] at bp
                         have HU := aside hu
                         have HV := aside hv
                         have HQJ := aside hq
                         clear hu hv
                         have hw : u = true ∨ (u = false ∧ q = false ∧ v = false) ∨ (u = false ∧ q = true) ∨ (u = false ∧ q = false ∧ v = true) := by cases u <;> cases q <;> cases v <;> simp
                         rcases hw with rfl | ⟨rfl, rfl, rfl⟩ | ⟨rfl, rfl⟩ | ⟨rfl, rfl, rfl⟩
                         · have HPn : Hid (Pass (coms l) all n (cnt n K) K3 more ((Done (coms l) all n K3 k ∧ Half all n K3 k ps t) ∧ Row K3 k p (j + 1))) := aside (HP.out.imp fun _ h => ⟨h.1, row_next h.2 fun _ => HU.out⟩)
                           clear HP
                           go_wp2_with (first | go_skip)
                           go_roundw
                           case rel => exact ⟨j + 1, K3, more, by omega, by go_num, rfl, HPn, HT, kb⟩
                           case measure => simp [intOf]; omega
                         · have HPn : Hid (Pass (coms l) all n (cnt n K) K3 more ((Done (coms l) all n K3 k ∧ Half all n K3 k ps t) ∧ Row K3 k p (j + 1))) := aside (HP.out.imp fun _ h => ⟨h.1, row_next h.2 fun hc => by
                             rcases hc with rfl | hc
                             · have := HQJ.out
                               simp at this
                             · rw [HV.out] at hc
                               cases hc⟩)
                           clear HP
                           go_wp2_with (first | go_skip)
                           go_roundw
                           case rel => exact ⟨j + 1, K3, more, by omega, by go_num, rfl, HPn, HT, kb⟩
                           case measure => simp [intOf]; omega
                         · have HPn : Hid (Pass (coms l) all n (cnt n K) (upd K3 k j) true ((Done (coms l) all n (upd K3 k j) k ∧ Half all n (upd K3 k j) k ps t) ∧ Row (upd K3 k j) k p (j + 1))) := aside (HP.out.found HPI.out (.inl (by have := HQJ.out; simp at this; omega)) hlt hjn HU.out)
                           clear HP
                           go_wp2_with (first | go_skip | (refine store_bit rfl rfl _ _ rfl w.heap.size n r rc gs K3 HT.out k gk j HGK.out hjn rfl rfl ?_; intro w6 T6 k6))
                           have b6 := kb.trans (k6 w.heap.size (Nat.le_refl _))
                           have HT6 := aside T6
                           clear T6 k6 HT kb
                           go_roundw
                           case rel => exact ⟨j + 1, upd K3 k j, true, by omega, by go_num, rfl, HPn, HT6, b6⟩
                           case measure => simp [intOf]; omega
                         · have HPn : Hid (Pass (coms l) all n (cnt n K) (upd K3 k j) true ((Done (coms l) all n (upd K3 k j) k ∧ Half all n (upd K3 k j) k ps t) ∧ Row (upd K3 k j) k p (j + 1))) := aside (HP.out.found HPI.out (.inr HV.out) hlt hjn HU.out)
                           clear HP
                           go_wp2_with (first | go_skip | (refine store_bit rfl rfl _ _ rfl w.heap.size n r rc gs K3 HT.out k gk j HGK.out hjn rfl rfl ?_; intro w6 T6 k6))
                           have b6 := kb.trans (k6 w.heap.size (Nat.le_refl _))
                           have HT6 := aside T6
                           clear T6 k6 HT kb
                           go_roundw
                           case rel => exact ⟨j + 1, upd K3 k j, true, by omega, by go_num, rfl, HPn, HT6, b6⟩
                           case measure => simp [intOf]; omega
                       · have e : j = n := by omega
                         have pj : ¬ (j : Int) < n := by omega
                         have HPn : Hid (Pass (coms l) all n (cnt n K) K3 more (Done (coms l) all n K3 k ∧ Half all n K3 k ps (t + 1))) := aside (HP.out.imp fun _ h => ⟨h.1.1, half_next h.1.2 HAt.out (fun p' hp' => by
                           rw [HQ.out] at hp'
                           rw [← Option.some.inj hp', ← e]
                           exact h.2)⟩)
                         clear HP
                         go_wp2_with (first | go_skip)
                         go_roundw
                         case rel => exact ⟨t + 1, K3, more, by omega, by go_num, rfl, HPn, HT, kb⟩
                         case measure => simp [intOf]; omega
                 · have pt : ¬ (t : Int) < ps.length := by omega
                   have HPn : Hid (Pass (coms l) all n (cnt n K) K2 more (Done (coms l) all n K2 (k + 1))) := aside (HP.out.imp fun _ h => done_next h.1 HX.out (by rw [HPS.out]; exact h.2) (by rw [HPS.out]; omega))
                   clear HP
                   go_wp2_with (first | go_skip)
                   go_roundw
                   case rel => exact ⟨k + 1, K2, more, by omega, by go_num, rfl, HPn, HT, kb⟩
                   case measure => simp [intOf]; omega
             · have e : k = n := by omega
               have pk : ¬ (k : Int) < n := by omega
               have HM2 : Hid (cnt n K1 + (if more = true then 1 else 0) < gk) := aside (by
                 have := HM.out
                 cases hm : more with
                 | true => have := HP.out.less hm; simp at *; omega
                 | false => have := (HP.out.same hm).1; simp at *; omega)
               have HSO : Hid (Sound (coms l) all K1) := aside HP.out.sound
               have HDO : Hid (more = false → Done (coms l) all n K1 n) := aside (fun hm => by have h := (HP.out.same hm).2; rw [e] at h; exact h)
               clear HP HM
               go_wp2_with (first | go_skip)
               go_roundg (cnt n K1 + (if more = true then 1 else 0))
               case measure => exact HM2.out
               case rel => exact ⟨K1, more, rfl, aside rfl, HT, HSO, HDO, kb⟩
end Go.Proofs.YtgoapaanmcmlmaaGreatDoor.DgK
