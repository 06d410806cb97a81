/- What the document's Find of package dag returns: a contract. | A table of who knows whom, as it is found out: what a pass over it keeps. No condition. | A table of truth values in memory, row by row: made, read, turned. No condition. -/
import Derived.Test.YtechkdhehipliaaGreatDoorDgR
import Derived.Test.YtechkdhehipliaaGreatDoorCmAJ3
import Derived.Test.YtechkdhehipliaaGreatDoorOpenKJ4
import Derived.Test.YtechkdhehipliaaGreatDoorRotMJ8
namespace Go.Proofs.YtechkdhehipliaaGreatDoor.DgG
set_option maxRecDepth 100000
open Go Go.Sort Go.RowKit Byt IdM IdW OpsM OpsW CmM StW CmW CmX CmY DgM DgN DgW DgR

/-- The first one whose id it is. -/
def findC (l : List Com) (a : Idn) : Option Com := l.find? fun c => mayK c && decide (hashK c = a)
def FoundC (q : Option Com) (w : World) (e : Ending) (w' : World) : Prop := ∃ v, e = .returned (.tuple #[.agg (cc v), .bool q.isSome]) ∧ v.c = q.getD noK ∧ CmW.In w' v ∧ Fit v.c ∧ Below w.heap.size w w'
theorem findC_yes {l : List Cv} {a : Idn} {k : Nat} {x : Cv} (h : l[k]? = some x) (hm : mayK x.c = true) (hh : hashK x.c = a) : findC (coms (l.drop k)) a = some x.c := by
  rw [drop_at h]
  unfold findC coms
  rw [List.map_cons, List.find?_cons_of_pos (by rw [hm, hh]; simp)]
theorem findC_no {l : List Cv} {a : Idn} {k : Nat} {x : Cv} (h : l[k]? = some x) (hm : mayK x.c = true → hashK x.c ≠ a) : findC (coms (l.drop k)) a = findC (coms (l.drop (k + 1))) a := by
  rw [drop_at h]
  unfold findC coms
  rw [List.map_cons, List.find?_cons_of_neg]
  intro hc
  rw [Bool.and_eq_true, decide_eq_true_eq] at hc
  exact hm hc.1 hc.2
theorem results_cb {fn : Func} {p q : Tmp} (h : fn.results = #[.cell p 38, .tmp q]) (tmps : Array Value) (w : World) (g : Nat) (v : Cv) (x : Value)
    (hp : tmps.getD p undef = .pointer (some ⟨g, 0, none⟩)) (hq : tmps.getD q undef = x) (hg : Cel.Box CE w g v) : (results fn tmps).run Tryz.prog w = .ok (.tuple #[.agg (cc v), x]) w := by
  obtain ⟨t, ht⟩ := hg
  have hp' : tmps[p]?.getD undef = .pointer (some ⟨g, 0, none⟩) := by simpa using hp
  have hq' : tmps[q]?.getD undef = x := by simpa using hq
  have hl := run_loadVar_row w g t 38 (CE.enc v).toArray (0, 0) _ ht CE.under CE.row (CE.size' v)
  simp [results, h, hp', hq', asAddr, hl]
  rfl
theorem fit_noK : CmW.Fit noK := ⟨by unfold I64; decide, by unfold I64; decide, by unfold I64; decide, by constructor <;> first | (unfold I64; decide) | decide⟩
set_option maxRecDepth 100000 in
set_option maxHeartbeats 8000000 in
theorem find_ret (A : Option Addr) (cap : Nat) (l : List Cv) (a : Idn) (w : World) (S : SlK w A cap l) (ho : ∀ v ∈ l, CmR.Okay v.c) (hl : l.length ≤ 1000) :
    Calls Tryz.prog 27 #[.slice A l.length cap, .agg (cs a)] w (FoundC (findC (coms l) a) w) := by
  have hmax := S.len
  obtain ⟨r, hr⟩ : ∃ r, findC (coms l) a = r := ⟨_, rfl⟩
  have HR : Hid (r = findC (coms (l.drop 0)) a) := aside hr.symm
  rw [hr]
  clear hr
  unfold FoundC
  have z1 : (w.alloc (.cells (cs a) 42)).heap.size = w.heap.size + 1 := by simp
  have B1 : IdW.Box ((w.alloc (.cells (cs a) 42)).alloc (.cells (cc noV) 38)) w.heap.size a := (IdW.Box.new w a _).alloc _
  have C1 : Cel.Box CE ((w.alloc (.cells (cs a) 42)).alloc (.cells (cc noV) 38)) (w.heap.size + 1) noV := by
    rw [← z1]
    exact Cel.Box.new (E := CE) _ noV _
  have kb : Below w.heap.size w ((w.alloc (.cells (cs a) 42)).alloc (.cells (cc noV) 38)) := ((Below.refl _ _).alloc (Nat.le_refl _) _).alloc (by simp) _
  clear z1
  go_enter Tryz.func27, Tryz.ntmps27
  go_wp2_with (first | go_skip)
  go_loopw [6] (fun i wr => ∃ k : Nat, k ≤ l.length ∧ i = .int .i64 k ∧ Hid (r = findC (coms (l.drop k)) a) ∧ IdW.Box wr w.heap.size a ∧ Cel.Box CE wr (w.heap.size + 1) noV ∧ Below w.heap.size w wr) (fun i _ => l.length - (intOf i).toNat)
  case atStart => exact ⟨0, Nat.zero_le _, rfl, HR, B1, C1, kb⟩
  case round =>
    clear HR B1 C1 kb
    obtain ⟨k, hk, rfl, HR, B1, C1, kb⟩ := hrel
    by_cases hlt : k < l.length
    · obtain ⟨b, off, rfl, hbw, hrg⟩ := S.plain (by omega)
      obtain ⟨x, hx⟩ : ∃ x, l[k]? = some x := ⟨_, List.getElem?_eq_getElem hlt⟩
      have rx0 := hrg k x hx
      have rx := range_on rx0 kb
      have p0 : (k : Int) < l.length := by omega
      have m0 : ((k : Int)).toNat = k := by omega
      have hxm := List.mem_of_getElem? hx
      have IX := (S.each x hxm).1
      have HF := aside (S.each x hxm).2
      have hc := hash_doc x _ (IX.below kb) (ho x hxm)
      unfold HashOut at hc
      have HX := aside hx
      clear hrg hx hxm
      obtain ⟨n, hn⟩ : ∃ n, putN x.c = n := ⟨_, rfl⟩
      obtain ⟨y, hy⟩ : ∃ y, hashI x.c = y := ⟨_, rfl⟩
      have HN : Hid (mayK x.c = true ∧ n = 0 ∧ hashK x.c = y ∨ mayK x.c = false ∧ n = 1) := aside (by
        cases hm : mayK x.c with
        | false => exact .inr ⟨rfl, by rw [← hn, (putB_no hm).2.1]⟩
        | true => exact .inl ⟨rfl, by rw [← hn, (putB_yes hm).2.1], by rw [← hy, (putB_yes hm).2.2]⟩)
      rw [hn, hy] at hc
      clear hn hy
      go_wp2_with (first | go_skip | (refine load_at rfl _ rfl _ _ rfl x rx ?_))
      refine hc.mono ?_
      rintro e w1 ⟨rfl, k1⟩
      have b1 := kb.trans (k1.mono kb.size)
      have B2 := B1.below k1 B1.lt
      have C2 := C1.below k1
      clear hc kb k1 rx B1 C1
      rcases HN.out with ⟨hm, rfl, hh⟩ | ⟨hm, rfl⟩
      · have heq := fun W => IdW.equal W 9998 y a
        by_cases hya : y = a
        · have HE : Hid (r = some x.c) := aside (by rw [HR.out]; exact findC_yes HX.out hm (hh.trans hya))
          simp only [hya, decide_true] at heq
          subst hya
          clear HN HR hm hh
          go_wp2_with (first | go_skip | (refine IdJ.wpList_alloc_id rfl rfl ?_) | (refine CmG.wpList_store_id rfl _ _ rfl _ nought _ rfl y _ rfl rfl rfl ?_; intro w2 G2 k2 s2; have b2 := b1.trans (k2.mono b1.size); have B3 := B2.below k2 B2.lt; have C3 := C2.below k2; have rx2 := range_on rx0 b2) | (refine CmY.gid _ rfl _ _ rfl y G2.range rfl ?_) | (refine CmY.gid _ rfl _ _ rfl y B3.range rfl ?_) | (refine load_at rfl _ rfl _ _ rfl x rx2 ?_) | (refine Cel.wpList_store_box CE rfl _ _ rfl (w.heap.size + 1) rfl noV C3 x rfl ?_; intro w9 R9 f9 g9 s9))
          have b9 := b2.trans (f9 w.heap.size (by omega))
          exact bodyPost_ret (v := .tuple #[.agg (cc x), .bool true]) (results_cb Tryz.results27 _ _ (w.heap.size + 1) x _ rfl rfl R9) rfl ⟨x, by rw [HE.out]; rfl, by rw [HE.out]; rfl, IX.below b9, HF.out, b9⟩
        · have HE : Hid (r = findC (coms (l.drop (k + 1))) a) := aside (by rw [HR.out]; exact findC_no HX.out fun _ h => hya (hh.symm.trans h))
          simp only [hya, decide_false] at heq
          clear HN HR hm hh
          go_wp2_with (first | go_skip | (refine IdJ.wpList_alloc_id rfl rfl ?_) | (refine CmG.wpList_store_id rfl _ _ rfl _ nought _ rfl y _ rfl rfl rfl ?_; intro w2 G2 k2 s2; have b2 := b1.trans (k2.mono b1.size); have B3 := B2.below k2 B2.lt; have C3 := C2.below k2) | (refine CmY.gid _ rfl _ _ rfl y G2.range rfl ?_) | (refine CmY.gid _ rfl _ _ rfl a B3.range rfl ?_))
          go_roundw
          case rel => exact ⟨k + 1, by omega, by go_num, HE, B3, C3, b2⟩
          case measure => simp [intOf]; omega
      · have HE : Hid (r = findC (coms (l.drop (k + 1))) a) := aside (by rw [HR.out]; exact findC_no HX.out fun h => by rw [hm] at h; cases h)
        clear HN HR hm
        go_wp2_with (first | go_skip | (refine IdJ.wpList_alloc_id rfl rfl ?_) | (refine CmG.wpList_store_id rfl _ _ rfl _ nought _ rfl y _ rfl rfl rfl ?_; intro w2 G2 k2 s2; have b2 := b1.trans (k2.mono b1.size); have B3 := B2.below k2 B2.lt; have C3 := C2.below k2))
        go_roundw
        case rel => exact ⟨k + 1, by omega, by go_num, HE, B3, C3, b2⟩
        case measure => simp [intOf]; omega
    · have pn : ¬ (k : Int) < l.length := by omega
      have HE : Hid (r = none) := aside (by rw [HR.out, List.drop_of_length_le (by omega)]; rfl)
      clear HR
      go_wp2_with (first | go_skip | (refine Cel.wpList_store_box CE rfl _ _ rfl (w.heap.size + 1) rfl noV C1 noV rfl ?_; intro w9 R9 f9 g9 s9))
      exact bodyPost_ret (v := .tuple #[.agg (cc noV), .bool false]) (results_cb Tryz.results27 _ _ (w.heap.size + 1) noV _ rfl rfl R9) rfl ⟨noV, by rw [HE.out]; rfl, by rw [HE.out]; rfl, CmW.In.none _, fit_noK, kb.trans (f9 _ (by omega))⟩
end Go.Proofs.YtechkdhehipliaaGreatDoor.DgG
namespace Go.Proofs.YtechkdhehipliaaGreatDoor.DgP
set_option maxRecDepth 100000
open IdM CmM DgM DgN
open Classical

def upd (K : Nat → Nat → Bool) (i j : Nat) : Nat → Nat → Bool := fun a b => if a = i ∧ b = j then true else K a b
theorem upd_at (K : Nat → Nat → Bool) (i j : Nat) : upd K i j i j = true := if_pos ⟨rfl, rfl⟩
theorem upd_le {K : Nat → Nat → Bool} {i j a b : Nat} (h : K a b = true) : upd K i j a b = true := by
  unfold upd
  split
  · rfl
  · exact h
theorem upd_or {K : Nat → Nat → Bool} {i j a b : Nat} (h : upd K i j a b = true) : (a = i ∧ b = j) ∨ K a b = true := by
  unfold upd at h
  split at h
  · rename_i hc; exact .inl hc
  · exact .inr h
/-- How many are not known yet. -/
def cnt (n : Nat) (K : Nat → Nat → Bool) : Nat := (List.range (n * n)).countP fun m => !K (m / n) (m % n)
theorem count_less {α : Type} {p q : α → Bool} : ∀ l : List α, (∀ x ∈ l, q x = true → p x = true) → (∃ x ∈ l, p x = true ∧ q x = false) → l.countP q < l.countP p
  | [], _, h => by obtain ⟨x, hx, _⟩ := h; simp at hx
  | y :: l, h, hx => by
    have hl : ∀ x ∈ l, q x = true → p x = true := fun x hx => h x (List.mem_cons_of_mem _ hx)
    have mono : l.countP q ≤ l.countP p := List.countP_mono_left hl
    rw [List.countP_cons, List.countP_cons]
    obtain ⟨x, hx, h1, h2⟩ := hx
    rcases List.mem_cons.1 hx with rfl | hx
    · rw [h1, h2]; simp; omega
    · have ih := count_less l hl ⟨x, hx, h1, h2⟩
      have hy := h y (by simp)
      cases hq : q y <;> cases hp : p y
      · simpa using ih
      · simp; omega
      · rw [hy hq] at hp; cases hp
      · simp; omega
theorem cnt_upd {n i j : Nat} {K : Nat → Nat → Bool} (hi : i < n) (hj : j < n) (h : K i j = false) : cnt n (upd K i j) < cnt n K := by
  refine count_less _ (fun m _ hm => ?_) ⟨i * n + j, ?_, ?_, ?_⟩
  · cases hk : K (m / n) (m % n) with
    | false => rfl
    | true => rw [upd_le hk] at hm; cases hm
  · rw [List.mem_range]
    have : (i + 1) * n ≤ n * n := Nat.mul_le_mul_right n hi
    rw [Nat.add_mul, Nat.one_mul] at this
    omega
  · have hn : 0 < n := by omega
    rw [show (i * n + j) / n = i by rw [Nat.mul_comm, Nat.mul_add_div hn, Nat.div_eq_of_lt hj, Nat.add_zero], show (i * n + j) % n = j by rw [Nat.mul_comm, Nat.mul_add_mod, Nat.mod_eq_of_lt hj], h]
    rfl
  · have hn : 0 < n := by omega
    rw [show (i * n + j) / n = i by rw [Nat.mul_comm, Nat.mul_add_div hn, Nat.div_eq_of_lt hj, Nat.add_zero], show (i * n + j) % n = j by rw [Nat.mul_comm, Nat.mul_add_mod, Nat.mod_eq_of_lt hj], upd_at]
    rfl
section
variable (l : List Com) (all : List Idn)
/-- All that the table holds is so. -/
def Sound (K : Nat → Nat → Bool) : Prop := ∀ i j, K i j = true → KnI l all i j
/-- The table holds, of places that a pass has gone by, what it is to hold: of place i, its k-th parent, for all below j. -/
def Row (K : Nat → Nat → Bool) (i p : Nat) (m : Nat) : Prop := ∀ j, j < m → (j = p ∨ K p j = true) → K i j = true
/-- What a pass keeps: something was found out, and less is left; or nothing was, and the table is as it is to be so far. -/
structure Pass (n : Nat) (c0 : Nat) (K : Nat → Nat → Bool) (more : Bool) (done : Prop) : Prop where
  sound : Sound l all K
  less : more = true → cnt n K < c0
  same : more = false → cnt n K = c0 ∧ done
end
theorem sound_upd {l : List Com} {all : List Idn} {K : Nat → Nat → Bool} (h : Sound l all K) {i p j : Nat} (hp : ParI l all i p) (hj : j = p ∨ K p j = true) : Sound l all (upd K i j) := by
  intro a b hab
  rcases upd_or hab with ⟨rfl, rfl⟩ | hab
  · rcases hj with rfl | hj
    · exact .one hp
    · exact .more hp (h _ _ hj)
  · exact h a b hab
theorem Pass.found {l : List Com} {all : List Idn} {n c0 : Nat} {K : Nat → Nat → Bool} {more : Bool} {done done' : Prop} (h : Pass l all n c0 K more done) {i p j : Nat} (hp : ParI l all i p) (hj : j = p ∨ K p j = true) (hi : i < n) (hjn : j < n) (hk : K i j = false) : Pass l all n c0 (upd K i j) true done' := by
  refine ⟨sound_upd h.sound hp hj, fun _ => ?_, fun e => by cases e⟩
  have h1 := cnt_upd hi hjn hk
  cases hm : more with
  | true => have := h.less hm; omega
  | false => have := (h.same hm).1; omega
theorem Pass.imp {l : List Com} {all : List Idn} {n c0 : Nat} {K : Nat → Nat → Bool} {more : Bool} {done done' : Prop} (h : Pass l all n c0 K more done) (hd : more = false → done → done') : Pass l all n c0 K more done' :=
  ⟨h.sound, h.less, fun e => ⟨(h.same e).1, hd e (h.same e).2⟩⟩
end Go.Proofs.YtechkdhehipliaaGreatDoor.DgP
namespace Go.Proofs.YtechkdhehipliaaGreatDoor.DgT
set_option maxRecDepth 100000
open Go Go.Sort Go.RowKit Byt IdM IdW OpsM OpsW CmM StW CmW DgP

/-- A row's place, as it stands in the table. -/
def rowV (n g : Nat) : Value := .slice (some ⟨g, 0, none⟩) n n
def bits (n : Nat) (f : Nat → Bool) : Array Value := ((List.range n).map fun j => Value.bool (f j)).toArray
theorem bits_size (n : Nat) (f : Nat → Bool) : (bits n f).size = n := by simp [bits]
theorem bits_at {n j : Nat} (f : Nat → Bool) (hj : j < n) : (bits n f)[j]? = some (.bool (f j)) := by
  simp [bits, hj]
theorem bits_no (n : Nat) : (List.replicate n (Value.bool false)).toArray = bits n fun _ => false := by
  apply Array.ext_getElem?
  intro i
  by_cases h : i < n <;> simp [bits, h]
theorem bits_set {n j : Nat} (f : Nat → Bool) (hj : j < n) : (bits n f).setIfInBounds j (.bool true) = bits n fun i => if i = j then true else f i := by
  apply Array.ext_getElem?
  intro i
  rw [Array.getElem?_setIfInBounds]
  by_cases hi : i < n
  · rw [bits_at _ hi, bits_at _ hi, bits_size]
    by_cases e : j = i
    · subst e; rw [if_pos rfl, if_pos hj, if_pos rfl]
    · rw [if_neg e, if_neg (fun h => e h.symm)]
  · rw [Array.getElem?_eq_none (by rw [bits_size]; omega), Array.getElem?_eq_none (by rw [bits_size]; omega), bits_size]
    by_cases e : j = i
    · omega
    · rw [if_neg e]
/-- The rows gs of a table of n places each, in blocks of their own. -/
structure Tab (w : World) (base : Nat) (v : Value) (n : Nat) (gs : List Nat) (K : Nat → Nat → Bool) : Prop where
  row : w.ownsRow base 69 1 v gs.length (gs.map (rowV n))
  each : ∀ i g, gs[i]? = some g → base ≤ g ∧ w.heap[g]? = some (.cells (bits n (K i)) 4 (0, 0))
  nodup : gs.Nodup
theorem Tab.nil (w : World) (base n : Nat) (K : Nat → Nat → Bool) : Tab w base (.slice none 0 0) n [] K := ⟨⟨rfl, .inl ⟨rfl, rfl⟩⟩, fun i g h => by simp at h, List.nodup_nil⟩
theorem Tab.below {w w' : World} {base n : Nat} {v : Value} {gs : List Nat} {K : Nat → Nat → Bool} (h : Tab w base v n gs K) (hb : Below w.heap.size w w') : Tab w' base v n gs K :=
  ⟨owns_below h.row hb, fun i g hi => ⟨(h.each i g hi).1, by rw [hb.block g (Array.getElem?_eq_some_iff.1 (h.each i g hi).2).1]; exact (h.each i g hi).2⟩, h.nodup⟩
theorem Tab.lt {w : World} {base n : Nat} {v : Value} {gs : List Nat} {K : Nat → Nat → Bool} (h : Tab w base v n gs K) : ∀ g ∈ gs, g < w.heap.size := fun g hg => by
  obtain ⟨i, hi⟩ := List.mem_iff_getElem?.1 hg
  exact (Array.getElem?_eq_some_iff.1 (h.each i g hi).2).1
/-- Where there is a row, the table lies in a block. -/
theorem Tab.at {w : World} {base n : Nat} {v : Value} {gs : List Nat} {K : Nat → Nat → Bool} (h : Tab w base v n gs K) (hp : 0 < gs.length) : ∃ r cap, v = .slice (some ⟨r, 0, none⟩) gs.length cap ∧ base ≤ r := by
  rcases h.row.2 with ⟨_, h0⟩ | ⟨g, cap, cur, hv, hb, _⟩
  · omega
  · exact ⟨g, cap, hv, hb⟩
theorem Tab.cell {w : World} {base n r cap : Nat} {gs : List Nat} {K : Nat → Nat → Bool} (h : Tab w base (.slice (some ⟨r, 0, none⟩) gs.length cap) n gs K) {i g : Nat} (hi : gs[i]? = some g) : w.cell? ⟨r, i, none⟩ = some (rowV n g) := by
  have hlt := (List.getElem?_eq_some_iff.1 hi).1
  rw [h.row.cellAt i (by omega), List.getElem?_map, hi]
  rfl
theorem Tab.bit {w : World} {base n : Nat} {v : Value} {gs : List Nat} {K : Nat → Nat → Bool} (h : Tab w base v n gs K) {i g j : Nat} (hi : gs[i]? = some g) (hj : j < n) : w.cell? ⟨g, j, none⟩ = some (.bool (K i j)) := by
  rw [cell_of_row w g j _ _ (0, 0) (h.each i g hi).2, bits_at _ hj]
theorem info_bool : (Tryz.prog.info? 4).map (·.size) = some 1 := by kernel_rfl
theorem zero_bool : (Tryz.prog.info? 4).map (fun i => (i.zero, i.size, i.bytes)) = some (some (.bool false), 1, 1) := by kernel_rfl
theorem zero_row : (Tryz.prog.info? 69).map (fun i => (i.zero, i.size, i.bytes)) = some (some (.slice none 0 0), 1, 24) := by kernel_rfl
section
variable {ops : Array Oper} {rest : List Oper} {o : Oper} {a : Act} {w : World} {Q : Exit → Act → World → Prop}
/-- One place turned to true. -/
theorem store_bit (hgd : o.guard = none) (hd : o.dst = none) (x y : Operand) (ho : o.op = .store 4 x y)
    (base n r cap : Nat) (gs : List Nat) (K : Nat → Nat → Bool) (h : Tab w base (.slice (some ⟨r, 0, none⟩) gs.length cap) n gs K) (i g j : Nat) (hi : gs[i]? = some g) (hj : j < n)
    (hx : a.eval x = .pointer (some ⟨g, j, none⟩)) (hy : a.eval y = .bool true)
    (hk : ∀ w', Tab w' base (.slice (some ⟨r, 0, none⟩) gs.length cap) n gs (upd K i j) → (∀ B, B ≤ base → Below B w w') → wpList Tryz.prog ops Q rest a w') : wpList Tryz.prog ops Q (o :: rest) a w := by
  obtain ⟨hbg, hg⟩ := h.each i g hi
  refine wpList_plain hgd fun K' hK => ?_
  have hrun := RowF.run_store_one (T := 4) (v := .bool true) hg (by rw [bits_size]; exact hj) info_bool rfl rfl
  unfold Oper.wp execOp
  simp only [ho, hx, hy, Sem.run_bind, hrun, Result.andThen_ok, Sem.run_pure]
  refine hK _ _ ?_
  rw [hd]
  have hother : ∀ k, k ≠ g → (w.setCell ⟨g, j, none⟩ (.bool true)).heap[k]? = w.heap[k]? := fun k hne => by
    simp only [World.setCell]
    rw [Array.getElem?_modify, if_neg (fun e => hne e.symm)]
  have hgrown : w.grownBy (w.setCell ⟨g, j, none⟩ (.bool true)) (some g) := ⟨rfl, rfl, rfl, by simp [World.setCell], fun k _ hne => hother k (fun e => hne (by rw [e]))⟩
  refine hk _ ⟨h.row.kept hgrown (.inr fun e => ?_), fun k q hq => ⟨(h.each k q hq).1, ?_⟩, h.nodup⟩ (fun B hB => (Below.refl B w).setCell (p := ⟨g, j, none⟩) (Nat.le_trans hB hbg) _)
  · rcases h.row.2 with ⟨e0, _⟩ | ⟨r', cap', cur, hv, _, hr, _⟩
    · cases e0
    · injection hv with e1
      injection e1 with e2
      injection e2 with e3
      simp only [Value.ownBlock, Option.some.injEq] at e
      rw [← e3, e, hg] at hr
      injection hr with e4
      injection e4 with _ e5
      exact absurd e5 (by decide)
  · by_cases e : q = g
    · subst e
      have hki : k = i := by
        obtain ⟨h1, e1⟩ := List.getElem?_eq_some_iff.1 hq
        obtain ⟨h2, e2⟩ := List.getElem?_eq_some_iff.1 hi
        exact (List.getElem_inj h.nodup).1 (e1.trans e2.symm)
      subst hki
      simp only [World.setCell]
      rw [Array.getElem?_modify, if_pos rfl, hg]
      have e : (fun m => if m = j then true else K k m) = upd K k j k := by
        funext m
        unfold upd
        simp
      rw [← e, ← bits_set _ hj]
      rfl
    · rw [hother q e, (h.each k q hq).2]
      have hki : k ≠ i := by
        rintro rfl
        rw [hi] at hq
        exact e (Option.some.inj hq).symm
      congr 2
      unfold bits upd
      congr 1
      exact List.map_congr_left fun m _ => by simp [hki]
/-- One row more, none of it true. -/
theorem append_row (hgd : o.guard = none) (s x : Operand) (ho : o.op = .call { callee := .builtin .append, args := #[s, x], argTypes := #[65, 65] })
    (base n : Nat) (v : Value) (gs : List Nat) (h : Tab w base v n gs fun _ _ => false) (g : Nat) (hg : w.heap[g]? = some (.cells (bits n fun _ => false) 4 (0, 0))) (hbg : base ≤ g) (hnew : g ∉ gs)
    (ad : Addr) (hs : a.eval s = v) (hx : a.eval x = .slice (some ad) 1 1) (hc : w.cell? ad = some (rowV n g)) (had : ad.add 0 = ad) (hlen : gs.length ≤ 100000) (hbase : base ≤ w.heap.size)
    (hk : ∀ v' w', Tab w' base v' n (gs ++ [g]) (fun _ _ => false) → (∀ B, B ≤ base → Below B w w') → wpList Tryz.prog ops Q rest (a.put o.dst v') w') : wpList Tryz.prog ops Q (o :: rest) a w := by
  obtain ⟨i, hi, z0, z1, z2⟩ := info_parts zero_row
  have hap : ∀ k q, (gs ++ [g])[k]? = some q → base ≤ q ∧ w.heap[q]? = some (.cells (bits n fun _ => false) 4 (0, 0)) := fun k q hq => by
    by_cases hlt : k < gs.length
    · rw [List.getElem?_append_left hlt] at hq
      exact h.each k q hq
    · rw [List.getElem?_append_right (by omega)] at hq
      have hk0 : k - gs.length = 0 := by
        have := (List.getElem?_eq_some_iff.1 hq).1
        simpa using this
      rw [hk0] at hq
      obtain rfl : g = q := by simpa using hq
      exact ⟨hbg, hg⟩
  have hmem : ∀ q ∈ gs ++ [g], base ≤ q ∧ w.heap[q]? = some (.cells (bits n fun _ => false) 4 (0, 0)) := fun q hq => by
    obtain ⟨k, hk⟩ := List.mem_iff_getElem?.1 hq
    exact hap k q hk
  refine wpList_append_own w hgd s x 65 ho base 69 i (.slice none 0 0) 1 24 Tryz.underlying65 hi z0 z1 z2 rfl (by decide) v gs.length (gs.map (rowV n)) hs h.row ad 1 1 [rowV n g] hx rfl (fun j u hu => ?_) (fun u hu => by rw [List.mem_singleton.1 hu]; rfl) (by unfold maxLen; omega) (by omega) hbase (fun v' w' a1 a2 _ => ?_)
  · match j, hu with
    | 0, hu =>
      simp only [List.getElem?_cons_zero, Option.some.injEq] at hu
      rw [had, hc, hu]
  · have hne : ∀ q ∈ gs ++ [g], v.ownBlock ≠ some q := fun q hq e => by
      rcases h.row.2 with ⟨rfl, _⟩ | ⟨r', cap', cur, rfl, _, hr, _⟩
      · cases e
      · simp only [Value.ownBlock, Option.some.injEq] at e
        rw [e, (hmem q hq).2] at hr
        injection hr with e4
        injection e4 with _ e5
        exact absurd e5 (by decide)
    refine hk v' w' ⟨by rw [List.length_append, List.map_append]; exact a1, fun k q hq => ?_, ?_⟩ (fun B hB => below_grown (Below.refl B w) (Nat.le_trans hB hbase) a2 (fun q hq => Nat.le_trans hB (h.row.lt q hq).1))
    · obtain ⟨h1, h2⟩ := hap k q hq
      exact ⟨h1, by rw [a2.block q (Array.getElem?_eq_some_iff.1 h2).1 (fun e => hne q (List.mem_of_getElem? hq) e.symm)]; exact h2⟩
    · rw [List.nodup_append]
      exact ⟨h.nodup, by simp, fun q hq q' hq' e => by
        rw [List.mem_singleton.1 hq'] at e
        exact hnew (e ▸ hq)⟩
end
end Go.Proofs.YtechkdhehipliaaGreatDoor.DgT
