/- What the laws' Few, and the document's List, At, Ids and Find of package dag return: contracts. | What the document's Find of package dag returns: a contract. | A table of who knows whom, as it is found out: what a pass over it keeps. No condition. | A table of truth values in memory, row by row: made, read, turned. No condition. | What the document's Knows of package dag returns: a contract. | What the document's one of package dag returns (is a commit fine, by its parents?): a contract. | What the document's Closed of package dag returns: a contract. -/
import Derived.Test.YtechkdhehipliaaDoorOpenKJ7
import Derived.Test.YtechkdhehipliaaDoorDgN
import Derived.Test.YtechkdhehipliaaDoorCmRJ3
import Derived.Test.YtechkdhehipliaaDoorRotCJ5
import Derived.Deep.LoopGhost
namespace Go.Proofs.YtechkdhehipliaaDoor.DgR
set_option maxRecDepth 100000
open Go Go.Sort Go.RowKit Byt IdM IdW OpsM OpsW CmM StW CmW CmX CmY DgM DgN DgW

set_option maxRecDepth 100000 in
set_option maxHeartbeats 8000000 in
theorem few_ret (A : Option Addr) (cap : Nat) (l : List Cv) (m : Int) (w : World) (S : SlK w A cap l) :
    Calls Tryd.prog 7 #[.slice A l.length cap, .int .i64 m] w fun e w' => e = .returned (.bool (fewD (coms l) m)) ∧ Below w.heap.size w w' := by
  have hmax := S.len
  obtain ⟨r, hr⟩ : ∃ r, fewD (coms l) m = r := ⟨_, rfl⟩
  have HR : Hid (r = (decide ((l.length : Int) ≤ m) && (coms l).all fewK)) := aside (by rw [← hr]; unfold fewD; rw [coms_len])
  rw [hr]
  clear hr
  by_cases hm : (l.length : Int) ≤ m
  · have hg : ¬ m < (l.length : Int) := by omega
    have HR2 : Hid (r = (coms (l.drop 0)).all fewK) := aside (by rw [HR.out, decide_eq_true hm]; rfl)
    clear HR hm
    go_enter Tryd.func7, Tryd.ntmps7
    go_wp2_with (first | go_skip)
    clear hg
    go_loopw [5] (fun i wr => ∃ k : Nat, k ≤ l.length ∧ i = .int .i64 k ∧ Hid (r = (coms (l.drop k)).all fewK) ∧ Below w.heap.size w wr) (fun i _ => l.length - (intOf i).toNat)
    case atStart => exact ⟨0, Nat.zero_le _, rfl, HR2, Below.refl _ _⟩
    case round =>
      clear HR2
      obtain ⟨k, hk, rfl, HR, kb⟩ := hrel
      by_cases hlt : k < l.length
      · obtain ⟨b, off, rfl, hbw, hrg⟩ := S.plain (by omega)
        obtain ⟨x, hx⟩ : ∃ x, l[k]? = some x := ⟨_, List.getElem?_eq_getElem hlt⟩
        have hr1 := range_on (hrg k x hx) kb
        have p0 : (k : Int) < l.length := by omega
        have m0 : ((k : Int)).toNat = k := by omega
        have hc := fun W => CmX.few_ret x W
        obtain ⟨z, hz⟩ : ∃ z, fewK x.c = z := ⟨_, rfl⟩
        have HZ : Hid (r = (z && (coms (l.drop (k + 1))).all fewK)) := aside (by rw [HR.out, drop_at hx, ← hz]; rfl)
        rw [hz] at hc
        clear hrg S hx hz HR
        go_wp2_with (first | go_skip | (refine load_at rfl _ rfl _ _ rfl x hr1 ?_))
        refine (hc _).mono ?_
        rintro e w1 ⟨rfl, k1⟩
        have b1 := kb.trans (k1.mono kb.size)
        clear k1 kb hc hr1
        cases z with
        | false =>
          go_wp2_with (first | go_skip)
          go_ret
          exact ⟨StW.ret_bool (by rw [HZ.out]; rfl), b1⟩
        | true =>
          go_wp2_with (first | go_skip)
          go_roundw
          case rel => exact ⟨k + 1, by omega, by go_num, aside (by rw [HZ.out]; rfl), b1⟩
          case measure => simp [intOf]; omega
      · have pn : ¬ (k : Int) < l.length := by omega
        have HT : Hid (r = true) := aside (by rw [HR.out, List.drop_of_length_le (by omega)]; rfl)
        clear HR S
        go_wp2_with (first | go_skip)
        go_ret
        exact ⟨StW.ret_bool HT.out.symm, kb⟩
  · have hg : m < (l.length : Int) := by omega
    have HF : Hid (r = false) := aside (by rw [HR.out, decide_eq_false hm]; rfl)
    clear HR hm
    go_enter Tryd.func7, Tryd.ntmps7
    go_wp2_with (first | go_skip)
    go_ret
    exact ⟨StW.ret_bool HF.out.symm, Below.refl _ _⟩
theorem atI_first {all : List Idn} {a : Idn} {k : Nat} (h : all[k]? = some a) (hn : ∀ j, j < k → all[j]? ≠ some a) : atI all a = k := by
  cases hq : idx all a with
  | none => exact absurd (List.mem_of_getElem? h) (idx_none.1 hq)
  | some p =>
    obtain ⟨h1, h2⟩ := idx_some hq
    have e : p = k := by
      rcases Nat.lt_trichotomy p k with hlt | e | hgt
      · exact absurd h1 (hn p hlt)
      · exact e
      · exact absurd h (h2 k hgt)
    unfold atI
    rw [hq, e]
theorem atI_none {all : List Idn} {a : Idn} (hn : ∀ j, j < all.length → all[j]? ≠ some a) : atI all a = -1 := by
  have : idx all a = none := idx_none.2 fun hm => by
    obtain ⟨j, hj⟩ := List.mem_iff_getElem?.1 hm
    exact hn j (List.getElem?_eq_some_iff.1 hj).1 hj
  unfold atI
  rw [this]
/-- Ids in a new slice are handed back. -/
def NewD (l : List Idn) (w : World) (e : Ending) (w' : World) : Prop := ∃ A cap, e = .returned (.slice A l.length cap) ∧ SlI w' A cap l ∧ Below w.heap.size w w'
theorem take_map {l : List Com} {k : Nat} {c : Com} (h : l[k]? = some c) : (l.take (k + 1)).map hashK = (l.take k).map hashK ++ [hashK c] := by
  obtain ⟨hk, e⟩ := List.getElem?_eq_some_iff.1 h
  rw [List.take_succ_eq_append_getElem hk, List.map_append, e]
  rfl
set_option maxRecDepth 100000 in
set_option maxHeartbeats 8000000 in
theorem list_ret (A A' : Option Addr) (cap cap' : Nat) (l m : List Cv) (w : World) (S : SlK w A cap l) (T : SlK w A' cap' m) :
    Calls Tryd.prog 10 #[.slice A l.length cap, .slice A' m.length cap'] w fun e w' => e = .returned (.bool (listB (coms l) (coms m))) ∧ Below w.heap.size w w' := by
  have hmax := S.len
  have hmax' := T.len
  obtain ⟨r, hr⟩ : ∃ r, listB (coms l) (coms m) = r := ⟨_, rfl⟩
  rw [hr]
  by_cases hlen : l.length = m.length
  · have hl0 : ((l.length : Int) != m.length) = false := by simp [hlen]
    have HR : Hid (r = listB (coms (l.drop 0)) (coms (m.drop 0))) := aside hr.symm
    have HL := aside hlen
    clear hr hlen
    go_enter Tryd.func10, Tryd.ntmps10
    go_wp2_with (first | go_skip)
    clear hl0
    go_loopw [5] (fun i wr => ∃ k : Nat, k ≤ l.length ∧ i = .int .i64 k ∧ Hid (r = listB (coms (l.drop k)) (coms (m.drop k))) ∧ Below w.heap.size w wr) (fun i _ => l.length - (intOf i).toNat)
    case atStart => exact ⟨0, Nat.zero_le _, rfl, HR, Below.refl _ _⟩
    case round =>
      clear HR
      obtain ⟨k, hk, rfl, HR, kb⟩ := hrel
      by_cases hlt : k < l.length
      · have hlt2 : k < m.length := by have := HL.out; omega
        obtain ⟨b, off, rfl, hbw, hrg⟩ := S.plain (by omega)
        obtain ⟨b', off', rfl, hbw', hrg'⟩ := T.plain (by omega)
        obtain ⟨x, hx⟩ : ∃ x, l[k]? = some x := ⟨_, List.getElem?_eq_getElem hlt⟩
        obtain ⟨y, hy⟩ : ∃ y, m[k]? = some y := ⟨_, List.getElem?_eq_getElem hlt2⟩
        have rx := range_on (hrg k x hx) kb
        have ry := range_on (hrg' k y hy) kb
        have IX := (S.each x (List.mem_of_getElem? hx)).1.below kb
        have IY := (T.each y (List.mem_of_getElem? hy)).1.below kb
        have p0 : (k : Int) < l.length := by omega
        have p1 : (k : Int) < m.length := by omega
        have m0 : ((k : Int)).toNat = k := by omega
        obtain ⟨z, hz⟩ : ∃ z, CmR.sameK x.c y.c = z := ⟨_, rfl⟩
        have HZ : Hid (r = (z && listB (coms (l.drop (k + 1))) (coms (m.drop (k + 1))))) := aside (by rw [HR.out, drop_at hx, drop_at hy, ← hz]; rfl)
        have HQ := aside hz
        clear hrg hrg' S T hx hy hz HR
        go_wp2_with (first | go_skip)
        refine Grow.region [(0, true), (1, true), (2, true), (3, true), (4, true), (5, true), (6, true), (7, true), (8, false), (9, true)] (by kernel_rfl) (by kernel_rfl) rfl (by kernel_rfl) (by intro c a d v w h; cases d <;> exact h) ?_
        rename World => V
        have kd := below_drew1 (Below.refl V.heap.size V)
        have rx' := range_on rx kd
        have ry' := range_on ry kd
        have IX' := IX.below kd
        have IY' := IY.below kd
        have kb' := kb.trans (kd.mono kb.size)
        clear rx ry IX IY kb kd
        generalize V.drew = wz at rx' ry' IX' IY' kb' ⊢
        repeat (first | (refine Grow.reads rfl rfl ?_; go_big_quiet_want; refine quiet_com _ rfl _ _ rfl x rx' ?_; go_big_quiet_on; refine wpQuiet_nil ?_; simp only [Act.put, List.setIfInBounds_toArray, List.set_cons_succ, List.set_cons_zero]) | (refine Grow.reads rfl rfl ?_; go_big_quiet_want; refine quiet_com _ rfl _ _ rfl y ry' ?_; go_big_quiet_on; refine wpQuiet_nil ?_; simp only [Act.put, List.setIfInBounds_toArray, List.set_cons_succ, List.set_cons_zero]) | (refine Grow.reads rfl rfl ?_; go_big_quiet_step (fail); refine wpQuiet_nil ?_))
        have hc := CmR.same_ret x y _ IX' IY'
        rw [HQ.out] at hc
        refine Grow.acts rfl ?_
        go_wp2_with (first | go_skip)
        refine hc.mono ?_
        rintro e w1 ⟨rfl, k1⟩
        go_wp2_with (first | go_skip)
        refine ⟨k1, ?_⟩
        have b1 := kb'.trans (k1.mono kb'.size)
        clear hc k1 kb' rx' ry' IX' IY'
        repeat (refine Grow.reads rfl rfl ?_; go_big_quiet_step (fail); refine wpQuiet_nil ?_)
        refine Grow.ends ?_
        cases z with
        | false =>
          go_wp2_with (first | go_skip)
          go_ret
          exact ⟨StW.ret_bool (by rw [HZ.out]; rfl), b1⟩
        | true =>
          go_wp2_with (first | go_skip)
          go_roundw
          case rel => exact ⟨k + 1, by omega, by go_num, aside (by rw [HZ.out]; rfl), b1⟩
          case measure => simp [intOf]; omega
      · have pn : ¬ (k : Int) < l.length := by omega
        have HT : Hid (r = true) := aside (by rw [HR.out, List.drop_of_length_le (by omega), List.drop_of_length_le (by have := HL.out; omega)]; rfl)
        clear HR S T
        go_wp2_with (first | go_skip)
        go_ret
        exact ⟨StW.ret_bool HT.out.symm, kb⟩
  · have hl0 : ((l.length : Int) != m.length) = true := by simp; omega
    have HF : Hid (r = false) := aside (by rw [← hr]; exact listB_len (by rw [coms_len, coms_len]; exact hlen))
    clear hr hlen
    go_enter Tryd.func10, Tryd.ntmps10
    go_wp2_with (first | go_skip)
    go_ret
    exact ⟨StW.ret_bool HF.out.symm, Below.refl _ _⟩
end Go.Proofs.YtechkdhehipliaaDoor.DgR
namespace Go.Proofs.YtechkdhehipliaaDoor.DgG
set_option maxRecDepth 100000
open Go Go.Sort Go.RowKit Byt IdM IdW OpsM OpsW CmM StW CmW CmX CmY DgM DgN DgW DgR

/-- The first one whose id it is. -/
def findC (l : List Com) (a : Idn) : Option Com := l.find? fun c => mayK c && decide (hashK c = a)
def FoundC (q : Option Com) (w : World) (e : Ending) (w' : World) : Prop := ∃ v, e = .returned (.tuple #[.agg (cc v), .bool q.isSome]) ∧ v.c = q.getD noK ∧ CmW.In w' v ∧ Fit v.c ∧ Below w.heap.size w w'
theorem findC_yes {l : List Cv} {a : Idn} {k : Nat} {x : Cv} (h : l[k]? = some x) (hm : mayK x.c = true) (hh : hashK x.c = a) : findC (coms (l.drop k)) a = some x.c := by
  rw [drop_at h]
  unfold findC coms
  rw [List.map_cons, List.find?_cons_of_pos (by rw [hm, hh]; simp)]
theorem findC_no {l : List Cv} {a : Idn} {k : Nat} {x : Cv} (h : l[k]? = some x) (hm : mayK x.c = true → hashK x.c ≠ a) : findC (coms (l.drop k)) a = findC (coms (l.drop (k + 1))) a := by
  rw [drop_at h]
  unfold findC coms
  rw [List.map_cons, List.find?_cons_of_neg]
  intro hc
  rw [Bool.and_eq_true, decide_eq_true_eq] at hc
  exact hm hc.1 hc.2
theorem results_cb {fn : Func} {p q : Tmp} (h : fn.results = #[.cell p 33, .tmp q]) (tmps : Array Value) (w : World) (g : Nat) (v : Cv) (x : Value)
    (hp : tmps.getD p undef = .pointer (some ⟨g, 0, none⟩)) (hq : tmps.getD q undef = x) (hg : Cel.Box CE w g v) : (results fn tmps).run Tryd.prog w = .ok (.tuple #[.agg (cc v), x]) w := by
  obtain ⟨t, ht⟩ := hg
  have hp' : tmps[p]?.getD undef = .pointer (some ⟨g, 0, none⟩) := by simpa using hp
  have hq' : tmps[q]?.getD undef = x := by simpa using hq
  have hl := run_loadVar_row w g t 33 (CE.enc v).toArray (0, 0) _ ht CE.under CE.row (CE.size' v)
  simp [results, h, hp', hq', asAddr, hl]
  rfl
theorem fit_noK : CmW.Fit noK := ⟨by unfold I64; decide, by unfold I64; decide, by unfold I64; decide, by constructor <;> first | (unfold I64; decide) | decide⟩
end Go.Proofs.YtechkdhehipliaaDoor.DgG
namespace Go.Proofs.YtechkdhehipliaaDoor.DgP
set_option maxRecDepth 100000
open IdM CmM DgM DgN
open Classical

def upd (K : Nat → Nat → Bool) (i j : Nat) : Nat → Nat → Bool := fun a b => if a = i ∧ b = j then true else K a b
theorem upd_at (K : Nat → Nat → Bool) (i j : Nat) : upd K i j i j = true := if_pos ⟨rfl, rfl⟩
theorem upd_le {K : Nat → Nat → Bool} {i j a b : Nat} (h : K a b = true) : upd K i j a b = true := by
  unfold upd
  split
  · rfl
  · exact h
theorem upd_or {K : Nat → Nat → Bool} {i j a b : Nat} (h : upd K i j a b = true) : (a = i ∧ b = j) ∨ K a b = true := by
  unfold upd at h
  split at h
  · rename_i hc; exact .inl hc
  · exact .inr h
/-- How many are not known yet. -/
def cnt (n : Nat) (K : Nat → Nat → Bool) : Nat := (List.range (n * n)).countP fun m => !K (m / n) (m % n)
theorem count_less {α : Type} {p q : α → Bool} : ∀ l : List α, (∀ x ∈ l, q x = true → p x = true) → (∃ x ∈ l, p x = true ∧ q x = false) → l.countP q < l.countP p
  | [], _, h => by obtain ⟨x, hx, _⟩ := h; simp at hx
  | y :: l, h, hx => by
    have hl : ∀ x ∈ l, q x = true → p x = true := fun x hx => h x (List.mem_cons_of_mem _ hx)
    have mono : l.countP q ≤ l.countP p := List.countP_mono_left hl
    rw [List.countP_cons, List.countP_cons]
    obtain ⟨x, hx, h1, h2⟩ := hx
    rcases List.mem_cons.1 hx with rfl | hx
    · rw [h1, h2]; simp; omega
    · have ih := count_less l hl ⟨x, hx, h1, h2⟩
      have hy := h y (by simp)
      cases hq : q y <;> cases hp : p y
      · simpa using ih
      · simp; omega
      · rw [hy hq] at hp; cases hp
      · simp; omega
theorem cnt_upd {n i j : Nat} {K : Nat → Nat → Bool} (hi : i < n) (hj : j < n) (h : K i j = false) : cnt n (upd K i j) < cnt n K := by
  refine count_less _ (fun m _ hm => ?_) ⟨i * n + j, ?_, ?_, ?_⟩
  · cases hk : K (m / n) (m % n) with
    | false => rfl
    | true => rw [upd_le hk] at hm; cases hm
  · rw [List.mem_range]
    have : (i + 1) * n ≤ n * n := Nat.mul_le_mul_right n hi
    rw [Nat.add_mul, Nat.one_mul] at this
    omega
  · have hn : 0 < n := by omega
    rw [show (i * n + j) / n = i by rw [Nat.mul_comm, Nat.mul_add_div hn, Nat.div_eq_of_lt hj, Nat.add_zero], show (i * n + j) % n = j by rw [Nat.mul_comm, Nat.mul_add_mod, Nat.mod_eq_of_lt hj], h]
    rfl
  · have hn : 0 < n := by omega
    rw [show (i * n + j) / n = i by rw [Nat.mul_comm, Nat.mul_add_div hn, Nat.div_eq_of_lt hj, Nat.add_zero], show (i * n + j) % n = j by rw [Nat.mul_comm, Nat.mul_add_mod, Nat.mod_eq_of_lt hj], upd_at]
    rfl
section
variable (l : List Com) (all : List Idn)
/-- All that the table holds is so. -/
def Sound (K : Nat → Nat → Bool) : Prop := ∀ i j, K i j = true → KnI l all i j
/-- The table holds, of places that a pass has gone by, what it is to hold: of place i, its k-th parent, for all below j. -/
def Row (K : Nat → Nat → Bool) (i p : Nat) (m : Nat) : Prop := ∀ j, j < m → (j = p ∨ K p j = true) → K i j = true
/-- What a pass keeps: something was found out, and less is left; or nothing was, and the table is as it is to be so far. -/
structure Pass (n : Nat) (c0 : Nat) (K : Nat → Nat → Bool) (more : Bool) (done : Prop) : Prop where
  sound : Sound l all K
  less : more = true → cnt n K < c0
  same : more = false → cnt n K = c0 ∧ done
end
theorem sound_upd {l : List Com} {all : List Idn} {K : Nat → Nat → Bool} (h : Sound l all K) {i p j : Nat} (hp : ParI l all i p) (hj : j = p ∨ K p j = true) : Sound l all (upd K i j) := by
  intro a b hab
  rcases upd_or hab with ⟨rfl, rfl⟩ | hab
  · rcases hj with rfl | hj
    · exact .one hp
    · exact .more hp (h _ _ hj)
  · exact h a b hab
theorem Pass.found {l : List Com} {all : List Idn} {n c0 : Nat} {K : Nat → Nat → Bool} {more : Bool} {done done' : Prop} (h : Pass l all n c0 K more done) {i p j : Nat} (hp : ParI l all i p) (hj : j = p ∨ K p j = true) (hi : i < n) (hjn : j < n) (hk : K i j = false) : Pass l all n c0 (upd K i j) true done' := by
  refine ⟨sound_upd h.sound hp hj, fun _ => ?_, fun e => by cases e⟩
  have h1 := cnt_upd hi hjn hk
  cases hm : more with
  | true => have := h.less hm; omega
  | false => have := (h.same hm).1; omega
theorem Pass.imp {l : List Com} {all : List Idn} {n c0 : Nat} {K : Nat → Nat → Bool} {more : Bool} {done done' : Prop} (h : Pass l all n c0 K more done) (hd : more = false → done → done') : Pass l all n c0 K more done' :=
  ⟨h.sound, h.less, fun e => ⟨(h.same e).1, hd e (h.same e).2⟩⟩
end Go.Proofs.YtechkdhehipliaaDoor.DgP
namespace Go.Proofs.YtechkdhehipliaaDoor.DgT
set_option maxRecDepth 100000
open Go Go.Sort Go.RowKit Byt IdM IdW OpsM OpsW CmM StW CmW DgP

/-- A row's place, as it stands in the table. -/
def rowV (n g : Nat) : Value := .slice (some ⟨g, 0, none⟩) n n
def bits (n : Nat) (f : Nat → Bool) : Array Value := ((List.range n).map fun j => Value.bool (f j)).toArray
theorem bits_size (n : Nat) (f : Nat → Bool) : (bits n f).size = n := by simp [bits]
theorem bits_at {n j : Nat} (f : Nat → Bool) (hj : j < n) : (bits n f)[j]? = some (.bool (f j)) := by
  simp [bits, hj]
theorem bits_no (n : Nat) : (List.replicate n (Value.bool false)).toArray = bits n fun _ => false := by
  apply Array.ext_getElem?
  intro i
  by_cases h : i < n <;> simp [bits, h]
theorem bits_set {n j : Nat} (f : Nat → Bool) (hj : j < n) : (bits n f).setIfInBounds j (.bool true) = bits n fun i => if i = j then true else f i := by
  apply Array.ext_getElem?
  intro i
  rw [Array.getElem?_setIfInBounds]
  by_cases hi : i < n
  · rw [bits_at _ hi, bits_at _ hi, bits_size]
    by_cases e : j = i
    · subst e; rw [if_pos rfl, if_pos hj, if_pos rfl]
    · rw [if_neg e, if_neg (fun h => e h.symm)]
  · rw [Array.getElem?_eq_none (by rw [bits_size]; omega), Array.getElem?_eq_none (by rw [bits_size]; omega), bits_size]
    by_cases e : j = i
    · omega
    · rw [if_neg e]
theorem info_bool : (Tryd.prog.info? 4).map (·.size) = some 1 := by kernel_rfl
theorem zero_bool : (Tryd.prog.info? 4).map (fun i => (i.zero, i.size, i.bytes)) = some (some (.bool false), 1, 1) := by kernel_rfl
section
variable {ops : Array Oper} {rest : List Oper} {o : Oper} {a : Act} {w : World} {Q : Exit → Act → World → Prop}
end
end Go.Proofs.YtechkdhehipliaaDoor.DgT
namespace Go.Proofs.YtechkdhehipliaaDoor.DgK
set_option maxRecDepth 100000
open Go Go.Sort Go.RowKit Byt IdM IdW OpsM OpsW CmM StW CmW CmX CmY DgM DgN DgP DgW DgT DgR

/-- All parents of the commits ahead of a place; of a commit, all ahead of a place. -/
def Done (l : List Com) (all : List Idn) (n : Nat) (K : Nat → Nat → Bool) (i : Nat) : Prop := ∀ i' c, i' < i → l[i']? = some c → ∀ a ∈ c.ps, ∀ p, idx all a = some p → Row K i' p n
def Half (all : List Idn) (n : Nat) (K : Nat → Nat → Bool) (i : Nat) (ps : List Idn) (t : Nat) : Prop := ∀ t' a, t' < t → ps[t']? = some a → ∀ p, idx all a = some p → Row K i p n
theorem done_next {l : List Com} {all : List Idn} {n : Nat} {K : Nat → Nat → Bool} {i t : Nat} {c : Com} (h : Done l all n K i) (hc : l[i]? = some c) (hh : Half all n K i c.ps t) (ht : c.ps.length ≤ t) : Done l all n K (i + 1) := by
  intro i' c' hi' hc' a ha p hp
  by_cases e : i' = i
  · subst e
    rw [hc] at hc'
    obtain rfl := Option.some.inj hc'
    obtain ⟨t', ht'⟩ := List.mem_iff_getElem?.1 ha
    exact hh t' a (Nat.lt_of_lt_of_le (List.getElem?_eq_some_iff.1 ht').1 ht) ht' p hp
  · exact h i' c' (by omega) hc' a ha p hp
theorem half_next {all : List Idn} {n : Nat} {K : Nat → Nat → Bool} {i t : Nat} {ps : List Idn} {a : Idn} (h : Half all n K i ps t) (ha : ps[t]? = some a) (hr : ∀ p, idx all a = some p → Row K i p n) : Half all n K i ps (t + 1) := by
  intro t' a' ht' ha' p hp
  by_cases e : t' = t
  · subst e
    rw [ha] at ha'
    obtain rfl := Option.some.inj ha'
    exact hr p hp
  · exact h t' a' (by omega) ha' p hp
theorem row_next {K : Nat → Nat → Bool} {i p j : Nat} (h : Row K i p j) (hk : (j = p ∨ K p j = true) → K i j = true) : Row K i p (j + 1) := by
  intro j' hj' hc
  by_cases e : j' = j
  · subst e; exact hk hc
  · exact h j' (by omega) hc
theorem done_all {l : List Com} {all : List Idn} {K : Nat → Nat → Bool} (hall : all.length = l.length) (h : Done l all l.length K l.length) {i j : Nat} (hk : KnI l all i j) : K i j = true := by
  have hrow : ∀ i p, ParI l all i p → Row K i p l.length := by
    rintro i p ⟨c, a, hc, ha, hp⟩
    exact h i c (List.getElem?_eq_some_iff.1 hc).1 hc a ha p hp
  induction hk with
  | one hp =>
    obtain ⟨c, a, hc, ha, hx⟩ := hp
    exact hrow _ _ ⟨c, a, hc, ha, hx⟩ _ (by have := idx_lt hx; omega) (.inl rfl)
  | more hp hk ih => exact hrow _ _ hp _ (by have := (kni_lt hk).2; omega) (.inr ih)
/-- What the table holds when nothing more is found out. -/
def Whole (l : List Com) (all : List Idn) (K : Nat → Nat → Bool) : Prop := ∀ i j, K i j = true ↔ KnI l all i j
theorem cell_ps_at {w : World} {b off : Nat} {x : Cv} (h : w.rangeAt b off (cc x).toList) : w.cell? ⟨b, off + 3, none⟩ = some (.slice x.a x.c.ps.length x.k) := h 3 _ rfl
end Go.Proofs.YtechkdhehipliaaDoor.DgK
namespace Go.Proofs.YtechkdhehipliaaDoor.DgO
set_option maxRecDepth 100000
open Go Go.Sort Go.RowKit Byt IdM IdW OpsM OpsW CmM StW CmW CmX CmY DgM DgN DgP DgW DgT DgR DgK
open Classical

/-- A parent is there, and knows no other one. -/
def Good (all : List Idn) (K : Nat → Nat → Bool) (p : Nat) (b : Idn) : Prop := ∃ q, idx all b = some q ∧ K p q = false
def Fine (all : List Idn) (K : Nat → Nat → Bool) (ps : List Idn) (a : Idn) : Prop := ∃ p, idx all a = some p ∧ ∀ b ∈ ps, Good all K p b
theorem one_iff {l : List Com} {all : List Idn} {K : Nat → Nat → Bool} (hW : Whole l all K) {c : Com} : OneI l all c ↔ (∀ a ∈ c.ps, Fine all K c.ps a) ∧ c.gen = 1 + most (c.ps.map (gI l all)) := by
  have some_of : ∀ {a : Idn}, a ∈ all → ∃ p, idx all a = some p := fun {a} ha => by
    cases hq : idx all a with
    | none => exact absurd ha (idx_none.1 hq)
    | some p => exact ⟨p, rfl⟩
  constructor
  · intro h
    refine ⟨fun a ha => ?_, h.gen⟩
    obtain ⟨p, hp⟩ := some_of (h.found a ha)
    refine ⟨p, hp, fun b hb => ?_⟩
    obtain ⟨q, hq⟩ := some_of (h.found b hb)
    refine ⟨q, hq, ?_⟩
    cases hk : K p q with
    | false => rfl
    | true => exact absurd ((hW p q).1 hk) (h.apart a ha b hb p q hp hq)
  · rintro ⟨h1, h2⟩
    refine ⟨fun a ha => ?_, fun a ha b hb p q hp hq k => ?_, h2⟩
    · obtain ⟨p, hp, _⟩ := h1 a ha
      exact List.mem_of_getElem? (idx_some hp).1
    · obtain ⟨p', hp', hg⟩ := h1 a ha
      obtain ⟨q', hq', hk⟩ := hg b hb
      rw [hp] at hp'
      rw [hq] at hq'
      rw [← Option.some.inj hp', ← Option.some.inj hq', (hW p q).2 k] at hk
      cases hk
theorem most_snoc (l : List Int) (x : Int) : most (l ++ [x]) = max (most l) x := by simp [most, List.foldl_append]
theorem cell_gen_at {w : World} {b off : Nat} {x : Cv} (h : w.rangeAt b off (cc x).toList) : w.cell? ⟨b, off + 2, none⟩ = some (.int .i64 x.c.gen) := h 2 _ rfl
theorem take_gens {l : List Com} {all : List Idn} {ps : List Idn} {t p : Nat} {a : Idn} {y : Com} (ha : ps[t]? = some a) (hq : idx all a = some p) (hy : l[p]? = some y) : most ((ps.take (t + 1)).map (gI l all)) = max (most ((ps.take t).map (gI l all))) y.gen := by
  obtain ⟨ht, e⟩ := List.getElem?_eq_some_iff.1 ha
  rw [List.take_succ_eq_append_getElem ht, List.map_append, List.map_cons, List.map_nil, most_snoc, e]
  congr 1
  unfold gI
  rw [hq]
  simp [hy]
theorem most_le {l : List Com} {all : List Idn} {ps : List Idn} (hm : ∀ c ∈ l, c.gen ≤ 1048576) : 0 ≤ most (ps.map (gI l all)) ∧ most (ps.map (gI l all)) ≤ 1048576 := by
  obtain ⟨h1, _, h3⟩ := foldl_max (ps.map (gI l all)) 0
  refine ⟨h1, ?_⟩
  unfold most
  rcases h3 with h3 | h3
  · rw [h3]; omega
  · obtain ⟨a, _, ha⟩ := List.mem_map.1 h3
    rw [← ha]
    unfold gI
    cases hq : idx all a with
    | none => simp
    | some p =>
      cases hy : l[p]? with
      | none => simp [hy]
      | some y => simpa [hy] using hm y (List.mem_of_getElem? hy)
end Go.Proofs.YtechkdhehipliaaDoor.DgO
namespace Go.Proofs.YtechkdhehipliaaDoor.DgC
set_option maxRecDepth 100000
open Go Go.Sort Go.RowKit Byt IdM IdW OpsM OpsW CmM StW CmW CmX CmY DgM DgN DgP DgW DgT DgR DgK DgO
open Classical

/-- What is asked of two of one node. -/
def Pair (l : List Com) (all : List Idn) (i j : Nat) (c d : Com) : Prop := c.node = d.node → c.seq ≠ d.seq ∧ (d.seq < c.seq → KnI l all i j) ∧ (c.seq < d.seq → KnI l all j i)
theorem cell_node_at {w : World} {b off : Nat} {x : Cv} (h : w.rangeAt b off (cc x).toList) : w.cell? ⟨b, off, none⟩ = some (.int .i64 x.c.node) := by
  have := h 0 _ rfl
  rwa [Nat.add_zero] at this
theorem cell_seq_at {w : World} {b off : Nat} {x : Cv} (h : w.rangeAt b off (cc x).toList) : w.cell? ⟨b, off + 1, none⟩ = some (.int .i64 x.c.seq) := h 1 _ rfl
theorem idsD_all {l : List Com} (h : l.all mayK = true) : idsD l = l.map hashK := by rw [idsD, if_pos h]
theorem idsD_no {l : List Com} (h : l.all mayK = false) : idsD l = [] := by rw [idsD, if_neg (by rw [h]; simp)]
end Go.Proofs.YtechkdhehipliaaDoor.DgC
