/- How the project's package reg searches: contracts. | Plain facts on registers that are put in by keys that do not fall. No condition. | A region that draws its order: what reads no memory is taken first, and of the rest every order is walked, as a tree. No condition. -/
import Derived.Test.YtnjdkjkihbgkaaaGreatRegB
import Derived.Test.YtnjdkjkihbgkaaaGreatRegL
import Derived.Test.YtnjdkjkihbgkaaaGreatGrow
namespace Go.Proofs.YtnjdkjkihbgkaaaGreat.RegC
set_option maxRecDepth 100000
open Go Go.RowKit Byt OpsM OpsK Rise RegM RegL RowS RowB RegW RegG

theorem is_ret (k : ByteArray) (c : Rg) (w : World) :
    Calls Tryz.prog 61 #[.string k, .agg (rc c)] w fun e w' => e = .returned (.bool (c.key.toList == k.toList)) ∧ Below w.heap.size w w' := by
  have R1 : RgAt (w.alloc (.cells (rc c) 43)) w.heap.size c := RgAt.new w c _
  have kb : Below w.heap.size w (w.alloc (.cells (rc c) 43)) := (Below.refl _ _).alloc (Nat.le_refl _) _
  obtain ⟨c0, c1, c2, c3, c4⟩ := R1.cells
  clear R1
  go_enter Tryz.func61, Tryz.ntmps61
  go_wp2
  go_ret
  exact ⟨rfl, kb⟩
theorem ahead_ret (k : ByteArray) (c : Rg) (w : World) :
    Calls Tryz.prog 104 #[.string k, .agg (rc c)] w fun e w' => e = .returned (.bool (ltS k c.key)) ∧ Below w.heap.size w w' := by
  have R1 : RgAt (w.alloc (.cells (rc c) 43)) w.heap.size c := RgAt.new w c _
  have kb : Below w.heap.size w (w.alloc (.cells (rc c) 43)) := (Below.refl _ _).alloc (Nat.le_refl _) _
  obtain ⟨c0, c1, c2, c3, c4⟩ := R1.cells
  clear R1
  go_enter Tryz.func104, Tryz.ntmps104
  go_wp2
  go_ret
  exact ⟨rfl, kb⟩
theorem ret_int {k : IntKind} {a b : Int} (h : a = b) : Ending.returned (.int k a) = .returned (.int k b) := by rw [h]
/-- The place of the first one that p holds of, or -1. -/
def firstAt (p : Rg → Bool) (l : List Rg) : Int := match l.findIdx? p with | none => -1 | some i => i
theorem first_yes {p : Rg → Bool} {l : List Rg} {j : Nat} (hj : j < l.length) (hp : p l[j] = true) (hn : ∀ i (h : i < j), p (l[i]'(by omega)) = false) : firstAt p l = j := by
  have : l.findIdx? p = some j := by
    rw [List.findIdx?_eq_some_iff_getElem]
    exact ⟨hj, hp, fun i hi => by simp [hn i hi]⟩
  unfold firstAt
  rw [this]
theorem first_none {p : Rg → Bool} {l : List Rg} (hn : ∀ i (h : i < l.length), p l[i] = false) : firstAt p l = -1 := by
  have : l.findIdx? p = none := by
    rw [List.findIdx?_eq_none_iff]
    intro x hx
    obtain ⟨i, hi, rfl⟩ := List.mem_iff_getElem.1 hx
    exact hn i hi
  unfold firstAt
  rw [this]
theorem hmf (fn : Fn) (first cap : Array Value) (w : World) : (Instr.makeFunc fn first cap).run Tryz.prog w = .ok (.func fn first cap) w := rfl

set_option maxHeartbeats 4000000 in
theorem index_is (A : Option Addr) (cap : Nat) (l : List Rg) (k : ByteArray) (w : World) (S : SlR E w A cap l) (hl : l.length ≤ 1000000) :
    Calls Tryz.prog 60 #[.slice A l.length cap, .func (.func 61) #[.string k] #[]] w fun e w' => e = .returned (.int .i64 (firstAt (fun c => c.key.toList == k.toList) l)) ∧ Below w.heap.size w w' := by
  have hcap := S.1
  obtain ⟨R, hR⟩ : ∃ R, firstAt (fun c => c.key.toList == k.toList) l = R := ⟨_, rfl⟩
  rw [hR]
  have HR := aside hR
  clear hR
  go_enter Tryz.func60, Tryz.ntmps60
  go_wp2
  go_loopw [8] (fun i wr => ∃ j : Nat, j ≤ l.length ∧ i = .int .i64 j ∧ Hid (∀ i (h : i < j) (h2 : i < l.length), (fun c => c.key.toList == k.toList) l[i] = false) ∧ Below w.heap.size w wr) (fun i _ => l.length - (intOf i).toNat)
  case atStart => exact ⟨0, Nat.zero_le _, rfl, aside (fun i h => absurd h (by omega)), Below.refl _ _⟩
  case round =>
    obtain ⟨j, hj, rfl, HN, kb⟩ := hrel
    by_cases hlt : j < l.length
    · obtain ⟨b, off, rfl, hbw, hr⟩ := RegW.plain S (by omega)
      have hx : l[j]? = some l[j] := List.getElem?_eq_getElem hlt
      have hr1 := range_below (hr j _ hx) kb
      have p0 : (j : Int) < l.length := by omega
      have m0 : ((j : Int)).toNat = j := by omega
      have cc := fun W => is_ret k l[j] W
      clear hr S hx
      obtain ⟨y, hy⟩ : ∃ y, (fun c => c.key.toList == k.toList) l[j] = y := ⟨_, rfl⟩
      have HY := aside hy
      simp only at hy
      rw [hy] at cc
      clear hy
      cases y with
      | true =>
        have HR2 : Hid (R = (j : Int)) := aside (by rw [← HR.out]; exact first_yes hlt HY.out (fun i h => HN.out i h (by omega)))
        go_wp2_with (first
          | (refine wpList_load_at E rfl _ rfl b _ rfl l[j] hr1 ?_)
          | (refine (cc _).mono ?_; rintro e w' ⟨rfl, k1⟩; have k2 := kb.trans (k1.mono kb.size); clear k1))
        go_ret
        exact ⟨ret_int HR2.out.symm, k2⟩
      | false =>
        go_wp2_with (first
          | (refine wpList_load_at E rfl _ rfl b _ rfl l[j] hr1 ?_)
          | (refine (cc _).mono ?_; rintro e w' ⟨rfl, k1⟩; have k2 := kb.trans (k1.mono kb.size); clear k1))
        go_roundw
        case rel =>
          refine ⟨j + 1, by omega, by go_num, aside (fun i h h2 => ?_), k2⟩
          by_cases e : i = j
          · subst e; exact HY.out
          · exact HN.out i (by omega) h2
        case measure => simp [intOf]; omega
    · have HR2 : Hid (R = -1) := aside (by rw [← HR.out]; exact first_none (fun i h => HN.out i (by omega) h))
      clear S HN
      go_wp2
      go_ret
      exact ⟨ret_int HR2.out.symm, kb⟩

set_option maxHeartbeats 4000000 in
theorem index_ahead (A : Option Addr) (cap : Nat) (l : List Rg) (k : ByteArray) (w : World) (S : SlR E w A cap l) (hl : l.length ≤ 1000000) :
    Calls Tryz.prog 60 #[.slice A l.length cap, .func (.func 104) #[.string k] #[]] w fun e w' => e = .returned (.int .i64 (firstAt (fun c => ltS k c.key) l)) ∧ Below w.heap.size w w' := by
  have hcap := S.1
  obtain ⟨R, hR⟩ : ∃ R, firstAt (fun c => ltS k c.key) l = R := ⟨_, rfl⟩
  rw [hR]
  have HR := aside hR
  clear hR
  go_enter Tryz.func60, Tryz.ntmps60
  go_wp2
  go_loopw [8] (fun i wr => ∃ j : Nat, j ≤ l.length ∧ i = .int .i64 j ∧ Hid (∀ i (h : i < j) (h2 : i < l.length), (fun c => ltS k c.key) l[i] = false) ∧ Below w.heap.size w wr) (fun i _ => l.length - (intOf i).toNat)
  case atStart => exact ⟨0, Nat.zero_le _, rfl, aside (fun i h => absurd h (by omega)), Below.refl _ _⟩
  case round =>
    obtain ⟨j, hj, rfl, HN, kb⟩ := hrel
    by_cases hlt : j < l.length
    · obtain ⟨b, off, rfl, hbw, hr⟩ := RegW.plain S (by omega)
      have hx : l[j]? = some l[j] := List.getElem?_eq_getElem hlt
      have hr1 := range_below (hr j _ hx) kb
      have p0 : (j : Int) < l.length := by omega
      have m0 : ((j : Int)).toNat = j := by omega
      have cc := fun W => ahead_ret k l[j] W
      clear hr S hx
      obtain ⟨y, hy⟩ : ∃ y, (fun c => ltS k c.key) l[j] = y := ⟨_, rfl⟩
      have HY := aside hy
      simp only at hy
      rw [hy] at cc
      clear hy
      cases y with
      | true =>
        have HR2 : Hid (R = (j : Int)) := aside (by rw [← HR.out]; exact first_yes hlt HY.out (fun i h => HN.out i h (by omega)))
        go_wp2_with (first
          | (refine wpList_load_at E rfl _ rfl b _ rfl l[j] hr1 ?_)
          | (refine (cc _).mono ?_; rintro e w' ⟨rfl, k1⟩; have k2 := kb.trans (k1.mono kb.size); clear k1))
        go_ret
        exact ⟨ret_int HR2.out.symm, k2⟩
      | false =>
        go_wp2_with (first
          | (refine wpList_load_at E rfl _ rfl b _ rfl l[j] hr1 ?_)
          | (refine (cc _).mono ?_; rintro e w' ⟨rfl, k1⟩; have k2 := kb.trans (k1.mono kb.size); clear k1))
        go_roundw
        case rel =>
          refine ⟨j + 1, by omega, by go_num, aside (fun i h h2 => ?_), k2⟩
          by_cases e : i = j
          · subst e; exact HY.out
          · exact HN.out i (by omega) h2
        case measure => simp [intOf]; omega
    · have HR2 : Hid (R = -1) := aside (by rw [← HR.out]; exact first_none (fun i h => HN.out i (by omega) h))
      clear S HN
      go_wp2
      go_ret
      exact ⟨ret_int HR2.out.symm, kb⟩

theorem first_cases (p : Rg → Bool) (l : List Rg) : (firstAt p l = -1 ∧ ∀ x ∈ l, p x = false) ∨ ∃ (i : Nat) (x : Rg), firstAt p l = i ∧ l[i]? = some x ∧ p x = true ∧ ∀ j (_ : j < i) (y : Rg), l[j]? = some y → p y = false := by
  unfold firstAt
  cases h : l.findIdx? p with
  | none => exact .inl ⟨rfl, List.findIdx?_eq_none_iff.1 h⟩
  | some i =>
    rw [List.findIdx?_eq_some_iff_getElem] at h
    obtain ⟨hi, hp, hn⟩ := h
    refine .inr ⟨i, l[i], rfl, List.getElem?_eq_getElem hi, hp, fun j hj y hy => ?_⟩
    obtain ⟨hj2, rfl⟩ := List.getElem?_eq_some_iff.1 hy
    simpa using hn j hj
theorem getR_first {l : List Rg} {k : ByteArray} : ∀ {i : Nat} {x : Rg}, l[i]? = some x → x.key = k → (∀ j (_ : j < i) (y : Rg), l[j]? = some y → y.key ≠ k) → getR l k = some x := by
  induction l with
  | nil => intro i x h; simp at h
  | cons c r ih =>
    intro i x h hx hn
    rw [getR_cons]
    cases i with
    | zero =>
      obtain rfl : c = x := by simpa using h
      rw [if_pos hx]
    | succ i =>
      rw [if_neg (hn 0 (by omega) c rfl)]
      exact ih (i := i) (by simpa using h) hx (fun j hj y hy => hn (j + 1) (by omega) y (by simpa using hy))
/-- How many stand ahead of the first one beyond that key. -/
def upN (k : ByteArray) (l : List Rg) : Nat := match l.findIdx? (fun c => ltS k c.key) with | none => l.length | some i => i
theorem upN_le (k : ByteArray) (l : List Rg) : upN k l ≤ l.length := by
  unfold upN
  cases h : l.findIdx? (fun c => ltS k c.key) with
  | none => exact Nat.le_refl _
  | some i =>
    rw [List.findIdx?_eq_some_iff_getElem] at h
    obtain ⟨hi, _⟩ := h
    simp only
    omega
theorem up_cases (k : ByteArray) (l : List Rg) : (firstAt (fun c => ltS k c.key) l = -1 ∧ upN k l = l.length) ∨ ∃ i : Nat, firstAt (fun c => ltS k c.key) l = i ∧ upN k l = i := by
  unfold firstAt upN
  cases h : l.findIdx? (fun c => ltS k c.key) with
  | none => exact .inl ⟨rfl, rfl⟩
  | some i => exact .inr ⟨i, rfl, rfl⟩
/-- Those ahead are not beyond; of registers that rise, those behind are. -/
theorem up_ahead {k : ByteArray} {l : List Rg} : ∀ x ∈ l.take (upN k l), ltS k x.key = false := by
  intro x hx
  obtain ⟨i, hi⟩ := List.mem_iff_getElem?.1 hx
  rw [List.getElem?_take] at hi
  split at hi
  · rename_i hlt
    unfold upN at hlt
    cases h : l.findIdx? (fun c => ltS k c.key) with
    | none =>
      rw [List.findIdx?_eq_none_iff] at h
      exact h x (List.mem_of_getElem? hi)
    | some n =>
      rw [h] at hlt
      rw [List.findIdx?_eq_some_iff_getElem] at h
      obtain ⟨hn, hp, hno⟩ := h
      obtain ⟨h2, rfl⟩ := List.getElem?_eq_some_iff.1 hi
      simpa using hno i hlt
  · cases hi
theorem up_behind {k : ByteArray} {l : List Rg} (hr : Rises Rg.key ltS l) : ∀ x ∈ l.drop (upN k l), ltS k x.key = true := by
  intro x hx
  unfold upN at hx
  cases h : l.findIdx? (fun c => ltS k c.key) with
  | none =>
    rw [h] at hx
    simp at hx
  | some n =>
    rw [h] at hx
    simp only at hx
    rw [List.findIdx?_eq_some_iff_getElem] at h
    obtain ⟨hn, hp, hno⟩ := h
    have hd := List.drop_eq_getElem_cons hn
    rw [hd] at hx
    have hrd : Rises Rg.key ltS (l.drop n) := List.Pairwise.drop hr
    rw [hd] at hrd
    rcases List.mem_cons.1 hx with rfl | hx
    · exact hp
    · exact strictS.trans _ _ _ hp ((List.pairwise_cons.1 hrd).1 x hx)

set_option maxHeartbeats 4000000 in
theorem upto_ret (A : Option Addr) (cap : Nat) (l : List Rg) (k : ByteArray) (w : World) (S : SlR E w A cap l) (hl : l.length ≤ 1000000) :
    Calls Tryz.prog 93 #[.slice A l.length cap, .string k] w fun e w' => e = .returned (.int .i64 (upN k l)) ∧ Below w.heap.size w w' := by
  have ci := index_ahead A cap l k w S hl
  have hmk := hmf
  rcases up_cases k l with ⟨h1, h2⟩ | ⟨i, h1, h2⟩
  · rw [h1] at ci
    rw [h2]
    clear h1 h2
    go_enter Tryz.func93, Tryz.ntmps93
    go_wp2_with fail
    refine ci.mono ?_
    rintro e w1 ⟨rfl, k1⟩
    go_wp2
    go_ret
    exact ⟨rfl, k1⟩
  · rw [h1] at ci
    rw [h2]
    clear h1 h2
    have hi : ¬ ((i : Int) < 0) := by omega
    go_enter Tryz.func93, Tryz.ntmps93
    go_wp2_with fail
    refine ci.mono ?_
    rintro e w1 ⟨rfl, k1⟩
    go_wp2
    go_ret
    exact ⟨rfl, k1⟩

set_option maxHeartbeats 4000000 in
theorem get_ret (A : Option Addr) (cap : Nat) (l : List Rg) (k : ByteArray) (w : World) (S : SlR E w A cap l) (hl : l.length ≤ 1000000) :
    Calls Tryz.prog 18 #[.slice A l.length cap, .string k] w fun e w' => e = .returned (gv (getR l k)) ∧ Below w.heap.size w w' := by
  have hcap := S.1
  have Z : Below w.heap.size w (w.alloc (.cells (rc noR) 43)) := (Below.refl _ _).alloc (Nat.le_refl _) _
  have N : RgAt (w.alloc (.cells (rc noR) 43)) w.heap.size noR := RgAt.new w noR _
  have S1 := S.below Z
  have ci := index_is A cap l k _ S1 hl
  have hmk := hmf
  rcases first_cases (fun c => c.key.toList == k.toList) l with ⟨h1, h2⟩ | ⟨i, x, h1, hx, h2, h3⟩
  · have HR : Hid (getR l k = none) := aside (getR_none (fun c hc e => by
      have := h2 c hc
      rw [str_yes e] at this
      cases this))
    rw [h1] at ci
    clear h1 h2 S S1
    go_enter Tryz.func18, Tryz.ntmps18
    go_wp2_with fail
    refine ci.mono ?_
    rintro e w1 ⟨rfl, k1⟩
    have N1 := N.below k1
    have kb := Z.trans (k1.mono Z.size)
    clear N k1 ci
    go_wp2_with (first | (refine wpList_store_reg rfl rfl _ _ rfl _ rfl noR N1 noR rfl ?_; intro w2 R1 b1 g1; have kc := kb.trans (b1 _ (Nat.le_refl _))))
    obtain ⟨r0, r1, r2, r3, r4⟩ := R1.cells
    exact bodyPost_ret (v := .tuple #[.agg (rc noR), .bool false]) (by simp [results, Tryz.results18, go_sem, r0, r1, r2, r3, r4, rc]) rfl ⟨ret_val (by rw [HR.out]; rfl), kc⟩
  · have hkx : x.key = k := by
      have := Classical.byContradiction (p := x.key = k) (fun hne => by rw [str_no hne] at h2; cases h2)
      exact this
    have HR : Hid (getR l k = some x) := aside (getR_first hx hkx (fun j hj y hy e => by
      have := h3 j hj y hy
      rw [str_yes e] at this
      cases this))
    rw [h1] at ci
    have hil := (List.getElem?_eq_some_iff.1 hx).1
    obtain ⟨b, off, rfl, hbw, hr⟩ := RegW.plain S1 (by omega)
    have hrj := hr i x hx
    clear h1 h2 h3 hr hkx hx S S1
    have p0 : (i : Int) < l.length := by omega
    have p1 : ¬ ((i : Int) < 0) := by omega
    have m0 : ((i : Int)).toNat = i := by omega
    go_enter Tryz.func18, Tryz.ntmps18
    go_wp2_with fail
    refine ci.mono ?_
    rintro e w1 ⟨rfl, k1⟩
    have N1 := N.below k1
    have hrk := range_below hrj k1
    have kb := Z.trans (k1.mono Z.size)
    clear N k1 ci hrj
    go_wp2_with (first | (refine wpList_load_reg rfl _ rfl _ _ rfl x hrk ?_) | (refine wpList_store_reg rfl rfl _ _ rfl _ rfl noR N1 x rfl ?_; intro w2 R1 b1 g1; have kc := kb.trans (b1 _ (Nat.le_refl _))))
    obtain ⟨r0, r1, r2, r3, r4⟩ := R1.cells
    exact bodyPost_ret (v := .tuple #[.agg (rc x), .bool true]) (by simp [results, Tryz.results18, go_sem, r0, r1, r2, r3, r4, rc]) rfl ⟨ret_val (by rw [HR.out]; rfl), kc⟩
end Go.Proofs.YtnjdkjkihbgkaaaGreat.RegC
namespace Go.Proofs.YtnjdkjkihbgkaaaGreat.RegE
set_option maxRecDepth 100000
open Go Byt OpsM Rise RegM RegL

/-- One more behind those that are there. -/
def addG (l : List Rg) (r : Rg) : List Rg := match l.getLast? with
  | none => [r]
  | some y => if y.key ≠ r.key then l ++ [r] else l.dropLast ++ [best r y]
theorem addG_nil (r : Rg) : addG [] r = [r] := rfl
theorem addG_snoc (l : List Rg) (y r : Rg) : addG (l ++ [y]) r = if y.key ≠ r.key then l ++ [y] ++ [r] else l ++ [best r y] := by
  unfold addG
  rw [List.getLast?_concat]
  simp
theorem addG_length (l : List Rg) (r : Rg) : (addG l r).length ≤ l.length + 1 := by
  rcases List.eq_nil_or_concat l with rfl | ⟨m, y, rfl⟩
  · simp [addG_nil]
  · rw [List.concat_eq_append, addG_snoc]
    split <;> simp
theorem fold_len : ∀ (m l : List Rg), (m.foldl addG l).length ≤ l.length + m.length
  | [], _ => by simp
  | c :: m, l => by
    have h1 := fold_len m (addG l c)
    have h2 := addG_length l c
    rw [List.foldl_cons, List.length_cons]
    omega
/-- What stands ahead of a key does not matter to what is put in. -/
theorem ins_app {r : Rg} : ∀ {l m : List Rg}, (∀ x ∈ l, ltS x.key r.key = true) → ins r false (l ++ m) = l ++ ins r false m
  | [], _, _ => rfl
  | x :: l, m, h => by
    have hx := h x (by simp)
    rw [List.cons_append, ins, strictS.asymm hx, if_neg (by simp), if_pos (strictS.ne hx), Bool.or_false, ins_app (fun y hy => h y (by simp [hy]))]
    rfl
/-- By keys that do not fall one more behind is one more put in. -/
theorem add_put {l : List Rg} {r : Rg} (hl : mayR l = true) (hr : oneR r = true) (h : ∀ x ∈ l, ltS r.key x.key = false) : addG l r = putR l r := by
  rw [put_is hl hr]
  rcases List.eq_nil_or_concat l with rfl | ⟨m, y, rfl⟩
  · simp [addG_nil, ins]
  · rw [List.concat_eq_append] at hl h ⊢
    have hrise := (mayR_iff.1 hl).2
    have hm : ∀ x ∈ m, ltS x.key y.key = true := fun x hx => (List.pairwise_append.1 hrise).2.2 x hx y (by simp)
    have hy := h y (by simp)
    rw [addG_snoc]
    by_cases hk : y.key = r.key
    · rw [if_neg (by simp [hk]), ins_app (fun x hx => by rw [← hk]; exact hm x hx), ins, hy, if_neg (by simp), if_neg (by simp [hk])]
      rfl
    · have hlt : ltS y.key r.key = true := by
        cases q : ltS y.key r.key with
        | true => rfl
        | false => exact absurd (strictS.tri _ _ q hy) hk
      rw [if_pos hk, List.append_assoc, ins_app (fun x hx => strictS.trans _ _ _ (hm x hx) hlt), ins, hy, if_neg (by simp), if_pos hk]
      simp [ins]
/-- What stands in what is merged stands in one of both. -/
theorem merge_mem {a b : List Rg} (ha : mayR a = true) (hb : mayR b = true) {x : Rg} (hx : x ∈ mergeR a b) : x ∈ a ∨ x ∈ b := by
  have h := getR_mem (mayR_iff.1 (merge_may a b)).2 hx
  rw [merge_get ha hb] at h
  cases hb2 : getR b x.key with
  | none =>
    rw [hb2] at h
    exact .inl (getR_some h).1
  | some y =>
    rw [hb2] at h
    cases ha2 : getR a x.key with
    | none =>
      rw [ha2] at h
      injection h with h
      rw [← h]
      exact .inr (getR_some hb2).1
    | some z =>
      rw [ha2] at h
      injection h with h
      rcases best_or y z with e | e
      · rw [← h, e]; exact .inr (getR_some hb2).1
      · rw [← h, e]; exact .inl (getR_some ha2).1
theorem may_split {a m : List Rg} (h : mayR (a ++ m) = true) : mayR a = true ∧ mayR m = true ∧ ∀ x ∈ a, ∀ y ∈ m, ltS x.key y.key = true := by
  obtain ⟨h1, h2⟩ := mayR_iff.1 h
  obtain ⟨p, q, s⟩ := List.pairwise_append.1 h2
  exact ⟨mayR_iff.2 ⟨fun c hc => h1 c (by simp [hc]), p⟩, mayR_iff.2 ⟨fun c hc => h1 c (by simp [hc]), q⟩, s⟩
theorem may_mem {l : List Rg} (h : mayR l = true) {x : Rg} (hx : x ∈ l) : oneR x = true := (mayR_iff.1 h).1 x hx
theorem merge_snoc_b {a b : List Rg} {r : Rg} (ha : mayR a = true) (hb : mayR (b ++ [r]) = true) : mergeR a (b ++ [r]) = putR (mergeR a b) r := by
  obtain ⟨h1, _, _⟩ := may_split hb
  unfold mergeR
  rw [if_pos ⟨ha, hb⟩, if_pos ⟨ha, h1⟩, List.foldl_append]
  rfl
theorem merge_snoc_a {a b : List Rg} {r : Rg} (ha : mayR (a ++ [r]) = true) (hb : mayR b = true) : mergeR (a ++ [r]) b = putR (mergeR a b) r := by
  obtain ⟨h1, _, _⟩ := may_split ha
  rw [merge_turn ha hb, merge_snoc_b hb ha, merge_turn hb h1]
/-- One more of the second one. -/
theorem step_b {a b : List Rg} {r : Rg} (ha : mayR a = true) (hb : mayR (b ++ [r]) = true) (h : ∀ x ∈ a, ltS r.key x.key = false) : addG (mergeR a b) r = mergeR a (b ++ [r]) := by
  obtain ⟨h1, _, h3⟩ := may_split hb
  rw [merge_snoc_b ha hb]
  refine add_put (merge_may a b) (may_mem hb (by simp)) (fun x hx => ?_)
  rcases merge_mem ha h1 hx with q | q
  · exact h x q
  · exact strictS.asymm (h3 x q r (by simp))
theorem step_a {a b : List Rg} {r : Rg} (ha : mayR (a ++ [r]) = true) (hb : mayR b = true) (h : ∀ x ∈ b, ltS r.key x.key = false) : addG (mergeR a b) r = mergeR (a ++ [r]) b := by
  obtain ⟨h1, _, h3⟩ := may_split ha
  rw [merge_snoc_a ha hb]
  refine add_put (merge_may a b) (may_mem ha (by simp)) (fun x hx => ?_)
  rcases merge_mem h1 hb hx with q | q
  · exact strictS.asymm (h3 x q r (by simp))
  · exact h x q
theorem steps_a {b : List Rg} (hb : mayR b = true) : ∀ {m a : List Rg}, mayR (a ++ m) = true → (∀ r ∈ m, ∀ x ∈ b, ltS r.key x.key = false) → m.foldl addG (mergeR a b) = mergeR (a ++ m) b
  | [], a, _, _ => by simp
  | r :: m, a, ha, h => by
    have e : a ++ r :: m = (a ++ [r]) ++ m := by simp
    rw [e] at ha
    rw [List.foldl_cons, step_a (may_split ha).1 hb (h r (by simp)), steps_a hb ha (fun r2 hr2 => h r2 (by simp [hr2])), e]
end Go.Proofs.YtnjdkjkihbgkaaaGreat.RegE
namespace Go.Proofs.YtnjdkjkihbgkaaaGreat.Forks
set_option maxRecDepth 100000
open Go Go.Sort Go.RowKit

/-- The orders that are walked. -/
inductive Tree where
  | ends : Tree
  | free (i : Nat) (t : Tree) : Tree
  | act (i : Nat) (t : Tree) : Tree
  | two (i : Nat) (t : Tree) (j : Nat) (u : Tree) : Tree
def Tree.size : Tree → Nat
  | .ends => 0
  | .free _ t => t.size + 1
  | .act _ t => t.size + 1
  | .two _ t _ _ => t.size + 1

section
variable {P : Program} {ops : Array Oper} {Q : Exit → Act → World → Prop} {md : Region.Mode}

def treeB (md : Region.Mode) (ops : Array Oper) : Tree → Array Bool → Bool
  | .ends, listed => (Region.ready md ops listed).isEmpty
  | .free i t, listed => (Region.ready md ops listed).contains i && (Region.free md ops listed i && treeB md ops t (listed.setIfInBounds i true))
  | .act i t, listed => Region.ready md ops listed == [i] && treeB md ops t (listed.setIfInBounds i true)
  | .two i t j u, listed => Region.ready md ops listed == [i, j] && (t.size == u.size && (treeB md ops t (listed.setIfInBounds i true) && treeB md ops u (listed.setIfInBounds j true)))

/-- One operation that is carried out. -/
def One (P : Program) (ops : Array Oper) (Q : Exit → Act → World → Prop) (i : Nat) (K : Act → World → Prop) (a : Act) (w : World) : Prop := ∃ o, ops[i]? = some o ∧ wpList P ops (Exit.then K Q) [o] a w
/-- What is asked of each operation, in these orders. -/
def Seq (P : Program) (ops : Array Oper) (Q : Exit → Act → World → Prop) : Tree → Act → World → Prop
  | .ends, a, w => Q .normal a w
  | .free i t, a, w => ∃ o, ops[i]? = some o ∧ ∃ v, Yields P ops o v a ∧ Seq P ops Q t (a.put o.dst v) w
  | .act i t, a, w => One P ops Q i (Seq P ops Q t) a w
  | .two i t j u, a, w => One P ops Q i (Seq P ops Q t) a w ∧ One P ops Q j (Seq P ops Q u) a w

theorem One.op {i : Nat} {K K' : Act → World → Prop} {a : Act} {w : World} (h : One P ops Q i K a w) (on : ∀ a' w', K a' w' → K' a' w') : wpOp P ops Q i K' a w := by
  obtain ⟨o, ho, h⟩ := h
  have on' : ∀ a' w', wpList P ops (Exit.then K Q) [] a' w' → K' a' w' := by
    intro a' w' hh
    unfold wpList at hh
    exact on _ _ hh
  unfold wpOp
  simp only [ho]
  unfold wpList at h
  split
  · rename_i hw
    rw [if_pos hw] at h
    rcases h with h | ⟨h, a', w', hl⟩
    · refine .inl ?_
      unfold Oper.wp at h ⊢
      generalize (execOp a.eval o).run P w = x at h ⊢
      cases x with
      | ok n u =>
        cases n <;> simp only [Oper.upon] at h ⊢
        case enter f args =>
          refine Calls.mono h fun e w'' he => ?_
          cases e with
          | returned v => exact on' _ _ he
          | panicked c => exact he
          | outgrown => exact he
        case row row args => exact Rows.mono h fun v w'' he => on' _ _ he
        all_goals exact on' _ _ h
      | halt x u => cases x <;> simp only [Oper.upon] at h ⊢; exact h
    · exact .inr ⟨h, a', w', hl⟩
  · rename_i hw
    rw [if_neg hw] at h
    unfold wpList at h
    exact on _ _ h

theorem seq_any (hs : Region.noSelect ops = true) (hQ : ∀ c a d v w, Q (.panic c) (a.put d v) w → Q (.panic c) a w) : ∀ (t : Tree) (listed : Array Bool) (a : Act) (w : World),
    treeB md ops t listed = true → Seq P ops Q t a w → wpAny P md ops Q t.size listed a w
  | .ends, listed, a, w, hB, h => ⟨by simpa [treeB] using hB, h⟩
  | .free i t, listed, a, w, hB, ⟨o, ho, v, hy, h⟩ => by
    simp only [treeB, Bool.and_eq_true] at hB
    obtain ⟨h1, h2, h3⟩ := hB
    exact wpAny_take ho hs h2 h1 (fun c a w => hQ c a o.dst v w) hy (seq_any hs hQ t _ _ _ h3 h)
  | .act i t, listed, a, w, hB, h => by
    simp only [treeB, Bool.and_eq_true, beq_iff_eq] at hB
    obtain ⟨h1, h3⟩ := hB
    refine ⟨fun h0 => (by rw [h1] at h0; cases h0), fun j hj => ?_⟩
    rw [h1] at hj
    obtain rfl : j = i := by simpa using hj
    exact One.op h (fun a' w' hh => seq_any hs hQ t _ _ _ h3 hh)
  | .two i t j u, listed, a, w, hB, ⟨h, h'⟩ => by
    simp only [treeB, Bool.and_eq_true, beq_iff_eq] at hB
    obtain ⟨h1, h2, h3, h4⟩ := hB
    refine ⟨fun h0 => (by rw [h1] at h0; cases h0), fun k hk => ?_⟩
    rw [h1] at hk
    rcases List.mem_cons.1 hk with rfl | hk
    · exact One.op h (fun a' w' hh => seq_any hs hQ t _ _ _ h3 hh)
    · obtain rfl : k = j := by simpa using hk
      refine One.op h' (fun a' w' hh => ?_)
      rw [h2]
      exact seq_any hs hQ u _ _ _ h4 hh

/-- These orders serve every order. -/
theorem region {id : Nat} {a : Act} {w : World} {l : List Oper} (t : Tree) (hm : P.follows .mixedOrders = true) (hs : Region.noSelect l.toArray = true)
    (hl : t.size = l.toArray.size) (hB : treeB .any l.toArray t (Array.replicate l.toArray.size false) = true) (hQ : ∀ c a d v w, Q (.panic c) (a.put d v) w → Q (.panic c) a w)
    (h : Seq P l.toArray Q t a w.drew) : (Code.region id l.toArray true).wp P Q a w := by
  refine wp_region_any hm ?_
  have := seq_any (md := .any) hs hQ t (Array.replicate l.toArray.size false) a w.drew hB h
  rw [hl] at this
  exact this
/-- One operation that reads no memory. -/
theorem reads {l : List Oper} {i : Nat} {o : Oper} {t : Tree} {a : Act} {w : World} (hn : Grow.nth l i = some o) (hp : Grow.plain o = true)
    (h : wpQuiet P l.toArray (fun w' => ∃ u : World, w' = u) (fun a' => Seq P l.toArray Q t a' w) [o] a) : Seq P l.toArray Q (.free i t) a w := by
  have ho := (Grow.nth_at l i).trans hn
  unfold wpQuiet at h
  split at h
  · rename_i hw
    obtain ⟨v, h1, h2⟩ := h
    refine ⟨o, ho, v, .inl ⟨hw, fun u => ?_⟩, h2⟩
    have q := h1 u ⟨u, rfl⟩
    unfold Oper.quietAt at q
    cases hx : (execOp a.eval o).run P u with
    | ok n u' =>
      obtain ⟨x, rfl⟩ := Grow.plain_value hp hx
      rw [hx] at q
      obtain ⟨rfl, rfl⟩ := q
      rfl
    | halt x u' => rw [hx] at q; exact q.elim
  · rename_i hw
    exact ⟨o, ho, undef, .inr ⟨by simpa using hw, rfl⟩, h⟩
/-- A nil check of what is not nil. -/
theorem checks {l : List Oper} {i : Nat} {o : Oper} {t : Tree} {a : Act} {w : World} (hn : Grow.nth l i = some o) (hgd : o.guard = none) (x : Operand) (ho : o.op = .nilCheck x) (p : Addr) (hx : a.eval x = .pointer (some p))
    (h : Seq P l.toArray Q t (a.put o.dst (.pointer (some p))) w) : Seq P l.toArray Q (.free i t) a w := by
  refine ⟨o, (Grow.nth_at l i).trans hn, .pointer (some p), .inl ⟨by simp [Region.wanted, hgd], fun u => ?_⟩, h⟩
  unfold execOp
  simp only [ho, hx]
  rfl
/-- What follows an operation. -/
def On (P : Program) (ops : Array Oper) (Q : Exit → Act → World → Prop) (t : Tree) (a' : Act) (w' : World) : Prop := Seq P ops Q t a' w'
theorem acts {l : List Oper} {i : Nat} {o : Oper} {t : Tree} {a : Act} {w : World} (hn : Grow.nth l i = some o)
    (h : wpList P l.toArray (Exit.then (On P l.toArray Q t) Q) [o] a w) : Seq P l.toArray Q (.act i t) a w := ⟨o, (Grow.nth_at l i).trans hn, h⟩
theorem forks {l : List Oper} {i j : Nat} {o p : Oper} {t u : Tree} {a : Act} {w : World} (hn : Grow.nth l i = some o) (hm : Grow.nth l j = some p)
    (h : wpList P l.toArray (Exit.then (On P l.toArray Q t) Q) [o] a w) (h' : wpList P l.toArray (Exit.then (On P l.toArray Q u) Q) [p] a w) : Seq P l.toArray Q (.two i t j u) a w :=
  ⟨⟨o, (Grow.nth_at l i).trans hn, h⟩, ⟨p, (Grow.nth_at l j).trans hm, h'⟩⟩
theorem on {t : Tree} {a : Act} {w : World} (h : Seq P ops Q t a w) : On P ops Q t a w := h
theorem ends {a : Act} {w : World} (h : Q .normal a w) : Seq P ops Q .ends a w := h
end
end Go.Proofs.YtnjdkjkihbgkaaaGreat.Forks
