/- Ids as lists of thirty-two bytes; their order; lists that rise; plain facts. No condition. -/
import Derived.WalkKit
import Derived.Sort.Statements
namespace Go.Proofs.YteojkfbnenfmkaaDoor.IdM
set_option maxRecDepth 100000

/-- An id: thirty-two bytes. -/
structure Idn where
  val : List Int
  ok : val.length = 32 ∧ ∀ x ∈ val, 0 ≤ x ∧ x ≤ 255
theorem Idn_ext {x y : Idn} (h : x.1 = y.1) : x = y := by
  cases x; cases y
  simp only at h
  subst h
  rfl
instance : DecidableEq Idn := fun x y => decidable_of_iff (x.1 = y.1) ⟨Idn_ext, fun e => by rw [e]⟩
def nought : Idn := ⟨List.replicate 32 0, by simp, by intro x hx; simp at hx; omega⟩
instance : Inhabited Idn := ⟨nought⟩
theorem Idn_len (x : Idn) : x.1.length = 32 := x.2.1
theorem Idn_at_range (x : Idn) (i : Nat) : 0 ≤ x.1.getD i 0 ∧ x.1.getD i 0 ≤ 255 := by
  by_cases h : i < x.1.length
  · rw [List.getD_eq_getElem?_getD, List.getElem?_eq_getElem h, Option.getD_some]
    exact x.2.2 _ (List.getElem_mem _)
  · rw [List.getD_eq_getElem?_getD, List.getElem?_eq_none (by omega), Option.getD_none]
    omega
theorem list_ext {a b : List Int} (hl : a.length = b.length) (h : ∀ i, i < a.length → a.getD i 0 = b.getD i 0) : a = b := by
  apply List.ext_getElem hl
  intro i h1 h2
  have := h i h1
  rw [List.getD_eq_getElem?_getD, List.getD_eq_getElem?_getD, List.getElem?_eq_getElem h1, List.getElem?_eq_getElem h2] at this
  simpa using this
theorem Idn_ext_at {x y : Idn} (h : ∀ i, i < 32 → x.1.getD i 0 = y.1.getD i 0) : x = y :=
  Idn_ext (list_ext (by rw [(Idn_len x), (Idn_len y)]) (fun i hi => h i (by rw [(Idn_len x)] at hi; exact hi)))

/-- The lesser one at the first place where they differ. -/
def lessL : List Int → List Int → Bool
  | a :: aa, b :: bs => if a = b then lessL aa bs else decide (a < b)
  | _, _ => false
def less (x y : Idn) : Bool := lessL x.1 y.1
theorem lessL_irrefl : ∀ a : List Int, lessL a a = false
  | [] => rfl
  | a :: aa => by simp [lessL, lessL_irrefl aa]
theorem lessL_trans : ∀ a b c : List Int, lessL a b = true → lessL b c = true → lessL a c = true
  | a :: aa, b :: bs, c :: cs, h1, h2 => by
    simp only [lessL] at h1 h2 ⊢
    split at h1 <;> split at h2 <;> rename_i p q
    · subst p; subst q
      simpa using lessL_trans aa bs cs h1 h2
    · subst p
      simpa [q] using h2
    · subst q
      simpa [p] using h1
    · have h1' : a < b := by simpa using h1
      have h2' : b < c := by simpa using h2
      have : a ≠ c := by omega
      simp [this]
      omega
  | [], _, _, h1, _ => by simp [lessL] at h1
  | _ :: _, [], _, h1, _ => by simp [lessL] at h1
  | _ :: _, _ :: _, [], _, h2 => by simp [lessL] at h2
theorem lessL_total : ∀ a b : List Int, a.length = b.length → lessL a b = false → lessL b a = false → a = b
  | [], [], _, _, _ => rfl
  | a :: aa, b :: bs, hl, h1, h2 => by
    simp only [lessL] at h1 h2
    split at h1
    · rename_i p
      subst p
      simp at h2
      rw [lessL_total aa bs (by simpa using hl) h1 h2]
    · rename_i p
      have p' : b ≠ a := fun e => p e.symm
      simp [p'] at h2
      simp at h1
      omega
theorem less_irrefl (x : Idn) : less x x = false := lessL_irrefl _
theorem less_trans {x y z : Idn} (h1 : less x y = true) (h2 : less y z = true) : less x z = true := lessL_trans _ _ _ h1 h2
theorem less_total {x y : Idn} (h1 : less x y = false) (h2 : less y x = false) : x = y := Idn_ext (lessL_total _ _ (by rw [(Idn_len x), (Idn_len y)]) h1 h2)
theorem less_asymm {x y : Idn} (h : less x y = true) : less y x = false := by
  cases h2 : less y x with
  | false => rfl
  | true => have := less_trans h h2; rw [less_irrefl] at this; cases this
theorem less_ne {x y : Idn} (h : less x y = true) : x ≠ y := by rintro rfl; rw [less_irrefl] at h; cases h
theorem less_of_ne {x y : Idn} (h : less x y = false) (hn : x ≠ y) : less y x = true := by
  cases h2 : less y x with
  | true => rfl
  | false => exact absurd (less_total h h2) hn
/-- By the first place that differs. -/
theorem lessL_at : ∀ (i : Nat) (a b : List Int), a.length = b.length → i < a.length → (∀ j, j < i → a.getD j 0 = b.getD j 0) → a.getD i 0 ≠ b.getD i 0 → lessL a b = decide (a.getD i 0 < b.getD i 0)
  | _, [], _, _, hi, _, _ => by simp at hi
  | _, _ :: _, [], hl, _, _, _ => by simp at hl
  | 0, a :: aa, b :: bs, _, _, _, hn => by
    simp only [List.getD_cons_zero] at hn
    simp [lessL, hn]
  | i + 1, a :: aa, b :: bs, hl, hi, he, hn => by
    have h0 := he 0 (by omega)
    simp only [List.getD_cons_zero] at h0
    subst h0
    simp only [List.getD_cons_succ] at hn ⊢
    simp only [lessL, if_true]
    exact lessL_at i aa bs (by simpa using hl) (by simpa using hi) (fun j hj => by simpa using he (j + 1) (by omega)) hn
theorem less_at {x y : Idn} (i : Nat) (hi : i < 32) (he : ∀ j, j < i → x.1.getD j 0 = y.1.getD j 0) (hn : x.1.getD i 0 ≠ y.1.getD i 0) : less x y = decide (x.1.getD i 0 < y.1.getD i 0) :=
  lessL_at i _ _ (by rw [(Idn_len x), (Idn_len y)]) (by rw [(Idn_len x)]; exact hi) he hn

/-- Rising: each less than all behind it. -/
def Rising (l : List Idn) : Prop := l.Pairwise fun x y => less x y = true
theorem rising_uniq : ∀ {r s : List Idn}, Rising r → Rising s → (∀ x, x ∈ r ↔ x ∈ s) → r = s
  | [], [], _, _, _ => rfl
  | [], y :: s, _, _, h => absurd ((h y).2 (by simp)) (by simp)
  | x :: r, [], _, _, h => absurd ((h x).1 (by simp)) (by simp)
  | x :: r, y :: s, hr, hs, h => by
    unfold Rising at hr hs
    rw [List.pairwise_cons] at hr hs
    have hxy : x = y := by
      have h1 : x ∈ y :: s := (h x).1 (by simp)
      have h2 : y ∈ x :: r := (h y).2 (by simp)
      rcases List.mem_cons.1 h1 with h1 | h1
      · exact h1
      · rcases List.mem_cons.1 h2 with h2 | h2
        · exact h2.symm
        · have a := hs.1 x h1
          have b := hr.1 y h2
          rw [less_asymm a] at b
          cases b
    subst hxy
    have key : ∀ z, z ∈ r ↔ z ∈ s := by
      intro z
      constructor
      · intro hz
        have hzx : z ≠ x := fun e => by subst e; exact less_ne (hr.1 z hz) rfl
        exact (List.mem_cons.1 ((h z).1 (List.mem_cons_of_mem _ hz))).resolve_left hzx
      · intro hz
        have hzx : z ≠ x := fun e => by subst e; exact less_ne (hs.1 z hz) rfl
        exact (List.mem_cons.1 ((h z).2 (List.mem_cons_of_mem _ hz))).resolve_left hzx
    rw [rising_uniq hr.2 hs.2 key]

/-- Put in at its place, if it is not there. -/
def ins (x : Idn) : List Idn → List Idn
  | [] => [x]
  | y :: l => if x = y then y :: l else if less x y then x :: y :: l else y :: ins x l
def sort (l : List Idn) : List Idn := l.foldr ins []
theorem mem_ins (x z : Idn) : ∀ l : List Idn, z ∈ ins x l ↔ z = x ∨ z ∈ l
  | [] => by simp [ins]
  | y :: l => by
    simp only [ins]
    split
    · rename_i h
      subst h
      simp
    · split
      · simp
      · simp only [List.mem_cons, mem_ins x z l]
        constructor
        · rintro (h | h | h)
          · exact .inr (.inl h)
          · exact .inl h
          · exact .inr (.inr h)
        · rintro (h | h | h)
          · exact .inr (.inl h)
          · exact .inl h
          · exact .inr (.inr h)
theorem rising_ins (x : Idn) : ∀ l : List Idn, Rising l → Rising (ins x l)
  | [], _ => by simp [ins, Rising]
  | y :: l, h => by
    unfold Rising at h
    rw [List.pairwise_cons] at h
    simp only [ins]
    split
    · exact List.pairwise_cons.2 h
    · rename_i hne
      split
      · rename_i hl
        refine List.pairwise_cons.2 ⟨fun z hz => ?_, List.pairwise_cons.2 h⟩
        rcases List.mem_cons.1 hz with rfl | hz
        · exact hl
        · exact less_trans hl (h.1 z hz)
      · rename_i hl
        refine List.pairwise_cons.2 ⟨fun z hz => ?_, rising_ins x l h.2⟩
        rcases (mem_ins x z l).1 hz with rfl | hz
        · exact less_of_ne (by simpa using hl) hne
        · exact h.1 z hz
theorem mem_sort (z : Idn) : ∀ l : List Idn, z ∈ sort l ↔ z ∈ l
  | [] => by simp [sort]
  | x :: l => by
    have := mem_sort z l
    unfold sort at this ⊢
    rw [List.foldr_cons, mem_ins, this, List.mem_cons]
theorem rising_sort : ∀ l : List Idn, Rising (sort l)
  | [] => by simp [sort, Rising]
  | x :: l => rising_ins x _ (rising_sort l)
theorem eq_sort {r l : List Idn} (h : Rising r) (hm : ∀ x, x ∈ r ↔ x ∈ l) : r = sort l := rising_uniq h (rising_sort l) (fun x => by rw [hm, mem_sort])
theorem sort_congr {a b : List Idn} (h : ∀ x, x ∈ a ↔ x ∈ b) : sort a = sort b := rising_uniq (rising_sort a) (rising_sort b) (fun x => by rw [mem_sort, mem_sort, h])

/-- Sets of two. -/
def both (a b : List Idn) : List Idn := sort (a ++ b)
def without (a b : List Idn) : List Idn := sort (a.filter fun x => decide (x ∉ b))
theorem mem_both (z : Idn) (a b : List Idn) : z ∈ both a b ↔ z ∈ a ∨ z ∈ b := by simp [both, mem_sort]
theorem mem_without (z : Idn) (a b : List Idn) : z ∈ without a b ↔ z ∈ a ∧ z ∉ b := by simp [without, mem_sort]
theorem rising_without (a b : List Idn) : Rising (without a b) := rising_sort _

/-- Whether a list rises, pair by pair. -/
def risesB (l : List Idn) : Bool := (List.range (l.length - 1)).all fun i => less (l.getD i nought) (l.getD (i + 1) nought)
theorem rising_get {l : List Idn} (h : Rising l) {i j : Nat} (hij : i < j) (hj : j < l.length) : less (l.getD i nought) (l.getD j nought) = true := by
  have := List.pairwise_iff_getElem.1 h i j (by omega) hj hij
  rw [List.getD_eq_getElem?_getD, List.getD_eq_getElem?_getD, List.getElem?_eq_getElem (by omega), List.getElem?_eq_getElem hj]
  exact this
theorem risesB_of_rising {l : List Idn} (h : Rising l) : risesB l = true := by
  unfold risesB
  rw [List.all_eq_true]
  intro i hi
  exact rising_get h (Nat.lt_succ_self i) (by simp at hi; omega)

/-- The order as a sort asks for it. -/
def cf (x y : Idn) : Int := if x = y then 0 else if less x y then -1 else 1
theorem ltOf_cf (x y : Idn) : decide (cf x y < 0) = less x y := by
  unfold cf
  by_cases h : x = y
  · subst h; simp [less_irrefl]
  · cases hl : less x y <;> simp [h]
end Go.Proofs.YteojkfbnenfmkaaDoor.IdM
