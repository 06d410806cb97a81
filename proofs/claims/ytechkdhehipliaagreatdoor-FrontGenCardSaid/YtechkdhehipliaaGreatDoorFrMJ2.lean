/- Plain facts on the last ones of closed commits: heads, what is joined, what comes next. No condition. | Plain facts on what is joined, on heads, on what comes next. No condition. -/
import Derived.Test.YtechkdhehipliaaGreatDoorDgX
namespace Go.Proofs.YtechkdhehipliaaGreatDoor.FrM
set_option maxRecDepth 100000
open IdM CmM DgM DgX
open Classical

section
variable {H : Com → Idn}

/-- Nobody stands behind it. -/
def Last (l : List Com) (x : Idn) : Prop := ∀ c ∈ l, x ∉ c.ps
noncomputable def front (H : Com → Idn) (l : List Com) : List Idn := sort ((l.map H).filter fun x => decide (Last l x))
theorem mem_front {l : List Com} {x : Idn} : x ∈ front H l ↔ x ∈ l.map H ∧ Last l x := by
  unfold front
  rw [mem_sort, List.mem_filter, decide_eq_true_eq]
theorem rising_front (l : List Com) : Rising (front H l) := rising_sort _
theorem last_iff {l : List Com} {x : Idn} : Last l x ↔ ∀ y, ¬ Kn H l y x := by
  constructor
  · intro h y k
    induction k with
    | one k => obtain ⟨c, hc, _, hx⟩ := k; exact h c hc hx
    | more _ _ ih => exact ih h
  · intro h c hc hx
    exact h (H c) (.one ⟨c, hc, rfl, hx⟩)
/-- A greatest one among some. -/
theorem greatest {α : Type} (g : α → Int) : ∀ (l : List α), l ≠ [] → ∃ a ∈ l, ∀ b ∈ l, g b ≤ g a
  | [], h => absurd rfl h
  | [a], _ => ⟨a, by simp, fun b hb => by rw [List.mem_singleton.1 hb]; exact Int.le_refl _⟩
  | a :: b :: l, _ => by
    obtain ⟨c, hc, h⟩ := greatest g (b :: l) (by simp)
    by_cases e : g a ≤ g c
    · exact ⟨c, List.mem_cons_of_mem _ hc, fun d hd => by
        rcases List.mem_cons.1 hd with rfl | hd
        · exact e
        · exact h d hd⟩
    · exact ⟨a, by simp, fun d hd => by
        rcases List.mem_cons.1 hd with rfl | hd
        · exact Int.le_refl _
        · have := h d hd; omega⟩
/-- Each commit is a last one, or is known by one. -/
theorem last_above {l : List Com} (C : Closed H l) {x : Idn} (hx : x ∈ l.map H) : ∃ y ∈ front H l, y = x ∨ Kn H l y x := by
  have hne : (l.map H).filter (fun y => decide (y = x ∨ Kn H l y x)) ≠ [] := by
    intro e
    have : x ∈ (l.map H).filter (fun y => decide (y = x ∨ Kn H l y x)) := List.mem_filter.2 ⟨hx, decide_eq_true (.inl rfl)⟩
    rw [e] at this
    cases this
  obtain ⟨y, hy, hm⟩ := greatest (gAt H l) _ hne
  obtain ⟨h1, h2⟩ := List.mem_filter.1 hy
  have h2 := of_decide_eq_true h2
  refine ⟨y, mem_front.2 ⟨h1, (last_iff (H := H)).2 fun z k => ?_⟩, h2⟩
  have hz : z ∈ (l.map H).filter (fun y => decide (y = x ∨ Kn H l y x)) := List.mem_filter.2 ⟨kn_src k, decide_eq_true (.inr (by
    rcases h2 with rfl | h2
    · exact k
    · exact k.trans h2))⟩
  have h3 := hm z hz
  have h4 := kn_gen C k
  omega
theorem front_in {l : List Com} : ∀ x ∈ front H l, x ∈ l.map H := fun _ h => (mem_front.1 h).1
theorem front_apart {l : List Com} {x y : Idn} (hx : x ∈ front H l) : ¬ Kn H l y x := (last_iff (H := H)).1 (mem_front.1 hx).2 y
/-- What the last ones know is all. -/
theorem anc_front {l : List Com} (C : Closed H l) : anc H l (front H l) = sort (l.map H) := by
  refine rising_uniq (rising_anc l _) (rising_sort _) fun x => ?_
  rw [mem_anc, mem_sort]
  constructor
  · exact fun h => h.1
  · intro hx
    obtain ⟨y, hy, h⟩ := last_above C hx
    rcases h with rfl | h
    · exact ⟨hx, .inl hy⟩
    · exact ⟨hx, .inr ⟨y, hy, h⟩⟩
theorem front_nil {l : List Com} (C : Closed H l) : front H l = [] ↔ l = [] := by
  constructor
  · intro h
    cases l with
    | nil => rfl
    | cons c l =>
      obtain ⟨y, hy, _⟩ := last_above C (x := H c) (by simp)
      rw [h] at hy
      cases hy
  · rintro rfl
    rfl
/-- None knows another one. -/
theorem front_knows {l : List Com} {x y : Idn} (hy : y ∈ front H l) (hne : y ≠ x) : y ∉ anc H l [x] := by
  rw [mem_anc]
  rintro ⟨_, h | ⟨z, _, h⟩⟩
  · exact hne (List.mem_singleton.1 h)
  · exact front_apart hy h
/-- Two of one node are one. -/
theorem front_node {l : List Com} (C : Closed H l) {c d : Com} (hc : c ∈ l) (hd : d ∈ l) (fc : H c ∈ front H l) (fd : H d ∈ front H l) (hn : c.node = d.node) : c = d := by
  by_cases e : c = d
  · exact e
  · obtain ⟨h1, h2⟩ := C.node c hc d hd e hn
    obtain ⟨_, h3⟩ := C.node d hd c hc (fun k => e k.symm) hn.symm
    by_cases hs : d.seq < c.seq
    · exact absurd (h2 hs) (front_apart fd)
    · exact absurd (h3 (by omega)) (front_apart fc)
theorem pigeon : ∀ (n : Nat) (l : List Int), l.Nodup → (∀ x ∈ l, 0 ≤ x ∧ x < n) → l.length ≤ n
  | 0, l, _, h => by
    cases l with
    | nil => exact Nat.le_refl _
    | cons x l => have := h x (by simp); omega
  | n + 1, l, hn, h => by
    have h1 := pigeon n (l.erase n) (hn.erase _) fun x hx => by
      have h2 := h x (List.mem_of_mem_erase hx)
      have h3 : x ≠ n := fun e => by
        rw [e] at hx
        exact (List.Nodup.not_mem_erase hn) hx
      omega
    have h4 := List.length_erase_le (a := (n : Int)) (l := l)
    by_cases hm : (n : Int) ∈ l
    · rw [List.length_erase_of_mem hm] at h1
      omega
    · rw [List.erase_of_not_mem hm] at h1
      omega
theorem front_few {l : List Com} (C : Closed H l) : (front H l).length ≤ 8 := by
  have hn := rising_nodup (rising_front (H := H) l)
  have key : ∀ x ∈ front H l, ∃ c, c ∈ l ∧ H c = x := fun x hx => by
    obtain ⟨c, hc, e⟩ := List.mem_map.1 (front_in x hx)
    exact ⟨c, hc, e⟩
  have h1 := pigeon 8 ((front H l).map fun x => ((DgM.look H l x).map (·.node)).getD 0) ?_ ?_
  · rwa [List.length_map] at h1
  · unfold List.Nodup
    rw [List.pairwise_map]
    refine (List.Pairwise.and_mem.1 hn).imp ?_
    rintro x y ⟨hx, hy, hne⟩ e
    obtain ⟨c, hc, rfl⟩ := key x hx
    obtain ⟨d, hd, rfl⟩ := key y hy
    rw [look_some C.nodup hc, look_some C.nodup hd] at e
    exact hne (by rw [front_node C hc hd hx hy e])
  · intro n hn2
    obtain ⟨x, hx, rfl⟩ := List.mem_map.1 hn2
    obtain ⟨c, hc, rfl⟩ := key x hx
    rw [look_some C.nodup hc]
    have := seq_pos (C.may c hc) (C.merge c hc)
    exact this.2
theorem front_perm {l m : List Com} (h : l.Perm m) : front H l = front H m := by
  refine rising_uniq (rising_front l) (rising_front m) fun x => ?_
  rw [mem_front, mem_front, (h.map H).mem_iff]
  unfold Last
  simp only [h.mem_iff]
theorem anc_perm {l m : List Com} (h : l.Perm m) (a : List Idn) : anc H l a = anc H m a := by
  refine rising_uniq (rising_anc l a) (rising_anc m a) fun x => ?_
  rw [mem_anc, mem_anc]
  unfold DgM.Below
  have hk : ∀ y, Kn H l y x ↔ Kn H m y x := fun y => ⟨kn_perm fun _ => h.mem_iff, kn_perm fun _ => h.mem_iff.symm⟩
  rw [(h.map H).mem_iff]
  simp only [hk]
theorem anc_set {l : List Com} {a b : List Idn} (h : ∀ x, x ∈ a ↔ x ∈ b) : anc H l a = anc H l b := by
  refine rising_uniq (rising_anc l a) (rising_anc l b) fun x => ?_
  rw [mem_anc, mem_anc]
  unfold DgM.Below
  simp only [h]
theorem part_perm {l m : List Com} (h : l.Perm m) (p : Idn → Prop) : (DgM.part H l p).Perm (DgM.part H m p) := h.filter _
theorem short_of {l : List Int} : ∀ {m : List Int}, l.Nodup → (∀ x ∈ l, x ∈ m) → l.length ≤ m.length := by
  induction l with
  | nil => intro m _ _; exact Nat.zero_le _
  | cons x l ih =>
    intro m hn h
    rw [List.nodup_cons] at hn
    have h1 := ih (m := m.erase x) hn.2 fun y hy => by
      have hne : y ≠ x := fun e => hn.1 (by rw [← e]; exact hy)
      exact (List.mem_erase_of_ne hne).2 (h y (List.mem_cons_of_mem _ hy))
    have hx := h x (by simp)
    rw [List.length_erase_of_mem hx] at h1
    have := List.length_pos_of_mem hx
    simp only [List.length_cons]
    omega
/-- The generations rise by one: none is above how many commits there are. -/
theorem gen_len {l : List Com} (C : Closed H l) : ∀ c ∈ l, 1 ≤ c.gen ∧ c.gen ≤ l.length := by
  have low : ∀ c ∈ l, 1 ≤ c.gen := fun c hc => by
    have := C.gen c hc
    have := most_nonneg (c.ps.map (gAt H l))
    omega
  -- of each generation from 1 on there is one
  have down : ∀ (n : Nat) (c : Com), c ∈ l → c.gen = (n : Int) + 1 → ∀ k : Nat, k ≤ n → ∃ d ∈ l, d.gen = (k : Int) + 1 := by
    intro n
    induction n with
    | zero => intro c hc hg k hk; exact ⟨c, hc, by rw [hg]; omega⟩
    | succ n ih =>
      intro c hc hg k hk
      by_cases e : k = n + 1
      · exact ⟨c, hc, by rw [hg, e]⟩
      · have h1 := C.gen c hc
        rcases most_mem (c.ps.map (gAt H l)) with h2 | h2
        · omega
        · obtain ⟨a, ha, h3⟩ := List.mem_map.1 h2
          obtain ⟨d, hd, rfl⟩ := List.mem_map.1 (C.found c hc a ha)
          rw [gAt_of C.nodup hd] at h3
          exact ih d hd (by omega) k (by omega)
  intro c hc
  refine ⟨low c hc, ?_⟩
  obtain ⟨n, hn⟩ : ∃ n : Nat, c.gen = (n : Int) + 1 := ⟨(c.gen - 1).toNat, by have := low c hc; omega⟩
  have h1 : ∀ k ∈ List.range (n + 1), ((k : Int) + 1) ∈ l.map (·.gen) := fun k hk => by
    obtain ⟨d, hd, e⟩ := down n c hc hn k (by rw [List.mem_range] at hk; omega)
    rw [← e]
    exact List.mem_map_of_mem hd
  have h2 : ((List.range (n + 1)).map fun (k : Nat) => ((k : Int) + 1)).Nodup := by
    unfold List.Nodup
    rw [List.pairwise_map]
    exact (List.nodup_range (n := n + 1)).imp fun h e => h (by omega)
  have h3 := short_of h2 (m := l.map (·.gen)) fun x hx => by
    obtain ⟨k, hk, rfl⟩ := List.mem_map.1 hx
    exact h1 k hk
  rw [List.length_map, List.length_map, List.length_range] at h3
  omega
end
end Go.Proofs.YtechkdhehipliaaGreatDoor.FrM
namespace Go.Proofs.YtechkdhehipliaaGreatDoor.FrN
set_option maxRecDepth 100000
open IdM CmM DgM DgX FrM
open Classical

section
variable {H : Com → Idn}

/-- The merge of some; what some are joined to. -/
noncomputable def mergeK (H : Com → Idn) (l : List Com) (f : List Idn) : Com := ⟨-1, 0, most (f.map (gAt H l)) + 1, f, noO⟩
noncomputable def joinF (H : Com → Idn) (l : List Com) : List Idn → Option Com
  | [] => none
  | [x] => DgM.look H l x
  | x :: y :: f => if mayK (mergeK H l (x :: y :: f)) = true then some (mergeK H l (x :: y :: f)) else none
theorem joinF_more (l : List Com) (x y : Idn) (f : List Idn) : joinF H l (x :: y :: f) = if mayK (mergeK H l (x :: y :: f)) = true then some (mergeK H l (x :: y :: f)) else none := rfl
noncomputable def tops (H : Com → Idn) (l : List Com) (a : List Idn) : List Idn := front H (DgM.part H l (· ∈ anc H l a))
noncomputable def join (H : Com → Idn) (l : List Com) (a : List Idn) : Option Com := if Closed H l then joinF H l (tops H l a) else none
noncomputable def head (H : Com → Idn) (l : List Com) : Option Com := join H l (l.map H)
noncomputable def nextK (H : Com → Idn) (l : List Com) (node seq : Int) (o : OpsM.Opn) : Com := ⟨node, seq, most (l.map (·.gen)) + 1, front H l, o⟩
noncomputable def next (H : Com → Idn) (l : List Com) (node seq : Int) (o : OpsM.Opn) : Option Com := if Closed H l ∧ mayK (nextK H l node seq o) = true ∧ Closed H (l ++ [nextK H l node seq o]) then some (nextK H l node seq o) else none
theorem part_iff {l : List Com} {p q : Idn → Prop} (h : ∀ x, p x ↔ q x) : DgM.part H l p = DgM.part H l q := by
  have e : p = q := funext fun x => propext (h x)
  rw [e]
theorem tops_all (l : List Com) : tops H l (l.map H) = front H l := by
  unfold tops
  rw [part_iff (q := (· ∈ l.map H)) fun x => by rw [anc_all, mem_sort], part_all]
theorem head_is {l : List Com} (C : Closed H l) : head H l = joinF H l (front H l) := by
  unfold head join
  rw [if_pos C, tops_all]
theorem look_perm {l m : List Com} (hn : (l.map H).Nodup) (h : l.Perm m) (a : Idn) : DgM.look H l a = DgM.look H m a := by
  by_cases ha : a ∈ l.map H
  · obtain ⟨c, hc, rfl⟩ := List.mem_map.1 ha
    rw [look_some hn hc, look_some ((h.map H).nodup_iff.1 hn) (h.mem_iff.1 hc)]
  · rw [look_none.2 ha, look_none.2 fun k => ha ((h.map H).mem_iff.2 k)]
theorem gAt_perm {l m : List Com} (hn : (l.map H).Nodup) (h : l.Perm m) : gAt H l = gAt H m := by
  funext a
  unfold gAt
  rw [look_perm hn h]
theorem joinF_perm {l m : List Com} (hn : (l.map H).Nodup) (h : l.Perm m) (f : List Idn) : joinF H l f = joinF H m f := by
  match f with
  | [] => rfl
  | [x] => exact look_perm hn h x
  | x :: y :: f =>
    unfold joinF mergeK
    rw [gAt_perm hn h]
/-- It doesn't hang on the order of the commits, nor of what is joined. -/
theorem join_perm {l m : List Com} (h : l.Perm m) {a b : List Idn} (hab : ∀ x, x ∈ a ↔ x ∈ b) : join H l a = join H m b := by
  unfold join
  by_cases C : Closed H l
  · rw [if_pos C, if_pos (closed_perm C h), joinF_perm C.nodup h]
    congr 1
    unfold tops
    rw [anc_perm h a, anc_set hab]
    exact front_perm (part_perm h _)
  · rw [if_neg C, if_neg fun k => C (closed_perm k h.symm)]
theorem join_twice (l : List Com) (a : List Idn) : join H l (anc H l a) = join H l a := by
  unfold join
  by_cases C : Closed H l
  · rw [if_pos C, if_pos C]
    unfold tops
    rw [anc_twice C]
  · rw [if_neg C, if_neg C]
theorem head_perm {l m : List Com} (h : l.Perm m) : head H l = head H m := join_perm h fun _ => (h.map H).mem_iff
/-- The greatest generation is one of the last ones'. -/
theorem gen_front {l : List Com} (C : Closed H l) : most ((front H l).map (gAt H l)) = most (l.map (·.gen)) := by
  have h1 : most ((front H l).map (gAt H l)) ≤ most (l.map (·.gen)) := most_le (most_nonneg _) fun g hg => by
    obtain ⟨x, hx, rfl⟩ := List.mem_map.1 hg
    obtain ⟨c, hc, rfl⟩ := List.mem_map.1 (front_in x hx)
    rw [gAt_of C.nodup hc]
    exact le_most (List.mem_map_of_mem hc)
  have h2 : most (l.map (·.gen)) ≤ most ((front H l).map (gAt H l)) := most_le (most_nonneg _) fun g hg => by
    obtain ⟨c, hc, rfl⟩ := List.mem_map.1 hg
    obtain ⟨y, hy, h⟩ := last_above C (List.mem_map_of_mem (f := H) hc)
    have h3 := le_most (List.mem_map_of_mem (f := gAt H l) hy)
    have h4 := gAt_of C.nodup hc
    rcases h with rfl | h
    · show c.gen ≤ _
      omega
    · have := kn_gen C h
      show c.gen ≤ _
      omega
  omega
theorem head_nil {l : List Com} (C : Closed H l) (h : front H l = []) : head H l = none ∧ most (l.map (·.gen)) = 0 := by
  refine ⟨by rw [head_is C, h]; rfl, ?_⟩
  rw [(front_nil C).1 h]
  rfl
theorem head_one {l : List Com} (C : Closed H l) {x : Idn} (h : front H l = [x]) : ∃ c ∈ l, H c = x ∧ head H l = some c ∧ c.gen = most (l.map (·.gen)) := by
  obtain ⟨c, hc, rfl⟩ := List.mem_map.1 (front_in (H := H) (l := l) x (by rw [h]; simp))
  refine ⟨c, hc, rfl, ?_, ?_⟩
  · rw [head_is C, h]
    exact look_some C.nodup hc
  · rw [← gen_front C, h]
    have := (gen_len C c hc).1
    rw [List.map_singleton, gAt_of C.nodup hc]
    unfold most
    simp only [List.foldl_cons, List.foldl_nil]
    omega
theorem may_merge {l : List Com} {f : List Idn} (C : Closed H l) (hl : l.length ≤ 1000) (hr : Rising f) (h2 : 2 ≤ f.length) (h8 : f.length ≤ 8) (hin : ∀ x ∈ f, x ∈ l.map H) : mayK (mergeK H l f) = true ∧ isM (mergeK H l f) = true := by
  have hm : most (f.map (gAt H l)) ≤ 1000 := most_le (by omega) fun g hg => by
    obtain ⟨x, hx, rfl⟩ := List.mem_map.1 hg
    obtain ⟨c, hc, rfl⟩ := List.mem_map.1 (hin x hx)
    rw [gAt_of C.nodup hc]
    have := (gen_len C c hc).2
    omega
  have h1 : 1 ≤ most (f.map (gAt H l)) := by
    match f, h2 with
    | x :: f, _ =>
      obtain ⟨c, hc, rfl⟩ := List.mem_map.1 (hin x (by simp))
      have h3 := le_most (List.mem_map_of_mem (f := gAt H l) (List.mem_cons_self (a := H c) (l := f)))
      rw [gAt_of C.nodup hc] at h3
      have := (gen_len C c hc).1
      omega
  have hL : lineB (mergeK H l f) = true := by
    rw [lineB_iff]
    refine ⟨?_, ?_, h8, risesB_of_rising hr, ?_⟩
    · show 1 ≤ most (f.map (gAt H l)) + 1
      omega
    · show most (f.map (gAt H l)) + 1 ≤ 1048576
      omega
    · show most (f.map (gAt H l)) + 1 = 1 ↔ f.length = 0
      constructor <;> intro h <;> omega
  have hM : mergeB (mergeK H l f) = true := mergeB_iff.2 ⟨rfl, rfl, rfl, h2⟩
  exact ⟨mayK_iff.2 ⟨hL, .inl hM⟩, isM_iff.2 ⟨hL, hM⟩⟩
theorem head_many {l : List Com} (C : Closed H l) (hl : l.length ≤ 1000) (h : 2 ≤ (front H l).length) : head H l = some (mergeK H l (front H l)) ∧ isM (mergeK H l (front H l)) = true ∧ (mergeK H l (front H l)).gen = most (l.map (·.gen)) + 1 := by
  obtain ⟨h1, h2⟩ := may_merge C hl (rising_front (H := H) l) h (front_few C) front_in
  refine ⟨?_, h2, ?_⟩
  · rw [head_is C]
    match hf : front H l, h with
    | x :: y :: f, _ =>
      rw [hf] at h1
      rw [joinF_more, if_pos h1]
  · show most ((front H l).map (gAt H l)) + 1 = _
    rw [gen_front C]
theorem kn_mono {l m : List Com} (h : ∀ c ∈ l, c ∈ m) {a b : Idn} (k : Kn H l a b) : Kn H m a b := by
  induction k with
  | one k => obtain ⟨c, hc, e, hb⟩ := k; exact .one ⟨c, h c hc, e, hb⟩
  | more k _ ih => obtain ⟨c, hc, e, hb⟩ := k; exact .more ⟨c, h c hc, e, hb⟩ ih
/-- What comes next is the last one then, and knows all. -/
theorem front_next {l : List Com} {c : Com} (C : Closed H l) (D : Closed H (l ++ [c])) (hp : c.ps = front H l) : front H (l ++ [c]) = [H c] := by
  have hn : H c ∉ l.map H := by
    have := D.nodup
    rw [List.map_append, List.nodup_append] at this
    exact fun h => this.2.2 _ h _ (by simp) rfl
  refine rising_uniq (rising_front _) (by simp [Rising]) fun x => ?_
  rw [List.mem_singleton, mem_front, List.map_append, List.mem_append]
  constructor
  · rintro ⟨hx | hx, hL⟩
    · obtain ⟨y, hy, h⟩ := last_above C hx
      rcases h with rfl | h
      · exact absurd (by rw [hp]; exact hy) (hL c (by simp))
      · exact absurd (kn_mono (fun d hd => List.mem_append_left _ hd) h) ((last_iff (H := H)).1 hL y)
    · simpa using hx
  · rintro rfl
    refine ⟨.inr (by simp), fun d hd h => ?_⟩
    rcases List.mem_append.1 hd with hd | hd
    · exact hn (C.found d hd _ h)
    · rw [List.mem_singleton.1 hd, hp] at h
      exact hn (front_in _ h)
theorem anc_next {l : List Com} {c : Com} (C : Closed H l) (D : Closed H (l ++ [c])) (hp : c.ps = front H l) : (anc H (l ++ [c]) [H c]).length = (l ++ [c]).length := by
  rw [← front_next C D hp, anc_front D]
  have h := perm_of D.nodup (rising_nodup (rising_sort ((l ++ [c]).map H))) fun x => (mem_sort x _).symm
  rw [← h.length_eq, List.length_map]
theorem head_next {l : List Com} {c : Com} (C : Closed H l) (D : Closed H (l ++ [c])) (hp : c.ps = front H l) : head H (l ++ [c]) = some c := by
  rw [head_is D, front_next C D hp]
  exact look_some D.nodup (by simp)
theorem gAt_old {l : List Com} {c : Com} {a : Idn} (hn : H c ∉ l.map H) (ha : a ∈ l.map H) : gAt H (l ++ [c]) a = gAt H l a := by
  unfold gAt
  rw [look_snoc_old fun e => hn (by rw [← e]; exact ha)]
/-- A commit behind all, later than all of its node, keeps what is closed so. -/
theorem closed_next {l : List Com} {c : Com} (C : Closed H l) (hm : mayK c = true) (hi : isM c = false) (hn : H c ∉ l.map H) (hp : c.ps = front H l) (hg : c.gen = 1 + most (l.map (·.gen))) (hs : ∀ d ∈ l, d.node = c.node → d.seq < c.seq) : Closed H (l ++ [c]) := by
  have mem : ∀ {d : Com}, d ∈ l ++ [c] → d ∈ l ∨ d = c := fun h => by
    rcases List.mem_append.1 h with h | h
    · exact .inl h
    · exact .inr (List.mem_singleton.1 h)
  have old : ∀ a ∈ l.map H, a ∈ (l ++ [c]).map H := fun a ha => by
    rw [List.map_append]
    exact List.mem_append_left _ ha
  refine ⟨fun d hd => ?_, fun d hd => ?_, ?_, fun d hd a ha => ?_, fun d hd => ?_, fun d hd a ha b hb k => ?_, fun d hd e he hne hnode => ?_⟩
  · rcases mem hd with hd | rfl
    · exact C.may d hd
    · exact hm
  · rcases mem hd with hd | rfl
    · exact C.merge d hd
    · exact hi
  · rw [List.map_append, List.nodup_append]
    refine ⟨C.nodup, by simp, fun a ha b hb e => hn ?_⟩
    rw [List.map_singleton, List.mem_singleton] at hb
    rw [← hb, ← e]
    exact ha
  · rcases mem hd with hd | rfl
    · exact old a (C.found d hd a ha)
    · rw [hp] at ha
      exact old a (front_in a ha)
  · rcases mem hd with hd | rfl
    · rw [C.gen d hd]
      congr 2
      exact List.map_congr_left fun a ha => (gAt_old hn (C.found d hd a ha)).symm
    · rw [hg, hp, ← gen_front C]
      congr 2
      exact List.map_congr_left fun a ha => (gAt_old hn (front_in a ha)).symm
  · rcases mem hd with hd | rfl
    · exact C.apart d hd a ha b hb ((kn_old C.found hn (C.found d hd a ha)).1 k).1
    · rw [hp] at ha hb
      exact front_apart hb ((kn_old C.found hn (front_in a ha)).1 k).1
  · rcases mem hd with hd2 | rfl
    · rcases mem he with he | rfl
      · obtain ⟨h1, h2⟩ := C.node d hd2 e he hne hnode
        exact ⟨h1, fun h => kn_mono (fun x hx => List.mem_append_left _ hx) (h2 h)⟩
      · have := hs d hd2 hnode
        exact ⟨by omega, fun h => by omega⟩
    · rcases mem he with he | rfl
      · have := hs e he hnode.symm
        refine ⟨by omega, fun _ => ?_⟩
        obtain ⟨y, hy, h⟩ := last_above C (List.mem_map_of_mem (f := H) he)
        have h1 : Par H (l ++ [d]) (H d) y := ⟨d, by simp, rfl, by rw [hp]; exact hy⟩
        rcases h with rfl | h
        · exact .one h1
        · exact .more h1 (kn_mono (fun x hx => List.mem_append_left _ hx) h)
      · exact absurd rfl hne
/-- Commits without parents, each of a node of its own, are closed, and all of them last ones. -/
theorem closed_flat {l : List Com} (hm : ∀ c ∈ l, mayK c = true) (hi : ∀ c ∈ l, isM c = false) (hn : (l.map H).Nodup) (hp : ∀ c ∈ l, c.ps = []) (hg : ∀ c ∈ l, c.gen = 1) (hd : ∀ c ∈ l, ∀ d ∈ l, c ≠ d → c.node ≠ d.node) : Closed H l := by
  refine ⟨hm, hi, hn, fun c hc a ha => ?_, fun c hc => ?_, fun c hc a ha => ?_, fun c hc d hd' hne hnode => absurd hnode (hd c hc d hd' hne)⟩
  · rw [hp c hc] at ha; cases ha
  · rw [hp c hc, hg c hc]; rfl
  · rw [hp c hc] at ha; cases ha
theorem front_flat {l : List Com} (hp : ∀ c ∈ l, c.ps = []) : front H l = sort (l.map H) := by
  refine rising_uniq (rising_front l) (rising_sort _) fun x => ?_
  rw [mem_front, mem_sort]
  refine ⟨fun h => h.1, fun h => ⟨h, fun c hc k => ?_⟩⟩
  rw [hp c hc] at k
  cases k
/-- What is joined to is short where all commits are. -/
theorem joinF_some {l : List Com} {f : List Idn} {c : Com} (h : joinF H l f = some c) : c ∈ l ∨ mayK c = true ∧ c.op = noO ∧ c.ps = f := by
  match f, h with
  | [x], h => exact .inl (look_mem h).1
  | x :: y :: f, h =>
    rw [joinF_more] at h
    by_cases h1 : mayK (mergeK H l (x :: y :: f)) = true
    · rw [if_pos h1] at h
      obtain rfl := Option.some.inj h
      exact .inr ⟨h1, rfl, rfl⟩
    · rw [if_neg h1] at h
      cases h
end
end Go.Proofs.YtechkdhehipliaaGreatDoor.FrN
