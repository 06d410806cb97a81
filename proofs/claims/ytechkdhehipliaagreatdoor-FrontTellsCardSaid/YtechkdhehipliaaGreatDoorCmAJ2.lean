/- Contracts of package commit, by the names that the laws' walks call them by; the chapter's own example: 'awake' returns true. | Plain facts on commits that know one another: what is closed, what is known, sorted lists. No condition. -/
import Derived.Test.YtechkdhehipliaaGreatDoorRefWJ5
import Derived.Test.YtechkdhehipliaaGreatDoorCmT
import Derived.Test.YtechkdhehipliaaGreatDoorCmMJ3
namespace Go.Proofs.YtechkdhehipliaaGreatDoor.CmA
set_option maxRecDepth 100000
open Go Go.Sort Go.RowKit Byt EncM EncC EncT IdM IdW OpsM OpsW CmM StW CmW CmY

theorem may_ret (v : Cv) (w : World) (S : In w v) (hf : Fit v.c) : Calls Tryz.prog 70 #[.agg (cc v)] w fun e w' => e = .returned (.bool (mayK v.c)) ∧ Below w.heap.size w w' := CmV.may_ret v w S hf
theorem merge_ret (v : Cv) (w : World) (S : In w v) (_hf : Fit v.c) : Calls Tryz.prog 48 #[.agg (cc v)] w fun e w' => e = .returned (.bool (isM v.c)) ∧ Below w.heap.size w w' := CmV.merge_ret v w S
theorem same_ret (u v : Cv) (w : World) (S : In w u) (T : In w v) : Calls Tryz.prog 44 #[.agg (cc u), .agg (cc v)] w fun e w' => e = .returned (.bool (CmR.sameK u.c v.c)) ∧ Below w.heap.size w w' := CmV.same_ret u v w S T
theorem put_ret (v : Cv) (w : World) (S : In w v) (hf : Fit v.c) : Calls Tryz.prog 43 #[.agg (cc v)] w (PutOut v.c w) := CmT.put_ret v w S hf
theorem hash_ret (v : Cv) (w : World) (S : In w v) (hf : Fit v.c) (hK : ShaE.KIn w) : Calls Tryz.prog 45 #[.agg (cc v)] w (HashOut v.c w) := CmT.hash_ret v w S hf hK
def o1 : Opn := ⟨0, ⟨#[97]⟩, ⟨#[]⟩, 1⟩
def c1 : Com := ⟨0, 1, 1, [], o1⟩
def v1 : Cv := ⟨none, 0, c1⟩
theorem in1 (w : World) : In w v1 := SlI.nil w
theorem fit1 : Fit c1 := ⟨⟨by decide, by decide⟩, ⟨by decide, by decide⟩, ⟨by decide, by decide⟩, ⟨⟨by decide, by decide⟩, ⟨by decide, by decide⟩, of_decide_eq_true (by kernel_rfl), of_decide_eq_true (by kernel_rfl)⟩⟩
theorem may1 : mayK c1 = true := by kernel_rfl
theorem not1 : isM c1 = false := by kernel_rfl
theorem text1 (x : Int) : textL [x] = [1, x] := by
  unfold textL
  rw [show ([x] : List Int).length = 1 from rfl, numL_one (by omega)]
  rfl
theorem op1 : putL o1 = [0, 1, 97, 2] := by
  unfold putL tailL
  rw [show bytesL o1.key = [97] by kernel_rfl, text1, show o1.kind.toNat = 0 from rfl, if_pos (show o1.kind = 0 from rfl), show (foldI o1.n).toNat = 2 by kernel_rfl, numL_one (by omega), numL_one (by omega)]
  rfl
theorem put1 : putK c1 = [0, 1, 1, 0, 0, 1, 97, 2] := by
  unfold putK headL opL
  rw [if_neg (show ¬ c1.node = -1 by decide), show c1.op = o1 from rfl, op1, show (foldI c1.node).toNat = 0 by kernel_rfl, show c1.seq.toNat = 1 from rfl, show c1.gen.toNat = 1 from rfl, show c1.ps.length = 0 from rfl, numL_one (by omega), numL_one (by omega)]
  rfl
theorem get1 : getK (putK c1 ++ [9]) = some (c1, [9]) := get_putK may1 [9]
theorem str1 : strOf [0, 1, 1, 0, 0, 1, 97, 2] = ⟨#[0, 1, 1, 0, 0, 1, 97, 2]⟩ := by kernel_rfl
set_option maxRecDepth 100000 in
set_option maxHeartbeats 8000000 in
theorem some_ret (w : World) : Calls Tryz.prog 81 #[] w fun e w' => e = .returned (.agg (cc v1)) ∧ Below w.heap.size w w' := by
  go_enter Tryz.func81, Tryz.ntmps81
  go_wp2_with (first | go_skip | (refine Cel.wpList_store_new CE rfl _ _ rfl w _ _ rfl v1 _ rfl rfl rfl rfl ?_; intro w2 B2 k2 g2 s2))
  exact bodyPost_ret (v := .agg (cc v1)) (CmF.results_c Tryz.results81 _ _ w.heap.size v1 rfl B2) rfl ⟨rfl, k2⟩
/-- An id read whole in a region that draws its order. -/
theorem quiet_id {a : Act} {o : Oper} {K : Act → Prop} {w : World} (x : Operand) (ho : o.op = .load 42 x)
    (b off : Nat) (hx : a.eval x = .pointer (some ⟨b, off, none⟩)) (y : Idn) (hc : w.rangeAt b off (bv y.1)) (hk : K (a.put o.dst (.agg (cs y)))) : o.quiet Tryz.prog a (fun w' => ∃ p : Regrown, w' = grow (redrawn w p.d) p.os) K := by
  refine ⟨.agg (cs y), fun u hu => ?_, hk⟩
  obtain ⟨p, rfl⟩ := hu
  have q := IdW.load_mid (IdW.range_below hc (below_regrown w p.d p.os))
  unfold Oper.quietAt execOp
  simp only [ho, hx, Sem.run_bind, q, Result.andThen_ok, Sem.run_pure]
  exact ⟨rfl, rfl⟩
end Go.Proofs.YtechkdhehipliaaGreatDoor.CmA
namespace Go.Proofs.YtechkdhehipliaaGreatDoor.DgM
set_option maxRecDepth 100000
open IdM CmM
open Classical

section
variable {H : Com → Idn}

/-- One has the other as a parent; one knows the other. -/
def Par (H : Com → Idn) (l : List Com) (a b : Idn) : Prop := ∃ c ∈ l, H c = a ∧ b ∈ c.ps
inductive Kn (H : Com → Idn) (l : List Com) : Idn → Idn → Prop
  | one {a b : Idn} : Par H l a b → Kn H l a b
  | more {a b c : Idn} : Par H l a b → Kn H l b c → Kn H l a c
theorem Kn.trans {l : List Com} {a b c : Idn} (h : Kn H l a b) (k : Kn H l b c) : Kn H l a c := by
  induction h with
  | one h => exact .more h k
  | more h _ ih => exact .more h (ih k)
/-- The commit that has an id; its generation. -/
def look (H : Com → Idn) (l : List Com) (a : Idn) : Option Com := l.find? fun c => decide (H c = a)
def gAt (H : Com → Idn) (l : List Com) (a : Idn) : Int := ((look H l a).map (·.gen)).getD 0
/-- The greatest of numbers, and 0. -/
def most (l : List Int) : Int := l.foldl max 0
theorem foldl_max (l : List Int) : ∀ m : Int, m ≤ l.foldl max m ∧ (∀ x ∈ l, x ≤ l.foldl max m) ∧ (l.foldl max m = m ∨ l.foldl max m ∈ l) := by
  induction l with
  | nil => intro m; simp
  | cons y l ih =>
    intro m
    obtain ⟨h1, h2, h3⟩ := ih (max m y)
    refine ⟨by simp only [List.foldl_cons]; omega, fun x hx => ?_, ?_⟩
    · rcases List.mem_cons.1 hx with rfl | hx
      · simp only [List.foldl_cons]; omega
      · exact h2 x hx
    · simp only [List.foldl_cons]
      rcases h3 with h3 | h3
      · rw [h3]
        by_cases h : m ≤ y
        · right; rw [Int.max_eq_right h]; simp
        · left; rw [Int.max_eq_left (by omega)]
      · right; exact List.mem_cons_of_mem _ h3
theorem le_most {l : List Int} {x : Int} (h : x ∈ l) : x ≤ most l := (foldl_max l 0).2.1 x h
/-- Commits are closed. -/
structure Closed (H : Com → Idn) (l : List Com) : Prop where
  may : ∀ c ∈ l, mayK c = true
  merge : ∀ c ∈ l, isM c = false
  nodup : (l.map H).Nodup
  found : ∀ c ∈ l, ∀ a ∈ c.ps, a ∈ l.map H
  gen : ∀ c ∈ l, c.gen = 1 + most (c.ps.map (gAt H l))
  apart : ∀ c ∈ l, ∀ a ∈ c.ps, ∀ b ∈ c.ps, ¬ Kn H l a b
  node : ∀ c ∈ l, ∀ d ∈ l, c ≠ d → c.node = d.node → c.seq ≠ d.seq ∧ (d.seq < c.seq → Kn H l (H c) (H d))
theorem closed_nil : Closed H [] := ⟨by simp, by simp, by simp, by simp, by simp, by simp, by simp⟩
theorem same_of {l : List Com} (h : (l.map H).Nodup) {c d : Com} (hc : c ∈ l) (hd : d ∈ l) (e : H c = H d) : c = d := by
  induction l with
  | nil => simp at hc
  | cons x l ih =>
    rw [List.map_cons, List.nodup_cons] at h
    rcases List.mem_cons.1 hc with h1 | h1 <;> rcases List.mem_cons.1 hd with h2 | h2
    · rw [h1, h2]
    · subst h1
      exact absurd (by rw [e]; exact List.mem_map_of_mem h2) h.1
    · subst h2
      exact absurd (by rw [← e]; exact List.mem_map_of_mem h1) h.1
    · exact ih h.2 h1 h2
theorem look_some {l : List Com} (h : (l.map H).Nodup) {c : Com} (hc : c ∈ l) : look H l (H c) = some c := by
  unfold look
  cases hf : l.find? (fun d => decide (H d = H c)) with
  | none =>
    have := List.find?_eq_none.1 hf c hc
    simp at this
  | some d =>
    have h1 := List.mem_of_find?_eq_some hf
    have h2 := List.find?_some hf
    rw [same_of h h1 hc (of_decide_eq_true h2)]
theorem gAt_of {l : List Com} (h : (l.map H).Nodup) {c : Com} (hc : c ∈ l) : gAt H l (H c) = c.gen := by
  unfold gAt
  rw [look_some h hc]
  rfl
/-- What is known is there, and of a smaller generation. -/
theorem kn_src {l : List Com} {a b : Idn} (h : Kn H l a b) : a ∈ l.map H := by
  cases h with
  | one h => obtain ⟨c, hc, rfl, _⟩ := h; exact List.mem_map_of_mem hc
  | more h _ => obtain ⟨c, hc, rfl, _⟩ := h; exact List.mem_map_of_mem hc
theorem kn_tgt {l : List Com} (C : Closed H l) {a b : Idn} (h : Kn H l a b) : b ∈ l.map H := by
  induction h with
  | one h => obtain ⟨c, hc, _, hb⟩ := h; exact C.found c hc _ hb
  | more _ _ ih => exact ih
theorem par_gen {l : List Com} (C : Closed H l) {a b : Idn} (h : Par H l a b) : gAt H l b < gAt H l a := by
  obtain ⟨c, hc, rfl, hb⟩ := h
  rw [gAt_of C.nodup hc, C.gen c hc]
  have := le_most (List.mem_map_of_mem (f := gAt H l) hb)
  omega
theorem kn_gen {l : List Com} (C : Closed H l) {a b : Idn} (h : Kn H l a b) : gAt H l b < gAt H l a := by
  induction h with
  | one h => exact par_gen C h
  | more h _ ih => have := par_gen C h; omega
theorem kn_irrefl {l : List Com} (C : Closed H l) {a : Idn} : ¬ Kn H l a a := fun h => by
  have := kn_gen C h
  omega
/-- Part of a list: those of it whose ids are told, in order. -/
noncomputable def part (H : Com → Idn) (l : List Com) (p : Idn → Prop) : List Com := l.filter fun c => decide (p (H c))
theorem mem_part {l : List Com} {p : Idn → Prop} {c : Com} : c ∈ part H l p ↔ c ∈ l ∧ p (H c) := by simp [part]
/-- What is told holds all that it knows. -/
def Down (H : Com → Idn) (l : List Com) (p : Idn → Prop) : Prop := ∀ c ∈ l, p (H c) → ∀ a ∈ c.ps, p a
theorem par_part {l : List Com} {p : Idn → Prop} {a b : Idn} (h : Par H (part H l p) a b) : Par H l a b := by
  obtain ⟨c, hc, e, hb⟩ := h
  exact ⟨c, (mem_part.1 hc).1, e, hb⟩
theorem kn_part {l : List Com} {p : Idn → Prop} {a b : Idn} (h : Kn H (part H l p) a b) : Kn H l a b := by
  induction h with
  | one h => exact .one (par_part h)
  | more h _ ih => exact .more (par_part h) ih
theorem kn_in {l : List Com} {p : Idn → Prop} (hd : Down H l p) {a b : Idn} (h : Kn H l a b) (ha : p a) : Kn H (part H l p) a b ∧ p b := by
  induction h with
  | one h =>
    obtain ⟨c, hc, rfl, hb⟩ := h
    exact ⟨.one ⟨c, mem_part.2 ⟨hc, ha⟩, rfl, hb⟩, hd c hc ha _ hb⟩
  | more h _ ih =>
    obtain ⟨c, hc, rfl, hb⟩ := h
    obtain ⟨h1, h2⟩ := ih (hd c hc ha _ hb)
    exact ⟨.more ⟨c, mem_part.2 ⟨hc, ha⟩, rfl, hb⟩ h1, h2⟩
theorem mem_map {l : List Com} {p : Idn → Prop} {a : Idn} : a ∈ (part H l p).map H ↔ a ∈ l.map H ∧ p a := by
  rw [List.mem_map, List.mem_map]
  constructor
  · rintro ⟨c, hc, rfl⟩
    obtain ⟨h1, h2⟩ := mem_part.1 hc
    exact ⟨⟨c, h1, rfl⟩, h2⟩
  · rintro ⟨⟨c, hc, rfl⟩, h⟩
    exact ⟨c, mem_part.2 ⟨hc, h⟩, rfl⟩
theorem part_nodup {l : List Com} (C : Closed H l) (p : Idn → Prop) : ((part H l p).map H).Nodup := C.nodup.sublist (List.filter_sublist.map H)
theorem gAt_part {l : List Com} (C : Closed H l) {p : Idn → Prop} {a : Idn} (ha : a ∈ l.map H) (hp : p a) : gAt H (part H l p) a = gAt H l a := by
  obtain ⟨c, hc, rfl⟩ := List.mem_map.1 ha
  have hn := part_nodup C p
  rw [gAt_of hn (mem_part.2 ⟨hc, hp⟩), gAt_of C.nodup hc]
/-- Part of closed commits that holds all that it knows is closed. -/
theorem closed_part {l : List Com} (C : Closed H l) {p : Idn → Prop} (hd : Down H l p) : Closed H (part H l p) := by
  have hn := part_nodup C p
  refine ⟨fun c hc => C.may c (mem_part.1 hc).1, fun c hc => C.merge c (mem_part.1 hc).1, hn, fun c hc a ha => ?_, fun c hc => ?_, fun c hc a ha b hb h => ?_, fun c hc d hd' hne hnode => ?_⟩
  · obtain ⟨h1, h2⟩ := mem_part.1 hc
    exact mem_map.2 ⟨C.found c h1 a ha, hd c h1 h2 a ha⟩
  · obtain ⟨h1, h2⟩ := mem_part.1 hc
    rw [C.gen c h1]
    congr 2
    exact List.map_congr_left fun a ha => (gAt_part C (C.found c h1 a ha) (hd c h1 h2 a ha)).symm
  · exact C.apart c (mem_part.1 hc).1 a ha b hb (kn_part h)
  · obtain ⟨h1, h2⟩ := mem_part.1 hc
    obtain ⟨h3, _⟩ := mem_part.1 hd'
    obtain ⟨k1, k2⟩ := C.node c h1 d h3 hne hnode
    exact ⟨k1, fun hs => (kn_in hd (k2 hs) h2).1⟩
/-- What some know, and they. -/
def Below (H : Com → Idn) (l : List Com) (a : List Idn) (x : Idn) : Prop := x ∈ l.map H ∧ (x ∈ a ∨ ∃ y ∈ a, Kn H l y x)
theorem below_down {l : List Com} (C : Closed H l) (a : List Idn) : Down H l (Below H l a) := by
  rintro c hc ⟨_, h⟩ b hb
  have hp : Par H l (H c) b := ⟨c, hc, rfl, hb⟩
  refine ⟨C.found c hc b hb, .inr ?_⟩
  rcases h with h | ⟨y, hy, h⟩
  · exact ⟨H c, h, .one hp⟩
  · exact ⟨y, hy, h.trans (.one hp)⟩
noncomputable def anc (H : Com → Idn) (l : List Com) (a : List Idn) : List Idn := sort ((l.map H).filter fun x => decide (Below H l a x))
theorem mem_anc {l : List Com} {a : List Idn} {x : Idn} : x ∈ anc H l a ↔ Below H l a x := by
  unfold anc
  rw [mem_sort, List.mem_filter, decide_eq_true_eq]
  exact ⟨fun h => h.2, fun h => ⟨h.1, h⟩⟩
theorem rising_anc (l : List Com) (a : List Idn) : Rising (anc H l a) := rising_sort _
/-- A set of ids of the list that holds all that it knows is what it knows. -/
theorem anc_down {l : List Com} {a : List Idn} (hr : Rising a) (hin : ∀ x ∈ a, x ∈ l.map H) (hd : Down H l (· ∈ a)) : anc H l a = a := by
  refine rising_uniq (rising_anc l a) hr fun x => ?_
  rw [mem_anc]
  constructor
  · rintro ⟨_, h | ⟨y, hy, h⟩⟩
    · exact h
    · exact (kn_in hd h hy).2
  · exact fun h => ⟨hin x h, .inl h⟩
theorem anc_in {l : List Com} {a : List Idn} : ∀ x ∈ anc H l a, x ∈ l.map H := fun _ h => (mem_anc.1 h).1
theorem anc_twice {l : List Com} (C : Closed H l) (a : List Idn) : anc H l (anc H l a) = anc H l a := by
  refine anc_down (rising_anc l a) anc_in fun c hc h b hb => ?_
  have h : H c ∈ anc H l a := h
  show b ∈ anc H l a
  rw [mem_anc] at h ⊢
  exact below_down C a c hc h b hb
theorem anc_both {l : List Com} (a b : List Idn) : anc H l (a ++ b) = both (anc H l a) (anc H l b) := by
  refine rising_uniq (rising_anc l _) (rising_both _ _) fun x => ?_
  rw [mem_both, mem_anc, mem_anc, mem_anc]
  constructor
  · rintro ⟨h0, h | ⟨y, hy, h⟩⟩
    · rcases List.mem_append.1 h with h | h
      · exact .inl ⟨h0, .inl h⟩
      · exact .inr ⟨h0, .inl h⟩
    · rcases List.mem_append.1 hy with hy | hy
      · exact .inl ⟨h0, .inr ⟨y, hy, h⟩⟩
      · exact .inr ⟨h0, .inr ⟨y, hy, h⟩⟩
  · rintro (⟨h0, h | ⟨y, hy, h⟩⟩ | ⟨h0, h | ⟨y, hy, h⟩⟩)
    · exact ⟨h0, .inl (List.mem_append_left _ h)⟩
    · exact ⟨h0, .inr ⟨y, List.mem_append_left _ hy, h⟩⟩
    · exact ⟨h0, .inl (List.mem_append_right _ h)⟩
    · exact ⟨h0, .inr ⟨y, List.mem_append_right _ hy, h⟩⟩
theorem anc_common {l : List Com} (C : Closed H l) (a b : List Idn) : anc H l (common (anc H l a) (anc H l b)) = common (anc H l a) (anc H l b) := by
  refine anc_down (rising_common _ _) (fun x h => anc_in x ((mem_common _ _ _).1 h).1) fun c hc h d hd => ?_
  have h : H c ∈ common (anc H l a) (anc H l b) := h
  show d ∈ common (anc H l a) (anc H l b)
  rw [mem_common, mem_anc, mem_anc] at h ⊢
  exact ⟨below_down C a c hc h.1 d hd, below_down C b c hc h.2 d hd⟩
theorem anc_all (l : List Com) : anc H l (l.map H) = sort (l.map H) := by
  refine eq_sort (rising_anc l _) fun x => ?_
  rw [mem_anc]
  exact ⟨fun h => h.1, fun h => ⟨h, .inl h⟩⟩
theorem anc_nil (l : List Com) : anc H l [] = [] := by
  refine rising_uniq (rising_anc l _) (by simp [Rising]) fun x => ?_
  rw [mem_anc]
  simp [Below]
/-- What a commit knows is what its parents know, and they. -/
theorem anc_one {l : List Com} (C : Closed H l) {c : Com} (hc : c ∈ l) : anc H l [H c] = both (anc H l c.ps) [H c] := by
  refine rising_uniq (rising_anc l _) (rising_both _ _) fun x => ?_
  rw [mem_both, mem_anc, mem_anc, List.mem_singleton]
  constructor
  · rintro ⟨h0, h | ⟨y, hy, h⟩⟩
    · exact .inr (List.mem_singleton.1 h)
    · rw [List.mem_singleton] at hy
      subst hy
      left
      refine ⟨h0, ?_⟩
      cases h with
      | one h =>
        obtain ⟨d, hd, e, hb⟩ := h
        rw [same_of C.nodup hd hc e] at hb
        exact .inl hb
      | more h k =>
        obtain ⟨d, hd, e, hb⟩ := h
        rw [same_of C.nodup hd hc e] at hb
        exact .inr ⟨_, hb, k⟩
  · rintro (⟨h0, h | ⟨y, hy, h⟩⟩ | rfl)
    · exact ⟨h0, .inr ⟨H c, by simp, .one ⟨c, hc, rfl, h⟩⟩⟩
    · exact ⟨h0, .inr ⟨H c, by simp, .more ⟨c, hc, rfl, hy⟩ h⟩⟩
    · exact ⟨List.mem_map_of_mem hc, .inl (by simp)⟩
theorem below_gen {l : List Com} (C : Closed H l) {c : Com} (hc : c ∈ l) {x : Idn} (h : x ∈ anc H l c.ps) : gAt H l x < c.gen := by
  rw [mem_anc] at h
  rw [← gAt_of C.nodup hc]
  rcases h.2 with h | ⟨y, hy, h⟩
  · exact par_gen C ⟨c, hc, rfl, h⟩
  · exact kn_gen C (.more ⟨c, hc, rfl, hy⟩ h)
theorem not_below {l : List Com} (C : Closed H l) {c : Com} (hc : c ∈ l) : H c ∉ anc H l c.ps := fun h => by
  have := below_gen C hc h
  rw [gAt_of C.nodup hc] at this
  omega
theorem part_len {l : List Com} (C : Closed H l) (a : List Idn) : (part H l (· ∈ anc H l a)).length = (anc H l a).length := by
  have h1 := part_nodup C (· ∈ anc H l a)
  have h2 := perm_of h1 (rising_nodup (rising_anc (H := H) l a)) fun x => by
    rw [mem_map]
    exact ⟨fun h => h.2, fun h => ⟨anc_in x h, h⟩⟩
  have := h2.length_eq
  rwa [List.length_map] at this
theorem closed_anc {l : List Com} (C : Closed H l) (a : List Idn) : Closed H (part H l (· ∈ anc H l a)) := closed_part C fun c hc h b hb => by
  have h : H c ∈ anc H l a := h
  show b ∈ anc H l a
  rw [mem_anc] at h ⊢
  exact below_down C a c hc h b hb
theorem part_all (l : List Com) : part H l (· ∈ l.map H) = l := by
  unfold part
  rw [List.filter_eq_self]
  intro c hc
  simp only [decide_eq_true_eq]
  exact List.mem_map_of_mem hc
theorem part_nil (l : List Com) : part H l (· ∈ ([] : List Idn)) = [] := by simp [part]
/-- In another order what is closed is closed. -/
theorem kn_perm {l m : List Com} (h : ∀ c, c ∈ l ↔ c ∈ m) {a b : Idn} (k : Kn H l a b) : Kn H m a b := by
  induction k with
  | one k => obtain ⟨c, hc, e, hb⟩ := k; exact .one ⟨c, (h c).1 hc, e, hb⟩
  | more k _ ih => obtain ⟨c, hc, e, hb⟩ := k; exact .more ⟨c, (h c).1 hc, e, hb⟩ ih
theorem closed_perm {l m : List Com} (C : Closed H l) (h : l.Perm m) : Closed H m := by
  have hm : ∀ c, c ∈ l ↔ c ∈ m := fun c => h.mem_iff
  have hm' : ∀ c, c ∈ m ↔ c ∈ l := fun c => (hm c).symm
  have hn : (m.map H).Nodup := (h.map H).nodup_iff.1 C.nodup
  have hg : ∀ a ∈ l.map H, gAt H m a = gAt H l a := fun a ha => by
    obtain ⟨c, hc, rfl⟩ := List.mem_map.1 ha
    rw [gAt_of hn ((hm c).1 hc), gAt_of C.nodup hc]
  refine ⟨fun c hc => C.may c ((hm c).2 hc), fun c hc => C.merge c ((hm c).2 hc), hn, fun c hc a ha => ?_, fun c hc => ?_, fun c hc a ha b hb k => C.apart c ((hm c).2 hc) a ha b hb (kn_perm hm' k), fun c hc d hd hne hnode => ?_⟩
  · exact (h.map H).mem_iff.1 (C.found c ((hm c).2 hc) a ha)
  · rw [C.gen c ((hm c).2 hc)]
    congr 2
    exact List.map_congr_left fun a ha => (hg a (C.found c ((hm c).2 hc) a ha)).symm
  · obtain ⟨h1, h2⟩ := C.node c ((hm c).2 hc) d ((hm d).2 hd) hne hnode
    exact ⟨h1, fun hs => kn_perm hm (h2 hs)⟩
/-- By rising generations, those of the same by rising ids. -/
def Ahead (H : Com → Idn) (c d : Com) : Prop := c.gen < d.gen ∨ c.gen = d.gen ∧ less (H c) (H d) = true
def InOrder (H : Com → Idn) (l : List Com) : Prop := l.Pairwise (Ahead H)
theorem ahead_asymm {c d : Com} (h : Ahead H c d) (k : Ahead H d c) : False := by
  rcases h with h | ⟨h, h'⟩ <;> rcases k with k | ⟨k, k'⟩
  · omega
  · omega
  · omega
  · rw [less_asymm h'] at k'; cases k'
theorem order_uniq : ∀ {r s : List Com}, InOrder H r → InOrder H s → (∀ x, x ∈ r ↔ x ∈ s) → r = s
  | [], [], _, _, _ => rfl
  | [], y :: s, _, _, h => absurd ((h y).2 (by simp)) (by simp)
  | x :: r, [], _, _, h => absurd ((h x).1 (by simp)) (by simp)
  | x :: r, y :: s, hr, hs, h => by
    unfold InOrder at hr hs
    rw [List.pairwise_cons] at hr hs
    have hxy : x = y := by
      have h1 : x ∈ y :: s := (h x).1 (by simp)
      have h2 : y ∈ x :: r := (h y).2 (by simp)
      rcases List.mem_cons.1 h1 with h1 | h1
      · exact h1
      · rcases List.mem_cons.1 h2 with h2 | h2
        · exact h2.symm
        · exact (ahead_asymm (hs.1 x h1) (hr.1 y h2)).elim
    subst hxy
    have ne : ∀ {z : Com}, Ahead H x z → z ≠ x := fun hz e => by subst e; exact ahead_asymm hz hz
    have key : ∀ z, z ∈ r ↔ z ∈ s := fun z =>
      ⟨fun hz => (List.mem_cons.1 ((h z).1 (List.mem_cons_of_mem _ hz))).resolve_left (ne (hr.1 z hz)),
       fun hz => (List.mem_cons.1 ((h z).2 (List.mem_cons_of_mem _ hz))).resolve_left (ne (hs.1 z hz))⟩
    rw [order_uniq hr.2 hs.2 key]
theorem part_pre {t d : List Com} (hn : ((t ++ d).map H).Nodup) : part H (t ++ d) (· ∈ t.map H) = t := by
  rw [List.map_append, List.nodup_append] at hn
  unfold part
  rw [List.filter_append, List.filter_eq_self.2, List.filter_eq_nil_iff.2, List.append_nil]
  · intro c hc h
    simp only [decide_eq_true_eq] at h
    exact hn.2.2 _ h _ (List.mem_map_of_mem hc) rfl
  · intro c hc
    simp only [decide_eq_true_eq]
    exact List.mem_map_of_mem hc
/-- The beginning of sorted closed commits is closed. -/
theorem closed_take {l : List Com} (C : Closed H l) (ho : InOrder H l) (i : Nat) : Closed H (l.take i) := by
  have hp : l.take i = part H l (· ∈ (l.take i).map H) := by
    have hn := C.nodup
    have := part_pre (H := H) (t := l.take i) (d := l.drop i) (by rw [List.take_append_drop]; exact hn)
    rw [List.take_append_drop] at this
    exact this.symm
  rw [hp]
  refine closed_part C fun c hc h b hb => ?_
  have hcb := par_gen C ⟨c, hc, rfl, hb⟩
  obtain ⟨d, hd, e⟩ := List.mem_map.1 (C.found c hc b hb)
  rw [gAt_of C.nodup hc, ← e, gAt_of C.nodup hd] at hcb
  have hc' : c ∈ l.take i := by
    obtain ⟨c', h1, h2⟩ := List.mem_map.1 h
    rwa [← same_of C.nodup (List.mem_of_mem_take h1) hc h2]
  rw [← e]
  refine List.mem_map_of_mem ?_
  rw [← List.take_append_drop i l] at hd
  rcases List.mem_append.1 hd with hd | hd
  · exact hd
  · have ho' := ho
    unfold InOrder at ho'
    rw [← List.take_append_drop i l, List.pairwise_append] at ho'
    rcases ho'.2.2 c hc' d hd with h | h <;> omega
end
end Go.Proofs.YtechkdhehipliaaGreatDoor.DgM
