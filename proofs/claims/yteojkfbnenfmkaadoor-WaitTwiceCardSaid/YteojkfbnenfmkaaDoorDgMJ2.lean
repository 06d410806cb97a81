/- Plain facts on commits that know one another: what is closed, what is known, sorted lists. No condition. | Plain facts on commits that wait: with one more, the first one that is ready, and what is missing. No condition. -/
import Derived.Test.YteojkfbnenfmkaaDoorEvMJ2
namespace Go.Proofs.YteojkfbnenfmkaaDoor.DgM
set_option maxRecDepth 100000
open IdM CmM
open Classical

section
variable {H : Com → Idn}

/-- One has the other as a parent; one knows the other. -/
def Par (H : Com → Idn) (l : List Com) (a b : Idn) : Prop := ∃ c ∈ l, H c = a ∧ b ∈ c.ps
inductive Kn (H : Com → Idn) (l : List Com) : Idn → Idn → Prop
  | one {a b : Idn} : Par H l a b → Kn H l a b
  | more {a b c : Idn} : Par H l a b → Kn H l b c → Kn H l a c
theorem Kn.trans {l : List Com} {a b c : Idn} (h : Kn H l a b) (k : Kn H l b c) : Kn H l a c := by
  induction h with
  | one h => exact .more h k
  | more h _ ih => exact .more h (ih k)
/-- What some know, and they. -/
def Below (H : Com → Idn) (l : List Com) (a : List Idn) (x : Idn) : Prop := x ∈ l.map H ∧ (x ∈ a ∨ ∃ y ∈ a, Kn H l y x)
end
end Go.Proofs.YteojkfbnenfmkaaDoor.DgM
namespace Go.Proofs.YteojkfbnenfmkaaDoor.WtM
set_option maxRecDepth 100000
open IdM CmM DgM
open Classical

section
variable (H : Com → Idn)
/-- May a commit wait? -/
def waitB (c : Com) : Bool := mayK c && !isM c
/-- Commits that wait, with one more. -/
noncomputable def putW (l : List Com) (c : Com) : List Com := if waitB c = true ∧ c ∉ l then (l ++ [c]).drop (l.length + 1 - 8) else l
/-- Is all there that a commit knows? -/
def freeB (h : List Idn) (c : Com) : Bool := decide (∀ a ∈ c.ps, a ∈ h)
/-- Where the first one stands that is ready; that one; the others. -/
def readyI (l : List Com) (h : List Idn) : Option Nat := l.findIdx? (freeB h)
def readyC (l : List Com) (h : List Idn) : Com := match readyI l h with
  | some i => l.getD i noK
  | none => noK
def readyR (l : List Com) (h : List Idn) : List Com := match readyI l h with
  | some i => l.take i ++ l.drop (i + 1)
  | none => l
/-- What is missing. -/
def knownW (l : List Com) (h : List Idn) : List Idn := h ++ (l.filter fun c => mayK c).map H
def missW (l : List Com) (h : List Idn) : List Idn := without (l.flatMap (·.ps)) (knownW H l h)
end
theorem without_nil_iff (a b : List Idn) : without a b = [] ↔ ∀ x ∈ a, x ∈ b := by
  constructor
  · intro h x hx
    refine Classical.byContradiction fun hn => ?_
    have := (mem_without x a b).2 ⟨hx, hn⟩
    rw [h] at this
    cases this
  · intro h
    refine List.eq_nil_iff_forall_not_mem.2 fun x hx => ?_
    obtain ⟨h1, h2⟩ := (mem_without x a b).1 hx
    exact h2 (h x h1)
theorem freeB_iff {h : List Idn} {c : Com} : freeB h c = true ↔ without c.ps h = [] := by
  unfold freeB
  rw [decide_eq_true_eq, without_nil_iff]
theorem readyI_some {l : List Com} {h : List Idn} {i : Nat} (e : readyI l h = some i) : ∃ c, l[i]? = some c ∧ freeB h c = true ∧ (∀ j d, j < i → l[j]? = some d → freeB h d = false) ∧ readyC l h = c ∧ readyR l h = l.take i ++ l.drop (i + 1) := by
  have e' := e
  unfold readyI at e
  rw [List.findIdx?_eq_some_iff_getElem] at e
  obtain ⟨h1, h2, h3⟩ := e
  refine ⟨l[i], List.getElem?_eq_getElem h1, h2, fun j d hj hd => ?_, ?_, ?_⟩
  · obtain ⟨hl, rfl⟩ := List.getElem?_eq_some_iff.1 hd
    have := h3 j hj
    simpa using this
  · unfold readyC
    rw [e']
    simp [List.getD_eq_getElem?_getD, List.getElem?_eq_getElem h1]
  · unfold readyR
    rw [e']
theorem readyI_of {l : List Com} {h : List Idn} {i : Nat} {c : Com} (hi : l[i]? = some c) (hf : freeB h c = true) (hb : ∀ j d, j < i → l[j]? = some d → freeB h d = false) : readyI l h = some i := by
  unfold readyI
  rw [List.findIdx?_eq_some_iff_getElem]
  obtain ⟨h1, rfl⟩ := List.getElem?_eq_some_iff.1 hi
  refine ⟨h1, hf, fun j hj => ?_⟩
  have := hb j _ hj (List.getElem?_eq_getElem (by omega))
  simpa using this
theorem readyI_none {l : List Com} {h : List Idn} (e : readyI l h = none) : (∀ c ∈ l, freeB h c = false) ∧ readyC l h = noK ∧ readyR l h = l := by
  have e' := e
  unfold readyI at e
  rw [List.findIdx?_eq_none_iff] at e
  refine ⟨fun c hc => by simpa using e c hc, ?_, ?_⟩
  · unfold readyC
    rw [e']
  · unfold readyR
    rw [e']
theorem readyI_no {l : List Com} {h : List Idn} (e : ∀ c ∈ l, freeB h c = false) : readyI l h = none := by
  unfold readyI
  rw [List.findIdx?_eq_none_iff]
  exact fun c hc => by simpa using e c hc
theorem putW_no {l : List Com} {c : Com} (h : waitB c = false ∨ c ∈ l) : putW l c = l := by
  unfold putW
  rw [if_neg]
  rintro ⟨h1, h2⟩
  rcases h with h | h
  · rw [h] at h1; cases h1
  · exact h2 h
theorem putW_yes {l : List Com} {c : Com} (h : waitB c = true) (hn : c ∉ l) : putW l c = (l ++ [c]).drop (l.length + 1 - 8) := by
  unfold putW
  rw [if_pos ⟨h, hn⟩]
theorem putW_len (l : List Com) (c : Com) (hl : l.length ≤ 8) : l.length ≤ (putW l c).length ∧ (putW l c).length ≤ 8 := by
  by_cases h : waitB c = true ∧ c ∉ l
  · rw [putW_yes h.1 h.2, List.length_drop, List.length_append, List.length_singleton]
    omega
  · unfold putW
    rw [if_neg h]
    omega
/-- At most eight that wait, and one more: which ones stand yet, and where the new one does. -/
theorem putW_split {l : List Com} {c : Com} (h : waitB c = true) (hn : c ∉ l) (hl : l.length ≤ 8) : putW l c = l.drop (l.length + 1 - (putW l c).length) ++ [c] := by
  have e := putW_yes h hn
  have hd : (l ++ [c]).drop (l.length + 1 - 8) = l.drop (l.length + 1 - 8) ++ [c] := List.drop_append_of_le_length (by omega)
  rw [hd] at e
  have hle : l.length + 1 - (putW l c).length = l.length + 1 - 8 := by
    rw [e, List.length_append, List.length_drop, List.length_singleton]
    omega
  rw [hle]
  exact e
/-- Few that wait, and one more. -/
theorem putW_few {l : List Com} {c : Com} (h : waitB c = true) (hn : c ∉ l) (hl : l.length ≤ 7) : putW l c = l ++ [c] := by
  rw [putW_yes h hn, show l.length + 1 - 8 = 0 by omega, List.drop_zero]
/-- All of some commits put, one behind the other. -/
noncomputable def allW (l : List Com) : List Com := l.foldl putW []
theorem allW_gen : ∀ (l w : List Com), w.Nodup → (∀ c ∈ w, waitB c = true) → w.length + l.length ≤ 7 → (l.foldl putW w).Nodup ∧ (∀ c ∈ l.foldl putW w, waitB c = true) ∧ (l.foldl putW w).length ≤ w.length + l.length ∧ (∀ c ∈ w, c ∈ l.foldl putW w) ∧ ∀ c ∈ l, waitB c = true → c ∈ l.foldl putW w
  | [], w, hn, hw, hl => ⟨hn, hw, by simp, fun _ h => h, by simp⟩
  | c :: l, w, hn, hw, hl => by
    simp only [List.length_cons] at hl
    rw [List.foldl_cons]
    by_cases h : waitB c = true ∧ c ∉ w
    · have e := putW_few h.1 h.2 (show w.length ≤ 7 by omega)
      rw [e]
      have hnd : (w ++ [c]).Nodup := by
        rw [List.nodup_append]
        exact ⟨hn, by simp, fun a ha b hb e => h.2 (by rw [← List.mem_singleton.1 hb, ← e]; exact ha)⟩
      obtain ⟨h1, h2, h3, h4, h5⟩ := allW_gen l (w ++ [c]) hnd (fun d hd => by
        rcases List.mem_append.1 hd with hd | hd
        · exact hw d hd
        · rw [List.mem_singleton.1 hd]; exact h.1) (by simp; omega)
      refine ⟨h1, h2, by simp at h3 ⊢; omega, fun d hd => h4 d (by simp [hd]), fun d hd hf => ?_⟩
      rcases List.mem_cons.1 hd with rfl | hd
      · exact h4 d (by simp)
      · exact h5 d hd hf
    · have e : putW w c = w := by
        refine putW_no ?_
        by_cases hc : c ∈ w
        · exact .inr hc
        · exact .inl (by cases hq : waitB c with
            | false => rfl
            | true => exact absurd ⟨hq, hc⟩ h)
      rw [e]
      obtain ⟨h1, h2, h3, h4, h5⟩ := allW_gen l w hn hw (by omega)
      refine ⟨h1, h2, by simp; omega, h4, fun d hd hf => ?_⟩
      rcases List.mem_cons.1 hd with rfl | hd
      · refine h4 d (Classical.byContradiction fun hc => h ⟨hf, hc⟩)
      · exact h5 d hd hf
theorem allW_is {l : List Com} (hl : l.length ≤ 7) : (allW l).Nodup ∧ (∀ c ∈ allW l, waitB c = true) ∧ (allW l).length ≤ 7 ∧ ∀ c ∈ l, putW (allW l) c = allW l := by
  obtain ⟨h1, h2, h3, _, h5⟩ := allW_gen l [] (by simp) (by simp) (by simpa using hl)
  refine ⟨h1, h2, by unfold allW; simp at h3; omega, fun c hc => putW_no ?_⟩
  cases hq : waitB c with
  | false => exact .inl rfl
  | true => exact .inr (h5 c hc hq)
/-- What is taken out and put in again stands behind the others. -/
theorem again {w : List Com} (hn : w.Nodup) (hw : ∀ c ∈ w, waitB c = true) (hl : w.length ≤ 7) {h : List Idn} {i : Nat} (e : readyI w h = some i) : putW (readyR w h) (readyC w h) = readyR w h ++ [readyC w h] ∧ (readyR w h).length + 1 = w.length := by
  obtain ⟨c, hc, _, _, h4, h5⟩ := readyI_some e
  obtain ⟨hlt, rfl⟩ := List.getElem?_eq_some_iff.1 hc
  rw [h4, h5]
  have hlen : (w.take i ++ w.drop (i + 1)).length + 1 = w.length := by
    rw [List.length_append, List.length_take, List.length_drop]
    omega
  refine ⟨putW_few (hw _ (List.getElem_mem _)) (fun hm => ?_) (by omega), hlen⟩
  have hq := hn
  rw [← List.take_append_drop i w, List.drop_eq_getElem_cons hlt, List.nodup_append, List.nodup_cons] at hq
  rcases List.mem_append.1 hm with hm | hm
  · exact hq.2.2 _ hm _ List.mem_cons_self rfl
  · exact hq.2.1.1 hm
theorem mem_missW {H : Com → Idn} {l : List Com} {h : List Idn} {a : Idn} : a ∈ missW H l h ↔ (∃ c ∈ l, a ∈ c.ps) ∧ a ∉ h ∧ ¬ ∃ c ∈ l, mayK c = true ∧ H c = a := by
  unfold missW knownW
  rw [mem_without, List.mem_flatMap, List.mem_append, not_or, List.mem_map]
  refine and_congr Iff.rfl (and_congr Iff.rfl (not_congr ⟨?_, ?_⟩))
  · rintro ⟨c, hc, rfl⟩
    obtain ⟨h1, h2⟩ := List.mem_filter.1 hc
    exact ⟨c, h1, h2, rfl⟩
  · rintro ⟨c, h1, h2, rfl⟩
    exact ⟨c, List.mem_filter.2 ⟨h1, h2⟩, rfl⟩
theorem rising_missW (H : Com → Idn) (l : List Com) (h : List Idn) : Rising (missW H l h) := rising_without _ _
end Go.Proofs.YteojkfbnenfmkaaDoor.WtM
