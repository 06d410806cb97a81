/- Plain facts on clocks: of commits that are closed, the greatest Seq of each Node tells all that is known. No condition. -/
import Derived.Test.YtgoapaanmcmlmaaGreatDoorDgMJ2
namespace Go.Proofs.YtgoapaanmcmlmaaGreatDoor.DgX
set_option maxRecDepth 100000
open IdM CmM DgM
open Classical
section
variable {H : Com → Idn}
theorem most_nonneg (l : List Int) : 0 ≤ most l := (foldl_max l 0).1
theorem most_mem (l : List Int) : most l = 0 ∨ most l ∈ l := (foldl_max l 0).2.2
theorem most_le {l : List Int} {m : Int} (h0 : 0 ≤ m) (h : ∀ x ∈ l, x ≤ m) : most l ≤ m := by
 rcases most_mem l with e | e
 · omega
 · exact h _ e
theorem most_snoc (l : List Int) (x : Int) : most (l ++ [x]) = max (most l) x := by
 unfold most
 rw [List.foldl_append]
 rfl
theorem most_congr {l m : List Int} (h : ∀ x, x ∈ l ↔ x ∈ m) : most l = most m := by
 have h1 := most_le (most_nonneg m) fun x hx => le_most ((h x).1 hx)
 have h2 := most_le (most_nonneg l) fun x hx => le_most ((h x).2 hx)
 omega
noncomputable def top (l : List Com) (p : Com → Prop) (n : Int) : Int := most ((l.filter fun d => decide (p d ∧ d.node = n)).map (·.seq))
theorem top_nonneg (l : List Com) (p : Com → Prop) (n : Int) : 0 ≤ top l p n := most_nonneg _
theorem le_top {l : List Com} {p : Com → Prop} {d : Com} (hd : d ∈ l) (hp : p d) : d.seq ≤ top l p d.node := by
 unfold top
 exact le_most (List.mem_map_of_mem (f := (·.seq)) (List.mem_filter.2 ⟨hd, decide_eq_true ⟨hp, rfl⟩⟩))
theorem top_mem (l : List Com) (p : Com → Prop) (n : Int) : top l p n = 0 ∨ ∃ d ∈ l, p d ∧ d.node = n ∧ d.seq = top l p n := by
 rcases most_mem ((l.filter fun d => decide (p d ∧ d.node = n)).map (·.seq)) with e | e
 · exact .inl e
 · obtain ⟨d, hd, e2⟩ := List.mem_map.1 e
   obtain ⟨h1, h2⟩ := List.mem_filter.1 hd
   obtain ⟨h2, h3⟩ := of_decide_eq_true h2
   exact .inr ⟨d, h1, h2, h3, e2⟩
theorem top_le {l : List Com} {p : Com → Prop} {n m : Int} (h0 : 0 ≤ m) (h : ∀ d ∈ l, p d → d.node = n → d.seq ≤ m) : top l p n ≤ m := by
 rcases top_mem l p n with e | ⟨d, hd, hp, hn, e⟩
 · omega
 · rw [← e]; exact h d hd hp hn
theorem top_congr {l : List Com} {p q : Com → Prop} (h : ∀ d ∈ l, p d ↔ q d) (n : Int) : top l p n = top l q n := by
 unfold top
 congr 2
 apply List.filter_congr
 intro d hd
 simp only [h d hd]
def Beh (H : Com → Idn) (l : List Com) (c d : Com) : Prop := d = c ∨ Kn H l (H c) (H d)
noncomputable def seen (H : Com → Idn) (l : List Com) (c : Com) (n : Int) : Int := top l (Beh H l c) n
theorem seq_pos {c : Com} (h : mayK c = true) (hm : isM c = false) : 1 ≤ c.seq ∧ 0 ≤ c.node ∧ c.node < 8 := by
 rcases mayK_iff.1 h with ⟨h1, h2 | ⟨h2, _⟩⟩
 · rw [isM_iff.2 ⟨h1, h2⟩] at hm; cases hm
 · have := StM.eventB_iff.1 h2; omega
theorem seen_iff {l : List Com} (C : Closed H l) {c d : Com} (_hc : c ∈ l) (hd : d ∈ l) : d.seq ≤ seen H l c d.node ↔ Beh H l c d := by
 constructor
 · intro h
   have hp := seq_pos (C.may d hd) (C.merge d hd)
   rcases top_mem l (Beh H l c) d.node with e | ⟨m, hm, hb, hn, e⟩
   · unfold seen at h; omega
   · unfold seen at h
     by_cases e2 : m = d
     · rw [← e2]; exact hb
     · obtain ⟨k1, k2⟩ := C.node m hm d hd e2 hn
       have := k2 (by omega)
       rcases hb with rfl | hb
       · exact .inr this
       · exact .inr (hb.trans this)
 · exact fun h => le_top hd h
theorem any_iff {l : List Com} (C : Closed H l) {q : Com → Prop} {d : Com} (hd : d ∈ l) : d.seq ≤ top l (fun e => ∃ c ∈ l, q c ∧ Beh H l c e) d.node ↔ ∃ c ∈ l, q c ∧ Beh H l c d := by
 constructor
 · intro h
   have hp := seq_pos (C.may d hd) (C.merge d hd)
   rcases top_mem l (fun e => ∃ c ∈ l, q c ∧ Beh H l c e) d.node with e | ⟨m, hm, ⟨c, hc, hq, hb⟩, hn, e⟩
   · omega
   · refine ⟨c, hc, hq, ?_⟩
     refine (seen_iff C hc hd).1 ?_
     have := le_top (l := l) (p := Beh H l c) hm hb
     rw [hn, e] at this
     unfold seen
     omega
 · exact fun h => le_top (p := fun e => ∃ c ∈ l, q c ∧ Beh H l c e) hd h
theorem look_none {l : List Com} {a : Idn} : DgM.look H l a = none ↔ a ∉ l.map H := by
 unfold DgM.look
 rw [List.find?_eq_none]
 constructor
 · intro h hm
   obtain ⟨c, hc, e⟩ := List.mem_map.1 hm
   exact h c hc (by simpa using e)
 · intro h c hc e
   exact h (List.mem_map.2 ⟨c, hc, by simpa using e⟩)
theorem look_mem {l : List Com} {a : Idn} {c : Com} (h : DgM.look H l a = some c) : c ∈ l ∧ H c = a := by
 unfold DgM.look at h
 exact ⟨List.mem_of_find?_eq_some h, by simpa using List.find?_some h⟩
theorem look_snoc_old {P : List Com} {c : Com} {a : Idn} (h : a ≠ H c) : DgM.look H (P ++ [c]) a = DgM.look H P a := by
 unfold DgM.look
 rw [List.find?_append]
 have : [c].find? (fun d => decide (H d = a)) = none := by
   rw [List.find?_eq_none]
   intro x hx
   rw [List.mem_singleton] at hx
   subst hx
   simp [Ne.symm h]
 rw [this]
 simp
section
variable {P : List Com} {c : Com} (hf : ∀ d ∈ P, ∀ a ∈ d.ps, a ∈ P.map H) (hn : H c ∉ P.map H)
include hf hn
theorem kn_old {a b : Idn} (ha : a ∈ P.map H) : Kn H (P ++ [c]) a b ↔ Kn H P a b ∧ b ∈ P.map H := by
 constructor
 · intro h
   induction h with
   | one h =>
     obtain ⟨d, hd, rfl, hb⟩ := h
     rcases List.mem_append.1 hd with hd | hd
     · exact ⟨.one ⟨d, hd, rfl, hb⟩, hf d hd _ hb⟩
     · rw [List.mem_singleton] at hd; subst hd; exact absurd ha hn
   | more h _ ih =>
     obtain ⟨d, hd, rfl, hb⟩ := h
     rcases List.mem_append.1 hd with hd | hd
     · have := ih (hf d hd _ hb)
       exact ⟨.more ⟨d, hd, rfl, hb⟩ this.1, this.2⟩
     · rw [List.mem_singleton] at hd; subst hd; exact absurd ha hn
 · rintro ⟨h, -⟩
   clear ha
   induction h with
   | one h => obtain ⟨d, hd, e, hb⟩ := h; exact .one ⟨d, List.mem_append_left _ hd, e, hb⟩
   | more h k ih =>
     obtain ⟨d, hd, e, hb⟩ := h
     exact .more ⟨d, List.mem_append_left _ hd, e, hb⟩ ih
theorem kn_new {b : Idn} (hp : ∀ a ∈ c.ps, a ∈ P.map H) : Kn H (P ++ [c]) (H c) b ↔ b ∈ c.ps ∨ ∃ a ∈ c.ps, Kn H P a b ∧ b ∈ P.map H := by
 have hc : ∀ {d : Com}, d ∈ P ++ [c] → H d = H c → d = c := fun {d} hd e => by
   rcases List.mem_append.1 hd with hd | hd
   · exact absurd (by rw [← e]; exact List.mem_map_of_mem hd) hn
   · exact List.mem_singleton.1 hd
 constructor
 · intro h
   cases h with
   | one h =>
     obtain ⟨d, hd, e, hb⟩ := h
     rw [hc hd e] at hb
     exact .inl hb
   | more h k =>
     obtain ⟨d, hd, e, hb⟩ := h
     rw [hc hd e] at hb
     exact .inr ⟨_, hb, (kn_old hf hn (hp _ hb)).1 k⟩
 · rintro (h | ⟨a, ha, h⟩)
   · exact .one ⟨c, by simp, rfl, h⟩
   · exact .more ⟨c, by simp, rfl, ha⟩ ((kn_old hf hn (hp _ ha)).2 h)
end
noncomputable def views (H : Com → Idn) (P : List Com) (a : Idn) : Option (Com × (Int → Int)) := (DgM.look H P a).map fun c => (c, seen H P c)
theorem views_some {P : List Com} {a : Idn} {v : Com × (Int → Int)} (h : views H P a = some v) : v.1 ∈ P ∧ H v.1 = a ∧ v.2 = seen H P v.1 := by
 unfold views at h
 rw [Option.map_eq_some_iff] at h
 obtain ⟨c, hc, rfl⟩ := h
 obtain ⟨h1, h2⟩ := look_mem hc
 exact ⟨h1, h2, rfl⟩
theorem views_of {P : List Com} (C : Closed H P) {c : Com} (hc : c ∈ P) : views H P (H c) = some (c, seen H P c) := by
 unfold views
 rw [look_some C.nodup hc]
 rfl
theorem views_none {P : List Com} {a : Idn} : views H P a = none ↔ a ∉ P.map H := by
 unfold views
 rw [Option.map_eq_none_iff, look_none]
def vHas (v u : Com × (Int → Int)) : Prop := u.1.seq ≤ v.2 u.1.node
def vGen (f : Idn → Option (Com × (Int → Int))) (a : Idn) : Int := ((f a).map (·.1.gen)).getD 0
def vSeen (f : Idn → Option (Com × (Int → Int))) (n : Int) (a : Idn) : Int := ((f a).map (·.2 n)).getD 0
structure Tog (f : Idn → Option (Com × (Int → Int))) (ps : List Idn) (g : Int) : Prop where
 there : ∀ a ∈ ps, f a ≠ none
 apart : ∀ (i j : Nat) (a b : Idn), j < i → ps[i]? = some a → ps[j]? = some b → ∀ v u, f a = some v → f b = some u → ¬ vHas u v ∧ ¬ vHas v u
 gen : g = most (ps.map (vGen f)) + 1
def togS (f : Idn → Option (Com × (Int → Int))) (ps : List Idn) (n : Int) : Int := most (ps.map (vSeen f n))
theorem gen_views {P : List Com} {a : Idn} : vGen (views H P) a = gAt H P a := by
 unfold vGen views gAt
 cases DgM.look H P a <;> rfl
theorem seen_views {P : List Com} {n : Int} {c : Com} (C : Closed H P) (hc : c ∈ P) : vSeen (views H P) n (H c) = seen H P c n := by
 unfold vSeen
 rw [views_of C hc]
 rfl
theorem togS_is {P : List Com} (C : Closed H P) {ps : List Idn} (hp : ∀ a ∈ ps, a ∈ P.map H) (n : Int) : togS (views H P) ps n = top P (fun e => ∃ c ∈ P, H c ∈ ps ∧ Beh H P c e) n := by
 have h1 : togS (views H P) ps n ≤ top P (fun e => ∃ c ∈ P, H c ∈ ps ∧ Beh H P c e) n := by
   refine most_le (top_nonneg _ _ _) fun x hx => ?_
   obtain ⟨a, ha, rfl⟩ := List.mem_map.1 hx
   obtain ⟨c, hc, rfl⟩ := List.mem_map.1 (hp a ha)
   rw [seen_views C hc]
   refine top_le (top_nonneg _ _ _) fun d hd hb hn => ?_
   have := le_top (l := P) (p := fun e => ∃ c ∈ P, H c ∈ ps ∧ Beh H P c e) hd ⟨c, hc, ha, hb⟩
   rwa [hn] at this
 have h2 : top P (fun e => ∃ c ∈ P, H c ∈ ps ∧ Beh H P c e) n ≤ togS (views H P) ps n := by
   refine top_le (most_nonneg _) fun d hd hb hn => ?_
   obtain ⟨c, hc, ha, hb⟩ := hb
   have h3 : vSeen (views H P) n (H c) ≤ togS (views H P) ps n := le_most (List.mem_map_of_mem (f := vSeen (views H P) n) ha)
   rw [seen_views C hc] at h3
   have := le_top (l := P) (p := Beh H P c) hd hb
   rw [hn] at this
   unfold seen at h3
   omega
 omega
theorem nodup_at {α : Type} {l : List α} (h : l.Nodup) {i j : Nat} {a : α} (hi : l[i]? = some a) (hj : l[j]? = some a) : i = j := by
 obtain ⟨h1, h1'⟩ := List.getElem?_eq_some_iff.1 hi
 obtain ⟨h2, h2'⟩ := List.getElem?_eq_some_iff.1 hj
 have hp := List.pairwise_iff_getElem.1 (List.nodup_iff_pairwise_ne.1 h)
 rcases Nat.lt_trichotomy i j with k | k | k
 · exact absurd (h1'.trans h2'.symm) (hp i j h1 h2 k)
 · exact k
 · exact absurd (h2'.trans h1'.symm) (hp j i h2 h1 k)
theorem apart_iff {P : List Com} (C : Closed H P) {ps : List Idn} (hp : ∀ a ∈ ps, a ∈ P.map H) (hnd : ps.Nodup) :
   (∀ (i j : Nat) (a b : Idn), j < i → ps[i]? = some a → ps[j]? = some b → ∀ v u, views H P a = some v → views H P b = some u → ¬ vHas u v ∧ ¬ vHas v u) ↔ ∀ a ∈ ps, ∀ b ∈ ps, ¬ Kn H P a b := by
 have key : ∀ {c d : Com}, c ∈ P → d ∈ P → c ≠ d → (vHas (c, seen H P c) (d, seen H P d) ↔ Kn H P (H c) (H d)) := fun {c d} hc hd hne => by
   unfold vHas
   rw [seen_iff C hc hd]
   unfold Beh
   exact ⟨fun h => h.resolve_left hne.symm, .inr⟩
 constructor
 · intro h a ha b hb k
   obtain ⟨i, hi⟩ := List.getElem?_of_mem ha
   obtain ⟨j, hj⟩ := List.getElem?_of_mem hb
   obtain ⟨c, hc, rfl⟩ := List.mem_map.1 (hp a ha)
   obtain ⟨d, hd, rfl⟩ := List.mem_map.1 (hp b hb)
   by_cases hij : i = j
   · subst hij
     rw [hi] at hj
     injection hj with e
     rw [e] at k
     exact kn_irrefl C k
   · have hne : c ≠ d := fun e => hij (by
       subst e
       exact nodup_at hnd hi hj)
     rcases Nat.lt_or_gt_of_ne hij with h1 | h1
     · exact (h j i _ _ h1 hj hi _ _ (views_of C hd) (views_of C hc)).1 ((key hc hd hne).2 k)
     · exact (h i j _ _ h1 hi hj _ _ (views_of C hc) (views_of C hd)).2 ((key hc hd hne).2 k)
 · intro h i j a b hji hi hj v u hv hu
   have ha := List.mem_of_getElem? hi
   have hb := List.mem_of_getElem? hj
   obtain ⟨h1, e1, s1⟩ := views_some hv
   obtain ⟨h2, e2, s2⟩ := views_some hu
   have hne : v.1 ≠ u.1 := fun e => by
     have e3 : a = b := by rw [← e1, ← e2, e]
     subst e3
     have := nodup_at hnd hi hj
     omega
   obtain ⟨vc, vs⟩ := v
   obtain ⟨uc, us⟩ := u
   simp only at h1 e1 s1 h2 e2 s2 hne
   subst s1 s2
   rw [key h2 h1 hne.symm, key h1 h2 hne, e1, e2]
   exact ⟨h b hb a ha, h a ha b hb⟩
noncomputable def last (P : List Com) (n : Int) : Int := top P (fun _ => True) n
theorem rising_of {l : List Idn} (h : risesB l = true) : Rising l := by
 unfold risesB at h
 rw [List.all_eq_true] at h
 have key : ∀ (j i : Nat), i < j → j < l.length → less (l.getD i nought) (l.getD j nought) = true := by
   intro j
   induction j with
   | zero => intro i hi; omega
   | succ j ih =>
     intro i hi hj
     have h1 := h j (by simp; omega)
     rcases Nat.lt_or_ge i j with k | k
     · exact less_trans (ih i k (by omega)) h1
     · rw [show i = j by omega]; exact h1
 unfold Rising
 rw [List.pairwise_iff_getElem]
 intro i j hi hj hij
 have := key j i hij hj
 rwa [List.getD_eq_getElem?_getD, List.getD_eq_getElem?_getD, List.getElem?_eq_getElem hi, List.getElem?_eq_getElem hj] at this
theorem rises_nodup {c : Com} (h : mayK c = true) : c.ps.Nodup := by
 have := (lineB_iff.1 (mayK_iff.1 h).1).2.2.2.1
 exact rising_nodup (rising_of this)
theorem step {P : List Com} {c : Com} (C : Closed H P) (hm : mayK c = true) :
   Closed H (P ++ [c]) ↔ isM c = false ∧ H c ∉ P.map H ∧ Tog (views H P) c.ps c.gen ∧ last P c.node < c.seq ∧ togS (views H P) c.ps c.node = last P c.node := by
 constructor
 · intro D
   have hn : H c ∉ P.map H := fun h => by
     have := D.nodup
     rw [List.map_append, List.nodup_append] at this
     exact this.2.2 _ h (H c) (by simp) rfl
   have hmg := D.merge c (by simp)
   have hp : ∀ a ∈ c.ps, a ∈ P.map H := fun a ha => by
     have h1 := D.found c (by simp) a ha
     rw [List.map_append, List.mem_append] at h1
     refine h1.resolve_right fun h2 => ?_
     simp at h2
     have := par_gen D (a := H c) (b := a) ⟨c, by simp, rfl, ha⟩
     rw [h2] at this
     omega
   have hga : ∀ a ∈ c.ps, gAt H (P ++ [c]) a = gAt H P a := fun a ha => by
     unfold gAt
     rw [look_snoc_old (fun e => hn (by rw [← e]; exact hp a ha))]
   have hnode : ∀ d ∈ P, d.node = c.node → d.seq < c.seq ∧ Kn H (P ++ [c]) (H c) (H d) := fun d hd e => by
     have hne : c ≠ d := fun e => hn (by rw [e]; exact List.mem_map_of_mem hd)
     obtain ⟨k1, k2⟩ := D.node c (by simp) d (List.mem_append_left _ hd) hne e.symm
     obtain ⟨_, k3⟩ := D.node d (List.mem_append_left _ hd) c (by simp) hne.symm e
     by_cases hlt : d.seq < c.seq
     · exact ⟨hlt, k2 hlt⟩
     · have := (kn_old C.found hn (List.mem_map_of_mem hd)).1 (k3 (by omega))
       exact absurd this.2 hn
   have hpos := seq_pos hm hmg
   refine ⟨hmg, hn, ⟨fun a ha h => views_none.1 h (hp a ha), (apart_iff C hp (rises_nodup hm)).2 fun a ha b hb k => ?_, ?_⟩, ?_, ?_⟩
   · exact D.apart c (by simp) a ha b hb ((kn_old C.found hn (hp a ha)).2 ⟨k, hp b hb⟩)
   · rw [D.gen c (by simp), Int.add_comm]
     congr 2
     exact List.map_congr_left fun a ha => by rw [hga a ha, gen_views]
   · unfold last
     rcases top_mem P (fun _ => True) c.node with e | ⟨d, hd, _, e1, e2⟩
     · omega
     · rw [← e2]; exact (hnode d hd e1).1
   · rw [togS_is C hp]
     have h1 : top P (fun e => ∃ d ∈ P, H d ∈ c.ps ∧ Beh H P d e) c.node ≤ last P c.node := top_le (top_nonneg _ _ _) fun d hd _ hn' => by
       have := le_top (l := P) (p := fun _ => True) hd trivial
       rwa [hn'] at this
     have h2 : last P c.node ≤ top P (fun e => ∃ d ∈ P, H d ∈ c.ps ∧ Beh H P d e) c.node := top_le (top_nonneg _ _ _) fun d hd _ hn' => by
       have k := (kn_new C.found hn hp).1 (hnode d hd hn').2
       have hb : ∃ e ∈ P, H e ∈ c.ps ∧ Beh H P e d := by
         rcases k with k | ⟨a, ha, k, _⟩
         · exact ⟨d, hd, k, .inl rfl⟩
         · obtain ⟨e, he, rfl⟩ := List.mem_map.1 (hp a ha)
           exact ⟨e, he, ha, .inr k⟩
       have := le_top (l := P) (p := fun e => ∃ d ∈ P, H d ∈ c.ps ∧ Beh H P d e) hd hb
       rwa [hn'] at this
     omega
 · rintro ⟨hmg, hn, T, hlast, hseen⟩
   have hp : ∀ a ∈ c.ps, a ∈ P.map H := fun a ha => Classical.byContradiction fun h => T.there a ha (views_none.2 h)
   have hap := (apart_iff C hp (rises_nodup hm)).1 T.apart
   have hga : ∀ a, a ∈ P.map H → gAt H (P ++ [c]) a = gAt H P a := fun a ha => by
     unfold gAt
     rw [look_snoc_old (fun e => hn (by rw [← e]; exact ha))]
   have hnode : ∀ d ∈ P, d.node = c.node → d.seq < c.seq ∧ Kn H (P ++ [c]) (H c) (H d) := fun d hd e => by
     have h0 := le_top (l := P) (p := fun _ => True) hd trivial
     have h1 : d.seq ≤ last P c.node := by rw [← e]; exact h0
     refine ⟨by omega, ?_⟩
     rw [← hseen, togS_is C hp, ← e, any_iff (q := fun x => H x ∈ c.ps) C hd] at h1
     obtain ⟨x, hx, ha, hb⟩ := h1
     refine (kn_new C.found hn hp).2 ?_
     rcases hb with rfl | hb
     · exact .inl ha
     · exact .inr ⟨_, ha, hb, List.mem_map_of_mem hd⟩
   refine ⟨fun d hd => ?_, fun d hd => ?_, ?_, fun d hd a ha => ?_, fun d hd => ?_, fun d hd a ha b hb k => ?_, fun d hd e he hne hnd => ?_⟩
   · rcases List.mem_append.1 hd with hd | hd
     · exact C.may d hd
     · rw [List.mem_singleton.1 hd]; exact hm
   · rcases List.mem_append.1 hd with hd | hd
     · exact C.merge d hd
     · rw [List.mem_singleton.1 hd]; exact hmg
   · rw [List.map_append, List.nodup_append]
     refine ⟨C.nodup, by simp, fun a ha b hb e => ?_⟩
     simp at hb
     exact hn (by rw [← hb, ← e]; exact ha)
   · rw [List.map_append]
     rcases List.mem_append.1 hd with hd | hd
     · exact List.mem_append_left _ (C.found d hd a ha)
     · rw [List.mem_singleton.1 hd] at ha; exact List.mem_append_left _ (hp a ha)
   · rcases List.mem_append.1 hd with hd | hd
     · rw [C.gen d hd]
       congr 2
       exact List.map_congr_left fun a ha => (hga a (C.found d hd a ha)).symm
     · rw [List.mem_singleton.1 hd, T.gen, Int.add_comm]
       congr 2
       exact List.map_congr_left fun a ha => by rw [hga a (hp a ha), gen_views]
   · rcases List.mem_append.1 hd with hd | hd
     · exact C.apart d hd a ha b hb ((kn_old C.found hn (C.found d hd a ha)).1 k).1
     · rw [List.mem_singleton.1 hd] at ha hb
       exact hap a ha b hb ((kn_old C.found hn (hp a ha)).1 k).1
   · rcases List.mem_append.1 hd with hd | hd <;> rcases List.mem_append.1 he with he | he
     · obtain ⟨k1, k2⟩ := C.node d hd e he hne hnd
       exact ⟨k1, fun h => (kn_old C.found hn (List.mem_map_of_mem hd)).2 ⟨k2 h, List.mem_map_of_mem he⟩⟩
     · rw [List.mem_singleton.1 he] at hnd ⊢
       have := (hnode d hd hnd).1
       exact ⟨by omega, fun h => absurd h (by omega)⟩
     · rw [List.mem_singleton.1 hd] at hnd ⊢
       have := hnode e he hnd.symm
       exact ⟨by omega, fun _ => this.2⟩
     · rw [List.mem_singleton.1 hd, List.mem_singleton.1 he] at hne
       exact absurd rfl hne
theorem seen_old {P : List Com} {c d : Com} (C : Closed H P) (D : Closed H (P ++ [c])) (hd : d ∈ P) (n : Int) : seen H (P ++ [c]) d n = seen H P d n := by
 obtain ⟨_, hn, _⟩ := (step C (D.may c (by simp))).1 D
 unfold seen top
 have e : (P ++ [c]).filter (fun e => decide (Beh H (P ++ [c]) d e ∧ e.node = n)) = P.filter (fun e => decide (Beh H P d e ∧ e.node = n)) := by
   rw [List.filter_append]
   have h1 : [c].filter (fun e => decide (Beh H (P ++ [c]) d e ∧ e.node = n)) = [] := by
     rw [List.filter_eq_nil_iff]
     intro x hx h
     rw [List.mem_singleton] at hx
     subst hx
     obtain ⟨hb, _⟩ := of_decide_eq_true h
     rcases hb with rfl | hb
     · exact hn (List.mem_map_of_mem hd)
     · exact hn ((kn_old C.found hn (List.mem_map_of_mem hd)).1 hb).2
   rw [h1, List.append_nil]
   apply List.filter_congr
   intro x hx
   have : Beh H (P ++ [c]) d x ↔ Beh H P d x := by
     unfold Beh
     rw [kn_old C.found hn (List.mem_map_of_mem hd)]
     exact ⟨fun h => h.imp id (·.1), fun h => h.imp id fun h => ⟨h, List.mem_map_of_mem hx⟩⟩
   simp only [this]
 rw [e]
theorem last_snoc (P : List Com) (c : Com) (n : Int) : last (P ++ [c]) n = if n = c.node then max (last P n) c.seq else last P n := by
 unfold last top
 rw [List.filter_append]
 by_cases h : n = c.node
 · rw [if_pos h, List.filter_cons_of_pos (by simp [h]), List.filter_nil, List.map_append, List.map_cons, List.map_nil, most_snoc]
 · rw [if_neg h, List.filter_cons_of_neg (by simp [Ne.symm h]), List.filter_nil, List.append_nil]
theorem last_new {P : List Com} {c : Com} (C : Closed H P) (D : Closed H (P ++ [c])) (n : Int) : last (P ++ [c]) n = if n = c.node then c.seq else last P n := by
 obtain ⟨_, _, _, h, _⟩ := (step C (D.may c (by simp))).1 D
 rw [last_snoc]
 by_cases e : n = c.node
 · rw [if_pos e, if_pos e, e]; omega
 · rw [if_neg e, if_neg e]
theorem seen_new {P : List Com} {c : Com} (C : Closed H P) (D : Closed H (P ++ [c])) (n : Int) : seen H (P ++ [c]) c n = if n = c.node then c.seq else togS (views H P) c.ps n := by
 obtain ⟨_, hn, T, hlt, hse⟩ := (step C (D.may c (by simp))).1 D
 have hp : ∀ a ∈ c.ps, a ∈ P.map H := fun a ha => Classical.byContradiction fun h => T.there a ha (views_none.2 h)
 have hbe : ∀ d ∈ P, Beh H (P ++ [c]) c d ↔ ∃ x ∈ P, H x ∈ c.ps ∧ Beh H P x d := fun d hd => by
   have hne : d ≠ c := fun e => hn (by rw [← e]; exact List.mem_map_of_mem hd)
   constructor
   · rintro (e | k)
     · exact absurd e hne
     · rcases (kn_new C.found hn hp).1 k with k | ⟨a, ha, k, _⟩
       · exact ⟨d, hd, k, .inl rfl⟩
       · obtain ⟨x, hx, rfl⟩ := List.mem_map.1 (hp a ha)
         exact ⟨x, hx, ha, .inr k⟩
   · rintro ⟨x, hx, ha, hb⟩
     refine .inr ((kn_new C.found hn hp).2 ?_)
     rcases hb with rfl | hb
     · exact .inl ha
     · exact .inr ⟨_, ha, hb, List.mem_map_of_mem hd⟩
 by_cases e : n = c.node
 · rw [if_pos e]
   subst e
   have h1 : c.seq ≤ seen H (P ++ [c]) c c.node := le_top (by simp) (.inl rfl)
   have h2 : seen H (P ++ [c]) c c.node ≤ c.seq := top_le (by have := (seq_pos (D.may c (by simp)) (D.merge c (by simp))).1; omega) fun d hd _ he => by
     rcases List.mem_append.1 hd with hd | hd
     · have := le_top (l := P) (p := fun _ => True) hd trivial
       rw [he] at this
       unfold last at hlt
       omega
     · rw [List.mem_singleton.1 hd]; omega
   omega
 · rw [if_neg e, togS_is C hp]
   unfold seen top
   rw [List.filter_append, List.filter_cons_of_neg (a := c) (by simp [Ne.symm e]), List.filter_nil, List.append_nil]
   congr 2
   apply List.filter_congr
   intro d hd
   exact decide_eq_decide.2 (and_congr (hbe d hd) Iff.rfl)
theorem views_snoc {P : List Com} {c : Com} (C : Closed H P) (D : Closed H (P ++ [c])) (a : Idn) : views H (P ++ [c]) a = if a = H c then some (c, fun n => if n = c.node then c.seq else togS (views H P) c.ps n) else views H P a := by
 obtain ⟨_, hn, _⟩ := (step C (D.may c (by simp))).1 D
 by_cases e : a = H c
 · rw [if_pos e, e, views_of D (by simp)]
   congr 2
   funext n
   exact seen_new C D n
 · rw [if_neg e]
   unfold views
   rw [look_snoc_old e]
   cases hl : DgM.look H P a with
   | none => rfl
   | some d =>
     simp only [Option.map_some, Option.some.injEq, Prod.mk.injEq, true_and]
     funext n
     exact seen_old C D (look_mem hl).1 n
theorem take_closed {l L : List Com} (hp : L.Perm l) (C : Closed H l) (ho : InOrder H L) (k : Nat) : Closed H (L.take k) := closed_take (closed_perm C hp.symm) ho k
end
end Go.Proofs.YtgoapaanmcmlmaaGreatDoor.DgX
