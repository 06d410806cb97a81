/- Plain facts on the last ones of closed commits: heads, what is joined, what comes next. No condition. | Plain facts on what is joined, on heads, on what comes next. No condition. | Plain facts on the state of commits: what it has, in whatever order they stand; behind one more; of two lists together. No condition. | Plain facts on the state of commits: which register a key has, which pairs are there, what a key counts, and of how many entries it is. No condition. -/
import Derived.Test.YtgmdhaepiclkcaaGreatDoorDgX
import Derived.Test.YtgmdhaepiclkcaaGreatDoorPairMJ4
namespace Go.Proofs.YtgmdhaepiclkcaaGreatDoor.FrM
set_option maxRecDepth 100000
open IdM CmM DgM DgX
open Classical
section
variable {H : Com → Idn}
def Last (l : List Com) (x : Idn) : Prop := ∀ c ∈ l, x ∉ c.ps
noncomputable def front (H : Com → Idn) (l : List Com) : List Idn := sort ((l.map H).filter fun x => decide (Last l x))
theorem mem_front {l : List Com} {x : Idn} : x ∈ front H l ↔ x ∈ l.map H ∧ Last l x := by
 unfold front
 rw [mem_sort, List.mem_filter, decide_eq_true_eq]
theorem rising_front (l : List Com) : Rising (front H l) := rising_sort _
theorem last_iff {l : List Com} {x : Idn} : Last l x ↔ ∀ y, ¬ Kn H l y x := by
 constructor
 · intro h y k
   induction k with
   | one k => obtain ⟨c, hc, _, hx⟩ := k; exact h c hc hx
   | more _ _ ih => exact ih h
 · intro h c hc hx
   exact h (H c) (.one ⟨c, hc, rfl, hx⟩)
theorem greatest {α : Type} (g : α → Int) : ∀ (l : List α), l ≠ [] → ∃ a ∈ l, ∀ b ∈ l, g b ≤ g a
 | [], h => absurd rfl h
 | [a], _ => ⟨a, by simp, fun b hb => by rw [List.mem_singleton.1 hb]; exact Int.le_refl _⟩
 | a :: b :: l, _ => by
   obtain ⟨c, hc, h⟩ := greatest g (b :: l) (by simp)
   by_cases e : g a ≤ g c
   · exact ⟨c, List.mem_cons_of_mem _ hc, fun d hd => by
       rcases List.mem_cons.1 hd with rfl | hd
       · exact e
       · exact h d hd⟩
   · exact ⟨a, by simp, fun d hd => by
       rcases List.mem_cons.1 hd with rfl | hd
       · exact Int.le_refl _
       · have := h d hd; omega⟩
theorem last_above {l : List Com} (C : Closed H l) {x : Idn} (hx : x ∈ l.map H) : ∃ y ∈ front H l, y = x ∨ Kn H l y x := by
 have hne : (l.map H).filter (fun y => decide (y = x ∨ Kn H l y x)) ≠ [] := by
   intro e
   have : x ∈ (l.map H).filter (fun y => decide (y = x ∨ Kn H l y x)) := List.mem_filter.2 ⟨hx, decide_eq_true (.inl rfl)⟩
   rw [e] at this
   cases this
 obtain ⟨y, hy, hm⟩ := greatest (gAt H l) _ hne
 obtain ⟨h1, h2⟩ := List.mem_filter.1 hy
 have h2 := of_decide_eq_true h2
 refine ⟨y, mem_front.2 ⟨h1, (last_iff (H := H)).2 fun z k => ?_⟩, h2⟩
 have hz : z ∈ (l.map H).filter (fun y => decide (y = x ∨ Kn H l y x)) := List.mem_filter.2 ⟨kn_src k, decide_eq_true (.inr (by
   rcases h2 with rfl | h2
   · exact k
   · exact k.trans h2))⟩
 have h3 := hm z hz
 have h4 := kn_gen C k
 omega
theorem pigeon : ∀ (n : Nat) (l : List Int), l.Nodup → (∀ x ∈ l, 0 ≤ x ∧ x < n) → l.length ≤ n
 | 0, l, _, h => by
   cases l with
   | nil => exact Nat.le_refl _
   | cons x l => have := h x (by simp); omega
 | n + 1, l, hn, h => by
   have h1 := pigeon n (l.erase n) (hn.erase _) fun x hx => by
     have h2 := h x (List.mem_of_mem_erase hx)
     have h3 : x ≠ n := fun e => by
       rw [e] at hx
       exact (List.Nodup.not_mem_erase hn) hx
     omega
   have h4 := List.length_erase_le (a := (n : Int)) (l := l)
   by_cases hm : (n : Int) ∈ l
   · rw [List.length_erase_of_mem hm] at h1
     omega
   · rw [List.erase_of_not_mem hm] at h1
     omega
theorem short_of {l : List Int} : ∀ {m : List Int}, l.Nodup → (∀ x ∈ l, x ∈ m) → l.length ≤ m.length := by
 induction l with
 | nil => intro m _ _; exact Nat.zero_le _
 | cons x l ih =>
   intro m hn h
   rw [List.nodup_cons] at hn
   have h1 := ih (m := m.erase x) hn.2 fun y hy => by
     have hne : y ≠ x := fun e => hn.1 (by rw [← e]; exact hy)
     exact (List.mem_erase_of_ne hne).2 (h y (List.mem_cons_of_mem _ hy))
   have hx := h x (by simp)
   rw [List.length_erase_of_mem hx] at h1
   have := List.length_pos_of_mem hx
   simp only [List.length_cons]
   omega
theorem gen_len {l : List Com} (C : Closed H l) : ∀ c ∈ l, 1 ≤ c.gen ∧ c.gen ≤ l.length := by
 have low : ∀ c ∈ l, 1 ≤ c.gen := fun c hc => by
   have := C.gen c hc
   have := most_nonneg (c.ps.map (gAt H l))
   omega
 have down : ∀ (n : Nat) (c : Com), c ∈ l → c.gen = (n : Int) + 1 → ∀ k : Nat, k ≤ n → ∃ d ∈ l, d.gen = (k : Int) + 1 := by
   intro n
   induction n with
   | zero => intro c hc hg k hk; exact ⟨c, hc, by rw [hg]; omega⟩
   | succ n ih =>
     intro c hc hg k hk
     by_cases e : k = n + 1
     · exact ⟨c, hc, by rw [hg, e]⟩
     · have h1 := C.gen c hc
       rcases most_mem (c.ps.map (gAt H l)) with h2 | h2
       · omega
       · obtain ⟨a, ha, h3⟩ := List.mem_map.1 h2
         obtain ⟨d, hd, rfl⟩ := List.mem_map.1 (C.found c hc a ha)
         rw [gAt_of C.nodup hd] at h3
         exact ih d hd (by omega) k (by omega)
 intro c hc
 refine ⟨low c hc, ?_⟩
 obtain ⟨n, hn⟩ : ∃ n : Nat, c.gen = (n : Int) + 1 := ⟨(c.gen - 1).toNat, by have := low c hc; omega⟩
 have h1 : ∀ k ∈ List.range (n + 1), ((k : Int) + 1) ∈ l.map (·.gen) := fun k hk => by
   obtain ⟨d, hd, e⟩ := down n c hc hn k (by rw [List.mem_range] at hk; omega)
   rw [← e]
   exact List.mem_map_of_mem hd
 have h2 : ((List.range (n + 1)).map fun (k : Nat) => ((k : Int) + 1)).Nodup := by
   unfold List.Nodup
   rw [List.pairwise_map]
   exact (List.nodup_range (n := n + 1)).imp fun h e => h (by omega)
 have h3 := short_of h2 (m := l.map (·.gen)) fun x hx => by
   obtain ⟨k, hk, rfl⟩ := List.mem_map.1 hx
   exact h1 k hk
 rw [List.length_map, List.length_map, List.length_range] at h3
 omega
end
end Go.Proofs.YtgmdhaepiclkcaaGreatDoor.FrM
namespace Go.Proofs.YtgmdhaepiclkcaaGreatDoor.FrN
set_option maxRecDepth 100000
open IdM CmM DgM DgX FrM
open Classical
section
variable {H : Com → Idn}
noncomputable def nextK (H : Com → Idn) (l : List Com) (node seq : Int) (o : OpsM.Opn) : Com := ⟨node, seq, most (l.map (·.gen)) + 1, front H l, o⟩
noncomputable def next (H : Com → Idn) (l : List Com) (node seq : Int) (o : OpsM.Opn) : Option Com := if Closed H l ∧ mayK (nextK H l node seq o) = true ∧ Closed H (l ++ [nextK H l node seq o]) then some (nextK H l node seq o) else none
theorem part_iff {l : List Com} {p q : Idn → Prop} (h : ∀ x, p x ↔ q x) : DgM.part H l p = DgM.part H l q := by
 have e : p = q := funext fun x => propext (h x)
 rw [e]
theorem kn_mono {l m : List Com} (h : ∀ c ∈ l, c ∈ m) {a b : Idn} (k : Kn H l a b) : Kn H m a b := by
 induction k with
 | one k => obtain ⟨c, hc, e, hb⟩ := k; exact .one ⟨c, h c hc, e, hb⟩
 | more k _ ih => obtain ⟨c, hc, e, hb⟩ := k; exact .more ⟨c, h c hc, e, hb⟩ ih
end
end Go.Proofs.YtgmdhaepiclkcaaGreatDoor.FrN
namespace Go.Proofs.YtgmdhaepiclkcaaGreatDoor.EaM
set_option maxRecDepth 100000
open IdM CmM DgM DgX FrM FrN StM OpsM Rise
open Classical
section
variable {H : Com → Idn}
def Gone (H : Com → Idn) (l : List Com) (c : Com) : Prop := ∃ d ∈ l, d.op.kind = 3 ∧ d.op.key = c.op.key ∧ d.op.elem = c.op.elem ∧ Kn H l (H d) (H c)
def regC (c : Com) : RegM.Rg := regO c.op c.node c.seq c.gen
def pairC (c : Com) : PairM.Pr := pairO c.op c.node c.seq
noncomputable def evS (H : Com → Idn) (l : List Com) (s : St) (c : Com) : St :=
 if c.op.kind = 0 then ⟨CtrM.incC s.c c.op.key c.op.n, s.r, s.p⟩ else if c.op.kind = 1 then ⟨s.c, RegL.putR s.r (regC c), s.p⟩ else if c.op.kind = 2 ∧ ¬ Gone H l c then ⟨s.c, s.r, PairM.addP s.p (pairC c)⟩ else s
noncomputable def evalK (H : Com → Idn) (l : List Com) : St := l.foldl (evS H l) noS
structure Fine (c : Com) : Prop where
 op : mayO c.op = true
 ev : eventB c.node c.seq = true
 gen : 1 ≤ c.gen
theorem fine_of {c : Com} (hm : mayK c = true) (hi : isM c = false) : Fine c := by
 obtain ⟨h1, h2⟩ := mayK_iff.1 hm
 rcases h2 with h2 | h2
 · exact absurd (isM_iff.2 ⟨h1, h2⟩) (by rw [hi]; decide)
 · exact ⟨h2.2, h2.1, (lineB_iff.1 h1).1⟩
theorem fine_all {l : List Com} (C : Closed H l) : ∀ c ∈ l, Fine c := fun c hc => fine_of (C.may c hc) (C.merge c hc)
theorem may_noS : mayS noS = true := rfl
def cnt (k : ByteArray) : List Com → Int
 | [] => 0
 | c :: m => (if c.op.kind = 0 ∧ c.op.key = k then c.op.n else 0) + cnt k m
def regIf (k : ByteArray) (c : Com) : Option RegM.Rg := if c.op.kind = 1 ∧ c.op.key = k then some (regC c) else none
def newR (k : ByteArray) : List Com → Option RegM.Rg
 | [] => none
 | c :: m => RegL.bestO (newR k m) (regIf k c)
theorem of_if (k : ByteArray) (c : Com) : RegL.Of k (regIf k c) := fun x h => by
 unfold regIf at h
 split at h
 · rename_i hk
   obtain rfl := Option.some.inj h
   exact hk.2
 · cases h
theorem of_new (k : ByteArray) : ∀ m : List Com, RegL.Of k (newR k m)
 | [] => fun x h => by cases h
 | c :: m => (of_new k m).both (of_if k c)
variable {l : List Com}
theorem ev_may {s : St} {c : Com} (hs : mayS s = true) (hc : Fine c) : mayS (evS H l s c) = true := by
 obtain ⟨m1, m2, m3⟩ := mayS_iff.1 hs
 unfold evS
 split
 · exact mayS_iff.2 ⟨CtrL.inc_may _ m1 (key_may hc.op), m2, m3⟩
 · split
   · exact mayS_iff.2 ⟨m1, RegL.put_may _ _, m3⟩
   · split
     · exact mayS_iff.2 ⟨m1, m2, PairM.add_may _ _⟩
     · exact hs
theorem fold_may : ∀ (m : List Com) (s : St), mayS s = true → (∀ c ∈ m, Fine c) → mayS (m.foldl (evS H l) s) = true
 | [], _, hs, _ => hs
 | c :: m, s, hs, hm => fold_may m _ (ev_may hs (hm c (by simp))) fun d hd => hm d (by simp [hd])
theorem ev_in {s : St} {c : Com} (hs : CtrL.InL s.c) : CtrL.InL (evS H l s c).c := by
 unfold evS
 split
 · exact CtrL.inc_in _ _ hs
 · split
   · exact hs
   · split <;> exact hs
theorem ev_c {s : St} {c : Com} (hs : mayS s = true) (hc : Fine c) (hi : CtrL.InL s.c) (k : ByteArray) : CtrM.getC (evS H l s c).c k = CtrM.w64 (CtrM.getC s.c k + if c.op.kind = 0 ∧ c.op.key = k then c.op.n else 0) := by
 obtain ⟨m1, _, _⟩ := mayS_iff.1 hs
 have h0 := CtrL.w64_id (CtrL.getC_in hi k)
 unfold evS
 split
 · rename_i h
   show CtrM.getC (CtrM.incC s.c c.op.key c.op.n) k = _
   rw [CtrL.inc_get _ m1 (key_may hc.op)]
   by_cases hk : k = c.op.key
   · rw [if_pos hk, if_pos ⟨h, hk.symm⟩, hk]
   · rw [if_neg hk, if_neg fun q => hk q.2.symm, Int.add_zero, h0]
 · rename_i h
   rw [if_neg (c := c.op.kind = 0 ∧ c.op.key = k) fun q => h q.1, Int.add_zero, h0]
   split
   · rfl
   · split <;> rfl
theorem fold_c (k : ByteArray) : ∀ (m : List Com) (s : St), mayS s = true → CtrL.InL s.c → (∀ c ∈ m, Fine c) → CtrM.getC (m.foldl (evS H l) s).c k = CtrM.w64 (CtrM.getC s.c k + cnt k m)
 | [], s, _, hi, _ => by
   show CtrM.getC s.c k = CtrM.w64 (CtrM.getC s.c k + 0)
   rw [Int.add_zero, CtrL.w64_id (CtrL.getC_in hi k)]
 | c :: m, s, hs, hi, hm => by
   rw [List.foldl_cons, fold_c k m _ (ev_may hs (hm c (by simp))) (ev_in hi) fun d hd => hm d (by simp [hd]), ev_c hs (hm c (by simp)) hi]
   show _ = CtrM.w64 (CtrM.getC s.c k + ((if c.op.kind = 0 ∧ c.op.key = k then c.op.n else 0) + cnt k m))
   generalize (if c.op.kind = 0 ∧ c.op.key = k then c.op.n else 0) = x
   simp only [CtrM.w64_eq]
   omega
theorem ev_r {s : St} {c : Com} (hs : mayS s = true) (hc : Fine c) (k : ByteArray) : RegM.getR (evS H l s c).r k = RegL.bestO (regIf k c) (RegM.getR s.r k) := by
 obtain ⟨_, m2, _⟩ := mayS_iff.1 hs
 unfold evS regIf
 by_cases h0 : c.op.kind = 0
 · rw [if_pos h0, if_neg fun q => by omega]
   rfl
 · rw [if_neg h0]
   by_cases h1 : c.op.kind = 1
   · rw [if_pos h1]
     show RegM.getR (RegL.putR s.r (regC c)) k = _
     rw [RegL.put_get (r := regC c) m2 (reg_may hc.op h1 hc.ev hc.gen), RegL.getR_one]
     by_cases hk : c.op.key = k
     · rw [if_pos (show (regC c).key = k from hk), if_pos ⟨h1, hk⟩]
     · rw [if_neg (show ¬ (regC c).key = k from hk), if_neg fun q => hk q.2]
   · rw [if_neg h1, if_neg (c := c.op.kind = 1 ∧ c.op.key = k) fun q => h1 q.1]
     split <;> rfl
theorem fold_r (k : ByteArray) : ∀ (m : List Com) (s : St), mayS s = true → (∀ c ∈ m, Fine c) → RegM.getR (m.foldl (evS H l) s).r k = RegL.bestO (newR k m) (RegM.getR s.r k)
 | [], _, _, _ => rfl
 | c :: m, s, hs, hm => by
   rw [List.foldl_cons, fold_r k m _ (ev_may hs (hm c (by simp))) fun d hd => hm d (by simp [hd]), ev_r hs (hm c (by simp))]
   exact (RegL.bestO_three (of_new k m) (of_if k c) (RegL.of_get _ k)).symm
theorem ev_p {s : St} {c : Com} (hs : mayS s = true) (hc : Fine c) (x : PairM.Pr) : x ∈ (evS H l s c).p ↔ x ∈ s.p ∨ (c.op.kind = 2 ∧ ¬ Gone H l c ∧ x = pairC c) := by
 obtain ⟨_, _, m3⟩ := mayS_iff.1 hs
 unfold evS
 by_cases h0 : c.op.kind = 0
 · rw [if_pos h0]
   exact ⟨.inl, fun h => h.elim id fun q => by omega⟩
 · rw [if_neg h0]
   by_cases h1 : c.op.kind = 1
   · rw [if_pos h1]
     exact ⟨.inl, fun h => h.elim id fun q => by omega⟩
   · rw [if_neg h1]
     by_cases h2 : c.op.kind = 2 ∧ ¬ Gone H l c
     · rw [if_pos h2]
       show x ∈ PairM.addP s.p (pairC c) ↔ _
       rw [PairM.add_mem (p := pairC c) m3 (pair_may hc.op h2.1 hc.ev)]
       exact ⟨fun h => h.elim (fun q => .inr ⟨h2.1, h2.2, q⟩) .inl, fun h => h.elim .inr fun q => .inl q.2.2⟩
     · rw [if_neg h2]
       exact ⟨.inl, fun h => h.elim id fun q => absurd ⟨q.1, q.2.1⟩ h2⟩
theorem fold_p (x : PairM.Pr) : ∀ (m : List Com) (s : St), mayS s = true → (∀ c ∈ m, Fine c) → (x ∈ (m.foldl (evS H l) s).p ↔ x ∈ s.p ∨ ∃ c ∈ m, c.op.kind = 2 ∧ ¬ Gone H l c ∧ x = pairC c)
 | [], s, _, _ => ⟨.inl, fun h => h.elim id fun ⟨_, hc, _⟩ => by cases hc⟩
 | c :: m, s, hs, hm => by
   rw [List.foldl_cons, fold_p x m _ (ev_may hs (hm c (by simp))) (fun d hd => hm d (by simp [hd])), ev_p hs (hm c (by simp))]
   constructor
   · rintro ((h | h) | ⟨d, hd, h⟩)
     · exact .inl h
     · exact .inr ⟨c, by simp, h⟩
     · exact .inr ⟨d, by simp [hd], h⟩
   · rintro (h | ⟨d, hd, h⟩)
     · exact .inl (.inl h)
     · rcases List.mem_cons.1 hd with rfl | hd
       · exact .inl (.inr h)
       · exact .inr ⟨d, hd, h⟩
theorem eval_may (hl : ∀ c ∈ l, Fine c) : mayS (evalK H l) = true := fold_may l noS may_noS hl
theorem in_noS : CtrL.InL noS.c := fun c hc => by cases hc
theorem eval_c (hl : ∀ c ∈ l, Fine c) (k : ByteArray) : CtrM.getC (evalK H l).c k = CtrM.w64 (cnt k l) := by
 unfold evalK
 rw [fold_c k l noS may_noS in_noS hl]
 show CtrM.w64 (0 + cnt k l) = _
 rw [Int.zero_add]
theorem eval_r (hl : ∀ c ∈ l, Fine c) (k : ByteArray) : RegM.getR (evalK H l).r k = newR k l := by
 unfold evalK
 rw [fold_r k l noS may_noS hl]
 exact RegL.bestO_none _
theorem eval_p (hl : ∀ c ∈ l, Fine c) (x : PairM.Pr) : x ∈ (evalK H l).p ↔ ∃ c ∈ l, c.op.kind = 2 ∧ ¬ Gone H l c ∧ x = pairC c := by
 unfold evalK
 rw [fold_p x l noS may_noS hl]
 exact ⟨fun h => h.elim (fun q => by cases q) id, .inr⟩
theorem eval_is {s : St} (hl : ∀ c ∈ l, Fine c) (hs : mayS s = true) (hc : ∀ k, CtrM.getC s.c k = CtrM.w64 (cnt k l)) (hr : ∀ k, RegM.getR s.r k = newR k l) (hp : ∀ x, x ∈ s.p ↔ ∃ c ∈ l, c.op.kind = 2 ∧ ¬ Gone H l c ∧ x = pairC c) : s = evalK H l := by
 obtain ⟨m1, m2, m3⟩ := mayS_iff.1 hs
 obtain ⟨n1, n2, n3⟩ := mayS_iff.1 (eval_may (H := H) hl)
 exact St_ext (CtrM.det m1 n1 fun k => by rw [hc, eval_c hl]) (RegL.det m2 n2 fun k => by rw [hr, eval_r hl]) (PairM.det (PairM.ris m3) (PairM.ris n3) fun x => by rw [hp, eval_p hl])
theorem cnt_perm (k : ByteArray) {l m : List Com} (h : l.Perm m) : cnt k l = cnt k m := by
 induction h with
 | nil => rfl
 | cons c _ ih => unfold cnt; rw [ih]
 | swap a b l => unfold cnt; unfold cnt; omega
 | trans _ _ h1 h2 => rw [h1, h2]
theorem new_perm (k : ByteArray) {l m : List Com} (h : l.Perm m) : newR k l = newR k m := by
 induction h with
 | nil => rfl
 | cons c _ ih => unfold newR; rw [ih]
 | swap a b l =>
   show RegL.bestO (RegL.bestO (newR k l) (regIf k a)) (regIf k b) = RegL.bestO (RegL.bestO (newR k l) (regIf k b)) (regIf k a)
   rw [RegL.bestO_three (of_new k l) (of_if k a) (of_if k b), RegL.bestO_turn (of_if k a) (of_if k b), ← RegL.bestO_three (of_new k l) (of_if k b) (of_if k a)]
 | trans _ _ h1 h2 => rw [h1, h2]
theorem gone_perm {l m : List Com} (h : ∀ c, c ∈ l ↔ c ∈ m) {c : Com} : Gone H l c → Gone H m c := fun ⟨d, hd, h1, h2, h3, h4⟩ => ⟨d, (h d).1 hd, h1, h2, h3, kn_perm h h4⟩
theorem eval_perm {l m : List Com} (h : l.Perm m) (hl : ∀ c ∈ l, Fine c) : evalK H l = evalK H m := by
 have hm : ∀ c ∈ m, Fine c := fun c hc => hl c (h.mem_iff.2 hc)
 refine eval_is hm (eval_may hl) (fun k => by rw [eval_c hl, cnt_perm k h]) (fun k => by rw [eval_r hl, new_perm k h]) fun x => ?_
 rw [eval_p hl]
 constructor
 · rintro ⟨c, hc, h1, h2, h3⟩
   exact ⟨c, h.mem_iff.1 hc, h1, fun g => h2 (gone_perm (fun d => h.symm.mem_iff) g), h3⟩
 · rintro ⟨c, hc, h1, h2, h3⟩
   exact ⟨c, h.mem_iff.2 hc, h1, fun g => h2 (gone_perm (fun d => h.mem_iff) g), h3⟩
theorem cnt_snoc (k : ByteArray) (l : List Com) (c : Com) : cnt k (l ++ [c]) = cnt k l + if c.op.kind = 0 ∧ c.op.key = k then c.op.n else 0 := by
 induction l with
 | nil =>
   show (if c.op.kind = 0 ∧ c.op.key = k then c.op.n else 0) + 0 = 0 + _
   omega
 | cons d l ih =>
   show (if d.op.kind = 0 ∧ d.op.key = k then d.op.n else 0) + cnt k (l ++ [c]) = (if d.op.kind = 0 ∧ d.op.key = k then d.op.n else 0) + cnt k l + _
   rw [ih]
   omega
theorem new_snoc (k : ByteArray) (l : List Com) (c : Com) : newR k (l ++ [c]) = RegL.bestO (regIf k c) (newR k l) := by
 induction l with
 | nil => exact (RegL.bestO_none _).symm
 | cons d l ih =>
   show RegL.bestO (newR k (l ++ [c])) (regIf k d) = _
   rw [ih]
   exact RegL.bestO_three (of_if k c) (of_new k l) (of_if k d)
theorem gone_next {c : Com} (C : Closed H l) (D : Closed H (l ++ [c])) (hp : c.ps = front H l) {d : Com} (hd : d ∈ l) : Gone H (l ++ [c]) d ↔ Gone H l d ∨ (c.op.kind = 3 ∧ c.op.key = d.op.key ∧ c.op.elem = d.op.elem) := by
 have hn : H c ∉ l.map H := fun h => by
   have := D.nodup
   rw [List.map_append, List.nodup_append] at this
   exact this.2.2 _ h _ (by simp) rfl
 have all : Kn H (l ++ [c]) (H c) (H d) := by
   obtain ⟨y, hy, h⟩ := last_above C (List.mem_map_of_mem (f := H) hd)
   have h1 : Par H (l ++ [c]) (H c) y := ⟨c, by simp, rfl, by rw [hp]; exact hy⟩
   rcases h with rfl | h
   · exact .one h1
   · exact .more h1 (kn_mono (fun x hx => List.mem_append_left _ hx) h)
 constructor
 · rintro ⟨e, he, h1, h2, h3, h4⟩
   rcases List.mem_append.1 he with he | he
   · exact .inl ⟨e, he, h1, h2, h3, ((kn_old C.found hn (List.mem_map_of_mem he)).1 h4).1⟩
   · rw [List.mem_singleton.1 he] at h1 h2 h3
     exact .inr ⟨h1, h2, h3⟩
 · rintro (⟨e, he, h1, h2, h3, h4⟩ | ⟨h1, h2, h3⟩)
   · exact ⟨e, List.mem_append_left _ he, h1, h2, h3, kn_mono (fun x hx => List.mem_append_left _ hx) h4⟩
   · exact ⟨c, by simp, h1, h2, h3, all⟩
theorem gone_new {c : Com} (C : Closed H l) (D : Closed H (l ++ [c])) : ¬ Gone H (l ++ [c]) c := by
 rintro ⟨e, he, h1, h2, h3, h4⟩
 have hn : H c ∉ l.map H := fun h => by
   have := D.nodup
   rw [List.map_append, List.nodup_append] at this
   exact this.2.2 _ h _ (by simp) rfl
 rcases List.mem_append.1 he with he | he
 · exact hn ((kn_old C.found hn (List.mem_map_of_mem he)).1 h4).2
 · rw [List.mem_singleton.1 he] at h4
   exact kn_irrefl D h4
theorem eval_next {c : Com} (C : Closed H l) (D : Closed H (l ++ [c])) (hp : c.ps = front H l) : evalK H (l ++ [c]) = stepS (evalK H l) c.op c.node c.seq c.gen := by
 have hl := fine_all C
 have hd := fine_all D
 have hc := hd c (by simp)
 have hm := eval_may (H := H) hl
 obtain ⟨m1, m2, m3⟩ := mayS_iff.1 hm
 have hk := key_may hc.op
 have hok : okD (evalK H l) c.op c.node c.seq c.gen = true := okD_iff.2 ⟨hm, hc.op, hc.ev, hc.gen⟩
 refine (eval_is hd (step_may hok) (fun k => ?_) (fun k => ?_) fun x => ?_).symm
 · rw [cnt_snoc]
   unfold stepS
   by_cases h0 : c.op.kind = 0
   · rw [if_pos h0]
     show CtrM.getC (CtrM.incC (evalK H l).c c.op.key c.op.n) k = _
     rw [CtrL.inc_get _ m1 hk]
     by_cases e : k = c.op.key
     · rw [if_pos e, if_pos ⟨h0, e.symm⟩, eval_c hl, e]
       simp only [CtrM.w64_eq]
       omega
     · rw [if_neg e, if_neg fun q => e q.2.symm, eval_c hl, Int.add_zero]
   · rw [if_neg h0, if_neg (c := c.op.kind = 0 ∧ c.op.key = k) fun q => h0 q.1, Int.add_zero, ← eval_c (H := H) hl k]
     split
     · rfl
     · split <;> rfl
 · rw [new_snoc, ← eval_r (H := H) hl k]
   have := ev_r (H := H) (l := l) hm hc k
   rw [← this]
   unfold stepS evS
   by_cases h0 : c.op.kind = 0
   · rw [if_pos h0, if_pos h0]
   · rw [if_neg h0, if_neg h0]
     by_cases h1 : c.op.kind = 1
     · rw [if_pos h1, if_pos h1]
       rfl
     · rw [if_neg h1, if_neg h1]
       split <;> split <;> rfl
 · have q : (∃ d ∈ l ++ [c], d.op.kind = 2 ∧ ¬ Gone H (l ++ [c]) d ∧ x = pairC d) ↔ (x ∈ (evalK H l).p ∧ ¬ (c.op.kind = 3 ∧ x.key = c.op.key ∧ x.elem = c.op.elem)) ∨ (c.op.kind = 2 ∧ x = pairC c) := by
     rw [eval_p hl]
     constructor
     · rintro ⟨d, hd, h1, h2, h3⟩
       rcases List.mem_append.1 hd with hd | hd
       · rw [gone_next C D hp hd] at h2
         refine .inl ⟨⟨d, hd, h1, fun g => h2 (.inl g), h3⟩, fun g => h2 (.inr ⟨g.1, ?_, ?_⟩)⟩
         · rw [← g.2.1, h3]; rfl
         · rw [← g.2.2, h3]; rfl
       · rw [List.mem_singleton.1 hd] at h1 h3
         exact .inr ⟨h1, h3⟩
     · rintro (⟨⟨d, hd, h1, h2, h3⟩, h4⟩ | ⟨h1, h3⟩)
       · refine ⟨d, List.mem_append_left _ hd, h1, fun g => ?_, h3⟩
         rw [gone_next C D hp hd] at g
         rcases g with g | ⟨g1, g2, g3⟩
         · exact h2 g
         · exact h4 ⟨g1, by rw [h3]; exact g2.symm, by rw [h3]; exact g3.symm⟩
       · exact ⟨c, by simp, h1, gone_new C D, h3⟩
   rw [q]
   unfold stepS
   by_cases h0 : c.op.kind = 0
   · rw [if_pos h0]
     exact ⟨fun h => .inl ⟨h, fun g => by omega⟩, fun h => h.elim (·.1) fun g => by omega⟩
   · rw [if_neg h0]
     by_cases h1 : c.op.kind = 1
     · rw [if_pos h1]
       exact ⟨fun h => .inl ⟨h, fun g => by omega⟩, fun h => h.elim (·.1) fun g => by omega⟩
     · rw [if_neg h1]
       by_cases h2 : c.op.kind = 2
       · rw [if_pos h2]
         show x ∈ PairM.addP (evalK H l).p (pairC c) ↔ _
         rw [PairM.add_mem (p := pairC c) m3 (pair_may hc.op h2 hc.ev)]
         exact ⟨fun h => h.elim (fun g => .inr ⟨h2, g⟩) fun g => .inl ⟨g, fun g => by omega⟩, fun h => h.elim (fun g => .inr g.1) fun g => .inl g.2⟩
       · rw [if_neg h2]
         show x ∈ PairM.delP (evalK H l).p c.op.key c.op.elem ↔ _
         have h3 : c.op.kind = 3 := by
           have := kind_may hc.op
           omega
         rw [PairM.del_mem m3]
         exact ⟨fun h => .inl ⟨h.1, fun g => h.2 g.2⟩, fun h => h.elim (fun g => ⟨g.1, fun e => g.2 ⟨h3, e⟩⟩) fun g => by omega⟩
noncomputable def atK (H : Com → Idn) (l : List Com) (a : List Idn) : St := evalK H (DgM.part H l (· ∈ anc H l a))
end
end Go.Proofs.YtgmdhaepiclkcaaGreatDoor.EaM
namespace Go.Proofs.YtgmdhaepiclkcaaGreatDoor.EaN
set_option maxRecDepth 100000
open IdM CmM DgM DgX FrM FrN StM OpsM Rise EaM
open Classical
section
variable {H : Com → Idn} {l : List Com}
theorem ev_len {s : St} {c : Com} {n : Nat} (h : s.c.length ≤ n ∧ s.r.length ≤ n ∧ s.p.length ≤ n) : (evS H l s c).c.length ≤ n + 1 ∧ (evS H l s c).r.length ≤ n + 1 ∧ (evS H l s c).p.length ≤ n + 1 := by
 obtain ⟨h1, h2, h3⟩ := h
 unfold evS
 split
 · refine ⟨?_, by show s.r.length ≤ _; omega, by show s.p.length ≤ _; omega⟩
   show (CtrM.incC s.c c.op.key c.op.n).length ≤ _
   unfold CtrM.incC
   split
   · have := CtrM.putC_length c.op.key (CtrM.w64 (CtrM.getC s.c c.op.key + c.op.n)) s.c
     omega
   · simp
 · split
   · refine ⟨by show s.c.length ≤ _; omega, ?_, by show s.p.length ≤ _; omega⟩
     show (RegL.putR s.r (regC c)).length ≤ _
     have := RegL.put_length s.r (regC c)
     omega
   · split
     · refine ⟨by show s.c.length ≤ _; omega, by show s.r.length ≤ _; omega, ?_⟩
       show (PairM.addP s.p (pairC c)).length ≤ _
       have := PairM.add_length s.p (pairC c)
       omega
     · exact ⟨by omega, by omega, by omega⟩
theorem fold_len : ∀ (m : List Com) (s : St) (n : Nat), s.c.length ≤ n ∧ s.r.length ≤ n ∧ s.p.length ≤ n → (m.foldl (evS H l) s).c.length ≤ n + m.length ∧ (m.foldl (evS H l) s).r.length ≤ n + m.length ∧ (m.foldl (evS H l) s).p.length ≤ n + m.length
 | [], _, _, h => h
 | c :: m, s, n, h => by
   have := fold_len m (evS H l s c) (n + 1) (ev_len h)
   rw [List.foldl_cons, List.length_cons]
   exact ⟨by omega, by omega, by omega⟩
end
end Go.Proofs.YtgmdhaepiclkcaaGreatDoor.EaN
