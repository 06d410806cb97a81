/- Plain facts on the last ones of closed commits: heads, what is joined, what comes next. No condition. | Plain facts on what is joined, on heads, on what comes next. No condition. | Plain facts on the state of commits: what it has, in whatever order they stand; behind one more; of two lists together. No condition. | Plain facts on the state of commits: which register a key has, which pairs are there, what a key counts, and of how many entries it is. No condition. -/
import Derived.Test.YtgmdhaepiclkcaaGreatDoorDgX
import Derived.Test.YtgmdhaepiclkcaaGreatDoorPairMJ4
namespace Go.Proofs.YtgmdhaepiclkcaaGreatDoor.FrM
set_option maxRecDepth 100000
open IdM CmM DgM DgX
open Classical
section
variable {H : Com → Idn}
theorem pigeon : ∀ (n : Nat) (l : List Int), l.Nodup → (∀ x ∈ l, 0 ≤ x ∧ x < n) → l.length ≤ n
 | 0, l, _, h => by
   cases l with
   | nil => exact Nat.le_refl _
   | cons x l => have := h x (by simp); omega
 | n + 1, l, hn, h => by
   have h1 := pigeon n (l.erase n) (hn.erase _) fun x hx => by
     have h2 := h x (List.mem_of_mem_erase hx)
     have h3 : x ≠ n := fun e => by
       rw [e] at hx
       exact (List.Nodup.not_mem_erase hn) hx
     omega
   have h4 := List.length_erase_le (a := (n : Int)) (l := l)
   by_cases hm : (n : Int) ∈ l
   · rw [List.length_erase_of_mem hm] at h1
     omega
   · rw [List.erase_of_not_mem hm] at h1
     omega
end
end Go.Proofs.YtgmdhaepiclkcaaGreatDoor.FrM
namespace Go.Proofs.YtgmdhaepiclkcaaGreatDoor.FrN
set_option maxRecDepth 100000
open IdM CmM DgM DgX FrM
open Classical
section
variable {H : Com → Idn}
theorem part_iff {l : List Com} {p q : Idn → Prop} (h : ∀ x, p x ↔ q x) : DgM.part H l p = DgM.part H l q := by
 have e : p = q := funext fun x => propext (h x)
 rw [e]
end
end Go.Proofs.YtgmdhaepiclkcaaGreatDoor.FrN
namespace Go.Proofs.YtgmdhaepiclkcaaGreatDoor.EaM
set_option maxRecDepth 100000
open IdM CmM DgM DgX FrM FrN StM OpsM Rise
open Classical
section
variable {H : Com → Idn}
def Gone (H : Com → Idn) (l : List Com) (c : Com) : Prop := ∃ d ∈ l, d.op.kind = 3 ∧ d.op.key = c.op.key ∧ d.op.elem = c.op.elem ∧ Kn H l (H d) (H c)
def regC (c : Com) : RegM.Rg := regO c.op c.node c.seq c.gen
def pairC (c : Com) : PairM.Pr := pairO c.op c.node c.seq
noncomputable def evS (H : Com → Idn) (l : List Com) (s : St) (c : Com) : St :=
 if c.op.kind = 0 then ⟨CtrM.incC s.c c.op.key c.op.n, s.r, s.p⟩ else if c.op.kind = 1 then ⟨s.c, RegL.putR s.r (regC c), s.p⟩ else if c.op.kind = 2 ∧ ¬ Gone H l c then ⟨s.c, s.r, PairM.addP s.p (pairC c)⟩ else s
noncomputable def evalK (H : Com → Idn) (l : List Com) : St := l.foldl (evS H l) noS
structure Fine (c : Com) : Prop where
 op : mayO c.op = true
 ev : eventB c.node c.seq = true
 gen : 1 ≤ c.gen
theorem fine_of {c : Com} (hm : mayK c = true) (hi : isM c = false) : Fine c := by
 obtain ⟨h1, h2⟩ := mayK_iff.1 hm
 rcases h2 with h2 | h2
 · exact absurd (isM_iff.2 ⟨h1, h2⟩) (by rw [hi]; decide)
 · exact ⟨h2.2, h2.1, (lineB_iff.1 h1).1⟩
theorem fine_all {l : List Com} (C : Closed H l) : ∀ c ∈ l, Fine c := fun c hc => fine_of (C.may c hc) (C.merge c hc)
theorem may_noS : mayS noS = true := rfl
def cnt (k : ByteArray) : List Com → Int
 | [] => 0
 | c :: m => (if c.op.kind = 0 ∧ c.op.key = k then c.op.n else 0) + cnt k m
def regIf (k : ByteArray) (c : Com) : Option RegM.Rg := if c.op.kind = 1 ∧ c.op.key = k then some (regC c) else none
def newR (k : ByteArray) : List Com → Option RegM.Rg
 | [] => none
 | c :: m => RegL.bestO (newR k m) (regIf k c)
theorem of_if (k : ByteArray) (c : Com) : RegL.Of k (regIf k c) := fun x h => by
 unfold regIf at h
 split at h
 · rename_i hk
   obtain rfl := Option.some.inj h
   exact hk.2
 · cases h
theorem of_new (k : ByteArray) : ∀ m : List Com, RegL.Of k (newR k m)
 | [] => fun x h => by cases h
 | c :: m => (of_new k m).both (of_if k c)
variable {l : List Com}
theorem ev_may {s : St} {c : Com} (hs : mayS s = true) (hc : Fine c) : mayS (evS H l s c) = true := by
 obtain ⟨m1, m2, m3⟩ := mayS_iff.1 hs
 unfold evS
 split
 · exact mayS_iff.2 ⟨CtrL.inc_may _ m1 (key_may hc.op), m2, m3⟩
 · split
   · exact mayS_iff.2 ⟨m1, RegL.put_may _ _, m3⟩
   · split
     · exact mayS_iff.2 ⟨m1, m2, PairM.add_may _ _⟩
     · exact hs
theorem fold_may : ∀ (m : List Com) (s : St), mayS s = true → (∀ c ∈ m, Fine c) → mayS (m.foldl (evS H l) s) = true
 | [], _, hs, _ => hs
 | c :: m, s, hs, hm => fold_may m _ (ev_may hs (hm c (by simp))) fun d hd => hm d (by simp [hd])
theorem ev_in {s : St} {c : Com} (hs : CtrL.InL s.c) : CtrL.InL (evS H l s c).c := by
 unfold evS
 split
 · exact CtrL.inc_in _ _ hs
 · split
   · exact hs
   · split <;> exact hs
theorem ev_c {s : St} {c : Com} (hs : mayS s = true) (hc : Fine c) (hi : CtrL.InL s.c) (k : ByteArray) : CtrM.getC (evS H l s c).c k = CtrM.w64 (CtrM.getC s.c k + if c.op.kind = 0 ∧ c.op.key = k then c.op.n else 0) := by
 obtain ⟨m1, _, _⟩ := mayS_iff.1 hs
 have h0 := CtrL.w64_id (CtrL.getC_in hi k)
 unfold evS
 split
 · rename_i h
   show CtrM.getC (CtrM.incC s.c c.op.key c.op.n) k = _
   rw [CtrL.inc_get _ m1 (key_may hc.op)]
   by_cases hk : k = c.op.key
   · rw [if_pos hk, if_pos ⟨h, hk.symm⟩, hk]
   · rw [if_neg hk, if_neg fun q => hk q.2.symm, Int.add_zero, h0]
 · rename_i h
   rw [if_neg (c := c.op.kind = 0 ∧ c.op.key = k) fun q => h q.1, Int.add_zero, h0]
   split
   · rfl
   · split <;> rfl
theorem fold_c (k : ByteArray) : ∀ (m : List Com) (s : St), mayS s = true → CtrL.InL s.c → (∀ c ∈ m, Fine c) → CtrM.getC (m.foldl (evS H l) s).c k = CtrM.w64 (CtrM.getC s.c k + cnt k m)
 | [], s, _, hi, _ => by
   show CtrM.getC s.c k = CtrM.w64 (CtrM.getC s.c k + 0)
   rw [Int.add_zero, CtrL.w64_id (CtrL.getC_in hi k)]
 | c :: m, s, hs, hi, hm => by
   rw [List.foldl_cons, fold_c k m _ (ev_may hs (hm c (by simp))) (ev_in hi) fun d hd => hm d (by simp [hd]), ev_c hs (hm c (by simp)) hi]
   show _ = CtrM.w64 (CtrM.getC s.c k + ((if c.op.kind = 0 ∧ c.op.key = k then c.op.n else 0) + cnt k m))
   generalize (if c.op.kind = 0 ∧ c.op.key = k then c.op.n else 0) = x
   simp only [CtrM.w64_eq]
   omega
theorem ev_r {s : St} {c : Com} (hs : mayS s = true) (hc : Fine c) (k : ByteArray) : RegM.getR (evS H l s c).r k = RegL.bestO (regIf k c) (RegM.getR s.r k) := by
 obtain ⟨_, m2, _⟩ := mayS_iff.1 hs
 unfold evS regIf
 by_cases h0 : c.op.kind = 0
 · rw [if_pos h0, if_neg fun q => by omega]
   rfl
 · rw [if_neg h0]
   by_cases h1 : c.op.kind = 1
   · rw [if_pos h1]
     show RegM.getR (RegL.putR s.r (regC c)) k = _
     rw [RegL.put_get (r := regC c) m2 (reg_may hc.op h1 hc.ev hc.gen), RegL.getR_one]
     by_cases hk : c.op.key = k
     · rw [if_pos (show (regC c).key = k from hk), if_pos ⟨h1, hk⟩]
     · rw [if_neg (show ¬ (regC c).key = k from hk), if_neg fun q => hk q.2]
   · rw [if_neg h1, if_neg (c := c.op.kind = 1 ∧ c.op.key = k) fun q => h1 q.1]
     split <;> rfl
theorem fold_r (k : ByteArray) : ∀ (m : List Com) (s : St), mayS s = true → (∀ c ∈ m, Fine c) → RegM.getR (m.foldl (evS H l) s).r k = RegL.bestO (newR k m) (RegM.getR s.r k)
 | [], _, _, _ => rfl
 | c :: m, s, hs, hm => by
   rw [List.foldl_cons, fold_r k m _ (ev_may hs (hm c (by simp))) fun d hd => hm d (by simp [hd]), ev_r hs (hm c (by simp))]
   exact (RegL.bestO_three (of_new k m) (of_if k c) (RegL.of_get _ k)).symm
theorem ev_p {s : St} {c : Com} (hs : mayS s = true) (hc : Fine c) (x : PairM.Pr) : x ∈ (evS H l s c).p ↔ x ∈ s.p ∨ (c.op.kind = 2 ∧ ¬ Gone H l c ∧ x = pairC c) := by
 obtain ⟨_, _, m3⟩ := mayS_iff.1 hs
 unfold evS
 by_cases h0 : c.op.kind = 0
 · rw [if_pos h0]
   exact ⟨.inl, fun h => h.elim id fun q => by omega⟩
 · rw [if_neg h0]
   by_cases h1 : c.op.kind = 1
   · rw [if_pos h1]
     exact ⟨.inl, fun h => h.elim id fun q => by omega⟩
   · rw [if_neg h1]
     by_cases h2 : c.op.kind = 2 ∧ ¬ Gone H l c
     · rw [if_pos h2]
       show x ∈ PairM.addP s.p (pairC c) ↔ _
       rw [PairM.add_mem (p := pairC c) m3 (pair_may hc.op h2.1 hc.ev)]
       exact ⟨fun h => h.elim (fun q => .inr ⟨h2.1, h2.2, q⟩) .inl, fun h => h.elim .inr fun q => .inl q.2.2⟩
     · rw [if_neg h2]
       exact ⟨.inl, fun h => h.elim id fun q => absurd ⟨q.1, q.2.1⟩ h2⟩
theorem fold_p (x : PairM.Pr) : ∀ (m : List Com) (s : St), mayS s = true → (∀ c ∈ m, Fine c) → (x ∈ (m.foldl (evS H l) s).p ↔ x ∈ s.p ∨ ∃ c ∈ m, c.op.kind = 2 ∧ ¬ Gone H l c ∧ x = pairC c)
 | [], s, _, _ => ⟨.inl, fun h => h.elim id fun ⟨_, hc, _⟩ => by cases hc⟩
 | c :: m, s, hs, hm => by
   rw [List.foldl_cons, fold_p x m _ (ev_may hs (hm c (by simp))) (fun d hd => hm d (by simp [hd])), ev_p hs (hm c (by simp))]
   constructor
   · rintro ((h | h) | ⟨d, hd, h⟩)
     · exact .inl h
     · exact .inr ⟨c, by simp, h⟩
     · exact .inr ⟨d, by simp [hd], h⟩
   · rintro (h | ⟨d, hd, h⟩)
     · exact .inl (.inl h)
     · rcases List.mem_cons.1 hd with rfl | hd
       · exact .inl (.inr h)
       · exact .inr ⟨d, hd, h⟩
theorem eval_may (hl : ∀ c ∈ l, Fine c) : mayS (evalK H l) = true := fold_may l noS may_noS hl
theorem in_noS : CtrL.InL noS.c := fun c hc => by cases hc
theorem eval_c (hl : ∀ c ∈ l, Fine c) (k : ByteArray) : CtrM.getC (evalK H l).c k = CtrM.w64 (cnt k l) := by
 unfold evalK
 rw [fold_c k l noS may_noS in_noS hl]
 show CtrM.w64 (0 + cnt k l) = _
 rw [Int.zero_add]
theorem eval_r (hl : ∀ c ∈ l, Fine c) (k : ByteArray) : RegM.getR (evalK H l).r k = newR k l := by
 unfold evalK
 rw [fold_r k l noS may_noS hl]
 exact RegL.bestO_none _
theorem eval_p (hl : ∀ c ∈ l, Fine c) (x : PairM.Pr) : x ∈ (evalK H l).p ↔ ∃ c ∈ l, c.op.kind = 2 ∧ ¬ Gone H l c ∧ x = pairC c := by
 unfold evalK
 rw [fold_p x l noS may_noS hl]
 exact ⟨fun h => h.elim (fun q => by cases q) id, .inr⟩
theorem eval_is {s : St} (hl : ∀ c ∈ l, Fine c) (hs : mayS s = true) (hc : ∀ k, CtrM.getC s.c k = CtrM.w64 (cnt k l)) (hr : ∀ k, RegM.getR s.r k = newR k l) (hp : ∀ x, x ∈ s.p ↔ ∃ c ∈ l, c.op.kind = 2 ∧ ¬ Gone H l c ∧ x = pairC c) : s = evalK H l := by
 obtain ⟨m1, m2, m3⟩ := mayS_iff.1 hs
 obtain ⟨n1, n2, n3⟩ := mayS_iff.1 (eval_may (H := H) hl)
 exact St_ext (CtrM.det m1 n1 fun k => by rw [hc, eval_c hl]) (RegL.det m2 n2 fun k => by rw [hr, eval_r hl]) (PairM.det (PairM.ris m3) (PairM.ris n3) fun x => by rw [hp, eval_p hl])
theorem cnt_perm (k : ByteArray) {l m : List Com} (h : l.Perm m) : cnt k l = cnt k m := by
 induction h with
 | nil => rfl
 | cons c _ ih => unfold cnt; rw [ih]
 | swap a b l => unfold cnt; unfold cnt; omega
 | trans _ _ h1 h2 => rw [h1, h2]
theorem new_perm (k : ByteArray) {l m : List Com} (h : l.Perm m) : newR k l = newR k m := by
 induction h with
 | nil => rfl
 | cons c _ ih => unfold newR; rw [ih]
 | swap a b l =>
   show RegL.bestO (RegL.bestO (newR k l) (regIf k a)) (regIf k b) = RegL.bestO (RegL.bestO (newR k l) (regIf k b)) (regIf k a)
   rw [RegL.bestO_three (of_new k l) (of_if k a) (of_if k b), RegL.bestO_turn (of_if k a) (of_if k b), ← RegL.bestO_three (of_new k l) (of_if k b) (of_if k a)]
 | trans _ _ h1 h2 => rw [h1, h2]
theorem gone_perm {l m : List Com} (h : ∀ c, c ∈ l ↔ c ∈ m) {c : Com} : Gone H l c → Gone H m c := fun ⟨d, hd, h1, h2, h3, h4⟩ => ⟨d, (h d).1 hd, h1, h2, h3, kn_perm h h4⟩
theorem eval_perm {l m : List Com} (h : l.Perm m) (hl : ∀ c ∈ l, Fine c) : evalK H l = evalK H m := by
 have hm : ∀ c ∈ m, Fine c := fun c hc => hl c (h.mem_iff.2 hc)
 refine eval_is hm (eval_may hl) (fun k => by rw [eval_c hl, cnt_perm k h]) (fun k => by rw [eval_r hl, new_perm k h]) fun x => ?_
 rw [eval_p hl]
 constructor
 · rintro ⟨c, hc, h1, h2, h3⟩
   exact ⟨c, h.mem_iff.1 hc, h1, fun g => h2 (gone_perm (fun d => h.symm.mem_iff) g), h3⟩
 · rintro ⟨c, hc, h1, h2, h3⟩
   exact ⟨c, h.mem_iff.2 hc, h1, fun g => h2 (gone_perm (fun d => h.mem_iff) g), h3⟩
noncomputable def atK (H : Com → Idn) (l : List Com) (a : List Idn) : St := evalK H (DgM.part H l (· ∈ anc H l a))
end
end Go.Proofs.YtgmdhaepiclkcaaGreatDoor.EaM
namespace Go.Proofs.YtgmdhaepiclkcaaGreatDoor.EaN
set_option maxRecDepth 100000
open IdM CmM DgM DgX FrM FrN StM OpsM Rise EaM
open Classical
section
variable {H : Com → Idn} {l : List Com}
theorem pair_there (C : Closed H l) {c : Com} (hc : c ∈ l) (h2 : c.op.kind = 2) : (∃ x ∈ (evalK H l).p, x.node = c.node ∧ x.seq = c.seq) ↔ ¬ Gone H l c := by
 have hl := fine_all C
 constructor
 · rintro ⟨x, hx, e1, e2⟩
   obtain ⟨d, hd, _, h3, rfl⟩ := (eval_p hl x).1 hx
   have e1 : d.node = c.node := e1
   have e2 : d.seq = c.seq := e2
   have : d = c := Classical.byContradiction fun hne => (C.node d hd c hc hne e1).1 e2
   rw [← this]
   exact h3
 · intro h
   exact ⟨pairC c, (eval_p hl _).2 ⟨c, hc, h2, h, rfl⟩, rfl, rfl⟩
theorem gone_anc (C : Closed H l) {c : Com} (hc : c ∈ l) (h2 : c.op.kind = 2) : Gone H l c ↔ ∃ d ∈ l, d.op.kind = 3 ∧ d.op.key = c.op.key ∧ d.op.elem = c.op.elem ∧ H c ∈ anc H l [H d] := by
 constructor
 · rintro ⟨d, hd, h3, h4, h5, h⟩
   exact ⟨d, hd, h3, h4, h5, mem_anc.2 ⟨List.mem_map_of_mem hc, .inr ⟨H d, by simp, h⟩⟩⟩
 · rintro ⟨d, hd, h3, h4, h5, h⟩
   refine ⟨d, hd, h3, h4, h5, ?_⟩
   rcases (mem_anc.1 h).2 with e | ⟨y, hy, k⟩
   · rw [List.mem_singleton] at e
     have := same_of C.nodup hc hd e
     rw [this] at h2
     omega
   · rw [List.mem_singleton.1 hy] at k
     exact k
end
end Go.Proofs.YtgmdhaepiclkcaaGreatDoor.EaN
