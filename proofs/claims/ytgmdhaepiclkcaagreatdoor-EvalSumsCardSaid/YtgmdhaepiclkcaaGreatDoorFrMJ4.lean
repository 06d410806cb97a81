/- Plain facts on the last ones of closed commits: heads, what is joined, what comes next. No condition. | Plain facts on what is joined, on heads, on what comes next. No condition. | Plain facts on the state of commits: what it has, in whatever order they stand; behind one more; of two lists together. No condition. | Plain facts on the state of commits: which register a key has, which pairs are there, what a key counts, and of how many entries it is. No condition. -/
import Derived.Test.YtgmdhaepiclkcaaGreatDoorDgX
import Derived.Test.YtgmdhaepiclkcaaGreatDoorPairMJ4
namespace Go.Proofs.YtgmdhaepiclkcaaGreatDoor.FrM
set_option maxRecDepth 100000
open IdM CmM DgM DgX
open Classical

section
variable {H : Com → Idn}

theorem pigeon : ∀ (n : Nat) (l : List Int), l.Nodup → (∀ x ∈ l, 0 ≤ x ∧ x < n) → l.length ≤ n
  | 0, l, _, h => by
    cases l with
    | nil => exact Nat.le_refl _
    | cons x l => have := h x (by simp); omega
  | n + 1, l, hn, h => by
    have h1 := pigeon n (l.erase n) (hn.erase _) fun x hx => by
      have h2 := h x (List.mem_of_mem_erase hx)
      have h3 : x ≠ n := fun e => by
        rw [e] at hx
        exact (List.Nodup.not_mem_erase hn) hx
      omega
    have h4 := List.length_erase_le (a := (n : Int)) (l := l)
    by_cases hm : (n : Int) ∈ l
    · rw [List.length_erase_of_mem hm] at h1
      omega
    · rw [List.erase_of_not_mem hm] at h1
      omega
end
end Go.Proofs.YtgmdhaepiclkcaaGreatDoor.FrM
namespace Go.Proofs.YtgmdhaepiclkcaaGreatDoor.FrN
set_option maxRecDepth 100000
open IdM CmM DgM DgX FrM
open Classical

section
variable {H : Com → Idn}

theorem part_iff {l : List Com} {p q : Idn → Prop} (h : ∀ x, p x ↔ q x) : DgM.part H l p = DgM.part H l q := by
  have e : p = q := funext fun x => propext (h x)
  rw [e]
end
end Go.Proofs.YtgmdhaepiclkcaaGreatDoor.FrN
namespace Go.Proofs.YtgmdhaepiclkcaaGreatDoor.EaM
set_option maxRecDepth 100000
open IdM CmM DgM DgX FrM FrN StM OpsM Rise
open Classical

section
variable {H : Com → Idn}
/-- A commit takes away what knows it: a Del of its key and element. -/
def Gone (H : Com → Idn) (l : List Com) (c : Com) : Prop := ∃ d ∈ l, d.op.kind = 3 ∧ d.op.key = c.op.key ∧ d.op.elem = c.op.elem ∧ Kn H l (H d) (H c)
def regC (c : Com) : RegM.Rg := regO c.op c.node c.seq c.gen
def pairC (c : Com) : PairM.Pr := pairO c.op c.node c.seq
/-- One commit of a list told; all of them. -/
noncomputable def evS (H : Com → Idn) (l : List Com) (s : St) (c : Com) : St :=
  if c.op.kind = 0 then ⟨CtrM.incC s.c c.op.key c.op.n, s.r, s.p⟩ else if c.op.kind = 1 then ⟨s.c, RegL.putR s.r (regC c), s.p⟩ else if c.op.kind = 2 ∧ ¬ Gone H l c then ⟨s.c, s.r, PairM.addP s.p (pairC c)⟩ else s
noncomputable def evalK (H : Com → Idn) (l : List Com) : St := l.foldl (evS H l) noS
/-- Such as may be, and is no merge. -/
structure Fine (c : Com) : Prop where
  op : mayO c.op = true
  ev : eventB c.node c.seq = true
  gen : 1 ≤ c.gen
theorem fine_of {c : Com} (hm : mayK c = true) (hi : isM c = false) : Fine c := by
  obtain ⟨h1, h2⟩ := mayK_iff.1 hm
  rcases h2 with h2 | h2
  · exact absurd (isM_iff.2 ⟨h1, h2⟩) (by rw [hi]; decide)
  · exact ⟨h2.2, h2.1, (lineB_iff.1 h1).1⟩
theorem fine_all {l : List Com} (C : Closed H l) : ∀ c ∈ l, Fine c := fun c hc => fine_of (C.may c hc) (C.merge c hc)
theorem may_noS : mayS noS = true := rfl
/-- What a key counts, has, by commits one behind the other. -/
def cnt (k : ByteArray) : List Com → Int
  | [] => 0
  | c :: m => (if c.op.kind = 0 ∧ c.op.key = k then c.op.n else 0) + cnt k m
def regIf (k : ByteArray) (c : Com) : Option RegM.Rg := if c.op.kind = 1 ∧ c.op.key = k then some (regC c) else none
def newR (k : ByteArray) : List Com → Option RegM.Rg
  | [] => none
  | c :: m => RegL.bestO (newR k m) (regIf k c)
theorem of_if (k : ByteArray) (c : Com) : RegL.Of k (regIf k c) := fun x h => by
  unfold regIf at h
  split at h
  · rename_i hk
    obtain rfl := Option.some.inj h
    exact hk.2
  · cases h
theorem of_new (k : ByteArray) : ∀ m : List Com, RegL.Of k (newR k m)
  | [] => fun x h => by cases h
  | c :: m => (of_new k m).both (of_if k c)
variable {l : List Com}
theorem ev_may {s : St} {c : Com} (hs : mayS s = true) (hc : Fine c) : mayS (evS H l s c) = true := by
  obtain ⟨m1, m2, m3⟩ := mayS_iff.1 hs
  unfold evS
  split
  · exact mayS_iff.2 ⟨CtrL.inc_may _ m1 (key_may hc.op), m2, m3⟩
  · split
    · exact mayS_iff.2 ⟨m1, RegL.put_may _ _, m3⟩
    · split
      · exact mayS_iff.2 ⟨m1, m2, PairM.add_may _ _⟩
      · exact hs
theorem fold_may : ∀ (m : List Com) (s : St), mayS s = true → (∀ c ∈ m, Fine c) → mayS (m.foldl (evS H l) s) = true
  | [], _, hs, _ => hs
  | c :: m, s, hs, hm => fold_may m _ (ev_may hs (hm c (by simp))) fun d hd => hm d (by simp [hd])
theorem ev_in {s : St} {c : Com} (hs : CtrL.InL s.c) : CtrL.InL (evS H l s c).c := by
  unfold evS
  split
  · exact CtrL.inc_in _ _ hs
  · split
    · exact hs
    · split <;> exact hs
theorem ev_c {s : St} {c : Com} (hs : mayS s = true) (hc : Fine c) (hi : CtrL.InL s.c) (k : ByteArray) : CtrM.getC (evS H l s c).c k = CtrM.w64 (CtrM.getC s.c k + if c.op.kind = 0 ∧ c.op.key = k then c.op.n else 0) := by
  obtain ⟨m1, _, _⟩ := mayS_iff.1 hs
  have h0 := CtrL.w64_id (CtrL.getC_in hi k)
  unfold evS
  split
  · rename_i h
    show CtrM.getC (CtrM.incC s.c c.op.key c.op.n) k = _
    rw [CtrL.inc_get _ m1 (key_may hc.op)]
    by_cases hk : k = c.op.key
    · rw [if_pos hk, if_pos ⟨h, hk.symm⟩, hk]
    · rw [if_neg hk, if_neg fun q => hk q.2.symm, Int.add_zero, h0]
  · rename_i h
    rw [if_neg (c := c.op.kind = 0 ∧ c.op.key = k) fun q => h q.1, Int.add_zero, h0]
    split
    · rfl
    · split <;> rfl
theorem fold_c (k : ByteArray) : ∀ (m : List Com) (s : St), mayS s = true → CtrL.InL s.c → (∀ c ∈ m, Fine c) → CtrM.getC (m.foldl (evS H l) s).c k = CtrM.w64 (CtrM.getC s.c k + cnt k m)
  | [], s, _, hi, _ => by
    show CtrM.getC s.c k = CtrM.w64 (CtrM.getC s.c k + 0)
    rw [Int.add_zero, CtrL.w64_id (CtrL.getC_in hi k)]
  | c :: m, s, hs, hi, hm => by
    rw [List.foldl_cons, fold_c k m _ (ev_may hs (hm c (by simp))) (ev_in hi) fun d hd => hm d (by simp [hd]), ev_c hs (hm c (by simp)) hi]
    show _ = CtrM.w64 (CtrM.getC s.c k + ((if c.op.kind = 0 ∧ c.op.key = k then c.op.n else 0) + cnt k m))
    generalize (if c.op.kind = 0 ∧ c.op.key = k then c.op.n else 0) = x
    simp only [CtrM.w64_eq]
    omega
theorem ev_r {s : St} {c : Com} (hs : mayS s = true) (hc : Fine c) (k : ByteArray) : RegM.getR (evS H l s c).r k = RegL.bestO (regIf k c) (RegM.getR s.r k) := by
  obtain ⟨_, m2, _⟩ := mayS_iff.1 hs
  unfold evS regIf
  by_cases h0 : c.op.kind = 0
  · rw [if_pos h0, if_neg fun q => by omega]
    rfl
  · rw [if_neg h0]
    by_cases h1 : c.op.kind = 1
    · rw [if_pos h1]
      show RegM.getR (RegL.putR s.r (regC c)) k = _
      rw [RegL.put_get (r := regC c) m2 (reg_may hc.op h1 hc.ev hc.gen), RegL.getR_one]
      by_cases hk : c.op.key = k
      · rw [if_pos (show (regC c).key = k from hk), if_pos ⟨h1, hk⟩]
      · rw [if_neg (show ¬ (regC c).key = k from hk), if_neg fun q => hk q.2]
    · rw [if_neg h1, if_neg (c := c.op.kind = 1 ∧ c.op.key = k) fun q => h1 q.1]
      split <;> rfl
theorem fold_r (k : ByteArray) : ∀ (m : List Com) (s : St), mayS s = true → (∀ c ∈ m, Fine c) → RegM.getR (m.foldl (evS H l) s).r k = RegL.bestO (newR k m) (RegM.getR s.r k)
  | [], _, _, _ => rfl
  | c :: m, s, hs, hm => by
    rw [List.foldl_cons, fold_r k m _ (ev_may hs (hm c (by simp))) fun d hd => hm d (by simp [hd]), ev_r hs (hm c (by simp))]
    exact (RegL.bestO_three (of_new k m) (of_if k c) (RegL.of_get _ k)).symm
theorem ev_p {s : St} {c : Com} (hs : mayS s = true) (hc : Fine c) (x : PairM.Pr) : x ∈ (evS H l s c).p ↔ x ∈ s.p ∨ (c.op.kind = 2 ∧ ¬ Gone H l c ∧ x = pairC c) := by
  obtain ⟨_, _, m3⟩ := mayS_iff.1 hs
  unfold evS
  by_cases h0 : c.op.kind = 0
  · rw [if_pos h0]
    exact ⟨.inl, fun h => h.elim id fun q => by omega⟩
  · rw [if_neg h0]
    by_cases h1 : c.op.kind = 1
    · rw [if_pos h1]
      exact ⟨.inl, fun h => h.elim id fun q => by omega⟩
    · rw [if_neg h1]
      by_cases h2 : c.op.kind = 2 ∧ ¬ Gone H l c
      · rw [if_pos h2]
        show x ∈ PairM.addP s.p (pairC c) ↔ _
        rw [PairM.add_mem (p := pairC c) m3 (pair_may hc.op h2.1 hc.ev)]
        exact ⟨fun h => h.elim (fun q => .inr ⟨h2.1, h2.2, q⟩) .inl, fun h => h.elim .inr fun q => .inl q.2.2⟩
      · rw [if_neg h2]
        exact ⟨.inl, fun h => h.elim id fun q => absurd ⟨q.1, q.2.1⟩ h2⟩
theorem fold_p (x : PairM.Pr) : ∀ (m : List Com) (s : St), mayS s = true → (∀ c ∈ m, Fine c) → (x ∈ (m.foldl (evS H l) s).p ↔ x ∈ s.p ∨ ∃ c ∈ m, c.op.kind = 2 ∧ ¬ Gone H l c ∧ x = pairC c)
  | [], s, _, _ => ⟨.inl, fun h => h.elim id fun ⟨_, hc, _⟩ => by cases hc⟩
  | c :: m, s, hs, hm => by
    rw [List.foldl_cons, fold_p x m _ (ev_may hs (hm c (by simp))) (fun d hd => hm d (by simp [hd])), ev_p hs (hm c (by simp))]
    constructor
    · rintro ((h | h) | ⟨d, hd, h⟩)
      · exact .inl h
      · exact .inr ⟨c, by simp, h⟩
      · exact .inr ⟨d, by simp [hd], h⟩
    · rintro (h | ⟨d, hd, h⟩)
      · exact .inl (.inl h)
      · rcases List.mem_cons.1 hd with rfl | hd
        · exact .inl (.inr h)
        · exact .inr ⟨d, hd, h⟩
/-- What the state of commits has. -/
theorem eval_may (hl : ∀ c ∈ l, Fine c) : mayS (evalK H l) = true := fold_may l noS may_noS hl
theorem in_noS : CtrL.InL noS.c := fun c hc => by cases hc
theorem eval_c (hl : ∀ c ∈ l, Fine c) (k : ByteArray) : CtrM.getC (evalK H l).c k = CtrM.w64 (cnt k l) := by
  unfold evalK
  rw [fold_c k l noS may_noS in_noS hl]
  show CtrM.w64 (0 + cnt k l) = _
  rw [Int.zero_add]
theorem eval_r (hl : ∀ c ∈ l, Fine c) (k : ByteArray) : RegM.getR (evalK H l).r k = newR k l := by
  unfold evalK
  rw [fold_r k l noS may_noS hl]
  exact RegL.bestO_none _
theorem eval_p (hl : ∀ c ∈ l, Fine c) (x : PairM.Pr) : x ∈ (evalK H l).p ↔ ∃ c ∈ l, c.op.kind = 2 ∧ ¬ Gone H l c ∧ x = pairC c := by
  unfold evalK
  rw [fold_p x l noS may_noS hl]
  exact ⟨fun h => h.elim (fun q => by cases q) id, .inr⟩
/-- A state that has just that is it. -/
theorem eval_is {s : St} (hl : ∀ c ∈ l, Fine c) (hs : mayS s = true) (hc : ∀ k, CtrM.getC s.c k = CtrM.w64 (cnt k l)) (hr : ∀ k, RegM.getR s.r k = newR k l) (hp : ∀ x, x ∈ s.p ↔ ∃ c ∈ l, c.op.kind = 2 ∧ ¬ Gone H l c ∧ x = pairC c) : s = evalK H l := by
  obtain ⟨m1, m2, m3⟩ := mayS_iff.1 hs
  obtain ⟨n1, n2, n3⟩ := mayS_iff.1 (eval_may (H := H) hl)
  exact St_ext (CtrM.det m1 n1 fun k => by rw [hc, eval_c hl]) (RegL.det m2 n2 fun k => by rw [hr, eval_r hl]) (PairM.det (PairM.ris m3) (PairM.ris n3) fun x => by rw [hp, eval_p hl])
/-- In whatever order. -/
theorem cnt_perm (k : ByteArray) {l m : List Com} (h : l.Perm m) : cnt k l = cnt k m := by
  induction h with
  | nil => rfl
  | cons c _ ih => unfold cnt; rw [ih]
  | swap a b l => unfold cnt; unfold cnt; omega
  | trans _ _ h1 h2 => rw [h1, h2]
theorem new_perm (k : ByteArray) {l m : List Com} (h : l.Perm m) : newR k l = newR k m := by
  induction h with
  | nil => rfl
  | cons c _ ih => unfold newR; rw [ih]
  | swap a b l =>
    show RegL.bestO (RegL.bestO (newR k l) (regIf k a)) (regIf k b) = RegL.bestO (RegL.bestO (newR k l) (regIf k b)) (regIf k a)
    rw [RegL.bestO_three (of_new k l) (of_if k a) (of_if k b), RegL.bestO_turn (of_if k a) (of_if k b), ← RegL.bestO_three (of_new k l) (of_if k b) (of_if k a)]
  | trans _ _ h1 h2 => rw [h1, h2]
theorem gone_perm {l m : List Com} (h : ∀ c, c ∈ l ↔ c ∈ m) {c : Com} : Gone H l c → Gone H m c := fun ⟨d, hd, h1, h2, h3, h4⟩ => ⟨d, (h d).1 hd, h1, h2, h3, kn_perm h h4⟩
theorem eval_perm {l m : List Com} (h : l.Perm m) (hl : ∀ c ∈ l, Fine c) : evalK H l = evalK H m := by
  have hm : ∀ c ∈ m, Fine c := fun c hc => hl c (h.mem_iff.2 hc)
  refine eval_is hm (eval_may hl) (fun k => by rw [eval_c hl, cnt_perm k h]) (fun k => by rw [eval_r hl, new_perm k h]) fun x => ?_
  rw [eval_p hl]
  constructor
  · rintro ⟨c, hc, h1, h2, h3⟩
    exact ⟨c, h.mem_iff.1 hc, h1, fun g => h2 (gone_perm (fun d => h.symm.mem_iff) g), h3⟩
  · rintro ⟨c, hc, h1, h2, h3⟩
    exact ⟨c, h.mem_iff.2 hc, h1, fun g => h2 (gone_perm (fun d => h.mem_iff) g), h3⟩
/-- Behind one more that knows all. -/
theorem cnt_snoc (k : ByteArray) (l : List Com) (c : Com) : cnt k (l ++ [c]) = cnt k l + if c.op.kind = 0 ∧ c.op.key = k then c.op.n else 0 := by
  induction l with
  | nil =>
    show (if c.op.kind = 0 ∧ c.op.key = k then c.op.n else 0) + 0 = 0 + _
    omega
  | cons d l ih =>
    show (if d.op.kind = 0 ∧ d.op.key = k then d.op.n else 0) + cnt k (l ++ [c]) = (if d.op.kind = 0 ∧ d.op.key = k then d.op.n else 0) + cnt k l + _
    rw [ih]
    omega
/-- Of two lists together: what the three come to. -/
theorem part_cons (c : Com) (l : List Com) (p : Idn → Prop) : DgM.part H (c :: l) p = if p (H c) then c :: DgM.part H l p else DgM.part H l p := by
  unfold DgM.part
  rw [List.filter_cons]
  by_cases h : p (H c)
  · rw [if_pos h, if_pos (decide_eq_true h)]
  · rw [if_neg h, if_neg (by simpa using h)]
theorem cnt_both (k : ByteArray) (P Q : Idn → Prop) : ∀ l : List Com, cnt k (DgM.part H l fun x => P x ∨ Q x) + cnt k (DgM.part H l fun x => P x ∧ Q x) = cnt k (DgM.part H l P) + cnt k (DgM.part H l Q)
  | [] => rfl
  | c :: l => by
    have ih := cnt_both k P Q l
    have e : ∀ m : List Com, cnt k (c :: m) = (if c.op.kind = 0 ∧ c.op.key = k then c.op.n else 0) + cnt k m := fun _ => rfl
    rw [part_cons, part_cons, part_cons, part_cons]
    by_cases hP : P (H c) <;> by_cases hQ : Q (H c) <;> simp only [hP, hQ, or_true, or_false, and_true, and_false, if_true, if_false, or_self, and_self, e] <;> omega
theorem new_both (k : ByteArray) (P Q : Idn → Prop) : ∀ l : List Com, newR k (DgM.part H l fun x => P x ∨ Q x) = RegL.bestO (newR k (DgM.part H l Q)) (newR k (DgM.part H l P))
  | [] => rfl
  | c :: l => by
    have ih := new_both k P Q l
    have e : ∀ m : List Com, newR k (c :: m) = RegL.bestO (newR k m) (regIf k c) := fun _ => rfl
    have oA := of_new k (DgM.part H l P)
    have oB := of_new k (DgM.part H l Q)
    have oc := of_if k c
    rw [part_cons, part_cons, part_cons]
    by_cases hP : P (H c) <;> by_cases hQ : Q (H c) <;> simp only [hP, hQ, or_true, or_false, if_true, if_false, or_self, e, ih]
    · rw [RegL.bestO_three oB oc (oA.both oc), ← RegL.bestO_three oc oA oc, RegL.bestO_turn oc oA, RegL.bestO_three oA oc oc, RegL.bestO_self, ← RegL.bestO_three oB oA oc]
    · rw [← RegL.bestO_three oB oA oc]
    · rw [RegL.bestO_three oB oA oc, RegL.bestO_turn oA oc, ← RegL.bestO_three oB oc oA]
/-- Told by ids that are there. -/
def GoneP (H : Com → Idn) (l : List Com) (p : Idn → Prop) (c : Com) : Prop := ∃ d ∈ l, p (H d) ∧ d.op.kind = 3 ∧ d.op.key = c.op.key ∧ d.op.elem = c.op.elem ∧ Kn H l (H d) (H c)
theorem gone_part {p : Idn → Prop} (hp : Down H l p) {c : Com} : Gone H (DgM.part H l p) c ↔ GoneP H l p c := by
  constructor
  · rintro ⟨d, hd, h1, h2, h3, h4⟩
    obtain ⟨d1, d2⟩ := mem_part.1 hd
    exact ⟨d, d1, d2, h1, h2, h3, kn_part h4⟩
  · rintro ⟨d, hd, h0, h1, h2, h3, h4⟩
    exact ⟨d, mem_part.2 ⟨hd, h0⟩, h1, h2, h3, (kn_in hp h4 h0).1⟩
theorem pair_one (C : Closed H l) {c d : Com} (hc : c ∈ l) (hd : d ∈ l) (h : pairC c = pairC d) : c = d := Classical.byContradiction fun hne => by
  have h1 : c.node = d.node := congrArg PairM.Pr.node h
  have h2 : c.seq = d.seq := congrArg PairM.Pr.seq h
  exact (C.node c hc d hd hne h1).1 h2
theorem part_p (C : Closed H l) {p : Idn → Prop} (hp : Down H l p) {c : Com} (hc : c ∈ l) (h2 : c.op.kind = 2) : pairC c ∈ (evalK H (DgM.part H l p)).p ↔ p (H c) ∧ ¬ GoneP H l p c := by
  rw [eval_p (fine_all (closed_part C hp))]
  constructor
  · rintro ⟨d, hd, _, h3, h4⟩
    obtain ⟨d1, d2⟩ := mem_part.1 hd
    obtain rfl := pair_one C hc d1 h4
    exact ⟨d2, fun g => h3 ((gone_part hp).2 g)⟩
  · rintro ⟨h3, h4⟩
    exact ⟨c, mem_part.2 ⟨hc, h3⟩, h2, fun g => h4 ((gone_part hp).1 g), rfl⟩
theorem part_ex (C : Closed H l) {p : Idn → Prop} (hp : Down H l p) {x : PairM.Pr} (h : x ∈ (evalK H (DgM.part H l p)).p) : ∃ c ∈ l, c.op.kind = 2 ∧ x = pairC c := by
  obtain ⟨c, hc, h2, _, h4⟩ := (eval_p (fine_all (closed_part C hp)) x).1 h
  exact ⟨c, (mem_part.1 hc).1, h2, h4⟩
theorem down_and {P Q : Idn → Prop} (hP : Down H l P) (hQ : Down H l Q) : Down H l fun x => P x ∧ Q x := fun c hc h a ha => ⟨hP c hc h.1 a ha, hQ c hc h.2 a ha⟩
theorem down_or {P Q : Idn → Prop} (hP : Down H l P) (hQ : Down H l Q) : Down H l fun x => P x ∨ Q x := fun c hc h a ha => h.elim (fun h => .inl (hP c hc h a ha)) fun h => .inr (hQ c hc h a ha)
theorem eval_three {P Q : Idn → Prop} (C : Closed H l) (hP : Down H l P) (hQ : Down H l Q) :
    joinS (evalK H (DgM.part H l fun x => P x ∧ Q x)) (evalK H (DgM.part H l P)) (evalK H (DgM.part H l Q)) = evalK H (DgM.part H l fun x => P x ∨ Q x) := by
  have hZ := down_and hP hQ
  have hU := down_or hP hQ
  have fA := fine_all (closed_part C hP)
  have fB := fine_all (closed_part C hQ)
  have fZ := fine_all (closed_part C hZ)
  have fU := fine_all (closed_part C hU)
  have mA := eval_may (H := H) fA
  have mB := eval_may (H := H) fB
  have mZ := eval_may (H := H) fZ
  obtain ⟨a1, a2, a3⟩ := mayS_iff.1 mA
  obtain ⟨b1, b2, b3⟩ := mayS_iff.1 mB
  obtain ⟨z1, z2, z3⟩ := mayS_iff.1 mZ
  refine eval_is fU (join_may mZ mA mB) (fun k => ?_) (fun k => ?_) fun x => ?_
  · show CtrM.getC (CtrM.mergeC _ _ _) k = _
    rw [CtrL.merge_get z1 a1 b1]
    unfold CtrM.sumC
    rw [eval_c fA, eval_c fB, eval_c fZ]
    have e := cnt_both (H := H) k P Q l
    simp only [CtrM.w64_eq]
    omega
  · show RegM.getR (RegL.mergeR _ _) k = _
    rw [RegL.merge_get a2 b2, eval_r fA, eval_r fB, new_both]
  · show x ∈ PairM.mergeP _ _ _ ↔ _
    rw [PairM.merge_mem z3 a3 b3, ← eval_p fU]
    have key : ∀ c ∈ l, c.op.kind = 2 → (PairM.inM (evalK H (DgM.part H l fun x => P x ∧ Q x)).p (evalK H (DgM.part H l P)).p (evalK H (DgM.part H l Q)).p (pairC c) ↔ pairC c ∈ (evalK H (DgM.part H l fun x => P x ∨ Q x)).p) := by
      intro c hc h2
      unfold PairM.inM
      rw [part_p C hP hc h2, part_p C hQ hc h2, part_p C hZ hc h2, part_p C hU hc h2]
      have gU : GoneP H l (fun x => P x ∨ Q x) c ↔ GoneP H l P c ∨ GoneP H l Q c := by
        constructor
        · rintro ⟨d, hd, h0 | h0, h⟩
          · exact .inl ⟨d, hd, h0, h⟩
          · exact .inr ⟨d, hd, h0, h⟩
        · rintro (⟨d, hd, h0, h⟩ | ⟨d, hd, h0, h⟩)
          · exact ⟨d, hd, .inl h0, h⟩
          · exact ⟨d, hd, .inr h0, h⟩
      have gA : GoneP H l (fun x => P x ∧ Q x) c → GoneP H l P c := fun ⟨d, hd, h0, h⟩ => ⟨d, hd, h0.1, h⟩
      have gB : GoneP H l (fun x => P x ∧ Q x) c → GoneP H l Q c := fun ⟨d, hd, h0, h⟩ => ⟨d, hd, h0.2, h⟩
      have cA : GoneP H l P c → P (H c) := fun ⟨d, hd, h0, _, _, _, h⟩ => (kn_in hP h h0).2
      have cB : GoneP H l Q c → Q (H c) := fun ⟨d, hd, h0, _, _, _, h⟩ => (kn_in hQ h h0).2
      rw [gU]
      generalize GoneP H l (fun x => P x ∧ Q x) c = g at gA gB ⊢
      generalize GoneP H l P c = gp at gA cA ⊢
      generalize GoneP H l Q c = gq at gB cB ⊢
      generalize P (H c) = p at cA ⊢
      generalize Q (H c) = q at cB ⊢
      by_cases h1 : p <;> by_cases h2 : q <;> by_cases h3 : gp <;> by_cases h4 : gq <;> by_cases h5 : g <;> simp [h1, h2, h3, h4, h5] at gA gB cA cB ⊢
    constructor
    · intro h
      have : ∃ c ∈ l, c.op.kind = 2 ∧ x = pairC c := by
        rcases h with ⟨h, _⟩ | ⟨h, _⟩
        · exact part_ex C hP h
        · exact part_ex C hQ h
      obtain ⟨c, hc, h2, rfl⟩ := this
      exact (key c hc h2).1 h
    · intro h
      obtain ⟨c, hc, h2, rfl⟩ := part_ex C hU h
      exact (key c hc h2).2 h
/-- The state at ids. -/
noncomputable def atK (H : Com → Idn) (l : List Com) (a : List Idn) : St := evalK H (DgM.part H l (· ∈ anc H l a))
theorem down_anc (C : Closed H l) (a : List Idn) : Down H l (· ∈ anc H l a) := fun c hc h b hb => by
  have h : H c ∈ anc H l a := h
  show b ∈ anc H l a
  rw [mem_anc] at h ⊢
  exact below_down C a c hc h b hb
theorem at_three (C : Closed H l) (a b : List Idn) : joinS (atK H l (common (anc H l a) (anc H l b))) (atK H l a) (atK H l b) = atK H l (a ++ b) := by
  have hA := down_anc C a
  have hB := down_anc C b
  have e1 : DgM.part H l (· ∈ anc H l (common (anc H l a) (anc H l b))) = DgM.part H l fun x => x ∈ anc H l a ∧ x ∈ anc H l b := by
    refine part_iff fun x => ?_
    have hd : Down H l (· ∈ common (anc H l a) (anc H l b)) := fun c hc h y hy => by
      have h : H c ∈ common (anc H l a) (anc H l b) := h
      show y ∈ common (anc H l a) (anc H l b)
      rw [mem_common] at h ⊢
      exact ⟨hA c hc h.1 y hy, hB c hc h.2 y hy⟩
    rw [anc_down (rising_common _ _) (fun y hy => anc_in y ((mem_common _ _ _).1 hy).1) hd, mem_common]
  have e2 : DgM.part H l (· ∈ anc H l (a ++ b)) = DgM.part H l fun x => x ∈ anc H l a ∨ x ∈ anc H l b := by
    refine part_iff fun x => ?_
    rw [mem_anc, mem_anc, mem_anc]
    unfold Below
    constructor
    · rintro ⟨h1, h2 | ⟨y, hy, h⟩⟩
      · exact (List.mem_append.1 h2).elim (fun h => .inl ⟨h1, .inl h⟩) fun h => .inr ⟨h1, .inl h⟩
      · exact (List.mem_append.1 hy).elim (fun k => .inl ⟨h1, .inr ⟨y, k, h⟩⟩) fun k => .inr ⟨h1, .inr ⟨y, k, h⟩⟩
    · rintro (⟨h1, h2 | ⟨y, hy, h⟩⟩ | ⟨h1, h2 | ⟨y, hy, h⟩⟩)
      · exact ⟨h1, .inl (List.mem_append_left _ h2)⟩
      · exact ⟨h1, .inr ⟨y, List.mem_append_left _ hy, h⟩⟩
      · exact ⟨h1, .inl (List.mem_append_right _ h2)⟩
      · exact ⟨h1, .inr ⟨y, List.mem_append_right _ hy, h⟩⟩
  unfold atK
  rw [e1, e2]
  exact eval_three C hA hB
end
end Go.Proofs.YtgmdhaepiclkcaaGreatDoor.EaM
namespace Go.Proofs.YtgmdhaepiclkcaaGreatDoor.EaN
set_option maxRecDepth 100000
open IdM CmM DgM DgX FrM FrN StM OpsM Rise EaM
open Classical

section
variable {H : Com → Idn} {l : List Com}
/-- It has no more entries than there are commits. -/
theorem ev_len {s : St} {c : Com} {n : Nat} (h : s.c.length ≤ n ∧ s.r.length ≤ n ∧ s.p.length ≤ n) : (evS H l s c).c.length ≤ n + 1 ∧ (evS H l s c).r.length ≤ n + 1 ∧ (evS H l s c).p.length ≤ n + 1 := by
  obtain ⟨h1, h2, h3⟩ := h
  unfold evS
  split
  · refine ⟨?_, by show s.r.length ≤ _; omega, by show s.p.length ≤ _; omega⟩
    show (CtrM.incC s.c c.op.key c.op.n).length ≤ _
    unfold CtrM.incC
    split
    · have := CtrM.putC_length c.op.key (CtrM.w64 (CtrM.getC s.c c.op.key + c.op.n)) s.c
      omega
    · simp
  · split
    · refine ⟨by show s.c.length ≤ _; omega, ?_, by show s.p.length ≤ _; omega⟩
      show (RegL.putR s.r (regC c)).length ≤ _
      have := RegL.put_length s.r (regC c)
      omega
    · split
      · refine ⟨by show s.c.length ≤ _; omega, by show s.r.length ≤ _; omega, ?_⟩
        show (PairM.addP s.p (pairC c)).length ≤ _
        have := PairM.add_length s.p (pairC c)
        omega
      · exact ⟨by omega, by omega, by omega⟩
theorem fold_len : ∀ (m : List Com) (s : St) (n : Nat), s.c.length ≤ n ∧ s.r.length ≤ n ∧ s.p.length ≤ n → (m.foldl (evS H l) s).c.length ≤ n + m.length ∧ (m.foldl (evS H l) s).r.length ≤ n + m.length ∧ (m.foldl (evS H l) s).p.length ≤ n + m.length
  | [], _, _, h => h
  | c :: m, s, n, h => by
    have := fold_len m (evS H l s c) (n + 1) (ev_len h)
    rw [List.foldl_cons, List.length_cons]
    exact ⟨by omega, by omega, by omega⟩
theorem eval_len : (evalK H l).c.length ≤ l.length ∧ (evalK H l).r.length ≤ l.length ∧ (evalK H l).p.length ≤ l.length := by
  have := fold_len (H := H) (l := l) l noS 0 ⟨Nat.le_refl _, Nat.le_refl _, Nat.le_refl _⟩
  simpa [evalK] using this
end
end Go.Proofs.YtgmdhaepiclkcaaGreatDoor.EaN
