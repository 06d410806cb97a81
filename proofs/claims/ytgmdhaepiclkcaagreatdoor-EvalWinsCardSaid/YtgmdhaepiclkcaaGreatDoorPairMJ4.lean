/- Plain facts on pairs: their order, which may be, one more, without an element, merged. No condition. | Plain facts on a key's elements; pairs told from the front. No condition. | Plain facts on states: which may be, behind an operation, merged. No condition. | Plain facts on commits that know one another: what is closed, what is known, sorted lists. No condition. -/
import Derived.Test.YtgmdhaepiclkcaaGreatDoorGrowJ5
import Derived.Test.YtgmdhaepiclkcaaGreatDoorSmallJ8
import Derived.Test.YtgmdhaepiclkcaaGreatDoorCmAJ3
import Derived.Test.YtgmdhaepiclkcaaGreatDoorCtrLJ3
import Derived.Test.YtgmdhaepiclkcaaGreatDoorIdMJ4
namespace Go.Proofs.YtgmdhaepiclkcaaGreatDoor.PairM
set_option maxRecDepth 100000
open Go Byt OpsM Rise
structure Pr where
 key : ByteArray
 elem : ByteArray
 node : Int
 seq : Int
theorem Pr_ext {x y : Pr} (h1 : x.key = y.key) (h2 : x.elem = y.elem) (h3 : x.node = y.node) (h4 : x.seq = y.seq) : x = y := by
 cases x; cases y
 simp_all
instance : DecidableEq Pr := fun x y => decidable_of_iff (x.key = y.key ∧ x.elem = y.elem ∧ x.node = y.node ∧ x.seq = y.seq) ⟨fun h => Pr_ext h.1 h.2.1 h.2.2.1 h.2.2.2, fun e => by rw [e]; exact ⟨rfl, rfl, rfl, rfl⟩⟩
structure Pre {α : Type} (lt : α → α → Bool) (eq : α → α → Prop) : Prop where
 irrefl : ∀ a, lt a a = false
 trans : ∀ a b c, lt a b = true → lt b c = true → lt a c = true
 tri : ∀ a b, lt a b = false → lt b a = false → eq a b
theorem lex {α κ : Type} [DecidableEq κ] (f : α → κ) {lt : κ → κ → Bool} (H : Strict lt) {r : α → α → Bool} {eq : α → α → Prop} (R : Pre r eq) : Pre (fun a b => if f a = f b then r a b else lt (f a) (f b)) (fun a b => f a = f b ∧ eq a b) := by
 constructor
 · intro a
   simp [R.irrefl]
 · intro a b c h1 h2
   by_cases e1 : f a = f b
   · rw [if_pos e1] at h1
     by_cases e2 : f b = f c
     · rw [if_pos e2] at h2
       rw [if_pos (e1.trans e2)]
       exact R.trans a b c h1 h2
     · rw [if_neg e2] at h2
       rw [if_neg (by rw [e1]; exact e2), e1]
       exact h2
   · rw [if_neg e1] at h1
     by_cases e2 : f b = f c
     · rw [if_neg (by rw [← e2]; exact e1), ← e2]
       exact h1
     · rw [if_neg e2] at h2
       have h3 := H.trans _ _ _ h1 h2
       rw [if_neg (H.ne h3)]
       exact h3
 · intro a b h1 h2
   by_cases e1 : f a = f b
   · rw [if_pos e1] at h1
     rw [if_pos e1.symm] at h2
     exact ⟨e1, R.tri a b h1 h2⟩
   · rw [if_neg e1] at h1
     rw [if_neg (fun e => e1 e.symm)] at h2
     exact absurd (H.tri _ _ h1 h2) e1
def ltI (a b : Int) : Bool := decide (a < b)
theorem strictI : Strict ltI := by
 constructor
 · intro a; simp [ltI]
 · intro a b c h1 h2
   simp only [ltI, decide_eq_true_eq] at *
   omega
 · intro a b h1 h2
   simp only [ltI, decide_eq_false_iff_not] at *
   omega
theorem pre_last {α κ : Type} (f : α → κ) {lt : κ → κ → Bool} (H : Strict lt) : Pre (fun a b => lt (f a) (f b)) (fun a b => f a = f b) :=
 ⟨fun _ => H.irrefl _, fun _ _ _ => H.trans _ _ _, fun _ _ => H.tri _ _⟩
def lessP (a b : Pr) : Bool := if a.key = b.key then if a.elem = b.elem then if a.node = b.node then ltI a.seq b.seq else ltI a.node b.node else ltS a.elem b.elem else ltS a.key b.key
theorem strictP : Strict lessP := by
 have H := lex Pr.key strictS (lex Pr.elem strictS (lex Pr.node strictI (pre_last Pr.seq strictI)))
 exact ⟨H.irrefl, H.trans, fun a b h1 h2 => by
   obtain ⟨e1, e2, e3, e4⟩ := H.tri a b h1 h2
   exact Pr_ext e1 e2 e3 e4⟩
def oneP (p : Pr) : Bool := keyL (bytesL p.key) && (keyL (bytesL p.elem) && (decide (0 ≤ p.node) && (decide (p.node < 8) && decide (1 ≤ p.seq))))
abbrev RisP (l : List Pr) : Prop := Rises id lessP l
def mayP (l : List Pr) : Bool := l.all oneP && risesB id lessP l
theorem mayP_iff {l : List Pr} : mayP l = true ↔ (∀ p ∈ l, oneP p = true) ∧ RisP l := by
 unfold mayP
 rw [Bool.and_eq_true, List.all_eq_true, risesB_iff strictP]
theorem may_nil : mayP [] = true := rfl
theorem may_one {p : Pr} : mayP [p] = oneP p := by
 unfold mayP
 simp [risesB]
theorem det {l m : List Pr} (hl : RisP l) (hm : RisP m) (h : ∀ x, x ∈ l ↔ x ∈ m) : l = m := Rises.ext strictP hl hm h
def putP (l : List Pr) (p : Pr) : List Pr := if p ∈ l then l else l.filter (fun x => lessP x p) ++ p :: l.filter (fun x => lessP p x)
theorem less_or {x p : Pr} (h : x ≠ p) : lessP x p = true ∨ lessP p x = true := by
 cases h1 : lessP x p with
 | true => exact .inl rfl
 | false =>
   cases h2 : lessP p x with
   | true => exact .inr rfl
   | false => exact absurd (strictP.tri _ _ h1 h2) h
theorem put_mem {l : List Pr} {p : Pr} (x : Pr) : x ∈ putP l p ↔ x = p ∨ x ∈ l := by
 unfold putP
 split
 · rename_i h
   exact ⟨.inr, fun e => e.elim (fun e => by rw [e]; exact h) id⟩
 · rename_i h
   simp only [List.mem_append, List.mem_filter, List.mem_cons]
   constructor
   · rintro (⟨h1, _⟩ | h1 | ⟨h1, _⟩)
     · exact .inr h1
     · exact .inl h1
     · exact .inr h1
   · rintro (h1 | h1)
     · exact .inr (.inl h1)
     · rcases less_or (x := x) (p := p) (fun e => h (e ▸ h1)) with h2 | h2
       · exact .inl ⟨h1, h2⟩
       · exact .inr (.inr ⟨h1, h2⟩)
theorem put_rises {l : List Pr} {p : Pr} (h : RisP l) : RisP (putP l p) := by
 unfold putP
 split
 · exact h
 · unfold RisP Rises at *
   rw [List.pairwise_append]
   refine ⟨h.filter _, List.pairwise_cons.2 ⟨fun x hx => (List.mem_filter.1 hx).2, h.filter _⟩, fun x hx y hy => ?_⟩
   have hx2 := (List.mem_filter.1 hx).2
   rcases List.mem_cons.1 hy with rfl | hy
   · exact hx2
   · exact strictP.trans _ _ _ hx2 (List.mem_filter.1 hy).2
theorem put_may {l : List Pr} {p : Pr} (h : mayP l = true) (hp : oneP p = true) : mayP (putP l p) = true := by
 obtain ⟨h1, h2⟩ := mayP_iff.1 h
 refine mayP_iff.2 ⟨fun x hx => ?_, put_rises h2⟩
 rcases (put_mem x).1 hx with rfl | hx
 · exact hp
 · exact h1 x hx
theorem put_length (l : List Pr) (p : Pr) : (putP l p).length ≤ l.length + 1 := by
 unfold putP
 split
 · omega
 · rw [List.length_append, List.length_cons]
   have key : ∀ m : List Pr, (m.filter fun x => lessP x p).length + (m.filter fun x => lessP p x).length ≤ m.length := by
     intro m
     induction m with
     | nil => simp
     | cons x m ih =>
       rw [List.filter_cons, List.filter_cons, List.length_cons]
       cases h1 : lessP x p with
       | true => simp [strictP.asymm h1]; omega
       | false =>
         cases h2 : lessP p x with
         | true => simp; omega
         | false => simp; omega
   have := key l
   omega
def addP (l : List Pr) (p : Pr) : List Pr := if mayP l = true ∧ oneP p = true then putP l p else []
def offB (k e : ByteArray) (x : Pr) : Bool := decide (x.key ≠ k) || decide (x.elem ≠ e)
def delP (l : List Pr) (k e : ByteArray) : List Pr := if mayP l = true then l.filter (offB k e) else []
def inM (base a b : List Pr) (x : Pr) : Prop := (x ∈ a ∧ (x ∈ b ∨ x ∉ base)) ∨ (x ∈ b ∧ x ∉ a ∧ x ∉ base)
def fromA (base b : List Pr) (x : Pr) : Bool := decide (x ∈ b) || decide (x ∉ base)
def fromB (base a : List Pr) (x : Pr) : Bool := decide (x ∉ a) && decide (x ∉ base)
def mergeP (base a b : List Pr) : List Pr := if mayP base = true ∧ mayP a = true ∧ mayP b = true then (b.filter (fromB base a)).foldl putP ((a.filter (fromA base b)).foldl putP []) else []
theorem fold_mem : ∀ (m l : List Pr) (x : Pr), x ∈ m.foldl putP l ↔ x ∈ m ∨ x ∈ l
 | [], l, x => by simp
 | p :: m, l, x => by
   rw [List.foldl_cons, fold_mem m, put_mem, List.mem_cons]
   constructor
   · rintro (h | h | h)
     · exact .inl (.inr h)
     · exact .inl (.inl h)
     · exact .inr h
   · rintro ((h | h) | h)
     · exact .inr (.inl h)
     · exact .inl h
     · exact .inr (.inr h)
theorem fold_rises : ∀ (m l : List Pr), RisP l → RisP (m.foldl putP l)
 | [], _, h => h
 | _ :: m, _, h => fold_rises m _ (put_rises h)
theorem fold_length : ∀ (m l : List Pr), (m.foldl putP l).length ≤ l.length + m.length
 | [], l => by simp
 | p :: m, l => by
   have h1 := fold_length m (putP l p)
   have h2 := put_length l p
   rw [List.foldl_cons, List.length_cons]
   omega
theorem merge_no {base a b : List Pr} (h : mayP base = false ∨ mayP a = false ∨ mayP b = false) : mergeP base a b = [] := by
 unfold mergeP
 rw [if_neg]
 rintro ⟨h0, h1, h2⟩
 rcases h with h | h | h
 · rw [h] at h0; cases h0
 · rw [h] at h1; cases h1
 · rw [h] at h2; cases h2
section
variable {base a b : List Pr} (h0 : mayP base = true) (h1 : mayP a = true) (h2 : mayP b = true)
include h0 h1 h2
theorem merge_mem (x : Pr) : x ∈ mergeP base a b ↔ inM base a b x := by
 unfold mergeP inM
 rw [if_pos ⟨h0, h1, h2⟩, fold_mem, fold_mem]
 simp only [List.mem_filter, fromA, fromB, Bool.or_eq_true, Bool.and_eq_true, decide_eq_true_eq, List.not_mem_nil, or_false]
 constructor
 · rintro (h | h)
   · exact .inr h
   · exact .inl h
 · rintro (h | h)
   · exact .inr h
   · exact .inl h
theorem merge_may : mayP (mergeP base a b) = true := by
 refine mayP_iff.2 ⟨fun x hx => ?_, ?_⟩
 · rcases (merge_mem h0 h1 h2 x).1 hx with ⟨h, _⟩ | ⟨h, _⟩
   · exact (mayP_iff.1 h1).1 x h
   · exact (mayP_iff.1 h2).1 x h
 · unfold mergeP
   rw [if_pos ⟨h0, h1, h2⟩]
   exact fold_rises _ _ (fold_rises _ _ List.Pairwise.nil)
theorem merge_is {m : List Pr} (hr : RisP m) (h : ∀ x, x ∈ m ↔ inM base a b x) : m = mergeP base a b :=
 det hr (mayP_iff.1 (merge_may h0 h1 h2)).2 (fun x => by rw [h, merge_mem h0 h1 h2])
theorem merge_length : (mergeP base a b).length ≤ a.length + b.length := by
 unfold mergeP
 rw [if_pos ⟨h0, h1, h2⟩]
 have q1 := fold_length (a.filter (fromA base b)) []
 have q2 := fold_length (b.filter (fromB base a)) ((a.filter (fromA base b)).foldl putP [])
 have q3 := List.length_filter_le (fromA base b) a
 have q4 := List.length_filter_le (fromB base a) b
 simp only [List.length_nil, Nat.zero_add] at q1
 omega
end
theorem add_is {l : List Pr} {p : Pr} (h : mayP l = true) (hp : oneP p = true) : addP l p = putP l p := if_pos ⟨h, hp⟩
theorem add_no {l : List Pr} {p : Pr} (h : mayP l = false ∨ oneP p = false) : addP l p = [] := by
 unfold addP
 rw [if_neg]
 rintro ⟨h1, h2⟩
 rcases h with h | h
 · rw [h] at h1; cases h1
 · rw [h] at h2; cases h2
theorem add_may (l : List Pr) (p : Pr) : mayP (addP l p) = true := by
 unfold addP
 split
 · rename_i h
   exact put_may h.1 h.2
 · rfl
theorem del_may (l : List Pr) (k e : ByteArray) : mayP (delP l k e) = true := by
 unfold delP
 split
 · rename_i h
   obtain ⟨h1, h2⟩ := mayP_iff.1 h
   exact mayP_iff.2 ⟨fun x hx => h1 x (List.mem_filter.1 hx).1, h2.filter _⟩
 · rfl
theorem del_length (l : List Pr) (k e : ByteArray) : (delP l k e).length ≤ l.length := by
 unfold delP
 split
 · exact List.length_filter_le _ _
 · simp
theorem add_length (l : List Pr) (p : Pr) : (addP l p).length ≤ l.length + 1 := by
 unfold addP
 split
 · exact put_length l p
 · simp
theorem add_mem {l : List Pr} {p : Pr} (h : mayP l = true) (hp : oneP p = true) (x : Pr) : x ∈ addP l p ↔ x = p ∨ x ∈ l := by rw [add_is h hp, put_mem]
theorem ris {l : List Pr} (h : mayP l = true) : RisP l := (mayP_iff.1 h).2
end Go.Proofs.YtgmdhaepiclkcaaGreatDoor.PairM
namespace Go.Proofs.YtgmdhaepiclkcaaGreatDoor.PairN
set_option maxRecDepth 100000
open Go Byt OpsM Rise PairM
theorem all_take (l : List Pr) (k : Nat) (h : k < l.length) : (l.take (k + 1)).all oneP = ((l.take k).all oneP && oneP l[k]) := by
 rw [List.take_succ_eq_append_getElem h, List.all_append]
 simp
theorem may_first {l : List Pr} (h : 0 < l.length) : mayP (l.take 1) = oneP l[0] := by
 unfold mayP
 rw [all_take l 0 h]
 have e : risesB id lessP (l.take 1) = true := by
   rw [List.take_succ_eq_append_getElem h]
   rfl
 rw [e]
 simp
theorem may_next {l : List Pr} {k : Nat} (h : k + 1 < l.length) (hm : mayP (l.take (k + 1)) = true) : mayP (l.take (k + 2)) = (oneP l[k + 1] && lessP (l[k]'(by omega)) l[k + 1]) := by
 unfold mayP at hm ⊢
 rw [Bool.and_eq_true] at hm
 rw [all_take l (k + 1) h, risesB_take h, hm.1, hm.2]
 simp
theorem may_bad {l : List Pr} {k : Nat} (h : k < l.length) (hn : oneP l[k] = false) : mayP l = false := by
 unfold mayP
 rw [show l.all oneP = false from List.all_eq_false.2 ⟨l[k], List.getElem_mem h, by rw [hn]; simp⟩]
 rfl
theorem may_fall {l : List Pr} {k : Nat} (h : k + 1 < l.length) (hn : lessP (l[k]'(by omega)) l[k + 1] = false) : mayP l = false := by
 unfold mayP
 rw [risesB_not h hn, Bool.and_false]
end Go.Proofs.YtgmdhaepiclkcaaGreatDoor.PairN
namespace Go.Proofs.YtgmdhaepiclkcaaGreatDoor.StM
set_option maxRecDepth 100000
open Go Byt OpsM Rise
structure St where
 c : List CtrM.Cn
 r : List RegM.Rg
 p : List PairM.Pr
theorem St_ext {x y : St} (h1 : x.c = y.c) (h2 : x.r = y.r) (h3 : x.p = y.p) : x = y := by
 cases x; cases y
 simp_all
def noS : St := ⟨[], [], []⟩
def mayS (s : St) : Bool := CtrM.mayC s.c && (RegM.mayR s.r && PairM.mayP s.p)
theorem mayS_iff {s : St} : mayS s = true ↔ CtrM.mayC s.c = true ∧ RegM.mayR s.r = true ∧ PairM.mayP s.p = true := by
 unfold mayS
 rw [Bool.and_eq_true, Bool.and_eq_true]
def regO (o : Opn) (n q g : Int) : RegM.Rg := ⟨o.key, o.elem, g, n, q⟩
def pairO (o : Opn) (n q : Int) : PairM.Pr := ⟨o.key, o.elem, n, q⟩
def stepS (s : St) (o : Opn) (n q g : Int) : St :=
 if o.kind = 0 then ⟨CtrM.incC s.c o.key o.n, s.r, s.p⟩ else if o.kind = 1 then ⟨s.c, RegL.putR s.r (regO o n q g), s.p⟩ else if o.kind = 2 then ⟨s.c, s.r, PairM.addP s.p (pairO o n q)⟩ else ⟨s.c, s.r, PairM.delP s.p o.key o.elem⟩
def okD (s : St) (o : Opn) (n q g : Int) : Bool := mayS s && (mayO o && (eventB n q && decide (1 ≤ g)))
theorem okD_iff {s : St} {o : Opn} {n q g : Int} : okD s o n q g = true ↔ mayS s = true ∧ mayO o = true ∧ eventB n q = true ∧ 1 ≤ g := by
 unfold okD
 simp only [Bool.and_eq_true, decide_eq_true_eq]
def doS (s : St) (o : Opn) (n q g : Int) : Option St := if okD s o n q g = true then some (stepS s o n q g) else none
def okM (base a b : St) : Bool := mayS base && (mayS a && mayS b)
theorem okM_iff {base a b : St} : okM base a b = true ↔ mayS base = true ∧ mayS a = true ∧ mayS b = true := by
 unfold okM
 simp only [Bool.and_eq_true]
def joinS (base a b : St) : St := ⟨CtrM.mergeC base.c a.c b.c, RegL.mergeR a.r b.r, PairM.mergeP base.p a.p b.p⟩
def mergeS (base a b : St) : Option St := if okM base a b = true then some (joinS base a b) else none
theorem key_may {o : Opn} (h : mayO o = true) : keyL (bytesL o.key) = true := (mayO_kind h).1
theorem elem_may {o : Opn} (h : mayO o = true) (hk : o.kind = 1 ∨ o.kind = 2 ∨ o.kind = 3) : keyL (bytesL o.elem) = true := by
 rcases (mayO_kind h).2 with ⟨h0, _⟩ | ⟨_, h1⟩
 · omega
 · unfold elemB at h1
   rw [Bool.and_eq_true] at h1
   exact h1.1
theorem kind_may {o : Opn} (h : mayO o = true) : o.kind = 0 ∨ o.kind = 1 ∨ o.kind = 2 ∨ o.kind = 3 := by
 rcases (mayO_kind h).2 with ⟨h0, _⟩ | ⟨h1, _⟩
 · exact .inl h0
 · exact .inr h1
theorem reg_may {o : Opn} {n q g : Int} (h : mayO o = true) (hk : o.kind = 1) (he : eventB n q = true) (hg : 1 ≤ g) : RegM.oneR (regO o n q g) = true := by
 have h1 := key_may h
 have h2 := elem_may h (.inl hk)
 obtain ⟨⟨e1, e2⟩, e3, e4⟩ := eventB_iff.1 he
 unfold RegM.oneR regO
 simp only [Bool.and_eq_true, decide_eq_true_eq]
 exact ⟨h1, h2, by omega, by omega, by omega, by omega⟩
theorem pair_may {o : Opn} {n q : Int} (h : mayO o = true) (hk : o.kind = 2) (he : eventB n q = true) : PairM.oneP (pairO o n q) = true := by
 have h1 := key_may h
 have h2 := elem_may h (.inr (.inl hk))
 obtain ⟨⟨e1, e2⟩, e3, e4⟩ := eventB_iff.1 he
 unfold PairM.oneP pairO
 simp only [Bool.and_eq_true, decide_eq_true_eq]
 exact ⟨h1, h2, e1, e2, e3⟩
theorem step_may {s : St} {o : Opn} {n q g : Int} (h : okD s o n q g = true) : mayS (stepS s o n q g) = true := by
 obtain ⟨h1, h2, h3, h4⟩ := okD_iff.1 h
 obtain ⟨m1, m2, m3⟩ := mayS_iff.1 h1
 unfold stepS
 split
 · exact mayS_iff.2 ⟨CtrL.inc_may _ m1 (key_may h2), m2, m3⟩
 · split
   · exact mayS_iff.2 ⟨m1, RegL.put_may _ _, m3⟩
   · split
     · exact mayS_iff.2 ⟨m1, m2, PairM.add_may _ _⟩
     · exact mayS_iff.2 ⟨m1, m2, PairM.del_may _ _ _⟩
section
variable {base a b c : St}
theorem join_may (h0 : mayS base = true) (h1 : mayS a = true) (h2 : mayS b = true) : mayS (joinS base a b) = true := by
 obtain ⟨p1, p2, p3⟩ := mayS_iff.1 h0
 obtain ⟨q1, q2, q3⟩ := mayS_iff.1 h1
 obtain ⟨r1, r2, r3⟩ := mayS_iff.1 h2
 exact mayS_iff.2 ⟨CtrL.merge_may p1 q1 r1, RegL.merge_may _ _, PairM.merge_may p3 q3 r3⟩
end
end Go.Proofs.YtgmdhaepiclkcaaGreatDoor.StM
namespace Go.Proofs.YtgmdhaepiclkcaaGreatDoor.DgM
set_option maxRecDepth 100000
open IdM CmM
open Classical
section
variable {H : Com → Idn}
def Par (H : Com → Idn) (l : List Com) (a b : Idn) : Prop := ∃ c ∈ l, H c = a ∧ b ∈ c.ps
inductive Kn (H : Com → Idn) (l : List Com) : Idn → Idn → Prop
 | one {a b : Idn} : Par H l a b → Kn H l a b
 | more {a b c : Idn} : Par H l a b → Kn H l b c → Kn H l a c
theorem Kn.trans {l : List Com} {a b c : Idn} (h : Kn H l a b) (k : Kn H l b c) : Kn H l a c := by
 induction h with
 | one h => exact .more h k
 | more h _ ih => exact .more h (ih k)
def look (H : Com → Idn) (l : List Com) (a : Idn) : Option Com := l.find? fun c => decide (H c = a)
def gAt (H : Com → Idn) (l : List Com) (a : Idn) : Int := ((look H l a).map (·.gen)).getD 0
def most (l : List Int) : Int := l.foldl max 0
theorem foldl_max (l : List Int) : ∀ m : Int, m ≤ l.foldl max m ∧ (∀ x ∈ l, x ≤ l.foldl max m) ∧ (l.foldl max m = m ∨ l.foldl max m ∈ l) := by
 induction l with
 | nil => intro m; simp
 | cons y l ih =>
   intro m
   obtain ⟨h1, h2, h3⟩ := ih (max m y)
   refine ⟨by simp only [List.foldl_cons]; omega, fun x hx => ?_, ?_⟩
   · rcases List.mem_cons.1 hx with rfl | hx
     · simp only [List.foldl_cons]; omega
     · exact h2 x hx
   · simp only [List.foldl_cons]
     rcases h3 with h3 | h3
     · rw [h3]
       by_cases h : m ≤ y
       · right; rw [Int.max_eq_right h]; simp
       · left; rw [Int.max_eq_left (by omega)]
     · right; exact List.mem_cons_of_mem _ h3
theorem le_most {l : List Int} {x : Int} (h : x ∈ l) : x ≤ most l := (foldl_max l 0).2.1 x h
structure Closed (H : Com → Idn) (l : List Com) : Prop where
 may : ∀ c ∈ l, mayK c = true
 merge : ∀ c ∈ l, isM c = false
 nodup : (l.map H).Nodup
 found : ∀ c ∈ l, ∀ a ∈ c.ps, a ∈ l.map H
 gen : ∀ c ∈ l, c.gen = 1 + most (c.ps.map (gAt H l))
 apart : ∀ c ∈ l, ∀ a ∈ c.ps, ∀ b ∈ c.ps, ¬ Kn H l a b
 node : ∀ c ∈ l, ∀ d ∈ l, c ≠ d → c.node = d.node → c.seq ≠ d.seq ∧ (d.seq < c.seq → Kn H l (H c) (H d))
theorem closed_nil : Closed H [] := ⟨by simp, by simp, by simp, by simp, by simp, by simp, by simp⟩
theorem same_of {l : List Com} (h : (l.map H).Nodup) {c d : Com} (hc : c ∈ l) (hd : d ∈ l) (e : H c = H d) : c = d := by
 induction l with
 | nil => simp at hc
 | cons x l ih =>
   rw [List.map_cons, List.nodup_cons] at h
   rcases List.mem_cons.1 hc with h1 | h1 <;> rcases List.mem_cons.1 hd with h2 | h2
   · rw [h1, h2]
   · subst h1
     exact absurd (by rw [e]; exact List.mem_map_of_mem h2) h.1
   · subst h2
     exact absurd (by rw [← e]; exact List.mem_map_of_mem h1) h.1
   · exact ih h.2 h1 h2
theorem look_some {l : List Com} (h : (l.map H).Nodup) {c : Com} (hc : c ∈ l) : look H l (H c) = some c := by
 unfold look
 cases hf : l.find? (fun d => decide (H d = H c)) with
 | none =>
   have := List.find?_eq_none.1 hf c hc
   simp at this
 | some d =>
   have h1 := List.mem_of_find?_eq_some hf
   have h2 := List.find?_some hf
   rw [same_of h h1 hc (of_decide_eq_true h2)]
theorem gAt_of {l : List Com} (h : (l.map H).Nodup) {c : Com} (hc : c ∈ l) : gAt H l (H c) = c.gen := by
 unfold gAt
 rw [look_some h hc]
 rfl
theorem kn_src {l : List Com} {a b : Idn} (h : Kn H l a b) : a ∈ l.map H := by
 cases h with
 | one h => obtain ⟨c, hc, rfl, _⟩ := h; exact List.mem_map_of_mem hc
 | more h _ => obtain ⟨c, hc, rfl, _⟩ := h; exact List.mem_map_of_mem hc
theorem par_gen {l : List Com} (C : Closed H l) {a b : Idn} (h : Par H l a b) : gAt H l b < gAt H l a := by
 obtain ⟨c, hc, rfl, hb⟩ := h
 rw [gAt_of C.nodup hc, C.gen c hc]
 have := le_most (List.mem_map_of_mem (f := gAt H l) hb)
 omega
theorem kn_gen {l : List Com} (C : Closed H l) {a b : Idn} (h : Kn H l a b) : gAt H l b < gAt H l a := by
 induction h with
 | one h => exact par_gen C h
 | more h _ ih => have := par_gen C h; omega
theorem kn_irrefl {l : List Com} (C : Closed H l) {a : Idn} : ¬ Kn H l a a := fun h => by
 have := kn_gen C h
 omega
noncomputable def part (H : Com → Idn) (l : List Com) (p : Idn → Prop) : List Com := l.filter fun c => decide (p (H c))
theorem mem_part {l : List Com} {p : Idn → Prop} {c : Com} : c ∈ part H l p ↔ c ∈ l ∧ p (H c) := by simp [part]
def Down (H : Com → Idn) (l : List Com) (p : Idn → Prop) : Prop := ∀ c ∈ l, p (H c) → ∀ a ∈ c.ps, p a
theorem par_part {l : List Com} {p : Idn → Prop} {a b : Idn} (h : Par H (part H l p) a b) : Par H l a b := by
 obtain ⟨c, hc, e, hb⟩ := h
 exact ⟨c, (mem_part.1 hc).1, e, hb⟩
theorem kn_part {l : List Com} {p : Idn → Prop} {a b : Idn} (h : Kn H (part H l p) a b) : Kn H l a b := by
 induction h with
 | one h => exact .one (par_part h)
 | more h _ ih => exact .more (par_part h) ih
theorem kn_in {l : List Com} {p : Idn → Prop} (hd : Down H l p) {a b : Idn} (h : Kn H l a b) (ha : p a) : Kn H (part H l p) a b ∧ p b := by
 induction h with
 | one h =>
   obtain ⟨c, hc, rfl, hb⟩ := h
   exact ⟨.one ⟨c, mem_part.2 ⟨hc, ha⟩, rfl, hb⟩, hd c hc ha _ hb⟩
 | more h _ ih =>
   obtain ⟨c, hc, rfl, hb⟩ := h
   obtain ⟨h1, h2⟩ := ih (hd c hc ha _ hb)
   exact ⟨.more ⟨c, mem_part.2 ⟨hc, ha⟩, rfl, hb⟩ h1, h2⟩
theorem mem_map {l : List Com} {p : Idn → Prop} {a : Idn} : a ∈ (part H l p).map H ↔ a ∈ l.map H ∧ p a := by
 rw [List.mem_map, List.mem_map]
 constructor
 · rintro ⟨c, hc, rfl⟩
   obtain ⟨h1, h2⟩ := mem_part.1 hc
   exact ⟨⟨c, h1, rfl⟩, h2⟩
 · rintro ⟨⟨c, hc, rfl⟩, h⟩
   exact ⟨c, mem_part.2 ⟨hc, h⟩, rfl⟩
theorem part_nodup {l : List Com} (C : Closed H l) (p : Idn → Prop) : ((part H l p).map H).Nodup := C.nodup.sublist (List.filter_sublist.map H)
theorem gAt_part {l : List Com} (C : Closed H l) {p : Idn → Prop} {a : Idn} (ha : a ∈ l.map H) (hp : p a) : gAt H (part H l p) a = gAt H l a := by
 obtain ⟨c, hc, rfl⟩ := List.mem_map.1 ha
 have hn := part_nodup C p
 rw [gAt_of hn (mem_part.2 ⟨hc, hp⟩), gAt_of C.nodup hc]
theorem closed_part {l : List Com} (C : Closed H l) {p : Idn → Prop} (hd : Down H l p) : Closed H (part H l p) := by
 have hn := part_nodup C p
 refine ⟨fun c hc => C.may c (mem_part.1 hc).1, fun c hc => C.merge c (mem_part.1 hc).1, hn, fun c hc a ha => ?_, fun c hc => ?_, fun c hc a ha b hb h => ?_, fun c hc d hd' hne hnode => ?_⟩
 · obtain ⟨h1, h2⟩ := mem_part.1 hc
   exact mem_map.2 ⟨C.found c h1 a ha, hd c h1 h2 a ha⟩
 · obtain ⟨h1, h2⟩ := mem_part.1 hc
   rw [C.gen c h1]
   congr 2
   exact List.map_congr_left fun a ha => (gAt_part C (C.found c h1 a ha) (hd c h1 h2 a ha)).symm
 · exact C.apart c (mem_part.1 hc).1 a ha b hb (kn_part h)
 · obtain ⟨h1, h2⟩ := mem_part.1 hc
   obtain ⟨h3, _⟩ := mem_part.1 hd'
   obtain ⟨k1, k2⟩ := C.node c h1 d h3 hne hnode
   exact ⟨k1, fun hs => (kn_in hd (k2 hs) h2).1⟩
def Below (H : Com → Idn) (l : List Com) (a : List Idn) (x : Idn) : Prop := x ∈ l.map H ∧ (x ∈ a ∨ ∃ y ∈ a, Kn H l y x)
theorem below_down {l : List Com} (C : Closed H l) (a : List Idn) : Down H l (Below H l a) := by
 rintro c hc ⟨_, h⟩ b hb
 have hp : Par H l (H c) b := ⟨c, hc, rfl, hb⟩
 refine ⟨C.found c hc b hb, .inr ?_⟩
 rcases h with h | ⟨y, hy, h⟩
 · exact ⟨H c, h, .one hp⟩
 · exact ⟨y, hy, h.trans (.one hp)⟩
noncomputable def anc (H : Com → Idn) (l : List Com) (a : List Idn) : List Idn := sort ((l.map H).filter fun x => decide (Below H l a x))
theorem mem_anc {l : List Com} {a : List Idn} {x : Idn} : x ∈ anc H l a ↔ Below H l a x := by
 unfold anc
 rw [mem_sort, List.mem_filter, decide_eq_true_eq]
 exact ⟨fun h => h.2, fun h => ⟨h.1, h⟩⟩
theorem rising_anc (l : List Com) (a : List Idn) : Rising (anc H l a) := rising_sort _
theorem anc_in {l : List Com} {a : List Idn} : ∀ x ∈ anc H l a, x ∈ l.map H := fun _ h => (mem_anc.1 h).1
theorem part_len {l : List Com} (C : Closed H l) (a : List Idn) : (part H l (· ∈ anc H l a)).length = (anc H l a).length := by
 have h1 := part_nodup C (· ∈ anc H l a)
 have h2 := perm_of h1 (rising_nodup (rising_anc (H := H) l a)) fun x => by
   rw [mem_map]
   exact ⟨fun h => h.2, fun h => ⟨anc_in x h, h⟩⟩
 have := h2.length_eq
 rwa [List.length_map] at this
theorem closed_anc {l : List Com} (C : Closed H l) (a : List Idn) : Closed H (part H l (· ∈ anc H l a)) := closed_part C fun c hc h b hb => by
 have h : H c ∈ anc H l a := h
 show b ∈ anc H l a
 rw [mem_anc] at h ⊢
 exact below_down C a c hc h b hb
theorem kn_perm {l m : List Com} (h : ∀ c, c ∈ l ↔ c ∈ m) {a b : Idn} (k : Kn H l a b) : Kn H m a b := by
 induction k with
 | one k => obtain ⟨c, hc, e, hb⟩ := k; exact .one ⟨c, (h c).1 hc, e, hb⟩
 | more k _ ih => obtain ⟨c, hc, e, hb⟩ := k; exact .more ⟨c, (h c).1 hc, e, hb⟩ ih
theorem closed_perm {l m : List Com} (C : Closed H l) (h : l.Perm m) : Closed H m := by
 have hm : ∀ c, c ∈ l ↔ c ∈ m := fun c => h.mem_iff
 have hm' : ∀ c, c ∈ m ↔ c ∈ l := fun c => (hm c).symm
 have hn : (m.map H).Nodup := (h.map H).nodup_iff.1 C.nodup
 have hg : ∀ a ∈ l.map H, gAt H m a = gAt H l a := fun a ha => by
   obtain ⟨c, hc, rfl⟩ := List.mem_map.1 ha
   rw [gAt_of hn ((hm c).1 hc), gAt_of C.nodup hc]
 refine ⟨fun c hc => C.may c ((hm c).2 hc), fun c hc => C.merge c ((hm c).2 hc), hn, fun c hc a ha => ?_, fun c hc => ?_, fun c hc a ha b hb k => C.apart c ((hm c).2 hc) a ha b hb (kn_perm hm' k), fun c hc d hd hne hnode => ?_⟩
 · exact (h.map H).mem_iff.1 (C.found c ((hm c).2 hc) a ha)
 · rw [C.gen c ((hm c).2 hc)]
   congr 2
   exact List.map_congr_left fun a ha => (hg a (C.found c ((hm c).2 hc) a ha)).symm
 · obtain ⟨h1, h2⟩ := C.node c ((hm c).2 hc) d ((hm d).2 hd) hne hnode
   exact ⟨h1, fun hs => kn_perm hm (h2 hs)⟩
def Ahead (H : Com → Idn) (c d : Com) : Prop := c.gen < d.gen ∨ c.gen = d.gen ∧ less (H c) (H d) = true
def InOrder (H : Com → Idn) (l : List Com) : Prop := l.Pairwise (Ahead H)
theorem ahead_asymm {c d : Com} (h : Ahead H c d) (k : Ahead H d c) : False := by
 rcases h with h | ⟨h, h'⟩ <;> rcases k with k | ⟨k, k'⟩
 · omega
 · omega
 · omega
 · rw [less_asymm h'] at k'; cases k'
theorem part_pre {t d : List Com} (hn : ((t ++ d).map H).Nodup) : part H (t ++ d) (· ∈ t.map H) = t := by
 rw [List.map_append, List.nodup_append] at hn
 unfold part
 rw [List.filter_append, List.filter_eq_self.2, List.filter_eq_nil_iff.2, List.append_nil]
 · intro c hc h
   simp only [decide_eq_true_eq] at h
   exact hn.2.2 _ h _ (List.mem_map_of_mem hc) rfl
 · intro c hc
   simp only [decide_eq_true_eq]
   exact List.mem_map_of_mem hc
theorem closed_take {l : List Com} (C : Closed H l) (ho : InOrder H l) (i : Nat) : Closed H (l.take i) := by
 have hp : l.take i = part H l (· ∈ (l.take i).map H) := by
   have hn := C.nodup
   have := part_pre (H := H) (t := l.take i) (d := l.drop i) (by rw [List.take_append_drop]; exact hn)
   rw [List.take_append_drop] at this
   exact this.symm
 rw [hp]
 refine closed_part C fun c hc h b hb => ?_
 have hcb := par_gen C ⟨c, hc, rfl, hb⟩
 obtain ⟨d, hd, e⟩ := List.mem_map.1 (C.found c hc b hb)
 rw [gAt_of C.nodup hc, ← e, gAt_of C.nodup hd] at hcb
 have hc' : c ∈ l.take i := by
   obtain ⟨c', h1, h2⟩ := List.mem_map.1 h
   rwa [← same_of C.nodup (List.mem_of_mem_take h1) hc h2]
 rw [← e]
 refine List.mem_map_of_mem ?_
 rw [← List.take_append_drop i l] at hd
 rcases List.mem_append.1 hd with hd | hd
 · exact hd
 · have ho' := ho
   unfold InOrder at ho'
   rw [← List.take_append_drop i l, List.pairwise_append] at ho'
   rcases ho'.2.2 c hc' d hd with h | h <;> omega
end
end Go.Proofs.YtgmdhaepiclkcaaGreatDoor.DgM
