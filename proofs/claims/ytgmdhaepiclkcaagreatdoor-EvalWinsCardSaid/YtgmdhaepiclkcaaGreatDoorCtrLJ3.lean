/- Plain facts on counts with more, and merged. No condition. | Plain facts on registers: which may be, which one is newer, what a key has, with one more, and merged. No condition. | Plain facts on registers with one more, and merged. No condition. -/
import Derived.Test.YtgmdhaepiclkcaaGreatDoorCmAJ3
import Derived.Test.YtgmdhaepiclkcaaGreatDoorGrowJ5
import Derived.Test.YtgmdhaepiclkcaaGreatDoorSmallJ8
namespace Go.Proofs.YtgmdhaepiclkcaaGreatDoor.CtrL
set_option maxRecDepth 100000
open Go Byt OpsM Rise CtrM
def In64 (x : Int) : Prop := -9223372036854775808 ≤ x ∧ x ≤ 9223372036854775807
def InL (l : List Cn) : Prop := ∀ c ∈ l, In64 c.n
theorem w64_in (x : Int) : In64 (w64 x) := by unfold In64; rw [w64_eq]; omega
theorem w64_id {x : Int} (h : In64 x) : w64 x = x := by unfold In64 at h; rw [w64_eq]; omega
theorem getC_in {l : List Cn} (h : InL l) (k : ByteArray) : In64 (getC l k) := by
 by_cases h0 : getC l k = 0
 · rw [h0]; unfold In64; omega
 · obtain ⟨c, hc, _, e⟩ := getC_ex h0
   rw [← e]
   exact h c hc
theorem inc_may {l : List Cn} {k : ByteArray} (n : Int) (h : mayC l = true) (hk : keyL (bytesL k) = true) : mayC (incC l k n) = true := by
 unfold incC
 rw [if_pos ⟨h, hk⟩]
 exact putC_may h hk
theorem inc_get {l : List Cn} {k : ByteArray} (n : Int) (h : mayC l = true) (hk : keyL (bytesL k) = true) (k' : ByteArray) : getC (incC l k n) k' = if k' = k then w64 (getC l k + n) else getC l k' := by
 unfold incC
 rw [if_pos ⟨h, hk⟩]
 exact getC_put (mayC_iff.1 h).2 k'
theorem inc_no {l : List Cn} {k : ByteArray} (n : Int) (h : mayC l = false ∨ keyL (bytesL k) = false) : incC l k n = [] := by
 unfold incC
 rw [if_neg]
 rintro ⟨a, b⟩
 rcases h with h | h
 · rw [a] at h; cases h
 · rw [b] at h; cases h
theorem putC_sub {k : ByteArray} {n : Int} {l : List Cn} {c : Cn} (h : c ∈ putC k n false l) : c = ⟨k, n⟩ ∨ c ∈ l := by
 rcases (putC_mem k n l c).1 h with ⟨e, _⟩ | ⟨e, _⟩
 · exact .inl e
 · exact .inr e
theorem inc_in {l : List Cn} (k : ByteArray) (n : Int) (h : InL l) : InL (incC l k n) := by
 intro c hc
 unfold incC at hc
 split at hc
 · rcases putC_sub hc with rfl | hc
   · exact w64_in _
   · exact h c hc
 · simp at hc
theorem sum_zero {base a b : List Cn} {k : ByteArray} (h0 : ∀ c ∈ base, c.key ≠ k) (h1 : ∀ c ∈ a, c.key ≠ k) (h2 : ∀ c ∈ b, c.key ≠ k) : sumC base a b k = 0 := by
 unfold sumC
 rw [getC_none h0, getC_none h1, getC_none h2]
 rfl
theorem fold_may (base a b : List Cn) : ∀ (l out : List Cn), mayC out = true → (∀ c ∈ l, keyL (bytesL c.key) = true) → mayC (l.foldl (mergeF base a b) out) = true
 | [], out, h, _ => h
 | c :: r, out, h, hk => by
   rw [List.foldl_cons]
   exact fold_may base a b r _ (putC_may h (hk c (by simp))) (fun d hd => hk d (by simp [hd]))
theorem fold_get (base a b : List Cn) (k : ByteArray) : ∀ (l out : List Cn), mayC out = true → (∀ c ∈ l, keyL (bytesL c.key) = true) → getC (l.foldl (mergeF base a b) out) k = if ∃ c ∈ l, c.key = k then sumC base a b k else getC out k
 | [], out, h, _ => by simp
 | c :: r, out, h, hk => by
   have hm : mayC (mergeF base a b out c) = true := putC_may (n := sumC base a b c.key) h (hk c (by simp))
   rw [List.foldl_cons, fold_get base a b k r _ hm (fun d hd => hk d (by simp [hd]))]
   by_cases hr : ∃ d ∈ r, d.key = k
   · rw [if_pos hr, if_pos]
     obtain ⟨d, hd, e⟩ := hr
     exact ⟨d, by simp [hd], e⟩
   · rw [if_neg hr]
     show getC (putC c.key (sumC base a b c.key) false out) k = _
     rw [getC_put (mayC_iff.1 h).2]
     by_cases hc : c.key = k
     · rw [if_pos hc.symm, if_pos ⟨c, by simp, hc⟩, hc]
     · rw [if_neg (fun e => hc e.symm), if_neg]
       rintro ⟨d, hd, e⟩
       rcases List.mem_cons.1 hd with rfl | hd
       · exact hc e
       · exact hr ⟨d, hd, e⟩
theorem keys_ok {l : List Cn} (h : mayC l = true) : ∀ c ∈ l, keyL (bytesL c.key) = true := fun c hc => (okC_iff.1 ((mayC_iff.1 h).1 c hc)).1
section
variable {base a b : List Cn} (h0 : mayC base = true) (h1 : mayC a = true) (h2 : mayC b = true)
include h0 h1 h2
theorem all_ok : ∀ c ∈ base ++ a ++ b, keyL (bytesL c.key) = true := by
 intro c hc
 rcases List.mem_append.1 hc with hc | hc
 · rcases List.mem_append.1 hc with hc | hc
   · exact keys_ok h0 c hc
   · exact keys_ok h1 c hc
 · exact keys_ok h2 c hc
theorem merge_may : mayC (mergeC base a b) = true := by
 rw [mergeC_fold ⟨h0, h1, h2⟩]
 exact fold_may base a b _ _ rfl (all_ok h0 h1 h2)
theorem merge_get (k : ByteArray) : getC (mergeC base a b) k = sumC base a b k := by
 rw [mergeC_fold ⟨h0, h1, h2⟩, fold_get base a b k _ _ rfl (all_ok h0 h1 h2)]
 by_cases h : ∃ c ∈ base ++ a ++ b, c.key = k
 · rw [if_pos h]
 · rw [if_neg h, sum_zero]
   · rfl
   · intro c hc e; exact h ⟨c, by simp [hc], e⟩
   · intro c hc e; exact h ⟨c, by simp [hc], e⟩
   · intro c hc e; exact h ⟨c, by simp [hc], e⟩
theorem merge_in : InL (mergeC base a b) := by
 intro c hc
 obtain ⟨e, _⟩ := (mem_iff (merge_may h0 h1 h2) c).1 hc
 rw [← e, merge_get h0 h1 h2]
 exact w64_in _
end
theorem merge_no {base a b : List Cn} (h : mayC base = false ∨ mayC a = false ∨ mayC b = false) : mergeC base a b = [] := by
 unfold mergeC
 rw [if_neg]
 rintro ⟨x, y, z⟩
 rcases h with h | h | h
 · rw [x] at h; cases h
 · rw [y] at h; cases h
 · rw [z] at h; cases h
end Go.Proofs.YtgmdhaepiclkcaaGreatDoor.CtrL
namespace Go.Proofs.YtgmdhaepiclkcaaGreatDoor.RegM
set_option maxRecDepth 100000
open Go Byt OpsM Rise
structure Rg where
 key : ByteArray
 elem : ByteArray
 gen : Int
 node : Int
 seq : Int
def newerB (a b : Rg) : Bool :=
 if a.gen ≠ b.gen then decide (b.gen < a.gen)
 else if a.node ≠ b.node then decide (b.node < a.node)
 else if a.seq ≠ b.seq then decide (b.seq < a.seq)
 else ltS b.elem a.elem
theorem newer_iff {a b : Rg} : newerB a b = true ↔ b.gen < a.gen ∨ (a.gen = b.gen ∧ (b.node < a.node ∨ (a.node = b.node ∧ (b.seq < a.seq ∨ (a.seq = b.seq ∧ ltS b.elem a.elem = true))))) := by
 unfold newerB
 by_cases h1 : a.gen = b.gen
 · rw [if_neg (by simpa using h1)]
   by_cases h2 : a.node = b.node
   · rw [if_neg (by simpa using h2)]
     by_cases h3 : a.seq = b.seq
     · rw [if_neg (by simpa using h3)]
       constructor
       · intro h
         exact .inr ⟨h1, .inr ⟨h2, .inr ⟨h3, h⟩⟩⟩
       · rintro (h | ⟨_, h | ⟨_, h | ⟨_, h⟩⟩⟩)
         · omega
         · omega
         · omega
         · exact h
     · rw [if_pos h3, decide_eq_true_eq]
       constructor
       · intro h
         exact .inr ⟨h1, .inr ⟨h2, .inl h⟩⟩
       · rintro (h | ⟨_, h | ⟨_, h | ⟨h, _⟩⟩⟩)
         · omega
         · omega
         · exact h
         · exact absurd h h3
   · rw [if_pos h2, decide_eq_true_eq]
     constructor
     · intro h
       exact .inr ⟨h1, .inl h⟩
     · rintro (h | ⟨_, h | ⟨h, _⟩⟩)
       · omega
       · exact h
       · exact absurd h h2
 · rw [if_pos h1, decide_eq_true_eq]
   constructor
   · intro h
     exact .inl h
   · rintro (h | ⟨h, _⟩)
     · exact h
     · exact absurd h h1
theorem newer_irrefl (a : Rg) : newerB a a = false := by
 cases h : newerB a a with
 | false => rfl
 | true =>
   rw [newer_iff] at h
   rcases h with h | ⟨_, h | ⟨_, h | ⟨_, h⟩⟩⟩
   · omega
   · omega
   · omega
   · rw [strictS.irrefl] at h; cases h
theorem newer_trans {a b c : Rg} (h : newerB a b = true) (h2 : newerB b c = true) : newerB a c = true := by
 rw [newer_iff] at h h2 ⊢
 rcases h with h | ⟨e1, h | ⟨e2, h | ⟨e3, h⟩⟩⟩ <;> rcases h2 with k | ⟨f1, k | ⟨f2, k | ⟨f3, k⟩⟩⟩
 all_goals first
   | exact .inl (by omega)
   | exact .inr ⟨by omega, .inl (by omega)⟩
   | exact .inr ⟨by omega, .inr ⟨by omega, .inl (by omega)⟩⟩
   | exact .inr ⟨by omega, .inr ⟨by omega, .inr ⟨by omega, strictS.trans _ _ _ k h⟩⟩⟩
theorem newer_asymm {a b : Rg} (h : newerB a b = true) : newerB b a = false := by
 cases hb : newerB b a with
 | false => rfl
 | true =>
   have := newer_trans h hb
   rw [newer_irrefl] at this
   cases this
theorem newer_tri {a b : Rg} (hk : a.key = b.key) (h : newerB a b = false) (h2 : newerB b a = false) : a = b := by
 have n1 : ¬ newerB a b = true := by rw [h]; simp
 have n2 : ¬ newerB b a = true := by rw [h2]; simp
 rw [newer_iff] at n1 n2
 have e1 : a.gen = b.gen := by
   by_cases h1 : b.gen < a.gen
   · exact absurd (.inl h1) n1
   · by_cases h2 : a.gen < b.gen
     · exact absurd (.inl h2) n2
     · omega
 have e2 : a.node = b.node := by
   by_cases h1 : b.node < a.node
   · exact absurd (.inr ⟨e1, .inl h1⟩) n1
   · by_cases h2 : a.node < b.node
     · exact absurd (.inr ⟨e1.symm, .inl h2⟩) n2
     · omega
 have e3 : a.seq = b.seq := by
   by_cases h1 : b.seq < a.seq
   · exact absurd (.inr ⟨e1, .inr ⟨e2, .inl h1⟩⟩) n1
   · by_cases h2 : a.seq < b.seq
     · exact absurd (.inr ⟨e1.symm, .inr ⟨e2.symm, .inl h2⟩⟩) n2
     · omega
 have e4 : a.elem = b.elem := by
   cases h1 : ltS b.elem a.elem with
   | true => exact absurd (.inr ⟨e1, .inr ⟨e2, .inr ⟨e3, h1⟩⟩⟩) n1
   | false =>
     cases h2 : ltS a.elem b.elem with
     | true => exact absurd (.inr ⟨e1.symm, .inr ⟨e2.symm, .inr ⟨e3.symm, h2⟩⟩⟩) n2
     | false => exact (strictS.tri _ _ h1 h2).symm
 cases a; cases b
 simp only at hk e1 e2 e3 e4
 subst hk e1 e2 e3 e4
 rfl
def oneR (r : Rg) : Bool := keyL (bytesL r.key) && (keyL (bytesL r.elem) && (decide (0 < r.gen) && (decide (0 ≤ r.node) && (decide (r.node < 8) && decide (0 < r.seq)))))
def mayR (l : List Rg) : Bool := l.all oneR && risesB Rg.key ltS l
def getR : List Rg → ByteArray → Option Rg
 | [], _ => none
 | c :: r, k => if c.key = k then some c else getR r k
theorem getR_cons (c : Rg) (r : List Rg) (k : ByteArray) : getR (c :: r) k = if c.key = k then some c else getR r k := rfl
theorem mayR_iff {l : List Rg} : mayR l = true ↔ (∀ c ∈ l, oneR c = true) ∧ Rises Rg.key ltS l := by
 unfold mayR
 rw [Bool.and_eq_true, List.all_eq_true, risesB_iff strictS]
theorem getR_none : ∀ {l : List Rg} {k : ByteArray}, (∀ c ∈ l, c.key ≠ k) → getR l k = none
 | [], _, _ => rfl
 | c :: r, k, h => by
   rw [getR_cons, if_neg (h c (by simp)), getR_none (fun d hd => h d (by simp [hd]))]
theorem getR_some : ∀ {l : List Rg} {k : ByteArray} {x : Rg}, getR l k = some x → x ∈ l ∧ x.key = k
 | [], _, _, h => by cases h
 | c :: r, k, x, h => by
   rw [getR_cons] at h
   by_cases hk : c.key = k
   · rw [if_pos hk] at h
     injection h with h
     subst h
     exact ⟨by simp, hk⟩
   · rw [if_neg hk] at h
     obtain ⟨h1, h2⟩ := getR_some h
     exact ⟨by simp [h1], h2⟩
theorem getR_mem : ∀ {l : List Rg} (_ : Rises Rg.key ltS l) {c : Rg} (_ : c ∈ l), getR l c.key = some c
 | [], _, c, h => by simp at h
 | d :: r, hr, c, h => by
   rw [getR_cons]
   obtain ⟨h1, h2⟩ := List.pairwise_cons.1 hr
   rcases List.mem_cons.1 h with rfl | hc
   · rw [if_pos rfl]
   · rw [if_neg (strictS.ne (h1 c hc)), getR_mem h2 hc]
theorem detR {l m : List Rg} (hl : Rises Rg.key ltS l) (hm : Rises Rg.key ltS m) (h : ∀ k, getR l k = getR m k) : l = m := by
 refine Rises.ext strictS hl hm (fun c => ⟨fun hc => ?_, fun hc => ?_⟩)
 · have := getR_mem hl hc
   rw [h] at this
   exact (getR_some this).1
 · have := getR_mem hm hc
   rw [← h] at this
   exact (getR_some this).1
def best (r y : Rg) : Rg := if newerB r y = true then r else y
def ins (r : Rg) : Bool → List Rg → List Rg
 | done, [] => if done = true then [] else [r]
 | done, x :: l =>
   (if done = false ∧ ltS r.key x.key = true then [r] else []) ++ (if x.key ≠ r.key then x :: ins r (done || ltS r.key x.key) l else best r x :: ins r true l)
theorem ins_done (r : Rg) : ∀ {l : List Rg}, (∀ x ∈ l, x.key ≠ r.key) → ins r true l = l
 | [], _ => rfl
 | x :: l, h => by
   rw [ins, if_neg (by simp), if_pos (h x (by simp)), Bool.true_or, ins_done r (fun y hy => h y (by simp [hy]))]
   rfl
theorem best_key {r y : Rg} (h : y.key = r.key) : (best r y).key = r.key := by
 unfold best
 split
 · rfl
 · exact h
theorem ins_rises (r : Rg) : ∀ {l : List Rg}, Rises Rg.key ltS l → Rises Rg.key ltS (ins r false l) ∧ ∀ k, getR (ins r false l) k = if k = r.key then some (match getR l r.key with | none => r | some y => best r y) else getR l k
 | [], _ => by
   refine ⟨by simp [ins, Rises], fun k => ?_⟩
   by_cases hk : k = r.key
   · subst hk; simp [ins, getR]
   · rw [if_neg hk]
     simp only [ins, Bool.false_eq_true, if_false, getR_cons]
     rw [if_neg (fun e => hk e.symm)]
 | x :: l, h => by
   obtain ⟨h1, h2⟩ := List.pairwise_cons.1 h
   cases hlt : ltS r.key x.key with
   | true =>
     have hall : ∀ y ∈ x :: l, ltS r.key y.key = true := by
       intro y hy
       rcases List.mem_cons.1 hy with rfl | hy
       · exact hlt
       · exact strictS.trans _ _ _ hlt (h1 y hy)
     have hne : ∀ y ∈ x :: l, y.key ≠ r.key := fun y hy e => strictS.ne (hall y hy) e.symm
     have e : ins r false (x :: l) = r :: x :: l := by
       rw [ins, if_pos ⟨rfl, hlt⟩, if_pos (hne x (by simp)), hlt, Bool.false_or, ins_done r (fun y hy => hne y (by simp [hy]))]
       rfl
     rw [e]
     refine ⟨List.pairwise_cons.2 ⟨hall, h⟩, fun k => ?_⟩
     rw [getR_cons]
     by_cases hk : k = r.key
     · rw [if_pos hk.symm, if_pos hk, getR_none hne]
     · rw [if_neg (fun e => hk e.symm), if_neg hk]
   | false =>
     by_cases hk : x.key = r.key
     · have hne : ∀ y ∈ l, y.key ≠ r.key := fun y hy e => strictS.ne (h1 y hy) (by rw [hk, e])
       have e : ins r false (x :: l) = best r x :: l := by
         rw [ins, if_neg (by rw [hlt]; simp), if_neg (by simp [hk]), ins_done r hne]
         rfl
       rw [e]
       have hb := best_key (r := r) (y := x) hk
       refine ⟨List.pairwise_cons.2 ⟨fun y hy => by rw [hb, ← hk]; exact h1 y hy, h2⟩, fun k => ?_⟩
       rw [getR_cons, hb]
       by_cases hkk : k = r.key
       · rw [if_pos hkk.symm, if_pos hkk, getR_cons, if_pos hk]
       · rw [if_neg (fun e => hkk e.symm), if_neg hkk, getR_cons, if_neg (by rw [hk]; exact fun e => hkk e.symm)]
     · obtain ⟨i1, i2⟩ := ins_rises r h2
       have hxr : ltS x.key r.key = true := by
         cases hx : ltS x.key r.key with
         | true => rfl
         | false => exact absurd (strictS.tri _ _ hx hlt) hk
       have e : ins r false (x :: l) = x :: ins r false l := by
         rw [ins, if_neg (by rw [hlt]; simp), if_pos hk, hlt]
         rfl
       rw [e]
       refine ⟨List.pairwise_cons.2 ⟨fun y hy => ?_, i1⟩, fun k => ?_⟩
       · have hy2 := getR_mem i1 hy
         rw [i2] at hy2
         by_cases hyk : y.key = r.key
         · rw [hyk]; exact hxr
         · rw [if_neg hyk] at hy2
           exact h1 y (getR_some hy2).1
       · rw [getR_cons, getR_cons, getR_cons, if_neg hk, i2]
         by_cases hkk : k = r.key
         · rw [if_pos hkk, if_pos hkk, if_neg (by rw [hkk]; exact hk)]
         · rw [if_neg hkk, if_neg hkk]
end Go.Proofs.YtgmdhaepiclkcaaGreatDoor.RegM
namespace Go.Proofs.YtgmdhaepiclkcaaGreatDoor.RegL
set_option maxRecDepth 100000
open Go Byt OpsM Rise RegM
theorem best_turn {a b : Rg} (h : a.key = b.key) : best a b = best b a := by
 unfold best
 cases h1 : newerB a b with
 | true =>
   rw [newer_asymm h1]
   simp
 | false =>
   cases h2 : newerB b a with
   | true => simp
   | false => simp [newer_tri h h1 h2]
theorem newer_ge {a b c : Rg} (k1 : a.key = b.key) (k2 : b.key = c.key) (h1 : newerB a b = false) (h2 : newerB b c = false) : newerB a c = false := by
 cases h3 : newerB b a with
 | false => rw [newer_tri k1 h1 h3]; exact h2
 | true =>
   cases h4 : newerB c b with
   | false => rw [← newer_tri k2 h2 h4]; exact h1
   | true => exact newer_asymm (newer_trans h4 h3)
theorem best_three {a b c : Rg} (k1 : a.key = b.key) (k2 : b.key = c.key) : best (best a b) c = best a (best b c) := by
 cases h1 : newerB a b with
 | true =>
   cases h2 : newerB b c with
   | true => simp [best, h1, h2, newer_trans h1 h2]
   | false => simp [best, h1, h2]
 | false =>
   cases h2 : newerB b c with
   | true => simp [best, h1, h2]
   | false => simp [best, h1, h2, newer_ge k1 k2 h1 h2]
theorem best_or (a b : Rg) : best a b = a ∨ best a b = b := by
 unfold best
 split
 · exact .inl rfl
 · exact .inr rfl
def bestO : Option Rg → Option Rg → Option Rg
 | none, y => y
 | some x, none => some x
 | some x, some y => some (best x y)
def Of (k : ByteArray) (o : Option Rg) : Prop := ∀ x, o = some x → x.key = k
theorem of_get (l : List Rg) (k : ByteArray) : Of k (getR l k) := fun _ h => (getR_some h).2
theorem Of.both {k : ByteArray} {x y : Option Rg} (hx : Of k x) (hy : Of k y) : Of k (bestO x y) := by
 cases x with
 | none => exact hy
 | some x =>
   cases y with
   | none => exact hx
   | some y =>
     intro z h
     injection h with h
     subst h
     rcases best_or x y with e | e
     · rw [e]; exact hx x rfl
     · rw [e]; exact hy y rfl
theorem bestO_none (x : Option Rg) : bestO x none = x := by cases x <;> rfl
theorem bestO_turn {k : ByteArray} {x y : Option Rg} (hx : Of k x) (hy : Of k y) : bestO x y = bestO y x := by
 cases x with
 | none => exact (bestO_none y).symm
 | some x =>
   cases y with
   | none => rfl
   | some y => simp only [bestO]; rw [best_turn ((hx x rfl).trans (hy y rfl).symm)]
theorem bestO_three {k : ByteArray} {x y z : Option Rg} (hx : Of k x) (hy : Of k y) (hz : Of k z) : bestO (bestO x y) z = bestO x (bestO y z) := by
 cases x with
 | none => rfl
 | some x =>
   cases y with
   | none => rfl
   | some y =>
     cases z with
     | none => rfl
     | some z => simp only [bestO]; rw [best_three ((hx x rfl).trans (hy y rfl).symm) ((hy y rfl).trans (hz z rfl).symm)]
def putR (l : List Rg) (r : Rg) : List Rg := if mayR l = true ∧ oneR r = true then ins r false l else []
theorem getR_one (r : Rg) (k : ByteArray) : getR [r] k = if r.key = k then some r else none := by
 rw [getR_cons]
 rfl
theorem ins_get {l : List Rg} (r : Rg) (h : Rises Rg.key ltS l) (k : ByteArray) : getR (ins r false l) k = bestO (getR [r] k) (getR l k) := by
 rw [(ins_rises r h).2, getR_one]
 by_cases hk : k = r.key
 · subst hk
   rw [if_pos rfl, if_pos rfl]
   cases getR l r.key <;> rfl
 · rw [if_neg hk, if_neg (fun e => hk e.symm)]
   rfl
theorem ins_may {l : List Rg} {r : Rg} (h : mayR l = true) (hr : oneR r = true) : mayR (ins r false l) = true := by
 obtain ⟨h1, h2⟩ := mayR_iff.1 h
 obtain ⟨i1, i2⟩ := ins_rises r h2
 refine mayR_iff.2 ⟨fun x hx => ?_, i1⟩
 have hg := getR_mem i1 hx
 rw [i2] at hg
 by_cases hk : x.key = r.key
 · rw [if_pos hk] at hg
   injection hg with hg
   cases hy : getR l r.key with
   | none => rw [hy] at hg; rw [← hg]; exact hr
   | some y =>
     rw [hy] at hg
     rw [← hg]
     rcases best_or r y with e | e
     · simp only [e]; exact hr
     · simp only [e]; exact h1 y (getR_some hy).1
 · rw [if_neg hk] at hg
   exact h1 x (getR_some hg).1
theorem ins_length (r : Rg) : ∀ (d : Bool) (l : List Rg), (ins r d l).length ≤ l.length + (if d = true then 0 else 1)
 | true, [] => by simp [ins]
 | false, [] => by simp [ins]
 | d, x :: l => by
   have i1 := ins_length r (d || ltS r.key x.key) l
   have i2 := ins_length r true l
   have e : ∀ (p q : List Rg), ((if d = false ∧ ltS r.key x.key = true then [r] else []) ++ (if x.key ≠ r.key then p else q)).length ≤ (if d = false ∧ ltS r.key x.key = true then 1 else 0) + max p.length q.length := by
     intro p q
     rw [List.length_append]
     refine Nat.add_le_add (by split <;> simp) ?_
     split
     · exact Nat.le_max_left _ _
     · exact Nat.le_max_right _ _
   have h := e (x :: ins r (d || ltS r.key x.key) l) (best r x :: ins r true l)
   rw [List.length_cons, List.length_cons] at h
   rw [ins, List.length_cons]
   cases d <;> cases hl : ltS r.key x.key <;> simp [hl] at i1 i2 h ⊢ <;> omega
theorem put_is {l : List Rg} {r : Rg} (h : mayR l = true) (hr : oneR r = true) : putR l r = ins r false l := if_pos ⟨h, hr⟩
theorem put_no {l : List Rg} {r : Rg} (h : mayR l = false ∨ oneR r = false) : putR l r = [] := by
 unfold putR
 rw [if_neg]
 rintro ⟨a, b⟩
 rcases h with h | h
 · rw [a] at h; cases h
 · rw [b] at h; cases h
theorem put_may (l : List Rg) (r : Rg) : mayR (putR l r) = true := by
 unfold putR
 split
 · rename_i h; exact ins_may h.1 h.2
 · rfl
theorem put_get {l : List Rg} {r : Rg} (h : mayR l = true) (hr : oneR r = true) (k : ByteArray) : getR (putR l r) k = bestO (getR [r] k) (getR l k) := by
 rw [put_is h hr]
 exact ins_get r (mayR_iff.1 h).2 k
theorem put_length (l : List Rg) (r : Rg) : (putR l r).length ≤ l.length + 1 := by
 unfold putR
 split
 · exact ins_length r false l
 · simp
theorem det {l m : List Rg} (hl : mayR l = true) (hm : mayR m = true) (h : ∀ k, getR l k = getR m k) : l = m := detR (mayR_iff.1 hl).2 (mayR_iff.1 hm).2 h
def mergeR (a b : List Rg) : List Rg := if mayR a = true ∧ mayR b = true then b.foldl putR a else []
theorem fold_may : ∀ (l out : List Rg), mayR out = true → mayR (l.foldl putR out) = true
 | [], _, h => h
 | c :: r, out, _ => fold_may r (putR out c) (put_may out c)
theorem fold_length : ∀ (l out : List Rg), (l.foldl putR out).length ≤ out.length + l.length
 | [], _ => by simp
 | c :: r, out => by
   have h1 := fold_length r (putR out c)
   have h2 := put_length out c
   rw [List.foldl_cons, List.length_cons]
   omega
theorem fold_get (k : ByteArray) : ∀ (l out : List Rg), mayR out = true → (∀ c ∈ l, oneR c = true) → Rises Rg.key ltS l → getR (l.foldl putR out) k = bestO (getR l k) (getR out k)
 | [], _, _, _, _ => rfl
 | c :: r, out, h, hk, hr => by
   obtain ⟨h1, h2⟩ := List.pairwise_cons.1 hr
   rw [List.foldl_cons, fold_get k r _ (put_may out c) (fun d hd => hk d (by simp [hd])) h2, put_get h (hk c (by simp)), getR_one, getR_cons]
   by_cases e : c.key = k
   · rw [if_pos e, if_pos e, getR_none (fun d hd => by rw [← e]; exact fun e2 => strictS.ne (h1 d hd) e2.symm)]
     rfl
   · rw [if_neg e, if_neg e]
     rfl
theorem merge_no {a b : List Rg} (h : mayR a = false ∨ mayR b = false) : mergeR a b = [] := by
 unfold mergeR
 rw [if_neg]
 rintro ⟨x, y⟩
 rcases h with h | h
 · rw [x] at h; cases h
 · rw [y] at h; cases h
theorem merge_may (a b : List Rg) : mayR (mergeR a b) = true := by
 unfold mergeR
 split
 · rename_i h; exact fold_may b a h.1
 · rfl
theorem merge_length (a b : List Rg) : (mergeR a b).length ≤ a.length + b.length := by
 unfold mergeR
 split
 · exact fold_length b a
 · simp
section
variable {a b c : List Rg} (ha : mayR a = true) (hb : mayR b = true) (hc : mayR c = true)
include ha hb
theorem merge_get (k : ByteArray) : getR (mergeR a b) k = bestO (getR b k) (getR a k) := by
 unfold mergeR
 rw [if_pos ⟨ha, hb⟩]
 exact fold_get k b a ha (mayR_iff.1 hb).1 (mayR_iff.1 hb).2
theorem merge_turn : mergeR a b = mergeR b a :=
 det (merge_may a b) (merge_may b a) (fun k => by rw [merge_get ha hb, merge_get hb ha, bestO_turn (of_get b k) (of_get a k)])
include hc
end
section
variable {l : List Rg} {r s : Rg} (hl : mayR l = true) (hr : oneR r = true) (hs : oneR s = true)
include hl hr
include hs
end
theorem all_take (l : List Rg) (k : Nat) (h : k < l.length) : (l.take (k + 1)).all oneR = ((l.take k).all oneR && oneR l[k]) := by
 rw [List.take_succ_eq_append_getElem h, List.all_append]
 simp
theorem may_first {l : List Rg} (h : 0 < l.length) : mayR (l.take 1) = oneR l[0] := by
 unfold mayR
 rw [all_take l 0 h]
 have e : risesB Rg.key ltS (l.take 1) = true := by
   rw [List.take_succ_eq_append_getElem h]
   rfl
 rw [e]
 simp
theorem may_next {l : List Rg} {k : Nat} (h : k + 1 < l.length) (hm : mayR (l.take (k + 1)) = true) : mayR (l.take (k + 2)) = (oneR l[k + 1] && ltS (l[k]'(by omega)).key l[k + 1].key) := by
 unfold mayR at hm ⊢
 rw [Bool.and_eq_true] at hm
 rw [all_take l (k + 1) h, risesB_take h, hm.1, hm.2]
 simp
theorem may_bad {l : List Rg} {k : Nat} (h : k < l.length) (hn : oneR l[k] = false) : mayR l = false := by
 unfold mayR
 rw [show l.all oneR = false from List.all_eq_false.2 ⟨l[k], List.getElem_mem h, by rw [hn]; simp⟩]
 rfl
theorem may_fall {l : List Rg} {k : Nat} (h : k + 1 < l.length) (hn : ltS (l[k]'(by omega)).key l[k + 1].key = false) : mayR l = false := by
 unfold mayR
 rw [risesB_not h hn, Bool.and_false]
end Go.Proofs.YtgmdhaepiclkcaaGreatDoor.RegL
