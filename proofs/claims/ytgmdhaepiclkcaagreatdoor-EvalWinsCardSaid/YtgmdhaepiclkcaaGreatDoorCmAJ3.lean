/- Contracts of package commit, by the names that the laws' walks call them by; the chapter's own example: 'awake' returns true. | Plain facts on lists that rise by a key, and on the order of texts. No condition. | Plain facts on counts: which may be, what a key counts, with more, and merged. No condition. -/
import Derived.Test.YtgmdhaepiclkcaaGreatDoorShaFJ15
import Derived.Test.YtgmdhaepiclkcaaGreatDoorCmT
import Derived.WalkKit
import Derived.Test.YtgmdhaepiclkcaaGreatDoorGrowJ5
import Derived.Test.YtgmdhaepiclkcaaGreatDoorSmallJ8
namespace Go.Proofs.YtgmdhaepiclkcaaGreatDoor.CmA
set_option maxRecDepth 100000
open Go Go.Sort Go.RowKit Byt EncM EncC EncT IdM IdW OpsM OpsW CmM StW CmW CmY
theorem merge_ret (v : Cv) (w : World) (S : In w v) (_hf : Fit v.c) : Calls Tryz.prog 89 #[.agg (cc v)] w fun e w' => e = .returned (.bool (isM v.c)) ∧ Below w.heap.size w w' := CmV.merge_ret v w S
theorem hash_ret (v : Cv) (w : World) (S : In w v) (hf : Fit v.c) (hK : ShaE.KIn w) : Calls Tryz.prog 29 #[.agg (cc v)] w (HashOut v.c w) := CmT.hash_ret v w S hf hK
def o1 : Opn := ⟨0, ⟨#[97]⟩, ⟨#[]⟩, 1⟩
def c1 : Com := ⟨0, 1, 1, [], o1⟩
def v1 : Cv := ⟨none, 0, c1⟩
theorem text1 (x : Int) : textL [x] = [1, x] := by
 unfold textL
 rw [show ([x] : List Int).length = 1 from rfl, numL_one (by omega)]
 rfl
set_option maxRecDepth 100000 in
set_option maxHeartbeats 8000000 in
theorem some_ret (w : World) : Calls Tryz.prog 28 #[] w fun e w' => e = .returned (.agg (cc v1)) ∧ Below w.heap.size w w' := by
 go_enter Tryz.func28, Tryz.ntmps28
 go_wp2_with (first | go_skip | (refine Cel.wpList_store_new CE rfl _ _ rfl w _ _ rfl v1 _ rfl rfl rfl rfl ?_; intro w2 B2 k2 g2 s2))
 exact bodyPost_ret (v := .agg (cc v1)) (CmF.results_c Tryz.results28 _ _ w.heap.size v1 rfl B2) rfl ⟨rfl, k2⟩
theorem quiet_id {a : Act} {o : Oper} {K : Act → Prop} {w : World} (x : Operand) (ho : o.op = .load 56 x)
   (b off : Nat) (hx : a.eval x = .pointer (some ⟨b, off, none⟩)) (y : Idn) (hc : w.rangeAt b off (bv y.1)) (hk : K (a.put o.dst (.agg (cs y)))) : o.quiet Tryz.prog a (fun w' => ∃ p : Regrown, w' = grow (redrawn w p.d) p.os) K := by
 refine ⟨.agg (cs y), fun u hu => ?_, hk⟩
 obtain ⟨p, rfl⟩ := hu
 have q := IdW.load_mid (IdW.range_below hc (below_regrown w p.d p.os))
 unfold Oper.quietAt execOp
 simp only [ho, hx, Sem.run_bind, q, Result.andThen_ok, Sem.run_pure]
 exact ⟨rfl, rfl⟩
end Go.Proofs.YtgmdhaepiclkcaaGreatDoor.CmA
namespace Go.Proofs.YtgmdhaepiclkcaaGreatDoor.Rise
set_option maxRecDepth 100000
open Go
structure Strict {κ : Type} (lt : κ → κ → Bool) : Prop where
 irrefl : ∀ a, lt a a = false
 trans : ∀ a b c, lt a b = true → lt b c = true → lt a c = true
 tri : ∀ a b, lt a b = false → lt b a = false → a = b
theorem Strict.asymm {κ : Type} {lt : κ → κ → Bool} (H : Strict lt) {a b : κ} (h : lt a b = true) : lt b a = false := by
 cases hb : lt b a with
 | false => rfl
 | true =>
   have := H.trans a b a h hb
   rw [H.irrefl] at this
   cases this
theorem Strict.ne {κ : Type} {lt : κ → κ → Bool} (H : Strict lt) {a b : κ} (h : lt a b = true) : a ≠ b := by
 rintro rfl
 rw [H.irrefl] at h
 cases h
theorem less_irrefl : ∀ l : List UInt8, Op.bytesLess l l = false
 | [] => rfl
 | a :: l => by simp [Op.bytesLess, less_irrefl l]
theorem less_trans : ∀ a b c : List UInt8, Op.bytesLess a b = true → Op.bytesLess b c = true → Op.bytesLess a c = true
 | _, [], c, h, _ => by cases ‹List UInt8› <;> simp [Op.bytesLess] at h
 | _, _ :: _, [], _, h => by simp [Op.bytesLess] at h
 | [], _ :: _, _ :: _, _, _ => rfl
 | x :: a, y :: b, z :: c, h, h2 => by
   simp only [Op.bytesLess, Bool.or_eq_true, Bool.and_eq_true, decide_eq_true_eq, beq_iff_eq] at h h2 ⊢
   rcases h with h | ⟨rfl, h⟩
   · rcases h2 with h2 | ⟨rfl, _⟩
     · exact .inl (UInt8.lt_trans h h2)
     · exact .inl h
   · rcases h2 with h2 | ⟨rfl, h2⟩
     · exact .inl h2
     · exact .inr ⟨rfl, less_trans a b c h h2⟩
theorem less_tri : ∀ a b : List UInt8, Op.bytesLess a b = false → Op.bytesLess b a = false → a = b
 | [], [], _, _ => rfl
 | [], _ :: _, h, _ => by simp [Op.bytesLess] at h
 | _ :: _, [], _, h => by simp [Op.bytesLess] at h
 | x :: a, y :: b, h, h2 => by
   simp only [Op.bytesLess, Bool.or_eq_false_iff, Bool.and_eq_false_iff, decide_eq_false_iff_not, beq_eq_false_iff_ne] at h h2
   obtain ⟨h1, h3⟩ := h
   obtain ⟨h4, h5⟩ := h2
   have e : x = y := by
     rw [UInt8.lt_iff_toNat_lt] at h1 h4
     apply UInt8.toNat_inj.1
     omega
   subst e
   simp only [ne_eq, not_true_eq_false, false_or] at h3 h5
   rw [less_tri a b h3 h5]
def ltS (a b : ByteArray) : Bool := Op.bytesLess a.toList b.toList
theorem toList_inj {a b : ByteArray} (h : a.toList = b.toList) : a = b := by
 rw [ByteArray.toList_eq, ByteArray.toList_eq] at h
 cases a; cases b
 congr 1
 exact Array.ext' h
theorem strictS : Strict ltS :=
 ⟨fun _ => less_irrefl _, fun _ _ _ => less_trans _ _ _, fun _ _ h1 h2 => toList_inj (less_tri _ _ h1 h2)⟩
section
variable {α κ : Type} (f : α → κ) (lt : κ → κ → Bool)
def Rises (l : List α) : Prop := l.Pairwise fun x y => lt (f x) (f y) = true
def risesB : List α → Bool
 | [] => true
 | [_] => true
 | x :: y :: r => lt (f x) (f y) && risesB (y :: r)
variable {f lt}
theorem risesB_iff (H : Strict lt) : ∀ l : List α, risesB f lt l = true ↔ Rises f lt l
 | [] => by simp [risesB, Rises]
 | [x] => by simp [risesB, Rises]
 | x :: y :: r => by
   have ih := risesB_iff H (y :: r)
   simp only [risesB, Bool.and_eq_true, ih]
   unfold Rises
   constructor
   · rintro ⟨h1, h2⟩
     refine List.pairwise_cons.2 ⟨fun z hz => ?_, h2⟩
     rcases List.mem_cons.1 hz with rfl | hz
     · exact h1
     · exact H.trans _ _ _ h1 ((List.pairwise_cons.1 h2).1 z hz)
   · intro h
     obtain ⟨h1, h2⟩ := List.pairwise_cons.1 h
     exact ⟨h1 y (by simp), h2⟩
theorem risesB_snoc : ∀ (l : List α) (x : α), risesB f lt (l ++ [x]) = (risesB f lt l && (match l.getLast? with | none => true | some y => lt (f y) (f x)))
 | [], x => by simp [risesB]
 | [y], x => by simp [risesB]
 | y :: z :: r, x => by
   have ih := risesB_snoc (z :: r) x
   simp only [List.cons_append] at ih ⊢
   simp only [risesB, ih, List.getLast?_cons_cons, Bool.and_assoc]
theorem risesB_take {l : List α} {k : Nat} (h : k + 1 < l.length) : risesB f lt (l.take (k + 2)) = (risesB f lt (l.take (k + 1)) && lt (f (l[k]'(by omega))) (f l[k + 1])) := by
 rw [List.take_succ_eq_append_getElem (by omega), risesB_snoc]
 have e : (l.take (k + 1)).getLast? = some (l[k]'(by omega)) := by
   rw [List.take_succ_eq_append_getElem (by omega), List.getLast?_append]
   rfl
 rw [e]
theorem risesB_not {l : List α} {k : Nat} (h : k + 1 < l.length) (hn : lt (f (l[k]'(by omega))) (f l[k + 1]) = false) : risesB f lt l = false := by
 induction l generalizing k with
 | nil => simp at h
 | cons x r ih =>
   cases r with
   | nil => simp at h
   | cons y r =>
     cases k with
     | zero =>
       simp only [List.getElem_cons_zero, List.getElem_cons_succ] at hn
       simp [risesB, hn]
     | succ k =>
       simp only [List.getElem_cons_succ] at hn
       have := ih (k := k) (by simpa using h) (by simpa using hn)
       simp [risesB, this]
theorem Rises.ext (H : Strict lt) : ∀ {l m : List α}, Rises f lt l → Rises f lt m → (∀ x, x ∈ l ↔ x ∈ m) → l = m
 | [], [], _, _, _ => rfl
 | [], y :: m, _, _, h => by have := (h y).2 (by simp); simp at this
 | x :: l, [], _, _, h => by have := (h x).1 (by simp); simp at this
 | x :: l, y :: m, hl, hm, h => by
   obtain ⟨l1, l2⟩ := List.pairwise_cons.1 hl
   obtain ⟨m1, m2⟩ := List.pairwise_cons.1 hm
   have e : x = y := by
     rcases List.mem_cons.1 ((h x).1 (by simp)) with hx | hx
     · exact hx
     · rcases List.mem_cons.1 ((h y).2 (by simp)) with hy | hy
       · exact hy.symm
       · have a1 := m1 x hx
         have a2 := l1 y hy
         rw [H.asymm a1] at a2
         cases a2
   subst e
   have : l = m := Rises.ext H l2 m2 (fun z => by
     constructor
     · intro hz
       rcases List.mem_cons.1 ((h z).1 (by simp [hz])) with rfl | hz'
       · have := l1 z hz
         rw [H.irrefl] at this
         cases this
       · exact hz'
     · intro hz
       rcases List.mem_cons.1 ((h z).2 (by simp [hz])) with rfl | hz'
       · have := m1 z hz
         rw [H.irrefl] at this
         cases this
       · exact hz')
   rw [this]
theorem Rises.filter {l : List α} (h : Rises f lt l) (p : α → Bool) : Rises f lt (l.filter p) := List.Pairwise.filter p h
theorem Rises.one (H : Strict lt) {l : List α} (h : Rises f lt l) {x y : α} (hx : x ∈ l) (hy : y ∈ l) (e : f x = f y) : x = y := by
 induction l with
 | nil => simp at hx
 | cons z l ih =>
   obtain ⟨h1, h2⟩ := List.pairwise_cons.1 h
   rcases List.mem_cons.1 hx with rfl | hx'
   · rcases List.mem_cons.1 hy with rfl | hy'
     · rfl
     · have := h1 y hy'
       rw [e, H.irrefl] at this
       cases this
   · rcases List.mem_cons.1 hy with rfl | hy'
     · have := h1 x hx'
       rw [e, H.irrefl] at this
       cases this
     · exact ih h2 hx' hy'
end
end Go.Proofs.YtgmdhaepiclkcaaGreatDoor.Rise
namespace Go.Proofs.YtgmdhaepiclkcaaGreatDoor.CtrM
set_option maxRecDepth 100000
open Go Byt OpsM Rise
structure Cn where
 key : ByteArray
 n : Int
def okC (c : Cn) : Bool := keyL (bytesL c.key) && decide (c.n ≠ 0)
def risC (l : List Cn) : Bool := risesB Cn.key ltS l
def mayC (l : List Cn) : Bool := l.all okC && risC l
def getC : List Cn → ByteArray → Int
 | [], _ => 0
 | c :: r, k => if c.key = k then c.n else getC r k
theorem getC_cons (c : Cn) (r : List Cn) (k : ByteArray) : getC (c :: r) k = if c.key = k then c.n else getC r k := rfl
theorem mayC_iff {l : List Cn} : mayC l = true ↔ (∀ c ∈ l, okC c = true) ∧ Rises Cn.key ltS l := by
 unfold mayC risC
 rw [Bool.and_eq_true, List.all_eq_true, risesB_iff strictS]
theorem okC_iff {c : Cn} : okC c = true ↔ keyL (bytesL c.key) = true ∧ c.n ≠ 0 := by
 unfold okC
 rw [Bool.and_eq_true, decide_eq_true_eq]
theorem getC_none : ∀ {l : List Cn} {k : ByteArray}, (∀ c ∈ l, c.key ≠ k) → getC l k = 0
 | [], _, _ => rfl
 | c :: r, k, h => by
   unfold getC
   rw [if_neg (h c (by simp)), getC_none (fun d hd => h d (by simp [hd]))]
theorem getC_mem : ∀ {l : List Cn} (_ : Rises Cn.key ltS l) {c : Cn} (_ : c ∈ l), getC l c.key = c.n
 | [], _, c, h => by simp at h
 | d :: r, hr, c, h => by
   unfold getC
   obtain ⟨h1, h2⟩ := List.pairwise_cons.1 hr
   rcases List.mem_cons.1 h with rfl | hc
   · rw [if_pos rfl]
   · rw [if_neg (strictS.ne (h1 c hc)), getC_mem h2 hc]
theorem getC_ex : ∀ {l : List Cn} {k : ByteArray}, getC l k ≠ 0 → ∃ c ∈ l, c.key = k ∧ c.n = getC l k
 | [], _, h => absurd rfl h
 | c :: r, k, h => by
   unfold getC at h ⊢
   by_cases hk : c.key = k
   · rw [if_pos hk]
     exact ⟨c, by simp, hk, rfl⟩
   · rw [if_neg hk] at h ⊢
     obtain ⟨d, hd, e⟩ := getC_ex h
     exact ⟨d, by simp [hd], e⟩
theorem mem_iff {l : List Cn} (h : mayC l = true) (c : Cn) : c ∈ l ↔ getC l c.key = c.n ∧ c.n ≠ 0 := by
 obtain ⟨h1, h2⟩ := mayC_iff.1 h
 constructor
 · intro hc
   exact ⟨getC_mem h2 hc, (okC_iff.1 (h1 c hc)).2⟩
 · rintro ⟨e, hn⟩
   obtain ⟨d, hd, e1, e2⟩ := getC_ex (l := l) (k := c.key) (by rw [e]; exact hn)
   have : d = c := by
     cases d; cases c
     simp only at e1 e2 e
     rw [e] at e2
     rw [e1, e2]
   rw [← this]
   exact hd
theorem det {l m : List Cn} (hl : mayC l = true) (hm : mayC m = true) (h : ∀ k, getC l k = getC m k) : l = m := by
 refine Rises.ext strictS (mayC_iff.1 hl).2 (mayC_iff.1 hm).2 (fun c => ?_)
 rw [mem_iff hl, mem_iff hm, h]
theorem all_take (l : List Cn) (k : Nat) (h : k < l.length) : (l.take (k + 1)).all okC = ((l.take k).all okC && okC l[k]) := by
 rw [List.take_succ_eq_append_getElem h, List.all_append]
 simp
theorem mayC_first {l : List Cn} (h : 0 < l.length) : mayC (l.take 1) = okC l[0] := by
 unfold mayC
 rw [all_take l 0 h]
 have e : risC (l.take 1) = true := by
   rw [List.take_succ_eq_append_getElem h]
   rfl
 rw [e]
 simp
theorem mayC_next {l : List Cn} {k : Nat} (h : k + 1 < l.length) (hm : mayC (l.take (k + 1)) = true) : mayC (l.take (k + 2)) = (okC l[k + 1] && ltS (l[k]'(by omega)).key l[k + 1].key) := by
 unfold mayC risC at hm ⊢
 rw [Bool.and_eq_true] at hm
 rw [all_take l (k + 1) h, risesB_take h, hm.1, hm.2]
 simp
theorem mayC_no {l : List Cn} {k : Nat} (h : k < l.length) (hn : okC l[k] = false) : mayC l = false := by
 unfold mayC
 rw [show l.all okC = false from List.all_eq_false.2 ⟨l[k], List.getElem_mem h, by rw [hn]; simp⟩]
 rfl
theorem mayC_fall {l : List Cn} {k : Nat} (h : k + 1 < l.length) (hn : ltS (l[k]'(by omega)).key l[k + 1].key = false) : mayC l = false := by
 unfold mayC risC
 rw [risesB_not h hn, Bool.and_false]
def one (k : ByteArray) (n : Int) : List Cn := if n ≠ 0 then [⟨k, n⟩] else []
def putC (k : ByteArray) (n : Int) : Bool → List Cn → List Cn
 | done, [] => if done = true then [] else one k n
 | done, c :: r => (if done = false ∧ ltS c.key k = false then one k n else []) ++ (if c.key = k then [] else [c]) ++ putC k n (done || !ltS c.key k) r
theorem putC_done (k : ByteArray) (n : Int) : ∀ l : List Cn, putC k n true l = l.filter fun c => decide (c.key ≠ k)
 | [] => rfl
 | c :: r => by
   rw [putC, if_neg (by simp), Bool.true_or, putC_done k n r, List.filter_cons]
   by_cases h : c.key = k <;> simp [h]
theorem one_mem {k : ByteArray} {n : Int} {c : Cn} : c ∈ one k n ↔ c = ⟨k, n⟩ ∧ n ≠ 0 := by
 unfold one
 split
 · rename_i h; simp [h]
 · rename_i h; simp at h; simp [h]
theorem putC_mem (k : ByteArray) (n : Int) : ∀ (l : List Cn) (c : Cn), c ∈ putC k n false l ↔ (c = ⟨k, n⟩ ∧ n ≠ 0) ∨ (c ∈ l ∧ c.key ≠ k)
 | [], c => by
   rw [putC, if_neg (by simp), one_mem]
   simp
 | d :: r, c => by
   rw [putC]
   cases hd : ltS d.key k with
   | true =>
     have hne := strictS.ne hd
     rw [if_neg (by simp), if_neg hne]
     simp only [Bool.not_true, Bool.or_false, List.nil_append, List.mem_append, putC_mem k n r c, List.mem_cons, List.not_mem_nil, or_false]
     constructor
     · rintro (rfl | h | ⟨h1, h2⟩)
       · exact .inr ⟨.inl rfl, hne⟩
       · exact .inl h
       · exact .inr ⟨.inr h1, h2⟩
     · rintro (h | ⟨rfl | h1, h2⟩)
       · exact .inr (.inl h)
       · exact .inl rfl
       · exact .inr (.inr ⟨h1, h2⟩)
   | false =>
     rw [if_pos (by simp)]
     simp only [Bool.not_false, Bool.or_true, putC_done, List.mem_append, one_mem, List.mem_filter, decide_eq_true_eq, List.mem_cons]
     by_cases h : d.key = k
     · rw [if_pos h]
       simp only [List.not_mem_nil, or_false]
       constructor
       · rintro (h1 | ⟨h1, h2⟩)
         · exact .inl h1
         · exact .inr ⟨.inr h1, h2⟩
       · rintro (h1 | ⟨rfl | h1, h2⟩)
         · exact .inl h1
         · exact absurd h h2
         · exact .inr ⟨h1, h2⟩
     · rw [if_neg h]
       simp only [List.mem_singleton]
       constructor
       · rintro ((h1 | rfl) | ⟨h1, h2⟩)
         · exact .inl h1
         · exact .inr ⟨.inl rfl, h⟩
         · exact .inr ⟨.inr h1, h2⟩
       · rintro (h1 | ⟨rfl | h1, h2⟩)
         · exact .inl (.inl h1)
         · exact .inl (.inr rfl)
         · exact .inr ⟨h1, h2⟩
theorem putC_rises (k : ByteArray) (n : Int) : ∀ {l : List Cn}, Rises Cn.key ltS l → Rises Cn.key ltS (putC k n false l)
 | [], _ => by
   rw [putC, if_neg (by simp)]
   unfold one
   split <;> simp [Rises]
 | d :: r, h => by
   obtain ⟨h1, h2⟩ := List.pairwise_cons.1 h
   rw [putC]
   cases hd : ltS d.key k with
   | true =>
     rw [if_neg (by simp), if_neg (strictS.ne hd)]
     simp only [Bool.not_true, Bool.or_false, List.nil_append, List.singleton_append]
     refine List.pairwise_cons.2 ⟨fun c hc => ?_, putC_rises k n h2⟩
     rcases (putC_mem k n r c).1 hc with ⟨rfl, _⟩ | ⟨hc, _⟩
     · exact hd
     · exact h1 c hc
   | false =>
     rw [if_pos (by simp)]
     simp only [Bool.not_false, Bool.or_true, putC_done]
     have hall : ∀ c ∈ d :: r, c.key ≠ k → ltS k c.key = true := by
       intro c hc hne
       have hdc : ltS c.key k = false := by
         rcases List.mem_cons.1 hc with rfl | hc
         · exact hd
         · cases hck : ltS c.key k with
           | false => rfl
           | true =>
             have := strictS.trans _ _ _ (h1 c hc) hck
             rw [hd] at this
             cases this
       cases hkc : ltS k c.key with
       | true => rfl
       | false => exact absurd (strictS.tri _ _ hdc hkc) hne
     have e : (if d.key = k then ([] : List Cn) else [d]) ++ r.filter (fun c => decide (c.key ≠ k)) = (d :: r).filter fun c => decide (c.key ≠ k) := by
       rw [List.filter_cons]
       by_cases hk : d.key = k <;> simp [hk]
     rw [List.append_assoc, e]
     refine List.pairwise_append.2 ⟨?_, h.filter _, fun a ha b hb => ?_⟩
     · unfold one
       split <;> simp
     · obtain ⟨rfl, _⟩ := one_mem.1 ha
       simp only [List.mem_filter, decide_eq_true_eq] at hb
       exact hall b hb.1 hb.2
theorem getC_put {k : ByteArray} {n : Int} {l : List Cn} (h : Rises Cn.key ltS l) (k' : ByteArray) : getC (putC k n false l) k' = if k' = k then n else getC l k' := by
 have hr := putC_rises k n h
 by_cases hk : k' = k
 · rw [if_pos hk]
   subst hk
   by_cases hn : n = 0
   · rw [hn]
     refine getC_none (fun c hc => ?_)
     rcases (putC_mem k' 0 l c).1 hc with ⟨_, h0⟩ | ⟨_, hne⟩
     · exact absurd rfl h0
     · exact hne
   · exact getC_mem hr (c := ⟨k', n⟩) ((putC_mem k' n l _).2 (.inl ⟨rfl, hn⟩))
 · rw [if_neg hk]
   by_cases h0 : getC l k' = 0
   · rw [h0]
     by_cases hx : getC (putC k n false l) k' = 0
     · exact hx
     · exfalso
       obtain ⟨c, hc, e, e2⟩ := getC_ex hx
       rcases (putC_mem k n l c).1 hc with ⟨rfl, _⟩ | ⟨hc, _⟩
       · exact hk e.symm
       · have := getC_mem h hc
         rw [e, h0] at this
         rw [← e2, ← this] at hx
         exact hx rfl
   · obtain ⟨c, hc, e, e2⟩ := getC_ex h0
     have := getC_mem hr (c := c) ((putC_mem k n l c).2 (.inr ⟨hc, by rw [e]; exact hk⟩))
     rw [e] at this
     rw [this, e2]
theorem putC_may {k : ByteArray} {n : Int} {l : List Cn} (h : mayC l = true) (hk : keyL (bytesL k) = true) : mayC (putC k n false l) = true := by
 obtain ⟨h1, h2⟩ := mayC_iff.1 h
 refine mayC_iff.2 ⟨fun c hc => ?_, putC_rises k n h2⟩
 rcases (putC_mem k n l c).1 hc with ⟨rfl, h0⟩ | ⟨hc, _⟩
 · exact okC_iff.2 ⟨hk, h0⟩
 · exact h1 c hc
theorem one_length (k : ByteArray) (n : Int) : (one k n).length ≤ 1 := by unfold one; split <;> simp
theorem putC_length (k : ByteArray) (n : Int) : ∀ l : List Cn, (putC k n false l).length ≤ l.length + 1
 | [] => by
   rw [putC, if_neg (by simp)]
   have := one_length k n
   simp
   omega
 | c :: r => by
   rw [putC]
   have h1 := one_length k n
   have h2 := putC_length k n r
   have h3 : (putC k n true r).length ≤ r.length := by rw [putC_done]; exact List.length_filter_le _ _
   have h4 : (if c.key = k then ([] : List Cn) else [c]).length ≤ 1 := by split <;> simp
   cases ltS c.key k with
   | true =>
     rw [if_neg (by simp)]
     simp only [Bool.not_true, Bool.or_false, List.length_append, List.length_nil, List.length_cons]
     omega
   | false =>
     rw [if_pos (by simp)]
     simp only [Bool.not_false, Bool.or_true, List.length_append, List.length_cons]
     omega
def w64 (x : Int) : Int := IntKind.i64.wrap x
theorem w64_eq (x : Int) : w64 x = (x + 9223372036854775808) % 18446744073709551616 - 9223372036854775808 := by
 unfold w64
 rw [IntKind.wrap_i64]
def incC (l : List Cn) (k : ByteArray) (n : Int) : List Cn := if mayC l = true ∧ keyL (bytesL k) = true then putC k (w64 (getC l k + n)) false l else []
def sumC (base a b : List Cn) (k : ByteArray) : Int := w64 (w64 (getC a k + getC b k) - getC base k)
def mergeC (base a b : List Cn) : List Cn :=
 if mayC base = true ∧ mayC a = true ∧ mayC b = true then (base ++ a ++ b).foldl (fun out c => putC c.key (sumC base a b c.key) false out) [] else []
def mergeF (base a b : List Cn) (out : List Cn) (c : Cn) : List Cn := putC c.key (sumC base a b c.key) false out
theorem mergeC_fold {base a b : List Cn} (h : mayC base = true ∧ mayC a = true ∧ mayC b = true) : mergeC base a b = (base ++ a ++ b).foldl (mergeF base a b) [] := by
 unfold mergeC
 rw [if_pos h]
 rfl
theorem mergeF_length (base a b : List Cn) : ∀ (l out : List Cn), (l.foldl (mergeF base a b) out).length ≤ out.length + l.length
 | [], out => by simp
 | c :: r, out => by
   rw [List.foldl_cons]
   have h1 := mergeF_length base a b r (mergeF base a b out c)
   have h2 : (mergeF base a b out c).length ≤ out.length + 1 := putC_length _ _ _
   rw [List.length_cons]
   omega
end Go.Proofs.YtgmdhaepiclkcaaGreatDoor.CtrM
