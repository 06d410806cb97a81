/- Plain facts on operations: which may be, what they are in bytes, and the one that bytes begin with. No condition. | Ids as lists of thirty-two bytes; their order; lists that rise; plain facts. No condition. | Which events may be. No condition. | Plain facts on commits: which may be, what they are in bytes, and the one that bytes begin with. No condition. -/
import Derived.Test.YtgoapaanmcmlmaaGreatDoorEncGJ6
import Derived.WalkKit
import Derived.Sort.Statements
namespace Go.Proofs.YtgoapaanmcmlmaaGreatDoor.OpsM
set_option maxRecDepth 100000
open Byt EncM EncC EncE EncT
structure Opn where
 kind : Int
 key : ByteArray
 elem : ByteArray
 n : Int
def I64 (n : Int) : Prop := -9223372036854775808 ≤ n ∧ n ≤ 9223372036854775807
def stepB (n : Int) (e : ByteArray) : Bool := decide (-1048576 ≤ n) && decide (n ≤ 1048576) && decide (n ≠ 0) && decide (bytesL e = [])
def elemB (n : Int) (e : ByteArray) : Bool := keyL (bytesL e) && decide (n = 0)
def restB (o : Opn) : Bool := if o.kind = 0 then stepB o.n o.elem else if o.kind = 1 ∨ o.kind = 2 ∨ o.kind = 3 then elemB o.n o.elem else false
def mayO (o : Opn) : Bool := keyL (bytesL o.key) && restB o
theorem restB_kind {o : Opn} (h : restB o = true) : o.kind = 0 ∧ stepB o.n o.elem = true ∨ (o.kind = 1 ∨ o.kind = 2 ∨ o.kind = 3) ∧ elemB o.n o.elem = true := by
 unfold restB at h
 split at h
 · exact .inl ⟨‹_›, h⟩
 · split at h
   · exact .inr ⟨‹_›, h⟩
   · cases h
theorem mayO_kind {o : Opn} (h : mayO o = true) : keyL (bytesL o.key) = true ∧ (o.kind = 0 ∧ stepB o.n o.elem = true ∨ (o.kind = 1 ∨ o.kind = 2 ∨ o.kind = 3) ∧ elemB o.n o.elem = true) := by
 unfold mayO at h
 rw [Bool.and_eq_true] at h
 exact ⟨h.1, restB_kind h.2⟩
theorem stepB_iff {n : Int} {e : ByteArray} : stepB n e = true ↔ -1048576 ≤ n ∧ n ≤ 1048576 ∧ n ≠ 0 ∧ bytesL e = [] := by
 unfold stepB
 simp only [Bool.and_eq_true, decide_eq_true_eq]
 constructor
 · rintro ⟨⟨⟨a, b⟩, c⟩, d⟩; exact ⟨a, b, c, d⟩
 · rintro ⟨a, b, c, d⟩; exact ⟨⟨⟨a, b⟩, c⟩, d⟩
theorem elemB_iff {n : Int} {e : ByteArray} : elemB n e = true ↔ keyL (bytesL e) = true ∧ n = 0 := by
 unfold elemB
 simp only [Bool.and_eq_true, decide_eq_true_eq]
def tailL (o : Opn) : List Int := if o.kind = 0 then numL (foldI o.n).toNat else textL (bytesL o.elem)
def putL (o : Opn) : List Int := numL o.kind.toNat ++ textL (bytesL o.key) ++ tailL o
def tailG (k : Nat) (key r : List Int) : Option (Opn × List Int) :=
 if k = 0 then (if (getL r).2 = 0 then none else some (⟨0, strOf key, ⟨#[]⟩, unfoldI ((getL r).1 : Nat)⟩, r.drop (getL r).2))
 else match cutL r 8 with
   | none => none
   | some (e, r2) => some (⟨k, strOf key, strOf e, 0⟩, r2)
def keep (p : Option (Opn × List Int)) : Option (Opn × List Int) :=
 match p with
 | none => none
 | some (o, r) => if mayO o = true then some (o, r) else none
def getO (bs : List Int) : Option (Opn × List Int) :=
 if (getL bs).2 = 0 ∨ 4 ≤ (getL bs).1 then none
 else match cutL (bs.drop (getL bs).2) 8 with
   | none => none
   | some (key, r) => keep (tailG (getL bs).1 key r)
theorem empty_of {e : ByteArray} (h : bytesL e = []) : e = ⟨#[]⟩ := by rw [← strOf_bytesL e, h]; rfl
theorem unfold_fold {k : Int} (_h : I64 k) : unfoldI (foldI k) = k := by
 unfold unfoldI foldI
 by_cases h0 : 0 ≤ k
 · rw [if_pos h0, if_pos (by omega)]; omega
 · rw [if_neg h0, if_neg (by omega)]; omega
theorem foldI_bd {k : Int} (h : I64 k) : 0 ≤ foldI k ∧ foldI k ≤ 18446744073709551615 := by
 unfold I64 at h
 unfold foldI
 split <;> omega
theorem fold_unfold {n : Int} (h : 0 ≤ n) : foldI (unfoldI n) = n := by
 unfold unfoldI foldI
 by_cases h0 : n % 2 = 0
 · rw [if_pos h0, if_pos (by omega)]; omega
 · rw [if_neg h0, if_neg (by omega)]; omega
theorem unfoldI_bd {n : Nat} (h : n < 18446744073709551616) : I64 (unfoldI n) := by
 unfold I64 unfoldI
 split <;> omega
theorem get_put {o : Opn} (h : mayO o = true) (r : List Int) : getO (putL o ++ r) = some (o, r) := by
 obtain ⟨hk, hr⟩ := mayO_kind h
 have hkl := keyL_len hk
 have hkind : o.kind.toNat < 4 := by rcases hr with ⟨h0, _⟩ | ⟨h0, _⟩ <;> omega
 have e : putL o ++ r = numL o.kind.toNat ++ (textL (bytesL o.key) ++ (tailL o ++ r)) := by unfold putL; simp only [List.append_assoc]
 have g := getL_num o.kind.toNat (textL (bytesL o.key) ++ (tailL o ++ r)) (by omega)
 have hp := numL_pos o.kind.toNat
 unfold getO
 rw [e, g]
 simp only [List.drop_left]
 rw [if_neg (by omega), cut_text _ _ _ (by omega), if_pos (by omega)]
 have ht : tailG o.kind.toNat (bytesL o.key) (tailL o ++ r) = some (o, r) := by
   unfold tailG tailL
   rcases hr with ⟨h0, hs⟩ | ⟨h0, he⟩
   · rw [stepB_iff] at hs
     obtain ⟨h1, h2, h3, h4⟩ := hs
     have hI : I64 o.n := by unfold I64; omega
     have hf := foldI_bd hI
     have g2 := getL_num (foldI o.n).toNat r (by omega)
     have hp2 := numL_pos (foldI o.n).toNat
     rw [if_pos h0, if_pos (by omega), g2]
     simp only [List.drop_left]
     rw [if_neg (by omega)]
     have hu : unfoldI (((foldI o.n).toNat : Nat) : Int) = o.n := by
       rw [show (((foldI o.n).toNat : Nat) : Int) = foldI o.n by omega, unfold_fold hI]
     rw [hu, strOf_bytesL]
     have := empty_of h4
     cases o
     simp only at h0 this ⊢
     rw [h0, this]
   · rw [elemB_iff] at he
     obtain ⟨h1, h2⟩ := he
     have := keyL_len h1
     rw [if_neg (by omega), if_neg (by omega), cut_text _ _ _ (by omega), if_pos (by omega)]
     simp only [strOf_bytesL]
     have hk2 : ((o.kind.toNat : Nat) : Int) = o.kind := by omega
     rw [hk2]
     cases o
     simp only at h2 ⊢
     rw [h2]
 simp only [ht, keep, h, if_true]
theorem cut_back {bs a r : List Int} {most : Int} (hb : ∀ x ∈ bs, B x) (h : cutL bs most = some (a, r)) : bs = textL a ++ r ∧ (a.length : Int) ≤ most := by
 unfold cutL at h
 split at h
 · cases h
 · rename_i hn
   have hk : (getL bs).2 ≠ 0 := fun e => hn (.inl e)
   obtain ⟨h1, h2, h3, h4, h5⟩ := getL_back hb (N := (getL bs).1) (k := (getL bs).2) rfl hk
   injection h with h
   obtain ⟨rfl, rfl⟩ := Prod.mk.inj h
   have hl : ((bs.drop (getL bs).2).take (getL bs).1).length = (getL bs).1 := by simp; omega
   refine ⟨?_, by rw [hl]; omega⟩
   unfold textL
   rw [hl, ← h5, List.append_assoc, List.take_append_drop, List.take_append_drop]
theorem cut_B {bs a r : List Int} {most : Int} (hb : ∀ x ∈ bs, B x) (h : cutL bs most = some (a, r)) : (∀ x ∈ a, B x) ∧ ∀ x ∈ r, B x := by
 have e := (cut_back hb h).1
 rw [e] at hb
 exact ⟨fun x hx => hb x (by unfold textL; simp [hx]), fun x hx => hb x (by simp [hx])⟩
theorem put_get {bs r : List Int} {o : Opn} (hb : ∀ x ∈ bs, B x) (h : getO bs = some (o, r)) : mayO o = true ∧ bs = putL o ++ r := by
 unfold getO at h
 split at h
 · cases h
 · rename_i hn
   have hk : (getL bs).2 ≠ 0 := fun e => hn (.inl e)
   obtain ⟨h1, h2, h3, h4, h5⟩ := getL_back hb (N := (getL bs).1) (k := (getL bs).2) rfl hk
   have hb1 : ∀ x ∈ bs.drop (getL bs).2, B x := fun x hx => hb x (List.mem_of_mem_drop hx)
   cases hc : cutL (bs.drop (getL bs).2) 8 with
   | none => rw [hc] at h; cases h
   | some p =>
     obtain ⟨key, r1⟩ := p
     rw [hc] at h
     simp only at h
     obtain ⟨c1, c2⟩ := cut_back hb1 hc
     obtain ⟨c3, c4⟩ := cut_B hb1 hc
     have e : bs = numL (getL bs).1 ++ (textL key ++ r1) := by rw [← c1, ← h5, List.take_append_drop]
     obtain ⟨K, hK⟩ : ∃ K, (getL bs).1 = K := ⟨_, rfl⟩
     rw [hK] at h e hn
     cases ht : tailG K key r1 with
     | none => rw [ht] at h; simp [keep] at h
     | some q =>
       obtain ⟨o1, r2⟩ := q
       rw [ht] at h
       simp only [keep] at h
       split at h
       · rename_i hm
         injection h with h
         obtain ⟨rfl, rfl⟩ := Prod.mk.inj h
         refine ⟨hm, ?_⟩
         rw [e]
         unfold putL tailL
         unfold tailG at ht
         split at ht
         · rename_i hz
           split at ht
           · cases ht
           · rename_i h0
             injection ht with ht
             obtain ⟨rfl, rfl⟩ := Prod.mk.inj ht
             obtain ⟨g1, _, _, _, g5⟩ := getL_back c4 (N := (getL r1).1) (k := (getL r1).2) rfl h0
             have hf : (foldI (unfoldI ((getL r1).1 : Nat))).toNat = (getL r1).1 := by rw [fold_unfold (by omega)]; omega
             simp only [bytesL_strOf c3, if_true, hf, ← g5]
             rw [hz]
             simp [List.append_assoc, List.take_append_drop]
         · rename_i hz
           cases hc2 : cutL r1 8 with
           | none => rw [hc2] at ht; cases ht
           | some q2 =>
             obtain ⟨e2, r3⟩ := q2
             rw [hc2] at ht
             simp only at ht
             injection ht with ht
             obtain ⟨rfl, rfl⟩ := Prod.mk.inj ht
             obtain ⟨d1, _⟩ := cut_back c4 hc2
             obtain ⟨d3, _⟩ := cut_B c4 hc2
             have hK0 : ¬ ((K : Nat) : Int) = 0 := by omega
             simp only [bytesL_strOf c3, bytesL_strOf d3, if_neg hK0, Int.toNat_natCast]
             conv => lhs; rw [d1]
             simp [List.append_assoc]
       · cases h
theorem putL_B (o : Opn) : ∀ x ∈ putL o, B x := by
 intro x hx
 unfold putL tailL at hx
 rcases List.mem_append.1 hx with hx | hx
 · rcases List.mem_append.1 hx with hx | hx
   · exact numL_range _ x hx
   · exact textL_B (bytesL_B _) x hx
 · split at hx
   · exact numL_range _ x hx
   · exact textL_B (bytesL_B _) x hx
theorem putL_len {o : Opn} (h : mayO o = true) : (putL o).length ≤ 60 := by
 obtain ⟨hk, hr⟩ := mayO_kind h
 have hkl := keyL_len hk
 have h1 := numL_ten (n := o.kind.toNat) (by rcases hr with ⟨h0, _⟩ | ⟨h0, _⟩ <;> omega)
 have h2 := textL_length (bytesL o.key) (by omega)
 have h3 : (tailL o).length ≤ 20 := by
   unfold tailL
   split
   · rcases hr with ⟨h0, hs⟩ | ⟨h0, _⟩
     · rw [stepB_iff] at hs
       have := foldI_bd (k := o.n) (by unfold I64; omega)
       have := numL_ten (n := (foldI o.n).toNat) (by omega)
       omega
     · omega
   · rcases hr with ⟨h0, hs⟩ | ⟨h0, he⟩
     · omega
     · rw [elemB_iff] at he
       have := keyL_len he.1
       have := textL_length (bytesL o.elem) (by omega)
       omega
 unfold putL
 simp only [List.length_append]
 omega
end Go.Proofs.YtgoapaanmcmlmaaGreatDoor.OpsM
namespace Go.Proofs.YtgoapaanmcmlmaaGreatDoor.IdM
set_option maxRecDepth 100000
structure Idn where
 val : List Int
 ok : val.length = 32 ∧ ∀ x ∈ val, 0 ≤ x ∧ x ≤ 255
theorem Idn_ext {x y : Idn} (h : x.1 = y.1) : x = y := by
 cases x; cases y
 simp only at h
 subst h
 rfl
instance : DecidableEq Idn := fun x y => decidable_of_iff (x.1 = y.1) ⟨Idn_ext, fun e => by rw [e]⟩
def nought : Idn := ⟨List.replicate 32 0, by simp, by intro x hx; simp at hx; omega⟩
instance : Inhabited Idn := ⟨nought⟩
theorem Idn_len (x : Idn) : x.1.length = 32 := x.2.1
theorem Idn_at_range (x : Idn) (i : Nat) : 0 ≤ x.1.getD i 0 ∧ x.1.getD i 0 ≤ 255 := by
 by_cases h : i < x.1.length
 · rw [List.getD_eq_getElem?_getD, List.getElem?_eq_getElem h, Option.getD_some]
   exact x.2.2 _ (List.getElem_mem _)
 · rw [List.getD_eq_getElem?_getD, List.getElem?_eq_none (by omega), Option.getD_none]
   omega
theorem list_ext {a b : List Int} (hl : a.length = b.length) (h : ∀ i, i < a.length → a.getD i 0 = b.getD i 0) : a = b := by
 apply List.ext_getElem hl
 intro i h1 h2
 have := h i h1
 rw [List.getD_eq_getElem?_getD, List.getD_eq_getElem?_getD, List.getElem?_eq_getElem h1, List.getElem?_eq_getElem h2] at this
 simpa using this
theorem Idn_ext_at {x y : Idn} (h : ∀ i, i < 32 → x.1.getD i 0 = y.1.getD i 0) : x = y :=
 Idn_ext (list_ext (by rw [(Idn_len x), (Idn_len y)]) (fun i hi => h i (by rw [(Idn_len x)] at hi; exact hi)))
def lessL : List Int → List Int → Bool
 | a :: aa, b :: bs => if a = b then lessL aa bs else decide (a < b)
 | _, _ => false
def less (x y : Idn) : Bool := lessL x.1 y.1
theorem lessL_irrefl : ∀ a : List Int, lessL a a = false
 | [] => rfl
 | a :: aa => by simp [lessL, lessL_irrefl aa]
theorem lessL_trans : ∀ a b c : List Int, lessL a b = true → lessL b c = true → lessL a c = true
 | a :: aa, b :: bs, c :: cs, h1, h2 => by
   simp only [lessL] at h1 h2 ⊢
   split at h1 <;> split at h2 <;> rename_i p q
   · subst p; subst q
     simpa using lessL_trans aa bs cs h1 h2
   · subst p
     simpa [q] using h2
   · subst q
     simpa [p] using h1
   · have h1' : a < b := by simpa using h1
     have h2' : b < c := by simpa using h2
     have : a ≠ c := by omega
     simp [this]
     omega
 | [], _, _, h1, _ => by simp [lessL] at h1
 | _ :: _, [], _, h1, _ => by simp [lessL] at h1
 | _ :: _, _ :: _, [], _, h2 => by simp [lessL] at h2
theorem lessL_total : ∀ a b : List Int, a.length = b.length → lessL a b = false → lessL b a = false → a = b
 | [], [], _, _, _ => rfl
 | a :: aa, b :: bs, hl, h1, h2 => by
   simp only [lessL] at h1 h2
   split at h1
   · rename_i p
     subst p
     simp at h2
     rw [lessL_total aa bs (by simpa using hl) h1 h2]
   · rename_i p
     have p' : b ≠ a := fun e => p e.symm
     simp [p'] at h2
     simp at h1
     omega
theorem less_irrefl (x : Idn) : less x x = false := lessL_irrefl _
theorem less_trans {x y z : Idn} (h1 : less x y = true) (h2 : less y z = true) : less x z = true := lessL_trans _ _ _ h1 h2
theorem less_total {x y : Idn} (h1 : less x y = false) (h2 : less y x = false) : x = y := Idn_ext (lessL_total _ _ (by rw [(Idn_len x), (Idn_len y)]) h1 h2)
theorem less_asymm {x y : Idn} (h : less x y = true) : less y x = false := by
 cases h2 : less y x with
 | false => rfl
 | true => have := less_trans h h2; rw [less_irrefl] at this; cases this
theorem less_ne {x y : Idn} (h : less x y = true) : x ≠ y := by rintro rfl; rw [less_irrefl] at h; cases h
theorem less_of_ne {x y : Idn} (h : less x y = false) (hn : x ≠ y) : less y x = true := by
 cases h2 : less y x with
 | true => rfl
 | false => exact absurd (less_total h h2) hn
theorem lessL_at : ∀ (i : Nat) (a b : List Int), a.length = b.length → i < a.length → (∀ j, j < i → a.getD j 0 = b.getD j 0) → a.getD i 0 ≠ b.getD i 0 → lessL a b = decide (a.getD i 0 < b.getD i 0)
 | _, [], _, _, hi, _, _ => by simp at hi
 | _, _ :: _, [], hl, _, _, _ => by simp at hl
 | 0, a :: aa, b :: bs, _, _, _, hn => by
   simp only [List.getD_cons_zero] at hn
   simp [lessL, hn]
 | i + 1, a :: aa, b :: bs, hl, hi, he, hn => by
   have h0 := he 0 (by omega)
   simp only [List.getD_cons_zero] at h0
   subst h0
   simp only [List.getD_cons_succ] at hn ⊢
   simp only [lessL, if_true]
   exact lessL_at i aa bs (by simpa using hl) (by simpa using hi) (fun j hj => by simpa using he (j + 1) (by omega)) hn
theorem less_at {x y : Idn} (i : Nat) (hi : i < 32) (he : ∀ j, j < i → x.1.getD j 0 = y.1.getD j 0) (hn : x.1.getD i 0 ≠ y.1.getD i 0) : less x y = decide (x.1.getD i 0 < y.1.getD i 0) :=
 lessL_at i _ _ (by rw [(Idn_len x), (Idn_len y)]) (by rw [(Idn_len x)]; exact hi) he hn
def Rising (l : List Idn) : Prop := l.Pairwise fun x y => less x y = true
theorem rising_nodup {l : List Idn} (h : Rising l) : l.Nodup := List.Pairwise.imp (fun hxy => less_ne hxy) h
def risesB (l : List Idn) : Bool := (List.range (l.length - 1)).all fun i => less (l.getD i nought) (l.getD (i + 1) nought)
end Go.Proofs.YtgoapaanmcmlmaaGreatDoor.IdM
namespace Go.Proofs.YtgoapaanmcmlmaaGreatDoor.StM
set_option maxRecDepth 100000
def eventB (n q : Int) : Bool := decide (0 ≤ n) && (decide (n < 8) && (decide (1 ≤ q) && decide (q ≤ 1048576)))
theorem eventB_iff {n q : Int} : eventB n q = true ↔ (0 ≤ n ∧ n < 8) ∧ 1 ≤ q ∧ q ≤ 1048576 := by
 unfold eventB
 simp only [Bool.and_eq_true, decide_eq_true_eq]
 omega
end Go.Proofs.YtgoapaanmcmlmaaGreatDoor.StM
namespace Go.Proofs.YtgoapaanmcmlmaaGreatDoor.CmM
set_option maxRecDepth 100000
open Byt EncM EncC EncE EncT OpsM IdM
structure Com where
 node : Int
 seq : Int
 gen : Int
 ps : List Idn
 op : Opn
theorem Opn_ext {x y : Opn} (h1 : x.kind = y.kind) (h2 : x.key = y.key) (h3 : x.elem = y.elem) (h4 : x.n = y.n) : x = y := by
 cases x; cases y
 simp_all
theorem Com_ext {x y : Com} (h1 : x.node = y.node) (h2 : x.seq = y.seq) (h3 : x.gen = y.gen) (h4 : x.ps = y.ps) (h5 : x.op = y.op) : x = y := by
 cases x; cases y
 simp_all
def noO : Opn := ⟨0, ⟨#[]⟩, ⟨#[]⟩, 0⟩
def noK : Com := ⟨0, 0, 0, [], noO⟩
def noughtO (o : Opn) : Bool := decide (o.kind = 0) && (decide (bytesL o.key = []) && (decide (bytesL o.elem = []) && decide (o.n = 0)))
theorem noughtO_iff {o : Opn} : noughtO o = true ↔ o = noO := by
 unfold noughtO noO
 simp only [Bool.and_eq_true, decide_eq_true_eq]
 constructor
 · rintro ⟨h1, h2, h3, h4⟩
   exact Opn_ext h1 (empty_of h2) (empty_of h3) h4
 · rintro rfl
   exact ⟨rfl, rfl, rfl, rfl⟩
def mergeB (c : Com) : Bool := decide (c.node = -1) && (decide (c.seq = 0) && (noughtO c.op && decide (2 ≤ c.ps.length)))
theorem mergeB_iff {c : Com} : mergeB c = true ↔ c.node = -1 ∧ c.seq = 0 ∧ c.op = noO ∧ 2 ≤ c.ps.length := by
 unfold mergeB
 simp only [Bool.and_eq_true, decide_eq_true_eq, noughtO_iff]
def lineB (c : Com) : Bool := decide (1 ≤ c.gen) && (decide (c.gen ≤ 1048576) && (decide (c.ps.length ≤ 8) && (risesB c.ps && (decide (c.gen = 1) == decide (c.ps.length = 0)))))
theorem lineB_iff {c : Com} : lineB c = true ↔ 1 ≤ c.gen ∧ c.gen ≤ 1048576 ∧ c.ps.length ≤ 8 ∧ risesB c.ps = true ∧ (c.gen = 1 ↔ c.ps.length = 0) := by
 unfold lineB
 simp only [Bool.and_eq_true, decide_eq_true_eq, beq_iff_eq, decide_eq_decide]
def mayK (c : Com) : Bool := lineB c && (mergeB c || (StM.eventB c.node c.seq && mayO c.op))
theorem mayK_iff {c : Com} : mayK c = true ↔ lineB c = true ∧ (mergeB c = true ∨ StM.eventB c.node c.seq = true ∧ mayO c.op = true) := by
 unfold mayK
 simp only [Bool.and_eq_true, Bool.or_eq_true]
def isM (c : Com) : Bool := mayK c && decide (c.node = -1)
theorem isM_iff {c : Com} : isM c = true ↔ lineB c = true ∧ mergeB c = true := by
 unfold isM
 rw [Bool.and_eq_true, mayK_iff, decide_eq_true_eq]
 constructor
 · rintro ⟨⟨h1, h2 | ⟨h2, _⟩⟩, h3⟩
   · exact ⟨h1, h2⟩
   · have := StM.eventB_iff.1 h2; omega
 · rintro ⟨h1, h2⟩
   exact ⟨⟨h1, .inl h2⟩, (mergeB_iff.1 h2).1⟩
theorem node_may {c : Com} (h : mayK c = true) : -1 ≤ c.node ∧ c.node < 8 := by
 rcases (mayK_iff.1 h).2 with h1 | ⟨h1, _⟩
 · have := (mergeB_iff.1 h1).1; omega
 · have := (StM.eventB_iff.1 h1).1; omega
theorem seq_may {c : Com} (h : mayK c = true) : 0 ≤ c.seq ∧ c.seq ≤ 1048576 := by
 rcases (mayK_iff.1 h).2 with h1 | ⟨h1, _⟩
 · have := (mergeB_iff.1 h1).2.1; omega
 · have := (StM.eventB_iff.1 h1).2; omega
theorem op_may {c : Com} (h : mayK c = true) (hn : c.node ≠ -1) : mayO c.op = true := by
 rcases (mayK_iff.1 h).2 with h1 | ⟨_, h1⟩
 · exact absurd (mergeB_iff.1 h1).1 hn
 · exact h1
theorem merge_may {c : Com} (h : mayK c = true) (hn : c.node = -1) : mergeB c = true := by
 rcases (mayK_iff.1 h).2 with h1 | ⟨h1, _⟩
 · exact h1
 · have := (StM.eventB_iff.1 h1).1; omega
def flatL (ps : List Idn) : List Int := ps.flatMap (·.val)
theorem flatL_cons (x : Idn) (l : List Idn) : flatL (x :: l) = x.val ++ flatL l := by simp [flatL]
theorem flatL_append (a b : List Idn) : flatL (a ++ b) = flatL a ++ flatL b := by simp [flatL]
theorem flatL_len : ∀ l : List Idn, (flatL l).length = 32 * l.length
 | [] => rfl
 | x :: l => by
   rw [flatL_cons, List.length_append, flatL_len l, Idn_len, List.length_cons]
   omega
theorem flatL_B (l : List Idn) : ∀ x ∈ flatL l, B x := by
 intro x hx
 unfold flatL at hx
 rw [List.mem_flatMap] at hx
 obtain ⟨y, _, hy⟩ := hx
 exact y.ok.2 x hy
def headL (c : Com) : List Int := numL (foldI c.node).toNat ++ (numL c.seq.toNat ++ (numL c.gen.toNat ++ numL c.ps.length))
def opL (c : Com) : List Int := if c.node = -1 then [] else putL c.op
def putK (c : Com) : List Int := headL c ++ (flatL c.ps ++ opL c)
def idsL : Nat → List Int → Option (List Idn × List Int)
 | 0, bs => some ([], bs)
 | n + 1, bs => if h : 32 ≤ bs.length ∧ ∀ x ∈ bs.take 32, 0 ≤ x ∧ x ≤ 255 then
     match idsL n (bs.drop 32) with
     | none => none
     | some (l, r) => some (⟨bs.take 32, by rw [List.length_take]; omega, h.2⟩ :: l, r)
   else none
def asI (n : Nat) : Int := if n < 9223372036854775808 then (n : Int) else (n : Int) - 18446744073709551616
def opG (node : Int) (bs : List Int) : Option (Opn × List Int) := if node = -1 then some (noO, bs) else getO bs
def keepK (p : Com × List Int) : Option (Com × List Int) := if mayK p.1 = true then some p else none
def nums : Nat → List Int → Option (List Nat × List Int)
 | 0, bs => some ([], bs)
 | k + 1, bs => if (getL bs).2 = 0 then none else
     match nums k (bs.drop (getL bs).2) with
     | none => none
     | some (l, r) => some ((getL bs).1 :: l, r)
def tailK (a b g n : Nat) (bs : List Int) : Option (Com × List Int) :=
 match idsL n bs with
 | none => none
 | some (ps, r) => match opG (unfoldI a) r with
   | none => none
   | some (o, r2) => keepK (⟨unfoldI a, asI b, asI g, ps, o⟩, r2)
def getK (bs : List Int) : Option (Com × List Int) :=
 match nums 4 bs with
 | some ([a, b, g, n], r) => tailK a b g n r
 | _ => none
theorem idsL_put : ∀ (l : List Idn) (r : List Int), idsL l.length (flatL l ++ r) = some (l, r)
 | [], r => by simp [idsL, flatL]
 | x :: l, r => by
   have hx := Idn_len x
   have e1 : (flatL (x :: l) ++ r).take 32 = x.val := by rw [flatL_cons, List.append_assoc, ← hx, List.take_left]
   have e2 : (flatL (x :: l) ++ r).drop 32 = flatL l ++ r := by rw [flatL_cons, List.append_assoc, ← hx, List.drop_left]
   have hc : 32 ≤ (flatL (x :: l) ++ r).length ∧ ∀ y ∈ (flatL (x :: l) ++ r).take 32, 0 ≤ y ∧ y ≤ 255 := by
     rw [e1]
     exact ⟨by rw [List.length_append, flatL_len, List.length_cons]; omega, x.ok.2⟩
   rw [List.length_cons, idsL, dif_pos hc]
   simp only [e2, idsL_put l r, Option.some.injEq, Prod.mk.injEq, List.cons.injEq, and_true]
   exact Idn_ext e1
theorem idsL_back : ∀ (n : Nat) {bs r : List Int} {l : List Idn}, idsL n bs = some (l, r) → l.length = n ∧ bs = flatL l ++ r
 | 0, bs, r, l, h => by
   simp only [idsL, Option.some.injEq, Prod.mk.injEq] at h
   obtain ⟨rfl, rfl⟩ := h
   exact ⟨rfl, rfl⟩
 | n + 1, bs, r, l, h => by
   rw [idsL] at h
   split at h
   · rename_i hc
     cases hq : idsL n (bs.drop 32) with
     | none => rw [hq] at h; cases h
     | some q =>
       obtain ⟨l1, r1⟩ := q
       rw [hq] at h
       simp only [Option.some.injEq, Prod.mk.injEq] at h
       obtain ⟨rfl, rfl⟩ := h
       obtain ⟨e1, e2⟩ := idsL_back n hq
       refine ⟨by rw [List.length_cons, e1], ?_⟩
       rw [flatL_cons, List.append_assoc, ← e2, List.take_append_drop]
   · cases h
theorem asI_nat {n : Nat} (h : n < 9223372036854775808) : asI n = n := by rw [asI, if_pos h]
theorem asI_bd {n : Nat} (h : n < 18446744073709551616) : I64 (asI n) := by
 unfold I64 asI
 split <;> omega
theorem nums_succ (k m : Nat) (r : List Int) (hm : m < 18446744073709551616) : nums (k + 1) (numL m ++ r) = (nums k r).map fun p => (m :: p.1, p.2) := by
 have g := getL_num m r hm
 have hp := numL_pos m
 rw [nums, g]
 simp only [List.drop_left]
 rw [if_neg (by omega)]
 cases nums k r <;> rfl
theorem head_nums {c : Com} (h : mayK c = true) (r : List Int) : nums 4 (headL c ++ r) = some ([(foldI c.node).toNat, c.seq.toNat, c.gen.toNat, c.ps.length], r) := by
 have hn := node_may h
 have hs := seq_may h
 have hg := lineB_iff.1 (mayK_iff.1 h).1
 have hf := foldI_bd (k := c.node) (by unfold I64; omega)
 unfold headL
 simp only [List.append_assoc]
 rw [nums_succ 3 _ _ (by omega), nums_succ 2 _ _ (by omega), nums_succ 1 _ _ (by omega), nums_succ 0 _ _ (by omega)]
 rfl
theorem get_putK {c : Com} (h : mayK c = true) (r : List Int) : getK (putK c ++ r) = some (c, r) := by
 have hn := node_may h
 have hs := seq_may h
 have hg := lineB_iff.1 (mayK_iff.1 h).1
 have hI : I64 c.node := by unfold I64; omega
 have hf := foldI_bd hI
 have e : putK c ++ r = headL c ++ (flatL c.ps ++ (opL c ++ r)) := by unfold putK; simp only [List.append_assoc]
 have eu : unfoldI (((foldI c.node).toNat : Nat) : Int) = c.node := by rw [show (((foldI c.node).toNat : Nat) : Int) = foldI c.node by omega, unfold_fold hI]
 have es : asI c.seq.toNat = c.seq := by rw [asI_nat (by omega)]; omega
 have eg : asI c.gen.toNat = c.gen := by rw [asI_nat (by omega)]; omega
 have eo : opG c.node (opL c ++ r) = some (c.op, r) := by
   unfold opG opL
   by_cases h1 : c.node = -1
   · rw [if_pos h1, if_pos h1, (mergeB_iff.1 (merge_may h h1)).2.2.1]
     rfl
   · rw [if_neg h1, if_neg h1]
     exact get_put (op_may h h1) r
 unfold getK
 rw [e, head_nums h]
 simp only [tailK, idsL_put, eu, es, eg, eo]
 exact if_pos h
theorem get_putK0 {c : Com} (h : mayK c = true) : getK (putK c) = some (c, []) := by
 have := get_putK h []
 rwa [List.append_nil] at this
theorem nums_back : ∀ (k : Nat) {bs r : List Int} {l : List Nat}, (∀ x ∈ bs, B x) → nums k bs = some (l, r) → l.length = k ∧ (∀ n ∈ l, n < 18446744073709551616) ∧ bs = l.flatMap numL ++ r
 | 0, bs, r, l, _, h => by
   simp only [nums, Option.some.injEq, Prod.mk.injEq] at h
   obtain ⟨rfl, rfl⟩ := h
   exact ⟨rfl, by simp, rfl⟩
 | k + 1, bs, r, l, hb, h => by
   rw [nums] at h
   split at h
   · cases h
   · rename_i hk
     obtain ⟨h1, h2, h3, h4, h5⟩ := getL_back hb (N := (getL bs).1) (k := (getL bs).2) rfl hk
     cases hq : nums k (bs.drop (getL bs).2) with
     | none => rw [hq] at h; cases h
     | some q =>
       obtain ⟨l1, r1⟩ := q
       rw [hq] at h
       simp only [Option.some.injEq, Prod.mk.injEq] at h
       obtain ⟨rfl, rfl⟩ := h
       obtain ⟨e1, e2, e3⟩ := nums_back k (fun x hx => hb x (List.mem_of_mem_drop hx)) hq
       refine ⟨by rw [List.length_cons, e1], fun n hn => ?_, ?_⟩
       · rcases List.mem_cons.1 hn with rfl | hn
         · exact h1
         · exact e2 n hn
       · rw [List.flatMap_cons, List.append_assoc, ← e3, ← h5, List.take_append_drop]
theorem put_getK {bs r : List Int} {c : Com} (hb : ∀ x ∈ bs, B x) (h : getK bs = some (c, r)) : mayK c = true ∧ bs = putK c ++ r := by
 unfold getK at h
 split at h
 · rename_i a b g n r0 hq
   obtain ⟨_, q2, q3⟩ := nums_back 4 hb hq
   have ha := q2 a (by simp)
   have hbb := q2 b (by simp)
   have hg := q2 g (by simp)
   unfold tailK at h
   split at h
   · cases h
   · rename_i ps r1 hi
     obtain ⟨i1, i2⟩ := idsL_back n hi
     split at h
     · cases h
     · rename_i o r2 ho
       unfold keepK at h
       split at h
       · rename_i hm
         simp only [Option.some.injEq, Prod.mk.injEq] at h
         obtain ⟨rfl, rfl⟩ := h
         refine ⟨hm, ?_⟩
         have hs := seq_may hm
         have hgg := lineB_iff.1 (mayK_iff.1 hm).1
         have ef : (foldI (unfoldI (a : Int))).toNat = a := by rw [fold_unfold (by omega)]; omega
         have es : (asI b).toNat = b := by
           have h1 : 0 ≤ asI b := hs.1
           unfold asI at h1 ⊢
           split <;> omega
         have eg : (asI g).toNat = g := by
           have h1 : 1 ≤ asI g := hgg.1
           unfold asI at h1 ⊢
           split <;> omega
         have hr1 : ∀ x ∈ r1, B x := fun x hx => hb x (by rw [q3, i2]; simp [hx])
         have eo : r1 = (if unfoldI (a : Int) = -1 then [] else putL o) ++ r2 := by
           unfold opG at ho
           split at ho
           · rename_i h1
             simp only [Option.some.injEq, Prod.mk.injEq] at ho
             rw [if_pos h1, ho.2]
             rfl
           · rename_i h1
             rw [if_neg h1]
             exact (put_get hr1 ho).2
         unfold putK headL opL
         simp only [ef, es, eg, i1]
         rw [q3, i2]
         conv => lhs; rw [eo]
         simp only [List.flatMap_cons, List.flatMap_nil, List.append_nil, List.append_assoc]
       · cases h
 · cases h
theorem headL_B (c : Com) : ∀ x ∈ headL c, B x := by
 intro x hx
 unfold headL at hx
 simp only [List.mem_append] at hx
 rcases hx with hx | hx | hx | hx <;> exact numL_range _ x hx
theorem opL_B (c : Com) : ∀ x ∈ opL c, B x := by
 intro x hx
 unfold opL at hx
 split at hx
 · simp at hx
 · exact putL_B _ x hx
theorem putK_B (c : Com) : ∀ x ∈ putK c, B x := by
 intro x hx
 unfold putK at hx
 simp only [List.mem_append] at hx
 rcases hx with hx | hx | hx
 · exact headL_B c x hx
 · exact flatL_B _ x hx
 · exact opL_B c x hx
theorem headL_len {c : Com} (h : mayK c = true) : 4 ≤ (headL c).length ∧ (headL c).length ≤ 40 := by
 have hn := node_may h
 have hs := seq_may h
 have hg := lineB_iff.1 (mayK_iff.1 h).1
 have hf := foldI_bd (k := c.node) (by unfold I64; omega)
 have a1 := numL_pos (foldI c.node).toNat
 have a2 := numL_pos c.seq.toNat
 have a3 := numL_pos c.gen.toNat
 have a4 := numL_pos c.ps.length
 have b1 := numL_ten (n := (foldI c.node).toNat) (by omega)
 have b2 := numL_ten (n := c.seq.toNat) (by omega)
 have b3 := numL_ten (n := c.gen.toNat) (by omega)
 have b4 := numL_ten (n := c.ps.length) (by omega)
 unfold headL
 simp only [List.length_append]
 omega
theorem opL_len {c : Com} (h : mayK c = true) : (opL c).length ≤ 60 := by
 unfold opL
 split
 · simp
 · rename_i hn
   exact putL_len (op_may h hn)
theorem putK_len {c : Com} (h : mayK c = true) : (putK c).length ≤ 400 := by
 have h1 := headL_len h
 have h2 := opL_len h
 have h3 := flatL_len c.ps
 have hg := lineB_iff.1 (mayK_iff.1 h).1
 unfold putK
 simp only [List.length_append]
 omega
end Go.Proofs.YtgoapaanmcmlmaaGreatDoor.CmM
