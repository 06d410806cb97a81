/- What the document's gone of package eval returns: a contract. | What the document's Get, May, put and Same of package ctr return: contracts. | What the document's Same of package ctr, and the law's Few, return: contracts. | What the document's Newer, one, May, Get of package reg return: contracts. | What the document's Get and May of package reg return: contracts. | What the document's Same of package reg, and the law's Few, return: contracts. | What the document's has and May of package pair return: contracts. | What the document's Event, May and Same of package state return: contracts. | How a reading gives counts that came in. No condition. | How a reading gives registers, and one register, that came in. No condition. | How a reading gives pairs, and one pair, that came in. No condition. | How a reading gives a state, and an event, that came in. No condition. | What the laws on states ask of them: few of each; a contract. No condition but sizes that come with every argument. | What the document's num of package state returns: a contract. | What the document's put, Inc and Merge of package ctr return: contracts. | What the document's Inc and Merge of package ctr return: contracts. | What the laws on counts ask of lists. No condition. | What the document's Put of package reg returns where it returns nothing: a contract. | What the document's Put of package reg returns: a contract. | What the document's Merge of package reg returns: a contract. | What the laws on registers ask of lists. No condition. | Parts of slices of structs, whatever their fields. No condition. | What the document's put of package pair returns: a contract. | What the document's Add and Del of package pair return: contracts. | Lists of texts in memory: slices that a walk reads and appends to. No condition. | What the document's Elems and Merge of package pair return: contracts. | What the laws on pairs ask of lists; two lists of texts compared. No condition. | What the walks of the laws on states lean on: how long what comes of states is; what may be put in bytes. No condition. -/
import Derived.Test.YtgmdhaepiclkcaaGreatDoorFrMJ4
import Derived.Test.YtgmdhaepiclkcaaGreatDoorDgKJ13
import Derived.Test.YtgmdhaepiclkcaaGreatDoorIdOJ7
import Derived.Test.YtgmdhaepiclkcaaGreatDoorRowGJ15
import Derived.Deep.Fields
import Derived.Test.YtgmdhaepiclkcaaGreatDoorRowFJ10
import Derived.Test.YtgmdhaepiclkcaaGreatDoorCtrLJ3
import Derived.Test.YtgmdhaepiclkcaaGreatDoorOpsCJ2
import Derived.Test.YtgmdhaepiclkcaaGreatDoorSmallJ8
import Derived.Laws.Tables
namespace Go.Proofs.YtgmdhaepiclkcaaGreatDoor.EaR
set_option maxRecDepth 100000
open Go Go.Sort Go.RowKit Byt IdM IdW IdV OpsM OpsW CmM CmW CmX CmY DgM DgN DgP DgW DgT DgR DgK FrM FrN EaM EaN
open Classical
end Go.Proofs.YtgmdhaepiclkcaaGreatDoor.EaR
namespace Go.Proofs.YtgmdhaepiclkcaaGreatDoor.CtrR
set_option maxRecDepth 100000
open Go Go.RowKit Byt OpsM OpsK Rise CtrM RowS CtrW
end Go.Proofs.YtgmdhaepiclkcaaGreatDoor.CtrR
namespace Go.Proofs.YtgmdhaepiclkcaaGreatDoor.CtrS
set_option maxRecDepth 100000
open Go Go.RowKit Byt OpsM OpsK Rise CtrM RowS CtrW CtrR
end Go.Proofs.YtgmdhaepiclkcaaGreatDoor.CtrS
namespace Go.Proofs.YtgmdhaepiclkcaaGreatDoor.RegR
set_option maxRecDepth 100000
open Go Go.RowKit Byt OpsM OpsK Rise RegM RegL RowS RegW
end Go.Proofs.YtgmdhaepiclkcaaGreatDoor.RegR
namespace Go.Proofs.YtgmdhaepiclkcaaGreatDoor.RegG
set_option maxRecDepth 100000
open Go Go.RowKit Byt OpsM OpsK Rise RegM RegL RowS RegW RegR
end Go.Proofs.YtgmdhaepiclkcaaGreatDoor.RegG
namespace Go.Proofs.YtgmdhaepiclkcaaGreatDoor.RegS
set_option maxRecDepth 100000
open Go Go.RowKit Byt OpsM OpsK Rise RegM RegL RowS RegW RegR RegG
end Go.Proofs.YtgmdhaepiclkcaaGreatDoor.RegS
namespace Go.Proofs.YtgmdhaepiclkcaaGreatDoor.PairG
set_option maxRecDepth 100000
open Go Go.RowKit Byt OpsM OpsK Rise PairM PairN RowS RowB PairW PairR PairS
end Go.Proofs.YtgmdhaepiclkcaaGreatDoor.PairG
namespace Go.Proofs.YtgmdhaepiclkcaaGreatDoor.StR
set_option maxRecDepth 100000
open Go Go.RowKit Byt OpsM Rise RowS StM StW
end Go.Proofs.YtgmdhaepiclkcaaGreatDoor.StR
namespace Go.Proofs.YtgmdhaepiclkcaaGreatDoor.OpenC
set_option maxRecDepth 100000
open Go Go.Deep Go.ChangeShapes Go.WideShapes Go.ChangeAt Go.RowKit Byt CtrM RowS CtrW
end Go.Proofs.YtgmdhaepiclkcaaGreatDoor.OpenC
namespace Go.Proofs.YtgmdhaepiclkcaaGreatDoor.OpenG
set_option maxRecDepth 100000
open Go Go.Deep Go.ChangeShapes Go.WideShapes Go.ChangeAt Go.RowKit Byt RegM RowS RegW
section
variable {H : Type} {enc : TypeId × Value → H} {W : World} {sp : Nat → Bool} {hd : Bool}
end
end Go.Proofs.YtgmdhaepiclkcaaGreatDoor.OpenG
namespace Go.Proofs.YtgmdhaepiclkcaaGreatDoor.OpenP
set_option maxRecDepth 100000
open Go Go.Deep Go.ChangeShapes Go.WideShapes Go.ChangeAt Go.RowKit Byt PairM RowS PairW
structure Good (c : Pr) : Prop where
 key : c.key.size ≤ maxLen
 elem : c.elem.size ≤ maxLen
 node : In64 c.node
 seq : In64 c.seq
theorem i64_of {n : Int} (h : (Lit.int .i64 n).wf = true) : In64 n := by
 unfold In64
 simpa [Lit.wf, IntKind.min, IntKind.max, IntKind.bits, IntKind.signed] using h
section
variable {H : Type} {enc : TypeId × Value → H} {W : World} {sp : Nat → Bool} {hd : Bool}
end
end Go.Proofs.YtgmdhaepiclkcaaGreatDoor.OpenP
namespace Go.Proofs.YtgmdhaepiclkcaaGreatDoor.OpenS
set_option maxRecDepth 100000
open Go Go.Deep Go.ChangeShapes Go.WideShapes Go.ChangeAt Go.RowKit Byt RowS StM StW
section
variable {H : Type} {enc : TypeId × Value → H} {W : World} {α : Type}
end
end Go.Proofs.YtgmdhaepiclkcaaGreatDoor.OpenS
namespace Go.Proofs.YtgmdhaepiclkcaaGreatDoor.StX
set_option maxRecDepth 100000
open Go Go.RowKit Byt Rise RowS StM StN StW
end Go.Proofs.YtgmdhaepiclkcaaGreatDoor.StX
namespace Go.Proofs.YtgmdhaepiclkcaaGreatDoor.StQ
set_option maxRecDepth 100000
open Go Go.RowKit Byt EncM EncC Rise RowS StM StN StW
end Go.Proofs.YtgmdhaepiclkcaaGreatDoor.StQ
namespace Go.Proofs.YtgmdhaepiclkcaaGreatDoor.CtrP
set_option maxRecDepth 100000
open Go Go.RowKit Byt OpsM OpsK Rise CtrM RowS CtrW CtrR
end Go.Proofs.YtgmdhaepiclkcaaGreatDoor.CtrP
namespace Go.Proofs.YtgmdhaepiclkcaaGreatDoor.CtrQ
set_option maxRecDepth 100000
open Go Go.RowKit Byt OpsM OpsK Rise CtrM RowS CtrW CtrR CtrP
end Go.Proofs.YtgmdhaepiclkcaaGreatDoor.CtrQ
namespace Go.Proofs.YtgmdhaepiclkcaaGreatDoor.CtrX
set_option maxRecDepth 100000
open Go Go.RowKit Byt OpsM Rise CtrM RowS CtrW CtrS CtrL OpenC
theorem may_fits {l : List Cn} (h : mayC l = true) (hg : InL l) : Fits l := by
 intro c hc
 have h1 := keyL_len (keys_ok h c hc)
 have h2 := hg c hc
 have h3 := bytesL_length c.key
 unfold In64 at h2
 exact ⟨by omega, h2.1, h2.2⟩
theorem nil_fits : Fits [] := fun c hc => by simp at hc
theorem inc_fits {l : List Cn} (k : ByteArray) (n : Int) (hg : InL l) : Fits (incC l k n) := by
 cases hm : mayC l with
 | false => rw [inc_no n (.inl hm)]; exact nil_fits
 | true =>
   cases hk : keyL (bytesL k) with
   | false => rw [inc_no n (.inr hk)]; exact nil_fits
   | true => exact may_fits (inc_may n hm hk) (inc_in k n hg)
theorem merge_all {base a b : List Cn} : (mayC base = true ∧ mayC a = true ∧ mayC b = true) ∨ mergeC base a b = [] := by
 by_cases h : mayC base = true ∧ mayC a = true ∧ mayC b = true
 · exact .inl h
 · exact .inr (by unfold mergeC; rw [if_neg h])
theorem merge_fits (base a b : List Cn) : Fits (mergeC base a b) := by
 rcases merge_all (base := base) (a := a) (b := b) with ⟨h0, h1, h2⟩ | h
 · exact may_fits (merge_may h0 h1 h2) (merge_in h0 h1 h2)
 · rw [h]; exact nil_fits
end Go.Proofs.YtgmdhaepiclkcaaGreatDoor.CtrX
namespace Go.Proofs.YtgmdhaepiclkcaaGreatDoor.RegP
set_option maxRecDepth 100000
open Go Go.RowKit Byt OpsM OpsK Rise RegM RegL RowS RegW RegR RegG
end Go.Proofs.YtgmdhaepiclkcaaGreatDoor.RegP
namespace Go.Proofs.YtgmdhaepiclkcaaGreatDoor.RegQ
set_option maxRecDepth 100000
open Go Go.RowKit Byt OpsM OpsK Rise RegM RegL RowS RowB RegW RegR RegG RegP
theorem ins_step (c : Rg) (d : Bool) (x : Rg) (l : List Rg) : ins c d (x :: l) = (if d = false ∧ ltS c.key x.key = true then [c] else []) ++ (if x.key ≠ c.key then x :: ins c (d || ltS c.key x.key) l else best c x :: ins c true l) := rfl
theorem ins_end (c : Rg) (d : Bool) : ins c d [] = if d = true then [] else [c] := by simp [ins]
theorem bne_yes {a b : ByteArray} (h : a = b) : (a.toList != b.toList) = false := by rw [bne, str_yes h]; rfl
theorem bne_no {a b : ByteArray} (h : a ≠ b) : (a.toList != b.toList) = true := by rw [bne, str_no h]; rfl
end Go.Proofs.YtgmdhaepiclkcaaGreatDoor.RegQ
namespace Go.Proofs.YtgmdhaepiclkcaaGreatDoor.RegU
set_option maxRecDepth 100000
open Go Go.RowKit Byt OpsM OpsK Rise RegM RegL RowS RowB RegW RegR RegG RegQ
theorem ins_sub {c : Rg} : ∀ (d : Bool) (l : List Rg) {x : Rg}, x ∈ ins c d l → x = c ∨ x ∈ l
 | d, [], x, h => by
   rw [ins_end] at h
   split at h
   · simp at h
   · simp at h; exact .inl h
 | d, y :: l, x, h => by
   rw [ins_step] at h
   rcases List.mem_append.1 h with h | h
   · split at h
     · simp at h; exact .inl h
     · simp at h
   · split at h
     · rcases List.mem_cons.1 h with h | h
       · exact .inr (by simp [h])
       · exact (ins_sub _ l h).imp id (fun h => by simp [h])
     · rcases List.mem_cons.1 h with h | h
       · rcases best_or c y with e | e
         · exact .inl (h.trans e)
         · exact .inr (by simp [h.trans e])
       · exact (ins_sub _ l h).imp id (fun h => by simp [h])
theorem put_sub {l : List Rg} {c x : Rg} (h : x ∈ putR l c) : x = c ∨ x ∈ l := by
 unfold putR at h
 split at h
 · exact ins_sub _ _ h
 · simp at h
theorem put_fits {l : List Rg} {c : Rg} (hl : Fits l) (hc : Fit c) : Fits (putR l c) := fun x hx => (put_sub hx).elim (fun e => by rw [e]; exact hc) (fun h => hl x h)
theorem fold_fits : ∀ (m l : List Rg), Fits l → Fits m → Fits (m.foldl putR l)
 | [], _, hl, _ => hl
 | c :: m, l, hl, hm => fold_fits m (putR l c) (put_fits hl (hm c (by simp))) (fun x hx => hm x (by simp [hx]))
end Go.Proofs.YtgmdhaepiclkcaaGreatDoor.RegU
namespace Go.Proofs.YtgmdhaepiclkcaaGreatDoor.RegX
set_option maxRecDepth 100000
open Go Go.RowKit Byt OpsM Rise RegM RegL RowS RowB RegW RegG RegS RegQ RegU
theorem fits_one {c : Rg} (h : Fit c) : Fits [c] := fun x hx => by
 simp at hx
 rw [hx]
 exact h
theorem may_one {c : Rg} : mayR [c] = oneR c := by
 unfold mayR
 simp [risesB]
theorem merge_fits {a b : List Rg} (ha : Fits a) (hb : Fits b) : Fits (mergeR a b) := by
 unfold mergeR
 split
 · exact fold_fits b a ha hb
 · intro x hx; simp at hx
end Go.Proofs.YtgmdhaepiclkcaaGreatDoor.RegX
namespace Go.Proofs.YtgmdhaepiclkcaaGreatDoor.RowP
set_option maxRecDepth 100000
open Go Go.RowKit Byt RowS
variable {α : Type} (E : Enc α)
theorem size_e (w : World) : (sizeOf (Tryz.prog.elem E.S)).run Tryz.prog w = .ok E.k w := by
 obtain ⟨i, hi, z0, z1, _⟩ := info_parts E.info
 rw [E.elem]
 simp [sizeOf, typeInfo, hi, z1]
theorem under_e : Tryz.prog.underlying E.S = some (.slice (Tryz.prog.elem E.S)) := by rw [E.elem, E.slice]
theorem run_part_h (w : World) (A : Option Addr) (len cap : Nat) (k : IntKind) (j : Nat) (hj : j ≤ cap) :
   (Instr.sliceAt E.S (.slice A len cap) none (some (.int k j)) none).run Tryz.prog w = .ok (sliced A 0 j cap E.k) w := by
 rw [run_sliceAt_slice w _ _ _ _ _ (under_e E), run_slice_h w _ A len cap (under_e E) k j (by omega) (by omega), size_e]
 simp [Result.andThen]
theorem run_part_l (w : World) (A : Option Addr) (len cap : Nat) (k : IntKind) (i : Nat) (hi : i ≤ len) :
   (Instr.sliceAt E.S (.slice A len cap) (some (.int k i)) none none).run Tryz.prog w = .ok (sliced A i len cap E.k) w := by
 rw [run_sliceAt_slice w _ _ _ _ _ (under_e E), run_slice_l w _ A len cap (under_e E) k i (by omega) (by omega), size_e]
 simp [Result.andThen]
variable {E}
theorem ahead {w : World} {A : Option Addr} {cap : Nat} {l : List α} (S : SlR E w A cap l) (j : Nat) (hj : j ≤ l.length) :
   ∃ A' cap', (∀ (W : World) (k : IntKind), (Instr.sliceAt E.S (.slice A l.length cap) none (some (.int k j)) none).run Tryz.prog W = .ok (.slice A' j cap') W) ∧ SlR E w A' cap' (l.take j) := by
 obtain ⟨A', cap', h1, h2, _⟩ := SlR.part S 0 j (Nat.zero_le _) hj
 refine ⟨A', cap', fun W k => ?_, by simpa using h2⟩
 rw [run_part_h E W A l.length cap k j (by have := S.1; omega), h1, Nat.sub_zero]
theorem behind {w : World} {A : Option Addr} {cap : Nat} {l : List α} (S : SlR E w A cap l) (i : Nat) (hi : i ≤ l.length) :
   ∃ A' cap', (∀ (W : World) (k : IntKind), (Instr.sliceAt E.S (.slice A l.length cap) (some (.int k i)) none none).run Tryz.prog W = .ok (.slice A' (l.length - i) cap') W) ∧ SlR E w A' cap' (l.drop i) := by
 obtain ⟨A', cap', h1, h2, _⟩ := SlR.part S i l.length hi (Nat.le_refl _)
 refine ⟨A', cap', fun W k => ?_, ?_⟩
 · rw [run_part_l E W A l.length cap k i hi, h1]
 · rwa [List.take_of_length_le (by simp)] at h2
end Go.Proofs.YtgmdhaepiclkcaaGreatDoor.RowP
namespace Go.Proofs.YtgmdhaepiclkcaaGreatDoor.PairP
set_option maxRecDepth 100000
open Go Go.RowKit Byt OpsM OpsK Rise PairM PairN RowS RowB PairW PairR PairS PairG
end Go.Proofs.YtgmdhaepiclkcaaGreatDoor.PairP
namespace Go.Proofs.YtgmdhaepiclkcaaGreatDoor.PairQ
set_option maxRecDepth 100000
open Go Go.RowKit Byt OpsM OpsK Rise PairM PairN RowS RowB PairW PairR PairS PairG PairP
theorem fits_one {p : Pr} (h : Fit p) : Fits [p] := fun x hx => by
 simp at hx
 rw [hx]
 exact h
theorem filter_take {l : List Pr} {q : Pr → Bool} {j : Nat} {x : Pr} (h : l[j]? = some x) : (l.take (j + 1)).filter q = (l.take j).filter q ++ (if q x = true then [x] else []) := by
 obtain ⟨hj, rfl⟩ := List.getElem?_eq_some_iff.1 h
 rw [List.take_succ_eq_append_getElem hj, List.filter_append]
 cases hq : q l[j] <;> simp [hq]
end Go.Proofs.YtgmdhaepiclkcaaGreatDoor.PairQ
namespace Go.Proofs.YtgmdhaepiclkcaaGreatDoor.Txt
set_option maxRecDepth 100000
open Go Go.RowKit Byt
def ts (l : List ByteArray) : List Value := l.map Value.string
theorem ts_len (l : List ByteArray) : (ts l).length = l.length := by simp [ts]
def SlT (w : World) (A : Option Addr) (cap : Nat) (l : List ByteArray) : Prop :=
 l.length ≤ cap ∧ cap ≤ maxLen ∧ ((A = none ∧ l = [] ∧ cap = 0) ∨ ∃ x, A = some x ∧ ∀ i v, (ts l)[i]? = some v → w.cell? (x.add i) = some v)
theorem SlT.nil (w : World) : SlT w none 0 [] := ⟨Nat.le_refl _, Nat.zero_le _, .inl ⟨rfl, rfl, rfl⟩⟩
theorem SlT.own {w : World} {base n : Nat} {v : Value} {l : List ByteArray} (h : w.ownsRow base 9 1 v n (ts l)) : ∃ A cap, v = .slice A l.length cap ∧ SlT w A cap l := by
 have hn : l.length = n := by
   have := h.1
   rwa [ts_len, Nat.mul_one] at this
 rcases h.2 with ⟨rfl, rfl⟩ | ⟨g, cap, cur, rfl, hbg, hg, h1, h2, h3, h4⟩
 · have : l = [] := List.eq_nil_of_length_eq_zero hn
   subst this
   exact ⟨none, 0, rfl, SlT.nil w⟩
 · exact ⟨some ⟨g, 0, none⟩, cap, by rw [hn], by omega, h2, .inr ⟨_, rfl, fun i u hu => h.cells rfl i u hu⟩⟩
end Go.Proofs.YtgmdhaepiclkcaaGreatDoor.Txt
namespace Go.Proofs.YtgmdhaepiclkcaaGreatDoor.PairU
set_option maxRecDepth 100000
open Go Go.RowKit Byt OpsM OpsK Rise PairM PairN RowS RowB PairW PairR PairS PairG PairP PairQ Txt
end Go.Proofs.YtgmdhaepiclkcaaGreatDoor.PairU
namespace Go.Proofs.YtgmdhaepiclkcaaGreatDoor.PairX
set_option maxRecDepth 100000
open Go Go.RowKit Byt OpsM Rise PairM PairN RowS RowB PairW PairS PairQ Txt
theorem add_fits {l : List Pr} {p : Pr} (hl : Fits l) (hp : Fit p) : Fits (addP l p) := by
 unfold addP
 split
 · intro x hx
   rcases (put_mem x).1 hx with rfl | h
   · exact hp
   · exact hl x h
 · intro x hx; simp at hx
theorem del_fits {l : List Pr} {k e : ByteArray} (hl : Fits l) : Fits (delP l k e) := by
 unfold delP
 split
 · intro x hx
   exact hl x (List.mem_filter.1 hx).1
 · intro x hx; simp at hx
theorem merge_fits {base a b : List Pr} (ha : Fits a) (hb : Fits b) : Fits (mergeP base a b) := by
 unfold mergeP
 split
 · intro x hx
   rw [fold_mem, fold_mem] at hx
   rcases hx with h | h | h
   · exact hb x (List.mem_filter.1 h).1
   · exact ha x (List.mem_filter.1 h).1
   · simp at h
 · intro x hx; simp at hx
theorem equal_yes {x y : Pr} (h : x = y) (w : World) : (Op.equalIn 10000 58 (.agg (E.enc x).toArray) (.agg (E.enc y).toArray)).run Tryz.prog w = .ok true w := by
 have := equal w x y
 rw [sameN_iff.2 h] at this
 exact this
theorem equal_no {x y : Pr} (h : x ≠ y) (w : World) : (Op.equalIn 10000 58 (.agg (E.enc x).toArray) (.agg (E.enc y).toArray)).run Tryz.prog w = .ok false w := by
 have := equal w x y
 cases e : sameN x y with
 | false =>
   rw [e] at this
   exact this
 | true => exact absurd (sameN_iff.1 e) h
end Go.Proofs.YtgmdhaepiclkcaaGreatDoor.PairX
namespace Go.Proofs.YtgmdhaepiclkcaaGreatDoor.StY
set_option maxRecDepth 100000
open Go Go.RowKit Byt OpsM Rise RowS StM StN StW StX
theorem in_of {s : St} (h : Fits s) : CtrL.InL s.c := fun c hc => (h.c c hc).2
theorem key_eight {k : ByteArray} (h : keyL (bytesL k) = true) : k.size ≤ 8 := by
 have h1 := keyL_len h
 rw [bytesL_length] at h1
 exact h1.2
theorem step_fits {s : St} {o : Opn} {n q g : Int} (hf : Fits s) (hm : okD s o n q g = true) (hn : CtrL.In64 n) (hq : CtrL.In64 q) (hg : CtrL.In64 g) : Fits (stepS s o n q g) := by
 obtain ⟨_, m2, _, _⟩ := okD_iff.1 hm
 have hk := key_eight (key_may m2)
 have he : o.kind = 1 ∨ o.kind = 2 ∨ o.kind = 3 → o.elem.size ≤ 8 := fun h => key_eight (elem_may m2 h)
 unfold stepS
 split
 · exact ⟨CtrX.inc_fits _ _ (in_of hf), hf.r, hf.p⟩
 · split
   · rename_i h
     have := he (.inl h)
     exact ⟨hf.c, RegU.put_fits hf.r ⟨by show o.key.size ≤ _; omega, by show o.elem.size ≤ _; omega, hg, hn, hq⟩, hf.p⟩
   · split
     · rename_i h
       have := he (.inr (.inl h))
       exact ⟨hf.c, hf.r, PairX.add_fits hf.p ⟨by show o.key.size ≤ _; omega, by show o.elem.size ≤ _; omega, hn, hq⟩⟩
     · exact ⟨hf.c, hf.r, PairX.del_fits hf.p⟩
theorem join_fits (base : St) {a b : St} (ha : Fits a) (hb : Fits b) : Fits (joinS base a b) := ⟨CtrX.merge_fits _ _ _, RegX.merge_fits ha.r hb.r, PairX.merge_fits ha.p hb.p⟩
theorem do_nil {s : St} {o : Opn} {n q g : Int} (h : okD s o n q g = false) : doS s o n q g = none := if_neg (by rw [h]; simp)
end Go.Proofs.YtgmdhaepiclkcaaGreatDoor.StY
