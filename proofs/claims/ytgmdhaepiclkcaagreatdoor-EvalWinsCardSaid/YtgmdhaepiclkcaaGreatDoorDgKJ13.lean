/- What the document's Knows of package dag returns: a contract. | What the document's one of package dag returns (is a commit fine, by its parents?): a contract. | What the document's Closed of package dag returns: a contract. | What the document's answers Sort, Both, Common and Without return: contracts. | What the document's Find, Part and Anc of package dag return: contracts. | Plain facts on states in bytes: no two states have the same. No condition. | Counts in memory. No condition. | Registers in memory. No condition. | Pairs in memory. No condition. | States, and events, in memory. No condition. | What the two functions of package eval return, as the walks need it. No condition. | What the document's Less of package pair returns: a contract. | What the document's Same of package pair, and the law's Few, return: contracts. -/
import Derived.Test.YtgmdhaepiclkcaaGreatDoorRowGJ15
import Derived.Deep.LoopGhost
import Derived.Test.YtgmdhaepiclkcaaGreatDoorIdOJ7
import Derived.Test.YtgmdhaepiclkcaaGreatDoorRowFJ10
import Derived.Maps.AppendAt
import Derived.Test.YtgmdhaepiclkcaaGreatDoorPairMJ4
import Derived.Test.YtgmdhaepiclkcaaGreatDoorGrowJ5
import Derived.Test.YtgmdhaepiclkcaaGreatDoorCmAJ3
import Derived.Test.YtgmdhaepiclkcaaGreatDoorOpsCJ2
import Derived.Laws.Cover1
import Derived.Test.YtgmdhaepiclkcaaGreatDoorCtrLJ3
import Derived.Test.YtgmdhaepiclkcaaGreatDoorFrMJ4
namespace Go.Proofs.YtgmdhaepiclkcaaGreatDoor.DgK
set_option maxRecDepth 100000
open Go Go.Sort Go.RowKit Byt IdM IdW OpsM OpsW CmM StW CmW CmX CmY DgM DgN DgP DgW DgT DgR
end Go.Proofs.YtgmdhaepiclkcaaGreatDoor.DgK
namespace Go.Proofs.YtgmdhaepiclkcaaGreatDoor.DgO
set_option maxRecDepth 100000
open Go Go.Sort Go.RowKit Byt IdM IdW OpsM OpsW CmM StW CmW CmX CmY DgM DgN DgP DgW DgT DgR DgK
open Classical
end Go.Proofs.YtgmdhaepiclkcaaGreatDoor.DgO
namespace Go.Proofs.YtgmdhaepiclkcaaGreatDoor.DgC
set_option maxRecDepth 100000
open Go Go.Sort Go.RowKit Byt IdM IdW OpsM OpsW CmM StW CmW CmX CmY DgM DgN DgP DgW DgT DgR DgK DgO
open Classical
end Go.Proofs.YtgmdhaepiclkcaaGreatDoor.DgC
namespace Go.Proofs.YtgmdhaepiclkcaaGreatDoor.IdX
set_option maxRecDepth 100000
open Go Go.Sort Go.RowKit IdM Byt IdW IdC IdV IdB
theorem SlI.part {w : World} {A : Option Addr} {cap : Nat} {l : List Idn} (h : SlI w A cap l) (i j : Nat) (hij : i ≤ j) (hj : j ≤ l.length) :
   ∃ A' cap', sliced A i j cap 32 = .slice A' (j - i) cap' ∧ SlI w A' cap' ((l.drop i).take (j - i)) ∧ ((l.drop i).take (j - i)).length = j - i := by
 obtain ⟨h1, h2, h5⟩ := h
 have hl : ((l.drop i).take (j - i)).length = j - i := by simp; omega
 rcases h5 with ⟨rfl, rfl, rfl⟩ | ⟨x, rfl, hc⟩
 · simp at hj
   obtain rfl : j = 0 := hj
   obtain rfl : i = 0 := by omega
   exact ⟨none, 0, by simp [sliced], by simpa using SlI.nil w, hl⟩
 · by_cases hci : cap = i
   · refine ⟨some x, cap - i, by simp [sliced, hci], ⟨by rw [hl]; omega, by omega, .inr ⟨x, rfl, fun k hk => ?_⟩⟩, hl⟩
     rw [flat_length, hl] at hk
     omega
   · refine ⟨some (x.add (i * 32)), cap - i, by simp [sliced, hci], ⟨by rw [hl]; omega, by omega, .inr ⟨_, rfl, fun k hk => ?_⟩⟩, hl⟩
     have hk' := hk
     rw [flat_length, hl] at hk'
     rw [Addr.add_add, hc (i * 32 + k) (by rw [flat_length]; omega)]
     congr 2
     rw [flat_take, flat_drop, List.getD_eq_getElem?_getD, List.getD_eq_getElem?_getD, List.getElem?_take, if_pos (by omega), List.getElem?_drop]
theorem elem_id : Tryz.prog.elem 23 = 56 := by kernel_rfl
theorem under_id : Tryz.prog.underlying 23 = some (.slice (Tryz.prog.elem 23)) := by kernel_rfl
theorem size_id (w : World) : (sizeOf (Tryz.prog.elem 23)).run Tryz.prog w = .ok 32 w := by rw [elem_id]; exact size_v w
theorem run_part_h (w : World) (A : Option Addr) (len cap : Nat) (k : IntKind) (j : Nat) (hj : j ≤ cap) :
   (Instr.sliceAt 23 (.slice A len cap) none (some (.int k j)) none).run Tryz.prog w = .ok (sliced A 0 j cap 32) w := by
 rw [run_sliceAt_slice w _ _ _ _ _ under_id, run_slice_h w _ A len cap under_id k j (by omega) (by omega), size_id]
 simp [Result.andThen]
end Go.Proofs.YtgmdhaepiclkcaaGreatDoor.IdX
namespace Go.Proofs.YtgmdhaepiclkcaaGreatDoor.DgF
set_option maxRecDepth 100000
open Go Go.Sort Go.RowKit Byt IdM IdW OpsM OpsW CmM StW CmW CmX CmY DgM DgN DgP DgW DgT DgR DgK DgO DgC
open Classical
noncomputable def partC (l : List Com) (a : List Idn) : List Com := if Closed hashK l then DgM.part hashK l (· ∈ a) else []
noncomputable def ancC (l : List Com) (a : List Idn) : List Idn := if Closed hashK l then anc hashK l a else []
def NewC (m : List Com) (w : World) (e : Ending) (w' : World) : Prop := ∃ A cap l, e = .returned (.slice A (List.length l) cap) ∧ SlK w' A cap l ∧ coms l = m ∧ Below w.heap.size w w'
theorem own_in {w : World} {base n : Nat} {v : Value} {l : List Cv} (h : w.ownsRow base 47 8 v n (RowS.flat KE l)) (he : ∀ x ∈ l, In w x ∧ Fit x.c) : ∃ A cap, v = .slice A l.length cap ∧ SlK w A cap l := by
 obtain ⟨A, cap, e, S⟩ := RowS.SlR.own (E := KE) h
 exact ⟨A, cap, e, S, he⟩
theorem closed_may {l : List Com} (C : Closed hashK l) : l.all mayK = true := List.all_eq_true.2 fun c hc => C.may c hc
theorem filter_next {α : Type} (p : α → Bool) {l : List α} {k : Nat} {x : α} (h : l[k]? = some x) : (l.take (k + 1)).filter p = (l.take k).filter p ++ (if p x = true then [x] else []) := by
 obtain ⟨hk, e⟩ := List.getElem?_eq_some_iff.1 h
 rw [List.take_succ_eq_append_getElem hk, List.filter_append, e]
 congr 1
 by_cases hp : p x = true
 · rw [if_pos hp, List.filter_cons_of_pos hp, List.filter_nil]
 · rw [if_neg hp, List.filter_cons_of_neg (by simpa using hp), List.filter_nil]
end Go.Proofs.YtgmdhaepiclkcaaGreatDoor.DgF
namespace Go.Proofs.YtgmdhaepiclkcaaGreatDoor.StN
set_option maxRecDepth 100000
open Go Byt EncM EncC StM
end Go.Proofs.YtgmdhaepiclkcaaGreatDoor.StN
namespace Go.Proofs.YtgmdhaepiclkcaaGreatDoor.CtrW
set_option maxRecDepth 100000
open Go Go.RowKit Byt OpsM Rise CtrM RowS
def E : Enc Cn where
 T := 95
 S := 26
 k := 2
 bytes := 24
 d := _
 enc c := [.string c.key, .int .i64 c.n]
 zero := ⟨⟨#[]⟩, 0⟩
 len _ := rfl
 one c v hv := by
   simp only [List.mem_cons, List.not_mem_nil, or_false] at hv
   rcases hv with rfl | rfl <;> rfl
 pos := by omega
 small := by omega
 info := by kernel_rfl
 slice := Tryz.underlying26
 under := Tryz.underlying95
 row := rfl
theorem cells {w : World} {b o : Nat} {c : Cn} (h : w.rangeAt b o (E.enc c)) : w.cell? ⟨b, o, none⟩ = some (.string c.key) ∧ w.cell? ⟨b, o + 1, none⟩ = some (.int .i64 c.n) :=
 ⟨h 0 _ rfl, h 1 _ rfl⟩
theorem plain {w : World} {A : Option Addr} {cap : Nat} {l : List Cn} (h : SlR E w A cap l) (hp : 0 < l.length) :
   ∃ b off, A = some ⟨b, off, none⟩ ∧ b < w.heap.size ∧ ∀ i x, l[i]? = some x → w.rangeAt b (off + i * 2) (E.enc x) := h.plain hp
def Fits (l : List Cn) : Prop := ∀ c ∈ l, c.key.size ≤ 1099511627776 ∧ -9223372036854775808 ≤ c.n ∧ c.n ≤ 9223372036854775807
theorem getD_drop {l : List Cn} {i : Nat} {x : Cn} (h : l[i]? = some x) : l.drop i = x :: l.drop (i + 1) := by
 obtain ⟨hi, rfl⟩ := List.getElem?_eq_some_iff.1 h
 exact List.drop_eq_getElem_cons hi
theorem str_yes {a b : ByteArray} (h : a = b) : (a.toList == b.toList) = true := by rw [h]; simp
theorem str_no {a b : ByteArray} (h : a ≠ b) : (a.toList == b.toList) = false := by
 rw [beq_eq_false_iff_ne]
 exact fun e => h (Rise.toList_inj e)
end Go.Proofs.YtgmdhaepiclkcaaGreatDoor.CtrW
namespace Go.Proofs.YtgmdhaepiclkcaaGreatDoor.RegW
set_option maxRecDepth 100000
open Go Go.RowKit Byt OpsM Rise RegM RowS
def E : Enc Rg where
 T := 62
 S := 27
 k := 5
 bytes := 56
 d := _
 enc c := [.string c.key, .string c.elem, .int .i64 c.gen, .int .i64 c.node, .int .i64 c.seq]
 zero := ⟨⟨#[]⟩, ⟨#[]⟩, 0, 0, 0⟩
 len _ := rfl
 one c v hv := by
   simp only [List.mem_cons, List.not_mem_nil, or_false] at hv
   rcases hv with rfl | rfl | rfl | rfl | rfl <;> rfl
 pos := by omega
 small := by omega
 info := by kernel_rfl
 slice := Tryz.underlying27
 under := Tryz.underlying62
 row := rfl
def rc (c : Rg) : Array Value := #[.string c.key, .string c.elem, .int .i64 c.gen, .int .i64 c.node, .int .i64 c.seq]
def RgAt (w : World) (g : Nat) (c : Rg) : Prop := ∃ t, w.heap[g]? = some (.cells (rc c) t (0, 0))
theorem RgAt.lt {w : World} {g : Nat} {c : Rg} (h : RgAt w g c) : g < w.heap.size := by
 obtain ⟨t, ht⟩ := h
 exact (Array.getElem?_eq_some_iff.1 ht).1
theorem RgAt.block {w w' : World} {g B : Nat} {c : Rg} (h : RgAt w g c) (hb : Below B w w') (hg : g < B) : RgAt w' g c := by
 obtain ⟨t, ht⟩ := h
 exact ⟨t, by rw [hb.block g hg, ht]⟩
theorem RgAt.below {w w' : World} {g : Nat} {c : Rg} (h : RgAt w g c) (hb : Below w.heap.size w w') : RgAt w' g c := h.block hb h.lt
theorem RgAt.new (w : World) (c : Rg) (t : TypeId) : RgAt (w.alloc (.cells (rc c) t)) w.heap.size c := ⟨t, heap_alloc_new w _⟩
theorem RgAt.alloc {w : World} {g : Nat} {c : Rg} (h : RgAt w g c) (x : Obj) : RgAt (w.alloc x) g c := h.below ((Below.refl _ _).alloc (Nat.le_refl _) _)
theorem RgAt.range {w : World} {g : Nat} {c : Rg} (h : RgAt w g c) : w.rangeAt g 0 (E.enc c) := fun j v hv => by
 obtain ⟨t, ht⟩ := h
 rw [Nat.zero_add, cell_of_row w g j _ t (0, 0) ht, ← Array.getElem?_toList]
 exact hv
theorem RgAt.cells {w : World} {g : Nat} {c : Rg} (h : RgAt w g c) : w.cell? ⟨g, 0, none⟩ = some (.string c.key) ∧ w.cell? ⟨g, 1, none⟩ = some (.string c.elem) ∧ w.cell? ⟨g, 2, none⟩ = some (.int .i64 c.gen) ∧ w.cell? ⟨g, 3, none⟩ = some (.int .i64 c.node) ∧ w.cell? ⟨g, 4, none⟩ = some (.int .i64 c.seq) :=
 ⟨h.range 0 _ rfl, h.range 1 _ rfl, h.range 2 _ rfl, h.range 3 _ rfl, h.range 4 _ rfl⟩
theorem cells {w : World} {b o : Nat} {c : Rg} (h : w.rangeAt b o (E.enc c)) : w.cell? ⟨b, o, none⟩ = some (.string c.key) ∧ w.cell? ⟨b, o + 1, none⟩ = some (.string c.elem) ∧ w.cell? ⟨b, o + 2, none⟩ = some (.int .i64 c.gen) ∧ w.cell? ⟨b, o + 3, none⟩ = some (.int .i64 c.node) ∧ w.cell? ⟨b, o + 4, none⟩ = some (.int .i64 c.seq) :=
 ⟨h 0 _ rfl, h 1 _ rfl, h 2 _ rfl, h 3 _ rfl, h 4 _ rfl⟩
theorem plain {w : World} {A : Option Addr} {cap : Nat} {l : List Rg} (h : SlR E w A cap l) (hp : 0 < l.length) :
   ∃ b off, A = some ⟨b, off, none⟩ ∧ b < w.heap.size ∧ ∀ i x, l[i]? = some x → w.rangeAt b (off + i * 5) (E.enc x) := h.plain hp
def In64 (x : Int) : Prop := -9223372036854775808 ≤ x ∧ x ≤ 9223372036854775807
theorem below_alloc (w : World) (o : Obj) : Below w.heap.size w (w.alloc o) := (Below.refl _ _).alloc (Nat.le_refl _) _
structure Fit (c : Rg) : Prop where
 key : c.key.size ≤ 1099511627776
 elem : c.elem.size ≤ 1099511627776
 gen : In64 c.gen
 node : In64 c.node
 seq : In64 c.seq
def Fits (l : List Rg) : Prop := ∀ c ∈ l, Fit c
theorem str_yes {a b : ByteArray} (h : a = b) : (a.toList == b.toList) = true := by rw [h]; simp
theorem str_no {a b : ByteArray} (h : a ≠ b) : (a.toList == b.toList) = false := by
 rw [beq_eq_false_iff_ne]
 exact fun e => h (Rise.toList_inj e)
theorem above (a b : ByteArray) : (!Op.bytesLess a.toList b.toList && !(a.toList == b.toList)) = ltS b a := by
 cases h : ltS b a with
 | true =>
   rw [show Op.bytesLess a.toList b.toList = false from strictS.asymm h, str_no (fun e => strictS.ne h e.symm)]
   rfl
 | false =>
   cases h2 : Op.bytesLess a.toList b.toList with
   | true => rfl
   | false =>
     rw [str_yes (strictS.tri a b h2 h)]
     rfl
end Go.Proofs.YtgmdhaepiclkcaaGreatDoor.RegW
namespace Go.Proofs.YtgmdhaepiclkcaaGreatDoor.PairW
set_option maxRecDepth 100000
open Go Go.RowKit Byt OpsM Rise PairM RowS RowB
def E : Enc Pr where
 T := 58
 S := 28
 k := 4
 bytes := 48
 d := _
 enc c := [.string c.key, .string c.elem, .int .i64 c.node, .int .i64 c.seq]
 zero := ⟨⟨#[]⟩, ⟨#[]⟩, 0, 0⟩
 len _ := rfl
 one c v hv := by
   simp only [List.mem_cons, List.not_mem_nil, or_false] at hv
   rcases hv with rfl | rfl | rfl | rfl <;> rfl
 pos := by omega
 small := by omega
 info := by kernel_rfl
 slice := Tryz.underlying28
 under := Tryz.underlying58
 row := rfl
def pc (c : Pr) : Array Value := #[.string c.key, .string c.elem, .int .i64 c.node, .int .i64 c.seq]
theorem box_cells {w : World} {g : Nat} {c : Pr} (h : Box E w g c) : w.cell? ⟨g, 0, none⟩ = some (.string c.key) ∧ w.cell? ⟨g, 1, none⟩ = some (.string c.elem) ∧ w.cell? ⟨g, 2, none⟩ = some (.int .i64 c.node) ∧ w.cell? ⟨g, 3, none⟩ = some (.int .i64 c.seq) :=
 ⟨h.cell (j := 0) rfl, h.cell (j := 1) rfl, h.cell (j := 2) rfl, h.cell (j := 3) rfl⟩
theorem plain {w : World} {A : Option Addr} {cap : Nat} {l : List Pr} (h : SlR E w A cap l) (hp : 0 < l.length) :
   ∃ b off, A = some ⟨b, off, none⟩ ∧ b < w.heap.size ∧ ∀ i x, l[i]? = some x → w.rangeAt b (off + i * 4) (E.enc x) := h.plain hp
def In64 (x : Int) : Prop := -9223372036854775808 ≤ x ∧ x ≤ 9223372036854775807
structure Fit (c : Pr) : Prop where
 key : c.key.size ≤ 1099511627776
 elem : c.elem.size ≤ 1099511627776
 node : In64 c.node
 seq : In64 c.seq
def Fits (l : List Pr) : Prop := ∀ c ∈ l, Fit c
theorem str_yes {a b : ByteArray} (h : a = b) : (a.toList == b.toList) = true := by rw [h]; simp
theorem str_no {a b : ByteArray} (h : a ≠ b) : (a.toList == b.toList) = false := by
 rw [beq_eq_false_iff_ne]
 exact fun e => h (Rise.toList_inj e)
theorem bne_yes {a b : ByteArray} (h : a = b) : (a.toList != b.toList) = false := by rw [bne, str_yes h]; rfl
theorem bne_no {a b : ByteArray} (h : a ≠ b) : (a.toList != b.toList) = true := by rw [bne, str_no h]; rfl
theorem below_alloc (w : World) (o : Obj) : Below w.heap.size w (w.alloc o) := (Below.refl _ _).alloc (Nat.le_refl _) _
end Go.Proofs.YtgmdhaepiclkcaaGreatDoor.PairW
namespace Go.Proofs.YtgmdhaepiclkcaaGreatDoor.StW
set_option maxRecDepth 100000
open Go Go.RowKit Byt OpsM Rise RowS StM
structure Sv where
 a0 : Option Addr
 k0 : Nat
 a1 : Option Addr
 k1 : Nat
 a2 : Option Addr
 k2 : Nat
 s : St
def noV : Sv := ⟨none, 0, none, 0, none, 0, noS⟩
def sc (v : Sv) : Array Value := #[.slice v.a0 v.s.c.length v.k0, .slice v.a1 v.s.r.length v.k1, .slice v.a2 v.s.p.length v.k2]
def SE : Cel.Cel Sv where
 T := 30
 k := 3
 bytes := 72
 d := _
 enc v := [.slice v.a0 v.s.c.length v.k0, .slice v.a1 v.s.r.length v.k1, .slice v.a2 v.s.p.length v.k2]
 zero := noV
 len _ := rfl
 one c v hv := by
   simp only [List.mem_cons, List.not_mem_nil, or_false] at hv
   rcases hv with rfl | rfl | rfl <;> rfl
 pos := by omega
 info := by kernel_rfl
 under := Tryz.underlying30
 row := rfl
structure In (w : World) (v : Sv) : Prop where
 c : SlR CtrW.E w v.a0 v.k0 v.s.c
 r : SlR RegW.E w v.a1 v.k1 v.s.r
 p : SlR PairW.E w v.a2 v.k2 v.s.p
theorem In.below {w w' : World} {v : Sv} (h : In w v) (hb : Below w.heap.size w w') : In w' v := ⟨h.c.below hb, h.r.below hb, h.p.below hb⟩
theorem In.none (w : World) : In w noV := ⟨SlR.nil _ w, SlR.nil _ w, SlR.nil _ w⟩
structure Fits (s : St) : Prop where
 c : CtrW.Fits s.c
 r : RegW.Fits s.r
 p : PairW.Fits s.p
structure Len (n : Nat) (s : St) : Prop where
 c : s.c.length ≤ n
 r : s.r.length ≤ n
 p : s.p.length ≤ n
theorem Len.le {n m : Nat} {s : St} (h : Len n s) (hm : n ≤ m) : Len m s := ⟨by have := h.c; omega, by have := h.r; omega, by have := h.p; omega⟩
theorem box_cells {w : World} {g : Nat} {v : Sv} (h : Cel.Box SE w g v) : w.cell? ⟨g, 0, none⟩ = some (.slice v.a0 v.s.c.length v.k0) ∧ w.cell? ⟨g, 1, none⟩ = some (.slice v.a1 v.s.r.length v.k1) ∧ w.cell? ⟨g, 2, none⟩ = some (.slice v.a2 v.s.p.length v.k2) :=
 ⟨h.cell (j := 0) rfl, h.cell (j := 1) rfl, h.cell (j := 2) rfl⟩
def New (o : Option St) (w : World) (e : Ending) (w' : World) : Prop := ∃ v, e = .returned (.tuple #[.agg (sc v), .int .i64 (if o.isSome then 0 else 1)]) ∧ v.s = o.getD noS ∧ In w' v ∧ Below w.heap.size w w'
def noSl : Value → Bool
 | .slice _ _ _ => false
 | _ => true
theorem box_sl {w : World} {g j : Nat} {v : Sv} {x : Value} (h : Cel.Box SE w g v) (hc : w.cell? ⟨g, j, none⟩ = some x) : noSl x = false := by
 obtain ⟨t, ht⟩ := h
 rw [cell_of_row w g j _ t (0, 0) ht, List.getElem?_toArray] at hc
 match j, hc with
 | 0, hc => simp [SE] at hc; rw [← hc]; rfl
 | 1, hc => simp [SE] at hc; rw [← hc]; rfl
 | 2, hc => simp [SE] at hc; rw [← hc]; rfl
 | j + 3, hc => simp [SE] at hc
theorem kept_box {α : Type} {E : Enc α} (hE : ∀ x, ∀ v ∈ E.enc x, noSl v = true) {w w' : World} {A : Option Addr} {cap g : Nat} {l : List α} {v : Sv} (h : SlR E w A cap l) (hb : Cel.Box SE w g v) (hg : w.grownBy w' (some g)) : SlR E w' A cap l := by
 obtain ⟨h1, h2, h5⟩ := h
 refine ⟨h1, h2, ?_⟩
 rcases h5 with h5 | ⟨x, rfl, hc⟩
 · exact .inl h5
 · refine .inr ⟨x, rfl, fun i u hu => ?_⟩
   have hcell := hc i u hu
   have hlt := block_lt_of_cell hcell
   have hne : some (x.add i).block ≠ some g := by
     intro e
     injection e with e
     have hsp := World.cell?_spot hcell
     have hu2 : noSl u = true := by
       have hm := List.mem_of_getElem? hu
       unfold flat at hm
       rw [List.mem_flatMap] at hm
       obtain ⟨y, _, hy⟩ := hm
       exact hE y u hy
     have hb2 : noSl u = false := by
       have : (x.add i) = ⟨g, (x.add i).off, none⟩ := by
         cases hx : x.add i with
         | mk b o s =>
           rw [hx] at e hsp
           simp only at e hsp
           rw [e, hsp]
       rw [this] at hcell
       exact box_sl hb hcell
     rw [hu2] at hb2
     cases hb2
   unfold World.cell? at hcell ⊢
   rw [hg.block _ hlt hne]
   exact hcell
theorem noC (x : CtrM.Cn) : ∀ v ∈ CtrW.E.enc x, noSl v = true := by
 intro v hv
 simp only [CtrW.E, List.mem_cons, List.not_mem_nil, or_false] at hv
 rcases hv with rfl | rfl <;> rfl
theorem noR (x : RegM.Rg) : ∀ v ∈ RegW.E.enc x, noSl v = true := by
 intro v hv
 simp only [RegW.E, List.mem_cons, List.not_mem_nil, or_false] at hv
 rcases hv with rfl | rfl | rfl | rfl | rfl <;> rfl
theorem noP (x : PairM.Pr) : ∀ v ∈ PairW.E.enc x, noSl v = true := by
 intro v hv
 simp only [PairW.E, List.mem_cons, List.not_mem_nil, or_false] at hv
 rcases hv with rfl | rfl | rfl | rfl <;> rfl
theorem In.kept {w w' : World} {g : Nat} {u v : Sv} (h : In w u) (hb : Cel.Box SE w g v) (hg : w.grownBy w' (some g)) : In w' u := ⟨kept_box noC h.c hb hg, kept_box noR h.r hb hg, kept_box noP h.p hb hg⟩
end Go.Proofs.YtgmdhaepiclkcaaGreatDoor.StW
namespace Go.Proofs.YtgmdhaepiclkcaaGreatDoor.EaH
set_option maxRecDepth 100000
open Go Go.Sort Go.RowKit Byt IdM IdW OpsM OpsW CmM CmW CmX CmY DgM DgW DgR DgF FrM FrN EaM EaN
open Classical
noncomputable def evalC (l : List Com) : Option StM.St := if Closed hashK l then some (evalK hashK l) else none
noncomputable def atE (l : List Com) (a : List Idn) : Option StM.St := if Closed hashK l then some (atK hashK l a) else none
theorem at_eval {l : List Com} (C : Closed hashK l) (a : List Idn) : evalC (partC l (ancC l a)) = some (atK hashK l a) := by
 have h1 : partC l (ancC l a) = DgM.part hashK l (· ∈ anc hashK l a) := by rw [partC, if_pos C, ancC, if_pos C]
 rw [h1, evalC, if_pos (closed_anc C a)]
 rfl
structure Two : Prop where
 eval : ∀ (A : Option Addr) (cap : Nat) (l : List Cv) (w : World), SlK w A cap l → l.length ≤ 1500000000000 → ShaE.KIn w → Calls Tryz.prog 12 #[.slice A l.length cap] w (StW.New (evalC (coms l)) w)
 at_ : ∀ (A A' : Option Addr) (cap cap' : Nat) (l : List Cv) (a : List Idn) (w : World), SlK w A cap l → SlI w A' cap' a → l.length ≤ 1000 → a.length ≤ 1000 → ShaE.KIn w → Calls Tryz.prog 14 #[.slice A l.length cap, .slice A' a.length cap'] w (StW.New (atE (coms l) a) w)
end Go.Proofs.YtgmdhaepiclkcaaGreatDoor.EaH
namespace Go.Proofs.YtgmdhaepiclkcaaGreatDoor.PairR
set_option maxRecDepth 100000
open Go Go.RowKit Byt OpsM OpsK Rise PairM PairN RowS RowB PairW
end Go.Proofs.YtgmdhaepiclkcaaGreatDoor.PairR
namespace Go.Proofs.YtgmdhaepiclkcaaGreatDoor.PairS
set_option maxRecDepth 100000
open Go Go.RowKit Byt OpsM OpsK Rise PairM PairN RowS RowB PairW PairR
def sameN (x y : Pr) : Bool := decide (x.key.toList = y.key.toList) && (decide (x.elem.toList = y.elem.toList) && (decide (x.node = y.node) && decide (x.seq = y.seq)))
theorem sameN_iff {x y : Pr} : sameN x y = true ↔ x = y := by
 unfold sameN
 simp only [Bool.and_eq_true, decide_eq_true_eq]
 constructor
 · rintro ⟨h1, h2, h4, h5⟩
   cases x; cases y
   simp only at h1 h2 h4 h5
   rw [Rise.toList_inj h1, Rise.toList_inj h2, h4, h5]
 · rintro rfl; exact ⟨rfl, rfl, rfl, rfl⟩
theorem equal_ev (d : Nat) (w : World) (a b m n : Int) : (Op.equalIn (d + 1 + 1) 43 (.agg #[.int .i64 a, .int .i64 b]) (.agg #[.int .i64 m, .int .i64 n])).run Tryz.prog w = .ok (decide (a = m) && decide (b = n)) w := by
 have hE : Tryz.prog.underlying 43 = some (.struct (Tryz.prog.fieldsOf 43)) := by kernel_rfl
 rw [run_equalIn_agg w (d + 1) 43 _ _ hE (by kernel_rfl)]
 simp only [Program.fieldsOf, Tryz.underlying43]
 go_simp
 by_cases h1 : a = m <;> by_cases h2 : b = n <;> simp [h1, h2]
theorem equal_d (d : Nat) (w : World) (x y : Pr) : (Op.equalIn (d + 1 + 1 + 1) 58 (.agg (pc x)) (.agg (pc y))).run Tryz.prog w = .ok (sameN x y) w := by
 have hS : Tryz.prog.underlying 58 = some (.struct (Tryz.prog.fieldsOf 58)) := by kernel_rfl
 have hev := fun W => equal_ev d W x.node x.seq y.node y.seq
 rw [run_equalIn_agg w (d + 1 + 1) 58 _ _ hS (by kernel_rfl)]
 simp only [Program.fieldsOf, Tryz.underlying58, pc]
 go_simp
 unfold sameN
 by_cases h1 : x.key.toList = y.key.toList <;> by_cases h2 : x.elem.toList = y.elem.toList <;> by_cases h4 : x.node = y.node <;> by_cases h5 : x.seq = y.seq <;> simp [h1, h2, h4, h5]
theorem equal (w : World) (x y : Pr) : (Op.equalIn 10000 58 (.agg (pc x)) (.agg (pc y))).run Tryz.prog w = .ok (sameN x y) w := equal_d 9997 w x y
end Go.Proofs.YtgmdhaepiclkcaaGreatDoor.PairS
