/- What the walks of the laws of package eval lean on: how long states are, and that they fit. No condition. | The commits of chapter 12's example: their bytes, their ids (each block's words and states stand here written out; the kernel holds them against the definitions), that they are closed, their last ones, their head, what comes next. No condition. | What the document's Find of package dag returns: a contract. | What the five functions of package front return, as the walks need it; what they are on the chapter's two commits. No condition. | What the walks of the laws of package front lean on. No condition. | Slices of slices of ids in memory: read, made, appended to. No condition. | What slices.Grow of no slice, and slices.Concat, return at ids: contracts. No condition but sizes. | Plain facts on how the project finds last ones, what joins, and what comes next. No condition. | Ids as keys of a map; a map as a set of ids. No condition. | A contract of the library's, laid at this program. | slices.SortFunc at ids: the library's contract, laid at this program. | What set returns: a contract. -/
import Derived.Test.YtgmdhaepiclkcaaGreatDoorGrowLJ3
import Derived.Test.YtgmdhaepiclkcaaGreatDoorEaAJ12
import Derived.Test.YtgmdhaepiclkcaaGreatDoorStL
import Derived.Test.YtgmdhaepiclkcaaGreatDoorShaCJ6
import Derived.Test.YtgmdhaepiclkcaaGreatDoorCmTJ4
import Derived.Test.YtgmdhaepiclkcaaGreatDoorFrMJ4
import Derived.Test.YtgmdhaepiclkcaaGreatDoorDgTJ19
import Derived.Test.YtgmdhaepiclkcaaGreatDoorRowGJ9
import Derived.Lib.AppendZeros
import Derived.Lib.Walk
import Derived.Test.YtgmdhaepiclkcaaGreatDoorIdWJ3
import Derived.WideKeyArr2
import Derived.Maps.RangeWalk
import Derived.Maps.OwnSet
import Derived.Maps.OwnOps
import Derived.Maps.Ext
import Derived.Shelf.SlLaysF0
import Derived.Test.YtgmdhaepiclkcaaGreatDoorProg
import Derived.Test.YtgmdhaepiclkcaaGreatDoorIdOJ7
import Derived.Shelf.SlSortCmp.NoneTotal
namespace Go.Proofs.YtgmdhaepiclkcaaGreatDoor.EaW
set_option maxRecDepth 100000
open Go Go.Sort Go.RowKit Byt IdM IdW OpsM OpsW CmM StW CmW CmX CmY DgM DgW DgR DgF FrM FrN EaM EaN EaH EaS
open Classical

theorem same_self (s : StM.St) : StR.sameS s s = true := StR.sameS_iff.2 rfl
theorem wide_all {l : List Cv} (h : ∀ v ∈ l, CmW.Fit v.c) : ∀ c ∈ coms l, Wide c := fun c hc => by
  obtain ⟨v, hv, rfl⟩ := List.mem_map.1 hc
  exact wide_of (h v hv)
/-- The state of closed commits may be, fits, and is no longer than they are many. -/
theorem eval_all {l : List Com} (C : Closed hashK l) (hw : ∀ c ∈ l, Wide c) : StM.mayS (evalK hashK l) = true ∧ Fits (evalK hashK l) ∧ Len l.length (evalK hashK l) := by
  have := up_facts (fine_all C) hw l.length
  rwa [up_all] at this
/-- .. of ids. -/
theorem at_all {l : List Com} (C : Closed hashK l) (hw : ∀ c ∈ l, Wide c) (a : List Idn) : StM.mayS (atK hashK l a) = true ∧ Fits (atK hashK l a) ∧ Len l.length (atK hashK l a) := by
  have h := eval_all (closed_anc C a) fun c hc => hw c (mem_part.1 hc).1
  refine ⟨h.1, h.2.1, h.2.2.le ?_⟩
  exact List.length_filter_le _ _
theorem merge_at {l : List Com} (C : Closed hashK l) (hw : ∀ c ∈ l, Wide c) (a b : List Idn) : StM.mergeS (atK hashK l (common (anc hashK l a) (anc hashK l b))) (atK hashK l a) (atK hashK l b) = some (atK hashK l (a ++ b)) := by
  unfold StM.mergeS
  rw [if_pos (StM.okM_iff.2 ⟨(at_all C hw _).1, (at_all C hw _).1, (at_all C hw _).1⟩), at_three C a b]
theorem eval_of {l : List Com} (C : Closed hashK l) : evalC l = some (evalK hashK l) := if_pos C
theorem at_of {l : List Com} (C : Closed hashK l) (a : List Idn) : atE l a = some (atK hashK l a) := if_pos C
end Go.Proofs.YtgmdhaepiclkcaaGreatDoor.EaW
namespace Go.Proofs.YtgmdhaepiclkcaaGreatDoor.FrJ
set_option maxRecDepth 100000
open Go RotM RotN ShaM ShaD PadM SumM ShaK Byt EncM EncC IdM IdW OpsM OpsW CmM CmW CmY CmA DgM FrM FrN
open Classical


end Go.Proofs.YtgmdhaepiclkcaaGreatDoor.FrJ
namespace Go.Proofs.YtgmdhaepiclkcaaGreatDoor.DgG
set_option maxRecDepth 100000
open Go Go.Sort Go.RowKit Byt IdM IdW OpsM OpsW CmM StW CmW CmX CmY DgM DgN DgW DgR

end Go.Proofs.YtgmdhaepiclkcaaGreatDoor.DgG
namespace Go.Proofs.YtgmdhaepiclkcaaGreatDoor.FrH
set_option maxRecDepth 100000
open Go Go.Sort Go.RowKit Byt IdM IdW OpsM OpsW CmM StW CmW CmX CmY CmA DgM DgW DgR DgF DgG FrM FrN FrJ
open Classical

noncomputable def baseC (l : List Com) (a b : List Idn) : List Idn := common (ancC l a) (ancC l b)
end Go.Proofs.YtgmdhaepiclkcaaGreatDoor.FrH
namespace Go.Proofs.YtgmdhaepiclkcaaGreatDoor.FrU
set_option maxRecDepth 100000
open Go Go.Sort Go.RowKit Byt IdM IdW OpsM OpsW CmM StW CmW CmX CmY CmA DgM DgW DgR DgC DgF DgG FrM FrN FrJ FrH
open Classical

theorem okay_few {l : List Cv} {m : Int} (S : ∀ v ∈ l, Fit v.c) (h : fewD (coms l) m = true) : (∀ v ∈ l, CmR.Okay v.c) ∧ (l.length : Int) ≤ m := by
  unfold fewD at h
  rw [Bool.and_eq_true, decide_eq_true_eq, coms_len, List.all_eq_true] at h
  refine ⟨fun v hv => ?_, h.1⟩
  exact CmX.okay (h.2 v.c (List.mem_map_of_mem hv)) (S v hv)
theorem anc_short {l : List Com} (C : Closed hashK l) (a : List Idn) : (anc hashK l a).length ≤ l.length := by
  rw [← part_len C]
  exact List.length_filter_le _ _
end Go.Proofs.YtgmdhaepiclkcaaGreatDoor.FrU
namespace Go.Proofs.YtgmdhaepiclkcaaGreatDoor.FrP
set_option maxRecDepth 100000
open Go Go.Sort Go.RowKit Byt IdM IdW

/-- A slice of ids: where it lies, its room, what it has. -/
structure Pv where
  a : Option Addr
  k : Nat
  ps : List Idn
/-- Its cell. -/
def hd (v : Pv) : Value := .slice v.a v.ps.length v.k
def hds (l : List Pv) : List Value := l.map hd
theorem hds_len (l : List Pv) : (hds l).length = l.length := List.length_map ..
/-- The slice holds these slices of ids. -/
structure SlP (w : World) (A : Option Addr) (cap : Nat) (l : List Pv) : Prop where
  room : l.length ≤ cap ∧ cap ≤ maxLen
  lies : (A = none ∧ l = [] ∧ cap = 0) ∨ ∃ x, A = some x ∧ ∀ i v, (hds l)[i]? = some v → w.cell? (x.add i) = some v
  each : ∀ v ∈ l, SlI w v.a v.k v.ps
theorem SlP.own {w : World} {base n : Nat} {v : Value} {l : List Pv} (h : w.ownsRow base 23 1 v n (hds l)) (he : ∀ v ∈ l, SlI w v.a v.k v.ps) : ∃ A cap, v = .slice A l.length cap ∧ SlP w A cap l := by
  have hn : l.length = n := by have := h.1; rw [hds_len] at this; omega
  rcases h.2 with ⟨rfl, rfl⟩ | ⟨g, cap, cur, rfl, hbg, hg, h1, h2, h3, h4⟩
  · have : l = [] := List.eq_nil_of_length_eq_zero hn
    subst this
    exact ⟨none, 0, rfl, ⟨Nat.le_refl _, Nat.zero_le _⟩, .inl ⟨rfl, rfl, rfl⟩, he⟩
  · refine ⟨some ⟨g, 0, none⟩, cap, by rw [hn], ⟨by omega, h2⟩, .inr ⟨_, rfl, fun i u hu => ?_⟩, he⟩
    exact h.cells rfl i u hu
end Go.Proofs.YtgmdhaepiclkcaaGreatDoor.FrP
namespace Go.Proofs.YtgmdhaepiclkcaaGreatDoor.FrQ
set_option maxRecDepth 100000
open Go Go.Sort Go.RowKit Byt IdM IdW FrP

end Go.Proofs.YtgmdhaepiclkcaaGreatDoor.FrQ
namespace Go.Proofs.YtgmdhaepiclkcaaGreatDoor.FrK
set_option maxRecDepth 100000
open IdM CmM DgM DgX FrM FrN
open Classical

section
variable {H : Com → Idn}
end
end Go.Proofs.YtgmdhaepiclkcaaGreatDoor.FrK
namespace Go.Proofs.YtgmdhaepiclkcaaGreatDoor.IdK
set_option maxRecDepth 100000
open Go Go.RowKit Go.Maps IdM Byt IdW

theorem arrK : WideMaps.ArrKey Tryz.prog 56 5 32 := ⟨Tryz.underlying56, by kernel_rfl, by kernel_rfl, by kernel_rfl⟩
theorem law : Keyed Tryz.prog 56 := Keyed.of_law arrK.law
theorem types_gt : 0 < Tryz.prog.types.size := of_decide_eq_true (by kernel_rfl)
theorem types_pos : ∃ m, Tryz.prog.types.size = m + 1 := ⟨Tryz.prog.types.size - 1, by have := types_gt; omega⟩
theorem keyT : Tryz.prog.keyType 56 = true := arrK.keyType types_pos
/-- What an id is told as, as a key. -/
def key (x : Idn) : Lit := .string (keyBytes (x.1.map (Lit.int .u8)))
theorem wf_u8 {n : Int} (h : 0 ≤ n ∧ n ≤ 255) : (Lit.int .u8 n).wf = true := by
  simp [Lit.wf, IntKind.min, IntKind.max, IntKind.bits, IntKind.signed]
  omega
theorem lits_at (x : Idn) (D : Nat) : ∀ L : List Nat, (∀ i ∈ L, i < 32) →
    L.mapM (fun i => Tryz.prog.keyLits (D + 1) 5 (((bv x.1).drop (i * 1)).take 1)) = some (L.map fun i => [Lit.int .u8 (x.1.getD i 0)])
  | [], _ => rfl
  | i :: L, h => by
    have hi : i < 32 := h i (by simp)
    have e : ((bv x.1).drop (i * 1)).take 1 = [.int .u8 (x.1.getD i 0)] := by
      rw [Nat.mul_one]
      apply List.ext_getElem?
      intro j
      rw [List.getElem?_take, List.getElem?_drop]
      by_cases hj : j = 0
      · subst hj
        rw [if_pos (by omega), Nat.add_zero, bv_at _ (by rw [Idn_len]; exact hi)]
        rfl
      · rw [if_neg (by omega), List.getElem?_eq_none (by simp; omega)]
    have q : Tryz.prog.keyLits (D + 1) 5 [.int .u8 (x.1.getD i 0)] = some [Lit.int .u8 (x.1.getD i 0)] := by
      simp only [Program.keyLits, Tryz.underlying5]
      rw [if_pos ⟨trivial, wf_u8 (Idn_at_range x i)⟩]
    rw [List.mapM_cons, e, q, lits_at x D L (fun j hj => h j (by simp [hj]))]
    rfl
theorem map_range (x : Idn) : (List.range 32).map (fun i => Lit.int .u8 (x.1.getD i 0)) = x.1.map (Lit.int .u8) := by
  apply List.ext_getElem
  · simp [Idn_len]
  · intro i h1 h2
    simp at h1 h2 ⊢
    rw [List.getElem?_eq_getElem h2]
    rfl
theorem keyOf_id (x : Idn) : keyOf Tryz.prog 56 (.agg (cs x)) = some (key x) := by
  obtain ⟨m0, hm0⟩ := types_pos
  unfold keyOf
  simp only [Tryz.underlying56]
  rw [if_pos (by simp [keyT, Value.formed, Tryz.underlying56, arrK.size, cs_size]), hm0]
  unfold Program.keyLits
  simp only [Tryz.underlying56, Value.cells]
  rw [if_pos (by rw [arrK.size]; simp [cs_size]), arrK.one, cs_toList, lits_at x m0 (List.range 32) (fun i hi => by simpa using hi)]
  have hfl : ∀ (l : List Nat) (f : Nat → Lit), (l.map fun i => [f i]).flatten = l.map f := fun l f => by induction l with | nil => rfl | cons a r ih => simp [ih]
  simp only [Option.map_some, hfl]
  rw [map_range]
  rfl
theorem key_inj {x y : Idn} (h : key x = key y) : x = y := by
  have h1 := keyOf_id x
  have h2 := keyOf_id y
  rw [← h] at h2
  have := law.inj h1 h2
  injection this with this
  exact cs_inj this
theorem keyOf_inv {v : Value} {kl : Lit} (h : keyOf Tryz.prog 56 v = some kl) : ∃ x, v = .agg (cs x) := by
  obtain ⟨m0, hm0⟩ := types_pos
  unfold keyOf at h
  simp only [Tryz.underlying56] at h
  split at h
  · rename_i hf
    simp only [Bool.and_eq_true] at hf
    have hf2 := hf.2
    cases v <;> simp [Value.formed, Tryz.underlying56] at hf2
    rename_i xs
    rw [arrK.size] at hf2
    rw [Option.map_eq_some_iff] at h
    obtain ⟨ls, hls, _⟩ := h
    rw [hm0] at hls
    unfold Program.keyLits at hls
    simp only [Tryz.underlying56, Value.cells] at hls
    rw [if_pos (by rw [arrK.size]; simpa using hf2), Option.map_eq_some_iff] at hls
    obtain ⟨ys, hys, _⟩ := hls
    rw [arrK.one] at hys
    have key : ∀ i, i < 32 → ∃ n, xs[i]? = some (.int .u8 n) ∧ 0 ≤ n ∧ n ≤ 255 := by
      intro i hi
      have q := mapM_some_get hys i i (by simp [hi])
      have hlen : ys.length = 32 := by simpa using mapM_some_length hys
      rw [List.getElem?_eq_getElem (by omega)] at q
      have e : ((xs.toList.drop (i * 1)).take 1) = [xs[i]'(by omega)] := by
        rw [Nat.mul_one]
        apply List.ext_getElem?
        intro j
        rw [List.getElem?_take, List.getElem?_drop]
        by_cases hj : j = 0
        · subst hj
          rw [if_pos (by omega), Nat.add_zero, Array.getElem?_toList, Array.getElem?_eq_getElem (by omega)]
          rfl
        · rw [if_neg (by omega), List.getElem?_eq_none (by simp; omega)]
      rw [e] at q
      rw [Array.getElem?_eq_getElem (by omega)]
      generalize xs[i]'(by omega) = u at q
      cases u <;> simp only [Program.keyLits, Tryz.underlying5] at q
      all_goals first | (cases q; done) | skip
      rename_i kd n
      split at q
      · rename_i hw
        obtain ⟨rfl, hw⟩ := hw
        have hb := B_of_wf hw
        unfold B at hb
        exact ⟨n, rfl, hb⟩
      · cases q
    have hl : (List.map (fun i => (xs[i]?).elim 0 fun v => match v with | .int _ n => n | _ => 0) (List.range 32)).length = 32 := by simp
    refine ⟨⟨List.map (fun i => (xs[i]?).elim 0 fun v => match v with | .int _ n => n | _ => 0) (List.range 32), hl, fun n hn => ?_⟩, ?_⟩
    · simp only [List.mem_map, List.mem_range] at hn
      obtain ⟨i, hi, rfl⟩ := hn
      obtain ⟨n, e, hb⟩ := key i hi
      rw [e]
      exact hb
    · congr 1
      apply Array.ext_getElem?
      intro i
      by_cases hi : i < 32
      · rw [cs_at _ i hi]
        obtain ⟨n, e, _⟩ := key i hi
        rw [e]
        simp [List.getD_eq_getElem?_getD, hi, e]
      · rw [Array.getElem?_eq_none (by omega), Array.getElem?_eq_none (by rw [cs_size]; omega)]
  · cases h

/-- The map in block b, of at most n entries, is the set of the ids of L: a 1 for each. -/
def SetD (D : DataW Unit) (L : List Idn) : Prop := (∀ x, Maps.has D (key x) = decide (x ∈ L)) ∧ ∀ x, x ∈ L → ∀ z, D.atKey (key x) z = .lit (.int .i64 1)
def SetIn (w : World) (b n : Nat) (L : List Idn) : Prop := ∃ D : DataW Unit, w.ownsMap Tryz.prog 56 (plainElem Tryz.prog 3) b n D ∧ SetD D L
theorem SetIn.made (w : World) : SetIn (w.alloc (.map #[] 0)) w.heap.size 0 [] := ⟨.map [], World.ownsMap_made _ _ _ _, fun x => by simp [Maps.has], fun x hx => absurd hx (by simp)⟩
theorem SetIn.lt {w : World} {b n : Nat} {L : List Idn} (h : SetIn w b n L) : b < w.heap.size := by obtain ⟨D, hD, _⟩ := h; exact hD.lt
theorem SetIn.kept {w w' : World} {b n : Nat} {L : List Idn} {row : Option Nat} (h : SetIn w b n L) (hg : w.grownBy w' row) (hne : some b ≠ row) : SetIn w' b n L := by
  obtain ⟨D, hD, hs⟩ := h
  exact ⟨D, hD.kept hg hne, hs⟩
theorem SetIn.below {w w' : World} {b n : Nat} {L : List Idn} (h : SetIn w b n L) (hb : Below w.heap.size w w') : SetIn w' b n L := h.kept (grown_of_below hb none) (by simp)
theorem SetIn.alloc {w : World} {b n : Nat} {L : List Idn} (h : SetIn w b n L) (o : Obj) : SetIn (w.alloc o) b n L := h.kept (World.grownBy_alloc w o none) (by simp)
theorem SetIn.congr {w : World} {b n : Nat} {L L' : List Idn} (h : SetIn w b n L) (he : ∀ x, x ∈ L ↔ x ∈ L') : SetIn w b n L' := by
  obtain ⟨D, hD, h1, h2⟩ := h
  exact ⟨D, hD, fun x => by rw [h1]; simp only [he], fun x hx => h2 x ((he x).2 hx)⟩
theorem SetIn.up {w : World} {b n : Nat} {L : List Idn} (h : SetIn w b n L) : SetIn w b (n + 1) L := by
  obtain ⟨D, hD, hs⟩ := h
  exact ⟨D, hD.mono (Nat.le_succ _), hs⟩
theorem put_D {D : DataW Unit} {L : List Idn} (hm : Maps.IsMap D) (h : SetD D L) (y : Idn) : SetD (D.put (key y) (.lit (.int .i64 1))) (y :: L) := by
  have hk : WideAt.IsKeyLit (key y) := law.key (keyOf_id y)
  refine ⟨fun x => ?_, fun x hx z => ?_⟩
  · by_cases hxy : x = y
    · subst hxy
      rw [Maps.has_put_same hm hk]
      simp
    · rw [Maps.has_put_other (fun e => hxy (key_inj e)), h.1]
      simp [hxy]
  · by_cases hxy : x = y
    · subst hxy
      exact Maps.atKey_put_same hm hk _ _
    · rw [Maps.atKey_put_other (fun e => hxy (key_inj e))]
      exact h.2 x (by simpa [hxy] using hx) z
section
variable (w : World) {ops : Array Oper} {rest : List Oper} {o : Oper} {a : Act} {Q : Exit → Act → World → Prop}
/-- An id put into the set. -/
theorem wpList_put (hg : o.guard = none) (m x v : Operand) (hop : o.op = Op.mapUpdate 126 m x v) (b n : Nat) (L : List Idn) (hm : a.eval m = .map (some b)) (h : SetIn w b n L) (hn : n < 1000000)
    (y : Idn) (hx : a.eval x = .agg (cs y)) (hv : a.eval v = .int .i64 1) (hK : ∀ w', SetIn w' b (n + 1) (y :: L) → w.grownBy w' (some b) → wpList Tryz.prog ops Q rest (a.put o.dst undef) w') : wpList Tryz.prog ops Q (o :: rest) a w := by
  obtain ⟨D, hD, hs⟩ := h
  exact wpList_mapUpdate_own w hg m x v 126 hop 56 3 law Tryz.underlying126 _ b n D hm hD (by unfold maxLen; omega) _ _ (key y) hx hv (keyOf_id y) _ [] (plainElem_int Tryz.underlying3 (by decide))
    (fun w' h1 h2 => hK w' ⟨_, h1, put_D hD.isMap hs y⟩ h2)
theorem zero_int (w : World) : (zeroValue 3).run Tryz.prog w = .ok (.int .i64 0) w := by kernel_rfl
/-- An id looked up in the set. -/
theorem wpList_find (hg : o.guard = none) (m x : Operand) (hop : o.op = Op.lookup 126 m x false) (b n : Nat) (L : List Idn) (hm : a.eval m = .map (some b)) (h : SetIn w b n L)
    (y : Idn) (hx : a.eval x = .agg (cs y)) (hK : wpList Tryz.prog ops Q rest (a.put o.dst (.int .i64 (if y ∈ L then 1 else 0))) w) : wpList Tryz.prog ops Q (o :: rest) a w := by
  obtain ⟨D, hD, hs⟩ := h
  refine wpList_lookup_own_int w hg m x 126 hop 56 3 .i64 law Tryz.underlying126 Tryz.underlying3 (zero_int w) b n D hm hD _ (key y) hx (keyOf_id y) (fun c hat _ => ?_)
  have hc : c = if y ∈ L then 1 else 0 := by
    by_cases hy : y ∈ L
    · rw [hs.2 y hy] at hat
      simp only [hy, if_true]
      injection hat with hat
      injection hat with _ hat
      exact hat.symm
    · have hh := hs.1 y
      simp only [hy, decide_false] at hh
      rw [Maps.atKey_of_not_has hh] at hat
      simp only [hy, if_false]
      injection hat with hat
      injection hat with _ hat
      exact hat.symm
  rw [hc]
  exact hK
end
end Go.Proofs.YtgmdhaepiclkcaaGreatDoor.IdK
namespace Go.Proofs
set_option maxRecDepth 100000
open Go.Shelf
def Tryz.sortIds_ren : Go.Shelf.Ren := ⟨fun | 6 => 136 | 15 => 151 | 14 => 171 | 28 => 184 | 29 => 185 | 20 => 201 | 21 => 202 | 22 => 203 | 23 => 204 | 24 => 205 | 25 => 206 | 26 => 207 | 27 => 208 | 46 => 225 | 47 => 220 | 48 => 221 | 49 => 226 | 50 => 227 | 57 => 241 | n => n, fun | 22 => 23 | 24 => 56 | 25 => 169 | 3 => 3 | 39 => 184 | 0 => 0 | 53 => 161 | 55 => 157 | 4 => 4 | 46 => 203 | 45 => 202 | 50 => 207 | 5 => 5 | 9 => 9 | 66 => 229 | 70 => 233 | 76 => 245 | 77 => 246 | n => n, fun | n => n⟩
theorem Tryz.sortIds : Go.Proofs.SlLaysF0.n6 Tryz.prog Tryz.sortIds_ren := {
  mixed := by kernel_rfl
  f6 := ⟨Tryz.f136.name, by decide, Tryz.func136.trans (congrArg some (by kernel_rfl))⟩
  f14 := ⟨Tryz.f171.name, by decide, Tryz.func171.trans (congrArg some (by kernel_rfl))⟩
  f15 := Tryz.func151.trans (congrArg some (by kernel_rfl))
  f20 := ⟨Tryz.f201.name, by decide, Tryz.func201.trans (congrArg some (by kernel_rfl))⟩
  f21 := ⟨Tryz.f202.name, by decide, Tryz.func202.trans (congrArg some (by kernel_rfl))⟩
  f22 := ⟨Tryz.f203.name, by decide, Tryz.func203.trans (congrArg some (by kernel_rfl))⟩
  f23 := ⟨Tryz.f204.name, by decide, Tryz.func204.trans (congrArg some (by kernel_rfl))⟩
  f24 := ⟨Tryz.f205.name, by decide, Tryz.func205.trans (congrArg some (by kernel_rfl))⟩
  f25 := ⟨Tryz.f206.name, by decide, Tryz.func206.trans (congrArg some (by kernel_rfl))⟩
  f26 := ⟨Tryz.f207.name, by decide, Tryz.func207.trans (congrArg some (by kernel_rfl))⟩
  f27 := ⟨Tryz.f208.name, by decide, Tryz.func208.trans (congrArg some (by kernel_rfl))⟩
  f28 := Tryz.func184.trans (congrArg some (by kernel_rfl))
  f29 := Tryz.func185.trans (congrArg some (by kernel_rfl))
  f46 := ⟨Tryz.f225.name, by decide, Tryz.func225.trans (congrArg some (by kernel_rfl))⟩
  f47 := Tryz.func220.trans (congrArg some (by kernel_rfl))
  f48 := Tryz.func221.trans (congrArg some (by kernel_rfl))
  f49 := ⟨Tryz.f226.name, by decide, Tryz.func226.trans (congrArg some (by kernel_rfl))⟩
  f50 := ⟨Tryz.f227.name, by decide, Tryz.func227.trans (congrArg some (by kernel_rfl))⟩
  f57 := ⟨Tryz.f241.name, by decide, Tryz.func241.trans (congrArg some (by kernel_rfl))⟩
  t0 := Tryz.underlying0
  a0 := Tryz.isAgg0
  z0 := Tryz.sizeOf0
  v0 := Tryz.zeroValue0
  t3 := Tryz.underlying3
  a3 := Tryz.isAgg3
  z3 := Tryz.sizeOf3
  v3 := Tryz.zeroValue3
  t4 := Tryz.underlying4
  a4 := Tryz.isAgg4
  z4 := Tryz.sizeOf4
  v4 := Tryz.zeroValue4
  t5 := Tryz.underlying5
  a5 := Tryz.isAgg5
  z5 := Tryz.sizeOf5
  v5 := Tryz.zeroValue5
  t9 := Tryz.underlying9
  a9 := Tryz.isAgg9
  z9 := Tryz.sizeOf9
  v9 := Tryz.zeroValue9
  t22 := Tryz.underlying23
  a22 := Tryz.isAgg23
  z22 := Tryz.sizeOf23
  v22 := Tryz.zeroValue23
  t25 := Tryz.underlying169
  a25 := Tryz.isAgg169
  z25 := Tryz.sizeOf169
  v25 := Tryz.zeroValue169
  t39 := Tryz.underlying184
  a39 := Tryz.isAgg184
  z39 := Tryz.sizeOf184
  v39 := Tryz.zeroValue184
  t45 := Tryz.underlying202
  a45 := Tryz.isAgg202
  z45 := Tryz.sizeOf202
  v45 := Tryz.zeroValue202
  t46 := Tryz.underlying203
  a46 := Tryz.isAgg203
  z46 := Tryz.sizeOf203
  v46 := Tryz.zeroValue203
  t50 := Tryz.underlying207
  a50 := Tryz.isAgg207
  z50 := Tryz.sizeOf207
  v50 := Tryz.zeroValue207
  t53 := Tryz.underlying161
  a53 := Tryz.isAgg161
  z53 := Tryz.sizeOf161
  v53 := Tryz.zeroValue161
  t55 := Tryz.underlying157
  a55 := Tryz.isAgg157
  z55 := Tryz.sizeOf157
  v55 := Tryz.zeroValue157
  t66 := Tryz.underlying229
  a66 := Tryz.isAgg229
  z66 := Tryz.sizeOf229
  v66 := Tryz.zeroValue229
  t70 := Tryz.underlying233
  a70 := Tryz.isAgg233
  z70 := Tryz.sizeOf233
  v70 := Tryz.zeroValue233
  t76 := Tryz.underlying245
  a76 := Tryz.isAgg245
  z76 := Tryz.sizeOf245
  v76 := Tryz.zeroValue245
  t77 := Tryz.underlying246
  a77 := Tryz.isAgg246
  z77 := Tryz.sizeOf246
  v77 := Tryz.zeroValue246 }
end Go.Proofs
namespace Go.Proofs.YtgmdhaepiclkcaaGreatDoor.IdR
set_option maxRecDepth 100000
open Go Go.Shelf Go.Sort Go.RowKit Go.Lib IdM Byt IdW IdC

def enc (x : Idn) : List Value := bv x.1
theorem enc_len (x : Idn) : (enc x).length = 32 := by rw [enc, bv_length, Idn_len]
theorem swo : SWO (ltOf cf) where
  irrefl x := by unfold ltOf; rw [ltOf_cf]; exact less_irrefl x
  trans x y z h1 h2 := by unfold ltOf at *; rw [ltOf_cf] at *; exact less_trans h1 h2
  ntrans x y z h1 h2 := by
    unfold ltOf at *
    rw [ltOf_cf] at *
    cases h3 : less x z with
    | false => rfl
    | true =>
      by_cases hxy : x = y
      · subst hxy; rw [h3] at h2; cases h2
      · have h4 := less_of_ne h1 hxy
        have h5 := less_trans h4 h3
        rw [h2] at h5
        cases h5
theorem cmpLays (blk off size : Nat) (w : World) : CmpLays Tryz.prog 137 #[] enc 32 cf blk off size w := fun _ _ _ _ x y => order_ret x y _
theorem agg_id (w : World) : (isAgg 56).run Tryz.prog w = .ok true w := by kernel_rfl
theorem size_id (w : World) : (Go.sizeOf 56).run Tryz.prog w = .ok 32 w := by kernel_rfl
theorem sortf (blk off cap : Nat) (d : Array Idn) (w : World) (hH : HoldsK enc 32 w blk off d) (hblk : blk < w.heap.size) (hsz : d.size < 4611686018427387904) :
    Calls Tryz.prog 136 #[.slice (some ⟨blk, off, none⟩) d.size cap, .func (.func 137) #[] #[]] w fun e w' =>
      e = .returned (.tuple #[]) ∧ ∃ d' n os, PermIn 0 d.size d d' ∧ SortedIn (ltOf cf) 0 d.size d' ∧ w' = sortWorldK enc 32 w blk off n d' os := by
  have eg : ∀ args w, (callFunc 137 args).run Tryz.prog w = .ok (.enter 137 args) w := enters_of Tryz.func137 (by kernel_rfl) rfl
  exact AnyQ.slices_SortFunc Tryz.sortIds 32 agg_id size_id enc enc_len (fun x v hv => bv_one x.1 v hv) cf swo 137 #[] blk off cap d w eg (cmpLays blk off d.size w) hH hblk hsz
theorem flatK_eq (l : List Idn) : flatK enc 32 l.toArray = (bv (flat l)).toArray := by
  refine ext_get! (by simp [bv_length, flat_length]) (fun t ht => ?_)
  have ht' : t < l.length * 32 := by simpa using ht
  have hi : t / 32 < l.length := by omega
  have hj : t % 32 < 32 := by omega
  have e := flat_at l (t / 32) (t % 32) hi hj
  rw [show t / 32 * 32 + t % 32 = t by omega] at e
  rw [get_flatK _ _ _ t (by simpa using ht')]
  have q1 : (bv (flat l)).toArray[t]! = .int .u8 ((flat l).getD t 0) := by
    rw [Array.getElem!_eq_getD, Array.getD_eq_getD_getElem?, List.getElem?_toArray, bv_at _ (by rw [flat_length]; exact ht')]
    rfl
  have q2 : l.toArray[t / 32]! = l.getD (t / 32) nought := by
    rw [Array.getElem!_eq_getD, Array.getD_eq_getD_getElem?, List.getElem?_toArray, List.getD_eq_getElem?_getD]
    rfl
  have q3 : ∀ z : Idn, (enc z)[t % 32]! = .int .u8 (z.1.getD (t % 32) 0) := by
    intro z
    rw [List.getElem!_eq_getElem?_getD, enc, bv_at _ (by rw [Idn_len]; exact hj)]
    rfl
  rw [q1, q2, q3, e]
theorem owns_lt {w : World} {base g cap : Nat} {l : List Idn} (h : w.ownsRow base 56 32 (.slice (some ⟨g, 0, none⟩) l.length cap) l.length (bv (flat l))) : base ≤ g ∧ g < w.heap.size := h.lt g rfl
theorem holds_own {w : World} {base g cap : Nat} {l : List Idn} (h : w.ownsRow base 56 32 (.slice (some ⟨g, 0, none⟩) l.length cap) l.length (bv (flat l))) : HoldsK enc 32 w g 0 l.toArray := by
  unfold HoldsK Holds
  rw [flatK_eq]
  intro j hj
  have hj' : j < (flat l).length := by simpa [bv_length] using hj
  refine ⟨?_, by rw [Nat.zero_add]; exact h.frozenAt j⟩
  rw [Nat.zero_add, h.cellAt j (by rw [flat_length] at hj'; exact hj'), bv_at _ hj']
  rw [Array.getElem!_eq_getD, Array.getD_eq_getD_getElem?, List.getElem?_toArray, bv_at _ hj']
  rfl
theorem own_sorted {w : World} {base g cap : Nat} {l l' : List Idn} (h : w.ownsRow base 56 32 (.slice (some ⟨g, 0, none⟩) l.length cap) l.length (bv (flat l))) (hl : l'.length = l.length) (n : Nat) (os : Array Obj) :
    (sortWorldK enc 32 w g 0 n l'.toArray os).ownsRow base 56 32 (.slice (some ⟨g, 0, none⟩) l.length cap) l.length (bv (flat l')) ∧ w.grownBy (sortWorldK enc 32 w g 0 n l'.toArray os) (some g) := by
  have hlt := (owns_lt h).2
  constructor
  · refine ⟨by rw [bv_length, flat_length, hl], ?_⟩
    rcases h.2 with ⟨e, _⟩ | ⟨g', cap', cur, e, hbg, hg, h1, h2, h3, h4⟩
    · cases e
    · injection e with e1 e2 e3
      injection e1 with e1
      injection e1 with e1
      subst e1
      subst e3
      refine .inr ⟨g, cap, putCells id 0 (bv (flat l')).toArray cur, rfl, hbg, ?_, h1, h2, by simpa [putCells] using h3, ?_⟩
      · unfold sortWorldK
        rw [Sort.heap_grow_old _ _ (by rw [size_putRowK]; exact hlt)]
        unfold putRowK putRow mapBlock
        rw [flatK_eq]
        show (Array.modify w.heap g _)[g]? = _
        rw [Array.getElem?_modify, if_pos rfl, hg]
        rfl
      · have hc : l.length * 32 ≤ cur.size := by rw [h3]; exact Nat.mul_le_mul_right _ h1
        apply List.ext_getElem?
        intro j
        rw [List.getElem?_take]
        by_cases hj : j < l.length * 32
        · have hj' : j < (flat l').length := by rw [flat_length, hl]; exact hj
          rw [if_pos hj, Array.getElem?_toList, putCells, Array.getElem?_mapIdx, Array.getElem?_eq_getElem (by omega), Option.map_some, if_pos ⟨Nat.zero_le _, by simpa [bv_length] using hj'⟩, bv_at _ hj']
          simp only [id, Nat.sub_zero]
          rw [Array.getElem!_eq_getD, Array.getD_eq_getD_getElem?, List.getElem?_toArray, bv_at _ hj']
          rfl
        · rw [if_neg hj, List.getElem?_eq_none (by rw [bv_length, flat_length, hl]; omega)]
  · unfold sortWorldK
    refine ⟨rfl, rfl, rfl, ?_, fun i hi hne => ?_⟩
    · rw [Sort.size_grow, size_putRowK]
      exact Nat.le_add_right _ _
    · rw [Sort.heap_grow_old _ _ (by rw [size_putRowK]; exact hi)]
      show (Array.modify w.heap g _)[i]? = _
      rw [Array.getElem?_modify, if_neg (fun e => hne (by rw [e]))]
/-- Sorted, and each of them once: rising. -/
theorem rising_of {l l' : List Idn} (hn : l.Nodup) (hp : PermIn 0 l.length l.toArray l'.toArray) (hs : SortedIn (ltOf cf) 0 l.length l'.toArray) : l'.length = l.length ∧ l' = IdM.sort l := by
  have hl : l'.length = l.length := by simpa using hp.1
  have hperm : l'.Perm l := by
    have q := hp.2.2
    have e1 : (l.toArray.extract 0 l.length).toList = l := by simp
    have e2 : (l'.toArray.extract 0 l.length).toList = l' := by rw [← hl]; simp
    rw [e1, e2] at q
    exact q
  refine ⟨hl, eq_sort ?_ (fun x => hperm.mem_iff)⟩
  have hn' : l'.Nodup := hperm.nodup_iff.2 hn
  unfold Rising
  rw [List.pairwise_iff_getElem]
  intro i j hi hj hij
  have q := hs i j (Nat.zero_le _) hij (by omega)
  unfold ltOf at q
  rw [ltOf_cf] at q
  have e : ∀ (k : Nat) (hk : k < l'.length), l'.toArray[k]! = l'[k] := by
    intro k hk
    rw [Array.getElem!_eq_getD, Array.getD_eq_getD_getElem?, List.getElem?_toArray, List.getElem?_eq_getElem hk]
    rfl
  rw [e i hi, e j hj] at q
  refine less_of_ne q (fun e => ?_)
  have := (List.nodup_iff_pairwise_ne.1 hn')
  exact (List.pairwise_iff_getElem.1 this i j hi hj hij) e.symm
end Go.Proofs.YtgmdhaepiclkcaaGreatDoor.IdR
namespace Go.Proofs.YtgmdhaepiclkcaaGreatDoor.IdS
set_option maxRecDepth 100000
open Go Go.RowKit IdM Byt IdW IdK

theorem make_set (w : World) (n : Int) : (Instr.makeMap 126 (some (.int .i64 n))).run Tryz.prog w = .ok (.map (some w.heap.size)) (w.alloc (.map #[] 0)) := by
  simp [Instr.makeMap, run_underlying Tryz.underlying126, asInt, go_sem]

theorem mem_take_succ {l : List Idn} {k : Nat} (h : k < l.length) (z : Idn) : z ∈ l.getD k nought :: l.take k ↔ z ∈ l.take (k + 1) := by
  rw [List.take_add_one, List.mem_append, List.mem_cons, List.getD_eq_getElem?_getD, List.getElem?_eq_getElem h]
  simp [or_comm]

set_option maxHeartbeats 1000000 in
theorem set_ret (A : Option Addr) (cap : Nat) (l : List Idn) (w : World) (S : SlI w A cap l) (hl : l.length ≤ 1000) :
    Calls Tryz.prog 91 #[.slice A l.length cap] w fun e w' => ∃ b, e = .returned (.map (some b)) ∧ w.heap.size ≤ b ∧ SetIn w' b l.length l ∧ Below w.heap.size w w' := by
  have hmm := make_set
  go_enter Tryz.func91, Tryz.ntmps91
  go_wp2_with fail
  go_loopw [11] (fun i wr => ∃ k : Nat, k ≤ l.length ∧ i = .int .i64 k ∧ SetIn wr w.heap.size k (l.take k) ∧ Below w.heap.size w wr) (fun i _ => l.length - (intOf i).toNat)
  case atStart => exact ⟨0, Nat.zero_le _, rfl, by simpa using SetIn.made w, (Below.refl _ _).alloc (Nat.le_refl _) _⟩
  case round =>
    obtain ⟨k, hk, rfl, hset, kb⟩ := hrel
    by_cases hlt : k < l.length
    · obtain ⟨b, off, rfl, hbw, hr⟩ := S.plain (by omega)
      have hr1 := range_below (hr k hlt) kb
      obtain ⟨x, hx⟩ : ∃ x, l.getD k nought = x := ⟨_, rfl⟩
      rw [hx] at hr1
      have HX := aside hx
      have p0 : (k : Int) < l.length := by omega
      have m0 : ((k : Int)).toNat = k := by omega
      clear hr S hx
      go_wp2_with (first | (refine wpList_load_id rfl _ rfl _ _ rfl x hr1 ?_) | (refine wpList_store_new rfl _ _ rfl _ _ x _ rfl _ rfl (by simp) rfl rfl ?_) | (refine wpList_load_box rfl _ rfl _ rfl x (Box.new wr x _) ?_) | (refine wpList_put _ rfl _ _ _ rfl w.heap.size k _ rfl (hset.alloc _) (by omega) x rfl rfl ?_; intro w1 hs1 hg1))
      go_roundw
      case rel =>
        refine ⟨k + 1, by omega, by go_num, hs1.congr (fun z => ?_), ?_⟩
        · rw [← HX.out]
          exact mem_take_succ hlt z
        · exact below_grown (kb.alloc kb.size _) (by have := kb.size; simp; omega) hg1 (fun j hj => by cases hj; exact Nat.le_refl _)
      case measure => simp [intOf]; omega
    · have e : k = l.length := by omega
      subst e
      rw [List.take_length] at hset
      go_wp2
      go_ret
      exact ⟨_, rfl, Nat.le_refl _, hset, kb⟩
end Go.Proofs.YtgmdhaepiclkcaaGreatDoor.IdS
