/- What is walked outside of a round of a loop over a function is walked so inside of one: regions, also those that draw their order. No condition. | A loop over a function of which each round comes to its end: the statement, and one round. No condition. | Plain facts on how many commits of a list are closed from the beginning on, and on what is loaded of records by them. No condition. | Parts of slices of structs, whatever their fields. No condition. -/
import Derived.Test.YtgoapaanmcmlmaaGreatDoorEncGJ6
import Derived.RangeFuncNested
import Derived.RangeFuncCalls
import Derived.StillTail
import Derived.RangeFuncLeaves
import Derived.RangeFuncBound
import Derived.Test.YtgoapaanmcmlmaaGreatDoorStoMJ5
import Derived.Test.YtgoapaanmcmlmaaGreatDoorRowSJ3
namespace Go.Proofs.YtgoapaanmcmlmaaGreatDoor.StoB
set_option maxRecDepth 100000
open Go Go.Sort Go.RowKit
section
variable {P : Program} {ops : Array Oper} {Q : Exit → Act → World → Prop} {l n : Nat}
theorem rows_in {row : String} {args : Array Value} {w : World} {R : Value → World → Prop} (h : Rows P row args w R) : RowsIn (Fence.wide.inRound l) n P row args w R := fun c cs _ => by
 obtain ⟨v, w', hR, hs⟩ := h c cs
 exact ⟨v, w', hR, stepsIn_wide.2 hs⟩
theorem oper_in {o : Oper} {a : Act} {w : World} {K K' : Act → World → Prop} (hd : ∀ c, o.op ≠ .defer c) (hk : ∀ a w, K a w → K' a w) (h : o.wp P a w K Q) : o.wpIn (Fence.wide.inRound l) n P a w K' Q := by
 refine ⟨fun _ _ => trivial, ?_⟩
 rw [show (Fence.wide.inRound l).round = some l from rfl, Oper.semAt_some _ _ _ hd]
 unfold Oper.wp at h
 generalize (execOp a.eval o).run P w = r at h ⊢
 cases r with
 | ok x w' =>
   cases x <;> simp only [Oper.upon] at h
   case value v => exact hk _ _ h
   case skip => exact hk _ _ h
   case defer d => exact hk _ _ h
   case enter f args =>
     refine ⟨fun q => absurd (show (none : Option Nat).isSome = true from q) (by decide), ?_⟩
     refine CallsIn.mono (CallsIn.inRound l (callsIn_wide.2 h)) fun e w'' he => ?_
     cases e with
     | returned v => exact hk _ _ he
     | panicked c => exact he
     | outgrown => exact he
   case row row args => exact ⟨fun q => absurd (show (none : Option Nat).isSome = true from q) (by decide), (rows_in h).mono fun v w'' he => hk _ _ he⟩
 | halt x w' =>
   cases x <;> simp only [Oper.upon] at h
   case panic v => exact h
def calm (o : Oper) : Bool := match o.op with
 | .defer _ => false
 | _ => true
theorem calm_spec {o : Oper} (h : calm o = true) : ∀ c, o.op ≠ .defer c := fun c e => by
 unfold calm at h
 rw [e] at h
 cases h
theorem list_in (hq : ¬ LetsOut Q) : ∀ (r : List Oper), (∀ o ∈ r, calm o = true) → ∀ (a : Act) (w : World), wpList P ops Q r a w → wpListIn (Fence.wide.inRound l) n P ops Q r a w
 | [], _, a, w, h => h
 | o :: r, hc, a, w, h => by
   have ih := list_in hq r fun x hx => hc x (by simp [hx])
   unfold wpList at h
   unfold wpListIn
   split
   · rename_i hw
     rw [if_pos hw] at h
     rcases h with h | h
     · exact oper_in (calm_spec (hc o (by simp))) ih h
     · exact absurd h.2 hq
   · rename_i hw
     rw [if_neg hw] at h
     exact ⟨fun _ _ => trivial, ih _ _ h⟩
theorem ops_in (hq : ¬ LetsOut Q) (hc : ∀ (i : Nat) (o : Oper), ops[i]? = some o → calm o = true) : ∀ (r : List Nat) (a : Act) (w : World), wpOps P ops Q r a w → wpOpsIn (Fence.wide.inRound l) n P ops Q r a w
 | [], a, w, h => h
 | i :: r, a, w, h => by
   have ih := ops_in hq hc r
   unfold wpOps at h
   unfold wpOpsIn
   cases ho : ops[i]? with
   | none =>
     rw [ho] at h
     exact ih _ _ h
   | some o =>
     rw [ho] at h
     simp only at h ⊢
     split
     · rename_i hw
       rw [if_pos hw] at h
       rcases h with h | h
       · exact oper_in (calm_spec (hc i o ho)) ih h
       · exact absurd h.2 hq
     · rename_i hw
       rw [if_neg hw] at h
       exact ⟨fun _ _ => trivial, ih _ _ h⟩
theorem region_in {id : Nat} {r : List Oper} {a : Act} {w : World} (hq : ¬ LetsOut Q) (hc : r.all calm = true) (h : wpList P r.toArray Q r a w) : (Code.region id r.toArray false).wpIn (Fence.wide.inRound l) n P Q a w :=
 wpIn_region_lit (list_in hq r (List.all_eq_true.1 hc) a w h)
def Ends (K : Act → World → Prop) : Exit → Act → World → Prop
 | .normal, a, w => K a w
 | _, _, _ => False
theorem ends_panic (K : Act → World → Prop) : ∀ c a d v w, Ends K (.panic c) (a.put d v) w → Ends K (.panic c) a w := fun _ _ _ _ _ h => h
theorem of_ends {c : Code} {K : Act → World → Prop} {a : Act} {w : World} {F : Fence} (h : c.wpIn F n P (Ends K) a w) (hk : ∀ a w, K a w → Q .normal a w) : c.wpIn F n P Q a w :=
 wpIn_mono h fun e a w q => by
   cases e <;> first | exact hk _ _ q | exact q.elim
end
end Go.Proofs.YtgoapaanmcmlmaaGreatDoor.StoB
namespace Go.Proofs.YtgoapaanmcmlmaaGreatDoor.StoN
set_option maxRecDepth 100000
open Go Go.Sort Go.RowKit StoB
section
variable {P : Program} {n : Nat}
def recOf (fn : FuncId) (tmps : Array Value) (ps : Array Tmp) (assign body : Code) (D : Nat) : Loop := { state := .ready, pending := none, fn, tmps, params := ps, assign, body, defers := D }
def busy (r : Loop) : Loop := { r with state := .busy }
def over (r : Loop) : Loop := { r with state := .exhausted }
theorem range_in {g : Operand} {ps : Array Tmp} {assign body : Code} {Q : Exit → Act → World → Prop} {a : Act} {w : World} (h1 : 1 ≤ n) {gf : Nat} {lb : Array Value} (hg : a.eval g = .func (.func gf) #[] lb) (eg : ∀ args w, (callFunc gf args).run P w = .ok (.enter gf args) w)
   (h : ∀ fn W1 r, r = recOf fn a.tmps ps assign body w.heap.size → W1 = (w.alloc (.deferred (some []))).alloc (.loop r) →
     CallsIn Fence.wide (n - 1) P gf (#[.func (.yield (w.heap.size + 1)) #[] #[]] ++ lb) W1 fun e W' => (∃ v, e = .returned v) ∧ W'.heap[w.heap.size + 1]? = some (.loop r) ∧
       Q .normal { a with defers := { target := .collected w.heap.size, args := #[] } :: a.defers } (W'.putObj (w.heap.size + 1) (.loop (over r)))) :
   (Code.rangeFunc g ps assign body).wpIn Fence.wide n P Q a w := by
 refine wpIn_rangeFunc ?_
 intro fn _
 obtain ⟨W1, hW1⟩ : ∃ W1, (w.alloc (.deferred (some []))).alloc (.loop (recOf fn a.tmps ps assign body w.heap.size)) = W1 := ⟨_, rfl⟩
 refine ⟨w.heap.size + 1, [{ target := .collected w.heap.size, args := #[] }], W1, { target := .fn (.func gf) lb, args := #[.func (.yield (w.heap.size + 1)) #[] #[]] }, W1, gf, #[.func (.yield (w.heap.size + 1)) #[] #[]] ++ lb, W1, ?_, ?_, fun _ _ => trivial, ?_, fun _ => h1, ?_⟩
 · rw [← hW1]; exact run_enterLoop_outer _ _ _ _ _
 · simp only [resolve, hg]
   simp [go_sem]
 · simp [invoke, go_sem, eg]
 · refine (h fn W1 _ rfl hW1.symm).mono ?_
   rintro e W' ⟨⟨v, rfl⟩, hl, hQ⟩
   exact ⟨none, _, run_endLoop hl (by simp [recOf]), hQ⟩
theorem yield_in {L m : Nat} {W : World} {r : Loop} {args : Array Value} {R : World → Prop} (hl : W.heap[L]? = some (.loop r)) (hr : r.state = .ready) (hp : r.pending = none) (hs : args.size = r.params.size)
   (h : r.assign.wpIn (Fence.wide.inRound L) m P (StoB.Ends fun a' W' => W'.heap[L]? = some (.loop r) ∧ r.body.wpIn (Fence.wide.inRound L) m P (StoB.Ends fun _ W3 => W3.heap[L]? = some (.loop (busy r)) ∧ R (W3.putObj L (.loop r))) a' (W'.putObj L (.loop (busy r))))
     { tmps := (r.params.zip args).foldl (fun tmps (t, a) => tmps.setIfInBounds t a) r.tmps, defers := [] } W) :
   YieldAt Fence.wide m P L args W fun e W' => e = .returned (.bool true) ∧ R W' := by
 refine ⟨r.fn, _, r.assign, r.body, run_yield hl hs, roundIn_of_wpIn trivial (wpIn_mono h ?_)⟩
 intro e a' W' q
 cases e with
 | normal =>
   refine ⟨_, run_beginRound q.1 hr, wpIn_mono q.2 ?_⟩
   intro e a3 W3 q3
   cases e with
   | normal =>
     refine ⟨_, _, run_endRound none q3.1, rfl, ?_⟩
     have e : ({ busy r with state := if (none : Option Code).isNone then .ready else .done, pending := none } : Loop) = r := by
       cases r
       simp only at hr hp
       subst hr
       subst hp
       rfl
     rw [e]
     exact q3.2
   | _ => exact q3.elim
 | _ => exact q.elim
end
end Go.Proofs.YtgoapaanmcmlmaaGreatDoor.StoN
namespace Go.Proofs.YtgoapaanmcmlmaaGreatDoor.StoQ
set_option maxRecDepth 100000
open IdM CmM DgM LogM EncM StoM
open Classical
section
variable {H : Com → Idn}
def Turn (H : Com → Idn) (l : List Com) (n : Nat) : Prop := ∀ i c, i < n → l[i]? = some c → ∀ a ∈ c.ps, a ∈ (l.take i).map H
def TurnOf (H : Com → Idn) (l : List Com) (n : Nat) : Prop := n ≤ l.length ∧ Turn H l n ∧ (∀ c, l[n]? = some c → ∃ a ∈ c.ps, a ∉ (l.take n).map H)
def Best (H : Com → Idn) (l : List Com) (n : Nat) : Prop := n ≤ l.length ∧ (∀ k, k ≤ n → Closed H (l.take k)) ∧ (n < l.length → ¬ Closed H (l.take (n + 1)))
theorem mem_take_le {l : List Com} {i k : Nat} (h : i ≤ k) {a : Idn} (ha : a ∈ (l.take i).map H) : a ∈ (l.take k).map H := by
 obtain ⟨c, hc, rfl⟩ := List.mem_map.1 ha
 refine List.mem_map_of_mem ?_
 have : l.take i = (l.take k).take i := by rw [List.take_take, Nat.min_eq_left h]
 rw [this] at hc
 exact List.mem_of_mem_take hc
theorem turn_take {l : List Com} {n : Nat} (h : Turn H l n) (k : Nat) : Turn H (l.take k) n := fun i c hi hc a ha => by
 rw [List.getElem?_take] at hc
 split at hc
 · rename_i hk
   rw [List.take_take, Nat.min_eq_left (by omega)]
   exact h i c hi hc a ha
 · cases hc
theorem closed_pre {l : List Com} (C : Closed H l) (ht : Turn H l l.length) (k : Nat) : Closed H (l.take k) := by
 have hn := C.nodup
 have hp : l.take k = DgM.part H l (· ∈ (l.take k).map H) := by
   have := part_pre (H := H) (t := l.take k) (d := l.drop k) (by rw [List.take_append_drop]; exact hn)
   rw [List.take_append_drop] at this
   exact this.symm
 rw [hp]
 refine closed_part C fun c hc h b hb => ?_
 obtain ⟨c', h1, h2⟩ := List.mem_map.1 h
 have hc' := same_of C.nodup (List.mem_of_mem_take h1) hc h2
 subst hc'
 obtain ⟨i, hi⟩ := List.mem_iff_getElem?.1 h1
 rw [List.getElem?_take] at hi
 split at hi
 · rename_i hk
   have hil := (List.getElem?_eq_some_iff.1 hi).1
   exact mem_take_le (by omega) (ht i _ hil hi b hb)
 · cases hi
theorem take_next {l : List Com} {i : Nat} {c : Com} (h : l[i]? = some c) : l.take (i + 1) = l.take i ++ [c] := by
 obtain ⟨h1, rfl⟩ := List.getElem?_eq_some_iff.1 h
 rw [List.take_succ_eq_append_getElem h1]
theorem closed_ahead {l : List Com} {i : Nat} {c : Com} (hi : l[i]? = some c) (C : Closed H (l.take (i + 1))) : ∀ a ∈ c.ps, a ∈ (l.take i).map H := fun a ha => by
 have e := take_next hi
 have hc : c ∈ l.take (i + 1) := by rw [e]; simp
 have h1 := C.found c hc a ha
 rw [e, List.map_append, List.mem_append] at h1
 rcases h1 with h1 | h1
 · exact h1
 · simp only [List.map_cons, List.map_nil, List.mem_singleton] at h1
   have h2 := par_gen C ⟨c, hc, rfl, ha⟩
   rw [h1] at h2
   omega
theorem best_all {l : List Com} {t : Nat} (ht : TurnOf H l t) (C : Closed H (l.take t)) : Best H l t := by
 obtain ⟨h1, h2, h3⟩ := ht
 have hl : (l.take t).length = t := by rw [List.length_take]; omega
 refine ⟨h1, fun k hk => ?_, fun hlt D => ?_⟩
 · have := closed_pre C (by rw [hl]; exact turn_take h2 t) k
   rwa [List.take_take, Nat.min_eq_left hk] at this
 · obtain ⟨a, ha, hn⟩ := h3 _ (List.getElem?_eq_getElem hlt)
   exact hn (closed_ahead (List.getElem?_eq_getElem hlt) D a ha)
theorem search_mono {l : List Com} {t : Nat} (ht : TurnOf H l t) {a b : Nat} (hab : a ≤ b) (hb : b < t) (h : ¬ Closed H ((l.take t).take (a + 1))) : ¬ Closed H ((l.take t).take (b + 1)) := fun C => h (by
 have hl : (l.take t).length = t := by rw [List.length_take]; have := ht.1; omega
 have hk : ((l.take t).take (b + 1)).length = b + 1 := by rw [List.length_take, hl]; omega
 have hT : Turn H ((l.take t).take (b + 1)) ((l.take t).take (b + 1)).length := by
   rw [hk]
   refine turn_take (turn_take (fun i c hi hc x hx => ht.2.1 i c (by omega) hc x hx) t) _
 have := closed_pre C hT (a + 1)
 rwa [List.take_take, Nat.min_eq_left (by omega)] at this)
theorem best_search {l : List Com} {t n : Nat} (ht : TurnOf H l t) (hC : ¬ Closed H (l.take t)) (hn : n ≤ t) (h1 : ∀ i, i < n → Closed H ((l.take t).take (i + 1))) (h2 : n < t → ¬ Closed H ((l.take t).take (n + 1))) : Best H l n := by
 have hnt : n ≠ t := by
   rintro rfl
   cases n with
   | zero => exact hC (by rw [List.take_zero]; exact closed_nil)
   | succ n =>
     have := h1 n (by omega)
     rw [List.take_take, Nat.min_self] at this
     exact hC this
 have htl := ht.1
 refine ⟨by omega, fun k hk => ?_, fun _ => ?_⟩
 · cases k with
   | zero => rw [List.take_zero]; exact closed_nil
   | succ k =>
     have := h1 k (by omega)
     rwa [List.take_take, Nat.min_eq_left (by omega)] at this
 · have := h2 (by omega)
   rwa [List.take_take, Nat.min_eq_left (by omega)] at this
def comsR : List (List Int) → List Com
 | [] => []
 | r :: rs => match getK r with
   | some (c, []) => c :: comsR rs
   | _ => []
theorem comsR_some {r : List Int} {rs : List (List Int)} {c : Com} (h : getK r = some (c, [])) : comsR (r :: rs) = c :: comsR rs := by
 rw [comsR, h]
theorem comsR_none {r : List Int} {rs : List (List Int)} (h : ∀ c, getK r ≠ some (c, [])) : comsR (r :: rs) = [] := by
 rw [comsR]
 split
 · rename_i c h1
   exact absurd h1 (h c)
 · rfl
theorem nextK_one {acc : List Com} {r : List Int} {c : Com} (h : getK r = some (c, [])) : nextK H acc r = if Closed H (acc ++ [c]) then some c else none := by
 unfold nextK
 rw [h]
theorem nextK_no {acc : List Com} {r : List Int} (h : ∀ c, getK r ≠ some (c, [])) : nextK H acc r = none := by
 unfold nextK
 split
 · rename_i c h1
   exact absurd h1 (h c)
 · rfl
theorem best_gen : ∀ (rs : List (List Int)) (acc : List Com) (n : Nat), n ≤ (comsR rs).length → (∀ k, k ≤ n → Closed H (acc ++ (comsR rs).take k)) → (n < (comsR rs).length → ¬ Closed H (acc ++ (comsR rs).take (n + 1))) → loadR H rs acc = ((comsR rs).take n, (catL (rs.take n)).length)
 | [], acc, n, h1, _, _ => by
   rw [loadR_nil, List.take_nil, show comsR [] = [] from rfl, List.take_nil]
   rfl
 | r :: rs, acc, n, h1, h2, h3 => by
   by_cases h : ∃ c, getK r = some (c, [])
   · obtain ⟨c, h⟩ := h
     rw [comsR_some h] at h1 h2 h3 ⊢
     cases n with
     | zero =>
       have := h3 (by simp)
       rw [List.take_succ_cons, List.take_zero] at this
       rw [loadR_none (by rw [nextK_one h, if_neg this])]
       rfl
     | succ n =>
       have hc := h2 1 (by omega)
       rw [List.take_succ_cons, List.take_zero] at hc
       have ih := best_gen rs (acc ++ [c]) n (by simpa using h1) (fun k hk => by
         have := h2 (k + 1) (by omega)
         rwa [List.take_succ_cons, ← List.singleton_append, ← List.append_assoc] at this) (fun hn => by
         have := h3 (by simpa using hn)
         rwa [List.take_succ_cons, ← List.singleton_append, ← List.append_assoc] at this)
       rw [loadR_some (by rw [nextK_one h, if_pos hc]), ih, List.take_succ_cons, List.take_succ_cons, catL_cons, List.length_append]
   · have hno : ∀ c, getK r ≠ some (c, []) := fun c hc => h ⟨c, hc⟩
     rw [comsR_none hno] at h1 ⊢
     obtain rfl : n = 0 := by simpa using h1
     rw [loadR_none (nextK_no hno)]
     rfl
theorem loadR_best {rs : List (List Int)} {n : Nat} (h : Best H (comsR rs) n) : loadR H rs [] = ((comsR rs).take n, (catL (rs.take n)).length) :=
 best_gen rs [] n h.1 (fun k hk => by rw [List.nil_append]; exact h.2.1 k hk) (fun hn => by rw [List.nil_append]; exact h.2.2 hn)
end
end Go.Proofs.YtgoapaanmcmlmaaGreatDoor.StoQ
namespace Go.Proofs.YtgoapaanmcmlmaaGreatDoor.RowP
set_option maxRecDepth 100000
open Go Go.RowKit Byt RowS
variable {α : Type} (E : Enc α)
theorem size_e (w : World) : (sizeOf (Tryz.prog.elem E.S)).run Tryz.prog w = .ok E.k w := by
 obtain ⟨i, hi, z0, z1, _⟩ := info_parts E.info
 rw [E.elem]
 simp [sizeOf, typeInfo, hi, z1]
theorem under_e : Tryz.prog.underlying E.S = some (.slice (Tryz.prog.elem E.S)) := by rw [E.elem, E.slice]
theorem run_part_h (w : World) (A : Option Addr) (len cap : Nat) (k : IntKind) (j : Nat) (hj : j ≤ cap) :
   (Instr.sliceAt E.S (.slice A len cap) none (some (.int k j)) none).run Tryz.prog w = .ok (sliced A 0 j cap E.k) w := by
 rw [run_sliceAt_slice w _ _ _ _ _ (under_e E), run_slice_h w _ A len cap (under_e E) k j (by omega) (by omega), size_e]
 simp [Result.andThen]
variable {E}
theorem ahead {w : World} {A : Option Addr} {cap : Nat} {l : List α} (S : SlR E w A cap l) (j : Nat) (hj : j ≤ l.length) :
   ∃ A' cap', (∀ (W : World) (k : IntKind), (Instr.sliceAt E.S (.slice A l.length cap) none (some (.int k j)) none).run Tryz.prog W = .ok (.slice A' j cap') W) ∧ SlR E w A' cap' (l.take j) := by
 obtain ⟨A', cap', h1, h2, _⟩ := SlR.part S 0 j (Nat.zero_le _) hj
 refine ⟨A', cap', fun W k => ?_, by simpa using h2⟩
 rw [run_part_h E W A l.length cap k j (by have := S.1; omega), h1, Nat.sub_zero]
end Go.Proofs.YtgoapaanmcmlmaaGreatDoor.RowP
