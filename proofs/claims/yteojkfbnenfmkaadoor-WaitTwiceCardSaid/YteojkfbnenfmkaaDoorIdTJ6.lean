/- What rising returns: a contract. | What Sort, Both, Common and Without return: contracts. | Plain facts on the last ones of closed commits: heads, what is joined, what comes next. No condition. | Plain facts: closed commits are at most as many as there are events. No condition. | What the project's Closed, Anc, Part and Sorted of package dag return, where known answers as the document does. No condition. | What the project's Part of package dag returns, where known answers as the document does. No condition. -/
import Derived.Test.YteojkfbnenfmkaaDoorIdRJ2
import Derived.Test.YteojkfbnenfmkaaDoorIdBJ5
import Derived.Maps.AppendAt
import Derived.Test.YteojkfbnenfmkaaDoorDgEJ3
import Derived.Test.YteojkfbnenfmkaaDoorMapVJ10
import Derived.Test.YteojkfbnenfmkaaDoorDhCJ2
import Derived.Test.YteojkfbnenfmkaaDoorDgKJ8
namespace Go.Proofs.YteojkfbnenfmkaaDoor.IdT
set_option maxRecDepth 100000
open Go Go.RowKit IdM Byt IdW IdK IdB

abbrev Ranges (w : World) (b r n : Nat) (D : DataW Unit) (left : Lit → Bool) (cnt : Nat) : Prop := w.ranges Tryd.prog 42 (plainElem Tryd.prog 3) b r n D left cnt
/-- A row of cells lies in another block than a map, and than what ranges over one. -/
theorem apart_map {w : World} {b n : Nat} {D : DataW Unit} {base m : Nat} {v : Value} {xs : List Value} (h : w.ownsMap Tryd.prog 42 (plainElem Tryd.prog 3) b n D) (hr : w.ownsRow base 42 32 v m xs) : some b ≠ v.ownBlock := by
  obtain ⟨es, clock, hb, _⟩ := h
  rcases hr.2 with ⟨rfl, _⟩ | ⟨g, cap, cur, rfl, _, hg, _⟩
  · simp [Value.ownBlock]
  · intro e
    simp only [Value.ownBlock, Option.some.injEq] at e
    subst e
    rw [hb] at hg
    cases hg
theorem apart_iter {w : World} {b r n cnt : Nat} {D : DataW Unit} {left : Lit → Bool} {base m : Nat} {v : Value} {xs : List Value} (h : Ranges w b r n D left cnt) (hr : w.ownsRow base 42 32 v m xs) : some r ≠ v.ownBlock := by
  obtain ⟨es, clock, since, seen, c0, _, _, _, _, hb, _⟩ := h
  rcases hr.2 with ⟨rfl, _⟩ | ⟨g, cap, cur, rfl, _, hg, _⟩
  · simp [Value.ownBlock]
  · intro e
    simp only [Value.ownBlock, Option.some.injEq] at e
    subst e
    rw [hb] at hg
    cases hg
theorem same_self (x : Idn) : (key x).sameKey (key x) = true := by
  have := law.key (keyOf_id x)
  unfold key at this ⊢
  simp [Lit.sameKey]
/-- One more has come. -/
theorem step_mem {L acc : List Idn} {left : Lit → Bool} {x : Idn} (h : ∀ z, z ∈ acc ↔ z ∈ L ∧ left (key z) = false) (hx : x ∈ L) : ∀ z, z ∈ acc ++ [x] ↔ z ∈ L ∧ (left (key z) && !(key z).sameKey (key x)) = false := by
  intro z
  rw [List.mem_append, h, List.mem_singleton]
  by_cases hz : z = x
  · subst hz
    simp [same_self, hx]
  · have : (key z).sameKey (key x) = false := Maps.sameKey_ne (fun e => hz (key_inj e))
    simp [this, hz]
/-- The next id of a set. -/
theorem wpList_next_ids (w : World) {ops : Array Oper} {rest : List Oper} {o : Oper} {a : Act} {Q : Exit → Act → World → Prop} (hg : o.guard = none) (it : Operand) (hop : o.op = Op.next it false) (b r n : Nat) (D : DataW Unit) (left : Lit → Bool) (cnt : Nat)
    (hit : a.eval it = .pointer (some ⟨r, 0, none⟩)) (h : Ranges w b r n D left cnt)
    (hDone : (∀ kl, left kl = false) → wpList Tryd.prog ops Q rest (a.put o.dst (.tuple #[.bool false])) w)
    (hMore : ∀ (x : Idn) (c : Int) (w' : World) (cnt' : Nat), Maps.has D (key x) = true → left (key x) = true → Ranges w' b r n D (fun z => left z && !z.sameKey (key x)) cnt' → cnt' < cnt →
      w.grownBy w' (some r) → (Instr.entry (.pointer (some ⟨r, 0, none⟩))).run Tryd.prog w' = .ok (.tuple #[.agg (cs x), .int .i64 c]) w' → wpList Tryd.prog ops Q rest (a.put o.dst (.tuple #[.bool true, .agg (cs x), .int .i64 c])) w') :
    wpList Tryd.prog ops Q (o :: rest) a w := by
  refine wpList_next_ranges w hg it hop 42 law (plainElem Tryd.prog 3) (fun x : Idn => .agg (cs x)) (Value.int .i64) (fun _ _ hk => keyOf_inv hk) (fun _ _ hv => by obtain ⟨c, rfl, _⟩ := plainElem_int_inv Tryd.underlying3 hv; exact ⟨c, rfl⟩) b r n D left cnt hit h (fun _ hl => hDone hl) ?_
  intro x c kl y w' cnt' hkey hlx _ hat hrg hlt hgr _ hen
  obtain rfl : kl = key x := Option.some.inj (hkey.symm.trans (keyOf_id x))
  exact hMore x c w' cnt' (Maps.has_true_of_atKey hat) hlx hrg hlt hgr hen
/-- The sort of a new row, whatever its length. -/
theorem sort_own {w : World} {base : Nat} {v : Value} {l : List Idn} (h : w.ownsRow base 42 32 v l.length (bv (flat l))) (hn : l.Nodup) (hl : l.length ≤ 1000000) :
    Calls Tryd.prog 51 #[v, .func (.func 52) #[] #[]] w fun e w' =>
      e = .returned (.tuple #[]) ∧ w'.ownsRow base 42 32 v (IdM.sort l).length (bv (flat (IdM.sort l))) ∧ w.grownBy w' v.ownBlock := by
  have hs : IdM.sort ([] : List Idn) = [] := rfl
  by_cases h0 : l.length = 0
  · have e := List.eq_nil_of_length_eq_zero h0
    subst e
    obtain ⟨A, cap, rfl, _⟩ := SlI.own h
    refine (AnyF.slices_SortFunc_none Tryd.sortIds A cap _ w).mono ?_
    rintro e w' ⟨rfl, rfl⟩
    exact ⟨rfl, by rw [hs]; exact h, grown_of_below (Below.refl _ _) _⟩
  · rcases h.2 with ⟨_, e⟩ | ⟨g, cap, cur, rfl, hbg, hg, h1, h2, h3, h4⟩
    · exact absurd e h0
    · have hlt := (IdR.owns_lt h).2
      have q := IdR.sortf g 0 cap l.toArray w (IdR.holds_own h) hlt (by simp; omega)
      rw [List.size_toArray] at q
      refine q.mono ?_
      rintro e w' ⟨rfl, d', n, os, hp, hso, rfl⟩
      obtain ⟨l'⟩ := d'
      obtain ⟨e1, e2⟩ := IdR.rising_of hn hp hso
      subst e2
      have := IdR.own_sorted h e1 n os
      refine ⟨rfl, ?_, this.2⟩
      rw [e1]
      exact this.1

set_option maxHeartbeats 1000000 in
theorem rising_ret (b n : Nat) (L : List Idn) (w : World) (h : SetIn w b n L) (hn : n ≤ 2000) :
    Calls Tryd.prog 38 #[.map (some b)] w fun e w' => NewI (IdM.sort L) w e w' := by
  obtain ⟨D, hown, hD⟩ := h
  have hsz := hown.size_le
  obtain ⟨i, hi, z0, z1, z2⟩ := info_parts zero_id
  obtain ⟨w1, hmk, own1, g1⟩ := run_make_own (P := Tryd.prog) w w.heap.size 25 42 i (.agg (cs nought)) 32 Tryd.underlying25 hi z0 z1 .i64 .i64 (Maps.size D) (by rw [z2]; omega) (by unfold maxLen; omega) (Nat.le_refl _)
  have hown1 := hown.kept g1 (by simp)
  have kb1 : Below w.heap.size w w1 := below_grown (Below.refl _ _) (Nat.le_refl _) g1 (fun k hk => by cases hk)
  clear hi z0 z1 z2
  go_enter Tryd.func38, Tryd.ntmps38
  go_wp2_with (first
    | (at_len; refine wpList_len_own _ rfl _ 57 rfl 42 3 Tryd.underlying57 _ b n D rfl hown ?_)
    | (at_range; refine wpList_range_own _ rfl _ 57 rfl 42 3 law Tryd.underlying57 _ b n _ rfl hown1 ?_; intro w0 hrg0 hg0 hs0))
  go_frame
  have own0 : w0.ownsRow w.heap.size 42 32 (.slice (some ⟨w.heap.size, 0, none⟩) 0 (Maps.size D)) 0 [] := own1.kept hg0 (by simp [Value.ownBlock])
  have kb0 : Below w.heap.size w w0 := below_grown kb1 kb1.size hg0 (fun k hk => by cases hk)
  clear own1 hown1 g1 hmk
  go_loopw [3] (fun v wr => ∃ (left : Lit → Bool) (cnt : Nat) (acc : List Idn), Ranges wr b w1.heap.size n D left cnt ∧ wr.ownsRow w.heap.size 42 32 v acc.length (bv (flat acc)) ∧ acc.Nodup ∧ Hid (∀ x, x ∈ acc ↔ x ∈ L ∧ left (key x) = false) ∧ acc.length + cnt ≤ n ∧ Below w.heap.size w wr)
    (fun _ wr => wr.rangeLeft b w1.heap.size)
  case atStart =>
    refine ⟨_, _, [], hrg0, own0, List.nodup_nil, aside (fun x => ?_), by simpa using hsz, kb0⟩
    rw [hD.1 x]
    by_cases hx : x ∈ L <;> simp [hx]
  case round =>
    clear hrg0 own0 kb0 hg0 hs0
    obtain ⟨left, cnt, acc, hrg, hrow, hnd, hmem, hle, kb⟩ := hrel
    go_wp2_with (first
      | (at_next; refine wpList_next_ids _ rfl _ rfl b w1.heap.size n _ _ _ rfl hrg ?_ ?_))
    · intro hl0
      have hmem' : ∀ x, x ∈ acc ↔ x ∈ L := fun x => by rw [hmem.out x, hl0 (key x)]; simp
      have hso := sort_own hrow hnd (by omega)
      rw [sort_congr hmem'] at hso
      go_wp2_with fail
      refine hso.mono ?_
      rintro e w3 ⟨rfl, h3, g3⟩
      go_wp2_with fail
      go_ret
      exact ⟨_, rfl, h3, below_grown kb kb.size g3 (fun k hk => (hrow.lt k hk).1)⟩
    · intro x c w2 cnt1 hhas hlx hrg1 hlt hg1 hen
      have hrow1 := hrow.kept hg1 (.inr (fun e => apart_iter hrg hrow e.symm))
      have hxL : x ∈ L := by
        rw [hD.1 x] at hhas
        simpa using hhas
      have kb2 : Below w.heap.size w w2 := below_grown kb kb.size hg1 (fun k hk => by cases hk; exact kb1.size)
      go_wp2_with (first | (refine wpList_store_new rfl _ _ rfl _ _ x _ rfl _ rfl (by simp) rfl rfl ?_) | (refine wpList_load_box rfl _ rfl _ rfl x (Box.new w2 x _) ?_) | (refine wpList_build1 rfl _ rfl x rfl ?_) | (refine wpList_append_ids rfl _ _ rfl w.heap.size _ _ acc rfl ((hrow1.alloc _).alloc _) _ 1 1 [x] rfl rfl (SlI.new1 _ x _) (by omega) (by have := kb2.size; simp; omega) ?_; intro v' w3 hrow3 hg3; go_frame))
      have hgA : w2.grownBy w3 u3.ownBlock := ((World.grownBy_alloc w2 _ _).trans (World.grownBy_alloc _ _ _)).trans hg3
      have hrg3 := hrg1.kept hgA (apart_map hrg1.owns hrow1) (apart_iter hrg1 hrow1)
      go_roundw
      case rel =>
        refine ⟨_, cnt1, acc ++ [x], hrg3, by simpa using hrow3, ?_, aside (step_mem hmem.out hxL), by simp; omega, below_grown kb2 kb2.size hgA (fun k hk => (hrow.lt k hk).1)⟩
        rw [List.nodup_append]
        refine ⟨hnd, by simp, fun a ha b hb => ?_⟩
        rintro rfl
        simp at hb
        subst hb
        rw [(hmem.out a).1 ha |>.2] at hlx
        cases hlx
      case measure => rw [hrg3.left_eq, hrg.left_eq]; exact hlt
end Go.Proofs.YteojkfbnenfmkaaDoor.IdT
namespace Go.Proofs.YteojkfbnenfmkaaDoor.IdU
set_option maxRecDepth 100000
open Go Go.RowKit IdM Byt IdW IdK IdS IdT

theorem NewI.mono {l : List Idn} {w w1 : World} {e : Ending} {w' : World} (h : NewI l w1 e w') (hb : Below w.heap.size w w1) : NewI l w e w' := by
  obtain ⟨v, rfl, h1, h2⟩ := h
  exact ⟨v, rfl, owns_less h1 hb.size, hb.trans (h2.mono hb.size)⟩




set_option maxHeartbeats 1000000 in
theorem without_ret (A A' : Option Addr) (cap cap' : Nat) (l l' : List Idn) (w : World) (S : SlI w A cap l) (S' : SlI w A' cap' l') (hl : l.length ≤ 500) (hl' : l'.length ≤ 100000) :
    Calls Tryd.prog 17 #[.slice A l.length cap, .slice A' l'.length cap'] w fun e w' => NewI (without l l') w e w' := by
  have hs := set_ret A cap l w S (by omega)
  clear S
  go_enter Tryd.func17, Tryd.ntmps17
  go_wp2_with fail
  refine hs.mono ?_
  rintro e w1 ⟨b, rfl, hb, s1, k1⟩
  clear hs
  go_wp2_with fail
  go_loopw [12] (fun i wr => ∃ k : Nat, k ≤ l'.length ∧ i = .int .i64 k ∧ SetIn wr b l.length (l.filter fun x => decide (x ∉ l'.take k)) ∧ Below w.heap.size w wr) (fun i _ => l'.length - (intOf i).toNat)
  case atStart => exact ⟨0, Nat.zero_le _, rfl, s1.congr (fun z => by simp), k1⟩
  case round =>
    clear s1 k1
    obtain ⟨k, hk, rfl, hset, kb⟩ := hrel
    by_cases hlt : k < l'.length
    · obtain ⟨g, off, rfl, hbw, hr⟩ := S'.plain (by omega)
      have hr1 := range_below (hr k hlt) kb
      obtain ⟨x, hx⟩ : ∃ x, l'.getD k nought = x := ⟨_, rfl⟩
      rw [hx] at hr1
      have HX := aside hx
      have p0 : (k : Int) < l'.length := by omega
      have m0 : ((k : Int)).toNat = k := by omega
      clear hr S' hx
      go_wp2_with (first | (refine wpList_load_id rfl _ rfl _ _ rfl x hr1 ?_) | (refine wpList_store_new rfl _ _ rfl _ _ x _ rfl _ rfl (by simp) rfl rfl ?_) | (refine wpList_load_box rfl _ rfl _ rfl x (Box.new wr x _) ?_) | (refine wpList_take _ rfl _ _ rfl b _ _ rfl (hset.alloc _) x rfl ?_; intro w2 hs1 hg1))
      go_roundw
      case rel =>
        refine ⟨k + 1, by omega, by go_num, hs1.congr (fun z => ?_), ?_⟩
        · have := mem_take_succ hlt z
          rw [HX.out] at this
          simp only [List.mem_cons, List.mem_filter, decide_eq_true_eq] at this ⊢
          rw [← this]
          constructor
          · rintro ⟨⟨h1, h2⟩, h3⟩
            exact ⟨h1, fun h => h.elim h3 h2⟩
          · rintro ⟨h1, h2⟩
            exact ⟨⟨h1, fun h => h2 (.inr h)⟩, fun h => h2 (.inl h)⟩
        · exact below_grown (kb.alloc kb.size _) (by have := kb.size; simp; omega) hg1 (fun j hj => by cases hj; exact hb)
      case measure => simp [intOf]; omega
    · have e : k = l'.length := by omega
      subst e
      rw [List.take_length] at hset
      go_wp2_with fail
      refine (rising_ret b _ _ wr hset (by omega)).mono ?_
      rintro e w2 h2
      obtain ⟨v, rfl, o2, k2⟩ := NewI.mono h2 kb
      go_wp2_with fail
      go_ret
      exact ⟨_, rfl, o2, k2⟩
end Go.Proofs.YteojkfbnenfmkaaDoor.IdU
namespace Go.Proofs.YteojkfbnenfmkaaDoor.FrM
set_option maxRecDepth 100000
open IdM CmM DgM DgX
open Classical

section
variable {H : Com → Idn}

end
end Go.Proofs.YteojkfbnenfmkaaDoor.FrM
namespace Go.Proofs.YteojkfbnenfmkaaDoor.DgL
set_option maxRecDepth 100000
open IdM CmM DgM DgX FrM
open Classical

section
variable {H : Com → Idn} {l : List Com}
end
end Go.Proofs.YteojkfbnenfmkaaDoor.DgL
namespace Go.Proofs.YteojkfbnenfmkaaDoor.DhA
set_option maxRecDepth 100000
open Go Go.Sort Go.RowKit Byt IdM IdW OpsM OpsW CmM StW CmW CmX CmY CmA DgM DgW DgR DgX DgY DgI DgF DhO DhP DhT DhK DhC
open Classical

end Go.Proofs.YteojkfbnenfmkaaDoor.DhA
namespace Go.Proofs.YteojkfbnenfmkaaDoor.DhB
set_option maxRecDepth 100000
open Go Go.Sort Go.RowKit Byt IdM IdW IdK IdS OpsM OpsW CmM StW CmW CmX CmY CmA DgM DgW DgR DgX DgY DgI DgF DhO DhP DhT DhK DhC DhA
open Classical

/-- Copies whose parents lie in memory, and not in the block that the slice owns. -/
structure Held (w : World) (v : Value) (us : List Cv) : Prop where
  each : ∀ u ∈ us, In w u ∧ CmW.Fit u.c
  far : ∀ u ∈ us, u.c.ps ≠ [] → ∀ b off sp, u.a = some ⟨b, off, sp⟩ → v.ownBlock ≠ some b
theorem Held.nil (w : World) (v : Value) : Held w v [] := ⟨fun u h => by simp at h, fun u h => by simp at h⟩
theorem Held.below {w w' : World} {v : Value} {us : List Cv} (h : Held w v us) (hb : Below w.heap.size w w') : Held w' v us := ⟨fun u hu => ⟨(h.each u hu).1.below hb, (h.each u hu).2⟩, h.far⟩
theorem ids_other {w w' : World} {A : Option Addr} {cap : Nat} {l : List Idn} {g : Option Nat} (S : SlI w A cap l) (hg : w.grownBy w' g) (hf : l ≠ [] → ∀ b off sp, A = some ⟨b, off, sp⟩ → g ≠ some b) : SlI w' A cap l ∧ (l ≠ [] → ∀ b off sp, A = some ⟨b, off, sp⟩ → b < w.heap.size) := by
  obtain ⟨h1, h2, h5⟩ := S
  rcases h5 with ⟨rfl, rfl, rfl⟩ | ⟨x, rfl, hc⟩
  · exact ⟨⟨h1, h2, .inl ⟨rfl, rfl, rfl⟩⟩, fun h => absurd rfl h⟩
  · refine ⟨⟨h1, h2, .inr ⟨x, rfl, fun i hi => ?_⟩⟩, fun hl b off sp e => ?_⟩
    · have hcell := hc i hi
      have hlt := block_lt_of_cell hcell
      have hne : some (x.add i).block ≠ g := fun e => hf (fun e => by rw [e] at hi; simp [flat] at hi) x.block x.off x.spot (by cases x; rfl) (by rw [← e, RowIn.block_add])
      unfold World.cell? at hcell ⊢
      rw [hg.block _ hlt hne]
      exact hcell
    · have hlen : 0 < (flat l).length := by
        rw [flat_length]
        have := List.length_pos_iff.2 hl
        omega
      have := block_lt_of_cell (hc 0 hlen)
      rw [RowIn.block_add] at this
      injection e with e
      rw [e] at this
      exact this
theorem Held.grown {w w' : World} {v v' : Value} {us : List Cv} (h : Held w v us) (hg : w.grownBy w' v.ownBlock) (hv : v'.ownBlock = v.ownBlock ∨ v'.ownBlock = some w.heap.size) : Held w' v' us := by
  refine ⟨fun u hu => ⟨(ids_other (h.each u hu).1 hg (h.far u hu)).1, (h.each u hu).2⟩, fun u hu hp b off sp e => ?_⟩
  rcases hv with hv | hv
  · rw [hv]; exact h.far u hu hp b off sp e
  · rw [hv]
    have := (ids_other (h.each u hu).1 hg (h.far u hu)).2 hp b off sp e
    intro e2
    injection e2 with e2
    omega
/-- A slice of one commit, made. -/
theorem build_com {w : World} {ops : Array Oper} {rest : List Oper} {o : Oper} {a : Act} {Q : Exit → Act → World → Prop} (hgd : o.guard = none) (x : Operand) (ho : o.op = .buildSlice 22 1 #[(0, x)])
    (y : Cv) (hx : a.eval x = .agg (cc y)) (h : ∀ w1, RowB.Box KE w1 w.heap.size y → Below w.heap.size w w1 → wpList Tryd.prog ops Q rest (a.put o.dst (.slice (some ⟨w.heap.size, 0, none⟩) 1 1)) w1) : wpList Tryd.prog ops Q (o :: rest) a w :=
  RowC.wpList_build1 KE (of_decide_eq_true rfl) hgd x ho y hx (h _ (RowB.Box.new w y _) ((Below.refl _ _).alloc (Nat.le_refl _) _))
end Go.Proofs.YteojkfbnenfmkaaDoor.DhB
