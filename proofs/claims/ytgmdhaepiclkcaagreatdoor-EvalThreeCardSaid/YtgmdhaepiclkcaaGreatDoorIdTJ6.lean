/- What rising returns: a contract. | What Sort, Both, Common and Without return: contracts. | What the project's without, last and above of package front return: contracts. No condition but sizes. | Plain facts on what joins, at ids that are sums. No condition. | Maps whose keys are ids, of values of whatever kind. No condition. | Clocks and views in memory; what the project's has, and, copied of package dag return. No condition. -/
import Derived.Test.YtgmdhaepiclkcaaGreatDoorEaWJ12
import Derived.Test.YtgmdhaepiclkcaaGreatDoorRowFJ10
import Derived.Maps.AppendAt
import Derived.Test.YtgmdhaepiclkcaaGreatDoorDgTJ19
import Derived.Maps.OwnSet
import Derived.Test.YtgmdhaepiclkcaaGreatDoorDgX
import Derived.Test.YtgmdhaepiclkcaaGreatDoorRowGJ9
import Derived.Test.YtgmdhaepiclkcaaGreatDoorOpsPJ7
namespace Go.Proofs.YtgmdhaepiclkcaaGreatDoor.IdT
set_option maxRecDepth 100000
open Go Go.RowKit IdM Byt IdW IdK IdB

abbrev Ranges (w : World) (b r n : Nat) (D : DataW Unit) (left : Lit → Bool) (cnt : Nat) : Prop := w.ranges Tryz.prog 56 (plainElem Tryz.prog 3) b r n D left cnt
/-- A row of cells lies in another block than a map, and than what ranges over one. -/
theorem apart_map {w : World} {b n : Nat} {D : DataW Unit} {base m : Nat} {v : Value} {xs : List Value} (h : w.ownsMap Tryz.prog 56 (plainElem Tryz.prog 3) b n D) (hr : w.ownsRow base 56 32 v m xs) : some b ≠ v.ownBlock := by
  obtain ⟨es, clock, hb, _⟩ := h
  rcases hr.2 with ⟨rfl, _⟩ | ⟨g, cap, cur, rfl, _, hg, _⟩
  · simp [Value.ownBlock]
  · intro e
    simp only [Value.ownBlock, Option.some.injEq] at e
    subst e
    rw [hb] at hg
    cases hg
theorem apart_iter {w : World} {b r n cnt : Nat} {D : DataW Unit} {left : Lit → Bool} {base m : Nat} {v : Value} {xs : List Value} (h : Ranges w b r n D left cnt) (hr : w.ownsRow base 56 32 v m xs) : some r ≠ v.ownBlock := by
  obtain ⟨es, clock, since, seen, c0, _, _, _, _, hb, _⟩ := h
  rcases hr.2 with ⟨rfl, _⟩ | ⟨g, cap, cur, rfl, _, hg, _⟩
  · simp [Value.ownBlock]
  · intro e
    simp only [Value.ownBlock, Option.some.injEq] at e
    subst e
    rw [hb] at hg
    cases hg
theorem same_self (x : Idn) : (key x).sameKey (key x) = true := by
  have := law.key (keyOf_id x)
  unfold key at this ⊢
  simp [Lit.sameKey]
/-- One more has come. -/
theorem step_mem {L acc : List Idn} {left : Lit → Bool} {x : Idn} (h : ∀ z, z ∈ acc ↔ z ∈ L ∧ left (key z) = false) (hx : x ∈ L) : ∀ z, z ∈ acc ++ [x] ↔ z ∈ L ∧ (left (key z) && !(key z).sameKey (key x)) = false := by
  intro z
  rw [List.mem_append, h, List.mem_singleton]
  by_cases hz : z = x
  · subst hz
    simp [same_self, hx]
  · have : (key z).sameKey (key x) = false := Maps.sameKey_ne (fun e => hz (key_inj e))
    simp [this, hz]
/-- The next id of a set. -/
theorem wpList_next_ids (w : World) {ops : Array Oper} {rest : List Oper} {o : Oper} {a : Act} {Q : Exit → Act → World → Prop} (hg : o.guard = none) (it : Operand) (hop : o.op = Op.next it false) (b r n : Nat) (D : DataW Unit) (left : Lit → Bool) (cnt : Nat)
    (hit : a.eval it = .pointer (some ⟨r, 0, none⟩)) (h : Ranges w b r n D left cnt)
    (hDone : (∀ kl, left kl = false) → wpList Tryz.prog ops Q rest (a.put o.dst (.tuple #[.bool false])) w)
    (hMore : ∀ (x : Idn) (c : Int) (w' : World) (cnt' : Nat), Maps.has D (key x) = true → left (key x) = true → Ranges w' b r n D (fun z => left z && !z.sameKey (key x)) cnt' → cnt' < cnt →
      w.grownBy w' (some r) → (Instr.entry (.pointer (some ⟨r, 0, none⟩))).run Tryz.prog w' = .ok (.tuple #[.agg (cs x), .int .i64 c]) w' → wpList Tryz.prog ops Q rest (a.put o.dst (.tuple #[.bool true, .agg (cs x), .int .i64 c])) w') :
    wpList Tryz.prog ops Q (o :: rest) a w := by
  refine wpList_next_ranges w hg it hop 56 law (plainElem Tryz.prog 3) (fun x : Idn => .agg (cs x)) (Value.int .i64) (fun _ _ hk => keyOf_inv hk) (fun _ _ hv => by obtain ⟨c, rfl, _⟩ := plainElem_int_inv Tryz.underlying3 hv; exact ⟨c, rfl⟩) b r n D left cnt hit h (fun _ hl => hDone hl) ?_
  intro x c kl y w' cnt' hkey hlx _ hat hrg hlt hgr _ hen
  obtain rfl : kl = key x := Option.some.inj (hkey.symm.trans (keyOf_id x))
  exact hMore x c w' cnt' (Maps.has_true_of_atKey hat) hlx hrg hlt hgr hen
/-- The sort of a new row, whatever its length. -/
theorem sort_own {w : World} {base : Nat} {v : Value} {l : List Idn} (h : w.ownsRow base 56 32 v l.length (bv (flat l))) (hn : l.Nodup) (hl : l.length ≤ 1000000) :
    Calls Tryz.prog 136 #[v, .func (.func 137) #[] #[]] w fun e w' =>
      e = .returned (.tuple #[]) ∧ w'.ownsRow base 56 32 v (IdM.sort l).length (bv (flat (IdM.sort l))) ∧ w.grownBy w' v.ownBlock := by
  have hs : IdM.sort ([] : List Idn) = [] := rfl
  by_cases h0 : l.length = 0
  · have e := List.eq_nil_of_length_eq_zero h0
    subst e
    obtain ⟨A, cap, rfl, _⟩ := SlI.own h
    refine (AnyF.slices_SortFunc_none Tryz.sortIds A cap _ w).mono ?_
    rintro e w' ⟨rfl, rfl⟩
    exact ⟨rfl, by rw [hs]; exact h, grown_of_below (Below.refl _ _) _⟩
  · rcases h.2 with ⟨_, e⟩ | ⟨g, cap, cur, rfl, hbg, hg, h1, h2, h3, h4⟩
    · exact absurd e h0
    · have hlt := (IdR.owns_lt h).2
      have q := IdR.sortf g 0 cap l.toArray w (IdR.holds_own h) hlt (by simp; omega)
      rw [List.size_toArray] at q
      refine q.mono ?_
      rintro e w' ⟨rfl, d', n, os, hp, hso, rfl⟩
      obtain ⟨l'⟩ := d'
      obtain ⟨e1, e2⟩ := IdR.rising_of hn hp hso
      subst e2
      have := IdR.own_sorted h e1 n os
      refine ⟨rfl, ?_, this.2⟩
      rw [e1]
      exact this.1

set_option maxHeartbeats 1000000 in
theorem rising_ret (b n : Nat) (L : List Idn) (w : World) (h : SetIn w b n L) (hn : n ≤ 2000) :
    Calls Tryz.prog 92 #[.map (some b)] w fun e w' => NewI (IdM.sort L) w e w' := by
  obtain ⟨D, hown, hD⟩ := h
  have hsz := hown.size_le
  obtain ⟨i, hi, z0, z1, z2⟩ := info_parts zero_id
  obtain ⟨w1, hmk, own1, g1⟩ := run_make_own (P := Tryz.prog) w w.heap.size 23 56 i (.agg (cs nought)) 32 Tryz.underlying23 hi z0 z1 .i64 .i64 (Maps.size D) (by rw [z2]; omega) (by unfold maxLen; omega) (Nat.le_refl _)
  have hown1 := hown.kept g1 (by simp)
  have kb1 : Below w.heap.size w w1 := below_grown (Below.refl _ _) (Nat.le_refl _) g1 (fun k hk => by cases hk)
  clear hi z0 z1 z2
  go_enter Tryz.func92, Tryz.ntmps92
  go_wp2_with (first
    | (at_len; refine wpList_len_own _ rfl _ 126 rfl 56 3 Tryz.underlying126 _ b n D rfl hown ?_)
    | (at_range; refine wpList_range_own _ rfl _ 126 rfl 56 3 law Tryz.underlying126 _ b n _ rfl hown1 ?_; intro w0 hrg0 hg0 hs0))
  go_frame
  have own0 : w0.ownsRow w.heap.size 56 32 (.slice (some ⟨w.heap.size, 0, none⟩) 0 (Maps.size D)) 0 [] := own1.kept hg0 (by simp [Value.ownBlock])
  have kb0 : Below w.heap.size w w0 := below_grown kb1 kb1.size hg0 (fun k hk => by cases hk)
  clear own1 hown1 g1 hmk
  go_loopw [3] (fun v wr => ∃ (left : Lit → Bool) (cnt : Nat) (acc : List Idn), Ranges wr b w1.heap.size n D left cnt ∧ wr.ownsRow w.heap.size 56 32 v acc.length (bv (flat acc)) ∧ acc.Nodup ∧ Hid (∀ x, x ∈ acc ↔ x ∈ L ∧ left (key x) = false) ∧ acc.length + cnt ≤ n ∧ Below w.heap.size w wr)
    (fun _ wr => wr.rangeLeft b w1.heap.size)
  case atStart =>
    refine ⟨_, _, [], hrg0, own0, List.nodup_nil, aside (fun x => ?_), by simpa using hsz, kb0⟩
    rw [hD.1 x]
    by_cases hx : x ∈ L <;> simp [hx]
  case round =>
    clear hrg0 own0 kb0 hg0 hs0
    obtain ⟨left, cnt, acc, hrg, hrow, hnd, hmem, hle, kb⟩ := hrel
    go_wp2_with (first
      | (at_next; refine wpList_next_ids _ rfl _ rfl b w1.heap.size n _ _ _ rfl hrg ?_ ?_))
    · intro hl0
      have hmem' : ∀ x, x ∈ acc ↔ x ∈ L := fun x => by rw [hmem.out x, hl0 (key x)]; simp
      have hso := sort_own hrow hnd (by omega)
      rw [sort_congr hmem'] at hso
      go_wp2_with fail
      refine hso.mono ?_
      rintro e w3 ⟨rfl, h3, g3⟩
      go_wp2_with fail
      go_ret
      exact ⟨_, rfl, h3, below_grown kb kb.size g3 (fun k hk => (hrow.lt k hk).1)⟩
    · intro x c w2 cnt1 hhas hlx hrg1 hlt hg1 hen
      have hrow1 := hrow.kept hg1 (.inr (fun e => apart_iter hrg hrow e.symm))
      have hxL : x ∈ L := by
        rw [hD.1 x] at hhas
        simpa using hhas
      have kb2 : Below w.heap.size w w2 := below_grown kb kb.size hg1 (fun k hk => by cases hk; exact kb1.size)
      go_wp2_with (first | (refine wpList_store_new rfl _ _ rfl _ _ x _ rfl _ rfl (by simp) rfl rfl ?_) | (refine wpList_load_box rfl _ rfl _ rfl x (Box.new w2 x _) ?_) | (refine wpList_build1 rfl _ rfl x rfl ?_) | (refine wpList_append_ids rfl _ _ rfl w.heap.size _ _ acc rfl ((hrow1.alloc _).alloc _) _ 1 1 [x] rfl rfl (SlI.new1 _ x _) (by omega) (by have := kb2.size; simp; omega) ?_; intro v' w3 hrow3 hg3; go_frame))
      have hgA : w2.grownBy w3 u3.ownBlock := ((World.grownBy_alloc w2 _ _).trans (World.grownBy_alloc _ _ _)).trans hg3
      have hrg3 := hrg1.kept hgA (apart_map hrg1.owns hrow1) (apart_iter hrg1 hrow1)
      go_roundw
      case rel =>
        refine ⟨_, cnt1, acc ++ [x], hrg3, by simpa using hrow3, ?_, aside (step_mem hmem.out hxL), by simp; omega, below_grown kb2 kb2.size hgA (fun k hk => (hrow.lt k hk).1)⟩
        rw [List.nodup_append]
        refine ⟨hnd, by simp, fun a ha b hb => ?_⟩
        rintro rfl
        simp at hb
        subst hb
        rw [(hmem.out a).1 ha |>.2] at hlx
        cases hlx
      case measure => rw [hrg3.left_eq, hrg.left_eq]; exact hlt
end Go.Proofs.YtgmdhaepiclkcaaGreatDoor.IdT
namespace Go.Proofs.YtgmdhaepiclkcaaGreatDoor.IdU
set_option maxRecDepth 100000
open Go Go.RowKit IdM Byt IdW IdK IdS IdT

theorem NewI.mono {l : List Idn} {w w1 : World} {e : Ending} {w' : World} (h : NewI l w1 e w') (hb : Below w.heap.size w w1) : NewI l w e w' := by
  obtain ⟨v, rfl, h1, h2⟩ := h
  exact ⟨v, rfl, owns_less h1 hb.size, hb.trans (h2.mono hb.size)⟩

set_option maxHeartbeats 1000000 in
theorem sort_ret (A : Option Addr) (cap : Nat) (l : List Idn) (w : World) (S : SlI w A cap l) (hl : l.length ≤ 1000) :
    Calls Tryz.prog 70 #[.slice A l.length cap] w fun e w' => NewI (IdM.sort l) w e w' := by
  have hs := set_ret A cap l w S hl
  go_enter Tryz.func70, Tryz.ntmps70
  go_wp2_with fail
  refine hs.mono ?_
  rintro e w1 ⟨b, rfl, hb, s1, k1⟩
  go_wp2_with fail
  refine (rising_ret b _ l w1 s1 (by omega)).mono ?_
  rintro e w2 h2
  obtain ⟨v, rfl, o2, k2⟩ := NewI.mono h2 k1
  go_wp2_with fail
  go_ret
  exact ⟨_, rfl, o2, k2⟩


set_option maxHeartbeats 1000000 in
theorem common_ret (A A' : Option Addr) (cap cap' : Nat) (l l' : List Idn) (w : World) (S : SlI w A cap l) (S' : SlI w A' cap' l') (hl : l.length ≤ 500) (hl' : l'.length ≤ 500) :
    Calls Tryz.prog 49 #[.slice A l.length cap, .slice A' l'.length cap'] w fun e w' => NewI (common l l') w e w' := by
  have hs := set_ret A cap l w S (by omega)
  clear S
  go_enter Tryz.func49, Tryz.ntmps49
  go_wp2_with fail
  refine hs.mono ?_
  rintro e w1 ⟨b, rfl, hb, s1, k1⟩
  clear hs
  go_wp2_with fail
  refine (set_ret none 0 [] w1 (SlI.nil w1) (by simp)).mono ?_
  rintro e w2 ⟨c, rfl, hc, s2, k2⟩
  have hbc : b ≠ c := by have := s1.lt; omega
  have s1' := s1.below k2
  have k3 := k1.trans (k2.mono k1.size)
  have hwc : w.heap.size ≤ c := Nat.le_trans k1.size hc
  clear s1 k1 k2 hc
  go_wp2_with fail
  go_loopw [14] (fun i wr => ∃ k : Nat, k ≤ l'.length ∧ i = .int .i64 k ∧ SetIn wr b l.length l ∧ SetIn wr c k ((l'.take k).filter fun x => decide (x ∈ l)) ∧ Below w.heap.size w wr) (fun i _ => l'.length - (intOf i).toNat)
  case atStart => exact ⟨0, Nat.zero_le _, rfl, s1', by simpa using s2, k3⟩
  case round =>
    clear s1' s2 k3
    obtain ⟨k, hk, rfl, hsl, hset, kb⟩ := hrel
    by_cases hlt : k < l'.length
    · obtain ⟨g, off, rfl, hbw, hr⟩ := S'.plain (by omega)
      have hr1 := range_below (hr k hlt) kb
      obtain ⟨x, hx⟩ : ∃ x, l'.getD k nought = x := ⟨_, rfl⟩
      rw [hx] at hr1
      have HX := aside hx
      have p0 : (k : Int) < l'.length := by omega
      have m0 : ((k : Int)).toNat = k := by omega
      clear hr S' hx
      by_cases hxl : x ∈ l
      · go_wp2_with (first | (refine wpList_load_id rfl _ rfl _ _ rfl x hr1 ?_) | (refine wpList_store_new rfl _ _ rfl _ _ x _ rfl _ rfl (by simp) rfl rfl ?_) | (refine wpList_load_box rfl _ rfl _ rfl x (Box.new wr x _) ?_) | (refine wpList_find _ rfl _ _ rfl b _ l rfl (hsl.alloc _) x rfl ?_; rw [if_pos hxl]) | (refine wpList_put _ rfl _ _ _ rfl c _ _ rfl (hset.alloc _) (by omega) x rfl rfl ?_; intro w2 hs1 hg1))
        go_roundw
        case rel =>
          refine ⟨k + 1, by omega, by go_num, (hsl.alloc _).kept hg1 (by simpa using hbc), hs1.congr (fun z => ?_), ?_⟩
          · have := mem_take_succ hlt z
            rw [HX.out] at this
            simp only [List.mem_cons, List.mem_filter, decide_eq_true_eq] at this ⊢
            rw [← this]
            constructor
            · rintro (rfl | h)
              · exact ⟨.inl rfl, hxl⟩
              · exact ⟨.inr h.1, h.2⟩
            · rintro ⟨rfl | h, h2⟩
              · exact .inl rfl
              · exact .inr ⟨h, h2⟩
          · exact below_grown (kb.alloc kb.size _) (by have := kb.size; simp; omega) hg1 (fun j hj => by cases hj; exact hwc)
        case measure => simp [intOf]; omega
      · go_wp2_with (first | (refine wpList_load_id rfl _ rfl _ _ rfl x hr1 ?_) | (refine wpList_store_new rfl _ _ rfl _ _ x _ rfl _ rfl (by simp) rfl rfl ?_) | (refine wpList_load_box rfl _ rfl _ rfl x (Box.new wr x _) ?_) | (refine wpList_find _ rfl _ _ rfl b _ l rfl (hsl.alloc _) x rfl ?_; rw [if_neg hxl]))
        go_roundw
        case rel =>
          refine ⟨k + 1, by omega, by go_num, hsl.alloc _, ((hset.alloc _).congr (fun z => ?_)).up, kb.alloc kb.size _⟩
          have := mem_take_succ hlt z
          rw [HX.out] at this
          simp only [List.mem_cons, List.mem_filter, decide_eq_true_eq] at this ⊢
          rw [← this]
          constructor
          · rintro h
            exact ⟨.inr h.1, h.2⟩
          · rintro ⟨rfl | h, h2⟩
            · exact absurd h2 hxl
            · exact ⟨h, h2⟩
        case measure => simp [intOf]; omega
    · have e : k = l'.length := by omega
      subst e
      rw [List.take_length] at hset
      have hset' : SetIn wr c l'.length (l.filter fun x => decide (x ∈ l')) := hset.congr (fun z => by simp [and_comm])
      clear hset
      go_wp2_with fail
      refine (rising_ret c _ _ wr hset' (by omega)).mono ?_
      rintro e w2 h2
      obtain ⟨v, rfl, o2, k2⟩ := NewI.mono h2 kb
      go_wp2_with fail
      go_ret
      exact ⟨_, rfl, o2, k2⟩

end Go.Proofs.YtgmdhaepiclkcaaGreatDoor.IdU
namespace Go.Proofs.YtgmdhaepiclkcaaGreatDoor.FrV
set_option maxRecDepth 100000
open Go Go.Sort Go.RowKit Byt IdM IdW IdU OpsM OpsW CmM StW CmW CmX CmY DgM DgW DgX FrM FrN FrK FrP

end Go.Proofs.YtgmdhaepiclkcaaGreatDoor.FrV
namespace Go.Proofs.YtgmdhaepiclkcaaGreatDoor.FrI
set_option maxRecDepth 100000
open Go Go.Sort Go.RowKit Byt IdM IdW OpsM OpsW CmM StW CmW CmX CmY DgM DgN DgX DgW DgR DgC DgF DgG FrM FrN FrH FrU
open Classical

end Go.Proofs.YtgmdhaepiclkcaaGreatDoor.FrI
namespace Go.Proofs.YtgmdhaepiclkcaaGreatDoor.MapV
set_option maxRecDepth 100000
open Go Go.RowKit Go.Maps IdM Byt IdW IdK

/-- A value is told as itself. -/
def R (v : Value) : Option (DataW Value × List MemPlace) := some (.held v, [])
/-- The map in block b, of at most n entries, has these values. -/
def ValD (D : DataW Value) (f : Idn → Option Value) : Prop := (∀ x, Maps.has D (key x) = (f x).isSome) ∧ ∀ x v, f x = some v → ∀ z, D.atKey (key x) z = .held v
def ValIn (w : World) (b n : Nat) (f : Idn → Option Value) : Prop := ∃ D : DataW Value, w.ownsMap Tryz.prog 56 R b n D ∧ ValD D f
theorem ValIn.made (w : World) : ValIn (w.alloc (.map #[] 0)) w.heap.size 0 fun _ => none := ⟨.map [], World.ownsMap_made _ _ _ _, fun x => by simp [Maps.has], fun x v hx => by cases hx⟩
theorem ValIn.lt {w : World} {b n : Nat} {f : Idn → Option Value} (h : ValIn w b n f) : b < w.heap.size := by obtain ⟨D, hD, _⟩ := h; exact hD.lt
theorem ValIn.kept {w w' : World} {b n : Nat} {f : Idn → Option Value} {row : Option Nat} (h : ValIn w b n f) (hg : w.grownBy w' row) (hne : some b ≠ row) : ValIn w' b n f := by
  obtain ⟨D, hD, hs⟩ := h
  exact ⟨D, hD.kept hg hne, hs⟩
theorem ValIn.below {w w' : World} {b n : Nat} {f : Idn → Option Value} (h : ValIn w b n f) (hb : Below w.heap.size w w') : ValIn w' b n f := h.kept (grown_of_below hb none) (by simp)
theorem ValIn.alloc {w : World} {b n : Nat} {f : Idn → Option Value} (h : ValIn w b n f) (o : Obj) : ValIn (w.alloc o) b n f := h.kept (World.grownBy_alloc w o none) (by simp)
theorem ValIn.mono {w : World} {b n m : Nat} {f : Idn → Option Value} (h : ValIn w b n f) (hm : n ≤ m) : ValIn w b m f := by
  obtain ⟨D, hD, hs⟩ := h
  exact ⟨D, hD.mono hm, hs⟩
/-- One value more. -/
def upd (f : Idn → Option Value) (y : Idn) (v : Value) : Idn → Option Value := fun x => if x = y then some v else f x
theorem put_D {D : DataW Value} {f : Idn → Option Value} (hm : Maps.IsMap D) (h : ValD D f) (y : Idn) (v : Value) : ValD (D.put (key y) (.held v)) (upd f y v) := by
  have hk : WideAt.IsKeyLit (key y) := law.key (keyOf_id y)
  refine ⟨fun x => ?_, fun x u hx z => ?_⟩
  · unfold upd
    by_cases hxy : x = y
    · subst hxy
      rw [Maps.has_put_same hm hk]
      simp
    · rw [Maps.has_put_other (fun e => hxy (key_inj e)), h.1]
      simp [hxy]
  · unfold upd at hx
    by_cases hxy : x = y
    · subst hxy
      rw [if_pos rfl] at hx
      injection hx with hx
      subst hx
      exact Maps.atKey_put_same hm hk _ _
    · rw [if_neg hxy] at hx
      rw [Maps.atKey_put_other (fun e => hxy (key_inj e))]
      exact h.2 x u hx z
theorem ValD.at_key {D : DataW Value} {f : Idn → Option Value} (h : ValD D f) (y : Idn) (z : Value) : D.atKey (key y) (.held z) = .held ((f y).getD z) := by
  cases hf : f y with
  | some v => exact h.2 y v hf _
  | none =>
    have hh := h.1 y
    rw [hf] at hh
    rw [Maps.atKey_of_not_has hh]
    rfl
theorem held_inj {a b : Value} (h : (DataW.held a : DataW Value) = .held b) : a = b := by injection h
section
variable {T e : TypeId} (hT : Tryz.prog.underlying T = some (.map 56 e)) {zv : Value} (hz : ∀ w : World, (zeroValue e).run Tryz.prog w = .ok zv w)
include hT
/-- What a look-up hands back. -/
theorem run_look {w : World} {b n : Nat} {f : Idn → Option Value} (h : ValIn w b n f) (y : Idn) (hz : ∀ w : World, (zeroValue e).run Tryz.prog w = .ok zv w) : (Instr.lookup T (.map (some b)) (.agg (cs y)) false).run Tryz.prog w = .ok ((f y).getD zv) w := by
  obtain ⟨D, hD, hs⟩ := h
  obtain ⟨v, ps, hrun, hv⟩ := hD.lookup law hT (hz w) (show R zv = some (.held zv, []) from rfl) (keyOf_id y)
  rw [hs.at_key] at hv
  unfold R at hv
  simp only [Option.some.injEq, Prod.mk.injEq] at hv
  rw [hrun, held_inj hv.1]
theorem run_look_ok {w : World} {b n : Nat} {f : Idn → Option Value} (h : ValIn w b n f) (y : Idn) (hz : ∀ w : World, (zeroValue e).run Tryz.prog w = .ok zv w) : (Instr.lookup T (.map (some b)) (.agg (cs y)) true).run Tryz.prog w = .ok (.tuple #[(f y).getD zv, .bool (f y).isSome]) w := by
  obtain ⟨D, hD, hs⟩ := h
  obtain ⟨v, ps, hrun, hv⟩ := hD.look_ok law hT (hz w) (show R zv = some (.held zv, []) from rfl) (keyOf_id y)
  rw [hs.at_key] at hv
  unfold R at hv
  simp only [Option.some.injEq, Prod.mk.injEq] at hv
  rw [hrun, held_inj hv.1, hs.1]
section
variable (w : World) {ops : Array Oper} {rest : List Oper} {o : Oper} {a : Act} {Q : Exit → Act → World → Prop}
/-- A value put in. -/
theorem wpList_put (hg : o.guard = none) (m x v : Operand) (hop : o.op = Op.mapUpdate T m x v) (b n : Nat) (f : Idn → Option Value) (hm : a.eval m = .map (some b)) (h : ValIn w b n f) (hn : n < 3000000000000)
    (y : Idn) (hx : a.eval x = .agg (cs y)) (u : Value) (hv : a.eval v = u) (hK : ∀ w', ValIn w' b (n + 1) (upd f y u) → w.grownBy w' (some b) → wpList Tryz.prog ops Q rest (a.put o.dst undef) w') : wpList Tryz.prog ops Q (o :: rest) a w := by
  obtain ⟨D, hD, hs⟩ := h
  exact wpList_mapUpdate_own w hg m x v T hop 56 e law hT _ b n D hm hD (by unfold maxLen; omega) _ _ (key y) hx hv (keyOf_id y) (.held u) [] rfl
    (fun w' h1 h2 => hK w' ⟨_, h1, put_D hD.isMap hs y u⟩ h2)
/-- A value looked up. -/
theorem wpList_find (hz : ∀ w : World, (zeroValue e).run Tryz.prog w = .ok zv w) (hg : o.guard = none) (m x : Operand) (hop : o.op = Op.lookup T m x false) (b n : Nat) (f : Idn → Option Value) (hm : a.eval m = .map (some b)) (h : ValIn w b n f)
    (y : Idn) (hx : a.eval x = .agg (cs y)) (u : Value) (hu : (f y).getD zv = u) (hK : wpList Tryz.prog ops Q rest (a.put o.dst u) w) : wpList Tryz.prog ops Q (o :: rest) a w := by
  refine wpList_plain hg fun K' hK' => ?_
  have hrun := run_look hT h y hz
  rw [hu] at hrun
  unfold Oper.wp
  simp [execOp, hop, hm, hx, hrun, Result.andThen]
  exact hK' _ _ hK
/-- .. and whether it is there. -/
theorem wpList_find_ok (hz : ∀ w : World, (zeroValue e).run Tryz.prog w = .ok zv w) (hg : o.guard = none) (m x : Operand) (hop : o.op = Op.lookup T m x true) (b n : Nat) (f : Idn → Option Value) (hm : a.eval m = .map (some b)) (h : ValIn w b n f)
    (y : Idn) (hx : a.eval x = .agg (cs y)) (u : Value) (hu : (f y).getD zv = u) (is : Bool) (hi : (f y).isSome = is) (hK : wpList Tryz.prog ops Q rest (a.put o.dst (.tuple #[u, .bool is])) w) : wpList Tryz.prog ops Q (o :: rest) a w := by
  refine wpList_plain hg fun K' hK' => ?_
  have hrun := run_look_ok hT h y hz
  rw [hu, hi] at hrun
  unfold Oper.wp
  simp [execOp, hop, hm, hx, hrun, Result.andThen]
  exact hK' _ _ hK
end
end
end Go.Proofs.YtgmdhaepiclkcaaGreatDoor.MapV
namespace Go.Proofs.YtgmdhaepiclkcaaGreatDoor.DgY
set_option maxRecDepth 100000
open Go Go.Sort Go.RowKit Byt IdM IdW OpsM OpsW CmM StW CmW CmX CmY DgM DgW DgX

/-- A clock's cells; a view's. -/
def ckL (s : Int → Int) : List Value := [.int .i64 (s 0), .int .i64 (s 1), .int .i64 (s 2), .int .i64 (s 3), .int .i64 (s 4), .int .i64 (s 5), .int .i64 (s 6), .int .i64 (s 7)]
def CK : Cel.Cel (Int → Int) where
  T := 109
  k := 8
  bytes := 64
  d := _
  enc := ckL
  zero := fun _ => 0
  len _ := rfl
  one c v hv := by
    simp only [ckL, List.mem_cons, List.not_mem_nil, or_false] at hv
    rcases hv with rfl | rfl | rfl | rfl | rfl | rfl | rfl | rfl <;> rfl
  pos := by omega
  info := by kernel_rfl
  under := Tryz.underlying109
  row := rfl
def VE : Cel.Cel (Com × (Int → Int)) where
  T := 112
  k := 11
  bytes := 88
  d := _
  enc v := [.int .i64 v.1.node, .int .i64 v.1.seq, .int .i64 v.1.gen] ++ ckL v.2
  zero := (noK, fun _ => 0)
  len _ := rfl
  one c v hv := by
    simp only [ckL, List.cons_append, List.nil_append, List.mem_cons, List.not_mem_nil, or_false] at hv
    rcases hv with rfl | rfl | rfl | rfl | rfl | rfl | rfl | rfl | rfl | rfl | rfl <;> rfl
  pos := by omega
  info := by kernel_rfl
  under := Tryz.underlying112
  row := rfl
def ck (s : Int → Int) : Array Value := (ckL s).toArray
def vc (v : Com × (Int → Int)) : Array Value := (VE.enc v).toArray
theorem eight {n : Int} (h : 0 ≤ n ∧ n < 8) : n = 0 ∨ n = 1 ∨ n = 2 ∨ n = 3 ∨ n = 4 ∨ n = 5 ∨ n = 6 ∨ n = 7 := by omega
theorem ck_at (s : Int → Int) {n : Int} (h : 0 ≤ n ∧ n < 8) : (ckL s)[n.toNat]? = some (.int .i64 (s n)) := by
  rcases eight h with rfl | rfl | rfl | rfl | rfl | rfl | rfl | rfl <;> rfl
theorem ck_set (s : Int → Int) {n : Int} (h : 0 ≤ n ∧ n < 8) (v : Int) : (ckL s).set n.toNat (.int .i64 v) = ckL fun m => if m = n then v else s m := by
  rcases eight h with rfl | rfl | rfl | rfl | rfl | rfl | rfl | rfl <;> rfl
theorem ck_congr {s t : Int → Int} (h : ∀ n, 0 ≤ n → n < 8 → s n = t n) : ckL s = ckL t := by
  unfold ckL
  rw [h 0 (by omega) (by omega), h 1 (by omega) (by omega), h 2 (by omega) (by omega), h 3 (by omega) (by omega), h 4 (by omega) (by omega), h 5 (by omega) (by omega), h 6 (by omega) (by omega), h 7 (by omega) (by omega)]
theorem index_ck (s : Int → Int) {n : Int} (h : 0 ≤ n ∧ n < 8) (w : World) : (Instr.index 109 (.agg (ck s)) (.int .i64 n)).run Tryz.prog w = .ok (.int .i64 (s n)) w := by
  rcases eight h with rfl | rfl | rfl | rfl | rfl | rfl | rfl | rfl
  all_goals kernel_rfl
theorem results_ck {fn : Func} {p : Tmp} (h : fn.results = #[.cell p 109]) (tmps : Array Value) (w : World) (g : Nat) (s : Int → Int)
    (hp : tmps.getD p undef = .pointer (some ⟨g, 0, none⟩)) (hg : Cel.Box CK w g s) : (results fn tmps).run Tryz.prog w = .ok (.agg (ck s)) w := by
  obtain ⟨t, ht⟩ := hg
  have hp' : tmps[p]?.getD undef = .pointer (some ⟨g, 0, none⟩) := by simpa using hp
  have hl := run_loadVar_row w g t 109 (CK.enc s).toArray (0, 0) _ ht CK.under CK.row (CK.size' s)
  simp [results, h, hp', asAddr, hl]
  rfl
theorem results_ckb {fn : Func} {p q : Tmp} (h : fn.results = #[.cell p 109, .tmp q]) (tmps : Array Value) (w : World) (g : Nat) (s : Int → Int) (x : Value)
    (hp : tmps.getD p undef = .pointer (some ⟨g, 0, none⟩)) (hq : tmps.getD q undef = x) (hg : Cel.Box CK w g s) : (results fn tmps).run Tryz.prog w = .ok (.tuple #[.agg (ck s), x]) w := by
  obtain ⟨t, ht⟩ := hg
  have hp' : tmps[p]?.getD undef = .pointer (some ⟨g, 0, none⟩) := by simpa using hp
  have hq' : tmps[q]?.getD undef = x := by simpa using hq
  have hl := run_loadVar_row w g t 109 (CK.enc s).toArray (0, 0) _ ht CK.under CK.row (CK.size' s)
  simp [results, h, hp', hq', asAddr, hl]
  rfl
theorem box_congr {w : World} {g : Nat} {s t : Int → Int} (h : Cel.Box CK w g s) (e : ∀ n, 0 ≤ n → n < 8 → s n = t n) : Cel.Box CK w g t := by
  obtain ⟨ty, ht⟩ := h
  exact ⟨ty, by rw [ht]; congr 2; exact congrArg List.toArray (ck_congr e)⟩
section
variable {ops : Array Oper} {rest : List Oper} {o : Oper} {a : Act} {w : World} {Q : Exit → Act → World → Prop}
theorem load_ck (hgd : o.guard = none) (x : Operand) (ho : o.op = .load 109 x) (g : Nat) (hx : a.eval x = .pointer (some ⟨g, 0, none⟩)) (s : Int → Int) (hb : Cel.Box CK w g s) (h : wpList Tryz.prog ops Q rest (a.put o.dst (.agg (ck s))) w) : wpList Tryz.prog ops Q (o :: rest) a w :=
  Cel.wpList_load_box CK hgd x ho g hx s hb h
/-- One number of a clock stored. -/
theorem store_ck (hgd : o.guard = none) (hd : o.dst = none) (x y : Operand) (ho : o.op = .store 3 x y) (g : Nat) (n : Int) (hn : 0 ≤ n ∧ n < 8) (hx : a.eval x = .pointer (some ⟨g, n.toNat, none⟩)) (old : Int → Int) (hc : Cel.Box CK w g old) (v : Int) (hy : a.eval y = .int .i64 v)
    (h : ∀ w', Cel.Box CK w' g (fun m => if m = n then v else old m) → (∀ B, B ≤ g → Below B w w') → w.grownBy w' (some g) → w'.heap.size = w.heap.size → wpList Tryz.prog ops Q rest a w') : wpList Tryz.prog ops Q (o :: rest) a w :=
  Cel.wpList_store_field CK hgd hd 3 x y ho (by kernel_rfl) g n.toNat hx (by show n.toNat < 8; omega) old hc (fun m => if m = n then v else old m) (.int .i64 v) hy rfl rfl (ck_set old hn v) h
end
/-- Does a clock have an event? -/
theorem has_ret (s : Int → Int) (e : Ev) (h : 0 ≤ e.node ∧ e.node < 8) (w : World) :
    Calls Tryz.prog 69 #[.agg (ck s), .agg (ec e)] w fun x w' => x = .returned (.bool (decide (e.seq ≤ s e.node))) ∧ Below w.heap.size w w' := by
  have z1 : (w.alloc (.cells (ck s) 109)).heap.size = w.heap.size + 1 := by simp
  have B1 : Cel.Box CK ((w.alloc (.cells (ck s) 109)).alloc (.cells (ec e) 43)) w.heap.size s := (Cel.Box.new (E := CK) w s _).alloc _
  have B2 : Cel.Box EE ((w.alloc (.cells (ck s) 109)).alloc (.cells (ec e) 43)) (w.heap.size + 1) e := by
    rw [← z1]
    exact Cel.Box.new (E := EE) _ e _
  have kb : Below w.heap.size w ((w.alloc (.cells (ck s) 109)).alloc (.cells (ec e) 43)) := ((Below.refl _ _).alloc (Nat.le_refl _) _).alloc (by simp) _
  obtain ⟨n, q⟩ := e
  have h0 : 0 ≤ n := h.1
  have h8 : n < 8 := h.2
  have c1 := B1.cell (ck_at s h)
  obtain ⟨c2, c3⟩ := ev_cells B2
  obtain ⟨x, hx⟩ : ∃ x, s n = x := ⟨_, rfl⟩
  simp only at c1 c2 c3
  rw [hx] at c1
  have HX := aside hx
  clear z1 B1 B2 hx h
  go_enter Tryz.func69, Tryz.ntmps69
  go_wp2
  go_quiet (fail)
  go_wp2
  go_ret
  exact ⟨by rw [HX.out]; rfl, below_drew kb _⟩
theorem max_int (x y : Int) (ts : Array TypeId) (t : TypeId) (w : World) : (Builtin.max_ ts t #[.int .i64 x, .int .i64 y]).run Tryz.prog w = .ok (.int .i64 (max x y)) w := by
  rw [run_max_int2]
  congr 2
  by_cases h : y > x
  · rw [if_pos h]; omega
  · rw [if_neg h]; omega
/-- Two clocks together. -/
theorem and_ret (s t : Int → Int) (w : World) :
    Calls Tryz.prog 68 #[.agg (ck s), .agg (ck t)] w fun x w' => x = .returned (.agg (ck fun n => max (s n) (t n))) ∧ Below w.heap.size w w' := by
  have z1 : (w.alloc (.cells (ck s) 109)).heap.size = w.heap.size + 1 := by simp
  have z2 : ((w.alloc (.cells (ck s) 109)).alloc (.cells (ck t) 109)).heap.size = w.heap.size + 1 + 1 := by simp
  have B1 : Cel.Box CK (((w.alloc (.cells (ck s) 109)).alloc (.cells (ck t) 109)).alloc (.cells (ck fun _ => 0) 109)) w.heap.size s := ((Cel.Box.new (E := CK) w s _).alloc _).alloc _
  have B2 : Cel.Box CK (((w.alloc (.cells (ck s) 109)).alloc (.cells (ck t) 109)).alloc (.cells (ck fun _ => 0) 109)) (w.heap.size + 1) t := by
    rw [← z1]
    exact (Cel.Box.new (E := CK) _ t _).alloc _
  have B3 : Cel.Box CK (((w.alloc (.cells (ck s) 109)).alloc (.cells (ck t) 109)).alloc (.cells (ck fun _ => 0) 109)) (w.heap.size + 1 + 1) (fun _ => 0) := by
    rw [← z2]
    exact Cel.Box.new (E := CK) _ (fun _ => 0) _
  have kb : Below w.heap.size w (((w.alloc (.cells (ck s) 109)).alloc (.cells (ck t) 109)).alloc (.cells (ck fun _ => 0) 109)) := (((Below.refl _ _).alloc (Nat.le_refl _) _).alloc (by simp) _).alloc (by simp; omega) _
  clear z1 z2
  go_enter Tryz.func68, Tryz.ntmps68
  go_wp2_with (first | go_skip | (refine load_ck rfl _ rfl _ rfl t B2 ?_))
  go_loopw [8] (fun i wr => ∃ k : Nat, k ≤ 8 ∧ i = .int .i64 k ∧ Cel.Box CK wr w.heap.size (fun n => if n < k then max (s n) (t n) else s n) ∧ Cel.Box CK wr (w.heap.size + 1 + 1) (fun _ => 0) ∧ Below w.heap.size w wr) (fun i _ => 8 - (intOf i).toNat)
  case atStart => exact ⟨0, Nat.zero_le _, rfl, box_congr B1 fun n h0 _ => (if_neg (by omega)).symm, B3, kb⟩
  case round =>
    clear B1 B2 B3 kb
    obtain ⟨k, hk, rfl, B1, B3, kb⟩ := hrel
    by_cases hlt : k < 8
    · have h8 : 0 ≤ (k : Int) ∧ (k : Int) < 8 := by omega
      have hi := index_ck t h8
      have hc := ck_at (fun n : Int => if n < k then max (s n) (t n) else s n) h8
      obtain ⟨x, hx⟩ : ∃ x, s k = x := ⟨_, rfl⟩
      obtain ⟨y, hy⟩ : ∃ y, t k = y := ⟨_, rfl⟩
      rw [if_neg (Int.lt_irrefl _), hx] at hc
      have c1 := B1.cell hc
      clear hc
      rw [hy] at hi
      have HX := aside hx
      have HY := aside hy
      have p0 : (k : Int) < 8 := h8.2
      have o0 : 0 ≤ (k : Int) := h8.1
      have m0 : ((k : Int)).toNat = k := by omega
      rw [m0] at c1
      have hm := max_int x y
      obtain ⟨z, hz⟩ : ∃ z, max x y = z := ⟨_, rfl⟩
      rw [hz] at hm
      have HZ := aside hz
      clear hx hy hz
      go_wp2_with (first | go_skip | (refine store_ck rfl rfl _ _ rfl w.heap.size k h8 rfl _ B1 z rfl ?_; intro w1 B2 f2 g2 s2))
      go_roundw
      case rel =>
        refine ⟨k + 1, by omega, by go_num, box_congr B2 fun n h0 h1 => ?_, B3.kept g2 (by simp; omega), kb.trans (f2 _ (Nat.le_refl _))⟩
        have e1 := HX.out
        have e2 := HY.out
        have e3 := HZ.out
        by_cases e : n = k
        · rw [if_pos e, if_pos (by omega), e, e1, e2, e3]
        · rw [if_neg e]
          by_cases e4 : n < k
          · rw [if_pos e4, if_pos (by omega)]
          · rw [if_neg e4, if_neg (by omega)]
      case measure => simp [intOf]; omega
    · obtain rfl : k = 8 := by omega
      have B1' : Cel.Box CK wr w.heap.size (fun n => max (s n) (t n)) := box_congr B1 fun n _ h1 => if_pos (by omega)
      clear B1
      go_wp2_with (first | go_skip | (refine load_ck rfl _ rfl _ rfl _ B1' ?_) | (refine Cel.wpList_store_box CK rfl _ _ rfl (w.heap.size + 1 + 1) rfl _ B3 (fun n => max (s n) (t n)) rfl ?_; intro w1 B5 f5 g5 s5))
      exact bodyPost_ret (v := .agg (ck fun n => max (s n) (t n))) (results_ck Tryz.results68 _ _ (w.heap.size + 1 + 1) _ rfl B5) rfl ⟨rfl, kb.trans (f5 _ (by omega))⟩
end Go.Proofs.YtgmdhaepiclkcaaGreatDoor.DgY
