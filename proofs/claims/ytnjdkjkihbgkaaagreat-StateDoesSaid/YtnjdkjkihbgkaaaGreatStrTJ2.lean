/- The keys of a map of numbers, sorted: what rising returns: a contract. | The keys of a map of numbers, sorted: a contract. -/
import Derived.Test.YtnjdkjkihbgkaaaGreatStrKJ3
import Derived.Shelf.SortM.Plain
import Derived.Shelf.SortM.SortNone
import Derived.Sort.OwnSorted
import Derived.Sort.Walk0
import Derived.Maps.AppendAt
namespace Go.Proofs.YtnjdkjkihbgkaaaGreat.StrT
set_option maxRecDepth 100000
open Go Go.RowKit Go.Sort Go.Shelf Go.Proofs Byt Rise StrK

/-- Texts as cells. -/
def ts (l : List ByteArray) : List Value := l.map Value.string
theorem ts_len (l : List ByteArray) : (ts l).length = l.length := by simp [ts]
theorem ts_append (a b : List ByteArray) : ts (a ++ b) = ts a ++ ts b := by simp [ts]
def raw (l : List ByteArray) : List (List UInt8) := l.map fun x => x.data.toList
def cook (l : List (List UInt8)) : List ByteArray := l.map fun x => ⟨x.toArray⟩
theorem cook_raw (l : List ByteArray) : cook (raw l) = l := by
  unfold cook raw
  rw [List.map_map]
  have : ((fun x : List UInt8 => (⟨x.toArray⟩ : ByteArray)) ∘ fun x : ByteArray => x.data.toList) = id := by
    funext x
    cases x
    simp
  rw [this, List.map_id]
theorem enc_cook (l : List (List UInt8)) : l.map encStr = ts (cook l) := by
  unfold ts cook
  rw [List.map_map]
  rfl
theorem enc_raw (l : List ByteArray) : (raw l).map encStr = ts l := by rw [enc_cook, cook_raw]
theorem ltS_iff (a b : ByteArray) : ltS a b = decide (a.data.toList < b.data.toList) := by
  unfold ltS
  rw [bytesLess_eq, ByteArray.toList_eq, ByteArray.toList_eq]
/-- What a sort makes of texts of which none is there twice. -/
theorem sorted_of {l : List ByteArray} (hn : l.Nodup) : Rises id ltS (cook ((raw l).mergeSort fun x y => decide (x ≤ y))) ∧ (∀ x, x ∈ cook ((raw l).mergeSort fun x y => decide (x ≤ y)) ↔ x ∈ l) ∧ (cook ((raw l).mergeSort fun x y => decide (x ≤ y))).length = l.length := by
  have hp := List.mergeSort_perm (raw l) fun x y => decide (x ≤ y)
  have hs : ((raw l).mergeSort fun x y => decide (x ≤ y)).Pairwise fun x y => decide (x ≤ y) = true :=
    List.pairwise_mergeSort (fun a b c h1 h2 => by simp only [decide_eq_true_eq] at *; exact List.le_trans h1 h2) (fun a b => by simp only [Bool.or_eq_true, decide_eq_true_eq]; exact List.le_total a b) _
  have hc : (cook ((raw l).mergeSort fun x y => decide (x ≤ y))).Perm l := by
    have := hp.map (fun x : List UInt8 => (⟨x.toArray⟩ : ByteArray))
    have e : (raw l).map (fun x : List UInt8 => (⟨x.toArray⟩ : ByteArray)) = l := cook_raw l
    rwa [e] at this
  refine ⟨?_, fun x => hc.mem_iff, hc.length_eq⟩
  have hnd := hc.nodup_iff.2 hn
  unfold Rises
  have h1 : (cook ((raw l).mergeSort fun x y => decide (x ≤ y))).Pairwise fun x y => x.data.toList ≤ y.data.toList := by
    unfold cook
    rw [List.pairwise_map]
    exact hs.imp (fun h => by simpa using h)
  refine (h1.and (List.nodup_iff_pairwise_ne.1 hnd)).imp ?_
  rintro x y ⟨h2, h3⟩
  show ltS x y = true
  rw [ltS_iff, decide_eq_true_eq]
  rcases Classical.em (x.data.toList < y.data.toList) with h | h
  · exact h
  · refine absurd ?_ h3
    have e := List.le_antisymm h2 (List.not_lt.1 h)
    cases x; cases y
    congr 1
    exact Array.ext' e

theorem zero_str : (Tryz.prog.info? 9).map (fun i => (i.zero, i.size, i.bytes)) = some (some (.string ⟨#[]⟩), 1, 16) := by kernel_rfl
/-- A slice that was just made of one text, as news. -/
theorem new1 (w : World) (x : ByteArray) (t : TypeId) : ∀ j u, (ts [x])[j]? = some u → (w.alloc (.cells #[.string x] t)).cell? ((⟨w.heap.size, 0, none⟩ : Addr).add j) = some u := by
  intro j u hu
  cases j with
  | zero =>
    simp only [ts, List.map_cons, List.map_nil, List.getElem?_cons_zero, Option.some.injEq] at hu
    subst hu
    rw [Addr.add_lit, Nat.zero_add, cell_of_row _ _ 0 _ t (0, 0) (heap_alloc_new w _)]
    rfl
  | succ j => simp [ts] at hu
/-- 'append' of one text. -/
theorem wpList_append_str {w : World} {ops : Array Oper} {rest : List Oper} {o : Oper} {a : Act} {Q : Exit → Act → World → Prop} (hgd : o.guard = none) (s x : Operand)
    (ho : o.op = .call { callee := .builtin .append, args := #[s, x], argTypes := #[46, 46] })
    (base : Nat) (v : Value) (n : Nat) (xs : List ByteArray) (hs : a.eval s = v) (hown : w.ownsRow base 9 1 v n (ts xs))
    (ad : Addr) (y : ByteArray) (hx : a.eval x = .slice (some ad) 1 1) (hr : ∀ j u, (ts [y])[j]? = some u → w.cell? (ad.add j) = some u)
    (h63 : n ≤ 100000000) (hbase : base ≤ w.heap.size)
    (h : ∀ v' w', w'.ownsRow base 9 1 v' (n + 1) (ts (xs ++ [y])) → w.grownBy w' v.ownBlock → wpList Tryz.prog ops Q rest (a.put o.dst v') w') : wpList Tryz.prog ops Q (o :: rest) a w := by
  obtain ⟨i, hi, z0, z1, z2⟩ := info_parts zero_str
  exact wpList_append_own w hgd s x 46 ho base 9 i (.string ⟨#[]⟩) 1 16 Tryz.underlying46 hi z0 z1 z2 rfl (by decide) v n (ts xs) hs hown ad 1 1 (ts [y]) hx (by simp [ts]) hr (by intro u hu; simp [ts] at hu; subst hu; rfl) (by unfold maxLen; omega) (by omega) hbase
    (fun v' w' a1 a2 _ => h v' w' (by rw [ts_append]; exact a1) a2)
/-- The sort of a new row of texts. -/
theorem sort_own {w : World} {base : Nat} {v : Value} {l : List ByteArray} (h : w.ownsRow base 9 1 v l.length (ts l)) (hn : l.Nodup) (hl : l.length ≤ 100000000) :
    Calls Tryz.prog 108 #[v] w fun e w' =>
      e = .returned (.tuple #[]) ∧ ∃ l', w'.ownsRow base 9 1 v l'.length (ts l') ∧ Rises id ltS l' ∧ (∀ x, x ∈ l' ↔ x ∈ l) ∧ l'.length = l.length ∧ w.grownBy w' v.ownBlock := by
  rcases h.2 with ⟨rfl, e⟩ | ⟨g, cap, cur, rfl, hbg, hg, h1, h2, h3, h4⟩
  · have e := List.eq_nil_of_length_eq_zero e
    subst e
    refine (AnyM.slices_Sort_string_none Tryz.sortStrs none 0 w).mono ?_
    rintro e w' ⟨rfl, rfl⟩
    exact ⟨rfl, [], h, List.Pairwise.nil, fun x => Iff.rfl, rfl, grown_of_below (Below.refl _ _) _⟩
  · have hr : (raw l).length = l.length := by simp [raw]
    have hH : Holds encStr w g 0 (raw l).toArray := holds_of_block hg (by rw [hr, enc_raw]; simpa using h4)
    have q := AnyM.slices_Sort_string Tryz.sortStrs g 0 cap (raw l) w hH (Array.getElem?_eq_some_iff.1 hg).1 (by rw [hr]; omega)
    rw [hr] at q
    refine q.mono ?_
    rintro e w' ⟨rfl, n, os, rfl⟩
    obtain ⟨s1, s2, s3⟩ := sorted_of hn
    refine ⟨rfl, _, ?_, s1, s2, s3, grownBy_sorted _⟩
    have := ownsRow_sorted (n := n) (os := os) (ss := raw l) (ts := (raw l).mergeSort fun x y => decide (x ≤ y)) (by simp) hbg hg (by rw [hr]; exact h1) h2 h3
    rw [hr, enc_cook] at this
    rw [s3]
    exact this
end Go.Proofs.YtnjdkjkihbgkaaaGreat.StrT
namespace Go.Proofs.YtnjdkjkihbgkaaaGreat.StrR
set_option maxRecDepth 100000
open Go Go.RowKit Go.Sort Go.Shelf Go.Proofs Byt Rise StrK StrT

abbrev Ranges (w : World) (b r n : Nat) (D : DataW Unit) (left : Lit → Bool) (cnt : Nat) : Prop := w.ranges Tryz.prog 9 (plainElem Tryz.prog 3) b r n D left cnt
/-- A row of cells lies in another block than a map. -/
theorem apart_map {w : World} {b n : Nat} {D : DataW Unit} {base m k : Nat} {T : TypeId} {v : Value} {xs : List Value} (h : w.ownsMap Tryz.prog 9 (plainElem Tryz.prog 3) b n D) (hr : w.ownsRow base T k v m xs) : some b ≠ v.ownBlock := by
  obtain ⟨es, clock, hb, _⟩ := h
  rcases hr.2 with ⟨rfl, _⟩ | ⟨g, cap, cur, rfl, _, hg, _⟩
  · simp [Value.ownBlock]
  · intro e
    simp only [Value.ownBlock, Option.some.injEq] at e
    subst e
    rw [hb] at hg
    cases hg
/-- One more has come. -/
theorem step_mem {K acc : List ByteArray} {left : Lit → Bool} {x : ByteArray} (h : ∀ z, z ∈ acc ↔ z ∈ K ∧ left (key z) = false) (hx : x ∈ K) : ∀ z, z ∈ acc ++ [x] ↔ z ∈ K ∧ (left (key z) && !(key z).sameKey (key x)) = false := by
  intro z
  rw [List.mem_append, h, List.mem_singleton]
  by_cases hz : z = x
  · subst hz
    simp [same_self, hx]
  · have : (key z).sameKey (key x) = false := Maps.sameKey_ne (fun e => hz (key_inj e))
    simp [this, hz]
/-- The next key of a map. -/
theorem wpList_next_key (w : World) {ops : Array Oper} {rest : List Oper} {o : Oper} {a : Act} {Q : Exit → Act → World → Prop} (hg : o.guard = none) (it : Operand) (hop : o.op = Op.next it false) (b r n : Nat) (D : DataW Unit) (left : Lit → Bool) (cnt : Nat)
    (hit : a.eval it = .pointer (some ⟨r, 0, none⟩)) (h : Ranges w b r n D left cnt)
    (hDone : (∀ kl, left kl = false) → wpList Tryz.prog ops Q rest (a.put o.dst (.tuple #[.bool false])) w)
    (hMore : ∀ (x : ByteArray) (c : Int) (w' : World) (cnt' : Nat), x.size ≤ maxLen → Maps.has D (key x) = true → left (key x) = true → Ranges w' b r n D (fun z => left z && !z.sameKey (key x)) cnt' → cnt' < cnt →
      w.grownBy w' (some r) → (Instr.entry (.pointer (some ⟨r, 0, none⟩))).run Tryz.prog w' = .ok (.tuple #[.string x, .int .i64 c]) w' → wpList Tryz.prog ops Q rest (a.put o.dst (.tuple #[.bool true, .string x, .int .i64 c])) w') :
    wpList Tryz.prog ops Q (o :: rest) a w := by
  refine wpList_next_ranges w hg it hop 9 law (plainElem Tryz.prog 3) Value.string (Value.int .i64) (fun _ _ hk => keyOf_inv hk) (fun _ _ hv => by obtain ⟨c, rfl, _⟩ := plainElem_int_inv Tryz.underlying3 hv; exact ⟨c, rfl⟩) b r n D left cnt hit h (fun _ hl => hDone hl) ?_
  intro x c kl y w' cnt' hkey hlx _ hat hrg hlt hgr _ hen
  obtain ⟨rfl, hs⟩ := keyOf_key hkey
  exact hMore x c w' cnt' hs (Maps.has_true_of_atKey hat) hlx hrg hlt hgr hen

set_option maxHeartbeats 1000000 in
theorem rising_ret (b n : Nat) (K : List ByteArray) (f : ByteArray → Int) (w : World) (h : NumIn w b n K f) (hn : n ≤ 1000000) :
    Calls Tryz.prog 102 #[.map (some b)] w fun e w' => ∃ v ks, e = .returned v ∧ w'.ownsRow w.heap.size 9 1 v ks.length (ts ks) ∧ Rises id ltS ks ∧ (∀ x, x ∈ ks ↔ x ∈ K) ∧ (∀ x, x ∈ ks → x.size ≤ maxLen) ∧ ks.length ≤ n ∧ Below w.heap.size w w' := by
  obtain ⟨D, hown, hD⟩ := h
  have hsz := hown.size_le
  obtain ⟨i, hi, z0, z1, z2⟩ := info_parts zero_str
  obtain ⟨w1, hmk, own1, g1⟩ := run_make_own (P := Tryz.prog) w w.heap.size 46 9 i (.string ⟨#[]⟩) 1 Tryz.underlying46 hi z0 z1 .i64 .i64 (Maps.size D) (by rw [z2]; omega) (by unfold maxLen; omega) (Nat.le_refl _)
  have hown1 := hown.kept g1 (by simp)
  have kb1 : Below w.heap.size w w1 := below_grown (Below.refl _ _) (Nat.le_refl _) g1 (fun k hk => by cases hk)
  clear hi z0 z1 z2
  go_enter Tryz.func102, Tryz.ntmps102
  go_wp2_with (first
    | (at_len; refine wpList_len_own _ rfl _ 97 rfl 9 3 Tryz.underlying97 _ b n D rfl hown ?_)
    | (at_range; refine wpList_range_own _ rfl _ 97 rfl 9 3 law Tryz.underlying97 _ b n _ rfl hown1 ?_; intro w0 hrg0 hg0 hs0))
  go_frame
  have own0 : w0.ownsRow w.heap.size 9 1 (.slice (some ⟨w.heap.size, 0, none⟩) 0 (Maps.size D)) 0 [] := own1.kept hg0 (by simp [Value.ownBlock])
  have kb0 : Below w.heap.size w w0 := below_grown kb1 kb1.size hg0 (fun k hk => by cases hk)
  clear own1 hown1 g1 hmk
  go_loopw [3] (fun v wr => ∃ (left : Lit → Bool) (cnt : Nat) (acc : List ByteArray), Ranges wr b w1.heap.size n D left cnt ∧ wr.ownsRow w.heap.size 9 1 v acc.length (ts acc) ∧ acc.Nodup ∧ Hid (∀ x, x ∈ acc ↔ x ∈ K ∧ left (key x) = false) ∧ Hid (∀ x, x ∈ acc → x.size ≤ maxLen) ∧ acc.length + cnt ≤ n ∧ Below w.heap.size w wr)
    (fun _ wr => wr.rangeLeft b w1.heap.size)
  case atStart =>
    refine ⟨_, _, [], hrg0, own0, List.nodup_nil, aside (fun x => ?_), aside (fun x hx => by simp at hx), by simpa using hsz, kb0⟩
    rw [← hD.1 x]
    cases Maps.has D (key x) <;> simp
  case round =>
    clear hrg0 own0 kb0 hg0 hs0
    obtain ⟨left, cnt, acc, hrg, hrow, hnd, hmem, hbig, hle, kb⟩ := hrel
    go_wp2_with (first
      | (at_next; refine wpList_next_key _ rfl _ rfl b w1.heap.size n _ _ _ rfl hrg ?_ ?_))
    · intro hl0
      have hmem' : Hid (∀ x, x ∈ acc ↔ x ∈ K) := aside (fun x => by rw [hmem.out x, hl0 (key x)]; simp)
      have hso := sort_own hrow hnd (by omega)
      go_wp2_with fail
      refine hso.mono ?_
      rintro e w3 ⟨rfl, ks, h3, s1, s2, s3, g3⟩
      have HS2 := aside s2
      have HS3 := aside s3
      clear s2 s3 hso
      go_wp2_with fail
      go_ret
      exact ⟨_, ks, rfl, h3, s1, fun x => (HS2.out x).trans (hmem'.out x), fun x hx => hbig.out x ((HS2.out x).1 hx), by rw [HS3.out]; omega, below_grown kb kb.size g3 (fun k hk => (hrow.lt k hk).1)⟩
    · intro x c w2 cnt1 hxs hhas hlx hrg1 hlt hg1 hen
      have hrow1 := hrow.kept hg1 (.inr (fun e => row_ne_iter hrow hrg e.symm))
      have hxK : x ∈ K := (hD.1 x).1 hhas
      have kb2 : Below w.heap.size w w2 := below_grown kb kb.size hg1 (fun k hk => by cases hk; exact kb1.size)
      go_wp2_with (first | (refine wpList_append_str rfl _ _ rfl w.heap.size _ _ acc rfl (hrow1.alloc _) _ x rfl (new1 _ x _) (by omega) (by have := kb2.size; simp; omega) ?_; intro v' w3 hrow3 hg3))
      rename_i u3
      have hgA : w2.grownBy w3 u3.ownBlock := (World.grownBy_alloc w2 _ _).trans hg3
      have hrg3 := hrg1.kept hgA (apart_map hrg1.owns hrow1) (row_ne_iter hrow1 hrg1)
      go_roundw
      case rel =>
        refine ⟨_, cnt1, acc ++ [x], hrg3, by simpa using hrow3, ?_, aside (step_mem hmem.out hxK), aside (fun z hz => ?_), by simp; omega, below_grown kb2 kb2.size hgA (fun k hk => (hrow.lt k hk).1)⟩
        · rw [List.nodup_append]
          refine ⟨hnd, by simp, fun a ha b hb => ?_⟩
          rintro rfl
          simp at hb
          subst hb
          rw [(hmem.out a).1 ha |>.2] at hlx
          cases hlx
        · rcases List.mem_append.1 hz with h | h
          · exact hbig.out z h
          · simp at h
            rw [h]
            exact hxs
      case measure => rw [hrg3.left_eq, hrg.left_eq]; exact hlt
end Go.Proofs.YtnjdkjkihbgkaaaGreat.StrR
