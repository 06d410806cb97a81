/- The keys of a map of numbers, sorted: what rising returns: a contract. -/
import Derived.Test.YtommbfkndcaghaaStrK
import Derived.Test.YtommbfkndcaghaaLaySortS
import Derived.Shelf.SortM.Plain
import Derived.Shelf.SortM.SortNone
import Derived.Sort.OwnSorted
import Derived.Sort.Walk0
namespace Go.Proofs.Ytommbfkndcaghaa.StrT
open Go Go.RowKit Go.Sort Go.Shelf Go.Proofs Byt Rise StrK

/-- Texts as cells. -/
def ts (l : List ByteArray) : List Value := l.map Value.string
theorem ts_len (l : List ByteArray) : (ts l).length = l.length := by simp [ts]
theorem ts_append (a b : List ByteArray) : ts (a ++ b) = ts a ++ ts b := by simp [ts]
def raw (l : List ByteArray) : List (List UInt8) := l.map fun x => x.data.toList
def cook (l : List (List UInt8)) : List ByteArray := l.map fun x => ⟨x.toArray⟩
theorem cook_raw (l : List ByteArray) : cook (raw l) = l := by
  unfold cook raw
  rw [List.map_map]
  have : ((fun x : List UInt8 => (⟨x.toArray⟩ : ByteArray)) ∘ fun x : ByteArray => x.data.toList) = id := by
    funext x
    cases x
    simp
  rw [this, List.map_id]
theorem enc_cook (l : List (List UInt8)) : l.map encStr = ts (cook l) := by
  unfold ts cook
  rw [List.map_map]
  rfl
theorem enc_raw (l : List ByteArray) : (raw l).map encStr = ts l := by rw [enc_cook, cook_raw]
theorem ltS_iff (a b : ByteArray) : ltS a b = decide (a.data.toList < b.data.toList) := by
  unfold ltS
  rw [bytesLess_eq, ByteArray.toList_eq, ByteArray.toList_eq]
/-- What a sort makes of texts of which none is there twice. -/
theorem sorted_of {l : List ByteArray} (hn : l.Nodup) : Rises id ltS (cook ((raw l).mergeSort fun x y => decide (x ≤ y))) ∧ (∀ x, x ∈ cook ((raw l).mergeSort fun x y => decide (x ≤ y)) ↔ x ∈ l) ∧ (cook ((raw l).mergeSort fun x y => decide (x ≤ y))).length = l.length := by
  have hp := List.mergeSort_perm (raw l) fun x y => decide (x ≤ y)
  have hs : ((raw l).mergeSort fun x y => decide (x ≤ y)).Pairwise fun x y => decide (x ≤ y) = true :=
    List.pairwise_mergeSort (fun a b c h1 h2 => by simp only [decide_eq_true_eq] at *; exact List.le_trans h1 h2) (fun a b => by simp only [Bool.or_eq_true, decide_eq_true_eq]; exact List.le_total a b) _
  have hc : (cook ((raw l).mergeSort fun x y => decide (x ≤ y))).Perm l := by
    have := hp.map (fun x : List UInt8 => (⟨x.toArray⟩ : ByteArray))
    have e : (raw l).map (fun x : List UInt8 => (⟨x.toArray⟩ : ByteArray)) = l := cook_raw l
    rwa [e] at this
  refine ⟨?_, fun x => hc.mem_iff, hc.length_eq⟩
  have hnd := hc.nodup_iff.2 hn
  unfold Rises
  have h1 : (cook ((raw l).mergeSort fun x y => decide (x ≤ y))).Pairwise fun x y => x.data.toList ≤ y.data.toList := by
    unfold cook
    rw [List.pairwise_map]
    exact hs.imp (fun h => by simpa using h)
  refine (h1.and (List.nodup_iff_pairwise_ne.1 hnd)).imp ?_
  rintro x y ⟨h2, h3⟩
  show ltS x y = true
  rw [ltS_iff, decide_eq_true_eq]
  rcases Classical.em (x.data.toList < y.data.toList) with h | h
  · exact h
  · refine absurd ?_ h3
    have e := List.le_antisymm h2 (List.not_lt.1 h)
    cases x; cases y
    congr 1
    exact Array.ext' e

theorem zero_str : (Try.prog.info? 9).map (fun i => (i.zero, i.size, i.bytes)) = some (some (.string ⟨#[]⟩), 1, 16) := by kernel_rfl
/-- A slice that was just made of one text, as news. -/
theorem new1 (w : World) (x : ByteArray) (t : TypeId) : ∀ j u, (ts [x])[j]? = some u → (w.alloc (.cells #[.string x] t)).cell? ((⟨w.heap.size, 0, none⟩ : Addr).add j) = some u := by
  intro j u hu
  cases j with
  | zero =>
    simp only [ts, List.map_cons, List.map_nil, List.getElem?_cons_zero, Option.some.injEq] at hu
    subst hu
    rw [Addr.add_lit, Nat.zero_add, cell_of_row _ _ 0 _ t (0, 0) (heap_alloc_new w _)]
    rfl
  | succ j => simp [ts] at hu
/-- 'append' of one text. -/
theorem wpList_append_str {w : World} {ops : Array Oper} {rest : List Oper} {o : Oper} {a : Act} {Q : Exit → Act → World → Prop} (hgd : o.guard = none) (s x : Operand)
    (ho : o.op = .call { callee := .builtin .append, args := #[s, x], argTypes := #[42, 42] })
    (base : Nat) (v : Value) (n : Nat) (xs : List ByteArray) (hs : a.eval s = v) (hown : w.ownsRow base 9 1 v n (ts xs))
    (ad : Addr) (y : ByteArray) (hx : a.eval x = .slice (some ad) 1 1) (hr : ∀ j u, (ts [y])[j]? = some u → w.cell? (ad.add j) = some u)
    (h63 : n ≤ 100000000) (hbase : base ≤ w.heap.size)
    (h : ∀ v' w', w'.ownsRow base 9 1 v' (n + 1) (ts (xs ++ [y])) → w.grownBy w' v.ownBlock → wpList Try.prog ops Q rest (a.put o.dst v') w') : wpList Try.prog ops Q (o :: rest) a w := by
  obtain ⟨i, hi, z0, z1, z2⟩ := info_parts zero_str
  exact wpList_append_own w hgd s x 42 ho base 9 i (.string ⟨#[]⟩) 1 16 Try.underlying42 hi z0 z1 z2 rfl (by decide) v n (ts xs) hs hown ad 1 1 (ts [y]) hx (by simp [ts]) hr (by intro u hu; simp [ts] at hu; subst hu; rfl) (by unfold maxLen; omega) (by omega) hbase
    (fun v' w' a1 a2 _ => h v' w' (by rw [ts_append]; exact a1) a2)
/-- The sort of a new row of texts. -/
theorem sort_own {w : World} {base : Nat} {v : Value} {l : List ByteArray} (h : w.ownsRow base 9 1 v l.length (ts l)) (hn : l.Nodup) (hl : l.length ≤ 100000000) :
    Calls Try.prog 27 #[v] w fun e w' =>
      e = .returned (.tuple #[]) ∧ ∃ l', w'.ownsRow base 9 1 v l'.length (ts l') ∧ Rises id ltS l' ∧ (∀ x, x ∈ l' ↔ x ∈ l) ∧ l'.length = l.length ∧ w.grownBy w' v.ownBlock := by
  rcases h.2 with ⟨rfl, e⟩ | ⟨g, cap, cur, rfl, hbg, hg, h1, h2, h3, h4⟩
  · have e := List.eq_nil_of_length_eq_zero e
    subst e
    refine (AnyM.slices_Sort_string_none Try.sortStrs none 0 w).mono ?_
    rintro e w' ⟨rfl, rfl⟩
    exact ⟨rfl, [], h, List.Pairwise.nil, fun x => Iff.rfl, rfl, grown_of_below (Below.refl _ _) _⟩
  · have hr : (raw l).length = l.length := by simp [raw]
    have hH : Holds encStr w g 0 (raw l).toArray := holds_of_block hg (by rw [hr, enc_raw]; simpa using h4)
    have q := AnyM.slices_Sort_string Try.sortStrs g 0 cap (raw l) w hH (Array.getElem?_eq_some_iff.1 hg).1 (by rw [hr]; omega)
    rw [hr] at q
    refine q.mono ?_
    rintro e w' ⟨rfl, n, os, rfl⟩
    obtain ⟨s1, s2, s3⟩ := sorted_of hn
    refine ⟨rfl, _, ?_, s1, s2, s3, grownBy_sorted _⟩
    have := ownsRow_sorted (n := n) (os := os) (ss := raw l) (ts := (raw l).mergeSort fun x y => decide (x ≤ y)) (by simp) hbg hg (by rw [hr]; exact h1) h2 h3
    rw [hr, enc_cook] at this
    rw [s3]
    exact this
end Go.Proofs.Ytommbfkndcaghaa.StrT
