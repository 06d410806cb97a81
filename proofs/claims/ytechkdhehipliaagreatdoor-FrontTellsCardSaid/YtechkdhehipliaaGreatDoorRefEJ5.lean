/- What the document's answer's Num, Fold, Unfold and Text of package enc return: contracts. | What the document's answer's Get of package enc returns: a contract. | Slices of ids written out in the program's text. No condition. | One id in a box: stored, built, handed back beside a value. No condition. | The document's reader of package commit: in memory, and what its Num and ID return: contracts. -/
import Derived.Test.YtechkdhehipliaaGreatDoorEncMJ7
import Derived.Test.YtechkdhehipliaaGreatDoorCmMJ3
import Derived.Test.YtechkdhehipliaaGreatDoorRowFJ7
namespace Go.Proofs.YtechkdhehipliaaGreatDoor.RefE
set_option maxRecDepth 100000
open Go.RowKit Byt EncM EncC

set_option maxHeartbeats 1000000 in
set_option maxRecDepth 100000 in
theorem num (n : Nat) (hn : Fits n) (w : World) :
    Calls Tryz.prog 105 #[.int .u64 n] w (New (numL n) w) := by
  have hten := numL_ten hn.lt
  go_enter Tryz.func105, Tryz.ntmps105
  go_wp2_with fail
  go_loopw [0, 3] (fun k v wr => ∃ (m : Nat) (pre : List Int), k = .int .u64 m ∧ Fits m ∧ Hid (numL n = pre ++ numL m) ∧ Hid (wr.ownsRow w.heap.size 5 1 v pre.length (bv pre)) ∧ Below w.heap.size w wr) (fun k _ _ => (intOf k).toNat)
  case atStart => exact ⟨n, [], rfl, hn, rfl, World.ownsRow_nil _ _ _ _, Below.refl _ _⟩
  case round =>
    obtain ⟨m, pre, rfl, hm, HN, HO, hb⟩ := hrel
    have hlen : pre.length + (numL m).length ≤ 10 := by
      have := HN.out
      rw [this, List.length_append] at hten
      exact hten
    have hs := hb.size
    by_cases hlt : m < 128
    · go_wp2_with (refine wpList_append_sl rfl (.tmp 15) (.tmp 18) 53 rfl w.heap.size 5 Tryz.underlying53 zero_u8 _ pre.length pre rfl (HO.out.alloc _) _ 1 1 [(m : Int)] rfl rfl (Sl.new1 _ _ _ ?c1) (by omega) (by simp; omega) ?_; (case c1 => unfold B; omega); intro v1 w1 hown1 hg1; have hb1 : Below w.heap.size w w1 := below_grown (hb.alloc hs _) (by simp; omega) hg1 (fun k hk => (HO.out.lt k hk).1); have HO1 := aside hown1; clear hown1 hg1)
      go_ret
      refine ⟨v1, rfl, ?_, hb1⟩
      rw [HN.out, numL_one hlt]
      simpa using HO1.out
    · have he : [(m : Int) % 128 + 128] = [((m % 128 + 128 : Nat) : Int)] := by congr 1
      have HE := aside he
      clear he
      have hw : IntKind.u64.wrap ((m : Int) / 128) = (m : Int) / 128 := by rw [IntKind.wrap_u64]; have := hm.lt; omega
      go_wp2_with (refine wpList_append_sl rfl (.tmp 6) (.tmp 11) 53 rfl w.heap.size 5 Tryz.underlying53 zero_u8 _ pre.length pre rfl (HO.out.alloc _) _ 1 1 [(m : Int) % 128 + 128] rfl rfl (Sl.new1 _ _ _ ?c1) (by omega) (by simp; omega) ?_; (case c1 => unfold B; omega); intro v1 w1 hown1 hg1; rw [HE.out] at hown1; have hb1 : Below w.heap.size w w1 := below_grown (hb.alloc hs _) (by simp; omega) hg1 (fun k hk => (HO.out.lt k hk).1); have HO1 := aside hown1; clear hown1 hg1)
      go_roundw
      case rel =>
        refine ⟨m / 128, pre ++ [((m % 128 + 128 : Nat) : Int)], by simp, hm.le (by omega), ?_, by simpa using HO1, hb1⟩
        have := HN.out
        rw [numL_more (n := m) (by omega)] at this
        exact aside (by rw [this]; simp)
      case measure => simp [intOf]; omega

set_option maxRecDepth 100000 in
theorem fold (k : Int) (hk : -9223372036854775808 ≤ k ∧ k ≤ 9223372036854775807) (w : World) :
    Calls Tryz.prog 106 #[.int .i64 k] w fun e w' => e = .returned (.int .u64 (foldI k)) ∧ w = w' := by
  obtain ⟨h1, h2⟩ := hk
  by_cases h0 : 0 ≤ k
  · go_enter Tryz.func106, Tryz.ntmps106
    go_wp2
    go_ret
    exact ⟨ret_int (by unfold foldI; rw [if_pos h0]), rfl⟩
  · go_enter Tryz.func106, Tryz.ntmps106
    go_wp2
    go_ret
    exact ⟨ret_int (by unfold foldI; rw [if_neg (by omega)]), rfl⟩

set_option maxRecDepth 100000 in
theorem text (s : ByteArray) (hs : s.size ≤ 1099511627776) (w : World) :
    Calls Tryz.prog 127 #[.string s] w (New (textL (bytesL s)) w) := by
  have hn := num s.size (by unfold Fits; omega) w
  have hl := numL_len 9 s.size (by omega)
  go_enter Tryz.func127, Tryz.ntmps127
  go_wp2_with fail
  refine hn.mono ?_
  clear hn
  rintro e w1 ⟨v, rfl, hown, hb⟩
  have HO := aside hown
  clear hown
  have hs1 := hb.size
  go_wp2_with (refine wpList_append_str rfl (.tmp 6) (.tmp 7) 53 9 rfl w.heap.size 5 Tryz.underlying53 Tryz.underlying9 zero_u8 v _ (numL s.size) rfl HO.out s rfl (by omega) hs1 ?_; intro v2 w2 hown2 hg2; have hb2 : Below w.heap.size w w2 := below_grown hb hs1 hg2 (fun k hk => (HO.out.lt k hk).1); have HO2 := aside hown2; clear hown2 hg2)
  go_ret
  refine ⟨v2, rfl, ?_, hb2⟩
  have h := HO2.out
  unfold textL
  rw [bytesL_length, List.length_append, bytesL_length]
  exact h
end Go.Proofs.YtechkdhehipliaaGreatDoor.RefE
namespace Go.Proofs.YtechkdhehipliaaGreatDoor.RefF
set_option maxRecDepth 100000
open Go.RowKit Byt BytR EncM EncC RefE

/-- Ahead of byte i: what those ahead of it are together, and the place's worth; behind the tenth byte there is no number. -/
def GInv (bs : List Int) (i n p : Nat) : Prop :=
  (i ≤ 9 ∧ p = 2 ^ (7 * i) ∧ n < 2 ^ (7 * i) ∧ getL bs = getG i n (bs.drop i)) ∨ (i = 10 ∧ getL bs = (0, 0))
theorem ginv_start (bs : List Int) : GInv bs 0 0 1 := .inl ⟨by omega, rfl, by simp, rfl⟩
theorem pw_le (i : Nat) (h : i ≤ 9) : 2 ^ (7 * i) ≤ 9223372036854775808 := by
  have : 2 ^ (7 * i) ≤ 2 ^ 63 := Nat.pow_le_pow_right (by omega) (by omega)
  omega
theorem drop_cons {bs : List Int} {i : Nat} (h : i < bs.length) : bs.drop i = bs[i]?.getD 0 :: bs.drop (i + 1) := by
  rw [List.drop_eq_getElem_cons h, List.getElem?_eq_getElem h]
  rfl
/-- One byte more that is not the last one. -/
theorem ginv_more {bs : List Int} {i n p : Nat} {y : Int} (h : GInv bs i n p) (hi : i < bs.length) (hi2 : i < 10) (hy : bs[i]?.getD 0 = y) (hy1 : 128 ≤ y) :
    GInv bs (i + 1) ((n + p * (y % 128).toNat) % 18446744073709551616) (p * 128 % 18446744073709551616) := by
  rcases h with ⟨h1, rfl, h3, h4⟩ | ⟨h1, _⟩
  · rw [drop_cons hi, hy] at h4
    simp only [getG] at h4
    rw [if_neg (by omega), if_neg (by omega : ¬ y < 128)] at h4
    have hd : (y % 128).toNat ≤ 127 := by omega
    have hle : (y % 128).toNat * 2 ^ (7 * i) ≤ 127 * 2 ^ (7 * i) := Nat.mul_le_mul_right _ hd
    have hs := pw_succ i
    by_cases h9 : i = 9
    · refine .inr ⟨by omega, ?_⟩
      rw [h4]
      split
      · rfl
      · subst h9
        cases hq : bs.drop (9 + 1) with
        | nil => rfl
        | cons b r => simp [getG]
    · have hp := pw_le (i + 1) (by omega)
      rw [if_neg (by omega)] at h4
      refine .inl ⟨by omega, ?_, ?_, ?_⟩
      · rw [Nat.mod_eq_of_lt (by omega)]; omega
      · rw [Nat.mul_comm (2 ^ (7 * i)), Nat.mod_eq_of_lt (by omega)]; omega
      · rw [Nat.mul_comm (2 ^ (7 * i)), Nat.mod_eq_of_lt (by omega)]; exact h4
  · omega
/-- The last byte: the number is told just if it is put as these bytes. -/
theorem ginv_last {bs : List Int} (hb : ∀ x ∈ bs, B x) {i n p : Nat} {y : Int} (h : GInv bs i n p) (hi : i < bs.length) (hi2 : i < 10) (hy : bs[i]?.getD 0 = y) (hy1 : y < 128) :
    getL bs = if numL ((n + p * (y % 128).toNat) % 18446744073709551616) = bs.take (i + 1) then ((n + p * (y % 128).toNat) % 18446744073709551616, i + 1) else (0, 0) := by
  rcases h with ⟨h1, rfl, h3, h4⟩ | ⟨h1, _⟩
  · obtain ⟨m, hm⟩ : ∃ m, (n + 2 ^ (7 * i) * (y % 128).toNat) % 18446744073709551616 = m := ⟨_, rfl⟩
    have hm2 : m < 18446744073709551616 := by omega
    rw [hm]
    split
    · rename_i he
      have q := getL_num m (bs.drop (i + 1)) hm2
      rw [he, List.take_append_drop, List.length_take, Nat.min_eq_left (by omega)] at q
      exact q
    · rename_i he
      by_cases hz : (getL bs).2 = 0
      · exact getL_zero hz
      · exfalso
        apply he
        obtain ⟨q1, _, _, _, q5⟩ := getL_back hb (N := (getL bs).1) (k := (getL bs).2) rfl hz
        rw [drop_cons hi, hy] at h4
        simp only [getG] at h4
        rw [if_neg (by omega)] at h4
        by_cases hov : 18446744073709551616 ≤ n + (y % 128).toNat * 2 ^ (7 * i)
        · rw [if_pos hov] at h4; rw [h4] at hz; exact absurd rfl hz
        · rw [if_neg hov, if_pos hy1] at h4
          by_cases hz2 : (y % 128).toNat = 0 ∧ 0 < i
          · rw [if_pos hz2] at h4; rw [h4] at hz; exact absurd rfl hz
          · rw [if_neg hz2] at h4
            rw [h4] at q5
            have e : n + (y % 128).toNat * 2 ^ (7 * i) = m := by rw [← hm, Nat.mul_comm (2 ^ (7 * i)), Nat.mod_eq_of_lt (by omega)]
            simp only [e] at q5
            exact q5.symm
  · omega
/-- Behind all bytes there is no number. -/
theorem ginv_end {bs : List Int} {i n p : Nat} (h : GInv bs i n p) (hi : bs.length ≤ i ∨ 10 ≤ i) : getL bs = (0, 0) := by
  rcases h with ⟨h1, _, _, h4⟩ | ⟨_, h⟩
  · rw [h4, List.drop_eq_nil_of_le (by omega)]
    rfl
  · exact h
theorem numL_B (n : Nat) : ∀ x ∈ numL n, B x := numL_range n

end Go.Proofs.YtechkdhehipliaaGreatDoor.RefF
namespace Go.Proofs.YtechkdhehipliaaGreatDoor.IdB
set_option maxRecDepth 100000
open Go Go.RowKit IdM Byt IdW

theorem fold_at : ∀ (l : List Value) (s k : Nat) (base : Array Value) (i : Nat),
    ((l.zipIdx s).foldl (fun cs (x : Value × Nat) => cs.setIfInBounds (k + x.2) x.1) base)[i]? = if k + s ≤ i ∧ i < k + s + l.length ∧ i < base.size then l[i - (k + s)]? else base[i]?
  | [], s, k, base, i => by
    rw [List.zipIdx_nil, List.foldl_nil, if_neg (by simp; omega)]
  | v :: l, s, k, base, i => by
    rw [List.zipIdx_cons, List.foldl_cons, fold_at l (s + 1) k _ i]
    simp only [Array.size_setIfInBounds, List.length_cons, Array.getElem?_setIfInBounds]
    by_cases h1 : k + (s + 1) ≤ i ∧ i < k + (s + 1) + l.length ∧ i < base.size
    · rw [if_pos h1, if_pos (by omega), show i - (k + s) = (i - (k + (s + 1))) + 1 by omega, List.getElem?_cons_succ]
    · rw [if_neg h1]
      by_cases h2 : k + s = i
      · subst h2
        by_cases h3 : k + s < base.size
        · rw [if_pos rfl, if_pos h3, if_pos (by omega), Nat.sub_self, List.getElem?_cons_zero]
        · rw [if_pos rfl, if_neg h3, if_neg (by omega), Array.getElem?_eq_none (by omega)]
      · rw [if_neg h2, if_neg (by omega)]
theorem put_cells (pre olds : List Idn) (o y : Idn) (k : Nat) (hk : pre.length = k) :
    (cs y).zipIdx.foldl (fun c (x : Value × Nat) => c.setIfInBounds (k * 32 + x.2) x.1) (bv (flat (pre ++ o :: olds))).toArray = (bv (flat (pre ++ y :: olds))).toArray := by
  subst hk
  have e : (cs y).zipIdx.foldl (fun c (x : Value × Nat) => c.setIfInBounds (pre.length * 32 + x.2) x.1) (bv (flat (pre ++ o :: olds))).toArray = ((bv y.1).zipIdx 0).foldl (fun c (x : Value × Nat) => c.setIfInBounds (pre.length * 32 + x.2) x.1) (bv (flat (pre ++ o :: olds))).toArray := by
    rw [← Array.foldl_toList]
    simp [cs]
  rw [e]
  apply Array.ext_getElem?
  intro i
  rw [fold_at]
  simp only [Nat.add_zero, bv_length, Idn_len, List.getElem?_toArray, List.size_toArray, flat_length]
  have L : ∀ z : Idn, (bv (flat (pre ++ z :: olds))) = bv (flat pre) ++ (bv z.1 ++ bv (flat olds)) := fun z => by rw [flat_append, flat_cons, bv_append, bv_append]
  have lp : (bv (flat pre)).length = pre.length * 32 := by rw [bv_length, flat_length]
  have lz : ∀ z : Idn, (bv z.1).length = 32 := fun z => by rw [bv_length, Idn_len]
  simp only [List.length_append, List.length_cons]
  rw [L, L]
  by_cases h1 : i < pre.length * 32
  · rw [if_neg (by omega), List.getElem?_append_left (by omega), List.getElem?_append_left (by omega)]
  · by_cases h2 : i < pre.length * 32 + 32
    · rw [if_pos (by omega), List.getElem?_append_right (by omega), lp, List.getElem?_append_left (by rw [lz]; omega)]
    · have key : ∀ z : Idn, (bv (flat pre) ++ (bv z.1 ++ bv (flat olds)))[i]? = (bv (flat olds))[i - pre.length * 32 - 32]? := fun z => by
        rw [List.getElem?_append_right (by omega), lp, List.getElem?_append_right (by rw [lz]; omega), lz]
      rw [if_neg (by omega), key, key]
theorem fill_ids : ∀ (ys pre olds : List Idn) (k : Nat), pre.length = k → olds.length = ys.length →
    Instr.fill (fun i => some (i * 32, 32)) (bv (flat (pre ++ olds))).toArray ((ys.zipIdx k).map fun (x : Idn × Nat) => (x.2, .agg (cs x.1))) = some (bv (flat (pre ++ ys))).toArray
  | [], pre, olds, k, _, ho => by
    have : olds = [] := List.eq_nil_of_length_eq_zero (by simpa using ho)
    subst this
    rfl
  | y :: ys, pre, [], k, _, ho => by simp at ho
  | y :: ys, pre, o :: olds, k, hk, ho => by
    have ih := fill_ids ys (pre ++ [y]) olds (k + 1) (by simp [hk]) (by simpa using ho)
    rw [List.append_assoc, List.append_assoc, List.singleton_append, List.singleton_append] at ih
    rw [List.zipIdx_cons, List.map_cons]
    have hc : ¬ ((decide ((Value.agg (cs y)).cells.size ≠ 32) || decide (k * 32 + (Value.agg (cs y)).cells.size > (bv (flat (pre ++ o :: olds))).toArray.size)) = true) := by
      simp only [Value.cells, cs_size, List.size_toArray, bv_length, flat_length, List.length_append, List.length_cons]
      simp
      omega
    have e := put_cells pre olds o y k hk
    show (if ((decide ((Value.agg (cs y)).cells.size ≠ 32) || decide (k * 32 + (Value.agg (cs y)).cells.size > (bv (flat (pre ++ o :: olds))).toArray.size)) = true) then none else Instr.fill (fun i => some (i * 32, 32)) ((cs y).zipIdx.foldl (fun c (x : Value × Nat) => c.setIfInBounds (k * 32 + x.2) x.1) (bv (flat (pre ++ o :: olds))).toArray) ((ys.zipIdx (k + 1)).map fun (x : Idn × Nat) => (x.2, .agg (cs x.1)))) = _
    rw [if_neg hc, e]
    exact ih
theorem zeros (z : Idn) (n : Nat) : (Array.range (n * 32)).map (fun i => (cs z)[i % (cs z).size]!) = (bv (flat (List.replicate n z))).toArray := by
  apply Array.ext_getElem?
  intro i
  have e : (bv (flat (List.replicate n z))).toArray[i]? = (bv (flat (List.replicate n z)))[i]? := by simp
  rw [e]
  by_cases hi : i < n * 32
  · have hm : i % 32 < 32 := by omega
    have f := flat_at (List.replicate n z) (i / 32) (i % 32) (by simp; omega) hm
    rw [show i / 32 * 32 + i % 32 = i by omega] at f
    rw [bv_at _ (by rw [flat_length]; simpa using hi), f]
    have q : (List.replicate n z).getD (i / 32) nought = z := by
      rw [List.getD_eq_getElem?_getD, List.getElem?_replicate, if_pos (by omega)]
      rfl
    rw [q]
    simp only [Array.getElem?_map, Array.getElem?_range, if_pos hi, Option.map_some, cs_size]
    rw [Array.getElem!_eq_getD, Array.getD_eq_getD_getElem?, cs_at z _ hm]
    rfl
  · rw [Array.getElem?_eq_none (by simp; omega), List.getElem?_eq_none (by rw [bv_length, flat_length]; simp; omega)]
theorem zero_v (w : World) : (zeroValue 42).run Tryz.prog w = .ok (.agg (cs nought)) w := by
  obtain ⟨i, hi, z0, z1, _⟩ := info_parts zero_id
  simp [zeroValue, typeInfo, hi, z0]
theorem size_v (w : World) : (sizeOf 42).run Tryz.prog w = .ok 32 w := by
  obtain ⟨i, hi, z0, z1, _⟩ := info_parts zero_id
  simp [sizeOf, typeInfo, hi, z1]
theorem run_build (w : World) (ys : List Idn) (h0 : 0 < ys.length) (h1 : ys.length ≤ 100) :
    (Instr.buildSlice 23 ys.length (ys.zipIdx.map fun (x : Idn × Nat) => (x.2, .agg (cs x.1))).toArray).run Tryz.prog w = .ok (.slice (some ⟨w.heap.size, 0, none⟩) ys.length ys.length) (w.alloc (.cells (bv (flat ys)).toArray 42)) := by
  have n1 : ¬ ys.length * 32 > 2 ^ 24 := by omega
  have n2 : ¬ ys.length * 32 = 0 := by omega
  have f := fill_ids ys [] (List.replicate ys.length nought) 0 rfl (by simp)
  rw [List.nil_append, List.nil_append] at f
  have zr := zeros nought ys.length
  have zv := zero_v
  have sv := size_v
  generalize nought = z at f zr zv
  unfold Instr.buildSlice
  simp only [Sem.run_bind, run_underlying Tryz.underlying23, Result.andThen_ok, sv, n1, n2, if_false, Sem.run_pure, zv, Value.cells, zr, f, newRow]
  rfl
/-- One id, and three. -/
theorem run_build1 (w : World) (y : Idn) : (Instr.buildSlice 23 1 #[(0, .agg (cs y))]).run Tryz.prog w = .ok (.slice (some ⟨w.heap.size, 0, none⟩) 1 1) (w.alloc (.cells (cs y) 42)) := by
  have := run_build w [y] (by simp) (by simp)
  rw [flat_one] at this
  exact this
theorem run_build3 (w : World) (x y z : Idn) : (Instr.buildSlice 23 3 #[(0, .agg (cs x)), (1, .agg (cs y)), (2, .agg (cs z))]).run Tryz.prog w = .ok (.slice (some ⟨w.heap.size, 0, none⟩) 3 3) (w.alloc (.cells (bv (flat [x, y, z])).toArray 42)) :=
  run_build w [x, y, z] (by simp) (by simp)
theorem wpList_build1 {w : World} {ops : Array Oper} {rest : List Oper} {o : Oper} {a : Act} {Q : Exit → Act → World → Prop} (hgd : o.guard = none) (x : Operand) (ho : o.op = .buildSlice 23 1 #[(0, x)])
    (y : Idn) (hx : a.eval x = .agg (cs y)) (h : wpList Tryz.prog ops Q rest (a.put o.dst (.slice (some ⟨w.heap.size, 0, none⟩) 1 1)) (w.alloc (.cells (cs y) 42))) : wpList Tryz.prog ops Q (o :: rest) a w := by
  refine wpList_plain hgd fun K hK => ?_
  unfold Oper.wp execOp
  simp only [ho, List.map_toArray, List.map_cons, List.map_nil, hx, Sem.run_bind, run_build1, Result.andThen_ok, Sem.run_pure]
  exact hK _ _ h
end Go.Proofs.YtechkdhehipliaaGreatDoor.IdB
namespace Go.Proofs.YtechkdhehipliaaGreatDoor.IdJ
set_option maxRecDepth 100000
open Go Go.RowKit IdM Byt IdW IdB

theorem Box.frozen {w : World} {g : Nat} {x : Idn} (h : Box w g x) (i : Nat) : w.frozen? ⟨g, i, none⟩ = false := by
  obtain ⟨t, ht⟩ := h
  exact frozen_of_row w g i (cs x) t ht
theorem Box.put {w : World} {g : Nat} {x y : Idn} (h : Box w g x) (i : Nat) (v : Value) (e : (cs x).setIfInBounds i v = cs y) : Box (w.setCell ⟨g, i, none⟩ v) g y := by
  obtain ⟨t, ht⟩ := h
  exact ⟨t, by rw [heap_setCell_same w g i (cs x) t v ht, e]⟩
theorem Box.other {w : World} {g : Nat} {x : Idn} (h : Box w g x) {a : Addr} (ha : g ≠ a.block) (v : Value) : Box (w.setCell a v) g x := by
  obtain ⟨t, ht⟩ := h
  exact ⟨t, (heap_setCell_other w a g v ha).trans ht⟩
theorem Box.row {w : World} {g : Nat} {x : Idn} (h : Box w g x) (y : Idn) : Box (w.setRow g (cs y)) g y := by
  obtain ⟨t, ht⟩ := h
  exact ⟨t, setRow_heap w g (cs x) (cs y) t (0, 0) ht⟩
theorem below_row {B g : Nat} {w0 w : World} (hb : Below B w0 w) (hg : B ≤ g) (c : Array Value) : Below B w0 (w.setRow g c) :=
  hb.trans ⟨rfl, rfl, rfl, by simp [World.setRow], fun k hk => setRow_other w g k c (by omega)⟩
theorem below_cell {B g i : Nat} {w0 w : World} (hb : Below B w0 w) (hg : B ≤ g) (v : Value) : Below B w0 (w.setCell ⟨g, i, none⟩ v) :=
  hb.trans ⟨rfl, rfl, rfl, by simp [World.setCell], fun k hk => heap_setCell_other w ⟨g, i, none⟩ k v (by simp; omega)⟩
/-- An id stored into a box. -/
theorem wpList_store_box {ops : Array Oper} {rest : List Oper} {o : Oper} {a : Act} {w : World} {Q : Exit → Act → World → Prop} (hgd : o.guard = none) (x y : Operand) (ho : o.op = .store 42 x y)
    (g : Nat) (hx : a.eval x = .pointer (some ⟨g, 0, none⟩)) (old z : Idn) (hb : Box w g old) (hy : a.eval y = .agg (cs z))
    (h : wpList Tryz.prog ops Q rest (a.put o.dst undef) (w.setRow g (cs z))) : wpList Tryz.prog ops Q (o :: rest) a w := by
  obtain ⟨t, ht⟩ := hb
  exact wpList_store_row hgd 42 x y ho g (cs z) hx hy t (cs old) ht (info_cs z) (by rw [cs_size, cs_size]) (cs_one z) h
theorem build0 (w : World) : (Instr.build 42 #[]).run Tryz.prog w = .ok (.agg (cs nought)) w := Go.run_build w 42 _ _ (by kernel_rfl)
theorem wpList_build0 {ops : Array Oper} {rest : List Oper} {o : Oper} {a : Act} {w : World} {Q : Exit → Act → World → Prop} (hgd : o.guard = none) (ho : o.op = .build 42 #[])
    (h : wpList Tryz.prog ops Q rest (a.put o.dst (.agg (cs nought))) w) : wpList Tryz.prog ops Q (o :: rest) a w := by
  refine wpList_plain hgd fun K hK => ?_
  unfold Oper.wp execOp
  simp only [ho, List.map_toArray, List.map_nil, Sem.run_bind, build0, Result.andThen_ok, Sem.run_pure]
  exact hK _ _ h
theorem wpList_alloc_id {ops : Array Oper} {rest : List Oper} {o : Oper} {a : Act} {w : World} {Q : Exit → Act → World → Prop} (hgd : o.guard = none) (ho : o.op = .alloc 42)
    (h : wpList Tryz.prog ops Q rest (a.put o.dst (.pointer (some ⟨w.heap.size, 0, none⟩))) (w.alloc (.cells (cs nought) 42))) : wpList Tryz.prog ops Q (o :: rest) a w := by
  refine wpList_plain hgd fun K hK => ?_
  have zv := zero_v w
  unfold Oper.wp execOp
  simp only [ho, Instr.alloc, newVar, newRow, Sem.run_bind, zv, Result.andThen_ok, Sem.run_pure, Value.cells]
  exact hK _ _ h
theorem results_box {fn : Func} {p q : Tmp} (h : fn.results = #[.cell p 42, .tmp q]) (tmps : Array Value) (w : World) (g : Nat) (x : Idn) (v : Value)
    (hp : tmps.getD p undef = .pointer (some ⟨g, 0, none⟩)) (hq : tmps.getD q undef = v) (hg : Box w g x) : (results fn tmps).run Tryz.prog w = .ok (.tuple #[.agg (cs x), v]) w := by
  obtain ⟨t, ht⟩ := hg
  have hp' : tmps[p]?.getD undef = .pointer (some ⟨g, 0, none⟩) := by simpa using hp
  have hq' : tmps[q]?.getD undef = v := by simpa using hq
  simp [results, h, hp', hq', asAddr, run_loadVar_row w g t 42 (cs x) (0, 0) _ ht Tryz.underlying42 rfl (info_cs x)]
end Go.Proofs.YtechkdhehipliaaGreatDoor.IdJ
namespace Go.Proofs.YtechkdhehipliaaGreatDoor.CmD
set_option maxRecDepth 100000
open Go Go.Sort Go.RowKit Byt EncM EncC IdM IdW IdB OpsM CmM StW CmW

/-- Bytes that are left, in a slice, and whether something was wrong. -/
structure Rd where
  a : Option Addr
  k : Nat
  l : List Int
  bad : Bool
theorem info_b : (Tryz.prog.info? 4).map (·.size) = some 1 := by kernel_rfl
theorem info_s : (Tryz.prog.info? 53).map (·.size) = some 1 := by kernel_rfl
/-- A byte. -/
def isU8 : Value → Bool
  | .int .u8 _ => true
  | _ => false
/-- No cell of a block is a byte. -/
def NoU8 (w : World) (g : Nat) : Prop := ∀ j v, w.cell? ⟨g, j, none⟩ = some v → isU8 v = false
theorem far_cell {w w' : World} {g : Nat} {x : Addr} {n : Int} (h : w.cell? x = some (.int .u8 n)) (hn : NoU8 w g) (hg : w.grownBy w' (some g)) : w'.cell? x = some (.int .u8 n) := by
  have hlt := block_lt_of_cell h
  have hne : some x.block ≠ some g := by
    intro e
    injection e with e
    have hs := World.cell?_spot h
    have : x = ⟨g, x.off, none⟩ := by
      cases x with
      | mk b o s =>
        simp only at e hs
        rw [e, hs]
    rw [this] at h
    have := hn _ _ h
    cases this
  unfold World.cell? at h ⊢
  rw [hg.block _ hlt hne]
  exact h
theorem sl_far {w w' : World} {g cap : Nat} {A : Option Addr} {l : List Int} (h : Sl w A cap l) (hn : NoU8 w g) (hg : w.grownBy w' (some g)) : Sl w' A cap l := by
  obtain ⟨h1, h2, h4, h5⟩ := h
  refine ⟨h1, h2, h4, ?_⟩
  rcases h5 with h5 | ⟨x, rfl, hc⟩
  · exact .inl h5
  · exact .inr ⟨x, rfl, fun i hi => far_cell (hc i hi) hn hg⟩
theorem sli_far {w w' : World} {g cap : Nat} {A : Option Addr} {l : List Idn} (h : SlI w A cap l) (hn : NoU8 w g) (hg : w.grownBy w' (some g)) : SlI w' A cap l := by
  obtain ⟨h1, h2, h5⟩ := h
  refine ⟨h1, h2, ?_⟩
  rcases h5 with h5 | ⟨x, rfl, hc⟩
  · exact .inl h5
  · exact .inr ⟨x, rfl, fun i hi => far_cell (hc i hi) hn hg⟩
theorem no_cm {w : World} {g : Nat} {c : Cv} (h : Cel.Box CE w g c) : NoU8 w g := by
  intro j v hv
  obtain ⟨t, ht⟩ := h
  rw [cell_of_row w g j _ t (0, 0) ht, List.getElem?_toArray] at hv
  match j, hv with
  | 0, hv => simp [CE] at hv; rw [← hv]; rfl
  | 1, hv => simp [CE] at hv; rw [← hv]; rfl
  | 2, hv => simp [CE] at hv; rw [← hv]; rfl
  | 3, hv => simp [CE] at hv; rw [← hv]; rfl
  | 4, hv => simp [CE] at hv; rw [← hv]; rfl
  | 5, hv => simp [CE] at hv; rw [← hv]; rfl
  | 6, hv => simp [CE] at hv; rw [← hv]; rfl
  | 7, hv => simp [CE] at hv; rw [← hv]; rfl
  | j + 8, hv => simp [CE] at hv
/-- What a turn of the reader leaves: its block alone is another one. -/
structure Turned (g : Nat) (w w' : World) : Prop where
  grown : w.grownBy w' (some g)
  below : ∀ B, B ≤ g → Below B w w'
theorem Turned.of_below {g : Nat} {w w' : World} (h : Below w.heap.size w w') (hg : g ≤ w.heap.size) : Turned g w w' := ⟨grown_of_below h _, fun _ hB => h.mono (Nat.le_trans hB hg)⟩
theorem Turned.trans {g : Nat} {w w1 w2 : World} (h : Turned g w w1) (k : Turned g w1 w2) : Turned g w w2 := ⟨h.grown.trans k.grown, fun B hB => (h.below B hB).trans (k.below B hB)⟩
/-- What is behind the first k bytes of a slice, in whatever world. -/
theorem part_any {A A2 : Option Addr} {cap c2 k n : Nat} {l : List Int} (hs : sliced A k n cap 1 = .slice A2 (l.drop k).length c2) (hn : l.length = n) (hk : k ≤ n) (V : World) (S : Sl V A cap l) : Sl V A2 c2 (l.drop k) := by
  subst hn
  obtain ⟨A', c', hs', S', _⟩ := S.part k l.length hk (Nat.le_refl _)
  rw [hs] at hs'
  injection hs' with e1 _ e3
  have e2 : (l.drop k).take (l.length - k) = l.drop k := List.take_of_length_le (by rw [List.length_drop]; omega)
  rw [e2] at S'
  rw [e1, e3]
  exact S'
/-- The id that bytes begin with. -/
def headI (l : List Int) : Idn := if h : 32 ≤ l.length ∧ ∀ x ∈ l.take 32, 0 ≤ x ∧ x ≤ 255 then ⟨l.take 32, by rw [List.length_take]; omega, h.2⟩ else nought
theorem headI_short {l : List Int} (h : l.length < 32) : headI l = nought := by rw [headI, dif_neg (by omega)]
theorem headI_val {l : List Int} (h : 32 ≤ l.length) (hb : ∀ x ∈ l, B x) : (headI l).val = l.take 32 := by
  rw [headI, dif_pos ⟨h, fun x hx => hb x (List.mem_of_mem_take hx)⟩]
def restI (l : List Int) : List Int := if 32 ≤ l.length then l.drop 32 else l
/-- An id's first k bytes, noughts behind them. -/
def part (x : Idn) (k : Nat) : Idn := ⟨(List.range 32).map fun i => if i < k then x.val.getD i 0 else 0, by simp, by
  intro y hy
  simp only [List.mem_map] at hy
  obtain ⟨i, _, rfl⟩ := hy
  have := Idn_at_range x i
  split <;> omega⟩
theorem part_at (x : Idn) (k i : Nat) (hi : i < 32) : (part x k).1.getD i 0 = if i < k then x.1.getD i 0 else 0 := by
  simp [part, List.getD_eq_getElem?_getD, hi]
theorem part_none (x : Idn) : part x 0 = nought := Idn_ext_at fun i hi => by
  rw [part_at x 0 i hi, if_neg (by omega)]
  have e : nought.1 = List.replicate 32 0 := rfl
  rw [e, List.getD_eq_getElem?_getD, List.getElem?_replicate, if_pos hi]
  rfl
theorem part_all (x : Idn) : part x 32 = x := Idn_ext_at fun i hi => by rw [part_at x 32 i hi, if_pos hi]
theorem part_step (x : Idn) (k : Nat) (hk : k < 32) : (cs (part x k)).setIfInBounds k (.int .u8 (x.1.getD k 0)) = cs (part x (k + 1)) := by
  apply Array.ext_getElem?
  intro i
  rw [Array.getElem?_setIfInBounds]
  by_cases hi : i < 32
  · have q := cs_at (part x (k + 1)) i hi
    rw [part_at _ _ i hi] at q
    rw [q]
    by_cases hik : k = i
    · subst hik
      rw [if_pos rfl, if_pos (by rw [cs_size]; exact hi), if_pos (by omega)]
    · rw [if_neg hik, cs_at _ i hi, part_at _ _ i hi]
      by_cases h2 : i < k
      · rw [if_pos h2, if_pos (by omega)]
      · rw [if_neg h2, if_neg (by omega)]
  · have e1 : (cs (part x k))[i]? = none := Array.getElem?_eq_none (by rw [cs_size]; omega)
    have e2 : (cs (part x (k + 1)))[i]? = none := Array.getElem?_eq_none (by rw [cs_size]; omega)
    rw [e1, e2]
    by_cases hik : k = i
    · omega
    · rw [if_neg hik]
theorem Turned.far {g : Nat} {w w' w2 : World} (T : Turned g w w') (hb : Below w.heap.size w' w2) (hg : g ≤ w.heap.size) : Turned g w w2 :=
  ⟨⟨by rw [hb.os, T.grown.os], by rw [hb.tape, T.grown.tape], by rw [hb.output, T.grown.output], Nat.le_trans T.grown.size hb.size, fun k hk hne => (hb.block k hk).trans (T.grown.block k hk hne)⟩, fun B hB => (T.below B hB).trans (hb.mono (Nat.le_trans hB hg))⟩
theorem results_id {fn : Func} {p : Tmp} (h : fn.results = #[.cell p 42]) (tmps : Array Value) (w : World) (g : Nat) (x : Idn)
    (hp : tmps.getD p undef = .pointer (some ⟨g, 0, none⟩)) (hg : Box w g x) : (results fn tmps).run Tryz.prog w = .ok (.agg (cs x)) w := by
  obtain ⟨t, ht⟩ := hg
  have hp' : tmps[p]?.getD undef = .pointer (some ⟨g, 0, none⟩) := by simpa using hp
  simp [results, h, hp', asAddr, run_loadVar_row w g t 42 (cs x) (0, 0) _ ht Tryz.underlying42 rfl (info_cs x)]
theorem box_far {w w' : World} {g b : Nat} {x : Idn} (h : Box w b x) (hg : w.grownBy w' (some g)) (hne : b ≠ g) : Box w' b x := by
  obtain ⟨t, ht⟩ := h
  exact ⟨t, (hg.block _ (Array.getElem?_eq_some_iff.1 ht).1 (fun e => hne (by injection e))).trans ht⟩
end Go.Proofs.YtechkdhehipliaaGreatDoor.CmD
