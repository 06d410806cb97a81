/- What counts returns: a contract. | What the document's put, Inc and Merge of package ctr return: contracts. -/
import Derived.Test.YtnjdkjkihbgkaaaGreatStrKJ3
import Derived.Test.YtnjdkjkihbgkaaaGreatStrTJ2
import Derived.Test.YtnjdkjkihbgkaaaGreatCtrRJ2
namespace Go.Proofs.YtnjdkjkihbgkaaaGreat.CtrH
set_option maxRecDepth 100000
open Go Go.RowKit Byt OpsM Rise CtrM RowS RowB CtrW StrK StrT CtrG

/-- The counts of keys, but for those that count nothing. -/
def pick (f : ByteArray → Int) (ks : List ByteArray) : List Cn := ks.filterMap fun x => if f x ≠ 0 then some ⟨x, f x⟩ else none
theorem pick_yes {f : ByteArray → Int} {ks : List ByteArray} {k : Nat} {x : ByteArray} (h : ks[k]? = some x) (hx : f x ≠ 0) : pick f (ks.take (k + 1)) = pick f (ks.take k) ++ [⟨x, f x⟩] := by
  obtain ⟨hk, rfl⟩ := List.getElem?_eq_some_iff.1 h
  unfold pick
  rw [List.take_succ_eq_append_getElem hk, List.filterMap_append]
  simp [hx]
theorem pick_no {f : ByteArray → Int} {ks : List ByteArray} {k : Nat} {x : ByteArray} (h : ks[k]? = some x) (hx : f x = 0) : pick f (ks.take (k + 1)) = pick f (ks.take k) := by
  obtain ⟨hk, rfl⟩ := List.getElem?_eq_some_iff.1 h
  unfold pick
  rw [List.take_succ_eq_append_getElem hk, List.filterMap_append]
  simp [hx]
theorem pick_len (f : ByteArray → Int) (ks : List ByteArray) : (pick f ks).length ≤ ks.length := List.length_filterMap_le _ _
theorem pick_mem {f : ByteArray → Int} {ks : List ByteArray} {c : Cn} : c ∈ pick f ks ↔ c.key ∈ ks ∧ f c.key = c.n ∧ c.n ≠ 0 := by
  unfold pick
  rw [List.mem_filterMap]
  constructor
  · rintro ⟨x, hx, h⟩
    by_cases h0 : f x = 0
    · rw [if_neg (by simp [h0])] at h
      cases h
    · rw [if_pos h0] at h
      injection h with h
      subst h
      exact ⟨hx, rfl, h0⟩
  · rintro ⟨h1, h2, h3⟩
    refine ⟨c.key, h1, ?_⟩
    rw [if_pos (by rw [h2]; exact h3), h2]
theorem pick_rises {f : ByteArray → Int} {ks : List ByteArray} (h : Rises id ltS ks) : Rises Cn.key ltS (pick f ks) := by
  unfold pick Rises
  rw [List.pairwise_filterMap]
  refine h.imp (fun {x y} hxy c hc d hd => ?_)
  split at hc <;> simp at hc
  split at hd <;> simp at hd
  subst hc
  subst hd
  exact hxy
/-- Counts that may be are the counts of their keys. -/
theorem pick_is {f : ByteArray → Int} {ks K : List ByteArray} {T : List Cn} (hs : Rises id ltS ks) (hm : ∀ x, x ∈ ks ↔ x ∈ K) (h0 : ∀ x, x ∉ K → f x = 0) (hT : mayC T = true) (hv : ∀ k, getC T k = f k) : pick f ks = T := by
  refine Rises.ext strictS (pick_rises hs) (mayC_iff.1 hT).2 (fun c => ?_)
  rw [pick_mem, mem_iff hT, hv]
  constructor
  · rintro ⟨_, h2⟩
    exact h2
  · rintro ⟨h1, h2⟩
    refine ⟨?_, h1, h2⟩
    rw [hm]
    refine Classical.byContradiction fun hn => h2 ?_
    rw [← h1]
    exact h0 _ hn

set_option maxHeartbeats 4000000 in
theorem counts_ret (b n : Nat) (K : List ByteArray) (f : ByteArray → Int) (T : List Cn) (w : World) (h : NumIn w b n K f) (hn : n ≤ 1000000) (hT : mayC T = true) (hv : ∀ k, getC T k = f k) :
    Calls Tryz.prog 91 #[.map (some b)] w (NewR E T w) := by
  have hb := h.lt
  have h0 : ∀ x, x ∉ K → f x = 0 := by obtain ⟨D, _, hD⟩ := h; exact hD.2.2
  obtain ⟨D, hown, hD⟩ := h
  have hsz := hown.size_le
  obtain ⟨i, hi, z0, z1, z2⟩ := info_parts E.info
  obtain ⟨w1, hmk, own1, g1⟩ := run_make_own (P := Tryz.prog) w w.heap.size 22 75 i (.agg (E.enc E.zero).toArray) 2 Tryz.underlying22 hi z0 z1 .i64 .i64 (Maps.size D) (by rw [z2]; show 24 * _ ≤ _; omega) (by unfold maxLen; omega) (Nat.le_refl _)
  have hn1 : NumIn w1 b n K f := (show NumIn w b n K f from ⟨D, hown, hD⟩).kept g1 (by simp)
  have kb1 : Below w.heap.size w w1 := below_grown (Below.refl _ _) (Nat.le_refl _) g1 (fun k hk => by cases hk)
  have hri := StrR.rising_ret b n K f w1 hn1 hn
  clear hi z0 z1 z2
  go_enter Tryz.func91, Tryz.ntmps91
  go_wp2_with (first | (at_len; refine wpList_len_own _ rfl _ 97 rfl 9 3 Tryz.underlying97 _ b n D rfl hown ?_))
  refine hri.mono ?_
  rintro e w2 ⟨v, ks, rfl, own2, s1, s2, s3, s4, k2⟩
  have HP := aside (pick_is s1 s2 h0 hT hv)
  have HS := aside s3
  have HM := aside s2
  obtain ⟨A, cap, rfl⟩ : ∃ A cap, v = .slice A ks.length cap := by
    rcases own2.2 with ⟨rfl, e⟩ | ⟨g, cap, cur, rfl, _⟩
    · exact ⟨none, 0, by rw [e]⟩
    · exact ⟨_, _, rfl⟩
  have hn2 := hn1.below k2
  have own3 := own1.kept (grown_of_below k2 none) (.inr (by simp [Value.ownBlock]))
  have kb2 := kb1.trans (k2.mono kb1.size)
  have hA : ∀ g, A = some ⟨g, 0, none⟩ → (Value.slice (some ⟨w.heap.size, 0, none⟩) 0 (Maps.size D)).ownBlock ≠ some g := by
    rintro g rfl e
    simp only [Value.ownBlock, Option.some.injEq] at e
    have := (own2.lt g rfl).1
    have := (own1.lt w.heap.size rfl).2
    omega
  have hA0 : ∀ x, A = some x → ∃ g, A = some ⟨g, 0, none⟩ := by
    rintro x rfl
    rcases own2.2 with ⟨h, _⟩ | ⟨g, cap, cur, h, _⟩
    · cases h
    · injection h with h1
      exact ⟨g, h1⟩
  have hlen : ks.length ≤ 9223372036854775807 := by omega
  clear s1 s2 s3 h0 hT hv hri hmk hown hD own1 hn1 g1 k2 kb1
  go_wp2_with fail
  go_loopw [3, 13] (fun v i wr => ∃ (k : Nat) (acc : List Cn), k ≤ ks.length ∧ i = .int .i64 k ∧ Hid (acc = pick f (ks.take k)) ∧ wr.ownsRow w.heap.size E.T 2 v acc.length (flat E acc) ∧ Hid (∀ g, A = some ⟨g, 0, none⟩ → v.ownBlock ≠ some g) ∧ wr.ownsRow w1.heap.size 9 1 (.slice A ks.length cap) ks.length (ts ks) ∧ NumIn wr b n K f ∧ Below w.heap.size w wr) (fun _ i _ => ks.length - (intOf i).toNat)
  case atStart => exact ⟨0, [], Nat.zero_le _, rfl, aside rfl, own3, aside hA, own2, hn2, kb2⟩
  case round =>
    clear own3 hA own2 hn2 kb2
    obtain ⟨k, acc, hk, rfl, HA, orow, HD, okeys, hset, kb⟩ := hrel
    by_cases hlt : k < ks.length
    · obtain ⟨x, hx⟩ : ∃ x, ks[k]? = some x := ⟨_, List.getElem?_eq_getElem hlt⟩
      have hmx := HS.out x (List.mem_of_getElem? hx)
      obtain ⟨g, rfl⟩ : ∃ g, A = some ⟨g, 0, none⟩ := by
        cases A with
        | none =>
          rcases okeys.2 with ⟨_, e⟩ | ⟨g, cap, cur, h, _⟩
          · omega
          · cases h
        | some y =>
          obtain ⟨g, hg⟩ := hA0 y rfl
          exact ⟨g, hg⟩
      have c0 : wr.cell? ⟨g, k, none⟩ = some (.string x) := by
        have := okeys.cells rfl k (.string x) (by simp [ts, hx])
        rw [Addr.add_lit, Nat.zero_add] at this
        exact this
      have p0 : (k : Int) < ks.length := by omega
      have m0 : ((k : Int)).toNat = k := by omega
      have hacc : acc.length ≤ k := by rw [HA.out]; exact Nat.le_trans (pick_len _ _) (by rw [List.length_take]; omega)
      by_cases hf : f x = 0
      · have HA2 := aside (HA.out.trans (pick_no hx hf).symm)
        have t0 : (f x != 0) = false := by simp [hf]
        clear hx HA hf
        go_wp2_with (first | (refine wpList_find _ rfl _ _ rfl b _ _ f rfl hset x hmx rfl ?_))
        go_roundw
        case rel => exact ⟨k + 1, acc, by omega, by go_num, HA2, orow, HD, okeys, hset, kb⟩
        case measure => simp [intOf]; omega
      · have HA2 := aside ((congrArg (· ++ [(⟨x, f x⟩ : Cn)]) HA.out).trans (pick_yes hx hf).symm)
        have t0 : (f x != 0) = true := by simp [hf]
        have hg := (okeys.lt g rfl).2
        clear hx HA hf
        go_wp2_with (first | (refine wpList_find _ rfl _ _ rfl b _ _ f rfl hset x hmx rfl ?_) | (refine wpList_append_at E rfl (.tmp 22) (.tmp 26) rfl w.heap.size _ _ acc rfl (orow.alloc _) wr.heap.size ⟨x, f x⟩ rfl (Box.new (E := E) wr ⟨x, f x⟩ 75) (by omega) (by have := kb.size; simp; omega) ?_; intro v' w3 orow3 hg3 hv3))
        have kg := (World.grownBy_alloc wr (.cells (E.enc ⟨x, f x⟩).toArray 75) _).trans hg3
        have HD2 : Hid (∀ g1 : Nat, some (⟨g, 0, none⟩ : Addr) = some ⟨g1, 0, none⟩ → v'.ownBlock ≠ some g1) := aside (by
          intro g1 e1
          injection e1 with e1
          injection e1 with e1
          subst e1
          rcases hv3 with e2 | e2
          · rw [e2]
            exact HD.out g rfl
          · rw [e2]
            intro e3
            injection e3 with e3
            simp at e3
            omega)
        have okeys2 := okeys.kept kg (.inr (fun e => HD.out g rfl e.symm))
        have hset2 := hset.kept kg (row_ne_low orow hb)
        have kb2 := below_grown kb kb.size kg (fun q hq => (orow.lt q hq).1)
        clear okeys hset orow hg3 hv3 kg
        go_roundw
        case rel => exact ⟨k + 1, acc ++ [⟨x, f x⟩], by omega, by go_num, HA2, by rw [List.length_append]; exact orow3, HD2, okeys2, hset2, kb2⟩
        case measure => simp [intOf]; omega
    · have e : k = ks.length := by omega
      have HA2 : Hid (acc = T) := aside (by rw [HA.out, e, List.take_length]; exact HP.out)
      clear okeys HA
      go_wp2_with fail
      go_ret
      rw [← HA2.out]
      exact ⟨_, rfl, orow, kb⟩
end Go.Proofs.YtnjdkjkihbgkaaaGreat.CtrH
namespace Go.Proofs.YtnjdkjkihbgkaaaGreat.CtrP
set_option maxRecDepth 100000
open Go Go.RowKit Byt OpsM OpsK Rise CtrM RowS CtrW CtrR

theorem put_step (k : ByteArray) (n : Int) (d : Bool) (x : Cn) (r : List Cn) : putC k n d (x :: r) = (if d = false ∧ ltS x.key k = false then CtrM.one k n else []) ++ (if x.key = k then [] else [x]) ++ putC k n (d || !ltS x.key k) r := rfl
theorem bne_yes {a b : ByteArray} (h : a = b) : (a.toList != b.toList) = false := by rw [bne, str_yes h]; rfl
theorem bne_no {a b : ByteArray} (h : a ≠ b) : (a.toList != b.toList) = true := by rw [bne, str_no h]; rfl
theorem one_yes {k : ByteArray} {n : Int} (h : n ≠ 0) : CtrM.one k n = [⟨k, n⟩] := by unfold CtrM.one; rw [if_pos h]
theorem one_no {k : ByteArray} {n : Int} (h : n = 0) : CtrM.one k n = [] := by unfold CtrM.one; rw [if_neg (by simp [h])]

/-- A range below all rows stays behind an append. -/
theorem range_kept {w wr w1 : World} {g o n : Nat} {v : Value} {cs : List Value} {xs : List Value} {x : Obj} {T : TypeId} {k : Nat} (hg : g < w.heap.size) (h : wr.rangeAt g o cs) (HO : wr.ownsRow w.heap.size T k v n xs) (g1 : (wr.alloc x).grownBy w1 v.ownBlock) : w1.rangeAt g o cs := fun j u hu => by
  have hc := h j u hu
  have hlt := block_lt_of_cell hc
  have hc2 : (wr.alloc x).cell? ⟨g, o + j, none⟩ = some u := (((Below.refl _ wr).alloc (Nat.le_refl _) x).cell hlt).trans hc
  rw [World.cell?_of_block (g1.block g (by simp at hlt ⊢; omega) (fun e => by have := (HO.lt g e.symm).1; omega))]
  exact hc2
set_option maxRecDepth 100000 in
set_option maxHeartbeats 8000000 in
theorem put_ret (A : Option Addr) (cap : Nat) (l : List Cn) (k : ByteArray) (n : Int) (w : World) (S : SlR E w A cap l) (hl : l.length ≤ 1000000) :
    Calls Tryz.prog 74 #[.slice A l.length cap, .string k, .int .i64 n] w (NewR E (putC k n false l) w) := by
  have hcap := S.1
  obtain ⟨R, hR⟩ : ∃ R, putC k n false l = R := ⟨_, rfl⟩
  rw [hR]
  have HR := aside hR
  clear hR
  go_enter Tryz.func74, Tryz.ntmps74
  go_wp2
  go_loopw [7, 8, 9] (fun v d i wr => ∃ (j : Nat) (b : Bool) (pre : List Cn), j ≤ l.length ∧ i = .int .i64 j ∧ d = .bool b ∧ pre.length ≤ 2 * j ∧ Hid (R = pre ++ putC k n b (l.drop j)) ∧ Hid (wr.ownsRow w.heap.size E.T E.k v pre.length (flat E pre)) ∧ Below w.heap.size w wr) (fun _ _ i _ => l.length - (intOf i).toNat)
  case atStart => exact ⟨0, false, [], Nat.zero_le _, rfl, rfl, Nat.zero_le _, HR.out.symm, World.ownsRow_nil _ _ _ _, Below.refl _ _⟩
  case round =>
    obtain ⟨j, b, pre, hj, rfl, rfl, hpl, HP, HO, kb⟩ := hrel
    have hsz := kb.size
    by_cases hlt : j < l.length
    · obtain ⟨g, off, rfl, hbw, hr⟩ := CtrW.plain S (by omega)
      obtain ⟨x, hx⟩ : ∃ x, l[j]? = some x := ⟨_, List.getElem?_eq_getElem hlt⟩
      have hrx := range_below (hr j x hx) kb
      obtain ⟨c0, c1⟩ := cells hrx
      have p0 : (j : Int) < l.length := by omega
      have m0 : ((j : Int)).toNat = j := by omega
      have hP := HP.out
      rw [getD_drop hx, put_step] at hP
      have HX := aside hrx
      clear hr S hx HP hrx
      by_cases hk : x.key = k
      · cases b with
        | true =>
          have e0 := str_yes hk
          have e1 := bne_yes hk
          have HP2 : Hid (R = (pre) ++ putC k n true (l.drop (j + 1))) := aside (by
            rw [hP]
            rw [if_neg (by simp)]
            rw [if_pos hk]
            simp)
          clear hP hk
          go_wp2
          go_roundw
          case rel => exact ⟨j + 1, true, pre, by omega, by go_num, rfl, by omega, HP2, HO, kb⟩
          case measure => simp [intOf]; omega
        | false =>
          cases hlt2 : ltS x.key k with
          | true => exact absurd hk (strictS.ne hlt2)
          | false =>
            by_cases hn : n = 0
            · skip
              have e0 := str_yes hk
              have e1 := bne_yes hk
              have HP2 : Hid (R = (pre) ++ putC k n true (l.drop (j + 1))) := aside (by
                rw [hP]
                rw [if_pos ⟨rfl, hlt2⟩, one_no hn]
                rw [if_pos hk]
                simp [hlt2])
              have h2 : Op.bytesLess x.key.toList k.toList = false := hlt2
              have t0 : (n != 0) = false := by simpa using hn
              clear hP hlt2 hn hk
              go_wp2
              go_roundw
              case rel => exact ⟨j + 1, true, pre, by omega, by go_num, rfl, by omega, HP2, HO, kb⟩
              case measure => simp [intOf]; omega
            · skip
              have e0 := str_yes hk
              have e1 := bne_yes hk
              have HP2 : Hid (R = (pre ++ [(⟨k, n⟩ : Cn)]) ++ putC k n true (l.drop (j + 1))) := aside (by
                rw [hP]
                rw [if_pos ⟨rfl, hlt2⟩, one_yes hn]
                rw [if_pos hk]
                simp [hlt2])
              have h2 : Op.bytesLess x.key.toList k.toList = false := hlt2
              have t0 : (n != 0) = true := by simpa using hn
              clear hP hlt2 hn hk
              go_wp2_with (first | (refine wpList_append E rfl (.tmp 29) (.tmp 33) rfl w.heap.size _ _ pre rfl (HO.out.alloc _) _ 1 1 [⟨k, n⟩] rfl rfl (SlR.new1 E wr ⟨k, n⟩ _) (by omega) (by simp; omega) ?_; intro v2 w2 own1 g1; have k2 : Below w.heap.size w w2 := below_grown (kb.alloc hsz _) (by simp; omega) g1 (fun q hq => (HO.out.lt q hq).1); have O2 := aside own1; have HX1 := aside (range_kept hbw HX.out HO.out g1); have cc := cells HX1.out; have c0' := cc.1; have c1' := cc.2; clear own1 g1 cc))
              go_roundw
              case rel => exact ⟨j + 1, true, pre ++ [(⟨k, n⟩ : Cn)], by omega, by go_num, rfl, by simp; omega, HP2, aside (by have := O2.out; simpa using this), k2⟩
              case measure => simp [intOf]; omega
      · cases b with
        | true =>
          have e0 := str_no hk
          have e1 := bne_no hk
          have HP2 : Hid (R = (pre ++ [x]) ++ putC k n true (l.drop (j + 1))) := aside (by
            rw [hP]
            rw [if_neg (by simp)]
            rw [if_neg hk]
            simp)
          clear hP hk
          go_wp2_with (first | (refine wpList_append E rfl (.tmp 42) (.tmp 47) rfl w.heap.size _ _ pre rfl (HO.out.alloc _) _ 1 1 [x] rfl rfl (SlR.new1 E wr x _) (by omega) (by simp; omega) ?_; intro v2 w2 own2 g2; have k2 : Below w.heap.size w w2 := below_grown (kb.alloc hsz _) (by simp; omega) g2 (fun q hq => (HO.out.lt q hq).1); have O2 := aside own2; clear own2 g2))
          go_roundw
          case rel => exact ⟨j + 1, true, pre ++ [x], by omega, by go_num, rfl, by simp; omega, HP2, aside (by have := O2.out; simpa using this), k2⟩
          case measure => simp [intOf]; omega
        | false =>
          cases hlt2 : ltS x.key k with
          | true =>
            have e0 := str_no hk
            have e1 := bne_no hk
            have HP2 : Hid (R = (pre ++ [x]) ++ putC k n false (l.drop (j + 1))) := aside (by
              rw [hP]
              rw [if_neg (by rw [hlt2]; simp)]
              rw [if_neg hk]
              simp [hlt2])
            have h2 : Op.bytesLess x.key.toList k.toList = true := hlt2
            clear hP hlt2 hk
            go_wp2_with (first | (refine wpList_append E rfl (.tmp 42) (.tmp 47) rfl w.heap.size _ _ pre rfl (HO.out.alloc _) _ 1 1 [x] rfl rfl (SlR.new1 E wr x _) (by omega) (by simp; omega) ?_; intro v2 w2 own2 g2; have k2 : Below w.heap.size w w2 := below_grown (kb.alloc hsz _) (by simp; omega) g2 (fun q hq => (HO.out.lt q hq).1); have O2 := aside own2; clear own2 g2))
            go_roundw
            case rel => exact ⟨j + 1, false, pre ++ [x], by omega, by go_num, rfl, by simp; omega, HP2, aside (by have := O2.out; simpa using this), k2⟩
            case measure => simp [intOf]; omega
          | false =>
            by_cases hn : n = 0
            · skip
              have e0 := str_no hk
              have e1 := bne_no hk
              have HP2 : Hid (R = (pre ++ [x]) ++ putC k n true (l.drop (j + 1))) := aside (by
                rw [hP]
                rw [if_pos ⟨rfl, hlt2⟩, one_no hn]
                rw [if_neg hk]
                simp [hlt2])
              have h2 : Op.bytesLess x.key.toList k.toList = false := hlt2
              have t0 : (n != 0) = false := by simpa using hn
              clear hP hlt2 hn hk
              go_wp2_with (first | (refine wpList_append E rfl (.tmp 42) (.tmp 47) rfl w.heap.size _ _ pre rfl (HO.out.alloc _) _ 1 1 [x] rfl rfl (SlR.new1 E wr x _) (by omega) (by simp; omega) ?_; intro v2 w2 own2 g2; have k2 : Below w.heap.size w w2 := below_grown (kb.alloc hsz _) (by simp; omega) g2 (fun q hq => (HO.out.lt q hq).1); have O2 := aside own2; clear own2 g2))
              go_roundw
              case rel => exact ⟨j + 1, true, pre ++ [x], by omega, by go_num, rfl, by simp; omega, HP2, aside (by have := O2.out; simpa using this), k2⟩
              case measure => simp [intOf]; omega
            · skip
              have e0 := str_no hk
              have e1 := bne_no hk
              have HP2 : Hid (R = (pre ++ [(⟨k, n⟩ : Cn)] ++ [x]) ++ putC k n true (l.drop (j + 1))) := aside (by
                rw [hP]
                rw [if_pos ⟨rfl, hlt2⟩, one_yes hn]
                rw [if_neg hk]
                simp [hlt2])
              have h2 : Op.bytesLess x.key.toList k.toList = false := hlt2
              have t0 : (n != 0) = true := by simpa using hn
              clear hP hlt2 hn hk
              go_wp2_with (first | (refine wpList_append E rfl (.tmp 29) (.tmp 33) rfl w.heap.size _ _ pre rfl (HO.out.alloc _) _ 1 1 [⟨k, n⟩] rfl rfl (SlR.new1 E wr ⟨k, n⟩ _) (by omega) (by simp; omega) ?_; intro v1 w1 own1 g1; have k1 : Below w.heap.size w w1 := below_grown (kb.alloc hsz _) (by simp; omega) g1 (fun q hq => (HO.out.lt q hq).1); have O1 := aside own1; have HX1 := aside (range_kept hbw HX.out HO.out g1); have cc := cells HX1.out; have c0' := cc.1; have c1' := cc.2; have s1 := k1.size; clear own1 g1 cc) | (refine wpList_append E rfl (.tmp 42) (.tmp 47) rfl w.heap.size _ _ (pre ++ [⟨k, n⟩]) rfl (O1.out.alloc _) _ 1 1 [x] rfl rfl (SlR.new1 E w1 x _) (by omega) (by simp; omega) ?_; intro v2 w2 own2 g2; have k2 : Below w.heap.size w w2 := below_grown (k1.alloc s1 _) (by simp; omega) g2 (fun q hq => (O1.out.lt q hq).1); have O2 := aside own2; clear own2 g2))
              go_roundw
              case rel => exact ⟨j + 1, true, pre ++ [(⟨k, n⟩ : Cn)] ++ [x], by omega, by go_num, rfl, by simp; omega, HP2, aside (by have := O2.out; simpa using this), k2⟩
              case measure => simp [intOf]; omega
    · have hP := HP.out
      rw [List.drop_of_length_le (by omega)] at hP
      clear HP S
      cases b with
      | true =>
        have HP2 : Hid (R = pre) := aside (by rw [hP]; simp [putC])
        clear hP
        go_wp2
        go_ret
        exact ⟨_, rfl, by rw [HP2.out]; exact HO.out, kb⟩
      | false =>
        by_cases hn : n = 0
        · subst hn
          have t0 : ((0 : Int) != 0) = false := by simp
          have HP2 : Hid (R = pre) := aside (by rw [hP]; simp [putC, CtrM.one])
          clear hP
          go_wp2
          go_ret
          exact ⟨_, rfl, by rw [HP2.out]; exact HO.out, kb⟩
        · have t0 : (n != 0) = true := by simpa using hn
          have HP2 : Hid (R = pre ++ [⟨k, n⟩]) := aside (by rw [hP]; simp [putC, one_yes hn])
          clear hP hn
          go_wp2_with (first | (refine wpList_append E rfl (.tmp 55) (.tmp 59) rfl w.heap.size _ _ pre rfl (HO.out.alloc _) _ 1 1 [⟨k, n⟩] rfl rfl (SlR.new1 E wr ⟨k, n⟩ _) (by omega) (by simp; omega) ?_; intro v2 w2 own2 g2; have k2 : Below w.heap.size w w2 := below_grown (kb.alloc hsz _) (by simp; omega) g2 (fun q hq => (HO.out.lt q hq).1); have O2 := aside own2; clear own2 g2))
          go_ret
          exact ⟨_, rfl, by rw [HP2.out]; have := O2.out; simpa using this, k2⟩
end Go.Proofs.YtnjdkjkihbgkaaaGreat.CtrP
