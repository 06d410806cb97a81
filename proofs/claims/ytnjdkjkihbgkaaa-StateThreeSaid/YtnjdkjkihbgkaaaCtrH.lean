/- What counts returns: a contract. -/
import Derived.Test.YtnjdkjkihbgkaaaStrKJ3
import Derived.Test.YtnjdkjkihbgkaaaStrTJ2
namespace Go.Proofs.Ytnjdkjkihbgkaaa.CtrH
set_option maxRecDepth 100000
open Go Go.RowKit Byt OpsM Rise CtrM RowS RowB CtrW StrK StrT CtrG

/-- The counts of keys, but for those that count nothing. -/
def pick (f : ByteArray → Int) (ks : List ByteArray) : List Cn := ks.filterMap fun x => if f x ≠ 0 then some ⟨x, f x⟩ else none
theorem pick_yes {f : ByteArray → Int} {ks : List ByteArray} {k : Nat} {x : ByteArray} (h : ks[k]? = some x) (hx : f x ≠ 0) : pick f (ks.take (k + 1)) = pick f (ks.take k) ++ [⟨x, f x⟩] := by
  obtain ⟨hk, rfl⟩ := List.getElem?_eq_some_iff.1 h
  unfold pick
  rw [List.take_succ_eq_append_getElem hk, List.filterMap_append]
  simp [hx]
theorem pick_no {f : ByteArray → Int} {ks : List ByteArray} {k : Nat} {x : ByteArray} (h : ks[k]? = some x) (hx : f x = 0) : pick f (ks.take (k + 1)) = pick f (ks.take k) := by
  obtain ⟨hk, rfl⟩ := List.getElem?_eq_some_iff.1 h
  unfold pick
  rw [List.take_succ_eq_append_getElem hk, List.filterMap_append]
  simp [hx]
theorem pick_len (f : ByteArray → Int) (ks : List ByteArray) : (pick f ks).length ≤ ks.length := List.length_filterMap_le _ _
theorem pick_mem {f : ByteArray → Int} {ks : List ByteArray} {c : Cn} : c ∈ pick f ks ↔ c.key ∈ ks ∧ f c.key = c.n ∧ c.n ≠ 0 := by
  unfold pick
  rw [List.mem_filterMap]
  constructor
  · rintro ⟨x, hx, h⟩
    by_cases h0 : f x = 0
    · rw [if_neg (by simp [h0])] at h
      cases h
    · rw [if_pos h0] at h
      injection h with h
      subst h
      exact ⟨hx, rfl, h0⟩
  · rintro ⟨h1, h2, h3⟩
    refine ⟨c.key, h1, ?_⟩
    rw [if_pos (by rw [h2]; exact h3), h2]
theorem pick_rises {f : ByteArray → Int} {ks : List ByteArray} (h : Rises id ltS ks) : Rises Cn.key ltS (pick f ks) := by
  unfold pick Rises
  rw [List.pairwise_filterMap]
  refine h.imp (fun {x y} hxy c hc d hd => ?_)
  split at hc <;> simp at hc
  split at hd <;> simp at hd
  subst hc
  subst hd
  exact hxy
/-- Counts that may be are the counts of their keys. -/
theorem pick_is {f : ByteArray → Int} {ks K : List ByteArray} {T : List Cn} (hs : Rises id ltS ks) (hm : ∀ x, x ∈ ks ↔ x ∈ K) (h0 : ∀ x, x ∉ K → f x = 0) (hT : mayC T = true) (hv : ∀ k, getC T k = f k) : pick f ks = T := by
  refine Rises.ext strictS (pick_rises hs) (mayC_iff.1 hT).2 (fun c => ?_)
  rw [pick_mem, mem_iff hT, hv]
  constructor
  · rintro ⟨_, h2⟩
    exact h2
  · rintro ⟨h1, h2⟩
    refine ⟨?_, h1, h2⟩
    rw [hm]
    refine Classical.byContradiction fun hn => h2 ?_
    rw [← h1]
    exact h0 _ hn

set_option maxHeartbeats 4000000 in
theorem counts_ret (b n : Nat) (K : List ByteArray) (f : ByteArray → Int) (T : List Cn) (w : World) (h : NumIn w b n K f) (hn : n ≤ 1000000) (hT : mayC T = true) (hv : ∀ k, getC T k = f k) :
    Calls Try.prog 38 #[.map (some b)] w (NewR E T w) := by
  have hb := h.lt
  have h0 : ∀ x, x ∉ K → f x = 0 := by obtain ⟨D, _, hD⟩ := h; exact hD.2.2
  obtain ⟨D, hown, hD⟩ := h
  have hsz := hown.size_le
  obtain ⟨i, hi, z0, z1, z2⟩ := info_parts E.info
  obtain ⟨w1, hmk, own1, g1⟩ := run_make_own (P := Try.prog) w w.heap.size 22 53 i (.agg (E.enc E.zero).toArray) 2 Try.underlying22 hi z0 z1 .i64 .i64 (Maps.size D) (by rw [z2]; show 24 * _ ≤ _; omega) (by unfold maxLen; omega) (Nat.le_refl _)
  have hn1 : NumIn w1 b n K f := (show NumIn w b n K f from ⟨D, hown, hD⟩).kept g1 (by simp)
  have kb1 : Below w.heap.size w w1 := below_grown (Below.refl _ _) (Nat.le_refl _) g1 (fun k hk => by cases hk)
  have hri := StrR.rising_ret b n K f w1 hn1 hn
  clear hi z0 z1 z2
  go_enter Try.func38, Try.ntmps38
  go_wp2_with (first | (at_len; refine wpList_len_own _ rfl _ 72 rfl 9 3 Try.underlying72 _ b n D rfl hown ?_))
  refine hri.mono ?_
  rintro e w2 ⟨v, ks, rfl, own2, s1, s2, s3, s4, k2⟩
  have HP := aside (pick_is s1 s2 h0 hT hv)
  have HS := aside s3
  have HM := aside s2
  obtain ⟨A, cap, rfl⟩ : ∃ A cap, v = .slice A ks.length cap := by
    rcases own2.2 with ⟨rfl, e⟩ | ⟨g, cap, cur, rfl, _⟩
    · exact ⟨none, 0, by rw [e]⟩
    · exact ⟨_, _, rfl⟩
  have hn2 := hn1.below k2
  have own3 := own1.kept (grown_of_below k2 none) (.inr (by simp [Value.ownBlock]))
  have kb2 := kb1.trans (k2.mono kb1.size)
  have hA : ∀ g, A = some ⟨g, 0, none⟩ → (Value.slice (some ⟨w.heap.size, 0, none⟩) 0 (Maps.size D)).ownBlock ≠ some g := by
    rintro g rfl e
    simp only [Value.ownBlock, Option.some.injEq] at e
    have := (own2.lt g rfl).1
    have := (own1.lt w.heap.size rfl).2
    omega
  have hA0 : ∀ x, A = some x → ∃ g, A = some ⟨g, 0, none⟩ := by
    rintro x rfl
    rcases own2.2 with ⟨h, _⟩ | ⟨g, cap, cur, h, _⟩
    · cases h
    · injection h with h1
      exact ⟨g, h1⟩
  have hlen : ks.length ≤ 9223372036854775807 := by omega
  clear s1 s2 s3 h0 hT hv hri hmk hown hD own1 hn1 g1 k2 kb1
  go_wp2_with fail
  go_loopw [3, 13] (fun v i wr => ∃ (k : Nat) (acc : List Cn), k ≤ ks.length ∧ i = .int .i64 k ∧ Hid (acc = pick f (ks.take k)) ∧ wr.ownsRow w.heap.size E.T 2 v acc.length (flat E acc) ∧ Hid (∀ g, A = some ⟨g, 0, none⟩ → v.ownBlock ≠ some g) ∧ wr.ownsRow w1.heap.size 9 1 (.slice A ks.length cap) ks.length (ts ks) ∧ NumIn wr b n K f ∧ Below w.heap.size w wr) (fun _ i _ => ks.length - (intOf i).toNat)
  case atStart => exact ⟨0, [], Nat.zero_le _, rfl, aside rfl, own3, aside hA, own2, hn2, kb2⟩
  case round =>
    clear own3 hA own2 hn2 kb2
    obtain ⟨k, acc, hk, rfl, HA, orow, HD, okeys, hset, kb⟩ := hrel
    by_cases hlt : k < ks.length
    · obtain ⟨x, hx⟩ : ∃ x, ks[k]? = some x := ⟨_, List.getElem?_eq_getElem hlt⟩
      have hmx := HS.out x (List.mem_of_getElem? hx)
      obtain ⟨g, rfl⟩ : ∃ g, A = some ⟨g, 0, none⟩ := by
        cases A with
        | none =>
          rcases okeys.2 with ⟨_, e⟩ | ⟨g, cap, cur, h, _⟩
          · omega
          · cases h
        | some y =>
          obtain ⟨g, hg⟩ := hA0 y rfl
          exact ⟨g, hg⟩
      have c0 : wr.cell? ⟨g, k, none⟩ = some (.string x) := by
        have := okeys.cells rfl k (.string x) (by simp [ts, hx])
        rw [Addr.add_lit, Nat.zero_add] at this
        exact this
      have p0 : (k : Int) < ks.length := by omega
      have m0 : ((k : Int)).toNat = k := by omega
      have hacc : acc.length ≤ k := by rw [HA.out]; exact Nat.le_trans (pick_len _ _) (by rw [List.length_take]; omega)
      by_cases hf : f x = 0
      · have HA2 := aside (HA.out.trans (pick_no hx hf).symm)
        have t0 : (f x != 0) = false := by simp [hf]
        clear hx HA hf
        go_wp2_with (first | (refine wpList_find _ rfl _ _ rfl b _ _ f rfl hset x hmx rfl ?_))
        go_roundw
        case rel => exact ⟨k + 1, acc, by omega, by go_num, HA2, orow, HD, okeys, hset, kb⟩
        case measure => simp [intOf]; omega
      · have HA2 := aside ((congrArg (· ++ [(⟨x, f x⟩ : Cn)]) HA.out).trans (pick_yes hx hf).symm)
        have t0 : (f x != 0) = true := by simp [hf]
        have hg := (okeys.lt g rfl).2
        clear hx HA hf
        go_wp2_with (first | (refine wpList_find _ rfl _ _ rfl b _ _ f rfl hset x hmx rfl ?_) | (refine wpList_append_at E rfl (.tmp 22) (.tmp 26) rfl w.heap.size _ _ acc rfl (orow.alloc _) wr.heap.size ⟨x, f x⟩ rfl (Box.new (E := E) wr ⟨x, f x⟩ 53) (by omega) (by have := kb.size; simp; omega) ?_; intro v' w3 orow3 hg3 hv3))
        have kg := (World.grownBy_alloc wr (.cells (E.enc ⟨x, f x⟩).toArray 53) _).trans hg3
        have HD2 : Hid (∀ g1 : Nat, some (⟨g, 0, none⟩ : Addr) = some ⟨g1, 0, none⟩ → v'.ownBlock ≠ some g1) := aside (by
          intro g1 e1
          injection e1 with e1
          injection e1 with e1
          subst e1
          rcases hv3 with e2 | e2
          · rw [e2]
            exact HD.out g rfl
          · rw [e2]
            intro e3
            injection e3 with e3
            simp at e3
            omega)
        have okeys2 := okeys.kept kg (.inr (fun e => HD.out g rfl e.symm))
        have hset2 := hset.kept kg (row_ne_low orow hb)
        have kb2 := below_grown kb kb.size kg (fun q hq => (orow.lt q hq).1)
        clear okeys hset orow hg3 hv3 kg
        go_roundw
        case rel => exact ⟨k + 1, acc ++ [⟨x, f x⟩], by omega, by go_num, HA2, by rw [List.length_append]; exact orow3, HD2, okeys2, hset2, kb2⟩
        case measure => simp [intOf]; omega
    · have e : k = ks.length := by omega
      have HA2 : Hid (acc = T) := aside (by rw [HA.out, e, List.take_length]; exact HP.out)
      clear okeys HA
      go_wp2_with fail
      go_ret
      rw [← HA2.out]
      exact ⟨_, rfl, orow, kb⟩
end Go.Proofs.Ytnjdkjkihbgkaaa.CtrH
