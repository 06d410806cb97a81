/- What gather does to a map: a contract. -/
import Derived.Test.YtommbfkndcaghaaStrK
import Derived.Test.YtommbfkndcaghaaCtrL
import Derived.Test.YtommbfkndcaghaaCtrW
import Derived.Test.YtommbfkndcaghaaRowB
import Derived.Maps.AppendAt
namespace Go.Proofs.Ytommbfkndcaghaa.CtrG
open Go Go.RowKit Byt OpsM Rise CtrM RowS RowB CtrW StrK

theorem w64_wrap (x : Int) : w64 x = wrap64 x := by rw [w64_eq]; unfold wrap64; rfl
theorem in_wrap (x : Int) : StrK.In64 (wrap64 x) := by rw [← w64_wrap]; exact CtrL.w64_in x
/-- One more count, so many times. -/
def more (t : Int) (v : ByteArray → Int) (c : Cn) : ByteArray → Int := upd v c.key (w64 (v c.key + w64 (t * c.n)))
def gath (t : Int) (v : ByteArray → Int) (l : List Cn) : ByteArray → Int := l.foldl (more t) v
theorem gath_snoc (t : Int) (v : ByteArray → Int) (l : List Cn) (c : Cn) : gath t v (l ++ [c]) = more t (gath t v l) c := by simp [gath]
theorem gath_take (t : Int) (v : ByteArray → Int) {l : List Cn} {k : Nat} {c : Cn} (h : l[k]? = some c) : gath t v (l.take (k + 1)) = more t (gath t v (l.take k)) c := by
  obtain ⟨hk, rfl⟩ := List.getElem?_eq_some_iff.1 h
  rw [List.take_succ_eq_append_getElem hk, gath_snoc]
theorem keys_take {l : List Cn} {k : Nat} {c : Cn} (h : l[k]? = some c) (K : List ByteArray) (z : ByteArray) : z ∈ c.key :: (K ++ (l.take k).map Cn.key) ↔ z ∈ K ++ (l.take (k + 1)).map Cn.key := by
  obtain ⟨hk, rfl⟩ := List.getElem?_eq_some_iff.1 h
  rw [List.take_succ_eq_append_getElem hk]
  simp only [List.mem_cons, List.mem_append, List.map_append, List.map_cons, List.map_nil, List.not_mem_nil, or_false]
  constructor
  · rintro (h | h | h)
    · exact .inr (.inr h)
    · exact .inl h
    · exact .inr (.inl h)
  · rintro (h | h | h)
    · exact .inr (.inl h)
    · exact .inr (.inr h)
    · exact .inl h

/-- What comes of counts that rise: each key's number, so many times, more. -/
theorem gath_get (t : Int) : ∀ (l : List Cn) (v : ByteArray → Int) (k : ByteArray), Rises Cn.key ltS l → CtrL.In64 (v k) → gath t v l k = w64 (v k + w64 (t * getC l k))
  | [], v, k, _, hv => by
    show v k = w64 (v k + w64 (t * 0))
    rw [Int.mul_zero, CtrL.w64_id (x := 0) (by unfold CtrL.In64; omega), Int.add_zero, CtrL.w64_id hv]
  | c :: r, v, k, h, hv => by
    obtain ⟨h1, h2⟩ := List.pairwise_cons.1 h
    show gath t (more t v c) r k = _
    by_cases hk : c.key = k
    · have hm : more t v c k = w64 (v k + w64 (t * c.n)) := by unfold more upd; rw [if_pos hk.symm, hk]
      have hr : getC r k = 0 := getC_none (fun d hd => by
        have := strictS.ne (h1 d hd)
        rw [hk] at this
        exact this.symm)
      rw [gath_get t r _ k h2 (by rw [hm]; exact CtrL.w64_in _), hm, hr, getC_cons, if_pos hk, Int.mul_zero, CtrL.w64_id (x := 0) (by unfold CtrL.In64; omega), Int.add_zero, CtrL.w64_id (CtrL.w64_in _)]
    · have hm : more t v c k = v k := by unfold more upd; rw [if_neg (fun e => hk e.symm)]
      rw [gath_get t r _ k h2 (by rw [hm]; exact hv), hm, getC_cons, if_neg hk]

set_option maxHeartbeats 4000000 in
theorem gather_ret (b n : Nat) (K : List ByteArray) (v : ByteArray → Int) (A : Option Addr) (cap : Nat) (l : List Cn) (t : Int) (w : World) (h : NumIn w b n K v) (S : SlR E w A cap l) (hf : Fits l) (hn : n ≤ 1000000) (hl : l.length ≤ 1000000) :
    Calls Try.prog 22 #[.map (some b), .slice A l.length cap, .int .i64 t] w fun e w' => e = .returned (.tuple #[]) ∧ NumIn w' b (n + l.length) (K ++ l.map Cn.key) (gath t v l) ∧ w.grownBy w' (some b) := by
  have hcap := S.1
  go_enter Try.func22, Try.ntmps22
  go_wp2_with fail
  go_loopw [10] (fun i wr => ∃ k : Nat, k ≤ l.length ∧ i = .int .i64 k ∧ NumIn wr b (n + k) (K ++ (l.take k).map Cn.key) (gath t v (l.take k)) ∧ w.grownBy wr (some b)) (fun i _ => l.length - (intOf i).toNat)
  case atStart => exact ⟨0, Nat.zero_le _, rfl, by simpa [gath] using h, grown_of_below (Below.refl _ _) _⟩
  case round =>
    obtain ⟨k, hk, rfl, hset, kg⟩ := hrel
    by_cases hlt : k < l.length
    · obtain ⟨g, off, rfl, hbw, hr⟩ := S.plain (by omega)
      obtain ⟨x, hx⟩ : ∃ x, l[k]? = some x := ⟨_, List.getElem?_eq_getElem hlt⟩
      have hxm := List.mem_of_getElem? hx
      obtain ⟨x1, x2, x3⟩ := hf x hxm
      have hne : g ≠ b := by
        obtain ⟨D, ⟨es, clock, hm, _⟩, _⟩ := h
        exact map_not_cells hm (hr k x hx)
      have hr1 := range_kept (hr k x hx) kg hbw hne
      have HT := aside (gath_take t v hx)
      have HK := aside (keys_take hx K)
      obtain ⟨f, hf0⟩ : ∃ f, gath t v (l.take k) = f := ⟨_, rfl⟩
      rw [hf0] at hset HT
      have p0 : (k : Int) < l.length := by omega
      have m0 : ((k : Int)).toNat = k := by omega
      have hmx : x.key.size ≤ maxLen := by unfold maxLen; omega
      clear hr S hx hf hxm hf0 h
      go_wp2_with (first
        | (refine wpList_load_at E rfl _ rfl g _ rfl x hr1 ?_)
        | (refine wpList_store_new E rfl _ _ rfl _ _ _ rfl x _ rfl rfl rfl rfl ?_; intro w2 bx kx gx sx; have c0 := bx.cell (j := 0) rfl; have c1 := bx.cell (j := 1) rfl)
        | (refine wpList_find _ rfl _ _ rfl b _ _ f rfl (hset.kept gx (by simp)) x.key hmx rfl ?_)
        | (refine wpList_put _ rfl _ _ _ rfl b _ _ f rfl (hset.kept gx (by simp)) (by omega) x.key hmx (wrap64 (f x.key + wrap64 (t * x.n))) (in_wrap _) rfl rfl ?_; intro w3 hs3 hg3))
      go_roundw
      case rel =>
        refine ⟨k + 1, by omega, by go_num, (hs3.congr HK.out (fun z => ?_)).up (by omega), ?_⟩
        · rw [HT.out, ← w64_wrap, ← w64_wrap]
          rfl
        · exact (kg.trans (gx.but _)).trans hg3
      case measure => simp [intOf]; omega
    · have e : k = l.length := by omega
      subst e
      rw [List.take_length] at hset
      go_wp2_with fail
      go_end0
      exact ⟨rfl, hset, kg⟩
end Go.Proofs.Ytommbfkndcaghaa.CtrG
