/- What the document's Inc and Merge of package ctr return: contracts. | How a reading gives a slice of structs that came in. No condition. | How a reading gives counts that came in. No condition. | What the laws on counts ask of lists. No condition. -/
import Derived.Test.YtnjdkjkihbgkaaaGreatCtrHJ2
import Derived.Test.YtnjdkjkihbgkaaaGreatStNJ2
import Derived.ProofKit
import Derived.OpenShut
import Derived.WideShapes
import Derived.Test.YtnjdkjkihbgkaaaGreatEvWJ3
import Derived.Deep.Fields
import Derived.Test.YtnjdkjkihbgkaaaGreatCtrRJ2
import Derived.Test.YtnjdkjkihbgkaaaGreatCtrLJ2
namespace Go.Proofs.YtnjdkjkihbgkaaaGreat.CtrQ
set_option maxRecDepth 100000
open Go Go.RowKit Byt OpsM OpsK Rise CtrM RowS CtrW CtrR CtrP

set_option maxRecDepth 100000 in
set_option maxHeartbeats 4000000 in
theorem inc_ret (A : Option Addr) (cap : Nat) (l : List Cn) (k : ByteArray) (n : Int) (w : World) (S : SlR E w A cap l) (hf : Fits l) (hl : l.length ≤ 1000000) (hk : k.size ≤ 1099511627776) :
    Calls Tryz.prog 30 #[.slice A l.length cap, .string k, .int .i64 n] w (NewS E (incC l k n) w) := by
  have cm := may_ret A cap l w S hf
  have ck := OpsR.key k hk
  have cg := fun W S => get_ret A cap l k W S
  have cp := fun W S => put_ret A cap l k (w64 (getC l k + n)) W S hl
  have hinc : incC l k n = if mayC l = true ∧ keyL (bytesL k) = true then putC k (w64 (getC l k + n)) false l else [] := rfl
  obtain ⟨R, hR⟩ : ∃ R, incC l k n = R := ⟨_, rfl⟩
  rw [hR] at hinc ⊢
  obtain ⟨g, hg⟩ : ∃ g, getC l k = g := ⟨_, rfl⟩
  rw [hg] at cg cp hinc
  obtain ⟨m, hm⟩ : ∃ m, w64 (g + n) = m := ⟨_, rfl⟩
  rw [hm] at cp hinc
  have hw : IntKind.i64.wrap (g + n) = m := hm
  obtain ⟨P, hP⟩ : ∃ P, putC k m false l = P := ⟨_, rfl⟩
  rw [hP] at cp hinc
  obtain ⟨bm, hbm⟩ : ∃ b, mayC l = b := ⟨_, rfl⟩
  obtain ⟨bk, hbk⟩ : ∃ b, keyL (bytesL k) = b := ⟨_, rfl⟩
  rw [hbm] at cm hinc
  rw [hbk] at ck hinc
  have HI := aside hinc
  clear hR hg hm hP hbm hbk hinc hf
  cases bm with
  | false =>
    have HR : Hid (R = []) := aside (by rw [HI.out, if_neg (by simp)])
    go_enter Tryz.func30, Tryz.ntmps30
    go_wp2_with fail
    refine cm.mono ?_
    rintro e w1 ⟨rfl, h1⟩
    go_wp2_with fail
    refine (ck _).mono ?_
    rintro e w' ⟨rfl, rfl⟩
    go_wp2_with fail
    go_ret
    rw [HR.out]
    exact ⟨none, 0, rfl, SlR.nil E _, h1⟩
  | true =>
    cases bk with
    | false =>
      have HR : Hid (R = []) := aside (by rw [HI.out, if_neg (by simp)])
      go_enter Tryz.func30, Tryz.ntmps30
      go_wp2_with fail
      refine cm.mono ?_
      rintro e w1 ⟨rfl, h1⟩
      go_wp2_with fail
      refine (ck _).mono ?_
      rintro e w' ⟨rfl, rfl⟩
      go_wp2_with fail
      go_ret
      rw [HR.out]
      exact ⟨none, 0, rfl, SlR.nil E _, h1⟩
    | true =>
      have HR : Hid (R = P) := aside (by rw [HI.out, if_pos ⟨rfl, rfl⟩])
      go_enter Tryz.func30, Tryz.ntmps30
      go_wp2_with fail
      refine cm.mono ?_
      rintro e w1 ⟨rfl, h1⟩
      have S1 := S.below h1
      go_wp2_with fail
      refine (ck _).mono ?_
      rintro e w' ⟨rfl, rfl⟩
      go_wp2_with fail
      refine (cg _ S1).mono ?_
      rintro e w' ⟨rfl, rfl⟩
      go_wp2_with fail
      refine (cp _ S1).mono ?_
      rintro e w2 h2
      obtain ⟨A2, c2, rfl, S2, h2⟩ := NewR.s h2
      have k2 := h1.trans (h2.mono h1.size)
      clear cp cg cm ck h1 h2 S S1 hw
      go_wp2_with fail
      go_ret
      rw [HR.out]
      exact ⟨A2, c2, rfl, S2, k2⟩

theorem fold_next (base a b l : List Cn) (j : Nat) (x : Cn) (h : l[j]? = some x) : (l.take (j + 1)).foldl (mergeF base a b) [] = mergeF base a b ((l.take j).foldl (mergeF base a b) []) x := by
  obtain ⟨hj, rfl⟩ := List.getElem?_eq_some_iff.1 h
  rw [List.take_succ_eq_append_getElem hj, List.foldl_append]
  rfl
set_option maxRecDepth 100000 in
set_option maxHeartbeats 4000000 in
theorem merge_no (A0 : Option Addr) (c0 : Nat) (l0 : List Cn) (A1 : Option Addr) (c1 : Nat) (l1 : List Cn) (A2 : Option Addr) (c2 : Nat) (l2 : List Cn) (w : World) (S0 : SlR E w A0 c0 l0) (S1 : SlR E w A1 c1 l1) (S2 : SlR E w A2 c2 l2)
    (f0 : Fits l0) (f1 : Fits l1) (f2 : Fits l2) (x y z : Bool) (m0 : mayC l0 = x) (m1 : mayC l1 = y) (m2 : mayC l2 = z) (h : x = false ∨ (x = true ∧ y = false) ∨ (x = true ∧ y = true ∧ z = false)) :
    Calls Tryz.prog 54 #[.slice A0 l0.length c0, .slice A1 l1.length c1, .slice A2 l2.length c2] w (NewS E (mergeC l0 l1 l2) w) := by
  have q0 := may_ret A0 c0 l0 w S0 f0
  have q1 := fun W S => may_ret A1 c1 l1 W S f1
  have q2 := fun W S => may_ret A2 c2 l2 W S f2
  have hR : mergeC l0 l1 l2 = [] := by
    unfold mergeC
    rw [m0, m1, m2, if_neg]
    rintro ⟨a, b, c⟩
    rcases h with h | ⟨_, h⟩ | ⟨_, _, h⟩
    · rw [a] at h; cases h
    · rw [b] at h; cases h
    · rw [c] at h; cases h
  rw [hR]
  rw [m0] at q0
  rw [m1] at q1
  rw [m2] at q2
  clear m0 m1 m2 hR f0 f1 f2
  rcases h with rfl | ⟨rfl, rfl⟩ | ⟨rfl, rfl, rfl⟩
  all_goals
    go_enter Tryz.func54, Tryz.ntmps54
    go_wp2_with fail
    refine q0.mono ?_
    rintro e w1 ⟨rfl, h1⟩
    have T1 := S1.below h1
    have T2 := S2.below h1
    clear S0 S1 S2 q0
    go_wp2_with fail
    refine (q1 _ T1).mono ?_
    rintro e w2 ⟨rfl, h2⟩
    have k2 := h1.trans (h2.mono h1.size)
    have U2 := T2.below h2
    clear T1 T2 h1 h2 q1
    go_wp2_with fail
    refine (q2 _ U2).mono ?_
    rintro e w3 ⟨rfl, h3⟩
    have k3 := k2.trans (h3.mono k2.size)
    clear U2 h3 k2 q2
    go_wp2_with fail
    go_ret
    exact ⟨none, 0, rfl, SlR.nil E _, k3⟩

set_option maxRecDepth 100000 in
set_option maxHeartbeats 8000000 in
theorem merge_yes (A0 : Option Addr) (c0 : Nat) (l0 : List Cn) (A1 : Option Addr) (c1 : Nat) (l1 : List Cn) (A2 : Option Addr) (c2 : Nat) (l2 : List Cn) (w : World) (S0 : SlR E w A0 c0 l0) (S1 : SlR E w A1 c1 l1) (S2 : SlR E w A2 c2 l2)
    (f0 : Fits l0) (f1 : Fits l1) (f2 : Fits l2) (b0 : l0.length ≤ 100000) (b1 : l1.length ≤ 100000) (b2 : l2.length ≤ 100000) (m0 : mayC l0 = true) (m1 : mayC l1 = true) (m2 : mayC l2 = true) :
    Calls Tryz.prog 54 #[.slice A0 l0.length c0, .slice A1 l1.length c1, .slice A2 l2.length c2] w (NewS E (mergeC l0 l1 l2) w) := by
  have q0 := may_ret A0 c0 l0 w S0 f0
  have q1 := fun W S => may_ret A1 c1 l1 W S f1
  have q2 := fun W S => may_ret A2 c2 l2 W S f2
  rw [mergeC_fold ⟨m0, m1, m2⟩]
  rw [m0] at q0
  rw [m1] at q1
  rw [m2] at q2
  clear m0 m1 m2 f0 f1 f2
  obtain ⟨L, hL⟩ : ∃ L, l0 ++ l1 ++ l2 = L := ⟨_, rfl⟩
  have hLl : L.length = l0.length + l1.length + l2.length := by rw [← hL]; simp [Nat.add_assoc]
  rw [hL]
  obtain ⟨R, hR⟩ : ∃ R, L.foldl (mergeF l0 l1 l2) [] = R := ⟨_, rfl⟩
  rw [hR]
  have HR := aside hR
  have HL := aside hL
  have HLl := aside hLl
  clear hR hL hLl
  go_enter Tryz.func54, Tryz.ntmps54
  go_wp2_with fail
  refine q0.mono ?_
  rintro e w1 ⟨rfl, h1⟩
  have k1 := h1
  have T0 := S0.below h1
  have T1 := S1.below h1
  have T2 := S2.below h1
  clear S0 S1 S2 q0 h1
  go_wp2_with fail
  refine (q1 _ T1).mono ?_
  rintro e w2 ⟨rfl, h2⟩
  have k2 := k1.trans (h2.mono k1.size)
  have U0 := T0.below h2
  have U1 := T1.below h2
  have U2 := T2.below h2
  clear T0 T1 T2 h2 q1 k1
  go_wp2_with fail
  refine (q2 _ U2).mono ?_
  rintro e w3 ⟨rfl, h3⟩
  have k3 := k2.trans (h3.mono k2.size)
  have V0 := U0.below h3
  have V1 := U1.below h3
  have V2 := U2.below h3
  clear U0 U1 U2 h3 k2 q2
  have s3 := k3.size
  go_wp2_with (first
    | (refine wpList_append E rfl (.const (.slice none 0 0)) (.tmp 30) rfl w3.heap.size (.slice none 0 0) 0 [] rfl (World.ownsRow_nil _ _ _ _) A0 l0.length c0 l0 rfl rfl V0 (by omega) (Nat.le_refl _) ?_; intro v4 w4 own4 g4; have j4 : Below w3.heap.size w3 w4 := below_grown (Below.refl _ _) (Nat.le_refl _) g4 (fun q hq => by cases hq); rw [Nat.zero_add, List.nil_append] at own4; have O4 := aside own4; have V1' := V1.below j4; have t4 := j4.size; clear own4 g4)
    | (refine wpList_append E rfl (.tmp 31) (.tmp 32) rfl w3.heap.size v4 l0.length l0 rfl O4.out A1 l1.length c1 l1 rfl rfl V1' (by omega) t4 ?_; intro v5 w5 own5 g5; have j5 : Below w3.heap.size w3 w5 := below_grown j4 t4 g5 (fun q hq => (O4.out.lt q hq).1); have O5 := aside own5; have V2' := V2.below j5; have t5 := j5.size; clear own5 g5)
    | (refine wpList_append E rfl (.tmp 33) (.tmp 34) rfl w3.heap.size v5 (l0.length + l1.length) (l0 ++ l1) rfl O5.out A2 l2.length c2 l2 rfl rfl V2' (by omega) t5 ?_; intro v6 w6 own6 g6; have j6 : Below w3.heap.size w3 w6 := below_grown j5 t5 g6 (fun q hq => (O5.out.lt q hq).1); rw [HL.out] at own6; have O6 := aside own6; clear own6 g6))
  have k6 : Below w.heap.size w w6 := k3.trans (j6.mono s3)
  have own6 := O6.out
  rw [← HLl.out] at own6
  obtain ⟨A6, c6, rfl, S6⟩ := SlR.own own6
  have W0 := V0.below j6
  have W1 := V1.below j6
  have W2 := V2.below j6
  clear V0 V1 V2 V1' V2' O4 O5 O6 own6 j4 j5 j6 t4 t5 k3 s3
  have hc6 := S6.1
  have hLb : L.length ≤ 300000 := by have := HLl.out; omega
  clear HLl
  go_loopw [11, 12] (fun v i wr => ∃ (j : Nat) (pre : List Cn) (A : Option Addr) (c : Nat), j ≤ L.length ∧ i = .int .i64 j ∧ v = .slice A pre.length c ∧ pre.length ≤ j ∧ Hid ((L.take j).foldl (mergeF l0 l1 l2) [] = pre) ∧ SlR E wr A c pre ∧ Below w6.heap.size w6 wr) (fun _ i _ => L.length - (intOf i).toNat)
  case atStart => exact ⟨0, [], none, 0, Nat.zero_le _, rfl, rfl, Nat.le_refl _, aside rfl, SlR.nil E _, Below.refl _ _⟩
  case round =>
    obtain ⟨j, pre, A, c, hj, rfl, rfl, hpl, HP, SP, kb⟩ := hrel
    by_cases hlt : j < L.length
    · obtain ⟨g, off, rfl, hbw, hr⟩ := CtrW.plain S6 (by omega)
      obtain ⟨x, hx⟩ : ∃ x, L[j]? = some x := ⟨_, List.getElem?_eq_getElem hlt⟩
      obtain ⟨c0', c1'⟩ := cells (range_below (hr j x hx) kb)
      have p0 : (j : Int) < L.length := by omega
      have m0 : ((j : Int)).toNat = j := by omega
      have X0 := W0.below kb
      have X1 := W1.below kb
      have X2 := W2.below kb
      have y1 := get_ret A1 c1 l1 x.key wr X1
      have y2 := get_ret A2 c2 l2 x.key wr X2
      have y0 := get_ret A0 c0 l0 x.key wr X0
      have hs : sumC l0 l1 l2 x.key = w64 (w64 (getC l1 x.key + getC l2 x.key) - getC l0 x.key) := rfl
      have hn := fold_next l0 l1 l2 L j x hx
      have hput := put_ret A c pre x.key (sumC l0 l1 l2 x.key) wr SP (by omega)
      have hF : mergeF l0 l1 l2 pre x = putC x.key (sumC l0 l1 l2 x.key) false pre := rfl
      have hFl : (mergeF l0 l1 l2 pre x).length ≤ pre.length + 1 := putC_length _ _ _
      rw [HP.out] at hn
      rw [← hF] at hput
      obtain ⟨P, hP⟩ : ∃ P, mergeF l0 l1 l2 pre x = P := ⟨_, rfl⟩
      rw [hP] at hn hput hFl
      obtain ⟨v1, hv1⟩ : ∃ v, getC l1 x.key = v := ⟨_, rfl⟩
      obtain ⟨v2, hv2⟩ : ∃ v, getC l2 x.key = v := ⟨_, rfl⟩
      obtain ⟨v0, hv0⟩ : ∃ v, getC l0 x.key = v := ⟨_, rfl⟩
      rw [hv1] at y1
      rw [hv2] at y2
      rw [hv0] at y0
      rw [hv1, hv2, hv0] at hs
      obtain ⟨s1, hs1⟩ : ∃ s, w64 (v1 + v2) = s := ⟨_, rfl⟩
      rw [hs1] at hs
      obtain ⟨s2, hs2⟩ : ∃ s, sumC l0 l1 l2 x.key = s := ⟨_, rfl⟩
      rw [hs2] at hs hput
      have z1 : IntKind.i64.wrap (v1 + v2) = s1 := hs1
      have z2 : IntKind.i64.wrap (s1 - v0) = s2 := hs.symm
      have HN := aside hn
      clear hr hx hs hn hF hP hv1 hv2 hv0 hs1 hs2 HP X0 X1 X2
      go_wp2_with fail
      refine y1.mono ?_
      rintro e w' ⟨rfl, rfl⟩
      go_wp2_with fail
      refine y2.mono ?_
      rintro e w' ⟨rfl, rfl⟩
      go_wp2_with fail
      refine y0.mono ?_
      rintro e w' ⟨rfl, rfl⟩
      go_wp2_with fail
      refine hput.mono ?_
      rintro e w7 h7
      obtain ⟨A7, c7, rfl, S7, k7⟩ := NewR.s h7
      have k8 := kb.trans (k7.mono kb.size)
      clear h7 k7 hput y1 y2 y0 z1 z2 SP
      go_wp2_with fail
      go_roundw
      case rel => exact ⟨j + 1, P, A7, c7, by omega, by go_num, rfl, by omega, HN, S7, k8⟩
      case measure => simp [intOf]; omega
    · have HE : Hid (R = pre) := aside (by
        have := HP.out
        rw [List.take_of_length_le (by omega)] at this
        rw [← HR.out, this])
      clear HP
      go_wp2
      go_ret
      rw [HE.out]
      exact ⟨A, c, rfl, SP, k6.trans (kb.mono k6.size)⟩

/-- What the document's Merge returns. -/
theorem merge_ret (A0 : Option Addr) (c0 : Nat) (l0 : List Cn) (A1 : Option Addr) (c1 : Nat) (l1 : List Cn) (A2 : Option Addr) (c2 : Nat) (l2 : List Cn) (w : World) (S0 : SlR E w A0 c0 l0) (S1 : SlR E w A1 c1 l1) (S2 : SlR E w A2 c2 l2)
    (f0 : Fits l0) (f1 : Fits l1) (f2 : Fits l2) (b0 : l0.length ≤ 100000) (b1 : l1.length ≤ 100000) (b2 : l2.length ≤ 100000) :
    Calls Tryz.prog 54 #[.slice A0 l0.length c0, .slice A1 l1.length c1, .slice A2 l2.length c2] w (NewS E (mergeC l0 l1 l2) w) := by
  cases m0 : mayC l0 with
  | false => exact merge_no A0 c0 l0 A1 c1 l1 A2 c2 l2 w S0 S1 S2 f0 f1 f2 _ _ _ m0 rfl rfl (.inl rfl)
  | true =>
    cases m1 : mayC l1 with
    | false => exact merge_no A0 c0 l0 A1 c1 l1 A2 c2 l2 w S0 S1 S2 f0 f1 f2 _ _ _ m0 m1 rfl (.inr (.inl ⟨rfl, rfl⟩))
    | true =>
      cases m2 : mayC l2 with
      | false => exact merge_no A0 c0 l0 A1 c1 l1 A2 c2 l2 w S0 S1 S2 f0 f1 f2 _ _ _ m0 m1 m2 (.inr (.inr ⟨rfl, rfl, rfl⟩))
      | true => exact merge_yes A0 c0 l0 A1 c1 l1 A2 c2 l2 w S0 S1 S2 f0 f1 f2 b0 b1 b2 m0 m1 m2
end Go.Proofs.YtnjdkjkihbgkaaaGreat.CtrQ
namespace Go.Proofs.YtnjdkjkihbgkaaaGreat.OpenR
set_option maxRecDepth 100000
open Go Go.ChangeShapes Go.WideShapes Go.ChangeAt Go.RowKit Byt RowS

section
variable {H : Type} {enc : TypeId × Value → H} {W : World} {base : Nat} {α : Type}
theorem list_of {p : Nat → α → Prop} : ∀ n : Nat, (∀ i, i < n → ∃ x, p i x) → ∃ l : List α, l.length = n ∧ ∀ i x, l[i]? = some x → p i x
  | 0, _ => ⟨[], rfl, fun i x hx => by simp at hx⟩
  | n + 1, h => by
    obtain ⟨l, hl, hp⟩ := list_of n (fun i hi => h i (by omega))
    obtain ⟨x, hx⟩ := h n (by omega)
    refine ⟨l ++ [x], by simp [hl], fun i y hy => ?_⟩
    by_cases hin : i < n
    · rw [List.getElem?_append_left (by omega)] at hy
      exact hp i y hy
    · rw [List.getElem?_append_right (by omega), hl] at hy
      have hi : i - n = 0 := by
        have := (List.getElem?_eq_some_iff.1 hy).1
        simpa using this
      rw [hi] at hy
      obtain rfl : x = y := by simpa using hy
      rw [show i = n by omega]
      exact hx
/-- The cell at a place of a list's cells. -/
theorem flat_split (E : Enc α) {l : List α} {i : Nat} {v : Value} (h : (flat E l)[i]? = some v) : ∃ m j x, i = m * E.k + j ∧ l[m]? = some x ∧ (E.enc x)[j]? = some v := by
  have hi := (List.getElem?_eq_some_iff.1 h).1
  rw [flat_length] at hi
  have hp := E.pos
  have hm : i / E.k < l.length := (Nat.div_lt_iff_lt_mul hp).2 hi
  have hx : l[i / E.k]? = some l[i / E.k] := List.getElem?_eq_getElem hm
  have hj : i % E.k < (E.enc l[i / E.k]).length := by rw [E.len]; exact Nat.mod_lt _ hp
  have hv : (E.enc l[i / E.k])[i % E.k]? = some ((E.enc l[i / E.k])[i % E.k]'hj) := List.getElem?_eq_getElem hj
  have e : i = i / E.k * E.k + i % E.k := by rw [Nat.mul_comm]; exact (Nat.div_add_mod i E.k).symm
  have := flat_at E l _ _ _ _ hx hv
  rw [← e, h] at this
  exact ⟨_, _, _, e, hx, by rw [hv]; exact this.symm⟩
set_option maxRecDepth 100000 in
theorem open_rows (E : Enc α) {good : α → Prop} (hC : Tryz.prog.cellsOf E.T = E.k)
    (hread : ∀ (fuel : Nat) (cs : List Value) (y : DataW H × List MemPlace), DataW.trod enc Tryz.prog W 0 (fun _ => true) true fuel E.T cs = some y → ∃ x, cs = E.enc x ∧ good x) {v : Value} {d : DataW H} {p : List MemPlace}
    (hval : Value.okWide Tryz.prog W .any base E.S v) (h : DataW.Trod enc Tryz.prog W 0 (fun _ => true) true E.S v d p) : ∃ A cap l, v = .slice A (List.length l) cap ∧ SlR E W A cap l ∧ ∀ x ∈ l, good x := by
  obtain ⟨a, len, cap, rfl⟩ := okWide_slice E.slice hval
  obtain ⟨fuel, hf⟩ := h
  rcases DataW.trod_slice E.slice hf with ⟨hcs, _⟩ | ⟨x, len', cap', elems, rest, n, _, hcs, _, _, hl, hm, hel, hcell, _, _⟩
  · simp [Value.cells] at hcs
    obtain ⟨rfl, rfl, rfl⟩ := hcs
    exact ⟨none, 0, [], rfl, SlR.nil E W, by simp⟩
  · simp [Value.cells] at hcs
    obtain ⟨rfl, rfl, rfl⟩ := hcs
    rw [hC] at hcell
    have key : ∀ i, i < len → ∃ y : α, good y ∧ ∀ j u, (E.enc y)[j]? = some u → W.cell? (x.add (i * E.k + j)) = some u := by
      intro i hi
      have hi1 := hcell i hi
      rw [List.getElem?_eq_getElem (by omega)] at hi1
      rw [Option.bind_eq_some_iff] at hi1
      obtain ⟨cl, hcl, htr⟩ := hi1
      obtain ⟨y, rfl, hy⟩ := hread _ _ _ htr
      refine ⟨y, hy, fun j u hj => ?_⟩
      obtain ⟨_, _, hg⟩ := World.cells?_some hcl
      have hjl := (List.getElem?_eq_some_iff.1 hj).1
      rw [E.len] at hjl
      have := hg j hjl
      rw [Addr.add_add, hj] at this
      exact this
    obtain ⟨l, hll, hp⟩ := list_of len key
    refine ⟨some x, cap, l, by rw [hll], ⟨by omega, hm, .inr ⟨x, rfl, fun i u hu => ?_⟩⟩, fun y hy => ?_⟩
    · obtain ⟨m, j, y, rfl, hy, hj⟩ := flat_split E hu
      exact (hp m y hy).2 j u hj
    · obtain ⟨i, hi⟩ := List.mem_iff_getElem?.1 hy
      exact (hp i y hi).1
end
end Go.Proofs.YtnjdkjkihbgkaaaGreat.OpenR
namespace Go.Proofs.YtnjdkjkihbgkaaaGreat.OpenC
set_option maxRecDepth 100000
open Go Go.Deep Go.ChangeShapes Go.WideShapes Go.ChangeAt Go.RowKit Byt CtrM RowS CtrW

/-- A count that came in. -/
def Good (c : Cn) : Prop := c.key.size ≤ maxLen ∧ -9223372036854775808 ≤ c.n ∧ c.n ≤ 9223372036854775807
theorem read_ctr {H : Type} {enc : TypeId × Value → H} {W : World} {sp : Nat → Bool} {hd : Bool} {t : TypeId} {f0 f1 : Field} (hs : Tryz.prog.underlying t = some (.struct #[f0, f1])) (hone : oneCellFields Tryz.prog #[f0, f1] = true) (hC : Tryz.prog.cellsOf t = 2)
    (h0 : Tryz.prog.underlying f0.type = some .string) (h1 : Tryz.prog.underlying f1.type = some (.int .i64)) (fuel : Nat) (cs : List Value) (y : DataW H × List MemPlace)
    (h : DataW.trod enc Tryz.prog W 0 sp hd fuel t cs = some y) : ∃ x : Cn, cs = E.enc x ∧ Good x := by
  obtain ⟨xs, n, _, _, hl, hlen, hf⟩ := DataW.trod_struct hs h
  rw [hC] at hl
  obtain ⟨a, b, rfl⟩ : ∃ a b, cs = [a, b] := by
    match cs, hl with
    | [a, b], _ => exact ⟨a, b, rfl⟩
  obtain ⟨y0, y1, rfl⟩ : ∃ a b, xs = [a, b] := by
    match xs, hlen with
    | [a, b], _ => exact ⟨a, b, rfl⟩
  obtain ⟨o0, k0⟩ := hone_of hone 0 f0 rfl
  obtain ⟨o1, k1⟩ := hone_of hone 1 f1 rfl
  have e0 := hf 0 f0 rfl
  have e1 := hf 1 f1 rfl
  rw [o0, k0] at e0
  rw [o1, k1] at e1
  simp only [List.drop_zero, List.take_succ_cons, List.take_zero, List.drop_succ_cons, List.getElem?_cons_zero, List.getElem?_cons_succ] at e0 e1
  obtain ⟨s, q0, _, w0⟩ := DataW.trod_string h0 e0
  obtain ⟨m, q1, _, w1⟩ := DataW.trod_int h1 e1
  simp only [List.cons.injEq, and_true] at q0 q1
  subst q0 q1
  have hb : -9223372036854775808 ≤ m ∧ m ≤ 9223372036854775807 := by simpa [Lit.wf, IntKind.min, IntKind.max, IntKind.bits, IntKind.signed] using w1
  exact ⟨⟨s, m⟩, rfl, w0, hb⟩
theorem open_ctrs {H : Type} {enc : TypeId × Value → H} {W : World} {base : Nat} {v : Value} {d : DataW H} {p : List MemPlace}
    (hval : Value.okWide Tryz.prog W .any base 22 v) (h : DataW.Trod enc Tryz.prog W 0 (fun _ => true) true 22 v d p) : ∃ A cap l, v = .slice A (List.length l) cap ∧ SlR E W A cap l ∧ ∀ x ∈ l, Good x :=
  OpenR.open_rows E (by kernel_rfl) (fun fuel cs y => read_ctr Tryz.underlying75 (by kernel_rfl) (by kernel_rfl) Tryz.underlying9 Tryz.underlying3 fuel cs y) hval h
end Go.Proofs.YtnjdkjkihbgkaaaGreat.OpenC
namespace Go.Proofs.YtnjdkjkihbgkaaaGreat.CtrX
set_option maxRecDepth 100000
open Go Go.RowKit Byt OpsM Rise CtrM RowS CtrW CtrS CtrL OpenC

theorem inl_of {l : List Cn} (h : ∀ c ∈ l, OpenC.Good c) : InL l := fun c hc => (h c hc).2
theorem max_of {l : List Cn} (h : ∀ c ∈ l, OpenC.Good c) : ∀ c ∈ l, c.key.size ≤ maxLen := fun c hc => (h c hc).1
theorem few_len {l : List Cn} (h : fewB l = true) : l.length ≤ 30 := by
  unfold fewB at h
  simp only [Bool.and_eq_true, decide_eq_true_eq] at h
  exact h.1
theorem few_fits {l : List Cn} (h : fewB l = true) (hg : InL l) : Fits l := by
  unfold fewB at h
  simp only [Bool.and_eq_true, decide_eq_true_eq, List.all_eq_true] at h
  intro c hc
  have h1 := h.2 c hc
  have h2 := hg c hc
  unfold In64 at h2
  exact ⟨by omega, h2.1, h2.2⟩
theorem may_fits {l : List Cn} (h : mayC l = true) (hg : InL l) : Fits l := by
  intro c hc
  have h1 := keyL_len (keys_ok h c hc)
  have h2 := hg c hc
  have h3 := bytesL_length c.key
  unfold In64 at h2
  exact ⟨by omega, h2.1, h2.2⟩
theorem nil_fits : Fits [] := fun c hc => by simp at hc
theorem inc_fits {l : List Cn} (k : ByteArray) (n : Int) (hg : InL l) : Fits (incC l k n) := by
  cases hm : mayC l with
  | false => rw [inc_no n (.inl hm)]; exact nil_fits
  | true =>
    cases hk : keyL (bytesL k) with
    | false => rw [inc_no n (.inr hk)]; exact nil_fits
    | true => exact may_fits (inc_may n hm hk) (inc_in k n hg)
theorem merge_all {base a b : List Cn} : (mayC base = true ∧ mayC a = true ∧ mayC b = true) ∨ mergeC base a b = [] := by
  by_cases h : mayC base = true ∧ mayC a = true ∧ mayC b = true
  · exact .inl h
  · exact .inr (by unfold mergeC; rw [if_neg h])
theorem merge_fits (base a b : List Cn) : Fits (mergeC base a b) := by
  rcases merge_all (base := base) (a := a) (b := b) with ⟨h0, h1, h2⟩ | h
  · exact may_fits (merge_may h0 h1 h2) (merge_in h0 h1 h2)
  · rw [h]; exact nil_fits
theorem inc_len (l : List Cn) (k : ByteArray) (n : Int) : (incC l k n).length ≤ l.length + 1 := by
  unfold incC
  split
  · exact putC_length _ _ _
  · simp
theorem merge_len (base a b : List Cn) : (mergeC base a b).length ≤ base.length + a.length + b.length := by
  unfold mergeC
  split
  · have := mergeF_length base a b (base ++ a ++ b) []
    unfold mergeF at this
    simp only [List.length_append, List.length_nil, Nat.zero_add] at this
    exact this
  · simp
theorem same_yes {a b : List Cn} (h : a = b) : sameB a b = true := sameB_iff.2 h
/-- The chapter's example. -/
def a1 : List Cn := [⟨⟨#[97]⟩, 1⟩]
def a3 : List Cn := [⟨⟨#[97]⟩, 3⟩]
def b5 : List Cn := [⟨⟨#[98]⟩, 5⟩]
def ab : List Cn := [⟨⟨#[97]⟩, 2⟩, ⟨⟨#[98]⟩, 5⟩]
theorem merge_ex : mergeC a1 a3 b5 = ab := by kernel_rfl
theorem may_ab : mayC ab = true := by kernel_rfl
theorem get_ab : getC ab ⟨#[98]⟩ = 5 := by kernel_rfl
theorem inc_ab : incC ab ⟨#[98]⟩ (-5) = [⟨⟨#[97]⟩, 2⟩] := by kernel_rfl
end Go.Proofs.YtnjdkjkihbgkaaaGreat.CtrX
