/- What the project's Read, by a goto, and Mend return: contracts. No condition but sizes. -/
import Derived.Test.YthdpipllighegaaDoorLogB
import Derived.Test.YthdpipllighegaaDoorLogF
import Derived.WalkMore
import Derived.ScopeJumps
namespace Go.Proofs.YthdpipllighegaaDoor.LogR
set_option maxRecDepth 100000
open Go Go.Sort Go.RowKit Byt RotG Small EncM EncC LogM LogC LogD LogE LogF LogB

/-- A scope in which the run jumps back to one label: the way from there is walked once. -/
theorem scope_once {P : Program} {a : Act} {w : World} {Q : Exit → Act → World → Prop} {c rest : Code} (l : Nat) (J : Act → World → Prop) (μ : Act → World → Nat) (hf : findLabel c l = some (Code.skip.seq rest))
    (pass : ∀ a w, J a w → rest.wp P (Exit.jump l (fun a' w' => J a' w' ∧ μ a' w' < μ a w) Q) a w)
    (first : (∀ a w, J a w → rest.wp P (Exit.jump l J Q) a w) → c.wp P (Exit.jump l J Q) a w) : (Code.scope c).wp P Q a w := by
  refine wp_scope_jumps l J μ hf (first fun a w h => wp_mono (pass a w h) fun e a' w' hq => ?_) fun a w h => wp_seq (wp_skip (pass a w h))
  cases e with
  | goto l' => exact ⟨hq.1, hq.2.1⟩
  | normal => exact hq
  | exit id => exact hq
  | ret => exact hq
  | panic ch => exact hq
  | outgrown => exact hq
/-- What holds at each jump. -/
def J (w : World) (A : Option Addr) (len cap : Nat) (l : List Int) (a' : Act) (w' : World) : Prop :=
  Below w.heap.size w w' ∧ ∃ (v4 : Value) (pre : List Pb) (used : Nat) (u6 u7 u8 u9 u10 u11 u12 u13 u14 u15 u16 u17 u18 u19 u20 u21 u22 u23 u24 u25 u26 : Value), a' = { tmps := #[.slice A len cap, undef, .slice none 0 0, .int .i64 0, v4, .int .i64 used, u6, u7, u8, u9, u10, u11, u12, u13, u14, u15, u16, u17, u18, u19, u20, u21, u22, u23, u24, u25, u26], defers := [] } ∧
    Hid (w'.ownsRow w.heap.size 22 1 v4 pre.length (hds pre)) ∧ Hid (Held w' v4 pre) ∧ Hid (readL l = (tx pre ++ (readL (l.drop used)).1, used + (readL (l.drop used)).2)) ∧ used ≤ len ∧ pre.length ≤ used
def intOf : Value → Int | .int _ q => q | _ => 0
theorem recs_of {w w' : World} {v : Value} {ps : List Pb} {l : List (List Int)} {n : Nat} (own : w'.ownsRow w.heap.size 22 1 v ps.length (hds ps)) (h : Held w' v ps) (hl : tx ps = l) (k : Below w.heap.size w w') : ∃ A cap, v = .slice A ps.length cap ∧ Recs l n w (.returned (.tuple #[.slice A ps.length cap, .int .i64 n])) w' := by
  obtain ⟨A, cap, rfl, S⟩ := SlB.held own h
  exact ⟨A, cap, rfl, A, cap, ps, rfl, hl, S, k⟩
set_option maxRecDepth 100000 in
set_option maxHeartbeats 16000000 in
theorem read_ret {w : World} {A : Option Addr} {cap len : Nat} {l : List Int} (S : Sl w A cap l) (hl : l.length = len) (hm : len ≤ 1099511627776) (hK : ShaE.KIn w) :
    Calls Tryd.prog 10 #[.slice A len cap] w (Recs (readL l).1 (readL l).2 w) := by
  have HL := aside hl
  have HM := aside hm
  clear hl hm
  go_enter Tryd.func10, Tryd.ntmps10
  go_wp2
  refine scope_once 0 (J w A len cap l) (fun a' _ => len - (intOf (a'.tmps.getD 5 undef)).toNat) rfl ?_ ?_
  · rintro a' w' ⟨kb, v4, pre, used, u6, u7, u8, u9, u10, u11, u12, u13, u14, u15, u16, u17, u18, u19, u20, u21, u22, u23, u24, u25, u26, rfl, HO, HH, HR, hu, hp⟩
    have Sw := S.below kb
    have K1 := hK.below kb
    have hcap := S.1
    obtain ⟨A1, c1, hs1, S1, hl1⟩ := Sw.part used len (by omega) (by have := HL.out; omega)
    have e1 : (l.drop used).take (len - used) = l.drop used := List.take_of_length_le (by rw [List.length_drop]; have := HL.out; omega)
    rw [e1] at S1 hl1
    have hr1 := fun W => run_part_l W A len cap .i64 used (by omega)
    rw [hs1] at hr1
    have q := first_ret S1 hl1 (by have := HM.out; omega) K1
    have p2 : 0 ≤ (used : Int) := by omega
    have p3 : (used : Int) ≤ (len : Int) := by omega
    obtain ⟨r, hr⟩ : ∃ r, firstL (l.drop used) = r := ⟨_, rfl⟩
    rw [hr] at q
    have HF := aside hr
    have HD := aside hl1
    have hBy := aside S1.bytes
    clear hr e1 hs1 hl1 hcap S Sw S1 hK
    go_wp2_with (first | go_skip)
    refine q.mono ?_
    rintro e w1 ⟨ht, k1⟩
    have b1 := kb.trans (k1.mono kb.size)
    have O1 := aside (owns_below HO.out k1)
    have H1 := aside (HH.out.below k1)
    clear q HO HH
    cases r with
    | none =>
      obtain rfl := ht
      have e2 := readL_none HF.out
      have HE : Hid (readL l = (tx pre, used)) := aside (by rw [HR.out, e2]; simp)
      clear e2
      obtain ⟨A9, c9, rfl, hrec⟩ := recs_of (n := used) O1.out H1.out rfl b1
      have HX := aside hrec
      clear hrec
      go_wp2_with (first | go_skip)
      simp only [Exit.jump]
      refine bodyPost_ret (v := .tuple #[.slice A9 pre.length c9, .int .i64 used]) (by simp [results, Tryd.results10, go_sem]) rfl ?_
      rw [HE.out]
      exact HX.out
    | some x =>
      obtain ⟨A2, c2, he, S2⟩ := ht
      have S3 := S2.below k1
      have hpos := frameL_pos x
      have hfl : (frameL x).length ≤ len - used ∧ x.length ≤ 4000 := by
        obtain ⟨h1, r, h2⟩ := firstL_some hBy.out HF.out
        have h3 := congrArg List.length h2
        rw [List.length_append] at h3
        have := HD.out
        exact ⟨by omega, h1⟩
      have e2 := readL_some HF.out
      rw [List.drop_drop] at e2
      obtain ⟨n, hn⟩ : ∃ n, (frameL x).length = n := ⟨_, rfl⟩
      rw [hn] at e2 hpos hfl he
      subst he
      have HE : ∀ y : Pb, y.bs = x → Hid (readL l = (tx (pre ++ [y]) ++ (readL (l.drop (used + n))).1, (used + n) + (readL (l.drop (used + n))).2)) := fun y hy => aside (by
        rw [HR.out, e2, tx_append, List.append_assoc, Nat.add_assoc]
        simp [tx, hy])
      have HN := aside hn
      have n0 : ¬ (n : Int) = 0 := by omega
      have m1 : IntKind.i64.wrap ((used : Int) + (n : Int)) = (used : Int) + (n : Int) := IntWalk.i64_in _ (by have := HM.out; omega)
      have qc := clone_ret S3 rfl (by omega)
      have bs1 := b1.size
      clear e2 hn HR HF S2
      go_wp2_with (first | go_skip)
      refine qc.mono ?_
      rintro e w2 ⟨A3, c3, rfl, S4, k2, far⟩
      have b2 := b1.trans (k2.mono bs1)
      have O2 := aside (owns_below O1.out k2)
      have hlt : ∀ q, v4.ownBlock = some q → q < w1.heap.size := fun q hq => (O1.out.lt q hq).2
      have H2 := aside ((H1.out.below k2).snoc (p := ⟨A3, c3, x⟩) S4 (fun b off sp e => ⟨fun e2 => by
        have h1 := (far b off sp e).1
        have h2 := hlt b e2
        omega, (far b off sp e).2⟩))
      have bs2 := b2.size
      have ka : Below w2.heap.size w2 (w2.alloc (.cells #[hd ⟨A3, c3, x⟩] 22)) := (Below.refl _ _).alloc (Nat.le_refl _) _
      have O3 := aside (owns_below O2.out ka)
      have H3 := aside (H2.out.below ka)
      have b3 := b2.trans (ka.mono bs2)
      have bs3 := b3.size
      clear qc far hlt k2 H1 O1 b1 bs1 H2 O2
      go_wp2_with (first | go_skip | (refine wpList_append_ps rfl (.tmp 19) (.tmp 22) rfl w.heap.size _ pre.length pre rfl O3.out _ ⟨A3, c3, x⟩ rfl (new1 w2 _ _) (by have := HM.out; omega) bs3 ?_; intro v8 w8 o8 g8 e8; have b8 := below_grown b3 bs3 g8 (fun q hq => (O3.out.lt q hq).1); have H8 := aside (H3.out.grown g8 e8); have O8 := aside o8; clear o8 g8 e8))
      go_step3
      have en : ((used + n : Nat) : Int) = (used : Int) + (n : Int) := by omega
      refine ⟨rfl, ⟨b8, v8, pre ++ [⟨A3, c3, x⟩], used + n, _, _, _, _, _, _, _, _, _, _, _, _, _, _, _, _, _, _, _, _, _, by rw [en], aside (by rw [List.length_append]; exact O8.out), H8, HE _ rfl, by omega, by simp; omega⟩, ?_⟩
      simp [intOf]
      omega
  · intro hon
    go_wp2_with (first | go_skip)
    go_step3
    rename_i K hk
    exact hk _ _ (hon _ _ ⟨Below.refl _ _, .slice none 0 0, [], 0, _, _, _, _, _, _, _, _, _, _, _, _, _, _, _, _, _, _, _, _, _, rfl, aside ⟨rfl, .inl ⟨rfl, rfl⟩⟩, aside (Held.nil _ _), aside (by simp [tx]), Nat.zero_le _, Nat.le_refl _⟩)
/-- What Mend returns. -/
theorem mend_ret {w : World} {A : Option Addr} {cap len : Nat} {l : List Int} (S : Sl w A cap l) (hl : l.length = len) (hm : len ≤ 1099511627776) (hK : ShaE.KIn w) :
    Calls Tryd.prog 15 #[.slice A len cap] w (Gives (mendL l) w) := by
  have q := read_ret S hl hm hK
  have hle := readL_le S.bytes
  have hml : mendL l = l.take (readL l).2 := rfl
  obtain ⟨n, hn⟩ : ∃ n, (readL l).2 = n := ⟨_, rfl⟩
  obtain ⟨rs, hrs⟩ : ∃ rs, (readL l).1 = rs := ⟨_, rfl⟩
  rw [hn, hrs] at q
  rw [hn] at hml hle
  rw [hml]
  obtain ⟨A1, c1, hs1, S1, hl1⟩ := S.part 0 n (by omega) hle
  rw [List.drop_zero, Nat.sub_zero] at S1 hl1
  have hr1 := fun W => run_part_h W A len cap .i64 n (by have := S.1; omega)
  rw [hs1, Nat.sub_zero] at hr1
  have p2 : 0 ≤ (n : Int) := by omega
  have p3 : (n : Int) ≤ (cap : Int) := by have := S.1; omega
  have hn40 : n ≤ 1099511627776 := by omega
  clear hs1 hle hml hn hrs S hl hm hK
  go_enter Tryd.func15, Tryd.ntmps15
  go_wp2_with (first | go_skip)
  refine q.mono ?_
  rintro e w1 ⟨A2, c2, ps, rfl, _, _, k1⟩
  have qc := clone_ret (S1.below k1) hl1 hn40
  clear q
  go_wp2_with (first | go_skip)
  refine qc.mono ?_
  rintro e w2 ⟨A3, c3, rfl, S3, k2, far⟩
  go_wp2_with (first | go_skip)
  go_ret
  exact ⟨A3, c3, by rw [hl1]; rfl, S3, k1.trans (k2.mono k1.size), fun b off sp h => ⟨Nat.le_trans k1.size (far b off sp h).1, (far b off sp h).2⟩⟩
end Go.Proofs.YthdpipllighegaaDoor.LogR
