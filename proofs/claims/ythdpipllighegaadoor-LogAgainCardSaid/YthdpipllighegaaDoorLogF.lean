/- What the project's reader of the first frame returns: a contract. No condition but sizes. -/
import Derived.Test.YthdpipllighegaaDoorLogE
import Derived.Test.YthdpipllighegaaDoorEncG
import Derived.Test.YthdpipllighegaaDoorArrEq
namespace Go.Proofs.YthdpipllighegaaDoor.LogF
set_option maxRecDepth 100000
open Go Go.Sort Go.RowKit Byt RotG Small EncM EncC LogM LogC LogD LogE

theorem bv_get (l : List Int) (i : Nat) (h : i < l.length) : (Byt.bv l).toArray[i]? = some (.int .u8 (l.getD i 0)) := by
  rw [List.getElem?_toArray, bv_at _ h]
/-- Two marks compared. -/
theorem equal_m (d : Nat) (w : World) {x y : List Int} (hx : x.length = 4) (hy : y.length = 4) : (Op.equalIn (d + 2) 38 (.agg (Byt.bv x).toArray) (.agg (Byt.bv y).toArray)).run Tryd.prog w = .ok (decide (x = y)) w := by
  obtain ⟨i, hi, _, _, _⟩ := info_parts zero_u8
  rw [ArrEq.equal_ints w d Tryd.underlying38 Tryd.underlying5 hi (by kernel_rfl) (Byt.bv x).toArray (Byt.bv y).toArray (fun i => x.getD i 0) (fun i => y.getD i 0) (fun i hi => ⟨bv_get x i (by omega), bv_get y i (by omega)⟩)]
  congr 1
  rw [Bool.eq_iff_iff, List.all_eq_true, decide_eq_true_eq]
  constructor
  · intro h
    refine List.ext_getElem (by omega) fun i h1 h2 => ?_
    have := h i (by simp; omega)
    simpa [List.getD_eq_getElem?_getD, List.getElem?_eq_getElem h1, List.getElem?_eq_getElem h2] using this
  · rintro rfl i _
    simp
/-- What is told of the first frame: its record, a part of the bytes, and how many bytes it has. -/
def Told (w : World) (r : Option (List Int)) (e : Ending) : Prop :=
  match r with
  | none => e = .returned (.tuple #[.slice none 0 0, .int .i64 0])
  | some x => ∃ A cap, e = .returned (.tuple #[.slice A x.length cap, .int .i64 ((frameL x).length : Nat)]) ∧ Sl w A cap x
theorem Told.no {w : World} {r : Option (List Int)} (h : r = none) : Told w r (.returned (.tuple #[.slice none 0 0, .int .i64 0])) := by
  subst h
  rfl
set_option maxRecDepth 100000 in
set_option maxHeartbeats 8000000 in
theorem first_ret {w : World} {A : Option Addr} {cap len : Nat} {l : List Int} (S : Sl w A cap l) (hl : l.length = len) (hm : len ≤ 1099511627776) (hK : ShaE.KIn w) :
    Calls Tryd.prog 22 #[.slice A len cap] w fun e w' => Told w (firstL l) e ∧ Below w.heap.size w w' := by
  have q := EncG.get S hl
  obtain ⟨N, hN⟩ : ∃ N, (getL l).1 = N := ⟨_, rfl⟩
  obtain ⟨k, hk⟩ : ∃ k, (getL l).2 = k := ⟨_, rfl⟩
  have hle := getL_le S.bytes
  have hF : firstL l = if k = 0 ∨ 4000 < N then none else if l.length < k + N + 4 then none else if ((l.drop k).drop N).take 4 = markL ((l.drop k).take N) then some ((l.drop k).take N) else none := by rw [← hk, ← hN]; rfl
  rw [hN, hk] at q hle
  obtain ⟨hN64, hk10, hkl⟩ := hle
  have hcap := S.1
  have hcap2 := S.2.1
  by_cases k0 : k = 0
  · subst k0
    have HF : Hid (firstL l = none) := aside (by rw [hF, if_pos (.inl rfl)])
    clear hF hN hk S hl hm hN64 hk10 hkl hcap hcap2
    go_enter Tryd.func22, Tryd.ntmps22
    go_wp2_with (first | go_skip)
    refine q.mono ?_
    rintro e w1 ⟨rfl, k1⟩
    clear q
    go_wp2_with (first | go_skip)
    exact bodyPost_ret (v := .tuple #[.slice none 0 0, .int .i64 0]) (by simp [results, Tryd.results22, go_sem]) rfl ⟨Told.no HF.out, k1⟩
  by_cases n4 : 4000 < N
  · have p0 : ¬ (k : Int) = 0 := by omega
    have HF : Hid (firstL l = none) := aside (by rw [hF, if_pos (.inr n4)])
    have p1 : (4000 : Int) < (N : Int) := by omega
    clear hF hN hk S hl hm hN64 hk10 hkl hcap hcap2 n4 k0
    go_enter Tryd.func22, Tryd.ntmps22
    go_wp2_with (first | go_skip)
    refine q.mono ?_
    rintro e w1 ⟨rfl, k1⟩
    clear q
    go_wp2_with (first | go_skip)
    exact bodyPost_ret (v := .tuple #[.slice none 0 0, .int .i64 0]) (by simp [results, Tryd.results22, go_sem]) rfl ⟨Told.no HF.out, k1⟩
  have p0 : ((k : Int) == 0) = false := by simp; omega
  have p9 : decide ((4000 : Int) < (N : Int)) = false := by simp; omega
  have p1 : (((k : Int) == 0) || decide ((4000 : Int) < (N : Int))) = false := by simp; omega
  obtain ⟨A1, c1, hs1, S1, hl1⟩ := S.part k len (by omega) (by omega)
  have e1 : (l.drop k).take (len - k) = l.drop k := List.take_of_length_le (by rw [List.length_drop]; omega)
  rw [e1] at S1 hl1
  have hr1 := fun W => run_part_l W A len cap .i64 k (by omega)
  rw [hs1] at hr1
  have m1 : IntKind.i64.wrap (N : Int) = N := IntWalk.i64_in _ (by omega)
  have m2 : IntKind.i64.wrap ((N : Int) + 4) = (N : Int) + 4 := IntWalk.i64_in _ (by omega)
  have p2 : 0 ≤ (k : Int) := by omega
  have p3 : (k : Int) ≤ (len : Int) := by omega
  by_cases hsh : l.length < k + N + 4
  · have HF : Hid (firstL l = none) := aside (by rw [hF, if_neg (by omega), if_pos hsh])
    have p4 : ((len - k : Nat) : Int) < (N : Int) + 4 := by omega
    clear hF hN hk S hl hm hN64 hk10 hkl hcap hcap2 n4 k0 hsh hs1 e1
    go_enter Tryd.func22, Tryd.ntmps22
    go_wp2_with (first | go_skip)
    refine q.mono ?_
    rintro e w1 ⟨rfl, k1⟩
    clear q
    go_wp2_with (first | go_skip)
    exact bodyPost_ret (v := .tuple #[.slice none 0 0, .int .i64 0]) (by simp [results, Tryd.results22, go_sem]) rfl ⟨Told.no HF.out, k1⟩
  have p4 : ¬ ((len - k : Nat) : Int) < (N : Int) + 4 := by omega
  obtain ⟨A2, c2, hs2, S2, hl2⟩ := S1.part 0 N (by omega) (by omega)
  obtain ⟨A3, c3, hs3, S3, hl3⟩ := S1.part N (len - k) (by omega) (by omega)
  have e2 : ((l.drop k).drop N).take (len - k - N) = (l.drop k).drop N := List.take_of_length_le (by rw [List.length_drop, List.length_drop]; omega)
  rw [e2] at S3 hl3
  rw [List.drop_zero, Nat.sub_zero] at S2 hl2
  have hr2 := fun W => run_part_h W A1 (len - k) c1 .u64 N (by have := S1.1; omega)
  rw [hs2, Nat.sub_zero] at hr2
  have hr3 := fun W => run_part_l W A1 (len - k) c1 .u64 N (by omega)
  rw [hs3] at hr3
  obtain ⟨x, hx⟩ : ∃ x, (l.drop k).take N = x := ⟨_, rfl⟩
  obtain ⟨y, hy⟩ : ∃ y, (l.drop k).drop N = y := ⟨_, rfl⟩
  rw [hx] at hF S2 hl2
  rw [hy] at hF S3 hl3
  have hFl := frameL_len x
  have hnl : (numL x.length).length = k := by
    obtain ⟨_, _, _, q4, q5⟩ := getL_back S.bytes (N := N) (k := k) (by rw [← hN, ← hk]) k0
    rw [hl2, ← q5, List.length_take]
    omega
  rw [hnl, hl2] at hFl
  have q4 : y.length = len - k - N := hl3
  have heq := fun W => equal_m 9998 W (x := y.take 4) (y := markL x) (by rw [List.length_take]; omega) (markL_len x)
  rw [if_neg (by omega), if_neg hsh] at hF
  have m3 : IntKind.i64.wrap ((k : Int) + (N : Int)) = (k : Int) + (N : Int) := IntWalk.i64_in _ (by omega)
  have m4 : IntKind.i64.wrap ((k : Int) + (N : Int) + 4) = (k : Int) + (N : Int) + 4 := IntWalk.i64_in _ (by omega)
  have p5 : 0 ≤ (N : Int) := by omega
  have p6 : (N : Int) ≤ ((len - k : Nat) : Int) := by omega
  have hx40 : N ≤ 1099511627776 := by omega
  have hy4 : 4 ≤ len - k - N := by omega
  obtain ⟨b, hb⟩ : ∃ b, decide (y.take 4 = markL x) = b := ⟨_, rfl⟩
  simp only [hb] at heq
  have HF : Hid (firstL l = if b = true then some x else none) := aside (by rw [hF, ← hb]; simp)
  have HL : Hid ((frameL x).length = k + N + 4 ∧ x.length = N) := aside ⟨hFl, hl2⟩
  clear hF hN hk hl hm hN64 hk10 hkl hcap hcap2 n4 k0 hsh hs1 e1 hs2 hs3 e2 hx hy hFl hnl hb S1 q4
  go_enter Tryd.func22, Tryd.ntmps22
  go_wp2_with (first | go_skip)
  refine q.mono ?_
  rintro e w1 ⟨rfl, k1⟩
  clear q
  have T2 := S2.below k1
  have T3 := S3.below k1
  have K1 := hK.below k1
  go_wp2_with (first | go_skip)
  go_quiet (fail)
  go_wp2_with (first | go_skip)
  have qa := markAt_ret (T3.drewN nq) hl3 hy4
  refine qa.mono ?_
  rintro e w2 ⟨rfl, k2⟩
  clear qa
  have kd := below_drewN w1 nq
  have b2 := (kd.trans k2)
  go_wp2_with (first | go_skip)
  have qb := markOf_ret (T2.below b2) hl2 hx40 (K1.below b2)
  refine qb.mono ?_
  rintro e w3 ⟨rfl, k3⟩
  clear qb
  have b3 := k1.trans ((b2.trans (k3.mono b2.size)).mono k1.size)
  cases b with
  | true =>
    go_wp2_with (first | go_skip)
    refine bodyPost_ret (v := .tuple #[.slice A2 N c2, .int .i64 ((k : Int) + (N : Int) + 4)]) (by simp [results, Tryd.results22, go_sem]) rfl ⟨?_, b3⟩
    have hf : firstL l = some x := by simpa using HF.out
    rw [hf]
    refine ⟨A2, c2, ?_, S2⟩
    rw [HL.out.1, HL.out.2]
    have e : ((k + N + 4 : Nat) : Int) = (k : Int) + (N : Int) + 4 := by omega
    rw [e]
  | false =>
    go_wp2_with (first | go_skip)
    refine bodyPost_ret (v := .tuple #[.slice none 0 0, .int .i64 0]) (by simp [results, Tryd.results22, go_sem]) rfl ⟨Told.no ?_, b3⟩
    simpa using HF.out
end Go.Proofs.YthdpipllighegaaDoor.LogF
