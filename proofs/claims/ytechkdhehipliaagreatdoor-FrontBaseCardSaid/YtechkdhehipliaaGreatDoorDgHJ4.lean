/- What the answers on the chapter's two commits are; what the walks need of the six functions. No condition. | Parts of slices of structs, whatever their fields. No condition. | The chapter's own example: 'awake' of the laws of package dag returns true, where the six functions answer as the document does. No condition. | The walk of DagTells, where the six functions answer as the document does. No condition. -/
import Derived.Test.YtechkdhehipliaaGreatDoorOpenKJ4
import Derived.Test.YtechkdhehipliaaGreatDoorDgGJ3
import Derived.Test.YtechkdhehipliaaGreatDoorDgS
import Derived.Test.YtechkdhehipliaaGreatDoorRowSJ3
namespace Go.Proofs.YtechkdhehipliaaGreatDoor.DgH
set_option maxRecDepth 100000
open Go Go.Sort Go.RowKit Byt IdM IdW OpsM OpsW CmM StW CmW CmX CmY CmA DgM DgW DgR DgF DgG DgS DgJ
open Classical

/-- What the six functions return, where each of the commits is short and they are few. -/
structure Six : Prop where
  ids : ∀ (A : Option Addr) (cap : Nat) (l : List Cv) (w : World), SlK w A cap l → (∀ v ∈ l, CmR.Okay v.c) → l.length ≤ 1000 → ShaE.KIn w → Calls Tryz.prog 15 #[.slice A l.length cap] w (NewD (idsD (coms l)) w)
  find : ∀ (A : Option Addr) (cap : Nat) (l : List Cv) (a : Idn) (w : World), SlK w A cap l → (∀ v ∈ l, CmR.Okay v.c) → l.length ≤ 1000 → ShaE.KIn w → Calls Tryz.prog 26 #[.slice A l.length cap, .agg (cs a)] w (FoundC (findC (coms l) a) w)
  closed : ∀ (A : Option Addr) (cap : Nat) (l : List Cv) (w : World), SlK w A cap l → (∀ v ∈ l, CmR.Okay v.c) → l.length ≤ 1000 → ShaE.KIn w → Calls Tryz.prog 25 #[.slice A l.length cap] w fun e w' => e = .returned (.bool (decide (Closed hashK (coms l)))) ∧ Below w.heap.size w w'
  anc : ∀ (A A' : Option Addr) (cap cap' : Nat) (l : List Cv) (a : List Idn) (w : World), SlK w A cap l → SlI w A' cap' a → (∀ v ∈ l, CmR.Okay v.c) → l.length ≤ 1000 → a.length ≤ 1000 → ShaE.KIn w → Calls Tryz.prog 18 #[.slice A l.length cap, .slice A' a.length cap'] w (NewD (ancC (coms l) a) w)
  part : ∀ (A A' : Option Addr) (cap cap' : Nat) (l : List Cv) (a : List Idn) (w : World), SlK w A cap l → SlI w A' cap' a → (∀ v ∈ l, CmR.Okay v.c) → l.length ≤ 1000 → a.length ≤ 1000 → ShaE.KIn w → Calls Tryz.prog 21 #[.slice A l.length cap, .slice A' a.length cap'] w (NewC (partC (coms l) a) w)
  sorted : ∀ (A : Option Addr) (cap : Nat) (l : List Cv) (w : World), SlK w A cap l → (∀ v ∈ l, CmR.Okay v.c) → l.length ≤ 1000 → ShaE.KIn w → Calls Tryz.prog 23 #[.slice A l.length cap] w fun e w' => ∃ m, IsSorted (coms l) m ∧ NewC m w e w'
theorem all_two : two.all mayK = true := by
  unfold two
  rw [List.all_cons, List.all_cons, List.all_nil, may1, may2]
  rfl
theorem ids_two : idsD two = [I1, I2] := by
  unfold idsD
  rw [if_pos all_two, map_two]
theorem find_two : findC two I2 = some (c2 I1) := by
  unfold findC two
  rw [List.find?_cons_of_neg (by rw [id1]; simp [ne12]), List.find?_cons_of_pos (by rw [may2, id2]; simp)]
theorem open_tail : ¬ Closed hashK [c2 I1] := fun C => by
  have := C.found (c2 I1) (by simp) I1 (by simp [c2])
  rw [List.map_cons, List.map_nil, id2, List.mem_singleton] at this
  exact ne12 this
theorem anc_two : (ancC two [I2]).length = 2 := by
  unfold ancC
  rw [if_pos closed_two]
  unfold anc
  have h : (two.map hashK).filter (fun x => decide (DgM.Below hashK two [I2] x)) = [I1, I2] := by
    rw [map_two, List.filter_eq_self]
    intro x hx
    refine decide_eq_true ⟨by rw [map_two]; exact hx, ?_⟩
    rcases List.mem_cons.1 hx with rfl | hx
    · exact .inr ⟨I2, by simp, kn_two.2 ⟨rfl, rfl⟩⟩
    · rw [List.mem_singleton] at hx
      subst hx
      exact .inl (by simp)
  rw [h]
  have hp : (sort [I1, I2]).Perm [I1, I2] := by
    refine (List.perm_ext_iff_of_nodup ?_ ?_).2 fun x => mem_sort x _
    · exact rising_nodup (rising_sort _)
    · simp [ne12]
  rw [hp.length_eq]
  rfl
theorem part_two : (partC two [I1]).length = 1 := by
  unfold partC
  rw [if_pos closed_two]
  unfold DgM.part two
  rw [List.filter_cons_of_pos (by rw [id1]; simp), List.filter_cons_of_neg (by rw [id2]; simp [ne12.symm])]
  rfl
theorem sorted_two {m : List Com} (h : IsSorted two m) : m.length = 2 := by
  have k : IsSorted two two := by
    unfold IsSorted
    rw [if_pos closed_two]
    refine ⟨?_, fun z => Iff.rfl⟩
    unfold InOrder two
    rw [List.pairwise_cons]
    refine ⟨fun x hx => ?_, List.pairwise_singleton _ _⟩
    rw [List.mem_singleton] at hx
    subst hx
    exact .inl (by show (1 : Int) < 2; omega)
  rw [isSorted_uniq h k]
  rfl
theorem okay1 : CmR.Okay c1 := ⟨fit1, of_decide_eq_true (by kernel_rfl), of_decide_eq_true (by kernel_rfl)⟩
theorem okay2 : CmR.Okay (c2 I1) := ⟨⟨⟨by decide, by decide⟩, ⟨by decide, by decide⟩, ⟨by decide, by decide⟩, ⟨⟨by decide, by decide⟩, ⟨by decide, by decide⟩, of_decide_eq_true (by kernel_rfl), of_decide_eq_true (by kernel_rfl)⟩⟩, of_decide_eq_true (by kernel_rfl), of_decide_eq_true (by kernel_rfl)⟩
theorem okay_two {l : List Cv} (h : coms l = two) : ∀ v ∈ l, CmR.Okay v.c := fun v hv => by
  have : v.c ∈ two := by rw [← h]; exact List.mem_map_of_mem hv
  unfold two at this
  rcases List.mem_cons.1 this with e | e
  · rw [e]; exact okay1
  · rw [List.mem_singleton.1 e]; exact okay2
end Go.Proofs.YtechkdhehipliaaGreatDoor.DgH
namespace Go.Proofs.YtechkdhehipliaaGreatDoor.RowP
set_option maxRecDepth 100000
open Go Go.RowKit Byt RowS

variable {α : Type} (E : Enc α)
theorem size_e (w : World) : (sizeOf (Tryz.prog.elem E.S)).run Tryz.prog w = .ok E.k w := by
  obtain ⟨i, hi, z0, z1, _⟩ := info_parts E.info
  rw [E.elem]
  simp [sizeOf, typeInfo, hi, z1]
theorem under_e : Tryz.prog.underlying E.S = some (.slice (Tryz.prog.elem E.S)) := by rw [E.elem, E.slice]
theorem run_part_h (w : World) (A : Option Addr) (len cap : Nat) (k : IntKind) (j : Nat) (hj : j ≤ cap) :
    (Instr.sliceAt E.S (.slice A len cap) none (some (.int k j)) none).run Tryz.prog w = .ok (sliced A 0 j cap E.k) w := by
  rw [run_sliceAt_slice w _ _ _ _ _ (under_e E), run_slice_h w _ A len cap (under_e E) k j (by omega) (by omega), size_e]
  simp [Result.andThen]
theorem run_part_l (w : World) (A : Option Addr) (len cap : Nat) (k : IntKind) (i : Nat) (hi : i ≤ len) :
    (Instr.sliceAt E.S (.slice A len cap) (some (.int k i)) none none).run Tryz.prog w = .ok (sliced A i len cap E.k) w := by
  rw [run_sliceAt_slice w _ _ _ _ _ (under_e E), run_slice_l w _ A len cap (under_e E) k i (by omega) (by omega), size_e]
  simp [Result.andThen]
variable {E}
/-- The first ones of a slice. -/
theorem ahead {w : World} {A : Option Addr} {cap : Nat} {l : List α} (S : SlR E w A cap l) (j : Nat) (hj : j ≤ l.length) :
    ∃ A' cap', (∀ (W : World) (k : IntKind), (Instr.sliceAt E.S (.slice A l.length cap) none (some (.int k j)) none).run Tryz.prog W = .ok (.slice A' j cap') W) ∧ SlR E w A' cap' (l.take j) := by
  obtain ⟨A', cap', h1, h2, _⟩ := SlR.part S 0 j (Nat.zero_le _) hj
  refine ⟨A', cap', fun W k => ?_, by simpa using h2⟩
  rw [run_part_h E W A l.length cap k j (by have := S.1; omega), h1, Nat.sub_zero]
/-- The others. -/
theorem behind {w : World} {A : Option Addr} {cap : Nat} {l : List α} (S : SlR E w A cap l) (i : Nat) (hi : i ≤ l.length) :
    ∃ A' cap', (∀ (W : World) (k : IntKind), (Instr.sliceAt E.S (.slice A l.length cap) (some (.int k i)) none none).run Tryz.prog W = .ok (.slice A' (l.length - i) cap') W) ∧ SlR E w A' cap' (l.drop i) := by
  obtain ⟨A', cap', h1, h2, _⟩ := SlR.part S i l.length hi (Nat.le_refl _)
  refine ⟨A', cap', fun W k => ?_, ?_⟩
  · rw [run_part_l E W A l.length cap k i hi, h1]
  · rwa [List.take_of_length_le (by simp)] at h2
end Go.Proofs.YtechkdhehipliaaGreatDoor.RowP
namespace Go.Proofs.YtechkdhehipliaaGreatDoor.DgB
set_option maxRecDepth 100000
open Go Go.Sort Go.RowKit Byt IdM IdW IdV OpsM OpsW CmM StW CmW CmX CmY CmA DgM DgW DgR DgF DgG DgS DgJ DgE DgH
open Classical

theorem two2_ret (w : World) (hK : ShaE.KIn w) : Calls Tryz.prog 49 #[] w fun e w' => ∃ A cap x0 x1, e = .returned (.slice A 2 cap) ∧ SlK w' A cap [x0, x1] ∧ x0.c = c1 ∧ x1.c = c2 I1 ∧ Below w.heap.size w w' := by
  refine (two_ret w hK).mono ?_
  rintro e w' ⟨A, cap, l, rfl, S, h, k⟩
  have hl : l.length = 2 := by rw [← coms_len, h]; rfl
  obtain ⟨x0, x1, rfl⟩ : ∃ x0 x1, l = [x0, x1] := by
    match l, hl with
    | [x0, x1], _ => exact ⟨x0, x1, rfl⟩
  unfold coms two at h
  simp only [List.map_cons, List.map_nil, List.cons.injEq, and_true] at h
  exact ⟨A, cap, x0, x1, rfl, S, h.1, h.2, k⟩
theorem at_one {w : World} {b o cap : Nat} {x0 x1 : Cv} (S : SlK w (some ⟨b, o, none⟩) cap [x0, x1]) : w.rangeAt b (o + 1 * 8) (cc x1).toList := by
  obtain ⟨b', o', e, _, h⟩ := S.plain (by simp)
  cases e
  exact h 1 x1 rfl
set_option maxRecDepth 100000 in
set_option maxHeartbeats 32000000 in
theorem awake (X : Six) (w : World) (hK : ShaE.KIn w) : Calls Tryz.prog 12 #[] w fun e w' => e = .returned (.bool true) ∧ Below w.heap.size w w' := by
  go_enter Tryz.func12, Tryz.ntmps12
  go_wp2_with (first | go_skip)
  refine (two2_ret _ hK).mono ?_
  rintro e w1 ⟨A1, cp, x0, x1, rfl, S1, h0, h1, k1⟩
  obtain ⟨ba, oa, rfl, _, _⟩ := S1.plain (by simp)
  have hco : coms [x0, x1] = two := by simp [coms, two, h0, h1]
  have ho := okay_two hco
  have hids := X.ids (some ⟨ba, oa, none⟩) cp [x0, x1] w1 S1 ho (by simp) (hK.below k1)
  rw [hco, ids_two] at hids
  have hids : Calls Tryz.prog 15 #[.slice (some ⟨ba, oa, none⟩) 2 cp] w1 (fun e w' => ∃ A cap, e = .returned (.slice A 2 cap) ∧ SlI w' A cap [I1, I2] ∧ Below w1.heap.size w1 w') := hids
  have HCO := aside hco
  have HO := aside ho
  have H1 := aside h1
  clear hco ho h0 h1
  go_wp2_with (first | go_skip)
  refine hids.mono ?_
  clear hids
  rintro e w2 ⟨A2, cq, rfl, T2, k2⟩
  have S2 := S1.below k2
  have b2 := k1.trans (k2.mono k1.size)
  obtain ⟨b, off, rfl, hb, hr⟩ := SlI.plain T2 (by decide)
  have r2 : w2.rangeAt b (off + 1 * 32) (bv I2.1) := hr 1 (by decide)
  have hf := X.find (some ⟨ba, oa, none⟩) cp [x0, x1] I2 w2 S2 HO.out (by simp) (hK.below b2)
  rw [HCO.out, find_two] at hf
  have hf : Calls Tryz.prog 26 #[.slice (some ⟨ba, oa, none⟩) 2 cp, .agg (cs I2)] w2 (fun e w' => ∃ v, e = .returned (.tuple #[.agg (cc v), .bool true]) ∧ v.c = c2 I1 ∧ CmW.In w' v ∧ Fit v.c ∧ Below w2.heap.size w2 w') := hf
  clear hr S1 k1 k2
  obtain ⟨J, hJ⟩ : ∃ J, I2 = J := ⟨_, rfl⟩
  have HJ := aside hJ
  rw [hJ] at hf r2 T2
  clear hJ
  go_wp2_with (first | go_skip | (refine wpList_load_id rfl _ rfl _ _ rfl J r2 ?_))
  refine hf.mono ?_
  clear hf
  rintro e w3 ⟨v, rfl, hv, IN, _, k3⟩
  have HV := aside hv
  have S3 := S2.below k3
  have T3 := T2.below k3
  have b3 := b2.trans (k3.mono b2.size)
  clear hv S2 T2 b2 k3 r2
  go_wp2_with (first | go_skip | (refine Cel.wpList_store_new CE rfl _ _ rfl _ _ _ rfl v _ rfl rfl rfl rfl ?_; intro w4 B4 k4 g4 s4; clear g4 s4))
  have S4 := S3.below k4
  have T4 := T3.below k4
  have V4 := CmW.In.below IN k4
  have b4 := b3.trans (k4.mono b3.size)
  clear S3 T3 IN b3 k4
  refine Grow.region [(0, true), (1, false), (2, true), (3, true), (4, true), (5, false), (6, true), (7, true), (8, true), (9, true), (10, true), (11, true), (12, true), (13, true), (14, true), (15, true), (16, false), (17, true), (18, true), (19, true), (20, true), (21, true), (22, false), (23, true), (24, true), (25, true), (26, true), (27, true), (28, true), (29, true), (30, false), (31, true), (32, true), (33, true), (34, true), (35, true), (36, false), (37, true), (38, true), (39, true), (40, true)] (by kernel_rfl) (by kernel_rfl) rfl (by kernel_rfl) (by intro c a d v w h; cases d <;> exact h) ?_
  rename World => VV
  have kd := below_drew1 (Below.refl VV.heap.size VV)
  have B' := B4.below kd
  have V' := V4.below kd
  have S' := S4.below kd
  have T' := T4.below kd
  have b' := b4.trans (kd.mono b4.size)
  clear B4 V4 S4 T4 b4 kd
  have K' := hK.below b'
  generalize VV.drew = wz at B' V' S' T' b' K' ⊢
  obtain ⟨qA, qc, hqs, hqS⟩ := RowP.behind S'.row 1 (by simp)
  have hq1 : ∀ V, (Instr.sliceAt 22 (.slice (some ⟨ba, oa, none⟩) 2 cp) (some (.int .i64 1)) none none).run Tryz.prog V = .ok (.slice qA 1 qc) V := fun V => hqs V .i64
  have Q' : SlK wz qA qc [x1] := ⟨hqS, fun y hy => S'.each y (List.mem_of_mem_drop (i := 1) hy)⟩
  clear hqs hqS
  obtain ⟨rA, rc, er, R', _⟩ := IdX.SlI.part T' 1 2 (by omega) (by simp)
  obtain ⟨sA, sc, es, P', _⟩ := IdX.SlI.part T' 0 1 (by omega) (by simp)
  have R' : SlI wz rA rc [J] := R'
  have P' : SlI wz sA sc [I1] := P'
  have hq2 : ∀ V, (Instr.sliceAt 23 (.slice (some ⟨b, off, none⟩) 2 cq) (some (.int .i64 1)) none none).run Tryz.prog V = .ok (.slice rA 1 rc) V := fun V => (IdX.run_part_l V (some ⟨b, off, none⟩) 2 cq .i64 1 (by omega)).trans (by rw [er])
  have hq3 : ∀ V, (Instr.sliceAt 23 (.slice (some ⟨b, off, none⟩) 2 cq) none (some (.int .i64 1)) none).run Tryz.prog V = .ok (.slice sA 1 sc) V := fun V => (IdX.run_part_h V (some ⟨b, off, none⟩) 2 cq .i64 1 (by have := T'.1; simp at this; omega)).trans (by rw [es])
  clear er es T'
  have B := B'
  have V := V'
  have S := S'
  have Q := Q'
  have R := R'
  have P := P'
  have K := K'
  have bw := b'
  clear B' V' S' Q' R' P' K' b'
  repeat (first | (refine Grow.reads rfl rfl ?_; go_big_quiet_want; refine Cel.quiet_row CE _ rfl _ _ rfl v B.range ?_; go_big_quiet_on; refine wpQuiet_nil ?_; (try simp only [Act.put, List.setIfInBounds_toArray, List.set_cons_succ, List.set_cons_zero])) | (refine Grow.reads rfl rfl ?_; go_big_quiet_want; refine quiet_com _ rfl _ _ rfl x1 (at_one S) ?_; go_big_quiet_on; refine wpQuiet_nil ?_; (try simp only [Act.put, List.setIfInBounds_toArray, List.set_cons_succ, List.set_cons_zero])) | (refine Grow.reads rfl rfl ?_; go_big_quiet_step (fail); refine wpQuiet_nil ?_))
  have qs := X.closed (some ⟨ba, oa, none⟩) cp [x0, x1] wz S HO.out (by simp) K
  rw [HCO.out, decide_eq_true closed_two] at qs
  have qs : Calls Tryz.prog 25 #[.slice (some ⟨ba, oa, none⟩) 2 cp] wz (fun e w' => e = .returned (.bool true) ∧ Below wz.heap.size wz w') := qs
  refine Grow.acts rfl ?_
  go_wp2_with (first | go_skip)
  refine qs.mono ?_
  clear qs
  rintro e wx ⟨rfl, kx⟩
  go_wp2_with (first | go_skip)
  refine ⟨kx, ?_⟩
  have B' := B.below kx
  have V' := V.below kx
  have S' := S.below kx
  have Q' := Q.below kx
  have R' := R.below kx
  have P' := P.below kx
  have K' := K.below kx
  have bw' := bw.trans (kx.mono bw.size)
  clear B V S Q R P K bw kx
  have B := B'
  have V := V'
  have S := S'
  have Q := Q'
  have R := R'
  have P := P'
  have K := K'
  have bw := bw'
  clear B' V' S' Q' R' P' K' bw'
  repeat (first | (refine Grow.reads rfl rfl ?_; go_big_quiet_want; refine Cel.quiet_row CE _ rfl _ _ rfl v B.range ?_; go_big_quiet_on; refine wpQuiet_nil ?_; (try simp only [Act.put, List.setIfInBounds_toArray, List.set_cons_succ, List.set_cons_zero])) | (refine Grow.reads rfl rfl ?_; go_big_quiet_want; refine quiet_com _ rfl _ _ rfl x1 (at_one S) ?_; go_big_quiet_on; refine wpQuiet_nil ?_; (try simp only [Act.put, List.setIfInBounds_toArray, List.set_cons_succ, List.set_cons_zero])) | (refine Grow.reads rfl rfl ?_; go_big_quiet_step (fail); refine wpQuiet_nil ?_))
  have qs := X.closed qA qc [x1] _ Q (fun y hy => HO.out y (List.mem_cons_of_mem _ hy)) (by simp) K
  rw [show coms [x1] = [c2 I1] by simp [coms, H1.out], decide_eq_false open_tail] at qs
  have qs : Calls Tryz.prog 25 #[.slice qA 1 qc] _ _ := qs
  refine Grow.acts rfl ?_
  go_wp2_with (first | go_skip)
  refine qs.mono ?_
  clear qs
  rintro e wx ⟨rfl, kx⟩
  go_wp2_with (first | go_skip)
  refine ⟨kx, ?_⟩
  have B' := B.below kx
  have V' := V.below kx
  have S' := S.below kx
  have Q' := Q.below kx
  have R' := R.below kx
  have P' := P.below kx
  have K' := K.below kx
  have bw' := bw.trans (kx.mono bw.size)
  clear B V S Q R P K bw kx
  have B := B'
  have V := V'
  have S := S'
  have Q := Q'
  have R := R'
  have P := P'
  have K := K'
  have bw := bw'
  clear B' V' S' Q' R' P' K' bw'
  repeat (first | (refine Grow.reads rfl rfl ?_; go_big_quiet_want; refine Cel.quiet_row CE _ rfl _ _ rfl v B.range ?_; go_big_quiet_on; refine wpQuiet_nil ?_; (try simp only [Act.put, List.setIfInBounds_toArray, List.set_cons_succ, List.set_cons_zero])) | (refine Grow.reads rfl rfl ?_; go_big_quiet_want; refine quiet_com _ rfl _ _ rfl x1 (at_one S) ?_; go_big_quiet_on; refine wpQuiet_nil ?_; (try simp only [Act.put, List.setIfInBounds_toArray, List.set_cons_succ, List.set_cons_zero])) | (refine Grow.reads rfl rfl ?_; go_big_quiet_step (fail); refine wpQuiet_nil ?_))
  have qs := same_ret v x1 _ V (Q.each x1 (by simp)).1
  rw [HV.out, H1.out, CmR.sameK_self] at qs
  refine Grow.acts rfl ?_
  go_wp2_with (first | go_skip)
  refine qs.mono ?_
  clear qs
  rintro e wx ⟨rfl, kx⟩
  go_wp2_with (first | go_skip)
  refine ⟨kx, ?_⟩
  have B' := B.below kx
  have V' := V.below kx
  have S' := S.below kx
  have Q' := Q.below kx
  have R' := R.below kx
  have P' := P.below kx
  have K' := K.below kx
  have bw' := bw.trans (kx.mono bw.size)
  clear B V S Q R P K bw kx
  have B := B'
  have V := V'
  have S := S'
  have Q := Q'
  have R := R'
  have P := P'
  have K := K'
  have bw := bw'
  clear B' V' S' Q' R' P' K' bw'
  repeat (first | (refine Grow.reads rfl rfl ?_; go_big_quiet_want; refine Cel.quiet_row CE _ rfl _ _ rfl v B.range ?_; go_big_quiet_on; refine wpQuiet_nil ?_; (try simp only [Act.put, List.setIfInBounds_toArray, List.set_cons_succ, List.set_cons_zero])) | (refine Grow.reads rfl rfl ?_; go_big_quiet_want; refine quiet_com _ rfl _ _ rfl x1 (at_one S) ?_; go_big_quiet_on; refine wpQuiet_nil ?_; (try simp only [Act.put, List.setIfInBounds_toArray, List.set_cons_succ, List.set_cons_zero])) | (refine Grow.reads rfl rfl ?_; go_big_quiet_step (fail); refine wpQuiet_nil ?_))
  have qs : Calls Tryz.prog 18 #[.slice (some ⟨ba, oa, none⟩) 2 cp, .slice rA 1 rc] _ _ := (X.anc (some ⟨ba, oa, none⟩) rA cp rc [x0, x1] [J] _ S R HO.out (by simp) (by simp) K).mono (R' := fun e w' => ∃ A cap, e = .returned (.slice A 2 cap) ∧ Below wx.heap.size wx w') (by
    rintro e w' ⟨A, cap, rfl, _, k⟩
    exact ⟨A, cap, by rw [HCO.out, ← HJ.out, anc_two], k⟩)
  refine Grow.acts rfl ?_
  go_wp2_with (first | go_skip)
  refine qs.mono ?_
  clear qs
  rintro e wx ⟨_, _, rfl, kx⟩
  go_wp2_with (first | go_skip)
  refine ⟨kx, ?_⟩
  have B' := B.below kx
  have V' := V.below kx
  have S' := S.below kx
  have Q' := Q.below kx
  have R' := R.below kx
  have P' := P.below kx
  have K' := K.below kx
  have bw' := bw.trans (kx.mono bw.size)
  clear B V S Q R P K bw kx
  have B := B'
  have V := V'
  have S := S'
  have Q := Q'
  have R := R'
  have P := P'
  have K := K'
  have bw := bw'
  clear B' V' S' Q' R' P' K' bw'
  repeat (first | (refine Grow.reads rfl rfl ?_; go_big_quiet_want; refine Cel.quiet_row CE _ rfl _ _ rfl v B.range ?_; go_big_quiet_on; refine wpQuiet_nil ?_; (try simp only [Act.put, List.setIfInBounds_toArray, List.set_cons_succ, List.set_cons_zero])) | (refine Grow.reads rfl rfl ?_; go_big_quiet_want; refine quiet_com _ rfl _ _ rfl x1 (at_one S) ?_; go_big_quiet_on; refine wpQuiet_nil ?_; (try simp only [Act.put, List.setIfInBounds_toArray, List.set_cons_succ, List.set_cons_zero])) | (refine Grow.reads rfl rfl ?_; go_big_quiet_step (fail); refine wpQuiet_nil ?_))
  have qs : Calls Tryz.prog 21 #[.slice (some ⟨ba, oa, none⟩) 2 cp, .slice sA 1 sc] _ _ := (X.part (some ⟨ba, oa, none⟩) sA cp sc [x0, x1] [I1] _ S P HO.out (by simp) (by simp) K).mono (R' := fun e w' => ∃ A cap, e = .returned (.slice A 1 cap) ∧ Below wx.heap.size wx w') (by
    rintro e w' ⟨A, cap, l, rfl, _, h, k⟩
    exact ⟨A, cap, by rw [← coms_len, h, HCO.out, part_two], k⟩)
  refine Grow.acts rfl ?_
  go_wp2_with (first | go_skip)
  refine qs.mono ?_
  clear qs
  rintro e wx ⟨_, _, rfl, kx⟩
  go_wp2_with (first | go_skip)
  refine ⟨kx, ?_⟩
  have B' := B.below kx
  have V' := V.below kx
  have S' := S.below kx
  have Q' := Q.below kx
  have R' := R.below kx
  have P' := P.below kx
  have K' := K.below kx
  have bw' := bw.trans (kx.mono bw.size)
  clear B V S Q R P K bw kx
  have B := B'
  have V := V'
  have S := S'
  have Q := Q'
  have R := R'
  have P := P'
  have K := K'
  have bw := bw'
  clear B' V' S' Q' R' P' K' bw'
  repeat (first | (refine Grow.reads rfl rfl ?_; go_big_quiet_want; refine Cel.quiet_row CE _ rfl _ _ rfl v B.range ?_; go_big_quiet_on; refine wpQuiet_nil ?_; (try simp only [Act.put, List.setIfInBounds_toArray, List.set_cons_succ, List.set_cons_zero])) | (refine Grow.reads rfl rfl ?_; go_big_quiet_want; refine quiet_com _ rfl _ _ rfl x1 (at_one S) ?_; go_big_quiet_on; refine wpQuiet_nil ?_; (try simp only [Act.put, List.setIfInBounds_toArray, List.set_cons_succ, List.set_cons_zero])) | (refine Grow.reads rfl rfl ?_; go_big_quiet_step (fail); refine wpQuiet_nil ?_))
  have qs : Calls Tryz.prog 23 #[.slice (some ⟨ba, oa, none⟩) 2 cp] _ _ := (X.sorted (some ⟨ba, oa, none⟩) cp [x0, x1] _ S HO.out (by simp) K).mono (R' := fun e w' => ∃ A cap, e = .returned (.slice A 2 cap) ∧ Below wx.heap.size wx w') (by
    rintro e w' ⟨m, hm, A, cap, l, rfl, _, h, k⟩
    rw [HCO.out] at hm
    exact ⟨A, cap, by rw [← coms_len, h, sorted_two hm], k⟩)
  refine Grow.acts rfl ?_
  go_wp2_with (first | go_skip)
  refine qs.mono ?_
  clear qs
  rintro e wx ⟨_, _, rfl, kx⟩
  go_wp2_with (first | go_skip)
  refine ⟨kx, ?_⟩
  have B' := B.below kx
  have V' := V.below kx
  have S' := S.below kx
  have Q' := Q.below kx
  have R' := R.below kx
  have P' := P.below kx
  have K' := K.below kx
  have bw' := bw.trans (kx.mono bw.size)
  clear B V S Q R P K bw kx
  have B := B'
  have V := V'
  have S := S'
  have Q := Q'
  have R := R'
  have P := P'
  have K := K'
  have bw := bw'
  clear B' V' S' Q' R' P' K' bw'
  repeat (first | (refine Grow.reads rfl rfl ?_; go_big_quiet_want; refine Cel.quiet_row CE _ rfl _ _ rfl v B.range ?_; go_big_quiet_on; refine wpQuiet_nil ?_; (try simp only [Act.put, List.setIfInBounds_toArray, List.set_cons_succ, List.set_cons_zero])) | (refine Grow.reads rfl rfl ?_; go_big_quiet_want; refine quiet_com _ rfl _ _ rfl x1 (at_one S) ?_; go_big_quiet_on; refine wpQuiet_nil ?_; (try simp only [Act.put, List.setIfInBounds_toArray, List.set_cons_succ, List.set_cons_zero])) | (refine Grow.reads rfl rfl ?_; go_big_quiet_step (fail); refine wpQuiet_nil ?_))
  refine Grow.ends ?_
  go_wp2_with (first | go_skip)
  go_ret
  exact ⟨rfl, bw⟩
end Go.Proofs.YtechkdhehipliaaGreatDoor.DgB
namespace Go.Proofs.YtechkdhehipliaaGreatDoor.DgU
set_option maxRecDepth 100000
open Go Go.Sort Go.RowKit Byt IdM IdW OpsM OpsW CmM StW CmW CmX CmY CmA DgM DgW DgR DgC DgF DgG DgS DgJ DgE DgH DgB
open Classical

theorem okay_few {l : List Cv} {m : Int} (S : ∀ v ∈ l, Fit v.c) (h : fewD (coms l) m = true) : (∀ v ∈ l, CmR.Okay v.c) ∧ (l.length : Int) ≤ m := by
  unfold fewD at h
  rw [Bool.and_eq_true, decide_eq_true_eq, coms_len, List.all_eq_true] at h
  refine ⟨fun v hv => ?_, h.1⟩
  exact CmX.okay (h.2 v.c (List.mem_map_of_mem hv)) (S v hv)
set_option maxRecDepth 100000 in
set_option maxHeartbeats 32000000 in
theorem walk (X : Six) (a0 : Option Addr) (cap0 : Nat) (l0 : List Cv) (a1 : Option Addr) (cap1 : Nat) (l1 : List Idn) (w : World) (S : SlK w a0 cap0 l0) (T : SlI w a1 cap1 l1) (K : ShaE.KIn w) :
    Calls Tryz.prog 3 #[.slice a0 l0.length cap0, .slice a1 l1.length cap1] w fun e w' => e = .returned (.bool true) ∧ Below w.heap.size w w' := by
  have hmax := S.len
  have hmaxa : l1.length ≤ 9223372036854775807 := by have := T.1; have := T.2.1; unfold maxLen at this; omega
  have b := Below.refl w.heap.size w
  go_enter Tryz.func3, Tryz.ntmps3
  go_wp2_with (first | go_skip)
  refine (awake X _ K).mono ?_
  rintro e w1 ⟨rfl, kx⟩
  have S' := S.below kx
  have T' := T.below kx
  have K' := K.below kx
  have b' := b.trans (kx.mono b.size)
  clear S T K b  kx
  have S := S'
  have T := T'
  have K := K'
  have b := b'
  clear S' T' K' b' 
  go_wp2_with (first | go_skip)
  obtain ⟨f, hf⟩ : ∃ f, fewD (coms l0) 12 = f := ⟨_, rfl⟩
  have qs := DgR.few_ret a0 cap0 l0 12 _ S
  rw [hf] at qs
  refine qs.mono ?_
  clear qs
  rintro e w2 ⟨rfl, kx⟩
  have S' := S.below kx
  have T' := T.below kx
  have K' := K.below kx
  have b' := b.trans (kx.mono b.size)
  clear S T K b  kx
  have S := S'
  have T := T'
  have K := K'
  have b := b'
  clear S' T' K' b' 
  cases f with
  | false =>
    go_wp2_with (first | go_skip)
    go_ret
    exact ⟨rfl, b⟩
  | true =>
    by_cases h20 : (20 : Int) < l1.length
    · go_wp2_with (first | go_skip)
      go_ret
      exact ⟨rfl, b⟩
    · obtain ⟨ho, hl⟩ := okay_few (fun v hv => (S.each v hv).2) hf
      have hl2 : l0.length ≤ 1000 := by omega
      have ha2 : l1.length ≤ 1000 := by omega
      have HO := aside ho
      clear ho hf
      go_wp2_with (first | go_skip)
      have qs := X.ids a0 cap0 l0 _ S HO.out hl2 K
      refine qs.mono ?_
      clear qs
      rintro e wx ⟨A1, c1', rfl, U, kx⟩
      have S' := S.below kx
      have T' := T.below kx
      have K' := K.below kx
      have b' := b.trans (kx.mono b.size)
      clear S T K b  kx
      have S := S'
      have T := T'
      have K := K'
      have b := b'
      clear S' T' K' b' 
      go_wp2_with (first | go_skip)
      have qs := ids_ret a0 cap0 l0 _ S HO.out hl2
      refine qs.mono ?_
      clear qs
      rintro e wx ⟨A2, c2', rfl, V, kx⟩
      have S' := S.below kx
      have T' := T.below kx
      have K' := K.below kx
      have U' := U.below kx
      have b' := b.trans (kx.mono b.size)
      clear S T K b U kx
      have S := S'
      have T := T'
      have K := K'
      have U := U'
      have b := b'
      clear S' T' K' b' U'
      have qs0 := IdV.same_ret A1 A2 c1' c2' _ _ _ U V
      rw [decide_eq_true rfl] at qs0
      clear U V
      go_wp2_with (first | go_skip)
      have qs := qs0
      refine qs.mono ?_
      clear qs
      rintro e wx ⟨rfl, kx⟩
      clear qs0
      have S' := S.below kx
      have T' := T.below kx
      have K' := K.below kx
      have b' := b.trans (kx.mono b.size)
      clear S T K b  kx
      have S := S'
      have T := T'
      have K := K'
      have b := b'
      clear S' T' K' b' 
      obtain ⟨z, hz⟩ : ∃ z, decide (Closed hashK (coms l0)) = z := ⟨_, rfl⟩
      have qs0 := closed_ret a0 cap0 l0 _ S HO.out hl2
      rw [hz] at qs0
      have HZ := aside hz
      clear hz
      go_wp2_with (first | go_skip)
      have qs := qs0
      refine qs.mono ?_
      clear qs
      rintro e wx ⟨rfl, kx⟩
      clear qs0
      have S' := S.below kx
      have T' := T.below kx
      have K' := K.below kx
      have b' := b.trans (kx.mono b.size)
      clear S T K b  kx
      have S := S'
      have T := T'
      have K := K'
      have b := b'
      clear S' T' K' b' 
      go_wp2_with (first | go_skip)
      have qs := X.anc a0 a1 cap0 cap1 l0 l1 _ S T HO.out hl2 ha2 K
      refine qs.mono ?_
      clear qs
      rintro e wx ⟨A1, c1', rfl, U, kx⟩
      have S' := S.below kx
      have T' := T.below kx
      have K' := K.below kx
      have b' := b.trans (kx.mono b.size)
      clear S T K b  kx
      have S := S'
      have T := T'
      have K := K'
      have b := b'
      clear S' T' K' b' 
      go_wp2_with (first | go_skip)
      have qs := anc_ret a0 a1 cap0 cap1 l0 l1 _ S T HO.out hl2
      refine qs.mono ?_
      clear qs
      rintro e wx ⟨A2, c2', rfl, V, kx⟩
      have S' := S.below kx
      have T' := T.below kx
      have K' := K.below kx
      have U' := U.below kx
      have b' := b.trans (kx.mono b.size)
      clear S T K b U kx
      have S := S'
      have T := T'
      have K := K'
      have U := U'
      have b := b'
      clear S' T' K' b' U'
      have qs0 := IdV.same_ret A1 A2 c1' c2' _ _ _ U V
      rw [decide_eq_true rfl] at qs0
      clear U V
      go_wp2_with (first | go_skip)
      have qs := qs0
      refine qs.mono ?_
      clear qs
      rintro e wx ⟨rfl, kx⟩
      clear qs0
      have S' := S.below kx
      have T' := T.below kx
      have K' := K.below kx
      have b' := b.trans (kx.mono b.size)
      clear S T K b  kx
      have S := S'
      have T := T'
      have K := K'
      have b := b'
      clear S' T' K' b' 
      go_wp2_with (first | go_skip)
      have qs := X.part a0 a1 cap0 cap1 l0 l1 _ S T HO.out hl2 ha2 K
      refine qs.mono ?_
      clear qs
      rintro e wx ⟨A1, c1', lA, rfl, U, hA, kx⟩
      have S' := S.below kx
      have T' := T.below kx
      have K' := K.below kx
      have b' := b.trans (kx.mono b.size)
      clear S T K b  kx
      have S := S'
      have T := T'
      have K := K'
      have b := b'
      clear S' T' K' b' 
      go_wp2_with (first | go_skip)
      have qs := part_ret a0 a1 cap0 cap1 l0 l1 _ S T HO.out hl2
      refine qs.mono ?_
      clear qs
      rintro e wx ⟨A2, c2', lB, rfl, V, hB, kx⟩
      have S' := S.below kx
      have T' := T.below kx
      have K' := K.below kx
      have U' := U.below kx
      have b' := b.trans (kx.mono b.size)
      clear S T K b U kx
      have S := S'
      have T := T'
      have K := K'
      have U := U'
      have b := b'
      clear S' T' K' b' U'
      have qs0 := list_ret A1 A2 c1' c2' lA lB _ U V
      rw [listB_iff.2 (hA.trans hB.symm)] at qs0
      clear U V hA hB
      go_wp2_with (first | go_skip)
      have qs := qs0
      refine qs.mono ?_
      clear qs
      rintro e wx ⟨rfl, kx⟩
      clear qs0
      have S' := S.below kx
      have T' := T.below kx
      have K' := K.below kx
      have b' := b.trans (kx.mono b.size)
      clear S T K b  kx
      have S := S'
      have T := T'
      have K := K'
      have b := b'
      clear S' T' K' b' 
      go_wp2_with (first | go_skip)
      have qs := X.sorted a0 cap0 l0 _ S HO.out hl2 K
      refine qs.mono ?_
      clear qs
      rintro e wx ⟨mA, hmA, A1, c1', lA', rfl, U, hA, kx⟩
      have S' := S.below kx
      have T' := T.below kx
      have K' := K.below kx
      have b' := b.trans (kx.mono b.size)
      clear S T K b  kx
      have S := S'
      have T := T'
      have K := K'
      have b := b'
      clear S' T' K' b' 
      go_wp2_with (first | go_skip)
      have qs := sorted_ret a0 cap0 l0 _ S HO.out hl2
      refine qs.mono ?_
      clear qs
      rintro e wx ⟨mB, hmB, A2, c2', lB', rfl, V, hB, kx⟩
      have S' := S.below kx
      have T' := T.below kx
      have K' := K.below kx
      have U' := U.below kx
      have b' := b.trans (kx.mono b.size)
      clear S T K b U kx
      have S := S'
      have T := T'
      have K := K'
      have U := U'
      have b := b'
      clear S' T' K' b' U'
      have qs0 := list_ret A1 A2 c1' c2' lA' lB' _ U V
      rw [listB_iff.2 (hA.trans ((isSorted_uniq hmA hmB).trans hB.symm))] at qs0
      clear U V hA hB hmA hmB
      go_wp2_with (first | go_skip)
      have qs := qs0
      refine qs.mono ?_
      clear qs
      rintro e wx ⟨rfl, kx⟩
      clear qs0
      have S' := S.below kx
      have T' := T.below kx
      have K' := K.below kx
      have b' := b.trans (kx.mono b.size)
      clear S T K b  kx
      have S := S'
      have T := T'
      have K := K'
      have b := b'
      clear S' T' K' b' 
      have qs0 := X.closed a0 cap0 l0 _ S HO.out hl2 K
      rw [HZ.out] at qs0
      have hzz : (z != z) = false := by cases z <;> rfl
      go_wp2_with (first | go_skip)
      have qs := qs0
      refine qs.mono ?_
      clear qs
      rintro e wx ⟨rfl, kx⟩
      clear qs0
      have S' := S.below kx
      have T' := T.below kx
      have K' := K.below kx
      have b' := b.trans (kx.mono b.size)
      clear S T K b  kx
      have S := S'
      have T := T'
      have K := K'
      have b := b'
      clear S' T' K' b' 
      go_wp2_with (first | go_skip)
      have b0 := Below.refl wx.heap.size wx
      go_loopw [12] (fun i wr => ∃ k : Nat, k ≤ l1.length ∧ i = .int .i64 k ∧ Below wx.heap.size wx wr) (fun i _ => l1.length - (intOf i).toNat)
      case atStart => exact ⟨0, Nat.zero_le _, rfl, b0⟩
      case round =>
        clear b0
        obtain ⟨k, hk, rfl, kc⟩ := hrel
        by_cases hlt : k < l1.length
        · obtain ⟨ba, oa, rfl, _, hra⟩ := SlI.plain T (by omega)
          obtain ⟨x, hx⟩ : ∃ x, l1.getD k nought = x := ⟨_, rfl⟩
          have ra := IdW.range_below (hra k hlt) kc
          rw [hx] at ra
          have p0 : (k : Int) < l1.length := by omega
          have m0 : ((k : Int)).toNat = k := by omega
          have bb := kc
          have S1 := S.below kc
          have K1 := K.below kc
          obtain ⟨q, hq⟩ : ∃ q, findC (coms l0) x = q := ⟨_, rfl⟩
          have qs := X.find a0 cap0 l0 x _ S1 HO.out hl2 K1
          rw [hq] at qs
          have qd := fun W (S : SlK W a0 cap0 l0) => find_ret a0 cap0 l0 x W S HO.out hl2
          rw [hq] at qd
          clear hra hx hq
          go_wp2_with (first | go_skip | (refine wpList_load_id rfl _ rfl _ _ rfl x ra ?_))
          refine qs.mono ?_
          clear qs
          rintro e w3 ⟨v, rfl, hv, IV, _, k3⟩
          have ra3 := IdW.range_below ra k3
          have S3 := S1.below k3
          have b3 := kc.trans (k3.mono kc.size)
          clear ra S1 K1 k3 kc bb
          go_wp2_with (first | go_skip | (refine Cel.wpList_store_new CE rfl _ _ rfl w3 _ _ rfl v _ rfl rfl rfl rfl ?_; intro w4 B4 k4 g4 s4; have b4 := b3.trans (k4.mono b3.size); have S4 := S3.below k4; have ra4 := IdW.range_below ra3 k4; have IV4 := CmW.In.below IV k4; clear g4 s4) | (refine wpList_load_id rfl _ rfl _ _ rfl x ra4 ?_))
          refine (qd _ S4).mono ?_
          clear qd
          rintro e w5 ⟨u, rfl, hu, IU, _, k5⟩
          have b5 := b4.trans (k5.mono b4.size)
          have B5 := B4.below k5
          have IV5 := CmW.In.below IV4 k5
          clear B4 IV4 IV S3 S4 k4 k5 ra3 ra4 b3 b4
          go_wp2_with (first | go_skip | (refine Cel.wpList_store_new CE rfl _ _ rfl w5 _ _ rfl u _ rfl rfl rfl rfl ?_; intro w6 B6 k6 g6 s6; have b6 := b5.trans (k6.mono b5.size); have IV6 := CmW.In.below IV5 k6; have IU6 := CmW.In.below IU k6; have C6 := B5.below k6; clear g6 s6) | (refine Cel.wpList_load_box CE rfl _ rfl _ rfl v C6 ?_) | (refine Cel.wpList_load_box CE rfl _ rfl _ rfl u B6 ?_))
          have qs := CmR.same_ret v u _ IV6 IU6
          rw [hv, hu, CmR.sameK_self] at qs
          refine qs.mono ?_
          clear qs
          rintro e w7 ⟨rfl, k7⟩
          have b7 := b6.trans (k7.mono b6.size)
          have hqq : (q.isSome != q.isSome) = false := by cases q <;> rfl
          obtain ⟨s, hs⟩ : ∃ s, q.isSome = s := ⟨_, rfl⟩
          clear hs
          go_wp2_with (first | go_skip)
          go_roundw
          case rel => exact ⟨k + 1, by omega, by go_num, b7⟩
          case measure => simp [intOf]; omega
        · have pn : ¬ (k : Int) < l1.length := by omega
          go_wp2_with (first | go_skip)
          go_ret
          exact ⟨rfl, b.trans (kc.mono b.size)⟩
end Go.Proofs.YtechkdhehipliaaGreatDoor.DgU
