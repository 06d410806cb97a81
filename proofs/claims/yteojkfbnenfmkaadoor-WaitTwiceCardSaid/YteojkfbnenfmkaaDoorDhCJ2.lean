/- What the project's copied, Ids and Find of package dag return: contracts. | A contract of the library's, laid at this program. -/
import Derived.Test.YteojkfbnenfmkaaDoorMapVJ10
import Derived.Test.YteojkfbnenfmkaaDoorCmA
import Derived.Shelf.SlLaysF0
import Derived.Test.YteojkfbnenfmkaaDoorProg
namespace Go.Proofs.YteojkfbnenfmkaaDoor.DhC
set_option maxRecDepth 100000
open Go Go.Sort Go.RowKit Byt IdM IdW OpsM OpsW CmM StW CmW CmX CmY CmA DgM DgW DgR DgG

theorem nil_eq (w : World) : (binOp BinOp.eql 25 (.slice none 0 0) (.slice none 0 0)).run Tryd.prog w = .ok (.bool true) w := by kernel_rfl
theorem some_eq (p : Addr) (n cap : Nat) (w : World) : (binOp BinOp.eql 25 (.slice (some p) n cap) (.slice none 0 0)).run Tryd.prog w = .ok (.bool false) w := by kernel_rfl
/-- An empty slice that is not nil. -/
theorem build_none {w : World} {ops : Array Oper} {rest : List Oper} {o : Oper} {a : Act} {Q : Exit → Act → World → Prop} (hgd : o.guard = none) (ho : o.op = .buildSlice 25 0 #[])
    (h : ∀ w1 cap, w1.ownsRow w.heap.size 42 32 (.slice (some ⟨w.heap.size, 0, none⟩) 0 cap) 0 (bv (flat [])) → Below w.heap.size w w1 → w.heap.size ≤ w1.heap.size → wpList Tryd.prog ops Q rest (a.put o.dst (.slice (some ⟨w.heap.size, 0, none⟩) 0 cap)) w1) : wpList Tryd.prog ops Q (o :: rest) a w := by
  refine wpList_plain hgd fun K hK => ?_
  have hrun : (Instr.buildSlice 25 0 #[]).run Tryd.prog w = .ok (.slice (some ⟨w.heap.size, 0, none⟩) 0 0) (w.alloc (.cells #[] 42)) := by kernel_rfl
  unfold Oper.wp execOp
  simp only [ho, List.map_toArray, List.map_nil, Sem.run_bind, hrun, Result.andThen_ok, Sem.run_pure]
  refine hK _ _ (h _ 0 ⟨rfl, .inr ⟨w.heap.size, 0, #[], rfl, Nat.le_refl _, heap_alloc_new w _, Nat.le_refl _, Nat.zero_le _, rfl, rfl⟩⟩ ((Below.refl _ _).alloc (Nat.le_refl _) _) (by simp))
theorem clone_ret (A : Option Addr) (cap : Nat) (l : List Idn) (w : World) (S : SlI w A cap l) (hl : l.length ≤ 1500000000000) :
    Calls Tryd.prog 46 #[.slice A l.length cap] w fun e w' => ∃ A2 cap2, e = .returned (.slice A2 l.length cap2) ∧ SlI w' A2 cap2 l ∧ Below w.heap.size w w' ∧ ∀ b off sp, A2 = some ⟨b, off, sp⟩ → w.heap.size ≤ b := by
  rcases S.2.2 with ⟨rfl, rfl, rfl⟩ | ⟨p, rfl, _⟩
  · have he := nil_eq
    go_enter Tryd.func46, Tryd.ntmps46
    go_wp2_with (first | go_skip)
    go_ret
    exact ⟨none, 0, rfl, SlI.nil w, Below.refl _ _, fun b off sp h => by cases h⟩
  · have he := some_eq p l.length cap
    go_enter Tryd.func46, Tryd.ntmps46
    go_wp2_with (first | go_skip | (refine build_none rfl rfl ?_; intro w1 c1 o1 k1 s1; have S1 := S.below k1) | (refine wpList_append_ids rfl (.tmp 5) (.tmp 6) rfl w.heap.size _ 0 [] rfl o1 (some p) _ cap l rfl rfl S1 (by omega) s1 ?_; intro v2 w2 o2 g2))
    go_ret
    have hb := o2.lt
    obtain ⟨A2, cap2, rfl, S2⟩ := SlI.own o2
    refine ⟨A2, cap2, rfl, S2, below_grown k1 s1 g2 (fun q hq => (o1.lt q hq).1), fun b off sp h => ?_⟩
    subst h
    exact (hb b rfl).1
theorem info_ids : (Tryd.prog.info? 25).map (·.size) = some 1 := by kernel_rfl
set_option maxRecDepth 100000 in
set_option maxHeartbeats 16000000 in
theorem ids_ret (A : Option Addr) (cap : Nat) (l : List Cv) (w : World) (S : SlK w A cap l) (hl : l.length ≤ 1500000000000) (hK : ShaE.KIn w) :
    Calls Tryd.prog 39 #[.slice A l.length cap] w (NewD (idsD (coms l)) w) := by
  obtain ⟨r, hr⟩ : ∃ r, idsD (coms l) = r := ⟨_, rfl⟩
  have HR : Hid (r = if (coms (l.drop 0)).all mayK = true then (coms l).map hashK else []) := aside (by rw [← hr]; rfl)
  rw [hr]
  clear hr
  unfold NewD
  obtain ⟨i, hi, z0, z1, z2⟩ := info_parts zero_id
  obtain ⟨w1, hmk, own1, g1⟩ := run_make_own (P := Tryd.prog) w w.heap.size 25 42 i (.agg (cs nought)) 32 Tryd.underlying25 hi z0 z1 .i64 .i64 l.length (by rw [z2]; omega) (by unfold maxLen; omega) (Nat.le_refl _)
  have kb1 : Below w.heap.size w w1 := below_grown (Below.refl _ _) (Nat.le_refl _) g1 (fun k hk => by cases hk)
  clear hi z0 z1 z2 g1
  go_enter Tryd.func39, Tryd.ntmps39
  go_wp2_with (first | go_skip)
  go_loopw [3, 13] (fun o i wr => ∃ k : Nat, k ≤ l.length ∧ i = .int .i64 k ∧ Hid (r = if (coms (l.drop k)).all mayK = true then (coms l).map hashK else []) ∧ Hid (wr.ownsRow w.heap.size 42 32 o k (bv (flat (((coms l).take k).map hashK)))) ∧ Below w.heap.size w wr) (fun _ i _ => l.length - (intOf i).toNat)
  case atStart => exact ⟨0, Nat.zero_le _, rfl, HR, aside own1, kb1⟩
  case round =>
    clear HR own1 kb1 hmk
    obtain ⟨k, hk, rfl, HR, HO, kb⟩ := hrel
    by_cases hlt : k < l.length
    · obtain ⟨b, off, rfl, hbw, hrg⟩ := S.plain (by omega)
      obtain ⟨x, hx⟩ : ∃ x, l[k]? = some x := ⟨_, List.getElem?_eq_getElem hlt⟩
      have hr1 := range_on (hrg k x hx) kb
      have p0 : (k : Int) < l.length := by omega
      have m0 : ((k : Int)).toNat = k := by omega
      have hxm := List.mem_of_getElem? hx
      have IX := (S.each x hxm).1.below kb
      have hc := fun W (I : In W x) K => CmA.hash_ret x W I (S.each x hxm).2 K
      unfold HashOut at hc
      have HT := aside (take_map (coms_at hx))
      have HD : Hid ((coms (l.drop k)).all mayK = (mayK x.c && (coms (l.drop (k + 1))).all mayK)) := aside (by rw [drop_at hx]; rfl)
      clear hrg hx hxm
      cases hm : mayK x.c with
      | false =>
        obtain ⟨y1, y2, y3⟩ := putB_no hm
        rw [y2] at hc
        have HE : Hid (r = []) := aside (by rw [HR.out, HD.out, hm]; rfl)
        clear HR HD y1 y2 y3 hm HO
        go_wp2_with (first | go_skip | (refine load_at rfl _ rfl _ _ rfl x hr1 ?_) | (refine Cel.wpList_store_new CE rfl _ _ rfl wr _ _ rfl x _ rfl rfl rfl rfl ?_; intro w3 B3 k3 g3 s3; have b3 := kb.trans (k3.mono kb.size); have IX3 := CmW.In.below IX k3; clear g3 s3) | (refine Cel.wpList_load_box CE rfl _ rfl _ rfl x B3 ?_))
        refine (hc _ IX3 (hK.below b3)).mono ?_
        rintro e w1 ⟨rfl, k1⟩
        have b1 := b3.trans (k1.mono b3.size)
        clear hc kb k1 hr1
        go_wp2_with (first | go_skip | (refine IdJ.wpList_alloc_id rfl rfl ?_) | (refine CmG.wpList_store_id rfl _ _ rfl _ nought _ rfl (hashI x.c) _ rfl rfl rfl ?_; intro w2 G2 k2 s2; have b2 := b1.trans (k2.mono b1.size)))
        go_ret
        rw [HE.out]
        exact ⟨none, 0, rfl, SlI.nil _, b2⟩
      | true =>
        obtain ⟨y1, y2, y3⟩ := putB_yes hm
        rw [y2, y3] at hc
        have HE : Hid (r = if (coms (l.drop (k + 1))).all mayK = true then (coms l).map hashK else []) := aside (by rw [HR.out, HD.out, hm, Bool.true_and])
        clear HR HD y1 y2 y3 hm
        obtain ⟨h, hh⟩ : ∃ h, hashK x.c = h := ⟨_, rfl⟩
        rw [hh] at hc HT
        clear hh
        obtain ⟨xs, hxs⟩ : ∃ xs, ((coms l).take k).map hashK = xs := ⟨_, rfl⟩
        rw [hxs] at HO HT
        clear hxs
        go_wp2_with (first | go_skip | (refine load_at rfl _ rfl _ _ rfl x hr1 ?_) | (refine Cel.wpList_store_new CE rfl _ _ rfl wr _ _ rfl x _ rfl rfl rfl rfl ?_; intro w3 B3 k3 g3 s3; have b3 := kb.trans (k3.mono kb.size); have IX3 := CmW.In.below IX k3; have O3 := aside (owns_below HO.out k3); clear g3 s3) | (refine Cel.wpList_load_box CE rfl _ rfl _ rfl x B3 ?_))
        refine (hc _ IX3 (hK.below b3)).mono ?_
        rintro e w1 ⟨rfl, k1⟩
        have b1 := b3.trans (k1.mono b3.size)
        have O1 := aside (owns_below O3.out k1)
        clear hc kb k1 hr1 HO O3 b3
        go_wp2_with (first | go_skip | (refine IdJ.wpList_alloc_id rfl rfl ?_) | (refine CmG.wpList_store_id rfl _ _ rfl _ nought _ rfl h _ rfl rfl rfl ?_; intro w2 G2 k2 s2; have b2 := b1.trans (k2.mono b1.size); have O2 := aside (owns_below O1.out k2)) | (refine wpList_load_id rfl _ rfl _ _ rfl h G2.range ?_) | (refine build_one rfl _ rfl h rfl ?_; intro w3 S3 k3; have b3 := b2.trans (k3.mono b2.size); have O3 := aside (owns_below O2.out k3)) | (refine wpList_append_ids rfl (.tmp 24) (.tmp 26) rfl w.heap.size _ k xs rfl O3.out _ 1 1 [h] rfl rfl S3 (by omega) b3.size ?_; intro v6 w6 o6 g6))
        have b6 : Below w.heap.size w w6 := below_grown b3 b3.size g6 (fun q hq => (O3.out.lt q hq).1)
        go_roundw
        case rel => exact ⟨k + 1, by omega, by go_num, HE, aside (by rw [HT.out]; exact o6), b6⟩
        case measure => simp [intOf]; omega
    · have e : k = l.length := by omega
      have HE : Hid (r = (coms l).map hashK) := aside (by rw [HR.out, List.drop_of_length_le (by omega)]; rfl)
      have HO2 := HO.out
      rw [List.take_of_length_le (by rw [coms_len]; omega)] at HO2
      have he := HE.out
      obtain ⟨R6, hR6⟩ : ∃ R, (coms l).map hashK = R := ⟨_, rfl⟩
      rw [hR6] at he HO2
      have HE2 := aside he
      clear hR6 he HE
      obtain ⟨A6, c6, rfl, S6⟩ := SlI.own HO2
      have pn : ¬ (k : Int) < l.length := by omega
      clear HR HO HO2
      go_wp2_with (first | go_skip)
      go_ret
      rw [HE2.out]
      exact ⟨A6, c6, rfl, S6, kb⟩
theorem build_cc (w : World) : (Instr.build 29 #[]).run Tryd.prog w = .ok (.agg (cc noV)) w := Go.run_build w 29 _ _ (by kernel_rfl)
theorem wpList_build_cc {ops : Array Oper} {rest : List Oper} {o : Oper} {a : Act} {w : World} {Q : Exit → Act → World → Prop} (hgd : o.guard = none) (ho : o.op = .build 29 #[]) (h : wpList Tryd.prog ops Q rest (a.put o.dst (.agg (cc noV))) w) : wpList Tryd.prog ops Q (o :: rest) a w := by
  refine wpList_plain hgd fun K hK => ?_
  unfold Oper.wp execOp
  simp only [ho, List.map_toArray, List.map_nil, Sem.run_bind, build_cc, Result.andThen_ok, Sem.run_pure]
  exact hK _ _ h
end Go.Proofs.YteojkfbnenfmkaaDoor.DhC
namespace Go.Proofs
set_option maxRecDepth 100000
open Go.Shelf
def Tryd.sortIds_ren : Go.Shelf.Ren := ⟨fun | 6 => 51 | 15 => 65 | 14 => 64 | 28 => 80 | 29 => 81 | 20 => 72 | 21 => 73 | 22 => 74 | 23 => 75 | 24 => 76 | 25 => 77 | 26 => 78 | 27 => 79 | 46 => 89 | 47 => 90 | 48 => 91 | 49 => 92 | 50 => 93 | 57 => 94 | n => n, fun | 22 => 25 | 24 => 42 | 25 => 79 | 3 => 3 | 39 => 97 | 0 => 0 | 53 => 88 | 55 => 83 | 4 => 4 | 46 => 111 | 45 => 110 | 50 => 115 | 5 => 5 | 9 => 9 | 66 => 124 | 70 => 128 | 76 => 130 | 77 => 131 | n => n, fun | n => n⟩
theorem Tryd.sortIds : Go.Proofs.SlLaysF0.n6 Tryd.prog Tryd.sortIds_ren := {
  mixed := by kernel_rfl
  f6 := ⟨Tryd.f51.name, by decide, Tryd.func51.trans (congrArg some (by kernel_rfl))⟩
  f14 := ⟨Tryd.f64.name, by decide, Tryd.func64.trans (congrArg some (by kernel_rfl))⟩
  f15 := Tryd.func65.trans (congrArg some (by kernel_rfl))
  f20 := ⟨Tryd.f72.name, by decide, Tryd.func72.trans (congrArg some (by kernel_rfl))⟩
  f21 := ⟨Tryd.f73.name, by decide, Tryd.func73.trans (congrArg some (by kernel_rfl))⟩
  f22 := ⟨Tryd.f74.name, by decide, Tryd.func74.trans (congrArg some (by kernel_rfl))⟩
  f23 := ⟨Tryd.f75.name, by decide, Tryd.func75.trans (congrArg some (by kernel_rfl))⟩
  f24 := ⟨Tryd.f76.name, by decide, Tryd.func76.trans (congrArg some (by kernel_rfl))⟩
  f25 := ⟨Tryd.f77.name, by decide, Tryd.func77.trans (congrArg some (by kernel_rfl))⟩
  f26 := ⟨Tryd.f78.name, by decide, Tryd.func78.trans (congrArg some (by kernel_rfl))⟩
  f27 := ⟨Tryd.f79.name, by decide, Tryd.func79.trans (congrArg some (by kernel_rfl))⟩
  f28 := Tryd.func80.trans (congrArg some (by kernel_rfl))
  f29 := Tryd.func81.trans (congrArg some (by kernel_rfl))
  f46 := ⟨Tryd.f89.name, by decide, Tryd.func89.trans (congrArg some (by kernel_rfl))⟩
  f47 := Tryd.func90.trans (congrArg some (by kernel_rfl))
  f48 := Tryd.func91.trans (congrArg some (by kernel_rfl))
  f49 := ⟨Tryd.f92.name, by decide, Tryd.func92.trans (congrArg some (by kernel_rfl))⟩
  f50 := ⟨Tryd.f93.name, by decide, Tryd.func93.trans (congrArg some (by kernel_rfl))⟩
  f57 := ⟨Tryd.f94.name, by decide, Tryd.func94.trans (congrArg some (by kernel_rfl))⟩
  t0 := Tryd.underlying0
  a0 := Tryd.isAgg0
  z0 := Tryd.sizeOf0
  v0 := Tryd.zeroValue0
  t3 := Tryd.underlying3
  a3 := Tryd.isAgg3
  z3 := Tryd.sizeOf3
  v3 := Tryd.zeroValue3
  t4 := Tryd.underlying4
  a4 := Tryd.isAgg4
  z4 := Tryd.sizeOf4
  v4 := Tryd.zeroValue4
  t5 := Tryd.underlying5
  a5 := Tryd.isAgg5
  z5 := Tryd.sizeOf5
  v5 := Tryd.zeroValue5
  t9 := Tryd.underlying9
  a9 := Tryd.isAgg9
  z9 := Tryd.sizeOf9
  v9 := Tryd.zeroValue9
  t22 := Tryd.underlying25
  a22 := Tryd.isAgg25
  z22 := Tryd.sizeOf25
  v22 := Tryd.zeroValue25
  t25 := Tryd.underlying79
  a25 := Tryd.isAgg79
  z25 := Tryd.sizeOf79
  v25 := Tryd.zeroValue79
  t39 := Tryd.underlying97
  a39 := Tryd.isAgg97
  z39 := Tryd.sizeOf97
  v39 := Tryd.zeroValue97
  t45 := Tryd.underlying110
  a45 := Tryd.isAgg110
  z45 := Tryd.sizeOf110
  v45 := Tryd.zeroValue110
  t46 := Tryd.underlying111
  a46 := Tryd.isAgg111
  z46 := Tryd.sizeOf111
  v46 := Tryd.zeroValue111
  t50 := Tryd.underlying115
  a50 := Tryd.isAgg115
  z50 := Tryd.sizeOf115
  v50 := Tryd.zeroValue115
  t53 := Tryd.underlying88
  a53 := Tryd.isAgg88
  z53 := Tryd.sizeOf88
  v53 := Tryd.zeroValue88
  t55 := Tryd.underlying83
  a55 := Tryd.isAgg83
  z55 := Tryd.sizeOf83
  v55 := Tryd.zeroValue83
  t66 := Tryd.underlying124
  a66 := Tryd.isAgg124
  z66 := Tryd.sizeOf124
  v66 := Tryd.zeroValue124
  t70 := Tryd.underlying128
  a70 := Tryd.isAgg128
  z70 := Tryd.sizeOf128
  v70 := Tryd.zeroValue128
  t76 := Tryd.underlying130
  a76 := Tryd.isAgg130
  z76 := Tryd.sizeOf130
  v76 := Tryd.zeroValue130
  t77 := Tryd.underlying131
  a77 := Tryd.isAgg131
  z77 := Tryd.sizeOf131
  v77 := Tryd.zeroValue131 }
end Go.Proofs
