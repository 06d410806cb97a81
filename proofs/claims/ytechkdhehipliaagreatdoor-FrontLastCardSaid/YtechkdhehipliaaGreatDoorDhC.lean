/- What the project's copied, Ids and Find of package dag return: contracts. -/
import Derived.Test.YtechkdhehipliaaGreatDoorFrIJ3
import Derived.Test.YtechkdhehipliaaGreatDoorCmAJ2
import Derived.Test.YtechkdhehipliaaGreatDoorDgGJ4
namespace Go.Proofs.YtechkdhehipliaaGreatDoor.DhC
set_option maxRecDepth 100000
open Go Go.Sort Go.RowKit Byt IdM IdW OpsM OpsW CmM StW CmW CmX CmY CmA DgM DgW DgR DgG

theorem nil_eq (w : World) : (binOp BinOp.eql 23 (.slice none 0 0) (.slice none 0 0)).run Tryz.prog w = .ok (.bool true) w := by kernel_rfl
theorem some_eq (p : Addr) (n cap : Nat) (w : World) : (binOp BinOp.eql 23 (.slice (some p) n cap) (.slice none 0 0)).run Tryz.prog w = .ok (.bool false) w := by kernel_rfl
/-- An empty slice that is not nil. -/
theorem build_none {w : World} {ops : Array Oper} {rest : List Oper} {o : Oper} {a : Act} {Q : Exit → Act → World → Prop} (hgd : o.guard = none) (ho : o.op = .buildSlice 23 0 #[])
    (h : ∀ w1 cap, w1.ownsRow w.heap.size 42 32 (.slice (some ⟨w.heap.size, 0, none⟩) 0 cap) 0 (bv (flat [])) → Below w.heap.size w w1 → w.heap.size ≤ w1.heap.size → wpList Tryz.prog ops Q rest (a.put o.dst (.slice (some ⟨w.heap.size, 0, none⟩) 0 cap)) w1) : wpList Tryz.prog ops Q (o :: rest) a w := by
  refine wpList_plain hgd fun K hK => ?_
  have hrun : (Instr.buildSlice 23 0 #[]).run Tryz.prog w = .ok (.slice (some ⟨w.heap.size, 0, none⟩) 0 0) (w.alloc (.cells #[] 42)) := by kernel_rfl
  unfold Oper.wp execOp
  simp only [ho, List.map_toArray, List.map_nil, Sem.run_bind, hrun, Result.andThen_ok, Sem.run_pure]
  refine hK _ _ (h _ 0 ⟨rfl, .inr ⟨w.heap.size, 0, #[], rfl, Nat.le_refl _, heap_alloc_new w _, Nat.le_refl _, Nat.zero_le _, rfl, rfl⟩⟩ ((Below.refl _ _).alloc (Nat.le_refl _) _) (by simp))
theorem clone_ret (A : Option Addr) (cap : Nat) (l : List Idn) (w : World) (S : SlI w A cap l) (hl : l.length ≤ 1000000) :
    Calls Tryz.prog 85 #[.slice A l.length cap] w fun e w' => ∃ A2 cap2, e = .returned (.slice A2 l.length cap2) ∧ SlI w' A2 cap2 l ∧ Below w.heap.size w w' ∧ ∀ b off sp, A2 = some ⟨b, off, sp⟩ → w.heap.size ≤ b := by
  rcases S.2.2 with ⟨rfl, rfl, rfl⟩ | ⟨p, rfl, _⟩
  · have he := nil_eq
    go_enter Tryz.func85, Tryz.ntmps85
    go_wp2_with (first | go_skip)
    go_ret
    exact ⟨none, 0, rfl, SlI.nil w, Below.refl _ _, fun b off sp h => by cases h⟩
  · have he := some_eq p l.length cap
    go_enter Tryz.func85, Tryz.ntmps85
    go_wp2_with (first | go_skip | (refine build_none rfl rfl ?_; intro w1 c1 o1 k1 s1; have S1 := S.below k1) | (refine wpList_append_ids rfl (.tmp 5) (.tmp 6) rfl w.heap.size _ 0 [] rfl o1 (some p) _ cap l rfl rfl S1 (by omega) s1 ?_; intro v2 w2 o2 g2))
    go_ret
    have hb := o2.lt
    obtain ⟨A2, cap2, rfl, S2⟩ := SlI.own o2
    refine ⟨A2, cap2, rfl, S2, below_grown k1 s1 g2 (fun q hq => (o1.lt q hq).1), fun b off sp h => ?_⟩
    subst h
    exact (hb b rfl).1
theorem info_ids : (Tryz.prog.info? 23).map (·.size) = some 1 := by kernel_rfl
/-- A commit with parents of its own. -/
theorem copied_ret (v : Cv) (w : World) (S : In w v) (hl : v.c.ps.length ≤ 1000000) :
    Calls Tryz.prog 61 #[.agg (cc v)] w fun e w' => ∃ u : Cv, e = .returned (.agg (cc u)) ∧ u.c = v.c ∧ In w' u ∧ Below w.heap.size w w' ∧ ∀ b off sp, u.a = some ⟨b, off, sp⟩ → w.heap.size ≤ b := by
  have z1 : (w.alloc (.cells (cc v) 38)).heap.size = w.heap.size + 1 := by simp
  have B0 : Cel.Box CE ((w.alloc (.cells (cc v) 38)).alloc (.cells #[.int .i64 0, .int .i64 0, .int .i64 0, .slice none 0 0, .int .i64 0, .string ⟨#[]⟩, .string ⟨#[]⟩, .int .i64 0] 38)) w.heap.size v := (Cel.Box.new (E := CE) w v _).alloc _
  have B1 : Cel.Box CE ((w.alloc (.cells (cc v) 38)).alloc (.cells #[.int .i64 0, .int .i64 0, .int .i64 0, .slice none 0 0, .int .i64 0, .string ⟨#[]⟩, .string ⟨#[]⟩, .int .i64 0] 38)) (w.heap.size + 1) noV := by
    rw [← z1]
    exact Cel.Box.new (E := CE) _ noV _
  have kb : Below w.heap.size w ((w.alloc (.cells (cc v) 38)).alloc (.cells #[.int .i64 0, .int .i64 0, .int .i64 0, .slice none 0 0, .int .i64 0, .string ⟨#[]⟩, .string ⟨#[]⟩, .int .i64 0] 38)) := ((Below.refl _ _).alloc (Nat.le_refl _) _).alloc (by simp) _
  clear z1
  have c3 := cell_ps B0
  have q := fun W (T : SlI W v.a v.k v.c.ps) => clone_ret v.a v.k v.c.ps W T hl
  go_enter Tryz.func61, Tryz.ntmps61
  go_wp2_with (first | go_skip)
  refine (q _ (S.below kb)).mono ?_
  rintro e w1 ⟨A2, cap2, rfl, S2, k1, hfar⟩
  have D0 := B0.below k1
  have D1 := B1.below k1
  have b1 := kb.trans (k1.mono kb.size)
  have kbs := kb.size
  clear B0 B1 kb k1 q c3
  go_wp2_with (first | go_skip | (refine Cel.wpList_store_field CE rfl rfl 23 _ _ rfl info_ids w.heap.size 3 rfl (by show 3 < 8; omega) v D0 ⟨A2, cap2, v.c⟩ (.slice A2 v.c.ps.length cap2) rfl rfl rfl rfl ?_; intro w2 E0 f2 g2 s2; have E1 := D1.kept g2 (by simp); have b2 := b1.trans (f2 _ (Nat.le_refl _)); have S3 := CmD.sli_far S2 (CmD.no_cm D0) g2; clear D0 D1 b1) | (refine Cel.wpList_load_box CE rfl _ rfl _ rfl _ E0 ?_) | (refine Cel.wpList_store_box CE rfl _ _ rfl (w.heap.size + 1) rfl _ E1 ⟨A2, cap2, v.c⟩ rfl ?_; intro w3 G1 f3 g3 s3))
  exact bodyPost_ret (v := .agg (cc ⟨A2, cap2, v.c⟩)) (CmF.results_c Tryz.results61 _ _ (w.heap.size + 1) ⟨A2, cap2, v.c⟩ rfl G1) rfl ⟨⟨A2, cap2, v.c⟩, rfl, rfl, CmD.sli_far S3 (CmD.no_cm E1) g3, b2.trans (f3 _ (by omega)), fun b off sp h => Nat.le_trans kbs (hfar b off sp h)⟩
set_option maxRecDepth 100000 in
set_option maxHeartbeats 16000000 in
theorem ids_ret (A : Option Addr) (cap : Nat) (l : List Cv) (w : World) (S : SlK w A cap l) (hl : l.length ≤ 1000000) (hK : ShaE.KIn w) :
    Calls Tryz.prog 15 #[.slice A l.length cap] w (NewD (idsD (coms l)) w) := by
  obtain ⟨r, hr⟩ : ∃ r, idsD (coms l) = r := ⟨_, rfl⟩
  have HR : Hid (r = if (coms (l.drop 0)).all mayK = true then (coms l).map hashK else []) := aside (by rw [← hr]; rfl)
  rw [hr]
  clear hr
  unfold NewD
  obtain ⟨i, hi, z0, z1, z2⟩ := info_parts zero_id
  obtain ⟨w1, hmk, own1, g1⟩ := run_make_own (P := Tryz.prog) w w.heap.size 23 42 i (.agg (cs nought)) 32 Tryz.underlying23 hi z0 z1 .i64 .i64 l.length (by rw [z2]; omega) (by unfold maxLen; omega) (Nat.le_refl _)
  have kb1 : Below w.heap.size w w1 := below_grown (Below.refl _ _) (Nat.le_refl _) g1 (fun k hk => by cases hk)
  clear hi z0 z1 z2 g1
  go_enter Tryz.func15, Tryz.ntmps15
  go_wp2_with (first | go_skip)
  go_loopw [3, 13] (fun o i wr => ∃ k : Nat, k ≤ l.length ∧ i = .int .i64 k ∧ Hid (r = if (coms (l.drop k)).all mayK = true then (coms l).map hashK else []) ∧ Hid (wr.ownsRow w.heap.size 42 32 o k (bv (flat (((coms l).take k).map hashK)))) ∧ Below w.heap.size w wr) (fun _ i _ => l.length - (intOf i).toNat)
  case atStart => exact ⟨0, Nat.zero_le _, rfl, HR, aside own1, kb1⟩
  case round =>
    clear HR own1 kb1 hmk
    obtain ⟨k, hk, rfl, HR, HO, kb⟩ := hrel
    by_cases hlt : k < l.length
    · obtain ⟨b, off, rfl, hbw, hrg⟩ := S.plain (by omega)
      obtain ⟨x, hx⟩ : ∃ x, l[k]? = some x := ⟨_, List.getElem?_eq_getElem hlt⟩
      have hr1 := range_on (hrg k x hx) kb
      have p0 : (k : Int) < l.length := by omega
      have m0 : ((k : Int)).toNat = k := by omega
      have hxm := List.mem_of_getElem? hx
      have IX := (S.each x hxm).1.below kb
      have hc := fun W (I : In W x) K => CmA.hash_ret x W I (S.each x hxm).2 K
      unfold HashOut at hc
      have HT := aside (take_map (coms_at hx))
      have HD : Hid ((coms (l.drop k)).all mayK = (mayK x.c && (coms (l.drop (k + 1))).all mayK)) := aside (by rw [drop_at hx]; rfl)
      clear hrg hx hxm
      cases hm : mayK x.c with
      | false =>
        obtain ⟨y1, y2, y3⟩ := putB_no hm
        rw [y2] at hc
        have HE : Hid (r = []) := aside (by rw [HR.out, HD.out, hm]; rfl)
        clear HR HD y1 y2 y3 hm HO
        go_wp2_with (first | go_skip | (refine load_at rfl _ rfl _ _ rfl x hr1 ?_) | (refine Cel.wpList_store_new CE rfl _ _ rfl wr _ _ rfl x _ rfl rfl rfl rfl ?_; intro w3 B3 k3 g3 s3; have b3 := kb.trans (k3.mono kb.size); have IX3 := CmW.In.below IX k3; clear g3 s3) | (refine Cel.wpList_load_box CE rfl _ rfl _ rfl x B3 ?_))
        refine (hc _ IX3 (hK.below b3)).mono ?_
        rintro e w1 ⟨rfl, k1⟩
        have b1 := b3.trans (k1.mono b3.size)
        clear hc kb k1 hr1
        go_wp2_with (first | go_skip | (refine IdJ.wpList_alloc_id rfl rfl ?_) | (refine CmG.wpList_store_id rfl _ _ rfl _ nought _ rfl (hashI x.c) _ rfl rfl rfl ?_; intro w2 G2 k2 s2; have b2 := b1.trans (k2.mono b1.size)))
        go_ret
        rw [HE.out]
        exact ⟨none, 0, rfl, SlI.nil _, b2⟩
      | true =>
        obtain ⟨y1, y2, y3⟩ := putB_yes hm
        rw [y2, y3] at hc
        have HE : Hid (r = if (coms (l.drop (k + 1))).all mayK = true then (coms l).map hashK else []) := aside (by rw [HR.out, HD.out, hm, Bool.true_and])
        clear HR HD y1 y2 y3 hm
        obtain ⟨h, hh⟩ : ∃ h, hashK x.c = h := ⟨_, rfl⟩
        rw [hh] at hc HT
        clear hh
        obtain ⟨xs, hxs⟩ : ∃ xs, ((coms l).take k).map hashK = xs := ⟨_, rfl⟩
        rw [hxs] at HO HT
        clear hxs
        go_wp2_with (first | go_skip | (refine load_at rfl _ rfl _ _ rfl x hr1 ?_) | (refine Cel.wpList_store_new CE rfl _ _ rfl wr _ _ rfl x _ rfl rfl rfl rfl ?_; intro w3 B3 k3 g3 s3; have b3 := kb.trans (k3.mono kb.size); have IX3 := CmW.In.below IX k3; have O3 := aside (owns_below HO.out k3); clear g3 s3) | (refine Cel.wpList_load_box CE rfl _ rfl _ rfl x B3 ?_))
        refine (hc _ IX3 (hK.below b3)).mono ?_
        rintro e w1 ⟨rfl, k1⟩
        have b1 := b3.trans (k1.mono b3.size)
        have O1 := aside (owns_below O3.out k1)
        clear hc kb k1 hr1 HO O3 b3
        go_wp2_with (first | go_skip | (refine IdJ.wpList_alloc_id rfl rfl ?_) | (refine CmG.wpList_store_id rfl _ _ rfl _ nought _ rfl h _ rfl rfl rfl ?_; intro w2 G2 k2 s2; have b2 := b1.trans (k2.mono b1.size); have O2 := aside (owns_below O1.out k2)) | (refine wpList_load_id rfl _ rfl _ _ rfl h G2.range ?_) | (refine build_one rfl _ rfl h rfl ?_; intro w3 S3 k3; have b3 := b2.trans (k3.mono b2.size); have O3 := aside (owns_below O2.out k3)) | (refine wpList_append_ids rfl (.tmp 24) (.tmp 26) rfl w.heap.size _ k xs rfl O3.out _ 1 1 [h] rfl rfl S3 (by omega) b3.size ?_; intro v6 w6 o6 g6))
        have b6 : Below w.heap.size w w6 := below_grown b3 b3.size g6 (fun q hq => (O3.out.lt q hq).1)
        go_roundw
        case rel => exact ⟨k + 1, by omega, by go_num, HE, aside (by rw [HT.out]; exact o6), b6⟩
        case measure => simp [intOf]; omega
    · have e : k = l.length := by omega
      have HE : Hid (r = (coms l).map hashK) := aside (by rw [HR.out, List.drop_of_length_le (by omega)]; rfl)
      have HO2 := HO.out
      rw [List.take_of_length_le (by rw [coms_len]; omega)] at HO2
      have he := HE.out
      obtain ⟨R6, hR6⟩ : ∃ R, (coms l).map hashK = R := ⟨_, rfl⟩
      rw [hR6] at he HO2
      have HE2 := aside he
      clear hR6 he HE
      obtain ⟨A6, c6, rfl, S6⟩ := SlI.own HO2
      have pn : ¬ (k : Int) < l.length := by omega
      clear HR HO HO2
      go_wp2_with (first | go_skip)
      go_ret
      rw [HE2.out]
      exact ⟨A6, c6, rfl, S6, kb⟩
theorem build_cc (w : World) : (Instr.build 38 #[]).run Tryz.prog w = .ok (.agg (cc noV)) w := Go.run_build w 38 _ _ (by kernel_rfl)
theorem wpList_build_cc {ops : Array Oper} {rest : List Oper} {o : Oper} {a : Act} {w : World} {Q : Exit → Act → World → Prop} (hgd : o.guard = none) (ho : o.op = .build 38 #[]) (h : wpList Tryz.prog ops Q rest (a.put o.dst (.agg (cc noV))) w) : wpList Tryz.prog ops Q (o :: rest) a w := by
  refine wpList_plain hgd fun K hK => ?_
  unfold Oper.wp execOp
  simp only [ho, List.map_toArray, List.map_nil, Sem.run_bind, build_cc, Result.andThen_ok, Sem.run_pure]
  exact hK _ _ h
theorem fit_of {u v : Com} (h : u = v) (hf : CmW.Fit v) : CmW.Fit u := by rw [h]; exact hf
set_option maxRecDepth 100000 in
set_option maxHeartbeats 16000000 in
theorem find_ret (A : Option Addr) (cap : Nat) (l : List Cv) (a : Idn) (w : World) (S : SlK w A cap l) (hK : ShaE.KIn w) :
    Calls Tryz.prog 26 #[.slice A l.length cap, .agg (cs a)] w (FoundC (findC (coms l) a) w) := by
  have hmax := S.len
  obtain ⟨r, hr⟩ : ∃ r, findC (coms l) a = r := ⟨_, rfl⟩
  have HR : Hid (r = findC (coms (l.drop 0)) a) := aside hr.symm
  rw [hr]
  clear hr
  unfold FoundC
  have z1 : (w.alloc (.cells (cs a) 42)).heap.size = w.heap.size + 1 := by simp
  have B1 : IdW.Box ((w.alloc (.cells (cs a) 42)).alloc (.cells #[.int .i64 0, .int .i64 0, .int .i64 0, .slice none 0 0, .int .i64 0, .string ⟨#[]⟩, .string ⟨#[]⟩, .int .i64 0] 38)) w.heap.size a := (IdW.Box.new w a _).alloc _
  have C1 : Cel.Box CE ((w.alloc (.cells (cs a) 42)).alloc (.cells #[.int .i64 0, .int .i64 0, .int .i64 0, .slice none 0 0, .int .i64 0, .string ⟨#[]⟩, .string ⟨#[]⟩, .int .i64 0] 38)) (w.heap.size + 1) noV := by
    rw [← z1]
    exact Cel.Box.new (E := CE) _ noV _
  have kb : Below w.heap.size w ((w.alloc (.cells (cs a) 42)).alloc (.cells #[.int .i64 0, .int .i64 0, .int .i64 0, .slice none 0 0, .int .i64 0, .string ⟨#[]⟩, .string ⟨#[]⟩, .int .i64 0] 38)) := ((Below.refl _ _).alloc (Nat.le_refl _) _).alloc (by simp) _
  clear z1
  go_enter Tryz.func26, Tryz.ntmps26
  go_wp2_with (first | go_skip)
  go_loopw [12] (fun i wr => ∃ k : Nat, k ≤ l.length ∧ i = .int .i64 k ∧ Hid (r = findC (coms (l.drop k)) a) ∧ IdW.Box wr w.heap.size a ∧ Cel.Box CE wr (w.heap.size + 1) noV ∧ Below w.heap.size w wr) (fun i _ => l.length - (intOf i).toNat)
  case atStart => exact ⟨0, Nat.zero_le _, rfl, HR, B1, C1, kb⟩
  case round =>
    clear HR B1 C1 kb
    obtain ⟨k, hk, rfl, HR, B1, C1, kb⟩ := hrel
    by_cases hlt : k < l.length
    · obtain ⟨b, off, rfl, hbw, hrg⟩ := S.plain (by omega)
      obtain ⟨x, hx⟩ : ∃ x, l[k]? = some x := ⟨_, List.getElem?_eq_getElem hlt⟩
      have rx := range_on (hrg k x hx) kb
      have p0 : (k : Int) < l.length := by omega
      have m0 : ((k : Int)).toNat = k := by omega
      have hxm := List.mem_of_getElem? hx
      have IX := (S.each x hxm).1
      have HF := aside (S.each x hxm).2
      have hc := fun W (I : In W x) K => CmA.hash_ret x W I (S.each x hxm).2 K
      have hcp := fun W (I : In W x) (hm : mayK x.c = true) => copied_ret x W I (by have := (lineB_iff.1 (mayK_iff.1 hm).1).2.2.1; omega)
      unfold HashOut at hc
      have HX := aside hx
      clear hrg hx hxm
      obtain ⟨n, hn⟩ : ∃ n, putN x.c = n := ⟨_, rfl⟩
      obtain ⟨y, hy⟩ : ∃ y, hashI x.c = y := ⟨_, rfl⟩
      have HN : Hid (mayK x.c = true ∧ n = 0 ∧ hashK x.c = y ∨ mayK x.c = false ∧ n = 1) := aside (by
        cases hm : mayK x.c with
        | false => exact .inr ⟨rfl, by rw [← hn, (putB_no hm).2.1]⟩
        | true => exact .inl ⟨rfl, by rw [← hn, (putB_yes hm).2.1], by rw [← hy, (putB_yes hm).2.2]⟩)
      rw [hn, hy] at hc
      clear hn hy
      go_wp2_with (first | go_skip | (refine load_at rfl _ rfl _ _ rfl x rx ?_) | (refine Cel.wpList_store_new CE rfl _ _ rfl wr _ _ rfl x _ rfl rfl rfl rfl ?_; intro w3 D3 k3 g3 s3; have b3 := kb.trans (k3.mono kb.size); have B3 := B1.below k3 B1.lt; have C3 := C1.below k3; clear g3 s3 B1 C1) | (refine Cel.wpList_load_box CE rfl _ rfl _ rfl x D3 ?_))
      refine (hc _ (IX.below b3) (hK.below b3)).mono ?_
      rintro e w1 ⟨rfl, k1⟩
      have b1 := b3.trans (k1.mono b3.size)
      have B2 := B3.below k1 B3.lt
      have C2 := C3.below k1
      have D2 := D3.below k1
      clear hc kb k1 rx B3 C3 D3 b3 k3
      rcases HN.out with ⟨hm, rfl, hh⟩ | ⟨hm, rfl⟩
      · have heq := fun W => IdW.equal W 9998 y a
        by_cases hya : y = a
        · have HE : Hid (r = some x.c) := aside (by rw [HR.out]; exact findC_yes HX.out hm (hh.trans hya))
          simp only [hya, decide_true] at heq
          subst hya
          have hcp := fun W I => hcp W I hm
          clear HN HR hm hh
          go_wp2_with (first | go_skip | (refine IdJ.wpList_alloc_id rfl rfl ?_) | (refine CmG.wpList_store_id rfl _ _ rfl _ nought _ rfl y _ rfl rfl rfl ?_; intro w2 G2 k2 s2; have b2 := b1.trans (k2.mono b1.size); have B3 := B2.below k2 B2.lt; have C3 := C2.below k2; have D3 := D2.below k2) | (refine CmY.gid _ rfl _ _ rfl y G2.range rfl ?_) | (refine CmY.gid _ rfl _ _ rfl y B3.range rfl ?_) | (refine Cel.wpList_load_box CE rfl _ rfl _ rfl x D3 ?_))
          refine (hcp _ (IX.below b2)).mono ?_
          rintro e w4 ⟨u, rfl, hu, IU, k4, _⟩
          have b4 := b2.trans (k4.mono b2.size)
          have C4 := C3.below k4
          go_wp2_with (first | go_skip | (refine Cel.wpList_store_box CE rfl _ _ rfl (w.heap.size + 1) rfl noV C4 u rfl ?_; intro w9 R9 f9 g9 s9))
          have b9 := b4.trans (f9 w.heap.size (by omega))
          exact bodyPost_ret (v := .tuple #[.agg (cc u), .bool true]) (results_cb Tryz.results26 _ _ (w.heap.size + 1) u _ rfl rfl R9) rfl ⟨u, by rw [HE.out]; rfl, by rw [HE.out]; exact hu, CmD.sli_far IU (CmD.no_cm C4) g9, fit_of hu HF.out, b9⟩
        · have HE : Hid (r = findC (coms (l.drop (k + 1))) a) := aside (by rw [HR.out]; exact findC_no HX.out fun _ h => hya (hh.symm.trans h))
          simp only [hya, decide_false] at heq
          clear HN HR hm hh
          go_wp2_with (first | go_skip | (refine IdJ.wpList_alloc_id rfl rfl ?_) | (refine CmG.wpList_store_id rfl _ _ rfl _ nought _ rfl y _ rfl rfl rfl ?_; intro w2 G2 k2 s2; have b2 := b1.trans (k2.mono b1.size); have B3 := B2.below k2 B2.lt; have C3 := C2.below k2) | (refine CmY.gid _ rfl _ _ rfl y G2.range rfl ?_) | (refine CmY.gid _ rfl _ _ rfl a B3.range rfl ?_))
          go_roundw
          case rel => exact ⟨k + 1, by omega, by go_num, HE, B3, C3, b2⟩
          case measure => simp [intOf]; omega
      · have HE : Hid (r = findC (coms (l.drop (k + 1))) a) := aside (by rw [HR.out]; exact findC_no HX.out fun h => by rw [hm] at h; cases h)
        clear HN HR hm
        go_wp2_with (first | go_skip | (refine IdJ.wpList_alloc_id rfl rfl ?_) | (refine CmG.wpList_store_id rfl _ _ rfl _ nought _ rfl y _ rfl rfl rfl ?_; intro w2 G2 k2 s2; have b2 := b1.trans (k2.mono b1.size); have B3 := B2.below k2 B2.lt; have C3 := C2.below k2))
        go_roundw
        case rel => exact ⟨k + 1, by omega, by go_num, HE, B3, C3, b2⟩
        case measure => simp [intOf]; omega
    · have pn : ¬ (k : Int) < l.length := by omega
      have HE : Hid (r = none) := aside (by rw [HR.out, List.drop_of_length_le (by omega)]; rfl)
      clear HR
      go_wp2_with (first | go_skip | (refine wpList_build_cc rfl rfl ?_) | (refine Cel.wpList_store_box CE rfl _ _ rfl (w.heap.size + 1) rfl noV C1 noV rfl ?_; intro w9 R9 f9 g9 s9))
      exact bodyPost_ret (v := .tuple #[.agg (cc noV), .bool false]) (results_cb Tryz.results26 _ _ (w.heap.size + 1) noV _ rfl rfl R9) rfl ⟨noV, by rw [HE.out]; rfl, by rw [HE.out]; rfl, CmW.In.none _, fit_noK, kb.trans (f9 _ (by omega))⟩
end Go.Proofs.YtechkdhehipliaaGreatDoor.DhC
