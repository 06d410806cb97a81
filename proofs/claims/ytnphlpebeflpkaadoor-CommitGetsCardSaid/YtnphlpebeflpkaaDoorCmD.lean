/- The document's reader of package commit: in memory, and what its Num and ID return: contracts. -/
import Derived.Test.YtnphlpebeflpkaaDoorEvWJ3
import Derived.Test.YtnphlpebeflpkaaDoorRefEJ2
import Derived.Test.YtnphlpebeflpkaaDoorIdBJ2
namespace Go.Proofs.YtnphlpebeflpkaaDoor.CmD
set_option maxRecDepth 100000
open Go Go.Sort Go.RowKit Byt EncM EncC IdM IdW IdB OpsM CmM StW CmW

/-- Bytes that are left, in a slice, and whether something was wrong. -/
structure Rd where
  a : Option Addr
  k : Nat
  l : List Int
  bad : Bool
def RE : Cel.Cel Rd where
  T := 61
  k := 2
  bytes := 32
  d := _
  enc r := [.slice r.a r.l.length r.k, .bool r.bad]
  zero := ⟨none, 0, [], false⟩
  len _ := rfl
  one c v hv := by
    simp only [List.mem_cons, List.not_mem_nil, or_false] at hv
    rcases hv with rfl | rfl <;> rfl
  pos := by omega
  info := by kernel_rfl
  under := Tryd.underlying61
  row := rfl
theorem rd_cells {w : World} {g : Nat} {r : Rd} (h : Cel.Box RE w g r) : w.cell? ⟨g, 0, none⟩ = some (.slice r.a r.l.length r.k) ∧ w.cell? ⟨g, 1, none⟩ = some (.bool r.bad) :=
  ⟨h.cell (j := 0) rfl, h.cell (j := 1) rfl⟩
theorem info_b : (Tryd.prog.info? 4).map (·.size) = some 1 := by kernel_rfl
theorem info_s : (Tryd.prog.info? 31).map (·.size) = some 1 := by kernel_rfl
/-- A byte. -/
def isU8 : Value → Bool
  | .int .u8 _ => true
  | _ => false
/-- No cell of a block is a byte. -/
def NoU8 (w : World) (g : Nat) : Prop := ∀ j v, w.cell? ⟨g, j, none⟩ = some v → isU8 v = false
theorem far_cell {w w' : World} {g : Nat} {x : Addr} {n : Int} (h : w.cell? x = some (.int .u8 n)) (hn : NoU8 w g) (hg : w.grownBy w' (some g)) : w'.cell? x = some (.int .u8 n) := by
  have hlt := block_lt_of_cell h
  have hne : some x.block ≠ some g := by
    intro e
    injection e with e
    have hs := World.cell?_spot h
    have : x = ⟨g, x.off, none⟩ := by
      cases x with
      | mk b o s =>
        simp only at e hs
        rw [e, hs]
    rw [this] at h
    have := hn _ _ h
    cases this
  unfold World.cell? at h ⊢
  rw [hg.block _ hlt hne]
  exact h
theorem sl_far {w w' : World} {g cap : Nat} {A : Option Addr} {l : List Int} (h : Sl w A cap l) (hn : NoU8 w g) (hg : w.grownBy w' (some g)) : Sl w' A cap l := by
  obtain ⟨h1, h2, h4, h5⟩ := h
  refine ⟨h1, h2, h4, ?_⟩
  rcases h5 with h5 | ⟨x, rfl, hc⟩
  · exact .inl h5
  · exact .inr ⟨x, rfl, fun i hi => far_cell (hc i hi) hn hg⟩
theorem sli_far {w w' : World} {g cap : Nat} {A : Option Addr} {l : List Idn} (h : SlI w A cap l) (hn : NoU8 w g) (hg : w.grownBy w' (some g)) : SlI w' A cap l := by
  obtain ⟨h1, h2, h5⟩ := h
  refine ⟨h1, h2, ?_⟩
  rcases h5 with h5 | ⟨x, rfl, hc⟩
  · exact .inl h5
  · exact .inr ⟨x, rfl, fun i hi => far_cell (hc i hi) hn hg⟩
theorem no_rd {w : World} {g : Nat} {r : Rd} (h : Cel.Box RE w g r) : NoU8 w g := by
  intro j v hv
  obtain ⟨t, ht⟩ := h
  rw [cell_of_row w g j _ t (0, 0) ht, List.getElem?_toArray] at hv
  match j, hv with
  | 0, hv => simp [RE] at hv; rw [← hv]; rfl
  | 1, hv => simp [RE] at hv; rw [← hv]; rfl
  | j + 2, hv => simp [RE] at hv
theorem no_cm {w : World} {g : Nat} {c : Cv} (h : Cel.Box CE w g c) : NoU8 w g := by
  intro j v hv
  obtain ⟨t, ht⟩ := h
  rw [cell_of_row w g j _ t (0, 0) ht, List.getElem?_toArray] at hv
  match j, hv with
  | 0, hv => simp [CE] at hv; rw [← hv]; rfl
  | 1, hv => simp [CE] at hv; rw [← hv]; rfl
  | 2, hv => simp [CE] at hv; rw [← hv]; rfl
  | 3, hv => simp [CE] at hv; rw [← hv]; rfl
  | 4, hv => simp [CE] at hv; rw [← hv]; rfl
  | 5, hv => simp [CE] at hv; rw [← hv]; rfl
  | 6, hv => simp [CE] at hv; rw [← hv]; rfl
  | 7, hv => simp [CE] at hv; rw [← hv]; rfl
  | j + 8, hv => simp [CE] at hv
/-- What a turn of the reader leaves: its block alone is another one. -/
structure Turned (g : Nat) (w w' : World) : Prop where
  grown : w.grownBy w' (some g)
  below : ∀ B, B ≤ g → Below B w w'
theorem Turned.of_below {g : Nat} {w w' : World} (h : Below w.heap.size w w') (hg : g ≤ w.heap.size) : Turned g w w' := ⟨grown_of_below h _, fun _ hB => h.mono (Nat.le_trans hB hg)⟩
theorem Turned.trans {g : Nat} {w w1 w2 : World} (h : Turned g w w1) (k : Turned g w1 w2) : Turned g w w2 := ⟨h.grown.trans k.grown, fun B hB => (h.below B hB).trans (k.below B hB)⟩
/-- The reader behind a number, behind an id. -/
structure Read (g : Nat) (r0 : Rd) (l : List Int) (bad : Bool) (w w' : World) (r : Rd) : Prop where
  left : r.l = l
  is : r.bad = bad
  box : Cel.Box RE w' g r
  sl : Sl w' r.a r.k r.l
  part : ∀ V, Sl V r0.a r0.k r0.l → Sl V r.a r.k r.l
  turned : Turned g w w'
/-- What is behind the first k bytes of a slice, in whatever world. -/
theorem part_any {A A2 : Option Addr} {cap c2 k n : Nat} {l : List Int} (hs : sliced A k n cap 1 = .slice A2 (l.drop k).length c2) (hn : l.length = n) (hk : k ≤ n) (V : World) (S : Sl V A cap l) : Sl V A2 c2 (l.drop k) := by
  subst hn
  obtain ⟨A', c', hs', S', _⟩ := S.part k l.length hk (Nat.le_refl _)
  rw [hs] at hs'
  injection hs' with e1 _ e3
  have e2 : (l.drop k).take (l.length - k) = l.drop k := List.take_of_length_le (by rw [List.length_drop]; omega)
  rw [e2] at S'
  rw [e1, e3]
  exact S'
/-- The id that bytes begin with. -/
def headI (l : List Int) : Idn := if h : 32 ≤ l.length ∧ ∀ x ∈ l.take 32, 0 ≤ x ∧ x ≤ 255 then ⟨l.take 32, by rw [List.length_take]; omega, h.2⟩ else nought
theorem headI_short {l : List Int} (h : l.length < 32) : headI l = nought := by rw [headI, dif_neg (by omega)]
theorem headI_val {l : List Int} (h : 32 ≤ l.length) (hb : ∀ x ∈ l, B x) : (headI l).val = l.take 32 := by
  rw [headI, dif_pos ⟨h, fun x hx => hb x (List.mem_of_mem_take hx)⟩]
def restI (l : List Int) : List Int := if 32 ≤ l.length then l.drop 32 else l
/-- An id's first k bytes, noughts behind them. -/
def part (x : Idn) (k : Nat) : Idn := ⟨(List.range 32).map fun i => if i < k then x.val.getD i 0 else 0, by simp, by
  intro y hy
  simp only [List.mem_map] at hy
  obtain ⟨i, _, rfl⟩ := hy
  have := Idn_at_range x i
  split <;> omega⟩
theorem part_at (x : Idn) (k i : Nat) (hi : i < 32) : (part x k).1.getD i 0 = if i < k then x.1.getD i 0 else 0 := by
  simp [part, List.getD_eq_getElem?_getD, hi]
theorem part_none (x : Idn) : part x 0 = nought := Idn_ext_at fun i hi => by
  rw [part_at x 0 i hi, if_neg (by omega)]
  have e : nought.1 = List.replicate 32 0 := rfl
  rw [e, List.getD_eq_getElem?_getD, List.getElem?_replicate, if_pos hi]
  rfl
theorem part_all (x : Idn) : part x 32 = x := Idn_ext_at fun i hi => by rw [part_at x 32 i hi, if_pos hi]
theorem part_step (x : Idn) (k : Nat) (hk : k < 32) : (cs (part x k)).setIfInBounds k (.int .u8 (x.1.getD k 0)) = cs (part x (k + 1)) := by
  apply Array.ext_getElem?
  intro i
  rw [Array.getElem?_setIfInBounds]
  by_cases hi : i < 32
  · have q := cs_at (part x (k + 1)) i hi
    rw [part_at _ _ i hi] at q
    rw [q]
    by_cases hik : k = i
    · subst hik
      rw [if_pos rfl, if_pos (by rw [cs_size]; exact hi), if_pos (by omega)]
    · rw [if_neg hik, cs_at _ i hi, part_at _ _ i hi]
      by_cases h2 : i < k
      · rw [if_pos h2, if_pos (by omega)]
      · rw [if_neg h2, if_neg (by omega)]
  · have e1 : (cs (part x k))[i]? = none := Array.getElem?_eq_none (by rw [cs_size]; omega)
    have e2 : (cs (part x (k + 1)))[i]? = none := Array.getElem?_eq_none (by rw [cs_size]; omega)
    rw [e1, e2]
    by_cases hik : k = i
    · omega
    · rw [if_neg hik]
theorem Turned.far {g : Nat} {w w' w2 : World} (T : Turned g w w') (hb : Below w.heap.size w' w2) (hg : g ≤ w.heap.size) : Turned g w w2 :=
  ⟨⟨by rw [hb.os, T.grown.os], by rw [hb.tape, T.grown.tape], by rw [hb.output, T.grown.output], Nat.le_trans T.grown.size hb.size, fun k hk hne => (hb.block k hk).trans (T.grown.block k hk hne)⟩, fun B hB => (T.below B hB).trans (hb.mono (Nat.le_trans hB hg))⟩
theorem results_id {fn : Func} {p : Tmp} (h : fn.results = #[.cell p 36]) (tmps : Array Value) (w : World) (g : Nat) (x : Idn)
    (hp : tmps.getD p undef = .pointer (some ⟨g, 0, none⟩)) (hg : Box w g x) : (results fn tmps).run Tryd.prog w = .ok (.agg (cs x)) w := by
  obtain ⟨t, ht⟩ := hg
  have hp' : tmps[p]?.getD undef = .pointer (some ⟨g, 0, none⟩) := by simpa using hp
  simp [results, h, hp', asAddr, run_loadVar_row w g t 36 (cs x) (0, 0) _ ht Tryd.underlying36 rfl (info_cs x)]
theorem box_far {w w' : World} {g b : Nat} {x : Idn} (h : Box w b x) (hg : w.grownBy w' (some g)) (hne : b ≠ g) : Box w' b x := by
  obtain ⟨t, ht⟩ := h
  exact ⟨t, (hg.block _ (Array.getElem?_eq_some_iff.1 ht).1 (fun e => hne (by injection e))).trans ht⟩
set_option maxRecDepth 100000 in
set_option maxHeartbeats 8000000 in
theorem num_ret (r : Rd) (g : Nat) (w : World) (D : Cel.Box RE w g r) (S : Sl w r.a r.k r.l) (hl : r.l.length ≤ 1099511627776) :
    Calls Tryd.prog 44 #[.pointer (some ⟨g, 0, none⟩)] w fun e w' => e = .returned (.int .u64 ((getL r.l).1 : Nat)) ∧ ∃ r', Read g r (r.l.drop (getL r.l).2) (r.bad || decide ((getL r.l).2 = 0)) w w' r' := by
  obtain ⟨c0, c1⟩ := rd_cells D
  have q := RefF.get S rfl hl
  have hk2 := (getL_le S.bytes).2.2
  have hglt := D.lt
  obtain ⟨n, hn⟩ : ∃ n, (getL r.l).1 = n := ⟨_, rfl⟩
  obtain ⟨k, hk⟩ : ∃ k, (getL r.l).2 = k := ⟨_, rfl⟩
  rw [hn, hk] at q ⊢
  rw [hk] at hk2
  clear hn hk
  obtain ⟨A2, c2, hs, S2, hl2⟩ := S.part k r.l.length hk2 (Nat.le_refl _)
  have e2 : (r.l.drop k).take (r.l.length - k) = r.l.drop k := List.take_of_length_le (by rw [List.length_drop]; omega)
  rw [e2] at S2 hl2
  rw [← hl2] at hs
  have hP := part_any hs rfl hk2
  obtain ⟨l2, hll⟩ : ∃ l, r.l.drop k = l := ⟨_, rfl⟩
  rw [hll] at S2 hl2 hs hP ⊢
  obtain ⟨N, hN⟩ : ∃ N, r.l.length = N := ⟨_, rfl⟩
  rw [hN] at q c0 hs hk2
  have hr : ∀ W, (Instr.sliceAt 31 (.slice r.a N r.k) (some (.int .i64 (k : Nat))) none none).run Tryd.prog W = .ok (.slice A2 l2.length c2) W := fun W => by
    rw [run_part_l W r.a N r.k .i64 k hk2, hs]
  have HN := aside hN
  clear hs hl2 e2 hll S hN
  go_enter Tryd.func44, Tryd.ntmps44
  go_wp2_with fail
  refine q.mono ?_
  rintro e w1 ⟨rfl, k1⟩
  have D1 := D.below k1
  have S1 := S2.below k1
  have T1 := Turned.of_below k1 (Nat.le_of_lt hglt)
  clear q c0 c1 D S2 k1
  obtain ⟨c0, c1⟩ := rd_cells D1
  rw [HN.out] at c0
  by_cases hk0 : k = 0
  · subst hk0
    have hr0 : ∀ W, (Instr.sliceAt 31 (.slice r.a N r.k) (some (.int .i64 0)) none none).run Tryd.prog W = .ok (.slice A2 l2.length c2) W := hr
    clear hr
    go_wp2_with (first | go_skip | (refine Cel.wpList_store_field RE rfl rfl 4 _ _ rfl info_b g 1 rfl (of_decide_eq_true rfl) r D1 ⟨r.a, r.k, r.l, true⟩ _ rfl rfl rfl rfl ?_; intro w2 D2 f2 g2 s2; have T2 := T1.trans ⟨g2, f2⟩; have S3 := sl_far S1 (no_rd D1) g2; clear c0 c1; obtain ⟨c0, c1⟩ := rd_cells D2; rw [HN.out] at c0) | (refine Cel.wpList_store_field RE rfl rfl 31 _ _ rfl info_s g 0 rfl (of_decide_eq_true rfl) ⟨r.a, r.k, r.l, true⟩ D2 ⟨A2, c2, l2, true⟩ _ rfl rfl rfl rfl ?_; intro w3 D3 f3 g3 s3))
    go_ret
    exact ⟨rfl, ⟨A2, c2, l2, true⟩, rfl, by simp, D3, sl_far S3 (no_rd D2) g3, hP, T2.trans ⟨g3, f3⟩⟩
  · have hkb : ((k : Int) == 0) = false := by simp; omega
    go_wp2_with (first | go_skip | (refine Cel.wpList_store_field RE rfl rfl 31 _ _ rfl info_s g 0 rfl (of_decide_eq_true rfl) r D1 ⟨A2, c2, l2, r.bad⟩ _ rfl rfl rfl rfl ?_; intro w3 D3 f3 g3 s3))
    go_ret
    exact ⟨rfl, ⟨A2, c2, l2, r.bad⟩, rfl, by simp [hk0], D3, sl_far S1 (no_rd D1) g3, hP, T1.trans ⟨g3, f3⟩⟩
set_option maxRecDepth 100000 in
set_option maxHeartbeats 8000000 in
theorem id_short (r : Rd) (g : Nat) (w : World) (D : Cel.Box RE w g r) (S : Sl w r.a r.k r.l) (h32 : r.l.length < 32) :
    Calls Tryd.prog 45 #[.pointer (some ⟨g, 0, none⟩)] w fun e w' => e = .returned (.agg (cs (headI r.l))) ∧ ∃ r', Read g r (restI r.l) (r.bad || decide (r.l.length < 32)) w w' r' := by
  have hglt := D.lt
  have G0 : Box ((w.alloc (.cells (cs nought) 36)).alloc (.cells (cs nought) 36)) w.heap.size nought := (Box.new w nought _).alloc _
  have G1 : Box ((w.alloc (.cells (cs nought) 36)).alloc (.cells (cs nought) 36)) (w.heap.size + 1) nought := by
    have := Box.new (w.alloc (.cells (cs nought) 36)) nought 36
    simpa using this
  have kb : Below w.heap.size w ((w.alloc (.cells (cs nought) 36)).alloc (.cells (cs nought) 36)) := ((Below.refl _ _).alloc (Nat.le_refl _) _).alloc (by simp) _
  have D0 := D.below kb
  obtain ⟨c0, c1⟩ := rd_cells D0
  have hlt : ((r.l.length : Int)) < 32 := by omega
  have HQ := aside h32
  go_enter Tryd.func45, Tryd.ntmps45
  go_wp2_with (first | go_skip | (refine IdJ.wpList_alloc_id rfl rfl ?_) | (refine IdJ.wpList_build0 rfl rfl ?_) | (refine wpList_store_new rfl _ _ rfl _ _ nought _ rfl _ rfl (by simp) rfl (cs_size nought) ?_) | (refine Cel.wpList_store_field RE rfl rfl 4 _ _ rfl info_b g 1 rfl (of_decide_eq_true rfl) r D0 ⟨r.a, r.k, r.l, true⟩ _ rfl rfl rfl rfl ?_; intro w2 D2 f2 g2 s2; have T2 := (Turned.of_below kb (Nat.le_of_lt hglt)).trans ⟨g2, f2⟩; have G2 := box_far G0 g2 (by omega); have G3 := box_far G1 g2 (by omega)) | (refine wpList_load_id rfl _ rfl _ _ rfl nought G3.range ?_) | (refine IdJ.wpList_store_box rfl _ _ rfl w.heap.size rfl nought nought G2 rfl ?_))
  have kr := IdJ.below_row (Below.refl w.heap.size w2) (Nat.le_refl w.heap.size) (cs nought)
  have T3 := T2.far kr (Nat.le_of_lt hglt)
  exact bodyPost_ret (v := .agg (cs nought)) (results_id Tryd.results45 _ _ w.heap.size nought rfl (IdJ.Box.row G2 nought)) rfl ⟨by rw [headI_short HQ.out], ⟨r.a, r.k, r.l, true⟩, by rw [restI, if_neg (by have := HQ.out; omega)], by simp [HQ.out], D2.block kr hglt, sl_far S (no_rd D) T3.grown, fun _ S => S, T3⟩
set_option maxRecDepth 100000 in
set_option maxHeartbeats 8000000 in
theorem id_long (r : Rd) (g : Nat) (w : World) (D : Cel.Box RE w g r) (S : Sl w r.a r.k r.l) (h32 : 32 ≤ r.l.length) :
    Calls Tryd.prog 45 #[.pointer (some ⟨g, 0, none⟩)] w fun e w' => e = .returned (.agg (cs (headI r.l))) ∧ ∃ r', Read g r (restI r.l) (r.bad || decide (r.l.length < 32)) w w' r' := by
  have hglt := D.lt
  have G0 : Box ((w.alloc (.cells (cs nought) 36)).alloc (.cells (cs nought) 36)) w.heap.size nought := (Box.new w nought _).alloc _
  have G1 : Box ((w.alloc (.cells (cs nought) 36)).alloc (.cells (cs nought) 36)) (w.heap.size + 1) nought := by
    have := Box.new (w.alloc (.cells (cs nought) 36)) nought 36
    simpa using this
  have kb0 : Below w.heap.size w ((w.alloc (.cells (cs nought) 36)).alloc (.cells (cs nought) 36)) := ((Below.refl _ _).alloc (Nat.le_refl _) _).alloc (by simp) _
  obtain ⟨c0, c1⟩ := rd_cells (D.below kb0)
  obtain ⟨x, hx⟩ : ∃ x, headI r.l = x := ⟨_, rfl⟩
  have HV : Hid (x.val = r.l.take 32) := aside (by rw [← hx]; exact headI_val h32 S.bytes)
  obtain ⟨b, off, hA, hblk, hcs⟩ := S.plain (by omega)
  obtain ⟨A2, c2, hs, S2, hl2⟩ := S.part 32 r.l.length h32 (Nat.le_refl _)
  have e2 : (r.l.drop 32).take (r.l.length - 32) = r.l.drop 32 := List.take_of_length_le (by rw [List.length_drop]; omega)
  rw [e2] at S2 hl2
  have HR : Hid (restI r.l = r.l.drop 32) := aside (by rw [restI, if_pos h32])
  have HC : Hid (∀ i, i < 32 → w.cell? ⟨b, off + i, none⟩ = some (.int .u8 (x.val.getD i 0))) := aside (fun i hi => by
    rw [hcs i (by omega), HV.out, List.getD_eq_getElem?_getD, List.getD_eq_getElem?_getD, List.getElem?_take, if_pos hi])
  obtain ⟨N, hN⟩ : ∃ N, r.l.length = N := ⟨_, rfl⟩
  have HN := aside hN
  have HD : Hid ((r.bad || decide (r.l.length < 32)) = r.bad) := aside (by rw [decide_eq_false (by omega), Bool.or_false])
  rw [← hl2] at hs
  have hP := part_any hs rfl h32
  obtain ⟨l2, hll⟩ : ∃ l, r.l.drop 32 = l := ⟨_, rfl⟩
  rw [hll] at S2 hl2 HR hs hP
  rw [hN, hA] at hs
  rw [hN, hA] at c0
  rw [hN] at h32
  rw [hx, HD.out]
  have hr : ∀ W, (Instr.sliceAt 31 (.slice (some ⟨b, off, none⟩) N r.k) (some (.int .i64 32)) none none).run Tryd.prog W = .ok (.slice A2 l2.length c2) W := fun W => by
    have := run_part_l W (some ⟨b, off, none⟩) N r.k .i64 32 h32
    rw [hs] at this
    exact this
  have hge : ¬ ((N : Int)) < 32 := by omega
  clear hs hl2 e2 hll hN hx hcs HV
  go_enter Tryd.func45, Tryd.ntmps45
  go_wp2_with (first | go_skip | (refine IdJ.wpList_alloc_id rfl rfl ?_) | (refine IdJ.wpList_build0 rfl rfl ?_) | (refine wpList_store_new rfl _ _ rfl _ _ nought _ rfl _ rfl (by simp) rfl (cs_size nought) ?_))
  clear c0 c1
  go_loopw [4] (fun i wr => ∃ k : Nat, k ≤ 32 ∧ i = .int .i64 k ∧ Box wr w.heap.size nought ∧ Box wr (w.heap.size + 1) (part x k) ∧ Below w.heap.size w wr) (fun i _ => 32 - (intOf i).toNat)
  case atStart => exact ⟨0, Nat.zero_le _, rfl, G0, by rw [part_none]; exact G1, kb0⟩
  case round =>
    clear G0 G1 kb0
    obtain ⟨k, hk, rfl, G0, G1, kb⟩ := hrel
    obtain ⟨c0, c1⟩ := rd_cells (D.below kb)
    rw [HN.out, hA] at c0
    by_cases hlt : k < 32
    · have p0 : (k : Int) < 32 := by omega
      have p1 : (k : Int) < N := by omega
      have m0 : ((k : Int)).toNat = k := by omega
      have cx := (kb.cell (p := ⟨b, off + k, none⟩) hblk).trans (HC.out k hlt)
      obtain ⟨y, hy⟩ : ∃ y, x.val.getD k 0 = y := ⟨_, rfl⟩
      rw [hy] at cx
      have HY := aside hy
      clear hy
      have cK := G1.cell k hlt
      have fK := IdJ.Box.frozen G1 k
      go_wp2_with (first | go_skip)
      go_roundw
      case rel => exact ⟨k + 1, by omega, by go_num, IdJ.Box.other G0 (by simp) _, IdJ.Box.put G1 k _ (by rw [← HY.out]; exact part_step x k hlt), IdJ.below_cell kb (by omega) _⟩
      case measure => simp [intOf]; omega
    · have e : k = 32 := by omega
      rw [e, part_all] at G1
      clear e
      have D0 := D.below kb
      go_wp2_with (first | go_skip | (refine Cel.wpList_store_field RE rfl rfl 31 _ _ rfl info_s g 0 rfl (of_decide_eq_true rfl) r D0 ⟨A2, c2, l2, r.bad⟩ _ rfl rfl rfl rfl ?_; intro w3 D3 f3 g3 s3; have T3 := (Turned.of_below kb (Nat.le_of_lt hglt)).trans ⟨g3, f3⟩; have G2 := box_far G0 g3 (by omega); have G3 := box_far G1 g3 (by omega)) | (refine wpList_load_id rfl _ rfl _ _ rfl x G3.range ?_) | (refine IdJ.wpList_store_box rfl _ _ rfl w.heap.size rfl nought x G2 rfl ?_))
      have kr := IdJ.below_row (Below.refl w.heap.size w3) (Nat.le_refl w.heap.size) (cs x)
      have T4 := T3.far kr (Nat.le_of_lt hglt)
      exact bodyPost_ret (v := .agg (cs x)) (results_id Tryd.results45 _ _ w.heap.size x rfl (IdJ.Box.row G2 x)) rfl ⟨rfl, ⟨A2, c2, l2, r.bad⟩, HR.out.symm, rfl, D3.block kr hglt, sl_far S2 (no_rd D) T4.grown, hP, T4⟩
theorem id_ret (r : Rd) (g : Nat) (w : World) (D : Cel.Box RE w g r) (S : Sl w r.a r.k r.l) :
    Calls Tryd.prog 45 #[.pointer (some ⟨g, 0, none⟩)] w fun e w' => e = .returned (.agg (cs (headI r.l))) ∧ ∃ r', Read g r (restI r.l) (r.bad || decide (r.l.length < 32)) w w' r' := by
  by_cases h : r.l.length < 32
  · exact id_short r g w D S h
  · exact id_long r g w D S (by omega)
end Go.Proofs.YtnphlpebeflpkaaDoor.CmD
