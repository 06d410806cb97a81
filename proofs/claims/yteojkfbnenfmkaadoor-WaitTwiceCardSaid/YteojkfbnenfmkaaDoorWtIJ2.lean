/- What Ready's closures, the searches, and slices.Delete return: contracts. No condition but sizes. | Three results, the first of them a commit in a block. No condition. -/
import Derived.Test.YteojkfbnenfmkaaDoorWtH
import Derived.Test.YteojkfbnenfmkaaDoorIdRJ2
import Derived.Test.YteojkfbnenfmkaaDoorWtPJ2
import Derived.Test.YteojkfbnenfmkaaDoorCmRJ6
namespace Go.Proofs.YteojkfbnenfmkaaDoor.WtI
set_option maxRecDepth 100000
open Go Go.Sort Go.RowKit Byt IdM IdW IdK IdS OpsM OpsW CmM StW CmW CmX CmY CmA DgM DgW DgR DgF RowS DhB WtM WtF WtG WtH
open Classical

set_option maxRecDepth 100000 in
set_option maxHeartbeats 4000000 in
/-- Is an id absent from a set? -/
theorem absent_ret (B mb n : Nat) (L : List Idn) (x : Idn) (w : World) (hB : w.cell? ⟨B, 0, none⟩ = some (.map (some mb))) (hl : B < w.heap.size) (M : SetIn w mb n L) :
    Calls Tryd.prog 32 #[.agg (cs x), .pointer (some ⟨B, 0, none⟩)] w fun e w' => e = .returned (.bool (decide (x ∉ L))) ∧ Below w.heap.size w w' := by
  have k0 := StW.below_alloc w (.cells (cs x) 42)
  have I0 : IdW.Box (w.alloc (.cells (cs x) 42)) w.heap.size x := IdW.Box.new w x _
  have M0 := M.below k0
  have c0 := (k0.cell (p := ⟨B, 0, none⟩) hl).trans hB
  by_cases h : x ∈ L
  · have e : decide (x ∉ L) = false := by simp [h]
    have E := aside e
    have E1 : Hid ((if x ∈ L then (1 : Int) else 0) = 1) := aside (if_pos h)
    clear hB M e h
    go_enter Tryd.func32, Tryd.ntmps32
    go_wp2_with (first | go_skip | (refine wpList_load_id rfl _ rfl _ _ rfl x I0.range ?_) | (refine IdK.wpList_find _ rfl _ _ rfl mb n L rfl M0 x rfl ?_; rw [E1.out]))
    go_ret
    exact ⟨by rw [E.out]; rfl, k0⟩
  · have e : decide (x ∉ L) = true := by simp [h]
    have E := aside e
    have E1 : Hid ((if x ∈ L then (1 : Int) else 0) = 0) := aside (if_neg h)
    clear hB M e h
    go_enter Tryd.func32, Tryd.ntmps32
    go_wp2_with (first | go_skip | (refine wpList_load_id rfl _ rfl _ _ rfl x I0.range ?_) | (refine IdK.wpList_find _ rfl _ _ rfl mb n L rfl M0 x rfl ?_; rw [E1.out]))
    go_ret
    exact ⟨by rw [E.out]; rfl, k0⟩
theorem take_next_all {l : List Idn} {L : List Idn} {k : Nat} {x : Idn} (h : ∀ y ∈ l.take k, y ∈ L) (hx : l[k]? = some x) (hL : x ∈ L) : ∀ y ∈ l.take (k + 1), y ∈ L := fun y hy => by
  obtain ⟨hk, rfl⟩ := List.getElem?_eq_some_iff.1 hx
  rw [List.take_succ_eq_append_getElem hk, List.mem_append, List.mem_singleton] at hy
  rcases hy with hy | rfl
  · exact h y hy
  · exact hL
set_option maxRecDepth 100000 in
set_option maxHeartbeats 8000000 in
/-- Where the first of ids is that is absent, if there is one. -/
theorem absents_ret (B mb n : Nat) (L : List Idn) (A : Option Addr) (cap : Nat) (l : List Idn) (w : World) (S : SlI w A cap l) (hB : w.cell? ⟨B, 0, none⟩ = some (.map (some mb))) (hl : B < w.heap.size) (M : SetIn w mb n L) :
    Calls Tryd.prog 50 #[.slice A l.length cap, .func (.func 32) #[] #[.pointer (some ⟨B, 0, none⟩)]] w fun e w' => ∃ i : Int, e = .returned (.int .i64 i) ∧ (0 ≤ i ↔ ∃ x ∈ l, x ∉ L) ∧ Below w.heap.size w w' := by
  have hmax : l.length ≤ 9223372036854775807 := by have := S.1; have := S.2.1; unfold maxLen at this; omega
  go_enter Tryd.func50, Tryd.ntmps50
  go_wp2_with (first | go_skip)
  go_loopw [8] (fun i wr => ∃ k : Nat, k ≤ l.length ∧ i = .int .i64 k ∧ Hid (∀ y ∈ l.take k, y ∈ L) ∧ Below w.heap.size w wr) (fun i _ => l.length - (intOf i).toNat)
  case atStart => exact ⟨0, Nat.zero_le _, rfl, aside (by simp), Below.refl _ _⟩
  case round =>
    obtain ⟨k, hk, rfl, HA, kb⟩ := hrel
    by_cases hlt : k < l.length
    · obtain ⟨g, off, rfl, hbw, hr⟩ := S.plain (by omega)
      obtain ⟨x, hx⟩ : ∃ x, l[k]? = some x := ⟨_, List.getElem?_eq_getElem hlt⟩
      have rx := IdW.range_below (hr k hlt) kb
      rw [show l.getD k nought = x by rw [List.getD_eq_getElem?_getD, hx]; rfl] at rx
      have q := absent_ret B mb n L x wr ((kb.cell (p := ⟨B, 0, none⟩) hl).trans hB) (Nat.lt_of_lt_of_le hl kb.size) (M.below kb)
      have p0 : (k : Int) < l.length := by omega
      have m0 : ((k : Int)).toNat = k := by omega
      have HX := aside hx
      clear hr hx hB M S
      by_cases h : x ∈ L
      · rw [show decide (x ∉ L) = false by simp [h]] at q
        have HH := aside h
        clear h
        go_wp2_with (first | go_skip | (refine wpList_load_id rfl _ rfl _ _ rfl x rx ?_))
        refine q.mono ?_
        rintro e w1 ⟨rfl, k1⟩
        clear q
        go_wp2_with (first | go_skip)
        go_roundw
        case rel => exact ⟨k + 1, by omega, by go_num, aside (take_next_all HA.out HX.out HH.out), kb.trans (k1.mono kb.size)⟩
        case measure => simp [intOf]; omega
      · rw [show decide (x ∉ L) = true by simp [h]] at q
        have HH := aside h
        clear h
        go_wp2_with (first | go_skip | (refine wpList_load_id rfl _ rfl _ _ rfl x rx ?_))
        refine q.mono ?_
        rintro e w1 ⟨rfl, k1⟩
        clear q
        go_wp2_with (first | go_skip)
        go_ret
        exact ⟨_, rfl, ⟨fun _ => ⟨x, List.mem_of_getElem? HX.out, HH.out⟩, fun _ => by omega⟩, kb.trans (k1.mono kb.size)⟩
    · obtain rfl : k = l.length := by omega
      rw [List.take_length] at HA
      go_wp2_with (first | go_skip)
      go_ret
      exact ⟨_, rfl, ⟨fun h => absurd h (by omega), fun ⟨x, hx, hn⟩ => absurd (HA.out x hx) hn⟩, kb⟩
set_option maxRecDepth 100000 in
set_option maxHeartbeats 4000000 in
/-- Is one of ids absent? -/
theorem lacks_ret (B mb n : Nat) (L : List Idn) (A : Option Addr) (cap : Nat) (l : List Idn) (w : World) (S : SlI w A cap l) (hB : w.cell? ⟨B, 0, none⟩ = some (.map (some mb))) (hl : B < w.heap.size) (M : SetIn w mb n L) :
    Calls Tryd.prog 34 #[.slice A l.length cap, .func (.func 32) #[] #[.pointer (some ⟨B, 0, none⟩)]] w fun e w' => e = .returned (.bool (decide (∃ x ∈ l, x ∉ L))) ∧ Below w.heap.size w w' := by
  have q := absents_ret B mb n L A cap l w S hB hl M
  clear S hB M
  go_enter Tryd.func34, Tryd.ntmps34
  go_wp2_with (first | go_skip)
  refine q.mono ?_
  rintro e w1 ⟨i, rfl, hi, k1⟩
  clear q
  have HI := aside hi
  clear hi
  go_wp2_with (first | go_skip)
  go_ret
  exact ⟨congrArg (fun b => Ending.returned (Value.bool b)) (decide_eq_decide.2 HI.out), k1⟩
set_option maxRecDepth 100000 in
set_option maxHeartbeats 4000000 in
/-- Are all of a commit's parents there? -/
theorem isready_ret (B2 B mb n : Nat) (L : List Idn) (x : Cv) (w : World) (I : In w x) (h2 : w.cell? ⟨B2, 0, none⟩ = some (.func (.func 32) #[] #[.pointer (some ⟨B, 0, none⟩)])) (hl2 : B2 < w.heap.size) (hB : w.cell? ⟨B, 0, none⟩ = some (.map (some mb))) (hl : B < w.heap.size) (M : SetIn w mb n L) :
    Calls Tryd.prog 33 #[.agg (cc x), .pointer (some ⟨B2, 0, none⟩)] w fun e w' => e = .returned (.bool (freeB L x.c)) ∧ Below w.heap.size w w' := by
  have k0 := StW.below_alloc w (.cells (cc x) 29)
  have X0 : Cel.Box CE (w.alloc (.cells (cc x) 29)) w.heap.size x := Cel.Box.new (E := CE) w x _
  have c3 := cell_ps X0
  have c2 := (k0.cell (p := ⟨B2, 0, none⟩) hl2).trans h2
  have q := lacks_ret B mb n L x.a x.k x.c.ps _ (SlI.below I k0) ((k0.cell (p := ⟨B, 0, none⟩) hl).trans hB) (Nat.lt_of_lt_of_le hl k0.size) (M.below k0)
  obtain ⟨z, hz⟩ : ∃ z, decide (∃ y ∈ x.c.ps, y ∉ L) = z := ⟨_, rfl⟩
  have hf : freeB L x.c = !z := by
    rw [← hz]
    unfold freeB
    by_cases h : ∃ y ∈ x.c.ps, y ∉ L
    · rw [decide_eq_true h]
      obtain ⟨y, hy, hn⟩ := h
      exact decide_eq_false fun h => hn (h y hy)
    · rw [decide_eq_false h]
      exact decide_eq_true fun a ha => Classical.byContradiction fun hn => h ⟨a, ha, hn⟩
  rw [hz] at q
  rw [hf]
  clear hz hf h2 hB M I X0
  go_enter Tryd.func33, Tryd.ntmps33
  go_wp2_with (first | go_skip)
  refine q.mono ?_
  rintro e w1 ⟨rfl, k1⟩
  have b1 := k0.trans (k1.mono k0.size)
  clear q
  go_wp2_with (first | go_skip)
  go_ret
  exact ⟨rfl, b1⟩
/-- Parts of a row of the call's own. -/
theorem first_at (W : World) (g n cap : Nat) (k : IntKind) (i : Nat) (hi : i ≤ cap) : (Instr.sliceAt 22 (.slice (some ⟨g, 0, none⟩) n cap) none (some (.int k i)) none).run Tryd.prog W = .ok (.slice (some ⟨g, 0, none⟩) i cap) W := by
  refine (RowP.run_part_h KE W _ n cap k i hi).trans ?_
  simp [sliced, Addr.add_lit]
theorem others_at (W : World) (g n cap : Nat) (k : IntKind) (i : Nat) (hi : i ≤ n) : (Instr.sliceAt 22 (.slice (some ⟨g, 0, none⟩) n cap) (some (.int k i)) none none).run Tryd.prog W = .ok (.slice (some ⟨g, if cap = i then 0 else i * 8, none⟩) (n - i) (cap - i)) W := by
  refine (RowP.run_part_l KE W _ n cap k i hi).trans ?_
  by_cases h : cap = i
  · simp [sliced, h]
  · simp only [sliced, if_neg h, Option.map_some, Addr.add_lit, Nat.zero_add]
    rfl
theorem lh_at (W : World) (g n cap : Nat) (k1 k2 : IntKind) (i j : Nat) (hij : i < j) (hj : j ≤ cap) : (Instr.sliceAt 22 (.slice (some ⟨g, 0, none⟩) n cap) (some (.int k1 i)) (some (.int k2 j)) none).run Tryd.prog W = .ok (.slice (some ⟨g, i * 8, none⟩) (j - i) (cap - i)) W := by
  refine (run_sliceAt_slice W KE.S _ _ _ _ (RowP.under_e KE)).trans ?_
  refine (run_slice_lh W KE.S _ n cap (RowP.under_e KE) k1 k2 i j (by omega) (by omega) (by omega)).trans ?_
  refine (congrArg (fun r => Result.andThen r _) (RowP.size_e KE W)).trans ?_
  simp only [Result.andThen, sliced, Int.toNat_natCast, if_neg (show ¬ cap = i by omega), Option.map_some, Addr.add_lit, Nat.zero_add]
  rfl
theorem lhm_at (W : World) (g n cap : Nat) (k1 k2 k3 : IntKind) (i j m : Nat) (hij : i ≤ j) (hj : j ≤ m) (hm : m ≤ cap) : (Instr.sliceAt 22 (.slice (some ⟨g, 0, none⟩) n cap) (some (.int k1 i)) (some (.int k2 j)) (some (.int k3 m))).run Tryd.prog W = .ok (sliced (some ⟨g, 0, none⟩) i j m 8) W := by
  refine (run_sliceAt_slice W KE.S _ _ _ _ (RowP.under_e KE)).trans ?_
  refine (run_slice_lhm W KE.S _ n cap (RowP.under_e KE) k1 k2 k3 i j m (by omega) (by omega) (by omega) (by omega)).trans ?_
  exact (congrArg (fun r => Result.andThen r _) (RowP.size_e KE W)).trans rfl
set_option maxRecDepth 100000 in
set_option maxHeartbeats 8000000 in
/-- One of a row of the call's own taken out, in place. -/
theorem delete_ret (base g cap n m : Nat) (l : List Cv) (i : Nat) (hn : l.length = n) (hnm : n = m + 1) (hi : i < n) (w : World) (h : w.ownsRow base 29 8 (.slice (some ⟨g, 0, none⟩) n cap) n (RowS.flat KE l)) (hl : n ≤ 1000000) :
    Calls Tryd.prog 36 #[.slice (some ⟨g, 0, none⟩) n cap, .int .i64 i, .int .i64 ((i : Int) + 1)] w fun e w' => e = .returned (.slice (some ⟨g, 0, none⟩) m cap) ∧ w'.ownsRow base 29 8 (.slice (some ⟨g, 0, none⟩) m cap) m (RowS.flat KE (l.take i ++ l.drop (i + 1))) ∧ w.grownBy w' (some g) := by
  have kd := below_drew1 (Below.refl w.heap.size w)
  have hd := owns_below h kd
  have hnc : n ≤ cap := by
    obtain ⟨_, _, _, h3, _⟩ := own_block h
    exact h3
  rw [← hn] at hd
  obtain ⟨w1, hap, g1, z, hz, o1⟩ := run_cut w.drew base g cap l i (by omega) hd (if cap = i + 1 then 0 else (i + 1) * 8) (fun e => if_neg e) (cap - (i + 1))
  rw [hn] at o1 hap
  have hm1 : n - 1 = m := by omega
  rw [hm1] at hap
  have hth := there_at o1 (m := m) (by omega)
  have hcl := fun ty => run_clear_one w1 g (m * 8) (cap - m) ty hth.1 hth.2
  obtain ⟨w2, hw2⟩ : ∃ w2, w2 = w1.setCells g (m * 8) (KE.enc noV) := ⟨_, rfl⟩
  rw [← hw2] at hcl
  obtain ⟨o2, g2⟩ := cleared o1 (m := m) (by rw [List.length_append, List.length_take, List.length_drop]; omega) hnm hz hw2
  have HO := aside o2
  have HG := aside ((grown_of_below kd (some g)).trans (g1.trans g2))
  have e1 : ∀ W, (Instr.sliceAt 22 (.slice (some ⟨g, 0, none⟩) n cap) (some (.int .i64 (i : Int))) (some (.int .i64 ((i : Int) + 1))) (some (.int .i64 (n : Int)))).run Tryd.prog W = .ok (sliced (some ⟨g, 0, none⟩) i (i + 1) n 8) W := fun W => lhm_at W g n cap .i64 .i64 .i64 i (i + 1) n (by omega) (by omega) hnc
  obtain ⟨V, hV⟩ : ∃ V, sliced (some ⟨g, 0, none⟩) i (i + 1) n 8 = V := ⟨_, rfl⟩
  rw [hV] at e1
  have e2 : ∀ W, (Instr.sliceAt 22 (.slice (some ⟨g, 0, none⟩) n cap) none (some (.int .i64 (i : Int))) none).run Tryd.prog W = .ok (.slice (some ⟨g, 0, none⟩) i cap) W := fun W => first_at W g n cap .i64 i (by omega)
  have e3 : ∀ W, (Instr.sliceAt 22 (.slice (some ⟨g, 0, none⟩) n cap) (some (.int .i64 ((i : Int) + 1))) none none).run Tryd.prog W = .ok (.slice (some ⟨g, if cap = i + 1 then 0 else (i + 1) * 8, none⟩) (n - (i + 1)) (cap - (i + 1))) W := fun W => others_at W g n cap .i64 (i + 1) (by omega)
  have e4 : ∀ W, (Instr.sliceAt 22 (.slice (some ⟨g, 0, none⟩) m cap) (some (.int .i64 (m : Int))) (some (.int .i64 (n : Int))) none).run Tryd.prog W = .ok (.slice (some ⟨g, m * 8, none⟩) 1 (cap - m)) W := fun W => by
    have := lh_at W g m cap .i64 .i64 m n (by omega) hnc
    rwa [show n - m = 1 by omega] at this
  obtain ⟨D, hD⟩ : ∃ D, (if cap = i + 1 then 0 else (i + 1) * 8) = D := ⟨_, rfl⟩
  rw [hD] at hap e3
  obtain ⟨nd, hnd⟩ : ∃ d, n - (i + 1) = d := ⟨_, rfl⟩
  obtain ⟨cd, hcd⟩ : ∃ d, cap - (i + 1) = d := ⟨_, rfl⟩
  obtain ⟨cm, hcm⟩ : ∃ d, cap - m = d := ⟨_, rfl⟩
  rw [hnd, hcd] at hap e3
  rw [hcm] at hcl e4
  have hne : ¬ ((i : Int) = (i : Int) + 1) := by omega
  clear h kd hd hn o1 o2 g1 g2 hm1 hth hw2 hz hV hD hnd hcd hcm hnm hnc
  go_enter Tryd.func36, Tryd.ntmps36
  go_wp2_with (first | go_skip)
  refine Forks.region (.free 0 (.free 1 (.free 2 (.free 3 (.free 4 (.free 5 (.act 6 (.free 7 .ends)))))))) (by kernel_rfl) (by kernel_rfl) rfl (by kernel_rfl) (by intro c a d v w h; cases d <;> exact h) ?_
  (try simp only [Act.put, List.setIfInBounds_toArray, List.set_cons_succ, List.set_cons_zero])
  repeat (refine Forks.reads rfl rfl ?_; go_big_quiet_step (fail); refine wpQuiet_nil ?_)
  refine Forks.acts rfl ?_
  go_wp2_with (first | go_skip | (refine Lib.wpList_append_run _ rfl _ _ _ _ rfl _ _ rfl rfl _ _ (hap _) ?_))
  refine Forks.on ?_
  (try simp only [Act.put, List.setIfInBounds_toArray, List.set_cons_succ, List.set_cons_zero])
  repeat (refine Forks.reads rfl rfl ?_; go_big_quiet_step (fail); refine wpQuiet_nil ?_)
  refine Forks.ends ?_
  go_wp2_with (first | go_skip)
  go_ret
  exact ⟨rfl, HO.out, HG.out⟩
end Go.Proofs.YteojkfbnenfmkaaDoor.WtI
namespace Go.Proofs.YteojkfbnenfmkaaDoor.WtL
set_option maxRecDepth 100000
open Go Go.Sort Go.RowKit Byt IdM IdW OpsM OpsW CmM StW CmW CmX

theorem results_r {fn : Func} {p q r : Tmp} (h : fn.results = #[.cell p 29, .tmp q, .tmp r]) (tmps : Array Value) (w : World) (g : Nat) (v : Cv) (x y : Value)
    (hp : tmps.getD p undef = .pointer (some ⟨g, 0, none⟩)) (hq : tmps.getD q undef = x) (hr : tmps.getD r undef = y) (hg : Cel.Box CE w g v) :
    (results fn tmps).run Tryd.prog w = .ok (.tuple #[.agg (cc v), x, y]) w := by
  have d0 := cell_node hg
  have d1 := cell_seq hg
  have d2 := cell_gen hg
  have d3 := cell_ps hg
  have d4 := cell_kind hg
  have d5 := cell_key hg
  have d6 := cell_elem hg
  have d7 := cell_n hg
  have hp' : tmps[p]?.getD undef = .pointer (some ⟨g, 0, none⟩) := by simpa using hp
  have hq' : tmps[q]?.getD undef = x := by simpa using hq
  have hr' : tmps[r]?.getD undef = y := by simpa using hr
  simp [results, h, hp', hq', hr', asAddr, go_sem, d0, d1, d2, d3, d4, d5, d6, d7]
  rfl
end Go.Proofs.YteojkfbnenfmkaaDoor.WtL
