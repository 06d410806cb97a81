/- What the project's order of package dag, and the function that it sorts by, return: contracts. | A contract of the library's, laid at this program: slices.SortFunc at numbers. -/
import Derived.Test.YtechkdhehipliaaGreatDoorIdKJ3
import Derived.Test.YtechkdhehipliaaGreatDoorCmAJ3
import Derived.Test.YtechkdhehipliaaGreatDoorEvRJ4
import Derived.Shelf.SlLaysF
import Derived.Test.YtechkdhehipliaaGreatDoorProg
namespace Go.Proofs.YtechkdhehipliaaGreatDoor.DhO
set_option maxRecDepth 100000
open Go Go.Sort Go.RowKit Byt IdM IdW OpsM OpsW CmM StW CmW CmX CmY DgM DgW

/-- The order of places: by rising generations, then by rising ids. -/
def gN (l : List Cv) (i : Nat) : Int := ((l[i]?).map (·.c.gen)).getD 0
def cfN (l : List Cv) (own : List Idn) (i j : Nat) : Int :=
  if gN l i = gN l j then (if less (own.getD i nought) (own.getD j nought) then -1 else if less (own.getD j nought) (own.getD i nought) then 1 else 0) else if gN l i < gN l j then -1 else 1
theorem compare_ret (x y : Int) (w : World) : Calls Tryz.prog 88 #[.int .i64 x, .int .i64 y] w fun e w' => e = .returned (.int .i64 (if x < y then -1 else if y < x then 1 else 0)) ∧ w' = w := by
  rcases (by omega : x < y ∨ (¬ x < y ∧ y < x) ∨ (¬ x < y ∧ ¬ y < x)) with p | ⟨p, q⟩ | ⟨p, q⟩
  · rw [if_pos p]
    go_enter Tryz.func88, Tryz.ntmps88
    go_wp2
    go_ret
    exact ⟨rfl, rfl⟩
  · rw [if_neg p, if_pos q]
    go_enter Tryz.func88, Tryz.ntmps88
    go_wp2
    go_ret
    exact ⟨rfl, rfl⟩
  · rw [if_neg p, if_neg q]
    go_enter Tryz.func88, Tryz.ntmps88
    go_wp2
    go_ret
    exact ⟨rfl, rfl⟩
/-- What the function that is sorted by has at hand. -/
structure Env (w : World) (g0 g1 : Nat) (A A' : Option Addr) (cap cap' : Nat) (l : List Cv) (own : List Idn) : Prop where
  c0 : ∃ t, w.heap[g0]? = some (.cells #[.slice A l.length cap] t (0, 0))
  c1 : ∃ t, w.heap[g1]? = some (.cells #[.slice A' own.length cap'] t (0, 0))
  row : SlK w A cap l
  ids : SlI w A' cap' own
theorem Env.below {w w' : World} {g0 g1 : Nat} {A A' : Option Addr} {cap cap' : Nat} {l : List Cv} {own : List Idn} (h : Env w g0 g1 A A' cap cap' l own) (hb : Below w.heap.size w w') : Env w' g0 g1 A A' cap cap' l own := by
  obtain ⟨t0, h0⟩ := h.c0
  obtain ⟨t1, h1⟩ := h.c1
  exact ⟨⟨t0, by rw [hb.block g0 (Array.getElem?_eq_some_iff.1 h0).1, h0]⟩, ⟨t1, by rw [hb.block g1 (Array.getElem?_eq_some_iff.1 h1).1, h1]⟩, h.row.below hb, h.ids.below hb⟩
theorem cell_row {w : World} {g : Nat} {v : Value} (h : ∃ t, w.heap[g]? = some (.cells #[v] t (0, 0))) : w.cell? ⟨g, 0, none⟩ = some v := by
  obtain ⟨t, h⟩ := h
  rw [cell_of_row w g 0 _ t (0, 0) h]
  rfl
theorem Env.l0 {w : World} {g0 g1 : Nat} {A A' : Option Addr} {cap cap' : Nat} {l : List Cv} {own : List Idn} (h : Env w g0 g1 A A' cap cap' l own) : w.cell? ⟨g0, 0, none⟩ = some (.slice A l.length cap) := cell_row h.c0
theorem Env.l1 {w : World} {g0 g1 : Nat} {A A' : Option Addr} {cap cap' : Nat} {l : List Cv} {own : List Idn} (h : Env w g0 g1 A A' cap cap' l own) : w.cell? ⟨g1, 0, none⟩ = some (.slice A' own.length cap') := cell_row h.c1
theorem gen_cell {w : World} {b off i : Nat} {x : Cv} (h : w.rangeAt b (off + i * 8) (cc x).toList) : w.cell? ⟨b, off + i * 8 + 2, none⟩ = some (.int .i64 x.c.gen) := h 2 _ rfl
set_option maxRecDepth 100000 in
set_option maxHeartbeats 16000000 in
theorem cmp_ret (g0 g1 : Nat) (A A' : Option Addr) (cap cap' : Nat) (l : List Cv) (own : List Idn) (i j : Nat) (hi : i < l.length) (hj : j < l.length) (ho : own.length = l.length) (w : World) (E : Env w g0 g1 A A' cap cap' l own) :
    Calls Tryz.prog 87 #[.int .i64 i, .int .i64 j, .pointer (some ⟨g0, 0, none⟩), .pointer (some ⟨g1, 0, none⟩)] w fun e w' => e = .returned (.int .i64 (cfN l own i j)) ∧ Grew w w' := by
  have hmax := E.row.len
  obtain ⟨b, off, rfl, hbw, hr⟩ := E.row.plain (by omega)
  obtain ⟨b', off', rfl, hbw', hr'⟩ := SlI.plain E.ids (by omega)
  obtain ⟨x, hx⟩ : ∃ x, l[i]? = some x := ⟨_, List.getElem?_eq_getElem hi⟩
  obtain ⟨y, hy⟩ : ∃ y, l[j]? = some y := ⟨_, List.getElem?_eq_getElem hj⟩
  have rx := hr i x hx
  have ry := hr j y hy
  have sx := hr' i (by omega)
  have sy := hr' j (by omega)
  obtain ⟨ix, hix⟩ : ∃ ix, own.getD i nought = ix := ⟨_, rfl⟩
  obtain ⟨iy, hiy⟩ : ∃ iy, own.getD j nought = iy := ⟨_, rfl⟩
  obtain ⟨m, hm⟩ : ∃ m, x.c.gen = m := ⟨_, rfl⟩
  obtain ⟨n, hn⟩ : ∃ n, y.c.gen = n := ⟨_, rfl⟩
  have HR : Hid (cfN l own i j = if m = n then (if less ix iy then -1 else if less iy ix then 1 else 0) else if m < n then -1 else 1) := aside (by
    unfold cfN gN
    rw [hx, hy, hix, hiy, ← hm, ← hn]
    rfl)
  have c0 := E.l0
  have HX : Hid (∀ W, Below w.heap.size w W → W.cell? ⟨b, off + i * 8 + 2, none⟩ = some (.int .i64 m)) := aside (fun W hb => by rw [← hm]; exact gen_cell (range_on rx hb))
  have HY : Hid (∀ W, Below w.heap.size w W → W.cell? ⟨b, off + j * 8 + 2, none⟩ = some (.int .i64 n)) := aside (fun W hb => by rw [← hn]; exact gen_cell (range_on ry hb))
  have cx := gen_cell rx
  have cy := gen_cell ry
  rw [hm] at cx
  rw [hn] at cy
  rw [hix] at sx
  rw [hiy] at sy
  have p0 : (i : Int) < l.length := by omega
  have p1 : (j : Int) < l.length := by omega
  have q0 : (i : Int) < own.length := by omega
  have q1 : (j : Int) < own.length := by omega
  have m0 : ((i : Int)).toNat = i := by omega
  have m1 : ((j : Int)).toNat = j := by omega
  obtain ⟨r, hr0⟩ : ∃ r, cfN l own i j = r := ⟨_, rfl⟩
  rw [hr0] at HR ⊢
  clear hr hr' hx hy hix hiy hm hn rx ry hr0
  by_cases hmn : m = n
  · have t0 : (m != n) = false := by simpa using hmn
    cases h1 : less ix iy with
    | true =>
      have HV : Hid (r = -1) := aside (by rw [HR.out, if_pos hmn, h1]; rfl)
      clear hmn HR
      go_enter Tryz.func87, Tryz.ntmps87
      go_wp2_with (first | go_skip)
      go_quiet (fail)
      go_wp2_with (first | go_skip)
      have G1 : Grew w (w.drewN nq) := (Grew.refl w).drewN nq
      generalize w.drewN nq = W1 at G1 ⊢
      clear c0 cx cy
      refine Grow.region [(0, true), (1, true), (2, true), (3, true), (4, true), (5, true), (6, true), (7, true), (8, false), (9, true)] (by kernel_rfl) (by kernel_rfl) rfl (by kernel_rfl) (by intro c a d v w h; cases d <;> exact h) ?_
      have G2 : Grew w W1.drew := G1.drew
      generalize W1.drew = wz at G2 ⊢
      clear G1
      have E2 := E.below G2.below
      have d1 := Grow.grown (w := wz) (fun u hu => (E2.below hu).l1)
      have zx := IdW.range_below sx G2.below
      have zy := IdW.range_below sy G2.below
      repeat (first | (refine Grow.reads rfl rfl ?_; go_big_quiet_want; refine CmA.quiet_id _ rfl _ _ rfl ix zx ?_; go_big_quiet_on; refine wpQuiet_nil ?_; (try simp only [Act.put, List.setIfInBounds_toArray, List.set_cons_succ, List.set_cons_zero])) | (refine Grow.reads rfl rfl ?_; go_big_quiet_want; refine CmA.quiet_id _ rfl _ _ rfl iy zy ?_; go_big_quiet_on; refine wpQuiet_nil ?_; (try simp only [Act.put, List.setIfInBounds_toArray, List.set_cons_succ, List.set_cons_zero])) | (refine Grow.reads rfl rfl ?_; go_big_quiet_step (fail); refine wpQuiet_nil ?_))
      refine Grow.acts rfl ?_
      go_wp2_with (first | go_skip)
      have qs := IdC.less_ret ix iy wz
      rw [h1] at qs
      refine qs.mono ?_
      clear qs
      rintro e w3 ⟨rfl, g3⟩
      go_wp2_with (first | go_skip)
      refine ⟨g3.below, ?_⟩
      have G1 := G2.trans g3
      clear G2 g3 E2 d1 zx zy
      (try simp only [Act.put, List.setIfInBounds_toArray, List.set_cons_succ, List.set_cons_zero])
      repeat (refine Grow.reads rfl rfl ?_; go_big_quiet_step (fail); refine wpQuiet_nil ?_)
      refine Grow.ends ?_
      go_wp2_with (first | go_skip)
      go_ret
      exact ⟨by rw [HV.out]; rfl, G1⟩
    | false =>
      cases h2 : less iy ix with
      | true =>
        have HV : Hid (r = 1) := aside (by rw [HR.out, if_pos hmn, h1, h2]; rfl)
        clear hmn HR
        go_enter Tryz.func87, Tryz.ntmps87
        go_wp2_with (first | go_skip)
        go_quiet (fail)
        go_wp2_with (first | go_skip)
        have G1 : Grew w (w.drewN nq) := (Grew.refl w).drewN nq
        generalize w.drewN nq = W1 at G1 ⊢
        clear c0 cx cy
        refine Grow.region [(0, true), (1, true), (2, true), (3, true), (4, true), (5, true), (6, true), (7, true), (8, false), (9, true)] (by kernel_rfl) (by kernel_rfl) rfl (by kernel_rfl) (by intro c a d v w h; cases d <;> exact h) ?_
        have G2 : Grew w W1.drew := G1.drew
        generalize W1.drew = wz at G2 ⊢
        clear G1
        have E2 := E.below G2.below
        have d1 := Grow.grown (w := wz) (fun u hu => (E2.below hu).l1)
        have zx := IdW.range_below sx G2.below
        have zy := IdW.range_below sy G2.below
        repeat (first | (refine Grow.reads rfl rfl ?_; go_big_quiet_want; refine CmA.quiet_id _ rfl _ _ rfl ix zx ?_; go_big_quiet_on; refine wpQuiet_nil ?_; (try simp only [Act.put, List.setIfInBounds_toArray, List.set_cons_succ, List.set_cons_zero])) | (refine Grow.reads rfl rfl ?_; go_big_quiet_want; refine CmA.quiet_id _ rfl _ _ rfl iy zy ?_; go_big_quiet_on; refine wpQuiet_nil ?_; (try simp only [Act.put, List.setIfInBounds_toArray, List.set_cons_succ, List.set_cons_zero])) | (refine Grow.reads rfl rfl ?_; go_big_quiet_step (fail); refine wpQuiet_nil ?_))
        refine Grow.acts rfl ?_
        go_wp2_with (first | go_skip)
        have qs := IdC.less_ret ix iy wz
        rw [h1] at qs
        refine qs.mono ?_
        clear qs
        rintro e w3 ⟨rfl, g3⟩
        go_wp2_with (first | go_skip)
        refine ⟨g3.below, ?_⟩
        have G1 := G2.trans g3
        clear G2 g3 E2 d1 zx zy
        (try simp only [Act.put, List.setIfInBounds_toArray, List.set_cons_succ, List.set_cons_zero])
        repeat (refine Grow.reads rfl rfl ?_; go_big_quiet_step (fail); refine wpQuiet_nil ?_)
        refine Grow.ends ?_
        go_wp2_with (first | go_skip)
        refine Grow.region [(0, true), (1, true), (2, true), (3, true), (4, true), (5, true), (6, true), (7, true), (8, false), (9, true)] (by kernel_rfl) (by kernel_rfl) rfl (by kernel_rfl) (by intro c a d v w h; cases d <;> exact h) ?_
        have G2 : Grew w w3.drew := G1.drew
        generalize w3.drew = wz at G2 ⊢
        clear G1
        have E2 := E.below G2.below
        have d1 := Grow.grown (w := wz) (fun u hu => (E2.below hu).l1)
        have zx := IdW.range_below sx G2.below
        have zy := IdW.range_below sy G2.below
        repeat (first | (refine Grow.reads rfl rfl ?_; go_big_quiet_want; refine CmA.quiet_id _ rfl _ _ rfl ix zx ?_; go_big_quiet_on; refine wpQuiet_nil ?_; (try simp only [Act.put, List.setIfInBounds_toArray, List.set_cons_succ, List.set_cons_zero])) | (refine Grow.reads rfl rfl ?_; go_big_quiet_want; refine CmA.quiet_id _ rfl _ _ rfl iy zy ?_; go_big_quiet_on; refine wpQuiet_nil ?_; (try simp only [Act.put, List.setIfInBounds_toArray, List.set_cons_succ, List.set_cons_zero])) | (refine Grow.reads rfl rfl ?_; go_big_quiet_step (fail); refine wpQuiet_nil ?_))
        refine Grow.acts rfl ?_
        go_wp2_with (first | go_skip)
        have qs := IdC.less_ret iy ix wz
        rw [h2] at qs
        refine qs.mono ?_
        clear qs
        rintro e w4 ⟨rfl, g3⟩
        go_wp2_with (first | go_skip)
        refine ⟨g3.below, ?_⟩
        have G1 := G2.trans g3
        clear G2 g3 E2 d1 zx zy
        (try simp only [Act.put, List.setIfInBounds_toArray, List.set_cons_succ, List.set_cons_zero])
        repeat (refine Grow.reads rfl rfl ?_; go_big_quiet_step (fail); refine wpQuiet_nil ?_)
        refine Grow.ends ?_
        go_wp2_with (first | go_skip)
        go_ret
        exact ⟨by rw [HV.out]; rfl, G1⟩
      | false =>
        have HV : Hid (r = 0) := aside (by rw [HR.out, if_pos hmn, h1, h2]; rfl)
        clear hmn HR
        go_enter Tryz.func87, Tryz.ntmps87
        go_wp2_with (first | go_skip)
        go_quiet (fail)
        go_wp2_with (first | go_skip)
        have G1 : Grew w (w.drewN nq) := (Grew.refl w).drewN nq
        generalize w.drewN nq = W1 at G1 ⊢
        clear c0 cx cy
        refine Grow.region [(0, true), (1, true), (2, true), (3, true), (4, true), (5, true), (6, true), (7, true), (8, false), (9, true)] (by kernel_rfl) (by kernel_rfl) rfl (by kernel_rfl) (by intro c a d v w h; cases d <;> exact h) ?_
        have G2 : Grew w W1.drew := G1.drew
        generalize W1.drew = wz at G2 ⊢
        clear G1
        have E2 := E.below G2.below
        have d1 := Grow.grown (w := wz) (fun u hu => (E2.below hu).l1)
        have zx := IdW.range_below sx G2.below
        have zy := IdW.range_below sy G2.below
        repeat (first | (refine Grow.reads rfl rfl ?_; go_big_quiet_want; refine CmA.quiet_id _ rfl _ _ rfl ix zx ?_; go_big_quiet_on; refine wpQuiet_nil ?_; (try simp only [Act.put, List.setIfInBounds_toArray, List.set_cons_succ, List.set_cons_zero])) | (refine Grow.reads rfl rfl ?_; go_big_quiet_want; refine CmA.quiet_id _ rfl _ _ rfl iy zy ?_; go_big_quiet_on; refine wpQuiet_nil ?_; (try simp only [Act.put, List.setIfInBounds_toArray, List.set_cons_succ, List.set_cons_zero])) | (refine Grow.reads rfl rfl ?_; go_big_quiet_step (fail); refine wpQuiet_nil ?_))
        refine Grow.acts rfl ?_
        go_wp2_with (first | go_skip)
        have qs := IdC.less_ret ix iy wz
        rw [h1] at qs
        refine qs.mono ?_
        clear qs
        rintro e w3 ⟨rfl, g3⟩
        go_wp2_with (first | go_skip)
        refine ⟨g3.below, ?_⟩
        have G1 := G2.trans g3
        clear G2 g3 E2 d1 zx zy
        (try simp only [Act.put, List.setIfInBounds_toArray, List.set_cons_succ, List.set_cons_zero])
        repeat (refine Grow.reads rfl rfl ?_; go_big_quiet_step (fail); refine wpQuiet_nil ?_)
        refine Grow.ends ?_
        go_wp2_with (first | go_skip)
        refine Grow.region [(0, true), (1, true), (2, true), (3, true), (4, true), (5, true), (6, true), (7, true), (8, false), (9, true)] (by kernel_rfl) (by kernel_rfl) rfl (by kernel_rfl) (by intro c a d v w h; cases d <;> exact h) ?_
        have G2 : Grew w w3.drew := G1.drew
        generalize w3.drew = wz at G2 ⊢
        clear G1
        have E2 := E.below G2.below
        have d1 := Grow.grown (w := wz) (fun u hu => (E2.below hu).l1)
        have zx := IdW.range_below sx G2.below
        have zy := IdW.range_below sy G2.below
        repeat (first | (refine Grow.reads rfl rfl ?_; go_big_quiet_want; refine CmA.quiet_id _ rfl _ _ rfl ix zx ?_; go_big_quiet_on; refine wpQuiet_nil ?_; (try simp only [Act.put, List.setIfInBounds_toArray, List.set_cons_succ, List.set_cons_zero])) | (refine Grow.reads rfl rfl ?_; go_big_quiet_want; refine CmA.quiet_id _ rfl _ _ rfl iy zy ?_; go_big_quiet_on; refine wpQuiet_nil ?_; (try simp only [Act.put, List.setIfInBounds_toArray, List.set_cons_succ, List.set_cons_zero])) | (refine Grow.reads rfl rfl ?_; go_big_quiet_step (fail); refine wpQuiet_nil ?_))
        refine Grow.acts rfl ?_
        go_wp2_with (first | go_skip)
        have qs := IdC.less_ret iy ix wz
        rw [h2] at qs
        refine qs.mono ?_
        clear qs
        rintro e w4 ⟨rfl, g3⟩
        go_wp2_with (first | go_skip)
        refine ⟨g3.below, ?_⟩
        have G1 := G2.trans g3
        clear G2 g3 E2 d1 zx zy
        (try simp only [Act.put, List.setIfInBounds_toArray, List.set_cons_succ, List.set_cons_zero])
        repeat (refine Grow.reads rfl rfl ?_; go_big_quiet_step (fail); refine wpQuiet_nil ?_)
        refine Grow.ends ?_
        go_wp2_with (first | go_skip)
        go_ret
        exact ⟨by rw [HV.out]; rfl, G1⟩
  · have t0 : (m != n) = true := by simpa using hmn
    have HV : Hid (r = if m < n then -1 else if n < m then 1 else 0) := aside (by
      rw [HR.out, if_neg hmn]
      by_cases h : m < n
      · rw [if_pos h, if_pos h]
      · rw [if_neg h, if_neg h, if_pos (by omega)])
    clear hmn HR
    go_enter Tryz.func87, Tryz.ntmps87
    go_wp2_with (first | go_skip)
    go_quiet (fail)
    go_wp2_with (first | go_skip)
    have G1 : Grew w (w.drewN nq) := (Grew.refl w).drewN nq
    generalize w.drewN nq = W1 at G1 ⊢
    clear c0 cx cy
    refine Grow.region [(0, true), (1, true), (2, true), (3, true), (4, true), (5, true), (6, true), (7, true), (8, true), (9, true), (10, false), (11, true)] (by kernel_rfl) (by kernel_rfl) rfl (by kernel_rfl) (by intro c a d v w h; cases d <;> exact h) ?_
    have G2 : Grew w W1.drew := G1.drew
    generalize W1.drew = wz at G2 ⊢
    clear G1
    have E2 := E.below G2.below
    have d0 := Grow.grown (w := wz) (fun u hu => (E2.below hu).l0)
    have dx := Grow.grown (w := wz) (fun u hu => HX.out u (G2.below.trans (hu.mono G2.below.size)))
    have dy := Grow.grown (w := wz) (fun u hu => HY.out u (G2.below.trans (hu.mono G2.below.size)))
    repeat (refine Grow.reads rfl rfl ?_; go_big_quiet_step (fail); refine wpQuiet_nil ?_)
    refine Grow.acts rfl ?_
    go_wp2_with (first | go_skip)
    have qs := compare_ret m n wz
    rw [← HV.out] at qs
    refine qs.mono ?_
    clear qs
    rintro e w3 ⟨rfl, rfl⟩
    go_wp2_with (first | go_skip)
    refine ⟨Below.refl _ _, ?_⟩
    (try simp only [Act.put, List.setIfInBounds_toArray, List.set_cons_succ, List.set_cons_zero])
    repeat (refine Grow.reads rfl rfl ?_; go_big_quiet_step (fail); refine wpQuiet_nil ?_)
    refine Grow.ends ?_
    go_wp2_with (first | go_skip)
    go_ret
    exact ⟨rfl, G2⟩
end Go.Proofs.YtechkdhehipliaaGreatDoor.DhO
namespace Go.Proofs
set_option maxRecDepth 100000
open Go.Shelf
def Tryz.sortInts_ren : Go.Shelf.Ren := ⟨fun | 6 => 86 | 15 => 113 | 14 => 112 | 28 => 143 | 29 => 144 | 47 => 164 | 48 => 165 | 20 => 135 | 21 => 136 | 22 => 137 | 23 => 138 | 24 => 139 | 25 => 140 | 26 => 141 | 27 => 142 | 46 => 163 | 49 => 166 | 50 => 167 | 57 => 171 | n => n, fun | 22 => 81 | 24 => 3 | 25 => 99 | 3 => 3 | 39 => 108 | 0 => 0 | 53 => 114 | 55 => 90 | 4 => 4 | 46 => 141 | 45 => 140 | 50 => 145 | 5 => 5 | 9 => 9 | 66 => 159 | 70 => 163 | 76 => 167 | 77 => 168 | n => n, fun | n => n⟩
theorem Tryz.sortInts : Go.Proofs.SlLaysF.n6 Tryz.prog Tryz.sortInts_ren := {
  mixed := by kernel_rfl
  f6 := ⟨Tryz.f86.name, by decide, Tryz.func86.trans (congrArg some (by kernel_rfl))⟩
  f14 := ⟨Tryz.f112.name, by decide, Tryz.func112.trans (congrArg some (by kernel_rfl))⟩
  f15 := Tryz.func113.trans (congrArg some (by kernel_rfl))
  f20 := ⟨Tryz.f135.name, by decide, Tryz.func135.trans (congrArg some (by kernel_rfl))⟩
  f21 := ⟨Tryz.f136.name, by decide, Tryz.func136.trans (congrArg some (by kernel_rfl))⟩
  f22 := ⟨Tryz.f137.name, by decide, Tryz.func137.trans (congrArg some (by kernel_rfl))⟩
  f23 := ⟨Tryz.f138.name, by decide, Tryz.func138.trans (congrArg some (by kernel_rfl))⟩
  f24 := ⟨Tryz.f139.name, by decide, Tryz.func139.trans (congrArg some (by kernel_rfl))⟩
  f25 := ⟨Tryz.f140.name, by decide, Tryz.func140.trans (congrArg some (by kernel_rfl))⟩
  f26 := ⟨Tryz.f141.name, by decide, Tryz.func141.trans (congrArg some (by kernel_rfl))⟩
  f27 := ⟨Tryz.f142.name, by decide, Tryz.func142.trans (congrArg some (by kernel_rfl))⟩
  f28 := Tryz.func143.trans (congrArg some (by kernel_rfl))
  f29 := Tryz.func144.trans (congrArg some (by kernel_rfl))
  f46 := ⟨Tryz.f163.name, by decide, Tryz.func163.trans (congrArg some (by kernel_rfl))⟩
  f47 := Tryz.func164.trans (congrArg some (by kernel_rfl))
  f48 := Tryz.func165.trans (congrArg some (by kernel_rfl))
  f49 := ⟨Tryz.f166.name, by decide, Tryz.func166.trans (congrArg some (by kernel_rfl))⟩
  f50 := ⟨Tryz.f167.name, by decide, Tryz.func167.trans (congrArg some (by kernel_rfl))⟩
  f57 := ⟨Tryz.f171.name, by decide, Tryz.func171.trans (congrArg some (by kernel_rfl))⟩
  t0 := Tryz.underlying0
  a0 := Tryz.isAgg0
  z0 := Tryz.sizeOf0
  v0 := Tryz.zeroValue0
  t3 := Tryz.underlying3
  a3 := Tryz.isAgg3
  z3 := Tryz.sizeOf3
  v3 := Tryz.zeroValue3
  t4 := Tryz.underlying4
  a4 := Tryz.isAgg4
  z4 := Tryz.sizeOf4
  v4 := Tryz.zeroValue4
  t5 := Tryz.underlying5
  a5 := Tryz.isAgg5
  z5 := Tryz.sizeOf5
  v5 := Tryz.zeroValue5
  t9 := Tryz.underlying9
  a9 := Tryz.isAgg9
  z9 := Tryz.sizeOf9
  v9 := Tryz.zeroValue9
  t22 := Tryz.underlying81
  a22 := Tryz.isAgg81
  z22 := Tryz.sizeOf81
  v22 := Tryz.zeroValue81
  a24 := Tryz.isAgg3
  z24 := Tryz.sizeOf3
  t25 := Tryz.underlying99
  a25 := Tryz.isAgg99
  z25 := Tryz.sizeOf99
  v25 := Tryz.zeroValue99
  t39 := Tryz.underlying108
  a39 := Tryz.isAgg108
  z39 := Tryz.sizeOf108
  v39 := Tryz.zeroValue108
  t45 := Tryz.underlying140
  a45 := Tryz.isAgg140
  z45 := Tryz.sizeOf140
  v45 := Tryz.zeroValue140
  t46 := Tryz.underlying141
  a46 := Tryz.isAgg141
  z46 := Tryz.sizeOf141
  v46 := Tryz.zeroValue141
  t50 := Tryz.underlying145
  a50 := Tryz.isAgg145
  z50 := Tryz.sizeOf145
  v50 := Tryz.zeroValue145
  t53 := Tryz.underlying114
  a53 := Tryz.isAgg114
  z53 := Tryz.sizeOf114
  v53 := Tryz.zeroValue114
  t55 := Tryz.underlying90
  a55 := Tryz.isAgg90
  z55 := Tryz.sizeOf90
  v55 := Tryz.zeroValue90
  t66 := Tryz.underlying159
  a66 := Tryz.isAgg159
  z66 := Tryz.sizeOf159
  v66 := Tryz.zeroValue159
  t70 := Tryz.underlying163
  a70 := Tryz.isAgg163
  z70 := Tryz.sizeOf163
  v70 := Tryz.zeroValue163
  t76 := Tryz.underlying167
  a76 := Tryz.isAgg167
  z76 := Tryz.sizeOf167
  v76 := Tryz.zeroValue167
  t77 := Tryz.underlying168
  a77 := Tryz.isAgg168
  z77 := Tryz.sizeOf168
  v77 := Tryz.zeroValue168 }
end Go.Proofs
