/- What the project's order of package dag, and the function that it sorts by, return: contracts. | A contract of the library's, laid at this program: slices.SortFunc at numbers. -/
import Derived.Test.YtechkdhehipliaaDoorMapVJ2
import Derived.Test.YtechkdhehipliaaDoorCmAJ2
import Derived.Test.YtechkdhehipliaaDoorIdOJ6
import Derived.Shelf.SlLaysF
import Derived.Test.YtechkdhehipliaaDoorProg
namespace Go.Proofs.YtechkdhehipliaaDoor.DhO
set_option maxRecDepth 100000
open Go Go.Sort Go.RowKit Byt IdM IdW OpsM OpsW CmM StW CmW CmX CmY DgM DgW

/-- The order of places: by rising generations, then by rising ids. -/
def gN (l : List Cv) (i : Nat) : Int := ((l[i]?).map (·.c.gen)).getD 0
def cfN (l : List Cv) (own : List Idn) (i j : Nat) : Int :=
  if gN l i = gN l j then (if less (own.getD i nought) (own.getD j nought) then -1 else if less (own.getD j nought) (own.getD i nought) then 1 else 0) else if gN l i < gN l j then -1 else 1
theorem compare_ret (x y : Int) (w : World) : Calls Tryd.prog 37 #[.int .i64 x, .int .i64 y] w fun e w' => e = .returned (.int .i64 (if x < y then -1 else if y < x then 1 else 0)) ∧ w' = w := by
  rcases (by omega : x < y ∨ (¬ x < y ∧ y < x) ∨ (¬ x < y ∧ ¬ y < x)) with p | ⟨p, q⟩ | ⟨p, q⟩
  · rw [if_pos p]
    go_enter Tryd.func37, Tryd.ntmps37
    go_wp2
    go_ret
    exact ⟨rfl, rfl⟩
  · rw [if_neg p, if_pos q]
    go_enter Tryd.func37, Tryd.ntmps37
    go_wp2
    go_ret
    exact ⟨rfl, rfl⟩
  · rw [if_neg p, if_neg q]
    go_enter Tryd.func37, Tryd.ntmps37
    go_wp2
    go_ret
    exact ⟨rfl, rfl⟩
/-- What the function that is sorted by has at hand. -/
structure Env (w : World) (g0 g1 : Nat) (A A' : Option Addr) (cap cap' : Nat) (l : List Cv) (own : List Idn) : Prop where
  c0 : ∃ t, w.heap[g0]? = some (.cells #[.slice A l.length cap] t (0, 0))
  c1 : ∃ t, w.heap[g1]? = some (.cells #[.slice A' own.length cap'] t (0, 0))
  row : SlK w A cap l
  ids : SlI w A' cap' own
theorem Env.below {w w' : World} {g0 g1 : Nat} {A A' : Option Addr} {cap cap' : Nat} {l : List Cv} {own : List Idn} (h : Env w g0 g1 A A' cap cap' l own) (hb : Below w.heap.size w w') : Env w' g0 g1 A A' cap cap' l own := by
  obtain ⟨t0, h0⟩ := h.c0
  obtain ⟨t1, h1⟩ := h.c1
  exact ⟨⟨t0, by rw [hb.block g0 (Array.getElem?_eq_some_iff.1 h0).1, h0]⟩, ⟨t1, by rw [hb.block g1 (Array.getElem?_eq_some_iff.1 h1).1, h1]⟩, h.row.below hb, h.ids.below hb⟩
theorem cell_row {w : World} {g : Nat} {v : Value} (h : ∃ t, w.heap[g]? = some (.cells #[v] t (0, 0))) : w.cell? ⟨g, 0, none⟩ = some v := by
  obtain ⟨t, h⟩ := h
  rw [cell_of_row w g 0 _ t (0, 0) h]
  rfl
theorem Env.l0 {w : World} {g0 g1 : Nat} {A A' : Option Addr} {cap cap' : Nat} {l : List Cv} {own : List Idn} (h : Env w g0 g1 A A' cap cap' l own) : w.cell? ⟨g0, 0, none⟩ = some (.slice A l.length cap) := cell_row h.c0
theorem Env.l1 {w : World} {g0 g1 : Nat} {A A' : Option Addr} {cap cap' : Nat} {l : List Cv} {own : List Idn} (h : Env w g0 g1 A A' cap cap' l own) : w.cell? ⟨g1, 0, none⟩ = some (.slice A' own.length cap') := cell_row h.c1
theorem gen_cell {w : World} {b off i : Nat} {x : Cv} (h : w.rangeAt b (off + i * 8) (cc x).toList) : w.cell? ⟨b, off + i * 8 + 2, none⟩ = some (.int .i64 x.c.gen) := h 2 _ rfl
set_option maxRecDepth 100000 in
set_option maxHeartbeats 16000000 in
theorem cmp_ret (g0 g1 : Nat) (A A' : Option Addr) (cap cap' : Nat) (l : List Cv) (own : List Idn) (i j : Nat) (hi : i < l.length) (hj : j < l.length) (ho : own.length = l.length) (w : World) (E : Env w g0 g1 A A' cap cap' l own) :
    Calls Tryd.prog 36 #[.int .i64 i, .int .i64 j, .pointer (some ⟨g0, 0, none⟩), .pointer (some ⟨g1, 0, none⟩)] w fun e w' => e = .returned (.int .i64 (cfN l own i j)) ∧ Grew w w' := by
  have hmax := E.row.len
  obtain ⟨b, off, rfl, hbw, hr⟩ := E.row.plain (by omega)
  obtain ⟨b', off', rfl, hbw', hr'⟩ := SlI.plain E.ids (by omega)
  obtain ⟨x, hx⟩ : ∃ x, l[i]? = some x := ⟨_, List.getElem?_eq_getElem hi⟩
  obtain ⟨y, hy⟩ : ∃ y, l[j]? = some y := ⟨_, List.getElem?_eq_getElem hj⟩
  have rx := hr i x hx
  have ry := hr j y hy
  have sx := hr' i (by omega)
  have sy := hr' j (by omega)
  obtain ⟨ix, hix⟩ : ∃ ix, own.getD i nought = ix := ⟨_, rfl⟩
  obtain ⟨iy, hiy⟩ : ∃ iy, own.getD j nought = iy := ⟨_, rfl⟩
  obtain ⟨m, hm⟩ : ∃ m, x.c.gen = m := ⟨_, rfl⟩
  obtain ⟨n, hn⟩ : ∃ n, y.c.gen = n := ⟨_, rfl⟩
  have HR : Hid (cfN l own i j = if m = n then (if less ix iy then -1 else if less iy ix then 1 else 0) else if m < n then -1 else 1) := aside (by
    unfold cfN gN
    rw [hx, hy, hix, hiy, ← hm, ← hn]
    rfl)
  have c0 := E.l0
  have HX : Hid (∀ W, Below w.heap.size w W → W.cell? ⟨b, off + i * 8 + 2, none⟩ = some (.int .i64 m)) := aside (fun W hb => by rw [← hm]; exact gen_cell (range_on rx hb))
  have HY : Hid (∀ W, Below w.heap.size w W → W.cell? ⟨b, off + j * 8 + 2, none⟩ = some (.int .i64 n)) := aside (fun W hb => by rw [← hn]; exact gen_cell (range_on ry hb))
  have cx := gen_cell rx
  have cy := gen_cell ry
  rw [hm] at cx
  rw [hn] at cy
  rw [hix] at sx
  rw [hiy] at sy
  have p0 : (i : Int) < l.length := by omega
  have p1 : (j : Int) < l.length := by omega
  have q0 : (i : Int) < own.length := by omega
  have q1 : (j : Int) < own.length := by omega
  have m0 : ((i : Int)).toNat = i := by omega
  have m1 : ((j : Int)).toNat = j := by omega
  obtain ⟨r, hr0⟩ : ∃ r, cfN l own i j = r := ⟨_, rfl⟩
  rw [hr0] at HR ⊢
  clear hr hr' hx hy hix hiy hm hn rx ry hr0
  by_cases hmn : m = n
  · have t0 : (m != n) = false := by simpa using hmn
    cases h1 : less ix iy with
    | true =>
      have HV : Hid (r = -1) := aside (by rw [HR.out, if_pos hmn, h1]; rfl)
      clear hmn HR
      go_enter Tryd.func36, Tryd.ntmps36
      go_wp2_with (first | go_skip)
      go_quiet (fail)
      go_wp2_with (first | go_skip)
      have G1 : Grew w (w.drewN nq) := (Grew.refl w).drewN nq
      generalize w.drewN nq = W1 at G1 ⊢
      clear c0 cx cy
      refine Grow.region [(0, true), (1, true), (2, true), (3, true), (4, true), (5, true), (6, true), (7, true), (8, false), (9, true)] (by kernel_rfl) (by kernel_rfl) rfl (by kernel_rfl) (by intro c a d v w h; cases d <;> exact h) ?_
      have G2 : Grew w W1.drew := G1.drew
      generalize W1.drew = wz at G2 ⊢
      clear G1
      have E2 := E.below G2.below
      have d1 := Grow.grown (w := wz) (fun u hu => (E2.below hu).l1)
      have zx := IdW.range_below sx G2.below
      have zy := IdW.range_below sy G2.below
      repeat (first | (refine Grow.reads rfl rfl ?_; go_big_quiet_want; refine CmA.quiet_id _ rfl _ _ rfl ix zx ?_; go_big_quiet_on; refine wpQuiet_nil ?_; (try simp only [Act.put, List.setIfInBounds_toArray, List.set_cons_succ, List.set_cons_zero])) | (refine Grow.reads rfl rfl ?_; go_big_quiet_want; refine CmA.quiet_id _ rfl _ _ rfl iy zy ?_; go_big_quiet_on; refine wpQuiet_nil ?_; (try simp only [Act.put, List.setIfInBounds_toArray, List.set_cons_succ, List.set_cons_zero])) | (refine Grow.reads rfl rfl ?_; go_big_quiet_step (fail); refine wpQuiet_nil ?_))
      refine Grow.acts rfl ?_
      go_wp2_with (first | go_skip)
      have qs := IdC.less_ret ix iy wz
      rw [h1] at qs
      refine qs.mono ?_
      clear qs
      rintro e w3 ⟨rfl, g3⟩
      go_wp2_with (first | go_skip)
      refine ⟨g3.below, ?_⟩
      have G1 := G2.trans g3
      clear G2 g3 E2 d1 zx zy
      (try simp only [Act.put, List.setIfInBounds_toArray, List.set_cons_succ, List.set_cons_zero])
      repeat (refine Grow.reads rfl rfl ?_; go_big_quiet_step (fail); refine wpQuiet_nil ?_)
      refine Grow.ends ?_
      go_wp2_with (first | go_skip)
      go_ret
      exact ⟨by rw [HV.out]; rfl, G1⟩
    | false =>
      cases h2 : less iy ix with
      | true =>
        have HV : Hid (r = 1) := aside (by rw [HR.out, if_pos hmn, h1, h2]; rfl)
        clear hmn HR
        go_enter Tryd.func36, Tryd.ntmps36
        go_wp2_with (first | go_skip)
        go_quiet (fail)
        go_wp2_with (first | go_skip)
        have G1 : Grew w (w.drewN nq) := (Grew.refl w).drewN nq
        generalize w.drewN nq = W1 at G1 ⊢
        clear c0 cx cy
        refine Grow.region [(0, true), (1, true), (2, true), (3, true), (4, true), (5, true), (6, true), (7, true), (8, false), (9, true)] (by kernel_rfl) (by kernel_rfl) rfl (by kernel_rfl) (by intro c a d v w h; cases d <;> exact h) ?_
        have G2 : Grew w W1.drew := G1.drew
        generalize W1.drew = wz at G2 ⊢
        clear G1
        have E2 := E.below G2.below
        have d1 := Grow.grown (w := wz) (fun u hu => (E2.below hu).l1)
        have zx := IdW.range_below sx G2.below
        have zy := IdW.range_below sy G2.below
        repeat (first | (refine Grow.reads rfl rfl ?_; go_big_quiet_want; refine CmA.quiet_id _ rfl _ _ rfl ix zx ?_; go_big_quiet_on; refine wpQuiet_nil ?_; (try simp only [Act.put, List.setIfInBounds_toArray, List.set_cons_succ, List.set_cons_zero])) | (refine Grow.reads rfl rfl ?_; go_big_quiet_want; refine CmA.quiet_id _ rfl _ _ rfl iy zy ?_; go_big_quiet_on; refine wpQuiet_nil ?_; (try simp only [Act.put, List.setIfInBounds_toArray, List.set_cons_succ, List.set_cons_zero])) | (refine Grow.reads rfl rfl ?_; go_big_quiet_step (fail); refine wpQuiet_nil ?_))
        refine Grow.acts rfl ?_
        go_wp2_with (first | go_skip)
        have qs := IdC.less_ret ix iy wz
        rw [h1] at qs
        refine qs.mono ?_
        clear qs
        rintro e w3 ⟨rfl, g3⟩
        go_wp2_with (first | go_skip)
        refine ⟨g3.below, ?_⟩
        have G1 := G2.trans g3
        clear G2 g3 E2 d1 zx zy
        (try simp only [Act.put, List.setIfInBounds_toArray, List.set_cons_succ, List.set_cons_zero])
        repeat (refine Grow.reads rfl rfl ?_; go_big_quiet_step (fail); refine wpQuiet_nil ?_)
        refine Grow.ends ?_
        go_wp2_with (first | go_skip)
        refine Grow.region [(0, true), (1, true), (2, true), (3, true), (4, true), (5, true), (6, true), (7, true), (8, false), (9, true)] (by kernel_rfl) (by kernel_rfl) rfl (by kernel_rfl) (by intro c a d v w h; cases d <;> exact h) ?_
        have G2 : Grew w w3.drew := G1.drew
        generalize w3.drew = wz at G2 ⊢
        clear G1
        have E2 := E.below G2.below
        have d1 := Grow.grown (w := wz) (fun u hu => (E2.below hu).l1)
        have zx := IdW.range_below sx G2.below
        have zy := IdW.range_below sy G2.below
        repeat (first | (refine Grow.reads rfl rfl ?_; go_big_quiet_want; refine CmA.quiet_id _ rfl _ _ rfl ix zx ?_; go_big_quiet_on; refine wpQuiet_nil ?_; (try simp only [Act.put, List.setIfInBounds_toArray, List.set_cons_succ, List.set_cons_zero])) | (refine Grow.reads rfl rfl ?_; go_big_quiet_want; refine CmA.quiet_id _ rfl _ _ rfl iy zy ?_; go_big_quiet_on; refine wpQuiet_nil ?_; (try simp only [Act.put, List.setIfInBounds_toArray, List.set_cons_succ, List.set_cons_zero])) | (refine Grow.reads rfl rfl ?_; go_big_quiet_step (fail); refine wpQuiet_nil ?_))
        refine Grow.acts rfl ?_
        go_wp2_with (first | go_skip)
        have qs := IdC.less_ret iy ix wz
        rw [h2] at qs
        refine qs.mono ?_
        clear qs
        rintro e w4 ⟨rfl, g3⟩
        go_wp2_with (first | go_skip)
        refine ⟨g3.below, ?_⟩
        have G1 := G2.trans g3
        clear G2 g3 E2 d1 zx zy
        (try simp only [Act.put, List.setIfInBounds_toArray, List.set_cons_succ, List.set_cons_zero])
        repeat (refine Grow.reads rfl rfl ?_; go_big_quiet_step (fail); refine wpQuiet_nil ?_)
        refine Grow.ends ?_
        go_wp2_with (first | go_skip)
        go_ret
        exact ⟨by rw [HV.out]; rfl, G1⟩
      | false =>
        have HV : Hid (r = 0) := aside (by rw [HR.out, if_pos hmn, h1, h2]; rfl)
        clear hmn HR
        go_enter Tryd.func36, Tryd.ntmps36
        go_wp2_with (first | go_skip)
        go_quiet (fail)
        go_wp2_with (first | go_skip)
        have G1 : Grew w (w.drewN nq) := (Grew.refl w).drewN nq
        generalize w.drewN nq = W1 at G1 ⊢
        clear c0 cx cy
        refine Grow.region [(0, true), (1, true), (2, true), (3, true), (4, true), (5, true), (6, true), (7, true), (8, false), (9, true)] (by kernel_rfl) (by kernel_rfl) rfl (by kernel_rfl) (by intro c a d v w h; cases d <;> exact h) ?_
        have G2 : Grew w W1.drew := G1.drew
        generalize W1.drew = wz at G2 ⊢
        clear G1
        have E2 := E.below G2.below
        have d1 := Grow.grown (w := wz) (fun u hu => (E2.below hu).l1)
        have zx := IdW.range_below sx G2.below
        have zy := IdW.range_below sy G2.below
        repeat (first | (refine Grow.reads rfl rfl ?_; go_big_quiet_want; refine CmA.quiet_id _ rfl _ _ rfl ix zx ?_; go_big_quiet_on; refine wpQuiet_nil ?_; (try simp only [Act.put, List.setIfInBounds_toArray, List.set_cons_succ, List.set_cons_zero])) | (refine Grow.reads rfl rfl ?_; go_big_quiet_want; refine CmA.quiet_id _ rfl _ _ rfl iy zy ?_; go_big_quiet_on; refine wpQuiet_nil ?_; (try simp only [Act.put, List.setIfInBounds_toArray, List.set_cons_succ, List.set_cons_zero])) | (refine Grow.reads rfl rfl ?_; go_big_quiet_step (fail); refine wpQuiet_nil ?_))
        refine Grow.acts rfl ?_
        go_wp2_with (first | go_skip)
        have qs := IdC.less_ret ix iy wz
        rw [h1] at qs
        refine qs.mono ?_
        clear qs
        rintro e w3 ⟨rfl, g3⟩
        go_wp2_with (first | go_skip)
        refine ⟨g3.below, ?_⟩
        have G1 := G2.trans g3
        clear G2 g3 E2 d1 zx zy
        (try simp only [Act.put, List.setIfInBounds_toArray, List.set_cons_succ, List.set_cons_zero])
        repeat (refine Grow.reads rfl rfl ?_; go_big_quiet_step (fail); refine wpQuiet_nil ?_)
        refine Grow.ends ?_
        go_wp2_with (first | go_skip)
        refine Grow.region [(0, true), (1, true), (2, true), (3, true), (4, true), (5, true), (6, true), (7, true), (8, false), (9, true)] (by kernel_rfl) (by kernel_rfl) rfl (by kernel_rfl) (by intro c a d v w h; cases d <;> exact h) ?_
        have G2 : Grew w w3.drew := G1.drew
        generalize w3.drew = wz at G2 ⊢
        clear G1
        have E2 := E.below G2.below
        have d1 := Grow.grown (w := wz) (fun u hu => (E2.below hu).l1)
        have zx := IdW.range_below sx G2.below
        have zy := IdW.range_below sy G2.below
        repeat (first | (refine Grow.reads rfl rfl ?_; go_big_quiet_want; refine CmA.quiet_id _ rfl _ _ rfl ix zx ?_; go_big_quiet_on; refine wpQuiet_nil ?_; (try simp only [Act.put, List.setIfInBounds_toArray, List.set_cons_succ, List.set_cons_zero])) | (refine Grow.reads rfl rfl ?_; go_big_quiet_want; refine CmA.quiet_id _ rfl _ _ rfl iy zy ?_; go_big_quiet_on; refine wpQuiet_nil ?_; (try simp only [Act.put, List.setIfInBounds_toArray, List.set_cons_succ, List.set_cons_zero])) | (refine Grow.reads rfl rfl ?_; go_big_quiet_step (fail); refine wpQuiet_nil ?_))
        refine Grow.acts rfl ?_
        go_wp2_with (first | go_skip)
        have qs := IdC.less_ret iy ix wz
        rw [h2] at qs
        refine qs.mono ?_
        clear qs
        rintro e w4 ⟨rfl, g3⟩
        go_wp2_with (first | go_skip)
        refine ⟨g3.below, ?_⟩
        have G1 := G2.trans g3
        clear G2 g3 E2 d1 zx zy
        (try simp only [Act.put, List.setIfInBounds_toArray, List.set_cons_succ, List.set_cons_zero])
        repeat (refine Grow.reads rfl rfl ?_; go_big_quiet_step (fail); refine wpQuiet_nil ?_)
        refine Grow.ends ?_
        go_wp2_with (first | go_skip)
        go_ret
        exact ⟨by rw [HV.out]; rfl, G1⟩
  · have t0 : (m != n) = true := by simpa using hmn
    have HV : Hid (r = if m < n then -1 else if n < m then 1 else 0) := aside (by
      rw [HR.out, if_neg hmn]
      by_cases h : m < n
      · rw [if_pos h, if_pos h]
      · rw [if_neg h, if_neg h, if_pos (by omega)])
    clear hmn HR
    go_enter Tryd.func36, Tryd.ntmps36
    go_wp2_with (first | go_skip)
    go_quiet (fail)
    go_wp2_with (first | go_skip)
    have G1 : Grew w (w.drewN nq) := (Grew.refl w).drewN nq
    generalize w.drewN nq = W1 at G1 ⊢
    clear c0 cx cy
    refine Grow.region [(0, true), (1, true), (2, true), (3, true), (4, true), (5, true), (6, true), (7, true), (8, true), (9, true), (10, false), (11, true)] (by kernel_rfl) (by kernel_rfl) rfl (by kernel_rfl) (by intro c a d v w h; cases d <;> exact h) ?_
    have G2 : Grew w W1.drew := G1.drew
    generalize W1.drew = wz at G2 ⊢
    clear G1
    have E2 := E.below G2.below
    have d0 := Grow.grown (w := wz) (fun u hu => (E2.below hu).l0)
    have dx := Grow.grown (w := wz) (fun u hu => HX.out u (G2.below.trans (hu.mono G2.below.size)))
    have dy := Grow.grown (w := wz) (fun u hu => HY.out u (G2.below.trans (hu.mono G2.below.size)))
    repeat (refine Grow.reads rfl rfl ?_; go_big_quiet_step (fail); refine wpQuiet_nil ?_)
    refine Grow.acts rfl ?_
    go_wp2_with (first | go_skip)
    have qs := compare_ret m n wz
    rw [← HV.out] at qs
    refine qs.mono ?_
    clear qs
    rintro e w3 ⟨rfl, rfl⟩
    go_wp2_with (first | go_skip)
    refine ⟨Below.refl _ _, ?_⟩
    (try simp only [Act.put, List.setIfInBounds_toArray, List.set_cons_succ, List.set_cons_zero])
    repeat (refine Grow.reads rfl rfl ?_; go_big_quiet_step (fail); refine wpQuiet_nil ?_)
    refine Grow.ends ?_
    go_wp2_with (first | go_skip)
    go_ret
    exact ⟨rfl, G2⟩
end Go.Proofs.YtechkdhehipliaaDoor.DhO
namespace Go.Proofs
set_option maxRecDepth 100000
open Go.Shelf
def Tryd.sortInts_ren : Go.Shelf.Ren := ⟨fun | 6 => 35 | 15 => 47 | 14 => 46 | 28 => 67 | 29 => 68 | 47 => 86 | 48 => 87 | 20 => 59 | 21 => 60 | 22 => 61 | 23 => 62 | 24 => 63 | 25 => 64 | 26 => 65 | 27 => 66 | 46 => 85 | 49 => 88 | 50 => 89 | 57 => 102 | n => n, fun | 22 => 52 | 24 => 3 | 25 => 72 | 3 => 3 | 39 => 82 | 0 => 0 | 53 => 90 | 55 => 86 | 4 => 4 | 46 => 99 | 45 => 98 | 50 => 103 | 5 => 5 | 9 => 9 | 66 => 124 | 70 => 128 | 76 => 141 | 77 => 142 | n => n, fun | n => n⟩
theorem Tryd.sortInts : Go.Proofs.SlLaysF.n6 Tryd.prog Tryd.sortInts_ren := {
  mixed := by kernel_rfl
  f6 := ⟨Tryd.f35.name, by decide, Tryd.func35.trans (congrArg some (by kernel_rfl))⟩
  f14 := ⟨Tryd.f46.name, by decide, Tryd.func46.trans (congrArg some (by kernel_rfl))⟩
  f15 := Tryd.func47.trans (congrArg some (by kernel_rfl))
  f20 := ⟨Tryd.f59.name, by decide, Tryd.func59.trans (congrArg some (by kernel_rfl))⟩
  f21 := ⟨Tryd.f60.name, by decide, Tryd.func60.trans (congrArg some (by kernel_rfl))⟩
  f22 := ⟨Tryd.f61.name, by decide, Tryd.func61.trans (congrArg some (by kernel_rfl))⟩
  f23 := ⟨Tryd.f62.name, by decide, Tryd.func62.trans (congrArg some (by kernel_rfl))⟩
  f24 := ⟨Tryd.f63.name, by decide, Tryd.func63.trans (congrArg some (by kernel_rfl))⟩
  f25 := ⟨Tryd.f64.name, by decide, Tryd.func64.trans (congrArg some (by kernel_rfl))⟩
  f26 := ⟨Tryd.f65.name, by decide, Tryd.func65.trans (congrArg some (by kernel_rfl))⟩
  f27 := ⟨Tryd.f66.name, by decide, Tryd.func66.trans (congrArg some (by kernel_rfl))⟩
  f28 := Tryd.func67.trans (congrArg some (by kernel_rfl))
  f29 := Tryd.func68.trans (congrArg some (by kernel_rfl))
  f46 := ⟨Tryd.f85.name, by decide, Tryd.func85.trans (congrArg some (by kernel_rfl))⟩
  f47 := Tryd.func86.trans (congrArg some (by kernel_rfl))
  f48 := Tryd.func87.trans (congrArg some (by kernel_rfl))
  f49 := ⟨Tryd.f88.name, by decide, Tryd.func88.trans (congrArg some (by kernel_rfl))⟩
  f50 := ⟨Tryd.f89.name, by decide, Tryd.func89.trans (congrArg some (by kernel_rfl))⟩
  f57 := ⟨Tryd.f102.name, by decide, Tryd.func102.trans (congrArg some (by kernel_rfl))⟩
  t0 := Tryd.underlying0
  a0 := Tryd.isAgg0
  z0 := Tryd.sizeOf0
  v0 := Tryd.zeroValue0
  t3 := Tryd.underlying3
  a3 := Tryd.isAgg3
  z3 := Tryd.sizeOf3
  v3 := Tryd.zeroValue3
  t4 := Tryd.underlying4
  a4 := Tryd.isAgg4
  z4 := Tryd.sizeOf4
  v4 := Tryd.zeroValue4
  t5 := Tryd.underlying5
  a5 := Tryd.isAgg5
  z5 := Tryd.sizeOf5
  v5 := Tryd.zeroValue5
  t9 := Tryd.underlying9
  a9 := Tryd.isAgg9
  z9 := Tryd.sizeOf9
  v9 := Tryd.zeroValue9
  t22 := Tryd.underlying52
  a22 := Tryd.isAgg52
  z22 := Tryd.sizeOf52
  v22 := Tryd.zeroValue52
  a24 := Tryd.isAgg3
  z24 := Tryd.sizeOf3
  t25 := Tryd.underlying72
  a25 := Tryd.isAgg72
  z25 := Tryd.sizeOf72
  v25 := Tryd.zeroValue72
  t39 := Tryd.underlying82
  a39 := Tryd.isAgg82
  z39 := Tryd.sizeOf82
  v39 := Tryd.zeroValue82
  t45 := Tryd.underlying98
  a45 := Tryd.isAgg98
  z45 := Tryd.sizeOf98
  v45 := Tryd.zeroValue98
  t46 := Tryd.underlying99
  a46 := Tryd.isAgg99
  z46 := Tryd.sizeOf99
  v46 := Tryd.zeroValue99
  t50 := Tryd.underlying103
  a50 := Tryd.isAgg103
  z50 := Tryd.sizeOf103
  v50 := Tryd.zeroValue103
  t53 := Tryd.underlying90
  a53 := Tryd.isAgg90
  z53 := Tryd.sizeOf90
  v53 := Tryd.zeroValue90
  t55 := Tryd.underlying86
  a55 := Tryd.isAgg86
  z55 := Tryd.sizeOf86
  v55 := Tryd.zeroValue86
  t66 := Tryd.underlying124
  a66 := Tryd.isAgg124
  z66 := Tryd.sizeOf124
  v66 := Tryd.zeroValue124
  t70 := Tryd.underlying128
  a70 := Tryd.isAgg128
  z70 := Tryd.sizeOf128
  v70 := Tryd.zeroValue128
  t76 := Tryd.underlying141
  a76 := Tryd.isAgg141
  z76 := Tryd.sizeOf141
  v76 := Tryd.zeroValue141
  t77 := Tryd.underlying142
  a77 := Tryd.isAgg142
  z77 := Tryd.sizeOf142
  v77 := Tryd.zeroValue142 }
end Go.Proofs
