/- What the project's order of package dag, and the function that it sorts by, return: contracts. | Slices of ints in memory: read, cut, appended to; and what is put in at its place. No condition. | A contract of the library's, laid at this program: slices.SortFunc at numbers. -/
import Derived.Test.YtechkdhehipliaaGreatDoorFrIJ3
import Derived.Test.YtechkdhehipliaaGreatDoorCmAJ2
import Derived.Test.YtechkdhehipliaaGreatDoorEvRJ4
import Derived.Test.YtechkdhehipliaaGreatDoorDgPJ3
import Derived.Shelf.SlLaysF
import Derived.Test.YtechkdhehipliaaGreatDoorProg
namespace Go.Proofs.YtechkdhehipliaaGreatDoor.DhO
set_option maxRecDepth 100000
open Go Go.Sort Go.RowKit Byt IdM IdW OpsM OpsW CmM StW CmW CmX CmY DgM DgW

/-- The order of places: by rising generations, then by rising ids. -/
def gN (l : List Cv) (i : Nat) : Int := ((l[i]?).map (·.c.gen)).getD 0
def cfN (l : List Cv) (own : List Idn) (i j : Nat) : Int :=
  if gN l i = gN l j then (if less (own.getD i nought) (own.getD j nought) then -1 else if less (own.getD j nought) (own.getD i nought) then 1 else 0) else if gN l i < gN l j then -1 else 1
theorem compare_ret (x y : Int) (w : World) : Calls Tryz.prog 88 #[.int .i64 x, .int .i64 y] w fun e w' => e = .returned (.int .i64 (if x < y then -1 else if y < x then 1 else 0)) ∧ w' = w := by
  rcases (by omega : x < y ∨ (¬ x < y ∧ y < x) ∨ (¬ x < y ∧ ¬ y < x)) with p | ⟨p, q⟩ | ⟨p, q⟩
  · rw [if_pos p]
    go_enter Tryz.func88, Tryz.ntmps88
    go_wp2
    go_ret
    exact ⟨rfl, rfl⟩
  · rw [if_neg p, if_pos q]
    go_enter Tryz.func88, Tryz.ntmps88
    go_wp2
    go_ret
    exact ⟨rfl, rfl⟩
  · rw [if_neg p, if_neg q]
    go_enter Tryz.func88, Tryz.ntmps88
    go_wp2
    go_ret
    exact ⟨rfl, rfl⟩
/-- What the function that is sorted by has at hand. -/
structure Env (w : World) (g0 g1 : Nat) (A A' : Option Addr) (cap cap' : Nat) (l : List Cv) (own : List Idn) : Prop where
  c0 : ∃ t, w.heap[g0]? = some (.cells #[.slice A l.length cap] t (0, 0))
  c1 : ∃ t, w.heap[g1]? = some (.cells #[.slice A' own.length cap'] t (0, 0))
  row : SlK w A cap l
  ids : SlI w A' cap' own
theorem Env.below {w w' : World} {g0 g1 : Nat} {A A' : Option Addr} {cap cap' : Nat} {l : List Cv} {own : List Idn} (h : Env w g0 g1 A A' cap cap' l own) (hb : Below w.heap.size w w') : Env w' g0 g1 A A' cap cap' l own := by
  obtain ⟨t0, h0⟩ := h.c0
  obtain ⟨t1, h1⟩ := h.c1
  exact ⟨⟨t0, by rw [hb.block g0 (Array.getElem?_eq_some_iff.1 h0).1, h0]⟩, ⟨t1, by rw [hb.block g1 (Array.getElem?_eq_some_iff.1 h1).1, h1]⟩, h.row.below hb, h.ids.below hb⟩
theorem cell_row {w : World} {g : Nat} {v : Value} (h : ∃ t, w.heap[g]? = some (.cells #[v] t (0, 0))) : w.cell? ⟨g, 0, none⟩ = some v := by
  obtain ⟨t, h⟩ := h
  rw [cell_of_row w g 0 _ t (0, 0) h]
  rfl
theorem Env.l0 {w : World} {g0 g1 : Nat} {A A' : Option Addr} {cap cap' : Nat} {l : List Cv} {own : List Idn} (h : Env w g0 g1 A A' cap cap' l own) : w.cell? ⟨g0, 0, none⟩ = some (.slice A l.length cap) := cell_row h.c0
theorem Env.l1 {w : World} {g0 g1 : Nat} {A A' : Option Addr} {cap cap' : Nat} {l : List Cv} {own : List Idn} (h : Env w g0 g1 A A' cap cap' l own) : w.cell? ⟨g1, 0, none⟩ = some (.slice A' own.length cap') := cell_row h.c1
theorem gen_cell {w : World} {b off i : Nat} {x : Cv} (h : w.rangeAt b (off + i * 8) (cc x).toList) : w.cell? ⟨b, off + i * 8 + 2, none⟩ = some (.int .i64 x.c.gen) := h 2 _ rfl
set_option maxRecDepth 100000 in
set_option maxHeartbeats 16000000 in
theorem cmp_ret (g0 g1 : Nat) (A A' : Option Addr) (cap cap' : Nat) (l : List Cv) (own : List Idn) (i j : Nat) (hi : i < l.length) (hj : j < l.length) (ho : own.length = l.length) (w : World) (E : Env w g0 g1 A A' cap cap' l own) :
    Calls Tryz.prog 87 #[.int .i64 i, .int .i64 j, .pointer (some ⟨g0, 0, none⟩), .pointer (some ⟨g1, 0, none⟩)] w fun e w' => e = .returned (.int .i64 (cfN l own i j)) ∧ Grew w w' := by
  have hmax := E.row.len
  obtain ⟨b, off, rfl, hbw, hr⟩ := E.row.plain (by omega)
  obtain ⟨b', off', rfl, hbw', hr'⟩ := SlI.plain E.ids (by omega)
  obtain ⟨x, hx⟩ : ∃ x, l[i]? = some x := ⟨_, List.getElem?_eq_getElem hi⟩
  obtain ⟨y, hy⟩ : ∃ y, l[j]? = some y := ⟨_, List.getElem?_eq_getElem hj⟩
  have rx := hr i x hx
  have ry := hr j y hy
  have sx := hr' i (by omega)
  have sy := hr' j (by omega)
  obtain ⟨ix, hix⟩ : ∃ ix, own.getD i nought = ix := ⟨_, rfl⟩
  obtain ⟨iy, hiy⟩ : ∃ iy, own.getD j nought = iy := ⟨_, rfl⟩
  obtain ⟨m, hm⟩ : ∃ m, x.c.gen = m := ⟨_, rfl⟩
  obtain ⟨n, hn⟩ : ∃ n, y.c.gen = n := ⟨_, rfl⟩
  have HR : Hid (cfN l own i j = if m = n then (if less ix iy then -1 else if less iy ix then 1 else 0) else if m < n then -1 else 1) := aside (by
    unfold cfN gN
    rw [hx, hy, hix, hiy, ← hm, ← hn]
    rfl)
  have c0 := E.l0
  have HX : Hid (∀ W, Below w.heap.size w W → W.cell? ⟨b, off + i * 8 + 2, none⟩ = some (.int .i64 m)) := aside (fun W hb => by rw [← hm]; exact gen_cell (range_on rx hb))
  have HY : Hid (∀ W, Below w.heap.size w W → W.cell? ⟨b, off + j * 8 + 2, none⟩ = some (.int .i64 n)) := aside (fun W hb => by rw [← hn]; exact gen_cell (range_on ry hb))
  have cx := gen_cell rx
  have cy := gen_cell ry
  rw [hm] at cx
  rw [hn] at cy
  rw [hix] at sx
  rw [hiy] at sy
  have p0 : (i : Int) < l.length := by omega
  have p1 : (j : Int) < l.length := by omega
  have q0 : (i : Int) < own.length := by omega
  have q1 : (j : Int) < own.length := by omega
  have m0 : ((i : Int)).toNat = i := by omega
  have m1 : ((j : Int)).toNat = j := by omega
  obtain ⟨r, hr0⟩ : ∃ r, cfN l own i j = r := ⟨_, rfl⟩
  rw [hr0] at HR ⊢
  clear hr hr' hx hy hix hiy hm hn rx ry hr0
  by_cases hmn : m = n
  · have t0 : (m != n) = false := by simpa using hmn
    cases h1 : less ix iy with
    | true =>
      have HV : Hid (r = -1) := aside (by rw [HR.out, if_pos hmn, h1]; rfl)
      clear hmn HR
      go_enter Tryz.func87, Tryz.ntmps87
      go_wp2_with (first | go_skip)
      go_quiet (fail)
      go_wp2_with (first | go_skip)
      have G1 : Grew w (w.drewN nq) := (Grew.refl w).drewN nq
      generalize w.drewN nq = W1 at G1 ⊢
      clear c0 cx cy
      refine Grow.region [(0, true), (1, true), (2, true), (3, true), (4, true), (5, true), (6, true), (7, true), (8, false), (9, true)] (by kernel_rfl) (by kernel_rfl) rfl (by kernel_rfl) (by intro c a d v w h; cases d <;> exact h) ?_
      have G2 : Grew w W1.drew := G1.drew
      generalize W1.drew = wz at G2 ⊢
      clear G1
      have E2 := E.below G2.below
      have d1 := Grow.grown (w := wz) (fun u hu => (E2.below hu).l1)
      have zx := IdW.range_below sx G2.below
      have zy := IdW.range_below sy G2.below
      repeat (first | (refine Grow.reads rfl rfl ?_; go_big_quiet_want; refine CmA.quiet_id _ rfl _ _ rfl ix zx ?_; go_big_quiet_on; refine wpQuiet_nil ?_; (try simp only [Act.put, List.setIfInBounds_toArray, List.set_cons_succ, List.set_cons_zero])) | (refine Grow.reads rfl rfl ?_; go_big_quiet_want; refine CmA.quiet_id _ rfl _ _ rfl iy zy ?_; go_big_quiet_on; refine wpQuiet_nil ?_; (try simp only [Act.put, List.setIfInBounds_toArray, List.set_cons_succ, List.set_cons_zero])) | (refine Grow.reads rfl rfl ?_; go_big_quiet_step (fail); refine wpQuiet_nil ?_))
      refine Grow.acts rfl ?_
      go_wp2_with (first | go_skip)
      have qs := IdC.less_ret ix iy wz
      rw [h1] at qs
      refine qs.mono ?_
      clear qs
      rintro e w3 ⟨rfl, g3⟩
      go_wp2_with (first | go_skip)
      refine ⟨g3.below, ?_⟩
      have G1 := G2.trans g3
      clear G2 g3 E2 d1 zx zy
      (try simp only [Act.put, List.setIfInBounds_toArray, List.set_cons_succ, List.set_cons_zero])
      repeat (refine Grow.reads rfl rfl ?_; go_big_quiet_step (fail); refine wpQuiet_nil ?_)
      refine Grow.ends ?_
      go_wp2_with (first | go_skip)
      go_ret
      exact ⟨by rw [HV.out]; rfl, G1⟩
    | false =>
      cases h2 : less iy ix with
      | true =>
        have HV : Hid (r = 1) := aside (by rw [HR.out, if_pos hmn, h1, h2]; rfl)
        clear hmn HR
        go_enter Tryz.func87, Tryz.ntmps87
        go_wp2_with (first | go_skip)
        go_quiet (fail)
        go_wp2_with (first | go_skip)
        have G1 : Grew w (w.drewN nq) := (Grew.refl w).drewN nq
        generalize w.drewN nq = W1 at G1 ⊢
        clear c0 cx cy
        refine Grow.region [(0, true), (1, true), (2, true), (3, true), (4, true), (5, true), (6, true), (7, true), (8, false), (9, true)] (by kernel_rfl) (by kernel_rfl) rfl (by kernel_rfl) (by intro c a d v w h; cases d <;> exact h) ?_
        have G2 : Grew w W1.drew := G1.drew
        generalize W1.drew = wz at G2 ⊢
        clear G1
        have E2 := E.below G2.below
        have d1 := Grow.grown (w := wz) (fun u hu => (E2.below hu).l1)
        have zx := IdW.range_below sx G2.below
        have zy := IdW.range_below sy G2.below
        repeat (first | (refine Grow.reads rfl rfl ?_; go_big_quiet_want; refine CmA.quiet_id _ rfl _ _ rfl ix zx ?_; go_big_quiet_on; refine wpQuiet_nil ?_; (try simp only [Act.put, List.setIfInBounds_toArray, List.set_cons_succ, List.set_cons_zero])) | (refine Grow.reads rfl rfl ?_; go_big_quiet_want; refine CmA.quiet_id _ rfl _ _ rfl iy zy ?_; go_big_quiet_on; refine wpQuiet_nil ?_; (try simp only [Act.put, List.setIfInBounds_toArray, List.set_cons_succ, List.set_cons_zero])) | (refine Grow.reads rfl rfl ?_; go_big_quiet_step (fail); refine wpQuiet_nil ?_))
        refine Grow.acts rfl ?_
        go_wp2_with (first | go_skip)
        have qs := IdC.less_ret ix iy wz
        rw [h1] at qs
        refine qs.mono ?_
        clear qs
        rintro e w3 ⟨rfl, g3⟩
        go_wp2_with (first | go_skip)
        refine ⟨g3.below, ?_⟩
        have G1 := G2.trans g3
        clear G2 g3 E2 d1 zx zy
        (try simp only [Act.put, List.setIfInBounds_toArray, List.set_cons_succ, List.set_cons_zero])
        repeat (refine Grow.reads rfl rfl ?_; go_big_quiet_step (fail); refine wpQuiet_nil ?_)
        refine Grow.ends ?_
        go_wp2_with (first | go_skip)
        refine Grow.region [(0, true), (1, true), (2, true), (3, true), (4, true), (5, true), (6, true), (7, true), (8, false), (9, true)] (by kernel_rfl) (by kernel_rfl) rfl (by kernel_rfl) (by intro c a d v w h; cases d <;> exact h) ?_
        have G2 : Grew w w3.drew := G1.drew
        generalize w3.drew = wz at G2 ⊢
        clear G1
        have E2 := E.below G2.below
        have d1 := Grow.grown (w := wz) (fun u hu => (E2.below hu).l1)
        have zx := IdW.range_below sx G2.below
        have zy := IdW.range_below sy G2.below
        repeat (first | (refine Grow.reads rfl rfl ?_; go_big_quiet_want; refine CmA.quiet_id _ rfl _ _ rfl ix zx ?_; go_big_quiet_on; refine wpQuiet_nil ?_; (try simp only [Act.put, List.setIfInBounds_toArray, List.set_cons_succ, List.set_cons_zero])) | (refine Grow.reads rfl rfl ?_; go_big_quiet_want; refine CmA.quiet_id _ rfl _ _ rfl iy zy ?_; go_big_quiet_on; refine wpQuiet_nil ?_; (try simp only [Act.put, List.setIfInBounds_toArray, List.set_cons_succ, List.set_cons_zero])) | (refine Grow.reads rfl rfl ?_; go_big_quiet_step (fail); refine wpQuiet_nil ?_))
        refine Grow.acts rfl ?_
        go_wp2_with (first | go_skip)
        have qs := IdC.less_ret iy ix wz
        rw [h2] at qs
        refine qs.mono ?_
        clear qs
        rintro e w4 ⟨rfl, g3⟩
        go_wp2_with (first | go_skip)
        refine ⟨g3.below, ?_⟩
        have G1 := G2.trans g3
        clear G2 g3 E2 d1 zx zy
        (try simp only [Act.put, List.setIfInBounds_toArray, List.set_cons_succ, List.set_cons_zero])
        repeat (refine Grow.reads rfl rfl ?_; go_big_quiet_step (fail); refine wpQuiet_nil ?_)
        refine Grow.ends ?_
        go_wp2_with (first | go_skip)
        go_ret
        exact ⟨by rw [HV.out]; rfl, G1⟩
      | false =>
        have HV : Hid (r = 0) := aside (by rw [HR.out, if_pos hmn, h1, h2]; rfl)
        clear hmn HR
        go_enter Tryz.func87, Tryz.ntmps87
        go_wp2_with (first | go_skip)
        go_quiet (fail)
        go_wp2_with (first | go_skip)
        have G1 : Grew w (w.drewN nq) := (Grew.refl w).drewN nq
        generalize w.drewN nq = W1 at G1 ⊢
        clear c0 cx cy
        refine Grow.region [(0, true), (1, true), (2, true), (3, true), (4, true), (5, true), (6, true), (7, true), (8, false), (9, true)] (by kernel_rfl) (by kernel_rfl) rfl (by kernel_rfl) (by intro c a d v w h; cases d <;> exact h) ?_
        have G2 : Grew w W1.drew := G1.drew
        generalize W1.drew = wz at G2 ⊢
        clear G1
        have E2 := E.below G2.below
        have d1 := Grow.grown (w := wz) (fun u hu => (E2.below hu).l1)
        have zx := IdW.range_below sx G2.below
        have zy := IdW.range_below sy G2.below
        repeat (first | (refine Grow.reads rfl rfl ?_; go_big_quiet_want; refine CmA.quiet_id _ rfl _ _ rfl ix zx ?_; go_big_quiet_on; refine wpQuiet_nil ?_; (try simp only [Act.put, List.setIfInBounds_toArray, List.set_cons_succ, List.set_cons_zero])) | (refine Grow.reads rfl rfl ?_; go_big_quiet_want; refine CmA.quiet_id _ rfl _ _ rfl iy zy ?_; go_big_quiet_on; refine wpQuiet_nil ?_; (try simp only [Act.put, List.setIfInBounds_toArray, List.set_cons_succ, List.set_cons_zero])) | (refine Grow.reads rfl rfl ?_; go_big_quiet_step (fail); refine wpQuiet_nil ?_))
        refine Grow.acts rfl ?_
        go_wp2_with (first | go_skip)
        have qs := IdC.less_ret ix iy wz
        rw [h1] at qs
        refine qs.mono ?_
        clear qs
        rintro e w3 ⟨rfl, g3⟩
        go_wp2_with (first | go_skip)
        refine ⟨g3.below, ?_⟩
        have G1 := G2.trans g3
        clear G2 g3 E2 d1 zx zy
        (try simp only [Act.put, List.setIfInBounds_toArray, List.set_cons_succ, List.set_cons_zero])
        repeat (refine Grow.reads rfl rfl ?_; go_big_quiet_step (fail); refine wpQuiet_nil ?_)
        refine Grow.ends ?_
        go_wp2_with (first | go_skip)
        refine Grow.region [(0, true), (1, true), (2, true), (3, true), (4, true), (5, true), (6, true), (7, true), (8, false), (9, true)] (by kernel_rfl) (by kernel_rfl) rfl (by kernel_rfl) (by intro c a d v w h; cases d <;> exact h) ?_
        have G2 : Grew w w3.drew := G1.drew
        generalize w3.drew = wz at G2 ⊢
        clear G1
        have E2 := E.below G2.below
        have d1 := Grow.grown (w := wz) (fun u hu => (E2.below hu).l1)
        have zx := IdW.range_below sx G2.below
        have zy := IdW.range_below sy G2.below
        repeat (first | (refine Grow.reads rfl rfl ?_; go_big_quiet_want; refine CmA.quiet_id _ rfl _ _ rfl ix zx ?_; go_big_quiet_on; refine wpQuiet_nil ?_; (try simp only [Act.put, List.setIfInBounds_toArray, List.set_cons_succ, List.set_cons_zero])) | (refine Grow.reads rfl rfl ?_; go_big_quiet_want; refine CmA.quiet_id _ rfl _ _ rfl iy zy ?_; go_big_quiet_on; refine wpQuiet_nil ?_; (try simp only [Act.put, List.setIfInBounds_toArray, List.set_cons_succ, List.set_cons_zero])) | (refine Grow.reads rfl rfl ?_; go_big_quiet_step (fail); refine wpQuiet_nil ?_))
        refine Grow.acts rfl ?_
        go_wp2_with (first | go_skip)
        have qs := IdC.less_ret iy ix wz
        rw [h2] at qs
        refine qs.mono ?_
        clear qs
        rintro e w4 ⟨rfl, g3⟩
        go_wp2_with (first | go_skip)
        refine ⟨g3.below, ?_⟩
        have G1 := G2.trans g3
        clear G2 g3 E2 d1 zx zy
        (try simp only [Act.put, List.setIfInBounds_toArray, List.set_cons_succ, List.set_cons_zero])
        repeat (refine Grow.reads rfl rfl ?_; go_big_quiet_step (fail); refine wpQuiet_nil ?_)
        refine Grow.ends ?_
        go_wp2_with (first | go_skip)
        go_ret
        exact ⟨by rw [HV.out]; rfl, G1⟩
  · have t0 : (m != n) = true := by simpa using hmn
    have HV : Hid (r = if m < n then -1 else if n < m then 1 else 0) := aside (by
      rw [HR.out, if_neg hmn]
      by_cases h : m < n
      · rw [if_pos h, if_pos h]
      · rw [if_neg h, if_neg h, if_pos (by omega)])
    clear hmn HR
    go_enter Tryz.func87, Tryz.ntmps87
    go_wp2_with (first | go_skip)
    go_quiet (fail)
    go_wp2_with (first | go_skip)
    have G1 : Grew w (w.drewN nq) := (Grew.refl w).drewN nq
    generalize w.drewN nq = W1 at G1 ⊢
    clear c0 cx cy
    refine Grow.region [(0, true), (1, true), (2, true), (3, true), (4, true), (5, true), (6, true), (7, true), (8, true), (9, true), (10, false), (11, true)] (by kernel_rfl) (by kernel_rfl) rfl (by kernel_rfl) (by intro c a d v w h; cases d <;> exact h) ?_
    have G2 : Grew w W1.drew := G1.drew
    generalize W1.drew = wz at G2 ⊢
    clear G1
    have E2 := E.below G2.below
    have d0 := Grow.grown (w := wz) (fun u hu => (E2.below hu).l0)
    have dx := Grow.grown (w := wz) (fun u hu => HX.out u (G2.below.trans (hu.mono G2.below.size)))
    have dy := Grow.grown (w := wz) (fun u hu => HY.out u (G2.below.trans (hu.mono G2.below.size)))
    repeat (refine Grow.reads rfl rfl ?_; go_big_quiet_step (fail); refine wpQuiet_nil ?_)
    refine Grow.acts rfl ?_
    go_wp2_with (first | go_skip)
    have qs := compare_ret m n wz
    rw [← HV.out] at qs
    refine qs.mono ?_
    clear qs
    rintro e w3 ⟨rfl, rfl⟩
    go_wp2_with (first | go_skip)
    refine ⟨Below.refl _ _, ?_⟩
    (try simp only [Act.put, List.setIfInBounds_toArray, List.set_cons_succ, List.set_cons_zero])
    repeat (refine Grow.reads rfl rfl ?_; go_big_quiet_step (fail); refine wpQuiet_nil ?_)
    refine Grow.ends ?_
    go_wp2_with (first | go_skip)
    go_ret
    exact ⟨rfl, G2⟩
end Go.Proofs.YtechkdhehipliaaGreatDoor.DhO
namespace Go.Proofs.YtechkdhehipliaaGreatDoor.DgI
set_option maxRecDepth 100000
open Go Go.Sort Go.RowKit Byt IdM IdW OpsM OpsW CmM StW CmW

def nv (l : List Nat) : List Value := l.map fun (n : Nat) => Value.int .i64 n
theorem nv_length (l : List Nat) : (nv l).length = l.length := List.length_map ..
theorem nv_append (a b : List Nat) : nv (a ++ b) = nv a ++ nv b := List.map_append ..
theorem nv_at {l : List Nat} {i n : Nat} (h : l[i]? = some n) : (nv l)[i]? = some (.int .i64 n) := by
  unfold nv
  rw [List.getElem?_map, h]
  rfl
theorem nv_one (l : List Nat) : ∀ v ∈ nv l, v.oneCell' = true := by
  intro v hv
  obtain ⟨n, _, rfl⟩ := List.mem_map.1 hv
  rfl
/-- The slice with address A, as long as l, and with room for cap, has the values l. -/
def SlN (w : World) (A : Option Addr) (cap : Nat) (l : List Nat) : Prop :=
  l.length ≤ cap ∧ cap ≤ maxLen ∧ ((A = none ∧ l = [] ∧ cap = 0) ∨ ∃ x, A = some x ∧ ∀ i v, (nv l)[i]? = some v → w.cell? (x.add i) = some v)
theorem SlN.nil (w : World) : SlN w none 0 [] := ⟨Nat.le_refl _, Nat.zero_le _, .inl ⟨rfl, rfl, rfl⟩⟩
theorem SlN.below {w w' : World} {A : Option Addr} {cap : Nat} {l : List Nat} (h : SlN w A cap l) (hb : Below w.heap.size w w') : SlN w' A cap l := by
  obtain ⟨h1, h2, h5⟩ := h
  refine ⟨h1, h2, ?_⟩
  rcases h5 with h5 | ⟨x, rfl, hc⟩
  · exact .inl h5
  · refine .inr ⟨x, rfl, fun i v hv => ?_⟩
    have hcell := hc i v hv
    exact (hb.cell (block_lt_of_cell hcell)).trans hcell
theorem SlN.plain {w : World} {A : Option Addr} {cap : Nat} {l : List Nat} (h : SlN w A cap l) (hp : 0 < l.length) :
    ∃ b off, A = some ⟨b, off, none⟩ ∧ b < w.heap.size ∧ ∀ (i n : Nat), l[i]? = some n → w.cell? ⟨b, off + i, none⟩ = some (.int .i64 n) := by
  obtain ⟨h1, h2, h5⟩ := h
  rcases h5 with ⟨_, rfl, _⟩ | ⟨x, rfl, hc⟩
  · simp at hp
  · have h0 := hc 0 _ (nv_at (n := l[0]) (List.getElem?_eq_getElem hp))
    obtain ⟨b, off, spot⟩ := x
    have hspot : spot = none := by simpa [Addr.add] using World.cell?_spot h0
    subst hspot
    have hb := block_lt_of_cell h0
    rw [RowIn.block_add] at hb
    refine ⟨b, off, rfl, hb, fun i n hi => ?_⟩
    have := hc i _ (nv_at hi)
    rwa [Addr.add_lit] at this
theorem SlN.own {w : World} {base n : Nat} {v : Value} {l : List Nat} (h : w.ownsRow base 3 1 v n (nv l)) : ∃ A cap, v = .slice A l.length cap ∧ SlN w A cap l := by
  have hn : l.length = n := by
    have := h.1
    rw [nv_length] at this
    omega
  rcases h.2 with ⟨rfl, rfl⟩ | ⟨g, cap, cur, rfl, hbg, hg, h1, h2, h3, h4⟩
  · have : l = [] := List.eq_nil_of_length_eq_zero hn
    subst this
    exact ⟨none, 0, rfl, SlN.nil w⟩
  · refine ⟨some ⟨g, 0, none⟩, cap, by rw [hn], by omega, h2, .inr ⟨_, rfl, fun i u hu => ?_⟩⟩
    exact h.cells rfl i u hu
theorem SlN.part {w : World} {A : Option Addr} {cap : Nat} {l : List Nat} (h : SlN w A cap l) (i j : Nat) (hij : i ≤ j) (hj : j ≤ l.length) :
    ∃ A' cap', sliced A i j cap 1 = .slice A' (j - i) cap' ∧ SlN w A' cap' ((l.drop i).take (j - i)) ∧ ((l.drop i).take (j - i)).length = j - i := by
  obtain ⟨h1, h2, h5⟩ := h
  have hl : ((l.drop i).take (j - i)).length = j - i := by simp; omega
  rcases h5 with ⟨rfl, rfl, rfl⟩ | ⟨x, rfl, hc⟩
  · simp at hj
    obtain rfl : j = 0 := hj
    obtain rfl : i = 0 := by omega
    exact ⟨none, 0, by simp [sliced], by simpa using SlN.nil w, hl⟩
  · by_cases hci : cap = i
    · refine ⟨some x, cap - i, by simp [sliced, hci], ⟨by rw [hl]; omega, by omega, .inr ⟨x, rfl, fun m v hv => ?_⟩⟩, hl⟩
      have := (List.getElem?_eq_some_iff.1 hv).1
      rw [nv_length, hl] at this
      omega
    · refine ⟨some (x.add (i * 1)), cap - i, by simp [sliced, hci], ⟨by rw [hl]; omega, by omega, .inr ⟨_, rfl, fun m v hv => ?_⟩⟩, hl⟩
      rw [Addr.add_add]
      apply hc
      have hm := (List.getElem?_eq_some_iff.1 hv).1
      rw [nv_length, hl] at hm
      unfold nv at hv ⊢
      rw [List.getElem?_map, List.getElem?_take, if_pos (by omega), List.getElem?_drop] at hv
      rw [List.getElem?_map, Nat.mul_one]
      exact hv
theorem info_int : (Tryz.prog.info? 3).map (fun i => (i.zero, i.size, i.bytes)) = some (some (.int .i64 0), 1, 8) := by kernel_rfl
theorem elem_int : Tryz.prog.elem 81 = 3 := by kernel_rfl
theorem under_int : Tryz.prog.underlying 81 = some (.slice (Tryz.prog.elem 81)) := by kernel_rfl
theorem size_int (w : World) : (sizeOf (Tryz.prog.elem 81)).run Tryz.prog w = .ok 1 w := by
  obtain ⟨i, hi, z0, z1, _⟩ := info_parts info_int
  rw [elem_int]
  simp [sizeOf, typeInfo, hi, z1]
theorem run_part_h (w : World) (A : Option Addr) (len cap : Nat) (k : IntKind) (j : Nat) (hj : j ≤ cap) :
    (Instr.sliceAt 81 (.slice A len cap) none (some (.int k j)) none).run Tryz.prog w = .ok (sliced A 0 j cap 1) w := by
  rw [run_sliceAt_slice w _ _ _ _ _ under_int, run_slice_h w _ A len cap under_int k j (by omega) (by omega), size_int]
  simp [Result.andThen]
theorem run_part_l (w : World) (A : Option Addr) (len cap : Nat) (k : IntKind) (i : Nat) (hi : i ≤ len) :
    (Instr.sliceAt 81 (.slice A len cap) (some (.int k i)) none none).run Tryz.prog w = .ok (sliced A i len cap 1) w := by
  rw [run_sliceAt_slice w _ _ _ _ _ under_int, run_slice_l w _ A len cap under_int k i (by omega) (by omega), size_int]
  simp [Result.andThen]
theorem SlN.new1 (w : World) (n : Nat) (t : TypeId) : SlN (w.alloc (.cells #[.int .i64 n] t)) (some ⟨w.heap.size, 0, none⟩) 1 [n] := by
  refine ⟨Nat.le_refl _, by unfold maxLen; omega, .inr ⟨_, rfl, fun i v hv => ?_⟩⟩
  have hi : i = 0 := by
    have := (List.getElem?_eq_some_iff.1 hv).1
    simpa [nv] using this
  subst hi
  obtain rfl : Value.int .i64 n = v := by simpa [nv] using hv
  rw [Addr.add_lit]
  exact cell_of_row _ _ _ _ _ (0, 0) (heap_alloc_new w _)
theorem nil_own (w : World) (base : Nat) : w.ownsRow base 3 1 (.slice none 0 0) 0 (nv []) := ⟨rfl, .inl ⟨rfl, rfl⟩⟩
/-- 'append' of a slice of ints. -/
theorem append_ints {w : World} {ops : Array Oper} {rest : List Oper} {o : Oper} {a : Act} {Q : Exit → Act → World → Prop} (hgd : o.guard = none) (s x : Operand)
    (ho : o.op = .call { callee := .builtin .append, args := #[s, x], argTypes := #[81, 81] })
    (base : Nat) (v : Value) (n : Nat) (xs : List Nat) (hs : a.eval s = v) (hown : w.ownsRow base 3 1 v n (nv xs))
    (A : Option Addr) (m c : Nat) (l : List Nat) (hx : a.eval x = .slice A m c) (hm : l.length = m) (hr : SlN w A c l)
    (h63 : n + m ≤ 1000000000) (hbase : base ≤ w.heap.size)
    (h : ∀ v' w', w'.ownsRow base 3 1 v' (n + m) (nv (xs ++ l)) → w.grownBy w' v.ownBlock → wpList Tryz.prog ops Q rest (a.put o.dst v') w') : wpList Tryz.prog ops Q (o :: rest) a w := by
  obtain ⟨i, hi, z0, z1, z2⟩ := info_parts info_int
  subst hm
  obtain ⟨h1, h2, h5⟩ := hr
  rcases h5 with ⟨rfl, rfl, rfl⟩ | ⟨ad, rfl, hc⟩
  · refine wpList_append_own_none hgd s x 81 ho base 3 i 1 Tryz.underlying81 hi v n (nv xs) hs hown hx (h v w ?_ (grown_of_below (Below.refl _ _) _))
    simpa using hown
  · exact wpList_append_own w hgd s x 81 ho base 3 i (.int .i64 0) 1 8 Tryz.underlying81 hi z0 z1 z2 rfl (by decide) v n (nv xs) hs hown ad l.length c (nv l) hx (by rw [nv_length]; omega) (fun j u hu => hc j u hu) (nv_one l) (by unfold maxLen; omega) (by omega) hbase (fun v' w' a1 a2 _ => h v' w' (by rw [nv_append]; exact a1) a2)
/-- Put in at its place. -/
theorem put_pw {R : Nat → Nat → Prop} (tr : ∀ a b c, R a b → R b c → R a c) {l : List Nat} {x m : Nat} (h : l.Pairwise R) (hm : m ≤ l.length) (h1 : ∀ j y, m ≤ j → l[j]? = some y → R x y) (h2 : m = 0 ∨ ∃ y, l[m - 1]? = some y ∧ R y x) :
    (l.take m ++ [x] ++ l.drop m).Pairwise R := by
  have hd : ∀ z ∈ l.drop m, R x z := by
    intro z hz
    obtain ⟨i, hi⟩ := List.mem_iff_getElem?.1 hz
    rw [List.getElem?_drop] at hi
    exact h1 (m + i) z (by omega) hi
  have ht : ∀ z ∈ l.take m, R z x := by
    intro z hz
    obtain ⟨i, hi⟩ := List.mem_iff_getElem?.1 hz
    have hi' : i < m := by
      have := (List.getElem?_eq_some_iff.1 hi).1
      rw [List.length_take] at this
      omega
    rw [List.getElem?_take, if_pos hi'] at hi
    rcases h2 with h2 | ⟨y, hy, hr⟩
    · omega
    · by_cases e : i = m - 1
      · rw [e, hy] at hi
        rw [← Option.some.inj hi]
        exact hr
      · obtain ⟨i1, e1⟩ := List.getElem?_eq_some_iff.1 hi
        obtain ⟨i2, e2⟩ := List.getElem?_eq_some_iff.1 hy
        have := List.pairwise_iff_getElem.1 h i (m - 1) i1 i2 (by omega)
        rw [e1, e2] at this
        exact tr _ _ _ this hr
  rw [List.append_assoc, List.pairwise_append]
  refine ⟨List.Pairwise.sublist (List.take_sublist m l) h, ?_, ?_⟩
  · rw [List.singleton_append, List.pairwise_cons]
    exact ⟨hd, List.Pairwise.sublist (List.drop_sublist m l) h⟩
  · intro a ha b hb
    rw [List.singleton_append, List.mem_cons] at hb
    rcases hb with rfl | hb
    · exact ht a ha
    · exact tr _ _ _ (ht a ha) (hd b hb)
theorem put_mem {l : List Nat} {x m z : Nat} : z ∈ l.take m ++ [x] ++ l.drop m ↔ z = x ∨ z ∈ l := by
  have hmem : z ∈ l ↔ z ∈ l.take m ∨ z ∈ l.drop m := by
    conv => lhs; rw [← List.take_append_drop m l]
    rw [List.mem_append]
  rw [List.append_assoc, List.mem_append, List.singleton_append, List.mem_cons, hmem]
  constructor
  · rintro (h | h | h)
    · exact .inr (.inl h)
    · exact .inl h
    · exact .inr (.inr h)
  · rintro (h | h | h)
    · exact .inr (.inl h)
    · exact .inl h
    · exact .inr (.inr h)
theorem put_len {l : List Nat} {x m : Nat} (hm : m ≤ l.length) : (l.take m ++ [x] ++ l.drop m).length = l.length + 1 := by simp; omega
end Go.Proofs.YtechkdhehipliaaGreatDoor.DgI
namespace Go.Proofs
set_option maxRecDepth 100000
open Go.Shelf
def Tryz.sortInts_ren : Go.Shelf.Ren := ⟨fun | 6 => 86 | 15 => 113 | 14 => 112 | 28 => 143 | 29 => 144 | 47 => 164 | 48 => 165 | 20 => 135 | 21 => 136 | 22 => 137 | 23 => 138 | 24 => 139 | 25 => 140 | 26 => 141 | 27 => 142 | 46 => 163 | 49 => 166 | 50 => 167 | 57 => 171 | n => n, fun | 22 => 81 | 24 => 3 | 25 => 99 | 3 => 3 | 39 => 108 | 0 => 0 | 53 => 114 | 55 => 90 | 4 => 4 | 46 => 141 | 45 => 140 | 50 => 145 | 5 => 5 | 9 => 9 | 66 => 159 | 70 => 163 | 76 => 167 | 77 => 168 | n => n, fun | n => n⟩
theorem Tryz.sortInts : Go.Proofs.SlLaysF.n6 Tryz.prog Tryz.sortInts_ren := {
  mixed := by kernel_rfl
  f6 := ⟨Tryz.f86.name, by decide, Tryz.func86.trans (congrArg some (by kernel_rfl))⟩
  f14 := ⟨Tryz.f112.name, by decide, Tryz.func112.trans (congrArg some (by kernel_rfl))⟩
  f15 := Tryz.func113.trans (congrArg some (by kernel_rfl))
  f20 := ⟨Tryz.f135.name, by decide, Tryz.func135.trans (congrArg some (by kernel_rfl))⟩
  f21 := ⟨Tryz.f136.name, by decide, Tryz.func136.trans (congrArg some (by kernel_rfl))⟩
  f22 := ⟨Tryz.f137.name, by decide, Tryz.func137.trans (congrArg some (by kernel_rfl))⟩
  f23 := ⟨Tryz.f138.name, by decide, Tryz.func138.trans (congrArg some (by kernel_rfl))⟩
  f24 := ⟨Tryz.f139.name, by decide, Tryz.func139.trans (congrArg some (by kernel_rfl))⟩
  f25 := ⟨Tryz.f140.name, by decide, Tryz.func140.trans (congrArg some (by kernel_rfl))⟩
  f26 := ⟨Tryz.f141.name, by decide, Tryz.func141.trans (congrArg some (by kernel_rfl))⟩
  f27 := ⟨Tryz.f142.name, by decide, Tryz.func142.trans (congrArg some (by kernel_rfl))⟩
  f28 := Tryz.func143.trans (congrArg some (by kernel_rfl))
  f29 := Tryz.func144.trans (congrArg some (by kernel_rfl))
  f46 := ⟨Tryz.f163.name, by decide, Tryz.func163.trans (congrArg some (by kernel_rfl))⟩
  f47 := Tryz.func164.trans (congrArg some (by kernel_rfl))
  f48 := Tryz.func165.trans (congrArg some (by kernel_rfl))
  f49 := ⟨Tryz.f166.name, by decide, Tryz.func166.trans (congrArg some (by kernel_rfl))⟩
  f50 := ⟨Tryz.f167.name, by decide, Tryz.func167.trans (congrArg some (by kernel_rfl))⟩
  f57 := ⟨Tryz.f171.name, by decide, Tryz.func171.trans (congrArg some (by kernel_rfl))⟩
  t0 := Tryz.underlying0
  a0 := Tryz.isAgg0
  z0 := Tryz.sizeOf0
  v0 := Tryz.zeroValue0
  t3 := Tryz.underlying3
  a3 := Tryz.isAgg3
  z3 := Tryz.sizeOf3
  v3 := Tryz.zeroValue3
  t4 := Tryz.underlying4
  a4 := Tryz.isAgg4
  z4 := Tryz.sizeOf4
  v4 := Tryz.zeroValue4
  t5 := Tryz.underlying5
  a5 := Tryz.isAgg5
  z5 := Tryz.sizeOf5
  v5 := Tryz.zeroValue5
  t9 := Tryz.underlying9
  a9 := Tryz.isAgg9
  z9 := Tryz.sizeOf9
  v9 := Tryz.zeroValue9
  t22 := Tryz.underlying81
  a22 := Tryz.isAgg81
  z22 := Tryz.sizeOf81
  v22 := Tryz.zeroValue81
  a24 := Tryz.isAgg3
  z24 := Tryz.sizeOf3
  t25 := Tryz.underlying99
  a25 := Tryz.isAgg99
  z25 := Tryz.sizeOf99
  v25 := Tryz.zeroValue99
  t39 := Tryz.underlying108
  a39 := Tryz.isAgg108
  z39 := Tryz.sizeOf108
  v39 := Tryz.zeroValue108
  t45 := Tryz.underlying140
  a45 := Tryz.isAgg140
  z45 := Tryz.sizeOf140
  v45 := Tryz.zeroValue140
  t46 := Tryz.underlying141
  a46 := Tryz.isAgg141
  z46 := Tryz.sizeOf141
  v46 := Tryz.zeroValue141
  t50 := Tryz.underlying145
  a50 := Tryz.isAgg145
  z50 := Tryz.sizeOf145
  v50 := Tryz.zeroValue145
  t53 := Tryz.underlying114
  a53 := Tryz.isAgg114
  z53 := Tryz.sizeOf114
  v53 := Tryz.zeroValue114
  t55 := Tryz.underlying90
  a55 := Tryz.isAgg90
  z55 := Tryz.sizeOf90
  v55 := Tryz.zeroValue90
  t66 := Tryz.underlying159
  a66 := Tryz.isAgg159
  z66 := Tryz.sizeOf159
  v66 := Tryz.zeroValue159
  t70 := Tryz.underlying163
  a70 := Tryz.isAgg163
  z70 := Tryz.sizeOf163
  v70 := Tryz.zeroValue163
  t76 := Tryz.underlying167
  a76 := Tryz.isAgg167
  z76 := Tryz.sizeOf167
  v76 := Tryz.zeroValue167
  t77 := Tryz.underlying168
  a77 := Tryz.isAgg168
  z77 := Tryz.sizeOf168
  v77 := Tryz.zeroValue168 }
end Go.Proofs
