/- What the project's order of package dag, and the function that it sorts by, return: contracts. | Slices of ints in memory: read, cut, appended to; and what is put in at its place. No condition. | A contract of the library's, laid at this program: slices.SortFunc at numbers. -/
import Derived.Test.YtgmdhaepiclkcaaGreatDoorMapVJ3
import Derived.Test.YtgmdhaepiclkcaaGreatDoorCmAJ3
import Derived.Test.YtgmdhaepiclkcaaGreatDoorIdOJ7
import Derived.Test.YtgmdhaepiclkcaaGreatDoorRowGJ15
import Derived.Shelf.SlLaysF
import Derived.Test.YtgmdhaepiclkcaaGreatDoorProg
namespace Go.Proofs.YtgmdhaepiclkcaaGreatDoor.DhO
set_option maxRecDepth 100000
open Go Go.Sort Go.RowKit Byt IdM IdW OpsM OpsW CmM StW CmW CmX CmY DgM DgW
def gN (l : List Cv) (i : Nat) : Int := ((l[i]?).map (·.c.gen)).getD 0
def cfN (l : List Cv) (own : List Idn) (i j : Nat) : Int :=
 if gN l i = gN l j then (if less (own.getD i nought) (own.getD j nought) then -1 else if less (own.getD j nought) (own.getD i nought) then 1 else 0) else if gN l i < gN l j then -1 else 1
theorem compare_ret (x y : Int) (w : World) : Calls Tryz.prog 117 #[.int .i64 x, .int .i64 y] w fun e w' => e = .returned (.int .i64 (if x < y then -1 else if y < x then 1 else 0)) ∧ w' = w := by
 rcases (by omega : x < y ∨ (¬ x < y ∧ y < x) ∨ (¬ x < y ∧ ¬ y < x)) with p | ⟨p, q⟩ | ⟨p, q⟩
 · rw [if_pos p]
   go_enter Tryz.func117, Tryz.ntmps117
   go_wp2
   go_ret
   exact ⟨rfl, rfl⟩
 · rw [if_neg p, if_pos q]
   go_enter Tryz.func117, Tryz.ntmps117
   go_wp2
   go_ret
   exact ⟨rfl, rfl⟩
 · rw [if_neg p, if_neg q]
   go_enter Tryz.func117, Tryz.ntmps117
   go_wp2
   go_ret
   exact ⟨rfl, rfl⟩
structure Env (w : World) (g0 g1 : Nat) (A A' : Option Addr) (cap cap' : Nat) (l : List Cv) (own : List Idn) : Prop where
 c0 : ∃ t, w.heap[g0]? = some (.cells #[.slice A l.length cap] t (0, 0))
 c1 : ∃ t, w.heap[g1]? = some (.cells #[.slice A' own.length cap'] t (0, 0))
 row : SlK w A cap l
 ids : SlI w A' cap' own
theorem Env.below {w w' : World} {g0 g1 : Nat} {A A' : Option Addr} {cap cap' : Nat} {l : List Cv} {own : List Idn} (h : Env w g0 g1 A A' cap cap' l own) (hb : Below w.heap.size w w') : Env w' g0 g1 A A' cap cap' l own := by
 obtain ⟨t0, h0⟩ := h.c0
 obtain ⟨t1, h1⟩ := h.c1
 exact ⟨⟨t0, by rw [hb.block g0 (Array.getElem?_eq_some_iff.1 h0).1, h0]⟩, ⟨t1, by rw [hb.block g1 (Array.getElem?_eq_some_iff.1 h1).1, h1]⟩, h.row.below hb, h.ids.below hb⟩
theorem cell_row {w : World} {g : Nat} {v : Value} (h : ∃ t, w.heap[g]? = some (.cells #[v] t (0, 0))) : w.cell? ⟨g, 0, none⟩ = some v := by
 obtain ⟨t, h⟩ := h
 rw [cell_of_row w g 0 _ t (0, 0) h]
 rfl
theorem Env.l0 {w : World} {g0 g1 : Nat} {A A' : Option Addr} {cap cap' : Nat} {l : List Cv} {own : List Idn} (h : Env w g0 g1 A A' cap cap' l own) : w.cell? ⟨g0, 0, none⟩ = some (.slice A l.length cap) := cell_row h.c0
theorem Env.l1 {w : World} {g0 g1 : Nat} {A A' : Option Addr} {cap cap' : Nat} {l : List Cv} {own : List Idn} (h : Env w g0 g1 A A' cap cap' l own) : w.cell? ⟨g1, 0, none⟩ = some (.slice A' own.length cap') := cell_row h.c1
theorem gen_cell {w : World} {b off i : Nat} {x : Cv} (h : w.rangeAt b (off + i * 8) (cc x).toList) : w.cell? ⟨b, off + i * 8 + 2, none⟩ = some (.int .i64 x.c.gen) := h 2 _ rfl
set_option maxRecDepth 100000 in
set_option maxHeartbeats 16000000 in
theorem cmp_ret (g0 g1 : Nat) (A A' : Option Addr) (cap cap' : Nat) (l : List Cv) (own : List Idn) (i j : Nat) (hi : i < l.length) (hj : j < l.length) (ho : own.length = l.length) (w : World) (E : Env w g0 g1 A A' cap cap' l own) :
   Calls Tryz.prog 116 #[.int .i64 i, .int .i64 j, .pointer (some ⟨g0, 0, none⟩), .pointer (some ⟨g1, 0, none⟩)] w fun e w' => e = .returned (.int .i64 (cfN l own i j)) ∧ Grew w w' := by
 have hmax := E.row.len
 obtain ⟨b, off, rfl, hbw, hr⟩ := E.row.plain (by omega)
 obtain ⟨b', off', rfl, hbw', hr'⟩ := SlI.plain E.ids (by omega)
 obtain ⟨x, hx⟩ : ∃ x, l[i]? = some x := ⟨_, List.getElem?_eq_getElem hi⟩
 obtain ⟨y, hy⟩ : ∃ y, l[j]? = some y := ⟨_, List.getElem?_eq_getElem hj⟩
 have rx := hr i x hx
 have ry := hr j y hy
 have sx := hr' i (by omega)
 have sy := hr' j (by omega)
 obtain ⟨ix, hix⟩ : ∃ ix, own.getD i nought = ix := ⟨_, rfl⟩
 obtain ⟨iy, hiy⟩ : ∃ iy, own.getD j nought = iy := ⟨_, rfl⟩
 obtain ⟨m, hm⟩ : ∃ m, x.c.gen = m := ⟨_, rfl⟩
 obtain ⟨n, hn⟩ : ∃ n, y.c.gen = n := ⟨_, rfl⟩
 have HR : Hid (cfN l own i j = if m = n then (if less ix iy then -1 else if less iy ix then 1 else 0) else if m < n then -1 else 1) := aside (by
   unfold cfN gN
   rw [hx, hy, hix, hiy, ← hm, ← hn]
   rfl)
 have c0 := E.l0
 have HX : Hid (∀ W, Below w.heap.size w W → W.cell? ⟨b, off + i * 8 + 2, none⟩ = some (.int .i64 m)) := aside (fun W hb => by rw [← hm]; exact gen_cell (range_on rx hb))
 have HY : Hid (∀ W, Below w.heap.size w W → W.cell? ⟨b, off + j * 8 + 2, none⟩ = some (.int .i64 n)) := aside (fun W hb => by rw [← hn]; exact gen_cell (range_on ry hb))
 have cx := gen_cell rx
 have cy := gen_cell ry
 rw [hm] at cx
 rw [hn] at cy
 rw [hix] at sx
 rw [hiy] at sy
 have p0 : (i : Int) < l.length := by omega
 have p1 : (j : Int) < l.length := by omega
 have q0 : (i : Int) < own.length := by omega
 have q1 : (j : Int) < own.length := by omega
 have m0 : ((i : Int)).toNat = i := by omega
 have m1 : ((j : Int)).toNat = j := by omega
 obtain ⟨r, hr0⟩ : ∃ r, cfN l own i j = r := ⟨_, rfl⟩
 rw [hr0] at HR ⊢
 clear hr hr' hx hy hix hiy hm hn rx ry hr0
 by_cases hmn : m = n
 · have t0 : (m != n) = false := by simpa using hmn
   cases h1 : less ix iy with
   | true =>
     have HV : Hid (r = -1) := aside (by rw [HR.out, if_pos hmn, h1]; rfl)
     clear hmn HR
     go_enter Tryz.func116, Tryz.ntmps116
     go_wp2_with (first | go_skip)
     go_quiet (fail)
     go_wp2_with (first | go_skip)
     have G1 : Grew w (w.drewN nq) := (Grew.refl w).drewN nq
     generalize w.drewN nq = W1 at G1 ⊢
     clear c0 cx cy
     refine Grow.region [(0, true), (1, true), (2, true), (3, true), (4, true), (5, true), (6, true), (7, true), (8, false), (9, true)] (by kernel_rfl) (by kernel_rfl) rfl (by kernel_rfl) (by intro c a d v w h; cases d <;> exact h) ?_
     have G2 : Grew w W1.drew := G1.drew
     generalize W1.drew = wz at G2 ⊢
     clear G1
     have E2 := E.below G2.below
     have d1 := Grow.grown (w := wz) (fun u hu => (E2.below hu).l1)
     have zx := IdW.range_below sx G2.below
     have zy := IdW.range_below sy G2.below
     repeat (first | (refine Grow.reads rfl rfl ?_; go_big_quiet_want; refine CmA.quiet_id _ rfl _ _ rfl ix zx ?_; go_big_quiet_on; refine wpQuiet_nil ?_; (try simp only [Act.put, List.setIfInBounds_toArray, List.set_cons_succ, List.set_cons_zero])) | (refine Grow.reads rfl rfl ?_; go_big_quiet_want; refine CmA.quiet_id _ rfl _ _ rfl iy zy ?_; go_big_quiet_on; refine wpQuiet_nil ?_; (try simp only [Act.put, List.setIfInBounds_toArray, List.set_cons_succ, List.set_cons_zero])) | (refine Grow.reads rfl rfl ?_; go_big_quiet_step (fail); refine wpQuiet_nil ?_))
     refine Grow.acts rfl ?_
     go_wp2_with (first | go_skip)
     have qs := IdC.less_ret ix iy wz
     rw [h1] at qs
     refine qs.mono ?_
     clear qs
     rintro e w3 ⟨rfl, g3⟩
     go_wp2_with (first | go_skip)
     refine ⟨g3.below, ?_⟩
     have G1 := G2.trans g3
     clear G2 g3 E2 d1 zx zy
     (try simp only [Act.put, List.setIfInBounds_toArray, List.set_cons_succ, List.set_cons_zero])
     repeat (refine Grow.reads rfl rfl ?_; go_big_quiet_step (fail); refine wpQuiet_nil ?_)
     refine Grow.ends ?_
     go_wp2_with (first | go_skip)
     go_ret
     exact ⟨by rw [HV.out]; rfl, G1⟩
   | false =>
     cases h2 : less iy ix with
     | true =>
       have HV : Hid (r = 1) := aside (by rw [HR.out, if_pos hmn, h1, h2]; rfl)
       clear hmn HR
       go_enter Tryz.func116, Tryz.ntmps116
       go_wp2_with (first | go_skip)
       go_quiet (fail)
       go_wp2_with (first | go_skip)
       have G1 : Grew w (w.drewN nq) := (Grew.refl w).drewN nq
       generalize w.drewN nq = W1 at G1 ⊢
       clear c0 cx cy
       refine Grow.region [(0, true), (1, true), (2, true), (3, true), (4, true), (5, true), (6, true), (7, true), (8, false), (9, true)] (by kernel_rfl) (by kernel_rfl) rfl (by kernel_rfl) (by intro c a d v w h; cases d <;> exact h) ?_
       have G2 : Grew w W1.drew := G1.drew
       generalize W1.drew = wz at G2 ⊢
       clear G1
       have E2 := E.below G2.below
       have d1 := Grow.grown (w := wz) (fun u hu => (E2.below hu).l1)
       have zx := IdW.range_below sx G2.below
       have zy := IdW.range_below sy G2.below
       repeat (first | (refine Grow.reads rfl rfl ?_; go_big_quiet_want; refine CmA.quiet_id _ rfl _ _ rfl ix zx ?_; go_big_quiet_on; refine wpQuiet_nil ?_; (try simp only [Act.put, List.setIfInBounds_toArray, List.set_cons_succ, List.set_cons_zero])) | (refine Grow.reads rfl rfl ?_; go_big_quiet_want; refine CmA.quiet_id _ rfl _ _ rfl iy zy ?_; go_big_quiet_on; refine wpQuiet_nil ?_; (try simp only [Act.put, List.setIfInBounds_toArray, List.set_cons_succ, List.set_cons_zero])) | (refine Grow.reads rfl rfl ?_; go_big_quiet_step (fail); refine wpQuiet_nil ?_))
       refine Grow.acts rfl ?_
       go_wp2_with (first | go_skip)
       have qs := IdC.less_ret ix iy wz
       rw [h1] at qs
       refine qs.mono ?_
       clear qs
       rintro e w3 ⟨rfl, g3⟩
       go_wp2_with (first | go_skip)
       refine ⟨g3.below, ?_⟩
       have G1 := G2.trans g3
       clear G2 g3 E2 d1 zx zy
       (try simp only [Act.put, List.setIfInBounds_toArray, List.set_cons_succ, List.set_cons_zero])
       repeat (refine Grow.reads rfl rfl ?_; go_big_quiet_step (fail); refine wpQuiet_nil ?_)
       refine Grow.ends ?_
       go_wp2_with (first | go_skip)
       refine Grow.region [(0, true), (1, true), (2, true), (3, true), (4, true), (5, true), (6, true), (7, true), (8, false), (9, true)] (by kernel_rfl) (by kernel_rfl) rfl (by kernel_rfl) (by intro c a d v w h; cases d <;> exact h) ?_
       have G2 : Grew w w3.drew := G1.drew
       generalize w3.drew = wz at G2 ⊢
       clear G1
       have E2 := E.below G2.below
       have d1 := Grow.grown (w := wz) (fun u hu => (E2.below hu).l1)
       have zx := IdW.range_below sx G2.below
       have zy := IdW.range_below sy G2.below
       repeat (first | (refine Grow.reads rfl rfl ?_; go_big_quiet_want; refine CmA.quiet_id _ rfl _ _ rfl ix zx ?_; go_big_quiet_on; refine wpQuiet_nil ?_; (try simp only [Act.put, List.setIfInBounds_toArray, List.set_cons_succ, List.set_cons_zero])) | (refine Grow.reads rfl rfl ?_; go_big_quiet_want; refine CmA.quiet_id _ rfl _ _ rfl iy zy ?_; go_big_quiet_on; refine wpQuiet_nil ?_; (try simp only [Act.put, List.setIfInBounds_toArray, List.set_cons_succ, List.set_cons_zero])) | (refine Grow.reads rfl rfl ?_; go_big_quiet_step (fail); refine wpQuiet_nil ?_))
       refine Grow.acts rfl ?_
       go_wp2_with (first | go_skip)
       have qs := IdC.less_ret iy ix wz
       rw [h2] at qs
       refine qs.mono ?_
       clear qs
       rintro e w4 ⟨rfl, g3⟩
       go_wp2_with (first | go_skip)
       refine ⟨g3.below, ?_⟩
       have G1 := G2.trans g3
       clear G2 g3 E2 d1 zx zy
       (try simp only [Act.put, List.setIfInBounds_toArray, List.set_cons_succ, List.set_cons_zero])
       repeat (refine Grow.reads rfl rfl ?_; go_big_quiet_step (fail); refine wpQuiet_nil ?_)
       refine Grow.ends ?_
       go_wp2_with (first | go_skip)
       go_ret
       exact ⟨by rw [HV.out]; rfl, G1⟩
     | false =>
       have HV : Hid (r = 0) := aside (by rw [HR.out, if_pos hmn, h1, h2]; rfl)
       clear hmn HR
       go_enter Tryz.func116, Tryz.ntmps116
       go_wp2_with (first | go_skip)
       go_quiet (fail)
       go_wp2_with (first | go_skip)
       have G1 : Grew w (w.drewN nq) := (Grew.refl w).drewN nq
       generalize w.drewN nq = W1 at G1 ⊢
       clear c0 cx cy
       refine Grow.region [(0, true), (1, true), (2, true), (3, true), (4, true), (5, true), (6, true), (7, true), (8, false), (9, true)] (by kernel_rfl) (by kernel_rfl) rfl (by kernel_rfl) (by intro c a d v w h; cases d <;> exact h) ?_
       have G2 : Grew w W1.drew := G1.drew
       generalize W1.drew = wz at G2 ⊢
       clear G1
       have E2 := E.below G2.below
       have d1 := Grow.grown (w := wz) (fun u hu => (E2.below hu).l1)
       have zx := IdW.range_below sx G2.below
       have zy := IdW.range_below sy G2.below
       repeat (first | (refine Grow.reads rfl rfl ?_; go_big_quiet_want; refine CmA.quiet_id _ rfl _ _ rfl ix zx ?_; go_big_quiet_on; refine wpQuiet_nil ?_; (try simp only [Act.put, List.setIfInBounds_toArray, List.set_cons_succ, List.set_cons_zero])) | (refine Grow.reads rfl rfl ?_; go_big_quiet_want; refine CmA.quiet_id _ rfl _ _ rfl iy zy ?_; go_big_quiet_on; refine wpQuiet_nil ?_; (try simp only [Act.put, List.setIfInBounds_toArray, List.set_cons_succ, List.set_cons_zero])) | (refine Grow.reads rfl rfl ?_; go_big_quiet_step (fail); refine wpQuiet_nil ?_))
       refine Grow.acts rfl ?_
       go_wp2_with (first | go_skip)
       have qs := IdC.less_ret ix iy wz
       rw [h1] at qs
       refine qs.mono ?_
       clear qs
       rintro e w3 ⟨rfl, g3⟩
       go_wp2_with (first | go_skip)
       refine ⟨g3.below, ?_⟩
       have G1 := G2.trans g3
       clear G2 g3 E2 d1 zx zy
       (try simp only [Act.put, List.setIfInBounds_toArray, List.set_cons_succ, List.set_cons_zero])
       repeat (refine Grow.reads rfl rfl ?_; go_big_quiet_step (fail); refine wpQuiet_nil ?_)
       refine Grow.ends ?_
       go_wp2_with (first | go_skip)
       refine Grow.region [(0, true), (1, true), (2, true), (3, true), (4, true), (5, true), (6, true), (7, true), (8, false), (9, true)] (by kernel_rfl) (by kernel_rfl) rfl (by kernel_rfl) (by intro c a d v w h; cases d <;> exact h) ?_
       have G2 : Grew w w3.drew := G1.drew
       generalize w3.drew = wz at G2 ⊢
       clear G1
       have E2 := E.below G2.below
       have d1 := Grow.grown (w := wz) (fun u hu => (E2.below hu).l1)
       have zx := IdW.range_below sx G2.below
       have zy := IdW.range_below sy G2.below
       repeat (first | (refine Grow.reads rfl rfl ?_; go_big_quiet_want; refine CmA.quiet_id _ rfl _ _ rfl ix zx ?_; go_big_quiet_on; refine wpQuiet_nil ?_; (try simp only [Act.put, List.setIfInBounds_toArray, List.set_cons_succ, List.set_cons_zero])) | (refine Grow.reads rfl rfl ?_; go_big_quiet_want; refine CmA.quiet_id _ rfl _ _ rfl iy zy ?_; go_big_quiet_on; refine wpQuiet_nil ?_; (try simp only [Act.put, List.setIfInBounds_toArray, List.set_cons_succ, List.set_cons_zero])) | (refine Grow.reads rfl rfl ?_; go_big_quiet_step (fail); refine wpQuiet_nil ?_))
       refine Grow.acts rfl ?_
       go_wp2_with (first | go_skip)
       have qs := IdC.less_ret iy ix wz
       rw [h2] at qs
       refine qs.mono ?_
       clear qs
       rintro e w4 ⟨rfl, g3⟩
       go_wp2_with (first | go_skip)
       refine ⟨g3.below, ?_⟩
       have G1 := G2.trans g3
       clear G2 g3 E2 d1 zx zy
       (try simp only [Act.put, List.setIfInBounds_toArray, List.set_cons_succ, List.set_cons_zero])
       repeat (refine Grow.reads rfl rfl ?_; go_big_quiet_step (fail); refine wpQuiet_nil ?_)
       refine Grow.ends ?_
       go_wp2_with (first | go_skip)
       go_ret
       exact ⟨by rw [HV.out]; rfl, G1⟩
 · have t0 : (m != n) = true := by simpa using hmn
   have HV : Hid (r = if m < n then -1 else if n < m then 1 else 0) := aside (by
     rw [HR.out, if_neg hmn]
     by_cases h : m < n
     · rw [if_pos h, if_pos h]
     · rw [if_neg h, if_neg h, if_pos (by omega)])
   clear hmn HR
   go_enter Tryz.func116, Tryz.ntmps116
   go_wp2_with (first | go_skip)
   go_quiet (fail)
   go_wp2_with (first | go_skip)
   have G1 : Grew w (w.drewN nq) := (Grew.refl w).drewN nq
   generalize w.drewN nq = W1 at G1 ⊢
   clear c0 cx cy
   refine Grow.region [(0, true), (1, true), (2, true), (3, true), (4, true), (5, true), (6, true), (7, true), (8, true), (9, true), (10, false), (11, true)] (by kernel_rfl) (by kernel_rfl) rfl (by kernel_rfl) (by intro c a d v w h; cases d <;> exact h) ?_
   have G2 : Grew w W1.drew := G1.drew
   generalize W1.drew = wz at G2 ⊢
   clear G1
   have E2 := E.below G2.below
   have d0 := Grow.grown (w := wz) (fun u hu => (E2.below hu).l0)
   have dx := Grow.grown (w := wz) (fun u hu => HX.out u (G2.below.trans (hu.mono G2.below.size)))
   have dy := Grow.grown (w := wz) (fun u hu => HY.out u (G2.below.trans (hu.mono G2.below.size)))
   repeat (refine Grow.reads rfl rfl ?_; go_big_quiet_step (fail); refine wpQuiet_nil ?_)
   refine Grow.acts rfl ?_
   go_wp2_with (first | go_skip)
   have qs := compare_ret m n wz
   rw [← HV.out] at qs
   refine qs.mono ?_
   clear qs
   rintro e w3 ⟨rfl, rfl⟩
   go_wp2_with (first | go_skip)
   refine ⟨Below.refl _ _, ?_⟩
   (try simp only [Act.put, List.setIfInBounds_toArray, List.set_cons_succ, List.set_cons_zero])
   repeat (refine Grow.reads rfl rfl ?_; go_big_quiet_step (fail); refine wpQuiet_nil ?_)
   refine Grow.ends ?_
   go_wp2_with (first | go_skip)
   go_ret
   exact ⟨rfl, G2⟩
end Go.Proofs.YtgmdhaepiclkcaaGreatDoor.DhO
namespace Go.Proofs.YtgmdhaepiclkcaaGreatDoor.DgI
set_option maxRecDepth 100000
open Go Go.Sort Go.RowKit Byt IdM IdW OpsM OpsW CmM StW CmW
def nv (l : List Nat) : List Value := l.map fun (n : Nat) => Value.int .i64 n
theorem nv_length (l : List Nat) : (nv l).length = l.length := List.length_map ..
theorem nv_at {l : List Nat} {i n : Nat} (h : l[i]? = some n) : (nv l)[i]? = some (.int .i64 n) := by
 unfold nv
 rw [List.getElem?_map, h]
 rfl
def SlN (w : World) (A : Option Addr) (cap : Nat) (l : List Nat) : Prop :=
 l.length ≤ cap ∧ cap ≤ maxLen ∧ ((A = none ∧ l = [] ∧ cap = 0) ∨ ∃ x, A = some x ∧ ∀ i v, (nv l)[i]? = some v → w.cell? (x.add i) = some v)
theorem SlN.nil (w : World) : SlN w none 0 [] := ⟨Nat.le_refl _, Nat.zero_le _, .inl ⟨rfl, rfl, rfl⟩⟩
theorem SlN.own {w : World} {base n : Nat} {v : Value} {l : List Nat} (h : w.ownsRow base 3 1 v n (nv l)) : ∃ A cap, v = .slice A l.length cap ∧ SlN w A cap l := by
 have hn : l.length = n := by
   have := h.1
   rw [nv_length] at this
   omega
 rcases h.2 with ⟨rfl, rfl⟩ | ⟨g, cap, cur, rfl, hbg, hg, h1, h2, h3, h4⟩
 · have : l = [] := List.eq_nil_of_length_eq_zero hn
   subst this
   exact ⟨none, 0, rfl, SlN.nil w⟩
 · refine ⟨some ⟨g, 0, none⟩, cap, by rw [hn], by omega, h2, .inr ⟨_, rfl, fun i u hu => ?_⟩⟩
   exact h.cells rfl i u hu
theorem SlN.part {w : World} {A : Option Addr} {cap : Nat} {l : List Nat} (h : SlN w A cap l) (i j : Nat) (hij : i ≤ j) (hj : j ≤ l.length) :
   ∃ A' cap', sliced A i j cap 1 = .slice A' (j - i) cap' ∧ SlN w A' cap' ((l.drop i).take (j - i)) ∧ ((l.drop i).take (j - i)).length = j - i := by
 obtain ⟨h1, h2, h5⟩ := h
 have hl : ((l.drop i).take (j - i)).length = j - i := by simp; omega
 rcases h5 with ⟨rfl, rfl, rfl⟩ | ⟨x, rfl, hc⟩
 · simp at hj
   obtain rfl : j = 0 := hj
   obtain rfl : i = 0 := by omega
   exact ⟨none, 0, by simp [sliced], by simpa using SlN.nil w, hl⟩
 · by_cases hci : cap = i
   · refine ⟨some x, cap - i, by simp [sliced, hci], ⟨by rw [hl]; omega, by omega, .inr ⟨x, rfl, fun m v hv => ?_⟩⟩, hl⟩
     have := (List.getElem?_eq_some_iff.1 hv).1
     rw [nv_length, hl] at this
     omega
   · refine ⟨some (x.add (i * 1)), cap - i, by simp [sliced, hci], ⟨by rw [hl]; omega, by omega, .inr ⟨_, rfl, fun m v hv => ?_⟩⟩, hl⟩
     rw [Addr.add_add]
     apply hc
     have hm := (List.getElem?_eq_some_iff.1 hv).1
     rw [nv_length, hl] at hm
     unfold nv at hv ⊢
     rw [List.getElem?_map, List.getElem?_take, if_pos (by omega), List.getElem?_drop] at hv
     rw [List.getElem?_map, Nat.mul_one]
     exact hv
theorem info_int : (Tryz.prog.info? 3).map (fun i => (i.zero, i.size, i.bytes)) = some (some (.int .i64 0), 1, 8) := by kernel_rfl
end Go.Proofs.YtgmdhaepiclkcaaGreatDoor.DgI
namespace Go.Proofs
set_option maxRecDepth 100000
open Go.Shelf
def Tryz.sortInts_ren : Go.Shelf.Ren := ⟨fun | 6 => 115 | 15 => 151 | 14 => 150 | 28 => 184 | 29 => 185 | 47 => 220 | 48 => 221 | 20 => 176 | 21 => 177 | 22 => 178 | 23 => 179 | 24 => 180 | 25 => 181 | 26 => 182 | 27 => 183 | 46 => 219 | 49 => 222 | 50 => 223 | 57 => 240 | n => n, fun | 22 => 106 | 24 => 3 | 25 => 154 | 3 => 3 | 39 => 184 | 0 => 0 | 53 => 161 | 55 => 157 | 4 => 4 | 46 => 203 | 45 => 202 | 50 => 207 | 5 => 5 | 9 => 9 | 66 => 229 | 70 => 233 | 76 => 245 | 77 => 246 | n => n, fun | n => n⟩
theorem Tryz.sortInts : Go.Proofs.SlLaysF.n6 Tryz.prog Tryz.sortInts_ren := {
 mixed := by kernel_rfl
 f6 := ⟨Tryz.f115.name, by decide, Tryz.func115.trans (congrArg some (by kernel_rfl))⟩
 f14 := ⟨Tryz.f150.name, by decide, Tryz.func150.trans (congrArg some (by kernel_rfl))⟩
 f15 := Tryz.func151.trans (congrArg some (by kernel_rfl))
 f20 := ⟨Tryz.f176.name, by decide, Tryz.func176.trans (congrArg some (by kernel_rfl))⟩
 f21 := ⟨Tryz.f177.name, by decide, Tryz.func177.trans (congrArg some (by kernel_rfl))⟩
 f22 := ⟨Tryz.f178.name, by decide, Tryz.func178.trans (congrArg some (by kernel_rfl))⟩
 f23 := ⟨Tryz.f179.name, by decide, Tryz.func179.trans (congrArg some (by kernel_rfl))⟩
 f24 := ⟨Tryz.f180.name, by decide, Tryz.func180.trans (congrArg some (by kernel_rfl))⟩
 f25 := ⟨Tryz.f181.name, by decide, Tryz.func181.trans (congrArg some (by kernel_rfl))⟩
 f26 := ⟨Tryz.f182.name, by decide, Tryz.func182.trans (congrArg some (by kernel_rfl))⟩
 f27 := ⟨Tryz.f183.name, by decide, Tryz.func183.trans (congrArg some (by kernel_rfl))⟩
 f28 := Tryz.func184.trans (congrArg some (by kernel_rfl))
 f29 := Tryz.func185.trans (congrArg some (by kernel_rfl))
 f46 := ⟨Tryz.f219.name, by decide, Tryz.func219.trans (congrArg some (by kernel_rfl))⟩
 f47 := Tryz.func220.trans (congrArg some (by kernel_rfl))
 f48 := Tryz.func221.trans (congrArg some (by kernel_rfl))
 f49 := ⟨Tryz.f222.name, by decide, Tryz.func222.trans (congrArg some (by kernel_rfl))⟩
 f50 := ⟨Tryz.f223.name, by decide, Tryz.func223.trans (congrArg some (by kernel_rfl))⟩
 f57 := ⟨Tryz.f240.name, by decide, Tryz.func240.trans (congrArg some (by kernel_rfl))⟩
 t0 := Tryz.underlying0
 a0 := Tryz.isAgg0
 z0 := Tryz.sizeOf0
 v0 := Tryz.zeroValue0
 t3 := Tryz.underlying3
 a3 := Tryz.isAgg3
 z3 := Tryz.sizeOf3
 v3 := Tryz.zeroValue3
 t4 := Tryz.underlying4
 a4 := Tryz.isAgg4
 z4 := Tryz.sizeOf4
 v4 := Tryz.zeroValue4
 t5 := Tryz.underlying5
 a5 := Tryz.isAgg5
 z5 := Tryz.sizeOf5
 v5 := Tryz.zeroValue5
 t9 := Tryz.underlying9
 a9 := Tryz.isAgg9
 z9 := Tryz.sizeOf9
 v9 := Tryz.zeroValue9
 t22 := Tryz.underlying106
 a22 := Tryz.isAgg106
 z22 := Tryz.sizeOf106
 v22 := Tryz.zeroValue106
 a24 := Tryz.isAgg3
 z24 := Tryz.sizeOf3
 t25 := Tryz.underlying154
 a25 := Tryz.isAgg154
 z25 := Tryz.sizeOf154
 v25 := Tryz.zeroValue154
 t39 := Tryz.underlying184
 a39 := Tryz.isAgg184
 z39 := Tryz.sizeOf184
 v39 := Tryz.zeroValue184
 t45 := Tryz.underlying202
 a45 := Tryz.isAgg202
 z45 := Tryz.sizeOf202
 v45 := Tryz.zeroValue202
 t46 := Tryz.underlying203
 a46 := Tryz.isAgg203
 z46 := Tryz.sizeOf203
 v46 := Tryz.zeroValue203
 t50 := Tryz.underlying207
 a50 := Tryz.isAgg207
 z50 := Tryz.sizeOf207
 v50 := Tryz.zeroValue207
 t53 := Tryz.underlying161
 a53 := Tryz.isAgg161
 z53 := Tryz.sizeOf161
 v53 := Tryz.zeroValue161
 t55 := Tryz.underlying157
 a55 := Tryz.isAgg157
 z55 := Tryz.sizeOf157
 v55 := Tryz.zeroValue157
 t66 := Tryz.underlying229
 a66 := Tryz.isAgg229
 z66 := Tryz.sizeOf229
 v66 := Tryz.zeroValue229
 t70 := Tryz.underlying233
 a70 := Tryz.isAgg233
 z70 := Tryz.sizeOf233
 v70 := Tryz.zeroValue233
 t76 := Tryz.underlying245
 a76 := Tryz.isAgg245
 z76 := Tryz.sizeOf245
 v76 := Tryz.zeroValue245
 t77 := Tryz.underlying246
 a77 := Tryz.isAgg246
 z77 := Tryz.sizeOf246
 v77 := Tryz.zeroValue246 }
end Go.Proofs
