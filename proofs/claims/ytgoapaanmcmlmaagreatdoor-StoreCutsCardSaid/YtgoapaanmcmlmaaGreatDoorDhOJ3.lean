/- What the project's order of package dag, and the function that it sorts by, return: contracts. | A contract of the library's, laid at this program: slices.SortFunc at numbers. | What the project's order of package dag returns: a contract. -/
import Derived.Test.YtgoapaanmcmlmaaGreatDoorIdKJ3
import Derived.Test.YtgoapaanmcmlmaaGreatDoorCmTJ2
import Derived.Test.YtgoapaanmcmlmaaGreatDoorEvRJ5
import Derived.Shelf.SlLaysF
import Derived.Test.YtgoapaanmcmlmaaGreatDoorProg
import Derived.Test.YtgoapaanmcmlmaaGreatDoorIdXJ10
import Derived.Test.YtgoapaanmcmlmaaGreatDoorRotMJ9
import Derived.Shelf.SlSortCmp.NoneTotal
namespace Go.Proofs.YtgoapaanmcmlmaaGreatDoor.DhO
set_option maxRecDepth 100000
open Go Go.Sort Go.RowKit Byt IdM IdW OpsM OpsW CmM StW CmW CmX CmY DgM DgW
def gN (l : List Cv) (i : Nat) : Int := ((l[i]?).map (·.c.gen)).getD 0
def cfN (l : List Cv) (own : List Idn) (i j : Nat) : Int :=
 if gN l i = gN l j then (if less (own.getD i nought) (own.getD j nought) then -1 else if less (own.getD j nought) (own.getD i nought) then 1 else 0) else if gN l i < gN l j then -1 else 1
theorem compare_ret (x y : Int) (w : World) : Calls Tryz.prog 77 #[.int .i64 x, .int .i64 y] w fun e w' => e = .returned (.int .i64 (if x < y then -1 else if y < x then 1 else 0)) ∧ w' = w := by
 rcases (by omega : x < y ∨ (¬ x < y ∧ y < x) ∨ (¬ x < y ∧ ¬ y < x)) with p | ⟨p, q⟩ | ⟨p, q⟩
 · rw [if_pos p]
   go_enter Tryz.func77, Tryz.ntmps77
   go_wp2
   go_ret
   exact ⟨rfl, rfl⟩
 · rw [if_neg p, if_pos q]
   go_enter Tryz.func77, Tryz.ntmps77
   go_wp2
   go_ret
   exact ⟨rfl, rfl⟩
 · rw [if_neg p, if_neg q]
   go_enter Tryz.func77, Tryz.ntmps77
   go_wp2
   go_ret
   exact ⟨rfl, rfl⟩
structure Env (w : World) (g0 g1 : Nat) (A A' : Option Addr) (cap cap' : Nat) (l : List Cv) (own : List Idn) : Prop where
 c0 : ∃ t, w.heap[g0]? = some (.cells #[.slice A l.length cap] t (0, 0))
 c1 : ∃ t, w.heap[g1]? = some (.cells #[.slice A' own.length cap'] t (0, 0))
 row : SlK w A cap l
 ids : SlI w A' cap' own
theorem Env.below {w w' : World} {g0 g1 : Nat} {A A' : Option Addr} {cap cap' : Nat} {l : List Cv} {own : List Idn} (h : Env w g0 g1 A A' cap cap' l own) (hb : Below w.heap.size w w') : Env w' g0 g1 A A' cap cap' l own := by
 obtain ⟨t0, h0⟩ := h.c0
 obtain ⟨t1, h1⟩ := h.c1
 exact ⟨⟨t0, by rw [hb.block g0 (Array.getElem?_eq_some_iff.1 h0).1, h0]⟩, ⟨t1, by rw [hb.block g1 (Array.getElem?_eq_some_iff.1 h1).1, h1]⟩, h.row.below hb, h.ids.below hb⟩
theorem cell_row {w : World} {g : Nat} {v : Value} (h : ∃ t, w.heap[g]? = some (.cells #[v] t (0, 0))) : w.cell? ⟨g, 0, none⟩ = some v := by
 obtain ⟨t, h⟩ := h
 rw [cell_of_row w g 0 _ t (0, 0) h]
 rfl
theorem Env.l0 {w : World} {g0 g1 : Nat} {A A' : Option Addr} {cap cap' : Nat} {l : List Cv} {own : List Idn} (h : Env w g0 g1 A A' cap cap' l own) : w.cell? ⟨g0, 0, none⟩ = some (.slice A l.length cap) := cell_row h.c0
theorem Env.l1 {w : World} {g0 g1 : Nat} {A A' : Option Addr} {cap cap' : Nat} {l : List Cv} {own : List Idn} (h : Env w g0 g1 A A' cap cap' l own) : w.cell? ⟨g1, 0, none⟩ = some (.slice A' own.length cap') := cell_row h.c1
theorem gen_cell {w : World} {b off i : Nat} {x : Cv} (h : w.rangeAt b (off + i * 8) (cc x).toList) : w.cell? ⟨b, off + i * 8 + 2, none⟩ = some (.int .i64 x.c.gen) := h 2 _ rfl
set_option maxRecDepth 100000 in
set_option maxHeartbeats 16000000 in
theorem cmp_ret (g0 g1 : Nat) (A A' : Option Addr) (cap cap' : Nat) (l : List Cv) (own : List Idn) (i j : Nat) (hi : i < l.length) (hj : j < l.length) (ho : own.length = l.length) (w : World) (E : Env w g0 g1 A A' cap cap' l own) :
   Calls Tryz.prog 76 #[.int .i64 i, .int .i64 j, .pointer (some ⟨g0, 0, none⟩), .pointer (some ⟨g1, 0, none⟩)] w fun e w' => e = .returned (.int .i64 (cfN l own i j)) ∧ Grew w w' := by
 have hmax := E.row.len
 obtain ⟨b, off, rfl, hbw, hr⟩ := E.row.plain (by omega)
 obtain ⟨b', off', rfl, hbw', hr'⟩ := SlI.plain E.ids (by omega)
 obtain ⟨x, hx⟩ : ∃ x, l[i]? = some x := ⟨_, List.getElem?_eq_getElem hi⟩
 obtain ⟨y, hy⟩ : ∃ y, l[j]? = some y := ⟨_, List.getElem?_eq_getElem hj⟩
 have rx := hr i x hx
 have ry := hr j y hy
 have sx := hr' i (by omega)
 have sy := hr' j (by omega)
 obtain ⟨ix, hix⟩ : ∃ ix, own.getD i nought = ix := ⟨_, rfl⟩
 obtain ⟨iy, hiy⟩ : ∃ iy, own.getD j nought = iy := ⟨_, rfl⟩
 obtain ⟨m, hm⟩ : ∃ m, x.c.gen = m := ⟨_, rfl⟩
 obtain ⟨n, hn⟩ : ∃ n, y.c.gen = n := ⟨_, rfl⟩
 have HR : Hid (cfN l own i j = if m = n then (if less ix iy then -1 else if less iy ix then 1 else 0) else if m < n then -1 else 1) := aside (by
   unfold cfN gN
   rw [hx, hy, hix, hiy, ← hm, ← hn]
   rfl)
 have c0 := E.l0
 have HX : Hid (∀ W, Below w.heap.size w W → W.cell? ⟨b, off + i * 8 + 2, none⟩ = some (.int .i64 m)) := aside (fun W hb => by rw [← hm]; exact gen_cell (range_on rx hb))
 have HY : Hid (∀ W, Below w.heap.size w W → W.cell? ⟨b, off + j * 8 + 2, none⟩ = some (.int .i64 n)) := aside (fun W hb => by rw [← hn]; exact gen_cell (range_on ry hb))
 have cx := gen_cell rx
 have cy := gen_cell ry
 rw [hm] at cx
 rw [hn] at cy
 rw [hix] at sx
 rw [hiy] at sy
 have p0 : (i : Int) < l.length := by omega
 have p1 : (j : Int) < l.length := by omega
 have q0 : (i : Int) < own.length := by omega
 have q1 : (j : Int) < own.length := by omega
 have m0 : ((i : Int)).toNat = i := by omega
 have m1 : ((j : Int)).toNat = j := by omega
 obtain ⟨r, hr0⟩ : ∃ r, cfN l own i j = r := ⟨_, rfl⟩
 rw [hr0] at HR ⊢
 clear hr hr' hx hy hix hiy hm hn rx ry hr0
 by_cases hmn : m = n
 · have t0 : (m != n) = false := by simpa using hmn
   cases h1 : less ix iy with
   | true =>
     have HV : Hid (r = -1) := aside (by rw [HR.out, if_pos hmn, h1]; rfl)
     clear hmn HR
     go_enter Tryz.func76, Tryz.ntmps76
     go_wp2_with (first | go_skip)
     go_quiet (fail)
     go_wp2_with (first | go_skip)
     have G1 : Grew w (w.drewN nq) := (Grew.refl w).drewN nq
     generalize w.drewN nq = W1 at G1 ⊢
     clear c0 cx cy
     refine Grow.region [(0, true), (1, true), (2, true), (3, true), (4, true), (5, true), (6, true), (7, true), (8, false), (9, true)] (by kernel_rfl) (by kernel_rfl) rfl (by kernel_rfl) (by intro c a d v w h; cases d <;> exact h) ?_
     have G2 : Grew w W1.drew := G1.drew
     generalize W1.drew = wz at G2 ⊢
     clear G1
     have E2 := E.below G2.below
     have d1 := Grow.grown (w := wz) (fun u hu => (E2.below hu).l1)
     have zx := IdW.range_below sx G2.below
     have zy := IdW.range_below sy G2.below
     repeat (first | (refine Grow.reads rfl rfl ?_; go_big_quiet_want; refine CmA.quiet_id _ rfl _ _ rfl ix zx ?_; go_big_quiet_on; refine wpQuiet_nil ?_; (try simp only [Act.put, List.setIfInBounds_toArray, List.set_cons_succ, List.set_cons_zero])) | (refine Grow.reads rfl rfl ?_; go_big_quiet_want; refine CmA.quiet_id _ rfl _ _ rfl iy zy ?_; go_big_quiet_on; refine wpQuiet_nil ?_; (try simp only [Act.put, List.setIfInBounds_toArray, List.set_cons_succ, List.set_cons_zero])) | (refine Grow.reads rfl rfl ?_; go_big_quiet_step (fail); refine wpQuiet_nil ?_))
     refine Grow.acts rfl ?_
     go_wp2_with (first | go_skip)
     have qs := IdC.less_ret ix iy wz
     rw [h1] at qs
     refine qs.mono ?_
     clear qs
     rintro e w3 ⟨rfl, g3⟩
     go_wp2_with (first | go_skip)
     refine ⟨g3.below, ?_⟩
     have G1 := G2.trans g3
     clear G2 g3 E2 d1 zx zy
     (try simp only [Act.put, List.setIfInBounds_toArray, List.set_cons_succ, List.set_cons_zero])
     repeat (refine Grow.reads rfl rfl ?_; go_big_quiet_step (fail); refine wpQuiet_nil ?_)
     refine Grow.ends ?_
     go_wp2_with (first | go_skip)
     go_ret
     exact ⟨by rw [HV.out]; rfl, G1⟩
   | false =>
     cases h2 : less iy ix with
     | true =>
       have HV : Hid (r = 1) := aside (by rw [HR.out, if_pos hmn, h1, h2]; rfl)
       clear hmn HR
       go_enter Tryz.func76, Tryz.ntmps76
       go_wp2_with (first | go_skip)
       go_quiet (fail)
       go_wp2_with (first | go_skip)
       have G1 : Grew w (w.drewN nq) := (Grew.refl w).drewN nq
       generalize w.drewN nq = W1 at G1 ⊢
       clear c0 cx cy
       refine Grow.region [(0, true), (1, true), (2, true), (3, true), (4, true), (5, true), (6, true), (7, true), (8, false), (9, true)] (by kernel_rfl) (by kernel_rfl) rfl (by kernel_rfl) (by intro c a d v w h; cases d <;> exact h) ?_
       have G2 : Grew w W1.drew := G1.drew
       generalize W1.drew = wz at G2 ⊢
       clear G1
       have E2 := E.below G2.below
       have d1 := Grow.grown (w := wz) (fun u hu => (E2.below hu).l1)
       have zx := IdW.range_below sx G2.below
       have zy := IdW.range_below sy G2.below
       repeat (first | (refine Grow.reads rfl rfl ?_; go_big_quiet_want; refine CmA.quiet_id _ rfl _ _ rfl ix zx ?_; go_big_quiet_on; refine wpQuiet_nil ?_; (try simp only [Act.put, List.setIfInBounds_toArray, List.set_cons_succ, List.set_cons_zero])) | (refine Grow.reads rfl rfl ?_; go_big_quiet_want; refine CmA.quiet_id _ rfl _ _ rfl iy zy ?_; go_big_quiet_on; refine wpQuiet_nil ?_; (try simp only [Act.put, List.setIfInBounds_toArray, List.set_cons_succ, List.set_cons_zero])) | (refine Grow.reads rfl rfl ?_; go_big_quiet_step (fail); refine wpQuiet_nil ?_))
       refine Grow.acts rfl ?_
       go_wp2_with (first | go_skip)
       have qs := IdC.less_ret ix iy wz
       rw [h1] at qs
       refine qs.mono ?_
       clear qs
       rintro e w3 ⟨rfl, g3⟩
       go_wp2_with (first | go_skip)
       refine ⟨g3.below, ?_⟩
       have G1 := G2.trans g3
       clear G2 g3 E2 d1 zx zy
       (try simp only [Act.put, List.setIfInBounds_toArray, List.set_cons_succ, List.set_cons_zero])
       repeat (refine Grow.reads rfl rfl ?_; go_big_quiet_step (fail); refine wpQuiet_nil ?_)
       refine Grow.ends ?_
       go_wp2_with (first | go_skip)
       refine Grow.region [(0, true), (1, true), (2, true), (3, true), (4, true), (5, true), (6, true), (7, true), (8, false), (9, true)] (by kernel_rfl) (by kernel_rfl) rfl (by kernel_rfl) (by intro c a d v w h; cases d <;> exact h) ?_
       have G2 : Grew w w3.drew := G1.drew
       generalize w3.drew = wz at G2 ⊢
       clear G1
       have E2 := E.below G2.below
       have d1 := Grow.grown (w := wz) (fun u hu => (E2.below hu).l1)
       have zx := IdW.range_below sx G2.below
       have zy := IdW.range_below sy G2.below
       repeat (first | (refine Grow.reads rfl rfl ?_; go_big_quiet_want; refine CmA.quiet_id _ rfl _ _ rfl ix zx ?_; go_big_quiet_on; refine wpQuiet_nil ?_; (try simp only [Act.put, List.setIfInBounds_toArray, List.set_cons_succ, List.set_cons_zero])) | (refine Grow.reads rfl rfl ?_; go_big_quiet_want; refine CmA.quiet_id _ rfl _ _ rfl iy zy ?_; go_big_quiet_on; refine wpQuiet_nil ?_; (try simp only [Act.put, List.setIfInBounds_toArray, List.set_cons_succ, List.set_cons_zero])) | (refine Grow.reads rfl rfl ?_; go_big_quiet_step (fail); refine wpQuiet_nil ?_))
       refine Grow.acts rfl ?_
       go_wp2_with (first | go_skip)
       have qs := IdC.less_ret iy ix wz
       rw [h2] at qs
       refine qs.mono ?_
       clear qs
       rintro e w4 ⟨rfl, g3⟩
       go_wp2_with (first | go_skip)
       refine ⟨g3.below, ?_⟩
       have G1 := G2.trans g3
       clear G2 g3 E2 d1 zx zy
       (try simp only [Act.put, List.setIfInBounds_toArray, List.set_cons_succ, List.set_cons_zero])
       repeat (refine Grow.reads rfl rfl ?_; go_big_quiet_step (fail); refine wpQuiet_nil ?_)
       refine Grow.ends ?_
       go_wp2_with (first | go_skip)
       go_ret
       exact ⟨by rw [HV.out]; rfl, G1⟩
     | false =>
       have HV : Hid (r = 0) := aside (by rw [HR.out, if_pos hmn, h1, h2]; rfl)
       clear hmn HR
       go_enter Tryz.func76, Tryz.ntmps76
       go_wp2_with (first | go_skip)
       go_quiet (fail)
       go_wp2_with (first | go_skip)
       have G1 : Grew w (w.drewN nq) := (Grew.refl w).drewN nq
       generalize w.drewN nq = W1 at G1 ⊢
       clear c0 cx cy
       refine Grow.region [(0, true), (1, true), (2, true), (3, true), (4, true), (5, true), (6, true), (7, true), (8, false), (9, true)] (by kernel_rfl) (by kernel_rfl) rfl (by kernel_rfl) (by intro c a d v w h; cases d <;> exact h) ?_
       have G2 : Grew w W1.drew := G1.drew
       generalize W1.drew = wz at G2 ⊢
       clear G1
       have E2 := E.below G2.below
       have d1 := Grow.grown (w := wz) (fun u hu => (E2.below hu).l1)
       have zx := IdW.range_below sx G2.below
       have zy := IdW.range_below sy G2.below
       repeat (first | (refine Grow.reads rfl rfl ?_; go_big_quiet_want; refine CmA.quiet_id _ rfl _ _ rfl ix zx ?_; go_big_quiet_on; refine wpQuiet_nil ?_; (try simp only [Act.put, List.setIfInBounds_toArray, List.set_cons_succ, List.set_cons_zero])) | (refine Grow.reads rfl rfl ?_; go_big_quiet_want; refine CmA.quiet_id _ rfl _ _ rfl iy zy ?_; go_big_quiet_on; refine wpQuiet_nil ?_; (try simp only [Act.put, List.setIfInBounds_toArray, List.set_cons_succ, List.set_cons_zero])) | (refine Grow.reads rfl rfl ?_; go_big_quiet_step (fail); refine wpQuiet_nil ?_))
       refine Grow.acts rfl ?_
       go_wp2_with (first | go_skip)
       have qs := IdC.less_ret ix iy wz
       rw [h1] at qs
       refine qs.mono ?_
       clear qs
       rintro e w3 ⟨rfl, g3⟩
       go_wp2_with (first | go_skip)
       refine ⟨g3.below, ?_⟩
       have G1 := G2.trans g3
       clear G2 g3 E2 d1 zx zy
       (try simp only [Act.put, List.setIfInBounds_toArray, List.set_cons_succ, List.set_cons_zero])
       repeat (refine Grow.reads rfl rfl ?_; go_big_quiet_step (fail); refine wpQuiet_nil ?_)
       refine Grow.ends ?_
       go_wp2_with (first | go_skip)
       refine Grow.region [(0, true), (1, true), (2, true), (3, true), (4, true), (5, true), (6, true), (7, true), (8, false), (9, true)] (by kernel_rfl) (by kernel_rfl) rfl (by kernel_rfl) (by intro c a d v w h; cases d <;> exact h) ?_
       have G2 : Grew w w3.drew := G1.drew
       generalize w3.drew = wz at G2 ⊢
       clear G1
       have E2 := E.below G2.below
       have d1 := Grow.grown (w := wz) (fun u hu => (E2.below hu).l1)
       have zx := IdW.range_below sx G2.below
       have zy := IdW.range_below sy G2.below
       repeat (first | (refine Grow.reads rfl rfl ?_; go_big_quiet_want; refine CmA.quiet_id _ rfl _ _ rfl ix zx ?_; go_big_quiet_on; refine wpQuiet_nil ?_; (try simp only [Act.put, List.setIfInBounds_toArray, List.set_cons_succ, List.set_cons_zero])) | (refine Grow.reads rfl rfl ?_; go_big_quiet_want; refine CmA.quiet_id _ rfl _ _ rfl iy zy ?_; go_big_quiet_on; refine wpQuiet_nil ?_; (try simp only [Act.put, List.setIfInBounds_toArray, List.set_cons_succ, List.set_cons_zero])) | (refine Grow.reads rfl rfl ?_; go_big_quiet_step (fail); refine wpQuiet_nil ?_))
       refine Grow.acts rfl ?_
       go_wp2_with (first | go_skip)
       have qs := IdC.less_ret iy ix wz
       rw [h2] at qs
       refine qs.mono ?_
       clear qs
       rintro e w4 ⟨rfl, g3⟩
       go_wp2_with (first | go_skip)
       refine ⟨g3.below, ?_⟩
       have G1 := G2.trans g3
       clear G2 g3 E2 d1 zx zy
       (try simp only [Act.put, List.setIfInBounds_toArray, List.set_cons_succ, List.set_cons_zero])
       repeat (refine Grow.reads rfl rfl ?_; go_big_quiet_step (fail); refine wpQuiet_nil ?_)
       refine Grow.ends ?_
       go_wp2_with (first | go_skip)
       go_ret
       exact ⟨by rw [HV.out]; rfl, G1⟩
 · have t0 : (m != n) = true := by simpa using hmn
   have HV : Hid (r = if m < n then -1 else if n < m then 1 else 0) := aside (by
     rw [HR.out, if_neg hmn]
     by_cases h : m < n
     · rw [if_pos h, if_pos h]
     · rw [if_neg h, if_neg h, if_pos (by omega)])
   clear hmn HR
   go_enter Tryz.func76, Tryz.ntmps76
   go_wp2_with (first | go_skip)
   go_quiet (fail)
   go_wp2_with (first | go_skip)
   have G1 : Grew w (w.drewN nq) := (Grew.refl w).drewN nq
   generalize w.drewN nq = W1 at G1 ⊢
   clear c0 cx cy
   refine Grow.region [(0, true), (1, true), (2, true), (3, true), (4, true), (5, true), (6, true), (7, true), (8, true), (9, true), (10, false), (11, true)] (by kernel_rfl) (by kernel_rfl) rfl (by kernel_rfl) (by intro c a d v w h; cases d <;> exact h) ?_
   have G2 : Grew w W1.drew := G1.drew
   generalize W1.drew = wz at G2 ⊢
   clear G1
   have E2 := E.below G2.below
   have d0 := Grow.grown (w := wz) (fun u hu => (E2.below hu).l0)
   have dx := Grow.grown (w := wz) (fun u hu => HX.out u (G2.below.trans (hu.mono G2.below.size)))
   have dy := Grow.grown (w := wz) (fun u hu => HY.out u (G2.below.trans (hu.mono G2.below.size)))
   repeat (refine Grow.reads rfl rfl ?_; go_big_quiet_step (fail); refine wpQuiet_nil ?_)
   refine Grow.acts rfl ?_
   go_wp2_with (first | go_skip)
   have qs := compare_ret m n wz
   rw [← HV.out] at qs
   refine qs.mono ?_
   clear qs
   rintro e w3 ⟨rfl, rfl⟩
   go_wp2_with (first | go_skip)
   refine ⟨Below.refl _ _, ?_⟩
   (try simp only [Act.put, List.setIfInBounds_toArray, List.set_cons_succ, List.set_cons_zero])
   repeat (refine Grow.reads rfl rfl ?_; go_big_quiet_step (fail); refine wpQuiet_nil ?_)
   refine Grow.ends ?_
   go_wp2_with (first | go_skip)
   go_ret
   exact ⟨rfl, G2⟩
end Go.Proofs.YtgoapaanmcmlmaaGreatDoor.DhO
namespace Go.Proofs
set_option maxRecDepth 100000
open Go.Shelf
def Tryz.sortInts_ren : Go.Shelf.Ren := ⟨fun | 6 => 75 | 15 => 105 | 14 => 104 | 28 => 140 | 29 => 141 | 47 => 153 | 48 => 154 | 20 => 132 | 21 => 133 | 22 => 134 | 23 => 135 | 24 => 136 | 25 => 137 | 26 => 138 | 27 => 139 | 46 => 152 | 49 => 155 | 50 => 156 | 57 => 165 | n => n, fun | 22 => 45 | 24 => 3 | 25 => 110 | 3 => 3 | 39 => 114 | 0 => 0 | 53 => 134 | 55 => 72 | 4 => 4 | 46 => 161 | 45 => 160 | 50 => 165 | 5 => 5 | 9 => 9 | 66 => 175 | 70 => 178 | 76 => 186 | 77 => 187 | n => n, fun | n => n⟩
theorem Tryz.sortInts : Go.Proofs.SlLaysF.n6 Tryz.prog Tryz.sortInts_ren := {
 mixed := by kernel_rfl
 f6 := ⟨Tryz.f75.name, by decide, Tryz.func75.trans (congrArg some (by kernel_rfl))⟩
 f14 := ⟨Tryz.f104.name, by decide, Tryz.func104.trans (congrArg some (by kernel_rfl))⟩
 f15 := Tryz.func105.trans (congrArg some (by kernel_rfl))
 f20 := ⟨Tryz.f132.name, by decide, Tryz.func132.trans (congrArg some (by kernel_rfl))⟩
 f21 := ⟨Tryz.f133.name, by decide, Tryz.func133.trans (congrArg some (by kernel_rfl))⟩
 f22 := ⟨Tryz.f134.name, by decide, Tryz.func134.trans (congrArg some (by kernel_rfl))⟩
 f23 := ⟨Tryz.f135.name, by decide, Tryz.func135.trans (congrArg some (by kernel_rfl))⟩
 f24 := ⟨Tryz.f136.name, by decide, Tryz.func136.trans (congrArg some (by kernel_rfl))⟩
 f25 := ⟨Tryz.f137.name, by decide, Tryz.func137.trans (congrArg some (by kernel_rfl))⟩
 f26 := ⟨Tryz.f138.name, by decide, Tryz.func138.trans (congrArg some (by kernel_rfl))⟩
 f27 := ⟨Tryz.f139.name, by decide, Tryz.func139.trans (congrArg some (by kernel_rfl))⟩
 f28 := Tryz.func140.trans (congrArg some (by kernel_rfl))
 f29 := Tryz.func141.trans (congrArg some (by kernel_rfl))
 f46 := ⟨Tryz.f152.name, by decide, Tryz.func152.trans (congrArg some (by kernel_rfl))⟩
 f47 := Tryz.func153.trans (congrArg some (by kernel_rfl))
 f48 := Tryz.func154.trans (congrArg some (by kernel_rfl))
 f49 := ⟨Tryz.f155.name, by decide, Tryz.func155.trans (congrArg some (by kernel_rfl))⟩
 f50 := ⟨Tryz.f156.name, by decide, Tryz.func156.trans (congrArg some (by kernel_rfl))⟩
 f57 := ⟨Tryz.f165.name, by decide, Tryz.func165.trans (congrArg some (by kernel_rfl))⟩
 t0 := Tryz.underlying0
 a0 := Tryz.isAgg0
 z0 := Tryz.sizeOf0
 v0 := Tryz.zeroValue0
 t3 := Tryz.underlying3
 a3 := Tryz.isAgg3
 z3 := Tryz.sizeOf3
 v3 := Tryz.zeroValue3
 t4 := Tryz.underlying4
 a4 := Tryz.isAgg4
 z4 := Tryz.sizeOf4
 v4 := Tryz.zeroValue4
 t5 := Tryz.underlying5
 a5 := Tryz.isAgg5
 z5 := Tryz.sizeOf5
 v5 := Tryz.zeroValue5
 t9 := Tryz.underlying9
 a9 := Tryz.isAgg9
 z9 := Tryz.sizeOf9
 v9 := Tryz.zeroValue9
 t22 := Tryz.underlying45
 a22 := Tryz.isAgg45
 z22 := Tryz.sizeOf45
 v22 := Tryz.zeroValue45
 a24 := Tryz.isAgg3
 z24 := Tryz.sizeOf3
 t25 := Tryz.underlying110
 a25 := Tryz.isAgg110
 z25 := Tryz.sizeOf110
 v25 := Tryz.zeroValue110
 t39 := Tryz.underlying114
 a39 := Tryz.isAgg114
 z39 := Tryz.sizeOf114
 v39 := Tryz.zeroValue114
 t45 := Tryz.underlying160
 a45 := Tryz.isAgg160
 z45 := Tryz.sizeOf160
 v45 := Tryz.zeroValue160
 t46 := Tryz.underlying161
 a46 := Tryz.isAgg161
 z46 := Tryz.sizeOf161
 v46 := Tryz.zeroValue161
 t50 := Tryz.underlying165
 a50 := Tryz.isAgg165
 z50 := Tryz.sizeOf165
 v50 := Tryz.zeroValue165
 t53 := Tryz.underlying134
 a53 := Tryz.isAgg134
 z53 := Tryz.sizeOf134
 v53 := Tryz.zeroValue134
 t55 := Tryz.underlying72
 a55 := Tryz.isAgg72
 z55 := Tryz.sizeOf72
 v55 := Tryz.zeroValue72
 t66 := Tryz.underlying175
 a66 := Tryz.isAgg175
 z66 := Tryz.sizeOf175
 v66 := Tryz.zeroValue175
 t70 := Tryz.underlying178
 a70 := Tryz.isAgg178
 z70 := Tryz.sizeOf178
 v70 := Tryz.zeroValue178
 t76 := Tryz.underlying186
 a76 := Tryz.isAgg186
 z76 := Tryz.sizeOf186
 v76 := Tryz.zeroValue186
 t77 := Tryz.underlying187
 a77 := Tryz.isAgg187
 z77 := Tryz.sizeOf187
 v77 := Tryz.zeroValue187 }
end Go.Proofs
namespace Go.Proofs.YtgoapaanmcmlmaaGreatDoor.DhP
set_option maxRecDepth 100000
open Go Go.Shelf Go.Sort Go.RowKit Go.Lib Byt IdM IdW OpsM OpsW CmM StW CmW CmX CmY DgM DgW DgI DhO
theorem cf_neg (l : List Cv) (own : List Idn) (i j : Nat) : decide (cfN l own i j < 0) = true ↔ gN l i < gN l j ∨ gN l i = gN l j ∧ less (own.getD i nought) (own.getD j nought) = true := by
 rw [decide_eq_true_eq]
 unfold cfN
 by_cases h : gN l i = gN l j
 · rw [if_pos h]
   cases h1 : less (own.getD i nought) (own.getD j nought) with
   | true => rw [if_pos rfl]; exact ⟨fun _ => .inr ⟨h, rfl⟩, fun _ => by omega⟩
   | false =>
     rw [if_neg (by simp)]
     constructor
     · intro h2
       split at h2 <;> omega
     · rintro (h2 | ⟨_, h2⟩)
       · omega
       · cases h2
 · rw [if_neg h]
   by_cases h2 : gN l i < gN l j
   · rw [if_pos h2]; exact ⟨fun _ => .inl h2, fun _ => by omega⟩
   · rw [if_neg h2]
     constructor
     · intro h3; omega
     · rintro (h3 | ⟨h3, _⟩)
       · exact absurd h3 h2
       · exact absurd h3 h
def cfF (l : List Cv) (own : List Idn) (n : Nat) (x y : Fin n) : Int := cfN l own x.1 y.1
def encF (n : Nat) (x : Fin n) : Value := .int .i64 (x.1 : Nat)
theorem lt_iff (l : List Cv) (own : List Idn) (n : Nat) (x y : Fin n) : ltOf (cfF l own n) x y = true ↔ gN l x.1 < gN l y.1 ∨ gN l x.1 = gN l y.1 ∧ less (own.getD x.1 nought) (own.getD y.1 nought) = true := cf_neg l own x.1 y.1
theorem swo (l : List Cv) (own : List Idn) (n : Nat) : SWO (ltOf (cfF l own n)) where
 irrefl x := by
   rw [← Bool.not_eq_true, lt_iff, less_irrefl]
   rintro (h | ⟨_, h⟩)
   · omega
   · cases h
 trans x y z h1 h2 := by
   rw [lt_iff] at *
   rcases h1 with h1 | ⟨h1, h1'⟩ <;> rcases h2 with h2 | ⟨h2, h2'⟩
   · exact .inl (by omega)
   · exact .inl (by omega)
   · exact .inl (by omega)
   · exact .inr ⟨by omega, less_trans h1' h2'⟩
 ntrans x y z h1 h2 := by
   rw [← Bool.not_eq_true, lt_iff] at *
   rintro (h3 | ⟨h3, h3'⟩)
   · by_cases e : gN l x.1 < gN l y.1
     · exact h1 (.inl e)
     · by_cases e2 : gN l y.1 < gN l z.1
       · exact h2 (.inl e2)
       · omega
   · by_cases e : gN l x.1 < gN l y.1
     · exact h1 (.inl e)
     · by_cases e2 : gN l y.1 < gN l z.1
       · exact h2 (.inl e2)
       · have e3 : gN l x.1 = gN l y.1 := by omega
         have k1 : less (own.getD x.1 nought) (own.getD y.1 nought) = false := by
           rw [← Bool.not_eq_true]; exact fun k => h1 (.inr ⟨e3, k⟩)
         have k2 : less (own.getD y.1 nought) (own.getD z.1 nought) = false := by
           rw [← Bool.not_eq_true]; exact fun k => h2 (.inr ⟨by omega, k⟩)
         by_cases e4 : own.getD x.1 nought = own.getD y.1 nought
         · rw [e4, k2] at h3'; cases h3'
         · have k3 := less_of_ne k1 (fun e => e4 e)
           have k4 := less_trans k3 h3'
           rw [k2] at k4
           cases k4
theorem blk_below {w w' : World} {g : Nat} {o : Obj} (h : w.heap[g]? = some o) (hb : Below w.heap.size w w') : w'.heap[g]? = some o := by rw [hb.block g (Array.getElem?_eq_some_iff.1 h).1, h]
theorem info_one : (Tryz.prog.info? 3).map (·.size) = some 1 := by kernel_rfl
section
variable {ops : Array Oper} {rest : List Oper} {o : Oper} {a : Act} {w : World} {Q : Exit → Act → World → Prop}
theorem make_ints (hgd : o.guard = none) (x y : Operand) (ho : o.op = .makeSlice 45 x y) (n : Nat) (hx : a.eval x = .int .i64 n) (hy : a.eval y = .int .i64 n) (hn : n ≤ 1500000000000)
   (h : ∀ w1, w1.heap[w.heap.size]? = some (.cells (nv (List.replicate n 0)).toArray 3 (0, 0)) → Below w.heap.size w w1 → w1.heap.size = w.heap.size + 1 → wpList Tryz.prog ops Q rest (a.put o.dst (.slice (some ⟨w.heap.size, 0, none⟩) n n)) w1) : wpList Tryz.prog ops Q (o :: rest) a w := by
 refine wpList_plain hgd fun K hK => ?_
 obtain ⟨i, hi, z0, z1, z2⟩ := info_parts info_int
 have hrun := run_make (P := Tryz.prog) w 45 3 i (.int .i64 0) Tryz.underlying45 hi z0 .i64 .i64 n n (by omega) (by omega) (by rw [z2]; omega) (by omega)
 rw [show (Value.int .i64 0).cells = #[.int .i64 0] from rfl, z1, Nat.mul_one, Int.toNat_natCast, Small.made_replicate] at hrun
 unfold Oper.wp
 simp [execOp, ho, hx, hy, hrun, Result.andThen]
 refine hK _ _ (h _ ?_ ((Below.refl _ _).alloc (Nat.le_refl _) _) (by simp))
 rw [heap_alloc_new]
 unfold nv
 rw [List.map_replicate]
 rfl
theorem store_int (hgd : o.guard = none) (hd : o.dst = none) (x y : Operand) (ho : o.op = .store 3 x y) (g j : Nat) (L : List Nat) (hg : w.heap[g]? = some (.cells (nv L).toArray 3 (0, 0))) (hj : j < L.length)
   (hx : a.eval x = .pointer (some ⟨g, j, none⟩)) (n : Nat) (hy : a.eval y = .int .i64 n)
   (h : ∀ w', w'.heap[g]? = some (.cells (nv (L.set j n)).toArray 3 (0, 0)) → (∀ B, B ≤ g → Below B w w') → w'.heap.size = w.heap.size → wpList Tryz.prog ops Q rest a w') : wpList Tryz.prog ops Q (o :: rest) a w := by
 refine wpList_plain hgd fun K' hK => ?_
 have hrun := RowF.run_store_one (T := 3) (v := .int .i64 n) hg (by rw [List.size_toArray, nv_length]; exact hj) info_one rfl rfl
 unfold Oper.wp execOp
 simp only [ho, hx, hy, Sem.run_bind, hrun, Result.andThen_ok, Sem.run_pure]
 refine hK _ _ ?_
 rw [hd]
 refine h _ ?_ (fun B hB => (Below.refl B w).setCell (p := ⟨g, j, none⟩) hB _) (by simp [World.setCell])
 simp only [World.setCell]
 rw [Array.getElem?_modify, if_pos rfl, hg]
 simp [nv, List.map_set]
end
theorem extract_all {α : Type} (d : Array α) {n : Nat} (h : d.size = n) : (d.extract 0 n).toList = d.toList := by
 subst h
 simp
theorem one_enc (n : Nat) : OneCell (encF n) := fun _ => rfl
theorem fin_vals (n : Nat) : (List.finRange n).map (fun x => x.1) = List.range n := by
 apply List.ext_getElem
 · simp
 · intro i h1 h2
   simp
theorem nv_fin {n : Nat} (L : List (Fin n)) : L.map (encF n) = nv (L.map fun x => x.1) := by
 unfold nv encF
 rw [List.map_map]
 rfl
theorem grown_sorted {n g k : Nat} [Inhabited (Fin n)] {w : World} {d : Array (Fin n)} {os : Array Obj} : w.grownBy (sortWorld (encF n) w g 0 k d os) (some g) := by
 unfold sortWorld
 refine ⟨rfl, rfl, rfl, ?_, fun i hi hne => ?_⟩
 · rw [Sort.size_grow, size_putRow]
   exact Nat.le_add_right _ _
 · rw [Sort.heap_grow_old _ _ (by rw [size_putRow]; exact hi)]
   show (Array.modify w.heap g _)[i]? = _
   rw [Array.getElem?_modify, if_neg (fun e => hne (by rw [e]))]
theorem heap_sorted {n g k : Nat} [Inhabited (Fin n)] {w : World} {d : Array (Fin n)} {os : Array Obj} {L : List Nat} {t : TypeId} (hg : w.heap[g]? = some (.cells (nv L).toArray t (0, 0))) (hd : d.size = L.length) : (sortWorld (encF n) w g 0 k d os).heap[g]? = some (.cells (nv (d.toList.map fun x => x.1)).toArray t (0, 0)) := by
 have hlt : g < w.heap.size := (Array.getElem?_eq_some_iff.1 hg).1
 unfold sortWorld
 rw [Sort.heap_grow_old _ _ (by rw [size_putRow]; exact hlt)]
 unfold putRow mapBlock
 show (Array.modify w.heap g _)[g]? = _
 rw [Array.getElem?_modify, if_pos rfl, hg]
 simp only [Option.map_some, onCells]
 congr 2
 rw [← nv_fin]
 apply Array.ext_getElem?
 intro i
 by_cases hi : i < d.size
 · rw [putCells, Array.getElem?_mapIdx, Array.getElem?_eq_getElem (by rw [List.size_toArray, nv_length]; omega), Option.map_some, if_pos ⟨Nat.zero_le _, by omega⟩, List.getElem?_toArray, List.getElem?_map, Array.getElem?_toList, Array.getElem?_eq_getElem hi, Option.map_some, Nat.sub_zero, getElem!_pos d i hi]
 · rw [Array.getElem?_eq_none (by simp [putCells, nv_length]; omega), Array.getElem?_eq_none (by simp; omega)]
theorem sort_places (A A' : Option Addr) (cap cap' : Nat) (l : List Cv) (own : List Idn) (w W : World) (S : SlK w A cap l) (T : SlI w A' cap' own) (ho : own.length = l.length) (hl : l.length ≤ 1500000000000) (hb : Below w.heap.size w W) (g g0 g1 : Nat)
   (c0 : ∃ t, W.heap[g0]? = some (.cells #[.slice A l.length cap] t (0, 0))) (c1 : ∃ t, W.heap[g1]? = some (.cells #[.slice A' own.length cap'] t (0, 0))) (h0 : g0 ≠ g) (h1 : g1 ≠ g) (hwg : w.heap.size ≤ g) (hg : W.heap[g]? = some (.cells (nv (List.range l.length)).toArray 3 (0, 0))) :
   Calls Tryz.prog 75 #[.slice (some ⟨g, 0, none⟩) l.length l.length, .func (.func 76) #[] #[.pointer (some ⟨g0, 0, none⟩), .pointer (some ⟨g1, 0, none⟩)]] W fun e w' =>
     e = .returned (.tuple #[]) ∧ ∃ P, w'.heap[g]? = some (.cells (nv P).toArray 3 (0, 0)) ∧ P.Perm (List.range l.length) ∧ P.Pairwise (fun i j => ¬ cfN l own j i < 0) ∧ Below w.heap.size w w' := by
 have hlt : g < W.heap.size := (Array.getElem?_eq_some_iff.1 hg).1
 obtain ⟨n, hn⟩ : ∃ n, l.length = n := ⟨_, rfl⟩
 cases n with
 | zero =>
   rw [hn] at hg ⊢
   refine (AnyF.slices_SortFunc_none (P := Tryz.prog) (ρ := Tryz.sortInts_ren) { Tryz.sortInts with } _ _ _ W).mono ?_
   rintro e w' ⟨rfl, rfl⟩
   exact ⟨rfl, [], hg, List.Perm.refl _, List.Pairwise.nil, hb⟩
 | succ m =>
   have eg : ∀ args w, (callFunc 76 args).run Tryz.prog w = .ok (.enter 76 args) w := enters_of Tryz.func76 (by kernel_rfl) rfl
   have hcmp : CmpLays1 Tryz.prog 76 #[.pointer (some ⟨g0, 0, none⟩), .pointer (some ⟨g1, 0, none⟩)] (encF (m + 1)) (cfF l own (m + 1)) g 0 (m + 1) W := by
     intro k os dk _ x y
     have gr : W.grownBy (sortWorld (encF (m + 1)) W g 0 k dk os) (some g) := grown_sorted
     have hb2 : Below w.heap.size w (sortWorld (encF (m + 1)) W g 0 k dk os) := below_grown hb (Nat.le_trans hwg (Nat.le_of_lt hlt)) gr (fun q hq => by cases hq; exact hwg)
     obtain ⟨t0, e0⟩ := c0
     obtain ⟨t1, e1⟩ := c1
     have E : Env (sortWorld (encF (m + 1)) W g 0 k dk os) g0 g1 A A' cap cap' l own := ⟨⟨t0, by rw [gr.block g0 (Array.getElem?_eq_some_iff.1 e0).1 (fun e => h0 (by injection e)), e0]⟩, ⟨t1, by rw [gr.block g1 (Array.getElem?_eq_some_iff.1 e1).1 (fun e => h1 (by injection e)), e1]⟩, S.below hb2, T.below hb2⟩
     exact cmp_ret g0 g1 A A' cap cap' l own x.1 y.1 (by have := x.2; omega) (by have := y.2; omega) ho _ E
   have hsz : (List.finRange (m + 1)).toArray.size = m + 1 := by simp
   have hH : Holds (encF (m + 1)) W g 0 (List.finRange (m + 1)).toArray := by
     intro j hj
     rw [hsz] at hj
     refine ⟨?_, by simp [World.frozen?, hg]⟩
     rw [Nat.zero_add, cell_of_row W g j _ _ (0, 0) hg, hn, List.getElem?_toArray]
     rw [getElem!_pos _ j (by rw [hsz]; exact hj)]
     simp [nv, hj, encF]
   have q := Any.slices_SortFunc Tryz.sortInts (encF (m + 1)) (one_enc _) (cfF l own (m + 1)) (swo l own (m + 1)) 76 #[.pointer (some ⟨g0, 0, none⟩), .pointer (some ⟨g1, 0, none⟩)] g 0 (m + 1) (List.finRange (m + 1)).toArray W eg (by rw [hsz]; exact hcmp) hH hlt (by rw [hsz]; omega)
   rw [hsz] at q
   rw [hn]
   refine q.mono ?_
   rintro e w' ⟨rfl, d', k, os, hp, hs, rfl⟩
   have hd : d'.size = m + 1 := by rw [hp.1, hsz]
   have hperm : d'.toList.Perm (List.finRange (m + 1)) := by
     have q := hp.2.2
     rw [extract_all d' hd, extract_all _ hsz] at q
     exact q
   have gr : W.grownBy (sortWorld (encF (m + 1)) W g 0 k d' os) (some g) := grown_sorted
   have hbe : Below w.heap.size w (sortWorld (encF (m + 1)) W g 0 k d' os) := below_grown hb (Nat.le_trans hwg (Nat.le_of_lt hlt)) gr (fun q hq => by cases hq; exact hwg)
   have hge := heap_sorted (n := m + 1) (k := k) (os := os) hg (d := d') (by rw [hd, List.length_range, hn])
   refine ⟨rfl, d'.toList.map (fun x => x.1), hge, ?_, ?_, hbe⟩
   · have := hperm.map (fun x => x.1)
     rwa [fin_vals] at this
   · rw [List.pairwise_map, List.pairwise_iff_getElem]
     intro i j hi hj hij
     have hi' : i < d'.size := by simpa using hi
     have hj' : j < d'.size := by simpa using hj
     have q := hs i j (Nat.zero_le _) hij (by omega)
     rw [getElem!_pos d' i hi', getElem!_pos d' j hj'] at q
     unfold ltOf at q
     simpa [cfF] using of_decide_eq_false q
theorem range_set (n k : Nat) : ((List.range n).map fun i => if i < k then i else 0).set k k = (List.range n).map fun i => if i < k + 1 then i else 0 := by
 apply List.ext_getElem
 · simp
 · intro i h1 h2
   simp only [List.length_set, List.length_map, List.length_range] at h1
   rw [List.getElem_set]
   simp only [List.getElem_map, List.getElem_range]
   by_cases e : k = i
   · subst e
     rw [if_pos rfl, if_pos (by omega)]
   · rw [if_neg e]
     by_cases e2 : i < k
     · rw [if_pos e2, if_pos (by omega)]
     · rw [if_neg e2, if_neg (by omega)]
theorem fill_no (n : Nat) : List.replicate n 0 = (List.range n).map fun i => if i < 0 then i else 0 := by
 apply List.ext_getElem
 · simp
 · intro i h1 h2
   simp
theorem fill_all (n : Nat) : ((List.range n).map fun i => if i < n then i else 0) = List.range n := by
 apply List.ext_getElem
 · simp
 · intro i h1 h2
   simp only [List.length_map, List.length_range] at h1
   simp [h1]
def Placed (l : List Cv) (own : List Idn) (P : List Nat) : Prop := P.Perm (List.range l.length) ∧ P.Pairwise (fun i j => ¬ cfN l own j i < 0)
set_option maxRecDepth 100000 in
set_option maxHeartbeats 16000000 in
theorem order_ret (A A' : Option Addr) (cap cap' : Nat) (l : List Cv) (own : List Idn) (w : World) (S : SlK w A cap l) (T : SlI w A' cap' own) (ho : own.length = l.length) (hl : l.length ≤ 1500000000000) :
   Calls Tryz.prog 39 #[.slice A l.length cap, .slice A' own.length cap'] w fun e w' => ∃ bp P, e = .returned (.slice (some ⟨bp, 0, none⟩) l.length l.length) ∧ w.heap.size ≤ bp ∧ w'.heap[bp]? = some (.cells (nv P).toArray 3 (0, 0)) ∧ Placed l own P ∧ Below w.heap.size w w' := by
 have hmf : ∀ (fn : Fn) (first cap : Array Value) (w : World), (Instr.makeFunc fn first cap).run Tryz.prog w = .ok (.func fn first cap) w := fun _ _ _ _ => rfl
 have z1 : (w.alloc (.cells #[.slice A l.length cap] 35)).heap.size = w.heap.size + 1 := by simp
 have C0 : ((w.alloc (.cells #[.slice A l.length cap] 35)).alloc (.cells #[.slice A' own.length cap'] 25)).heap[w.heap.size]? = some (.cells #[.slice A l.length cap] 35 (0, 0)) := by
   rw [(StW.below_alloc (w.alloc (.cells #[.slice A l.length cap] 35)) _).block _ (by simp), heap_alloc_new]
 have C1 : ((w.alloc (.cells #[.slice A l.length cap] 35)).alloc (.cells #[.slice A' own.length cap'] 25)).heap[w.heap.size + 1]? = some (.cells #[.slice A' own.length cap'] 25 (0, 0)) := by
   rw [← z1, heap_alloc_new]
 have kb : Below w.heap.size w ((w.alloc (.cells #[.slice A l.length cap] 35)).alloc (.cells #[.slice A' own.length cap'] 25)) := ((Below.refl _ _).alloc (Nat.le_refl _) _).alloc (by simp) _
 have z2 : w.heap.size + 1 < ((w.alloc (.cells #[.slice A l.length cap] 35)).alloc (.cells #[.slice A' own.length cap'] 25)).heap.size := by simp
 generalize hW : (w.alloc (.cells #[.slice A l.length cap] 35)).alloc (.cells #[.slice A' own.length cap'] 25) = W at C0 C1 kb z2
 have c0 := cell_row ⟨_, C0⟩
 have HO := aside ho
 clear z1 ho
 go_enter Tryz.func39, Tryz.ntmps39
 go_wp2_with (first | go_skip | (refine make_ints rfl _ _ rfl l.length rfl rfl hl ?_; intro w1 hg1 k1 s1; have b1 := kb.trans (k1.mono kb.size); have D0 : w1.heap[w.heap.size]? = _ := (k1.block _ (by omega)).trans C0; have D1 : w1.heap[w.heap.size + 1]? = _ := (k1.block _ (by omega)).trans C1; clear s1 C0 C1 kb))
 go_loopw [12] (fun i wr => ∃ k : Nat, k ≤ l.length ∧ i = .int .i64 k ∧ wr.heap[W.heap.size]? = some (.cells (nv ((List.range l.length).map fun i => if i < k then i else 0)).toArray 3 (0, 0)) ∧ wr.heap[w.heap.size]? = some (.cells #[.slice A l.length cap] 35 (0, 0)) ∧ wr.heap[w.heap.size + 1]? = some (.cells #[.slice A' own.length cap'] 25 (0, 0)) ∧ Below w.heap.size w wr) (fun i _ => l.length - (intOf i).toNat)
 case atStart =>
   exact ⟨0, Nat.zero_le _, rfl, by rw [hg1, fill_no], D0, D1, b1⟩
 case round =>
   clear D0 D1 b1 hg1 c0
   obtain ⟨k, hk, rfl, hg, D0, D1, b1⟩ := hrel
   by_cases hlt : k < l.length
   · have p0 : (k : Int) < l.length := by omega
     have m0 : ((k : Int)).toNat = k := by omega
     go_wp2_with (first | go_skip | (refine store_int rfl rfl _ _ rfl W.heap.size k _ hg (by simp; omega) rfl k rfl ?_; intro w2 hg2 f2 s2))
     go_roundw
     case rel =>
       refine ⟨k + 1, by omega, by go_num, by rw [hg2, range_set], ?_, ?_, b1.trans (f2 _ (by omega))⟩
       · rw [(f2 (w.heap.size + 1 + 1) (by omega)).block _ (by omega), D0]
       · rw [(f2 (w.heap.size + 1 + 1) (by omega)).block _ (by omega), D1]
     case measure => simp [intOf]; omega
   · have ek : k = l.length := by omega
     subst ek
     have hg3 : wr.heap[W.heap.size]? = some (.cells (nv (List.range l.length)).toArray 3 (0, 0)) := by
       rw [hg, fill_all]
     have q := sort_places A A' cap cap' l own w wr S T HO.out hl b1 W.heap.size w.heap.size (w.heap.size + 1) ⟨_, D0⟩ ⟨_, D1⟩ (by omega) (by omega) (by omega) hg3
     clear hg
     go_wp2_with (first | go_skip)
     refine q.mono ?_
     rintro e w3 ⟨rfl, P, hg4, hp, hs, b3⟩
     go_wp2_with (first | go_skip)
     go_ret
     exact ⟨_, P, rfl, by omega, hg4, ⟨hp, hs.imp fun h => by omega⟩, b3⟩
end Go.Proofs.YtgoapaanmcmlmaaGreatDoor.DhP
