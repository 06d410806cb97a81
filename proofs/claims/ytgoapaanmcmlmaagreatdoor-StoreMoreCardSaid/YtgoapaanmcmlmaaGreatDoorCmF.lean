/- What the project's reader of package commit returns, or panics with, as it takes a commit: a contract. -/
import Derived.Test.YtgoapaanmcmlmaaGreatDoorCmEJ2
namespace Go.Proofs.YtgoapaanmcmlmaaGreatDoor.CmF
set_option maxRecDepth 100000
open Go Go.Sort Go.RowKit Byt EncM EncC IdM IdW IdB OpsM OpsW CmM StW CmW CmD CmG CmQ CmE
def ComOut (q : Option (Com × List Int)) (g : Nat) (w : World) (e : Ending) (w' : World) : Prop :=
 Turned g w w' ∧ match q with
   | none => e = .panicked dies
   | some (c, l) => ∃ v r', e = .returned (.agg (cc v)) ∧ v.c = c ∧ In w' v ∧ Cel.Box PE w' g r' ∧ r'.l = l ∧ Sl w' r'.a r'.k r'.l
theorem ComOut.none {q : Option (Com × List Int)} {g : Nat} {w w' : World} {e : Ending} (hq : q = none) (h : e = .panicked dies) (ht : Turned g w w') : ComOut q g w e w' := by
 subst hq
 exact ⟨ht, h⟩
theorem ComOut.some {q : Option (Com × List Int)} {g : Nat} {w w' : World} {e : Ending} {c : Com} {l : List Int} (hq : q = some (c, l)) (v : Cv) (r : Pd) (h : e = .returned (.agg (cc v))) (hv : v.c = c) (hi : In w' v) (hb : Cel.Box PE w' g r) (hl : r.l = l) (hS : Sl w' r.a r.k r.l) (ht : Turned g w w') : ComOut q g w e w' := by
 subst hq
 exact ⟨ht, v, r, h, hv, hi, hb, hl, hS⟩
theorem results_c {fn : Func} {p : Tmp} (h : fn.results = #[.cell p 29]) (tmps : Array Value) (w : World) (g : Nat) (v : Cv)
   (hp : tmps.getD p undef = .pointer (some ⟨g, 0, none⟩)) (hg : Cel.Box CE w g v) : (results fn tmps).run Tryz.prog w = .ok (.agg (cc v)) w := by
 obtain ⟨t, ht⟩ := hg
 have hp' : tmps[p]?.getD undef = .pointer (some ⟨g, 0, none⟩) := by simpa using hp
 have hl := run_loadVar_row w g t 29 (CE.enc v).toArray (0, 0) _ ht CE.under CE.row (CE.size' v)
 simp [results, h, hp', asAddr, hl]
 rfl
theorem wpList_build_one {w : World} {ops : Array Oper} {rest : List Oper} {o : Oper} {a : Act} {Q : Exit → Act → World → Prop} (hgd : o.guard = none) (x : Operand) (ho : o.op = .buildSlice 25 1 #[(0, x)])
   (y : Idn) (hx : a.eval x = .agg (cs y)) (h : ∀ w1, SlI w1 (some ⟨w.heap.size, 0, none⟩) 1 [y] → Below w.heap.size w w1 → wpList Tryz.prog ops Q rest (a.put o.dst (.slice (some ⟨w.heap.size, 0, none⟩) 1 1)) w1) : wpList Tryz.prog ops Q (o :: rest) a w :=
 wpList_build1 hgd x ho y hx (h _ (SlI.new1 w y _) ((Below.refl _ _).alloc (Nat.le_refl _) _))
structure Inv (na nb ng : Int) (l4 : List Int) (k : Nat) (rd : Pd) (cv : Cv) : Prop where
 com : cv.c = ⟨na, nb, ng, cv.c.ps, noO⟩
 nil : (Value.slice cv.a cv.c.ps.length cv.k = .slice none 0 0) ∨ 0 < cv.c.ps.length
 ids : idsL k l4 = some (cv.c.ps, rd.l)
theorem Inv.next {na nb ng : Int} {l4 : List Int} {k : Nat} {rd r' : Pd} {cv : Cv} {PS : List Idn} (h : Inv na nb ng l4 k rd cv) (hB : ∀ x ∈ l4, B x) (h32 : 32 ≤ rd.l.length) (hP : cv.c.ps ++ [headI rd.l] = PS) (h1 : r'.l = rd.l.drop 32) (A : Option Addr) (c : Nat) :
   Inv na nb ng l4 (k + 1) r' ⟨A, c, { cv.c with ps := PS }⟩ := by
 subst hP
 refine ⟨?_, .inr (by simp), ?_⟩
 · have := h.com
   generalize cv.c = d at this ⊢
   rw [this]
 · rw [h1]
   exact idsL_snoc k hB h.ids h32
theorem Inv.length {na nb ng : Int} {l4 : List Int} {k : Nat} {rd : Pd} {cv : Cv} (h : Inv na nb ng l4 k rd cv) : cv.c.ps.length = k ∧ rd.l.length ≤ l4.length := by
 obtain ⟨l1, l2⟩ := idsL_len k h.ids
 exact ⟨l1, by omega⟩
def grows : Forks.Tree := .free 0 (.free 2 (.two 1 (.act 3 (.act 4 (.act 5 (.free 6 (.act 7 .ends))))) 3 (.two 1 (.act 4 (.act 5 (.free 6 (.act 7 .ends)))) 4 (.act 1 (.act 5 (.free 6 (.act 7 .ends)))))))
set_option maxRecDepth 100000 in
set_option maxHeartbeats 32000000 in
theorem commit_ret (r : Pd) (g : Nat) (w : World) (D : Cel.Box PE w g r) (S : Sl w r.a r.k r.l) (hl : r.l.length ≤ 1099511627776) :
   Calls Tryz.prog 93 #[.pointer (some ⟨g, 0, none⟩)] w (ComOut (getK r.l) g w) := by
 obtain ⟨W0, hW0⟩ : ∃ W, (w.alloc (.cells #[.int .i64 0, .int .i64 0, .int .i64 0, .slice none 0 0, .int .i64 0, .string ⟨#[]⟩, .string ⟨#[]⟩, .int .i64 0] 29)).alloc (.cells #[.int .i64 0, .int .i64 0, .int .i64 0, .slice none 0 0, .int .i64 0, .string ⟨#[]⟩, .string ⟨#[]⟩, .int .i64 0] 29) = W := ⟨_, rfl⟩
 have R : Cel.Box CE W0 w.heap.size noV := by rw [← hW0]; exact (Cel.Box.new (E := CE) w noV 29).alloc _
 have z1 : (w.alloc (.cells #[.int .i64 0, .int .i64 0, .int .i64 0, .slice none 0 0, .int .i64 0, .string ⟨#[]⟩, .string ⟨#[]⟩, .int .i64 0] 29)).heap.size = w.heap.size + 1 := by simp
 have C : Cel.Box CE W0 (w.heap.size + 1) noV := by rw [← hW0, ← z1]; exact Cel.Box.new (E := CE) _ noV 29
 have kb : Below w.heap.size w W0 := by rw [← hW0]; exact ((Below.refl _ _).alloc (Nat.le_refl _) _).alloc (by simp) _
 have D0 := D
 have hglt := D.lt
 have hgle := Nat.le_of_lt hglt
 have hno := no_pd D
 have T := Turned.of_below kb hgle
 replace D := D.below kb
 have hB := S.bytes
 obtain ⟨l1, l2, l3, l4, a, b, gn, n, ka, k2, k3, k4, HF⟩ := Four.ex r.l
 obtain ⟨B1, B2, B3, B4⟩ := HF.bytes hB
 obtain ⟨fa, fb, fg, fn⟩ := HF.fits hB
 have m1 : l1.length ≤ 1099511627776 := by rw [← HF.e1, List.length_drop]; omega
 have m2 : l2.length ≤ 1099511627776 := by rw [← HF.e2, List.length_drop]; omega
 have m3 : l3.length ≤ 1099511627776 := by rw [← HF.e3, List.length_drop]; omega
 have m4 : l4.length ≤ 1099511627776 := by rw [← HF.e4, List.length_drop]; omega
 obtain ⟨q, hq⟩ : ∃ q, getK r.l = q := ⟨_, rfl⟩
 have HQ := aside hq
 have HHF := aside HF
 have HHB := aside hB
 have HB4 := aside B4
 rw [hq]
 have q8 : ∀ W, Calls Tryz.prog 43 #[.int .i64 8] W fun e w' => e = .returned (.int .u64 16) ∧ W = w' := fun W => EncC.fold 8 (by omega) W
 have qu := fun W => EncC.unfold (a : Int) ⟨by omega, by omega⟩ W
 obtain ⟨na, hna⟩ : ∃ x, unfoldI (a : Int) = x := ⟨_, rfl⟩
 have Ia : Hid (I64 na) := aside (by rw [← hna]; exact unfoldI_bd fa)
 rw [hna] at qu
 have HNA := aside hna
 have S0 := S
 clear S hB B1 B2 B3 B4 fa fb fg hq hna z1 kb HF
 go_enter Tryz.func93, Tryz.ntmps93
 go_wp2_with (first | go_skip)
 refine (q8 _).mono ?_
 rintro e w' ⟨rfl, rfl⟩
 go_wp2_with (first | go_skip)
 clear q8
 have hrl : r.l = r.l := rfl
 by_cases hok : ka ≠ 0 ∧ a ≤ 16
 rotate_left 1
 · have hbd : ka = 0 ∨ (16 : Int) < a := by omega
   have HQ0 : Hid (q = none) := aside (by rw [← HQ.out]; exact (HHF.out.bad1 (by omega)))
   refine (num_no D (sl_far S0 hno T.grown) (by rw [hrl]; exact HHF.out.h1) hbd).mono ?_
   rintro e W1 ⟨rfl, kx⟩
   go_wp2_with fail
   exact ⟨rfl, ComOut.none HQ0.out rfl (T.trans (Turned.of_below kx (Nat.le_trans hgle T.grown.size)))⟩
 · obtain ⟨ok1, ok2⟩ := hok
   have hka := ok1
   clear hW0
   refine (num_yes (l2 := l1) D (sl_far S0 hno T.grown) (by rw [hrl]; exact HHF.out.h1) (by rw [hrl]; exact HHF.out.e1) ok1 (by omega)).mono ?_
   rintro e w1 ⟨rfl, r1, Q, P1⟩
   have T' := T.trans Q.turned
   have S1 := P1 w S0
   have L1 := aside Q.left
   have D' := Q.box
   have R' := R.kept Q.turned.grown (far_ne (by omega))
   have C' := C.kept Q.turned.grown (far_ne (by omega))
   clear T R C D Q
   have T := T'
   have D := D'
   have R := R'
   have C := C'
   clear T' D' R' C'
   clear ok1 ok2
   go_wp2_with (first | go_skip)
   refine (qu _).mono ?_
   rintro e w' ⟨rfl, rfl⟩
   go_wp2_with (first | go_skip | (refine Cel.wpList_store_field CE rfl rfl 3 _ _ rfl info_i (w.heap.size + 1) 0 rfl (of_decide_eq_true rfl) noV C (⟨none, 0, ⟨na, 0, 0, [], noO⟩⟩ : Cv) (.int .i64 na) rfl rfl rfl rfl ?_; intro w2 C' f2 g2 s2; have T' := T.far (f2 w.heap.size (by omega)) hgle; have D' := D.block (f2 w.heap.size (by omega)) hglt; have R' := R.block (f2 (w.heap.size + 1) (Nat.le_refl _)) (by omega); clear C T D R; have C := C'; have T := T'; have D := D'; have R := R'; clear C' T' D' R' f2 g2 s2))
   clear qu
   by_cases hok : k2 ≠ 0 ∧ b ≤ 1048576
   rotate_left 1
   · have hbd : k2 = 0 ∨ (1048576 : Int) < b := by omega
     have HQ0 : Hid (q = none) := aside (by rw [← HQ.out]; exact (HHF.out.bad2 HHB.out (by omega)))
     refine (num_no D (sl_far S1 hno T.grown) (by rw [L1.out]; exact HHF.out.h2) hbd).mono ?_
     rintro e W1 ⟨rfl, kx⟩
     go_wp2_with fail
     exact ⟨rfl, ComOut.none HQ0.out rfl (T.trans (Turned.of_below kx (Nat.le_trans hgle T.grown.size)))⟩
   · obtain ⟨ok1, ok2⟩ := hok
     have hkb := ok1
     have hbm := ok2
     refine (num_yes (l2 := l2) D (sl_far S1 hno T.grown) (by rw [L1.out]; exact HHF.out.h2) (by rw [L1.out]; exact HHF.out.e2) ok1 (by omega)).mono ?_
     rintro e w2 ⟨rfl, r2, Q, P2⟩
     have T' := T.trans Q.turned
     have S2 := P2 w S1
     have L2 := aside Q.left
     have D' := Q.box
     have R' := R.kept Q.turned.grown (far_ne (by omega))
     have C' := C.kept Q.turned.grown (far_ne (by omega))
     clear T R C D Q
     have T := T'
     have D := D'
     have R := R'
     have C := C'
     clear T' D' R' C'
     have wb : IntKind.i64.wrap (b : Int) = b := by rw [IntKind.wrap_i64]; omega
     clear ok1 ok2 S1 L1 P1
     go_wp2_with (first | go_skip | (refine Cel.wpList_store_field CE rfl rfl 3 _ _ rfl info_i (w.heap.size + 1) 1 rfl (of_decide_eq_true rfl) (⟨none, 0, ⟨na, 0, 0, [], noO⟩⟩ : Cv) C (⟨none, 0, ⟨na, b, 0, [], noO⟩⟩ : Cv) (.int .i64 b) rfl rfl rfl rfl ?_; intro w2 C' f2 g2 s2; have T' := T.far (f2 w.heap.size (by omega)) hgle; have D' := D.block (f2 w.heap.size (by omega)) hglt; have R' := R.block (f2 (w.heap.size + 1) (Nat.le_refl _)) (by omega); clear C T D R; have C := C'; have T := T'; have D := D'; have R := R'; clear C' T' D' R' f2 g2 s2))
     clear wb
     by_cases hok : k3 ≠ 0 ∧ gn ≤ 1048576
     rotate_left 1
     · have hbd : k3 = 0 ∨ (1048576 : Int) < gn := by omega
       have HQ0 : Hid (q = none) := aside (by rw [← HQ.out]; exact (HHF.out.bad3 HHB.out (by omega)))
       refine (num_no D (sl_far S2 hno T.grown) (by rw [L2.out]; exact HHF.out.h3) hbd).mono ?_
       rintro e W1 ⟨rfl, kx⟩
       go_wp2_with fail
       exact ⟨rfl, ComOut.none HQ0.out rfl (T.trans (Turned.of_below kx (Nat.le_trans hgle T.grown.size)))⟩
     · obtain ⟨ok1, ok2⟩ := hok
       have hkg := ok1
       have hgm := ok2
       refine (num_yes (l2 := l3) D (sl_far S2 hno T.grown) (by rw [L2.out]; exact HHF.out.h3) (by rw [L2.out]; exact HHF.out.e3) ok1 (by omega)).mono ?_
       rintro e w3 ⟨rfl, r3, Q, P3⟩
       have T' := T.trans Q.turned
       have S3 := P3 w S2
       have L3 := aside Q.left
       have D' := Q.box
       have R' := R.kept Q.turned.grown (far_ne (by omega))
       have C' := C.kept Q.turned.grown (far_ne (by omega))
       clear T R C D Q
       have T := T'
       have D := D'
       have R := R'
       have C := C'
       clear T' D' R' C'
       have wg : IntKind.i64.wrap (gn : Int) = gn := by rw [IntKind.wrap_i64]; omega
       clear ok1 ok2 S2 L2 P2
       go_wp2_with (first | go_skip | (refine Cel.wpList_store_field CE rfl rfl 3 _ _ rfl info_i (w.heap.size + 1) 2 rfl (of_decide_eq_true rfl) (⟨none, 0, ⟨na, b, 0, [], noO⟩⟩ : Cv) C (⟨none, 0, ⟨na, b, gn, [], noO⟩⟩ : Cv) (.int .i64 gn) rfl rfl rfl rfl ?_; intro w2 C' f2 g2 s2; have T' := T.far (f2 w.heap.size (by omega)) hgle; have D' := D.block (f2 w.heap.size (by omega)) hglt; have R' := R.block (f2 (w.heap.size + 1) (Nat.le_refl _)) (by omega); clear C T D R; have C := C'; have T := T'; have D := D'; have R := R'; clear C' T' D' R' f2 g2 s2))
       clear wg
       by_cases hok : k4 ≠ 0 ∧ n ≤ 8
       rotate_left 1
       · have hbd : k4 = 0 ∨ (8 : Int) < n := by omega
         have HQ0 : Hid (q = none) := aside (by rw [← HQ.out]; exact (HHF.out.bad4 (by omega)))
         refine (num_no D (sl_far S3 hno T.grown) (by rw [L3.out]; exact HHF.out.h4) hbd).mono ?_
         rintro e W1 ⟨rfl, kx⟩
         go_wp2_with fail
         exact ⟨rfl, ComOut.none HQ0.out rfl (T.trans (Turned.of_below kx (Nat.le_trans hgle T.grown.size)))⟩
       · obtain ⟨ok1, ok2⟩ := hok
         refine (num_yes (l2 := l4) D (sl_far S3 hno T.grown) (by rw [L3.out]; exact HHF.out.h4) (by rw [L3.out]; exact HHF.out.e4) ok1 (by omega)).mono ?_
         rintro e w4 ⟨rfl, r4, Q, P4⟩
         have T' := T.trans Q.turned
         have S4 := P4 w S3
         have L4 := aside Q.left
         have D' := Q.box
         have R' := R.kept Q.turned.grown (far_ne (by omega))
         have C' := C.kept Q.turned.grown (far_ne (by omega))
         clear T R C D Q
         have T := T'
         have D := D'
         have R := R'
         have C := C'
         clear T' D' R' C'
         have HQ2 : Hid (q = match idsL n l4 with | none => none | some (ps, r) => match opG na r with | none => none | some (o, r2) => keepK (⟨na, b, gn, ps, o⟩, r2)) := aside (by rw [← HQ.out, ← HNA.out]; exact HHF.out.good hka ⟨hkb, hbm⟩ ⟨hkg, hgm⟩ ok1)
         have hn8 := ok2
         clear ok1 ok2 S3 L3 P3 HQ HNA hka hkb hkg fn HHF HHB m1 m2 m3 hl hrl P4 S0
         go_wp2_with (first | go_skip)
         have HI0 : Hid (Inv na b gn l4 0 r4 (⟨none, 0, ⟨na, b, gn, [], noO⟩⟩ : Cv)) := aside ⟨rfl, .inl rfl, by rw [L4.out]; rfl⟩
         go_loopw [21] (fun i wr => ∃ (k : Nat) (rd : Pd) (cv : Cv), i = .int .u64 k ∧ k ≤ n ∧ Hid (Inv na b gn l4 k rd cv) ∧ Cel.Box CE wr w.heap.size noV ∧ Cel.Box PE wr g rd ∧ Cel.Box CE wr (w.heap.size + 1) cv ∧ Hid (wr.ownsRow w.heap.size 75 32 (.slice cv.a cv.c.ps.length cv.k) cv.c.ps.length (bv (flat cv.c.ps))) ∧ Sl w rd.a rd.k rd.l ∧ Turned g w wr) (fun i _ => n - (intOf i).toNat)
         case atStart => exact ⟨0, r4, (⟨none, 0, ⟨na, b, gn, [], noO⟩⟩ : Cv), rfl, Nat.zero_le _, HI0, R, D, C, aside ⟨rfl, .inl ⟨rfl, rfl⟩⟩, S4, T⟩
         case round =>
           clear HI0 R D C T S4 L4
           obtain ⟨k, rd, cv, rfl, hk, HI, R, D, C, HO, S, T⟩ := hrel
           have hrowc := aside (row_far HO.out HI.out.nil C (no_cm C))
           have hrowr := aside (row_far HO.out HI.out.nil R (no_cm R))
           obtain ⟨hpk0, hrl⟩ := HI.out.length
           have hpk := aside hpk0
           have hp9 : cv.c.ps.length ≤ 8 := by omega
           clear hpk0
           have SS := sl_far S hno T.grown
           by_cases hlt : k < n
           · have p0 : (k : Int) < n := by omega
             by_cases h32 : rd.l.length < 32
             · have HQ0 : Hid (q = none) := aside (by rw [HQ2.out, idsL_stop k n HI.out.ids h32 hlt])
               go_wp2_with (first | go_skip)
               refine Forks.region grows (by kernel_rfl) (by kernel_rfl) rfl (by kernel_rfl) (by intro c a d v w h; cases d <;> exact h) ?_
               unfold grows
               rename World => V
               have kd := below_drew1 (Below.refl V.heap.size V)
               have T' := T.far (kd.mono T.grown.size) hgle
               have R' := R.below kd
               have C' := C.below kd
               have D' := D.below kd
               have HO' := aside (owns_below HO.out kd)
               have SS' := SS.below kd
               clear R C D SS HO T
               have R := R'
               have C := C'
               have D := D'
               have HO := HO'
               have SS := SS'
               have T := T'
               clear R' C' D' SS' HO' T' kd
               generalize V.drew = wz at R C D HO SS T ⊢
               have c3 := cell_ps C
               repeat (refine Forks.reads rfl rfl ?_; go_big_quiet_step (fail); refine wpQuiet_nil ?_; (try simp only [Act.put, List.setIfInBounds_toArray, List.set_cons_succ, List.set_cons_zero]))
               refine Forks.forks rfl rfl ?_ ?_
               · go_wp2_with fail
                 refine Forks.on ?_
                 (try simp only [Act.put, List.setIfInBounds_toArray, List.set_cons_succ, List.set_cons_zero])
                 refine Forks.acts rfl ?_
                 go_wp2_with fail
                 refine (id_no D h32).mono ?_
                 rintro e W1 ⟨rfl, kx⟩
                 go_wp2_with fail
                 exact ⟨rfl, ComOut.none HQ0.out rfl (T.trans (Turned.of_below kx (Nat.le_trans hgle T.grown.size)))⟩
               · go_wp2_with fail
                 refine (id_no D h32).mono ?_
                 rintro e W1 ⟨rfl, kx⟩
                 go_wp2_with fail
                 exact ⟨rfl, ComOut.none HQ0.out rfl (T.trans (Turned.of_below kx (Nat.le_trans hgle T.grown.size)))⟩
             · have HX : Hid (∃ x, headI rd.l = x) := aside ⟨_, rfl⟩
               obtain ⟨x, hx⟩ := HX.out
               clear HX
               have HX := aside hx
               clear hx
               have h33 : 32 ≤ rd.l.length := by omega
               have hm33 := aside h33
               clear h33
               go_wp2_with (first | go_skip)
               refine Forks.region grows (by kernel_rfl) (by kernel_rfl) rfl (by kernel_rfl) (by intro c a d v w h; cases d <;> exact h) ?_
               unfold grows
               rename World => V
               have kd := below_drew1 (Below.refl V.heap.size V)
               have T' := T.far (kd.mono T.grown.size) hgle
               have R' := R.below kd
               have C' := C.below kd
               have D' := D.below kd
               have HO' := aside (owns_below HO.out kd)
               have SS' := SS.below kd
               clear R C D SS HO T
               have R := R'
               have C := C'
               have D := D'
               have HO := HO'
               have SS := SS'
               have T := T'
               clear R' C' D' SS' HO' T' kd
               generalize V.drew = wz at R C D HO SS T ⊢
               have c3 := cell_ps C
               repeat (refine Forks.reads rfl rfl ?_; go_big_quiet_step (fail); refine wpQuiet_nil ?_; (try simp only [Act.put, List.setIfInBounds_toArray, List.set_cons_succ, List.set_cons_zero]))
               refine Forks.forks rfl rfl ?_ ?_
               · skip
                 go_wp2_with fail
                 refine Forks.on ?_
                 (try simp only [Act.put, List.setIfInBounds_toArray, List.set_cons_succ, List.set_cons_zero])
                 refine Forks.acts rfl ?_
                 go_wp2_with fail
                 refine (id_yes D SS hm33.out).mono ?_
                 rintro e WI ⟨rfl, r1, Q, P1⟩
                 go_wp2_with fail
                 refine Forks.on ?_
                 (try simp only [Act.put, List.setIfInBounds_toArray, List.set_cons_succ, List.set_cons_zero])
                 rw [HX.out]
                 have T' := T.trans Q.turned
                 have S1 := P1 w S
                 have L1 := aside Q.left
                 have D' := Q.box
                 have R' := R.kept Q.turned.grown (far_ne (by omega))
                 have C' := C.kept Q.turned.grown (far_ne (by omega))
                 have HO' := aside (HO.out.kept Q.turned.grown (row_far HO.out HI.out.nil D (no_pd D)))
                 clear T R C D HO Q c3
                 have T := T'
                 have D := D'
                 have R := R'
                 have C := C'
                 have HO := HO'
                 clear T' D' R' C' HO'
                 have c3 := cell_ps C
                 refine Forks.acts rfl ?_
                 go_wp2_with (first | (refine wpList_build_one rfl _ rfl x rfl ?_; intro WB SB kB))
                 refine Forks.on ?_
                 (try simp only [Act.put, List.setIfInBounds_toArray, List.set_cons_succ, List.set_cons_zero])
                 have T' := T.far (kB.mono T.grown.size) hgle
                 have R' := R.below kB
                 have C' := C.below kB
                 have D' := D.below kB
                 have HO' := aside (owns_below HO.out kB)
                 clear R C D HO T c3 kB
                 have R := R'
                 have C := C'
                 have D := D'
                 have HO := HO'
                 have T := T'
                 clear R' C' D' HO' T'
                 have c3 := cell_ps C
                 refine Forks.acts rfl ?_
                 refine wpList_append_ids rfl (.tmp 24) (.tmp 27) rfl w.heap.size (.slice cv.a cv.c.ps.length cv.k) cv.c.ps.length cv.c.ps rfl HO.out _ 1 1 [x] rfl rfl SB (by omega) T.grown.size ?_
                 intro v6 w6 o6 g6
                 go_wp2_with fail
                 refine Forks.on ?_
                 (try simp only [Act.put, List.setIfInBounds_toArray, List.set_cons_succ, List.set_cons_zero])
                 have k6 := below_grown (Below.refl w.heap.size _) T.grown.size g6 (fun q hq => (HO.out.lt q hq).1)
                 have T6 := T.far k6 hgle
                 have D6 := D.block k6 hglt
                 have R6 := R.kept g6 (ne_of hrowr.out)
                 have C6 := C.kept g6 (ne_of hrowc.out)
                 obtain ⟨PS, hPS⟩ : ∃ l, cv.c.ps ++ [x] = l := ⟨_, rfl⟩
                 have hpl : PS.length = cv.c.ps.length + 1 := (by rw [← hPS]; simp)
                 have HPS := aside hPS
                 rw [hPS] at o6
                 clear hPS
                 obtain ⟨A6, c6, rfl, S6⟩ := SlI.own o6
                 have hf6 := row_far o6 (.inr (by omega)) C6 (no_cm C6)
                 have HPL := aside hpl
                 clear hpl R C D HO T SB g6 k6 c3 S6
                 refine Forks.reads rfl rfl ?_; go_big_quiet_step (fail); refine wpQuiet_nil ?_; (try simp only [Act.put, List.setIfInBounds_toArray, List.set_cons_succ, List.set_cons_zero])
                 refine Forks.acts rfl ?_
                 go_wp2_with (first | (refine Cel.wpList_store_field CE rfl rfl 25 _ _ rfl info_p (w.heap.size + 1) 3 rfl (of_decide_eq_true rfl) cv C6 (⟨A6, c6, { cv.c with ps := PS }⟩ : Cv) _ rfl rfl rfl rfl ?_; intro w7 C7 f7 g7 s7))
                 refine Forks.on ?_
                 (try simp only [Act.put, List.setIfInBounds_toArray, List.set_cons_succ, List.set_cons_zero])
                 have R7 := R6.block (f7 (w.heap.size + 1) (Nat.le_refl _)) (by omega)
                 have D7 := D6.block (f7 w.heap.size (by omega)) hglt
                 have o7 := o6.kept g7 hf6
                 have T7 := T6.far (f7 w.heap.size (by omega)) hgle
                 clear hf6 f7 g7 s7 R6 C6 D6 T6 o6
                 refine Forks.ends ?_
                 clear hrowc hrowr
                 have HJ : Hid (Inv na b gn l4 (k + 1) r1 ⟨A6, c6, { cv.c with ps := PS }⟩) := aside (HI.out.next HB4.out hm33.out (by rw [HX.out, HPS.out]) L1.out A6 c6)
                 go_wp2_with (first | go_skip)
                 go_roundw
                 case rel => exact ⟨k + 1, r1, ⟨A6, c6, { cv.c with ps := PS }⟩, by go_num, by omega, HJ, R7, D7, C7, aside (by simpa only [HPL.out] using o7), S1, T7⟩
                 case measure => simp [intOf]; omega
               · skip
                 go_wp2_with fail
                 refine (id_yes D SS hm33.out).mono ?_
                 rintro e WI ⟨rfl, r1, Q, P1⟩
                 go_wp2_with fail
                 refine Forks.on ?_
                 (try simp only [Act.put, List.setIfInBounds_toArray, List.set_cons_succ, List.set_cons_zero])
                 rw [HX.out]
                 have T' := T.trans Q.turned
                 have S1 := P1 w S
                 have L1 := aside Q.left
                 have D' := Q.box
                 have R' := R.kept Q.turned.grown (far_ne (by omega))
                 have C' := C.kept Q.turned.grown (far_ne (by omega))
                 have HO' := aside (HO.out.kept Q.turned.grown (row_far HO.out HI.out.nil D (no_pd D)))
                 clear T R C D HO Q c3
                 have T := T'
                 have D := D'
                 have R := R'
                 have C := C'
                 have HO := HO'
                 clear T' D' R' C' HO'
                 have c3 := cell_ps C
                 refine Forks.forks rfl rfl ?_ ?_
                 · skip
                   go_wp2_with fail
                   refine Forks.on ?_
                   (try simp only [Act.put, List.setIfInBounds_toArray, List.set_cons_succ, List.set_cons_zero])
                   refine Forks.acts rfl ?_
                   go_wp2_with (first | (refine wpList_build_one rfl _ rfl x rfl ?_; intro WB SB kB))
                   refine Forks.on ?_
                   (try simp only [Act.put, List.setIfInBounds_toArray, List.set_cons_succ, List.set_cons_zero])
                   have T' := T.far (kB.mono T.grown.size) hgle
                   have R' := R.below kB
                   have C' := C.below kB
                   have D' := D.below kB
                   have HO' := aside (owns_below HO.out kB)
                   clear R C D HO T c3 kB
                   have R := R'
                   have C := C'
                   have D := D'
                   have HO := HO'
                   have T := T'
                   clear R' C' D' HO' T'
                   have c3 := cell_ps C
                   refine Forks.acts rfl ?_
                   refine wpList_append_ids rfl (.tmp 24) (.tmp 27) rfl w.heap.size (.slice cv.a cv.c.ps.length cv.k) cv.c.ps.length cv.c.ps rfl HO.out _ 1 1 [x] rfl rfl SB (by omega) T.grown.size ?_
                   intro v6 w6 o6 g6
                   go_wp2_with fail
                   refine Forks.on ?_
                   (try simp only [Act.put, List.setIfInBounds_toArray, List.set_cons_succ, List.set_cons_zero])
                   have k6 := below_grown (Below.refl w.heap.size _) T.grown.size g6 (fun q hq => (HO.out.lt q hq).1)
                   have T6 := T.far k6 hgle
                   have D6 := D.block k6 hglt
                   have R6 := R.kept g6 (ne_of hrowr.out)
                   have C6 := C.kept g6 (ne_of hrowc.out)
                   obtain ⟨PS, hPS⟩ : ∃ l, cv.c.ps ++ [x] = l := ⟨_, rfl⟩
                   have hpl : PS.length = cv.c.ps.length + 1 := (by rw [← hPS]; simp)
                   have HPS := aside hPS
                   rw [hPS] at o6
                   clear hPS
                   obtain ⟨A6, c6, rfl, S6⟩ := SlI.own o6
                   have hf6 := row_far o6 (.inr (by omega)) C6 (no_cm C6)
                   have HPL := aside hpl
                   clear hpl R C D HO T SB g6 k6 c3 S6
                   refine Forks.reads rfl rfl ?_; go_big_quiet_step (fail); refine wpQuiet_nil ?_; (try simp only [Act.put, List.setIfInBounds_toArray, List.set_cons_succ, List.set_cons_zero])
                   refine Forks.acts rfl ?_
                   go_wp2_with (first | (refine Cel.wpList_store_field CE rfl rfl 25 _ _ rfl info_p (w.heap.size + 1) 3 rfl (of_decide_eq_true rfl) cv C6 (⟨A6, c6, { cv.c with ps := PS }⟩ : Cv) _ rfl rfl rfl rfl ?_; intro w7 C7 f7 g7 s7))
                   refine Forks.on ?_
                   (try simp only [Act.put, List.setIfInBounds_toArray, List.set_cons_succ, List.set_cons_zero])
                   have R7 := R6.block (f7 (w.heap.size + 1) (Nat.le_refl _)) (by omega)
                   have D7 := D6.block (f7 w.heap.size (by omega)) hglt
                   have o7 := o6.kept g7 hf6
                   have T7 := T6.far (f7 w.heap.size (by omega)) hgle
                   clear hf6 f7 g7 s7 R6 C6 D6 T6 o6
                   refine Forks.ends ?_
                   clear hrowc hrowr
                   have HJ : Hid (Inv na b gn l4 (k + 1) r1 ⟨A6, c6, { cv.c with ps := PS }⟩) := aside (HI.out.next HB4.out hm33.out (by rw [HX.out, HPS.out]) L1.out A6 c6)
                   go_wp2_with (first | go_skip)
                   go_roundw
                   case rel => exact ⟨k + 1, r1, ⟨A6, c6, { cv.c with ps := PS }⟩, by go_num, by omega, HJ, R7, D7, C7, aside (by simpa only [HPL.out] using o7), S1, T7⟩
                   case measure => simp [intOf]; omega
                 · skip
                   go_wp2_with (first | (refine wpList_build_one rfl _ rfl x rfl ?_; intro WB SB kB))
                   refine Forks.on ?_
                   (try simp only [Act.put, List.setIfInBounds_toArray, List.set_cons_succ, List.set_cons_zero])
                   have T' := T.far (kB.mono T.grown.size) hgle
                   have R' := R.below kB
                   have C' := C.below kB
                   have D' := D.below kB
                   have HO' := aside (owns_below HO.out kB)
                   clear R C D HO T c3 kB
                   have R := R'
                   have C := C'
                   have D := D'
                   have HO := HO'
                   have T := T'
                   clear R' C' D' HO' T'
                   have c3 := cell_ps C
                   refine Forks.acts rfl ?_
                   go_wp2_with fail
                   refine Forks.on ?_
                   (try simp only [Act.put, List.setIfInBounds_toArray, List.set_cons_succ, List.set_cons_zero])
                   refine Forks.acts rfl ?_
                   refine wpList_append_ids rfl (.tmp 24) (.tmp 27) rfl w.heap.size (.slice cv.a cv.c.ps.length cv.k) cv.c.ps.length cv.c.ps rfl HO.out _ 1 1 [x] rfl rfl SB (by omega) T.grown.size ?_
                   intro v6 w6 o6 g6
                   go_wp2_with fail
                   refine Forks.on ?_
                   (try simp only [Act.put, List.setIfInBounds_toArray, List.set_cons_succ, List.set_cons_zero])
                   have k6 := below_grown (Below.refl w.heap.size _) T.grown.size g6 (fun q hq => (HO.out.lt q hq).1)
                   have T6 := T.far k6 hgle
                   have D6 := D.block k6 hglt
                   have R6 := R.kept g6 (ne_of hrowr.out)
                   have C6 := C.kept g6 (ne_of hrowc.out)
                   obtain ⟨PS, hPS⟩ : ∃ l, cv.c.ps ++ [x] = l := ⟨_, rfl⟩
                   have hpl : PS.length = cv.c.ps.length + 1 := (by rw [← hPS]; simp)
                   have HPS := aside hPS
                   rw [hPS] at o6
                   clear hPS
                   obtain ⟨A6, c6, rfl, S6⟩ := SlI.own o6
                   have hf6 := row_far o6 (.inr (by omega)) C6 (no_cm C6)
                   have HPL := aside hpl
                   clear hpl R C D HO T SB g6 k6 c3 S6
                   refine Forks.reads rfl rfl ?_; go_big_quiet_step (fail); refine wpQuiet_nil ?_; (try simp only [Act.put, List.setIfInBounds_toArray, List.set_cons_succ, List.set_cons_zero])
                   refine Forks.acts rfl ?_
                   go_wp2_with (first | (refine Cel.wpList_store_field CE rfl rfl 25 _ _ rfl info_p (w.heap.size + 1) 3 rfl (of_decide_eq_true rfl) cv C6 (⟨A6, c6, { cv.c with ps := PS }⟩ : Cv) _ rfl rfl rfl rfl ?_; intro w7 C7 f7 g7 s7))
                   refine Forks.on ?_
                   (try simp only [Act.put, List.setIfInBounds_toArray, List.set_cons_succ, List.set_cons_zero])
                   have R7 := R6.block (f7 (w.heap.size + 1) (Nat.le_refl _)) (by omega)
                   have D7 := D6.block (f7 w.heap.size (by omega)) hglt
                   have o7 := o6.kept g7 hf6
                   have T7 := T6.far (f7 w.heap.size (by omega)) hgle
                   clear hf6 f7 g7 s7 R6 C6 D6 T6 o6
                   refine Forks.ends ?_
                   clear hrowc hrowr
                   have HJ : Hid (Inv na b gn l4 (k + 1) r1 ⟨A6, c6, { cv.c with ps := PS }⟩) := aside (HI.out.next HB4.out hm33.out (by rw [HX.out, HPS.out]) L1.out A6 c6)
                   go_wp2_with (first | go_skip)
                   go_roundw
                   case rel => exact ⟨k + 1, r1, ⟨A6, c6, { cv.c with ps := PS }⟩, by go_num, by omega, HJ, R7, D7, C7, aside (by simpa only [HPL.out] using o7), S1, T7⟩
                   case measure => simp [intOf]; omega
           · have e : k = n := by omega
             subst e
             have pn : ¬ (k : Int) < k := by omega
             have HQ3 : Hid (q = match opG na rd.l with | none => none | some (o, r2) => keepK (⟨na, b, gn, cv.c.ps, o⟩, r2)) := aside (by rw [HQ2.out, HI.out.ids])
             have IN := in_of_row HO.out
             have hcom := aside HI.out.com
             have hm := aside (Nat.le_trans hrl m4)
             have d0 := cell_node C
             rw [show cv.c.node = na by rw [hcom.out]] at d0
             clear HQ2 HI HO hrowc hrowr HB4 hlt hpk hp9 hrl m4 hk
             by_cases hna : na = -1
             · have HQ4 : Hid (q = keepK (cv.c, rd.l)) := aside (by rw [HQ3.out, hna]; unfold opG; rw [if_pos rfl]; simp only; rw [← hna, ← hcom.out])
               have hfit : Fit cv.c := by rw [hcom.out]; exact ⟨Ia.out, (by unfold I64; simp only; omega), (by unfold I64; simp only; omega), fit_no⟩
               rw [hna] at d0
               clear HQ3 hcom
               go_wp2_with (first | go_skip | (refine Cel.wpList_load_box CE rfl _ rfl _ rfl cv C ?_))
               clear d0
               refine (CmV.may_ret cv _ IN hfit).mono ?_
               rintro e wm ⟨rfl, km⟩
               have T' := T.far (km.mono T.grown.size) hgle
               have R' := R.below km
               have C' := C.below km
               have D' := D.below km
               have IN' := IN.below km
               have SS' := SS.below km
               clear R C D T SS IN km
               have R := R'
               have C := C'
               have D := D'
               have T := T'
               have SS := SS'
               have IN := IN'
               clear R' C' D' T' SS' IN'
               obtain ⟨bm, hbm2⟩ : ∃ x, mayK cv.c = x := ⟨_, rfl⟩
               rw [hbm2]
               have HM := aside hbm2
               clear hbm2
               cases bm with
               | false =>
                 have HQ0 : Hid (q = none) := aside (by rw [HQ4.out, keepK, if_neg (by rw [HM.out]; simp)])
                 go_wp2_with (first | go_skip)
                 exact ⟨rfl, ComOut.none HQ0.out rfl T⟩
               | true =>
                 have HQ5 := HQ4.out
                 rw [keepK, if_pos HM.out] at HQ5
                 have HQ6 := aside HQ5
                 clear HQ5
                 go_wp2_with (first | go_skip | (refine Cel.wpList_load_box CE rfl _ rfl _ rfl cv C ?_) | (refine Cel.wpList_store_box CE rfl _ _ rfl w.heap.size rfl noV R cv rfl ?_; intro w6 R6 f6 g6 s6))
                 exact bodyPost_ret (v := .agg (cc cv)) (results_c Tryz.results93 _ _ w.heap.size cv rfl R6) rfl (ComOut.some HQ6.out cv _ rfl rfl (sli_far IN (no_cm R) g6) (D.block (f6 w.heap.size (Nat.le_refl _)) hglt) rfl (sl_far SS (no_cm R) g6) (T.far (f6 w.heap.size (Nat.le_refl _)) hgle))
             · have HQ4 : Hid (q = match getO rd.l with | none => none | some (o, r2) => keepK (⟨na, b, gn, cv.c.ps, o⟩, r2)) := aside (by rw [HQ3.out]; unfold opG; rw [if_neg hna])
               have hne : (na != -1) = true := by simpa using hna
               clear HQ3
               cases hop : getO rd.l with
               | none =>
                 have HQ0 : Hid (q = none) := aside (by rw [HQ4.out, hop])
                 go_wp2_with (first | go_skip)
                 refine (op_no D SS hm.out hop).mono ?_
                 rintro e W1 ⟨rfl, kx⟩
                 go_wp2_with fail
                 exact ⟨rfl, ComOut.none HQ0.out rfl (T.trans (Turned.of_below kx (Nat.le_trans hgle T.grown.size)))⟩
               | some p =>
                 obtain ⟨oo, lo⟩ := p
                 have hmo := (put_get SS.bytes hop).1
                 have HQ5 : Hid (q = keepK (⟨na, b, gn, cv.c.ps, oo⟩, lo)) := aside (by rw [HQ4.out, hop])
                 obtain ⟨cv2, hcv⟩ : ∃ v : Cv, (⟨cv.a, cv.k, { cv.c with op := oo }⟩ : Cv) = v := ⟨_, rfl⟩
                 have HCV := aside hcv
                 have hc2 : cv2.c = ⟨na, b, gn, cv.c.ps, oo⟩ := by rw [← hcv]; show { cv.c with op := oo } = _; rw [hcom.out]
                 have hfit : Fit cv2.c := by rw [hc2]; exact ⟨Ia.out, (by unfold I64; simp only; omega), (by unfold I64; simp only; omega), OpsE.mayO_fit hmo⟩
                 rw [← hc2] at HQ5
                 clear hcv hc2 HQ4 hmo
                 go_wp2_with (first | go_skip)
                 refine (op_yes D SS hm.out hop).mono ?_
                 rintro e wo ⟨rfl, ro, Q⟩
                 clear hop
                 have T' := T.trans Q.turned
                 have SS' := Q.sl
                 have Lo := Q.left
                 have D' := Q.box
                 have R' := R.kept Q.turned.grown (far_ne (by omega))
                 have C' := C.kept Q.turned.grown (far_ne (by omega))
                 have IN' : In _ cv := sli_far IN (no_pd D) Q.turned.grown
                 clear T R C D IN SS d0
                 have T := T'
                 have D := D'
                 have R := R'
                 have C := C'
                 have IN := IN'
                 have SS := SS'
                 clear T' D' R' C' IN' SS' Q
                 subst Lo
                 go_wp2_with (first | go_skip | (refine Cel.wpList_store_part CE rfl rfl 27 _ _ rfl (w.heap.size + 1) 4 rfl cv C cv2 (opc oo) (info_opc oo) rfl (opc_one oo) (of_decide_eq_true rfl) (by rw [← HCV.out]; rfl) ?_; intro w4 C4 f4 g4 s4; have R4 := R.block (f4 (w.heap.size + 1) (Nat.le_refl _)) (by omega); have D4 := D.block (f4 w.heap.size (by omega)) hglt; have T4 := T.far (f4 w.heap.size (by omega)) hgle; have S4 := sl_far SS (no_cm C) g4; have IN4 : In w4 cv2 := (by rw [← HCV.out]; exact sli_far IN (no_cm C) g4); clear R C D IN T SS f4 g4 s4; have R := R4; have C := C4; have D := D4; have IN := IN4; have T := T4; have SS := S4; clear R4 C4 D4 IN4 T4 S4) | (refine Cel.wpList_load_box CE rfl _ rfl _ rfl cv2 C ?_))
                 refine (CmV.may_ret cv2 _ IN hfit).mono ?_
                 rintro e wm ⟨rfl, km⟩
                 have T' := T.far (km.mono T.grown.size) hgle
                 have R' := R.below km
                 have C' := C.below km
                 have D' := D.below km
                 have IN' := IN.below km
                 have SS' := SS.below km
                 clear R C D T SS IN km
                 have R := R'
                 have C := C'
                 have D := D'
                 have T := T'
                 have SS := SS'
                 have IN := IN'
                 clear R' C' D' T' SS' IN'
                 obtain ⟨bm, hbm2⟩ : ∃ x, mayK cv2.c = x := ⟨_, rfl⟩
                 rw [hbm2]
                 have HM := aside hbm2
                 clear hbm2
                 cases bm with
                 | false =>
                   have HQ0 : Hid (q = none) := aside (by rw [HQ5.out, keepK, if_neg (by rw [HM.out]; simp)])
                   go_wp2_with (first | go_skip)
                   exact ⟨rfl, ComOut.none HQ0.out rfl T⟩
                 | true =>
                   have HQ5 := HQ5.out
                   rw [keepK, if_pos HM.out] at HQ5
                   have HQ6 := aside HQ5
                   clear HQ5
                   go_wp2_with (first | go_skip | (refine Cel.wpList_load_box CE rfl _ rfl _ rfl cv2 C ?_) | (refine Cel.wpList_store_box CE rfl _ _ rfl w.heap.size rfl noV R cv2 rfl ?_; intro w6 R6 f6 g6 s6))
                   exact bodyPost_ret (v := .agg (cc cv2)) (results_c Tryz.results93 _ _ w.heap.size cv2 rfl R6) rfl (ComOut.some HQ6.out cv2 _ rfl rfl (sli_far IN (no_cm R) g6) (D.block (f6 w.heap.size (Nat.le_refl _)) hglt) rfl (sl_far SS (no_cm R) g6) (T.far (f6 w.heap.size (Nat.le_refl _)) hgle))
end Go.Proofs.YtgoapaanmcmlmaaGreatDoor.CmF
