/- What enc.Get returns: a contract. | Bytes in regions that draw their order: laws for the walk. No condition. | A region that draws its order, whose calls wait for one another, and in which nothing that was there is written anew: one order serves every order. No condition. | What enc.Cut returns: a contract. | Plain facts on texts in bytes: what is put is cut off again. No condition. | Which texts may be keys: plain facts. No condition. -/
import Derived.Test.YtgoapaanmcmlmaaGreatDoorEncMJ4
import Derived.Test.YtgoapaanmcmlmaaGreatDoorRowInJ3
import Derived.Deep.RegionLaw
import Derived.WalkKit
import Derived.BigQuiet
import Derived.Lib.QuietBelow
import Derived.OrdersHeld
namespace Go.Proofs.YtgoapaanmcmlmaaGreatDoor.EncG
set_option maxRecDepth 100000
open Go.RowKit Go.Shelf Byt EncM EncP EncD EncC
attribute [local go_sem] Oper.semAt_some
theorem stays {X Y : World} {row : Option Nat} {g : Nat} {t : TypeId} {v : Value} (h : Boxed X g t v) (hg : X.grownBy Y row) (hr : ∀ r, row = some r → ∃ o : Obj, X.heap[r]? = some o ∧ o.isCells = false) : Boxed Y g t v :=
 h.kept hg (fun e => by obtain ⟨o, ho, hc⟩ := hr g e.symm; rw [show X.heap[g]? = _ from h] at ho; cases ho; cases hc)
def Inv (N : Nat) (pre : List Dg) (W : World) : Prop :=
 ∃ n : Nat, n < 2 ^ (7 * pre.length) ∧ (∀ rest, getP 0 0 (pre ++ rest) = getP pre.length n rest) ∧ (∀ p ∈ pre, p.1.2 = false) ∧
   Boxed W N 72 (.int .u64 0) ∧ Boxed W (N + 1) 3 (.int .i64 0) ∧ Boxed W (N + 1 + 1) 72 (.int .u64 n) ∧ Boxed W (N + 1 + 1 + 1) 3 (.int .i64 pre.length)
def Out (N : Nat) (c : Code) (pre : List Dg) (W : World) : Prop :=
 c = .ret ∧ ∃ n k : Nat, (∀ rest, getP 0 0 (pre ++ rest) = (n, k)) ∧ Boxed W N 72 (.int .u64 n) ∧ Boxed W (N + 1) 3 (.int .i64 k)
set_option maxRecDepth 100000 in
set_option maxHeartbeats 2000000 in
theorem get_in (F : Fence) (n : Nat) (h1 : F.fn 115) (h2 : F.fn 145) (h3 : F.fn 157) (hro : F.round = none) (hn : 3 ≤ n) (A : Option Addr) (len cap : Nat) (bs : List Int) (w : World) (hS : Sl w A cap bs) (hl : bs.length = len) :
   CallsIn F n Tryz.prog 115 #[.slice A len cap] w fun e w' => e = .returned (.tuple #[.int .u64 ((getL bs).1 : Nat), .int .i64 ((getL bs).2 : Nat)]) ∧ Below w.heap.size w w' := by
 subst hl
 have hn1 : 1 ≤ n := by omega
 refine callsIn_of_wp_marks Tryz.func115 rfl h1 ?_ hro
 simp only [Tryz.ntmps115, List.size_toArray, List.length_cons, List.length_nil, Nat.reduceAdd, Nat.reduceSub, Array.replicate_succ, Array.replicate_zero, List.push_toArray, List.append_toArray, List.nil_append, List.cons_append]
 gi_wp2_with (gi_at_call 145; refine (digits F (n - 1) h2 hro _ _ _ _).mono ?_; rintro e w' ⟨rfl, rfl⟩)
 obtain ⟨N, hN⟩ : ∃ N, w.heap.size = N := ⟨_, rfl⟩
 have b0 : Boxed (((((w.alloc (.cells #[.int .u64 0] 72)).alloc (.cells #[.int .i64 0] 3)).alloc (.cells #[.int .u64 0] 72)).alloc (.cells #[.int .i64 0] 3)).alloc (.cells #[.slice A bs.length cap] 22)) N 72 (.int .u64 0) := by
   rw [← hN]; exact ((((Boxed.new w 72 (.int .u64 0)).alloc _).alloc _).alloc _).alloc _
 have b1 : Boxed (((((w.alloc (.cells #[.int .u64 0] 72)).alloc (.cells #[.int .i64 0] 3)).alloc (.cells #[.int .u64 0] 72)).alloc (.cells #[.int .i64 0] 3)).alloc (.cells #[.slice A bs.length cap] 22)) (N + 1) 3 (.int .i64 0) := by
   rw [← hN]; have q := (((Boxed.new (w.alloc (.cells #[.int .u64 0] 72)) 3 (.int .i64 0)).alloc (.cells #[.int .u64 0] 72)).alloc (.cells #[.int .i64 0] 3)).alloc (.cells #[.slice A bs.length cap] 22); rwa [World.size_alloc] at q
 have b2 : Boxed (((((w.alloc (.cells #[.int .u64 0] 72)).alloc (.cells #[.int .i64 0] 3)).alloc (.cells #[.int .u64 0] 72)).alloc (.cells #[.int .i64 0] 3)).alloc (.cells #[.slice A bs.length cap] 22)) (N + 1 + 1) 72 (.int .u64 0) := by
   rw [← hN]; have q := ((Boxed.new ((w.alloc (.cells #[.int .u64 0] 72)).alloc (.cells #[.int .i64 0] 3)) 72 (.int .u64 0)).alloc (.cells #[.int .i64 0] 3)).alloc (.cells #[.slice A bs.length cap] 22); rwa [World.size_alloc, World.size_alloc] at q
 have b3 : Boxed (((((w.alloc (.cells #[.int .u64 0] 72)).alloc (.cells #[.int .i64 0] 3)).alloc (.cells #[.int .u64 0] 72)).alloc (.cells #[.int .i64 0] 3)).alloc (.cells #[.slice A bs.length cap] 22)) (N + 1 + 1 + 1) 3 (.int .i64 0) := by
   rw [← hN]; have q := (Boxed.new (((w.alloc (.cells #[.int .u64 0] 72)).alloc (.cells #[.int .i64 0] 3)).alloc (.cells #[.int .u64 0] 72)) 3 (.int .i64 0)).alloc (.cells #[.slice A bs.length cap] 22); rwa [World.size_alloc, World.size_alloc, World.size_alloc] at q
 have b4 : Boxed (((((w.alloc (.cells #[.int .u64 0] 72)).alloc (.cells #[.int .i64 0] 3)).alloc (.cells #[.int .u64 0] 72)).alloc (.cells #[.int .i64 0] 3)).alloc (.cells #[.slice A bs.length cap] 22)) (N + 1 + 1 + 1 + 1) 22 (.slice A bs.length cap) := by
   rw [← hN]; have q := Boxed.new ((((w.alloc (.cells #[.int .u64 0] 72)).alloc (.cells #[.int .i64 0] 3)).alloc (.cells #[.int .u64 0] 72)).alloc (.cells #[.int .i64 0] 3)) 22 (.slice A bs.length cap); rwa [World.size_alloc, World.size_alloc, World.size_alloc, World.size_alloc] at q
 have hB0 : Below w.heap.size w (((((w.alloc (.cells #[.int .u64 0] 72)).alloc (.cells #[.int .i64 0] 3)).alloc (.cells #[.int .u64 0] 72)).alloc (.cells #[.int .i64 0] 3)).alloc (.cells #[.slice A bs.length cap] 22)) := by go_grown
 obtain ⟨W0, hW0⟩ : ∃ W0, (((((w.alloc (.cells #[.int .u64 0] 72)).alloc (.cells #[.int .i64 0] 3)).alloc (.cells #[.int .u64 0] 72)).alloc (.cells #[.int .i64 0] 3)).alloc (.cells #[.slice A bs.length cap] 22)) = W0 := ⟨_, rfl⟩
 have hsz : W0.heap.size = N + 1 + 1 + 1 + 1 + 1 := by rw [← hW0, ← hN]; simp
 rw [hW0] at b0 b1 b2 b3 b4 hB0 ⊢
 rw [hN] at hB0
 rw [hN]
 have HN := aside hN
 have HZ := aside hsz
 clear hW0 hN
 refine wpIn_rangeFunc_ownG hro hn1 (gf := 157) (lb := #[.pointer (some ⟨N + 1 + 1 + 1 + 1, 0, none⟩)]) rfl h3 (enters_of Tryz.func157 (by kernel_rfl) rfl)
   (digits_stops F (n - 1) h3 hro (by omega) (N + 1 + 1 + 1 + 1) N A cap bs W0 w b4.lt (by omega) (by have := HN.out; omega) (by rw [HN.out]; exact hB0) b4.cell hS) belowK_t (belowK_b (by omega)) (Below.refl _ _) (fun _ => rfl)
   (fun pre W => Inv N pre W ∧ Below N w W) (fun c pre W => Out N c pre W ∧ Below N w W)
   (OwnFrom.and (Own.from (fun s A B row hs hg hr => by
     obtain ⟨n, e1, e2, e3, e4, e5, e6, e7⟩ := hs
     exact ⟨n, e1, e2, e3, stays e4 hg hr, stays e5 hg hr, stays e6 hg hr, stays e7 hg hr⟩) _) (ownFrom_below (by have := HN.out; omega) (by omega)))
   (fun c => OwnFrom.and (Own.from (fun s A B row hs hg hr => by
     obtain ⟨e0, n, k, e1, e2, e3⟩ := hs
     exact ⟨e0, n, k, e1, stays e2 hg hr, stays e3 hg hr⟩) _) (ownFrom_below (by have := HN.out; omega) (by omega)))
   ⟨⟨0, by simp, fun rest => by simp, by simp, b0, b1, b2, b3⟩, hB0⟩
   (fun x => { tmps := #[.slice A bs.length cap, undef, .pointer (some ⟨N, 0, none⟩), .pointer (some ⟨N + 1, 0, none⟩), .pointer (some ⟨N + 1 + 1, 0, none⟩), .pointer (some ⟨N + 1 + 1 + 1, 0, none⟩), .int .u64 x.1.1, .bool x.1.2, undef, .slice A bs.length cap, .func (.func 157) #[] #[.pointer (some ⟨N + 1 + 1 + 1 + 1, 0, none⟩)], .int .u64 x.1.1, .bool x.1.2, undef, undef, undef, undef, undef, undef, undef, undef, undef, undef, undef, undef, undef, undef, undef, undef, undef, undef, undef, undef, undef, undef, undef, undef], defers := [] }) ?assign ?body ?done ?stop
 case assign =>
   intro l x W K hK
   gi_wp2
   exact hK
 case body =>
   rintro l pre ⟨⟨d, last⟩, hd0, hd1⟩ W ⟨⟨m, e1, e2, e3, c0, c1, c2, c3⟩, hB⟩ hlt
   have E2 := aside e2
   have E3 := aside e3
   obtain ⟨dn, rfl⟩ : ∃ dn : Nat, d = dn := ⟨d.toNat, by omega⟩
   obtain ⟨i, hi⟩ : ∃ i, pre.length = i := ⟨_, rfl⟩
   rw [hi] at c3 hlt e1
   have HI := aside hi
   have E1 := aside e1
   clear e1 e2 e3 hi
   have r0 := c0.cell
   have r1 := c1.cell
   have r2 := c2.cell
   have r3 := c3.cell
   have f0 := c0.frozen
   have f1 := c1.frozen
   have f2 := c2.frozen
   have f3 := c3.frozen
   have hdn : dn < 128 := by have : (dn : Int) < 128 := hd1; omega
   have hstep : ∀ rest, getP 0 0 (pre ++ [⟨((dn : Int), last), ⟨hd0, hd1⟩⟩] ++ rest) = getP i m (⟨((dn : Int), last), ⟨hd0, hd1⟩⟩ :: rest) := by
     intro rest
     rw [List.append_assoc, E2.out, HI.out]
     rfl
   simp only [getP, Int.toNat_natCast] at hstep
   have HP := aside hstep
   clear hstep E2
   have e2i : ((2 : Int) ^ (7 * i)) = ((2 ^ (7 * i) : Nat) : Int) := by simp
   by_cases hov : 18446744073709551616 ≤ m + dn * 2 ^ (7 * i)
   · have hq := back_out i dn m hlt hdn E1.out hov
     obtain ⟨P, hP⟩ : ∃ P, dn * 2 ^ (7 * i) % 18446744073709551616 = P := ⟨_, rfl⟩
     have hw : IntKind.u64.wrap ((dn : Int) * 2 ^ (7 * i)) = (P : Int) := by
       rw [IntKind.wrap_u64, ← hP]; simp
     rw [hP] at hq
     have hne : ((P : Int) / 2 ^ (7 * i) != (dn : Int)) = true := by
       rw [bne_iff_ne]
       intro h
       apply hq
       rw [e2i, ← Int.natCast_ediv] at h
       exact Int.ofNat.inj h
     have HOv := aside hov
     clear hov hq hP e2i
     gi_wp2
     refine ⟨((KeepsOthers.setCell _ _ _).trans (KeepsOthers.setCell _ _ _)).from _, ⟨rfl, 0, 0, fun rest => ?_, (c0.set _).other (by omega) _, (c1.other (by omega) _).set _⟩, (hB.setCell (p := ⟨N, 0, none⟩) (Nat.le_refl _) _).setCell (p := ⟨N + 1, 0, none⟩) (by simp) _⟩
     rw [HP.out rest, if_pos HOv.out]
   · have hq := back_in i dn m (by omega)
     obtain ⟨P, hP⟩ : ∃ P, dn * 2 ^ (7 * i) = P := ⟨_, rfl⟩
     have hw : IntKind.u64.wrap ((dn : Int) * 2 ^ (7 * i)) = (P : Int) := by
       have e : (dn : Int) * 2 ^ (7 * i) = (P : Int) := by rw [← hP]; simp
       rw [IntKind.wrap_u64, e]; omega
     rw [hP, Nat.mod_eq_of_lt (by omega)] at hq
     have hne : ((P : Int) / 2 ^ (7 * i) != (dn : Int)) = false := by
       rw [e2i, ← Int.natCast_ediv, hq]; simp
     have hor := or_sum m dn (7 * i) E1.out (by omega)
     have hsum : m + P < 18446744073709551616 := by omega
     have hb : m + P < 2 ^ (7 * (i + 1)) := by
       have h1 := E1.out
       have h2 : dn * 2 ^ (7 * i) ≤ 127 * 2 ^ (7 * i) := Nat.mul_le_mul_right _ (by omega)
       have h3 := pw_succ i
       omega
     have HP2 := HP.out
     rw [hP] at hor HP2
     have HP3 : Hid (∀ rest, getP 0 0 (pre ++ [⟨((dn : Int), last), ⟨hd0, hd1⟩⟩] ++ rest) = if last = true then if dn = 0 ∧ 0 < i then (0, 0) else (m + P, i + 1) else getP (i + 1) (m + P) rest) := aside (fun rest => by rw [HP2 rest, if_neg (by omega)])
     have HSu := aside hsum
     have HBd := aside hb
     clear hov hq hP e2i HP HP2 hsum hb
     obtain ⟨S, hS2⟩ : ∃ S, m + P = S := ⟨_, rfl⟩
     rw [hS2] at hor HP3 HSu HBd
     clear hS2
     cases last
     · gi_wp2
       have hlen : (pre ++ [(⟨((dn : Int), false), ⟨hd0, hd1⟩⟩ : Dg)]).length = i + 1 := by rw [List.length_append, HI.out]; rfl
       refine ⟨((KeepsOthers.setCell _ _ _).trans (KeepsOthers.setCell _ _ _)).from _, ((Below.refl N W).setCell (p := ⟨N + 1 + 1, 0, none⟩) (by simp; omega) _).setCell (p := ⟨N + 1 + 1 + 1, 0, none⟩) (by simp; omega) _, ⟨S, ?_, fun rest => ?_, fun p hp => ?_, (c0.other (by omega) _).other (by omega) _, (c1.other (by omega) _).other (by omega) _, (c2.set _).other (by omega) _, ?_⟩, (hB.setCell (p := ⟨N + 1 + 1, 0, none⟩) (by simp; omega) _).setCell (p := ⟨N + 1 + 1 + 1, 0, none⟩) (by simp; omega) _⟩
       · rw [hlen]; exact HBd.out
       · rw [HP3.out rest, hlen]; simp
       · rcases List.mem_append.1 hp with hp | hp
         · exact E3.out p hp
         · obtain rfl := List.mem_singleton.1 hp
           rfl
       · rw [hlen]
         exact (c3.other (by omega) _).set _
     · by_cases hz : dn = 0 ∧ 0 < i
       · have z1 : dn ≤ 0 := by omega
         have z2 := hz.2
         have HZ2 := aside hz
         have hx : ∀ h : 0 ≤ ((0 : Int), true).1 ∧ ((0 : Int), true).1 < 128, (⟨((dn : Int), true), ⟨hd0, hd1⟩⟩ : Dg) = ⟨((0 : Int), true), h⟩ := fun h => Subtype.ext (by show ((dn : Int), true) = ((0 : Int), true); rw [hz.1]; rfl)
         clear hz
         gi_wp2
         refine ⟨((((KeepsOthers.setCell _ _ _).trans (KeepsOthers.setCell _ _ _)).trans (KeepsOthers.setCell _ _ _)).trans (KeepsOthers.setCell _ _ _)).from _, ⟨rfl, 0, 0, fun rest => ?_, (((c0.other (by omega) _).other (by omega) _).set _).other (by omega) _, (((c1.other (by omega) _).other (by omega) _).other (by omega) _).set _⟩, ((((hB.setCell (p := ⟨N + 1 + 1, 0, none⟩) (by simp; omega) _).setCell (p := ⟨N + 1 + 1 + 1, 0, none⟩) (by simp; omega) _).setCell (p := ⟨N, 0, none⟩) (by simp) _).setCell (p := ⟨N + 1, 0, none⟩) (by simp) _)⟩
         have q := HP3.out rest
         rw [hx ⟨by simp, by simp⟩, if_pos (by trivial), if_pos HZ2.out] at q
         exact q
       · have HZ2 := aside hz
         have hmx : Tryz.prog.follows .mixedOrders = true := by kernel_rfl
         by_cases hd : dn = 0
         · have z1 : dn ≤ 0 := by omega
           have z2 : i ≤ 0 := by omega
           clear hz hd
           gi_wp2
           gi_region_o
           all_goals gi_wp2
           all_goals
             refine ⟨(((((KeepsOthers.setCell _ _ _).trans (KeepsOthers.setCell _ _ _)).trans (KeepsOthers.setCell _ _ _)).trans (KeepsOthers.setCell _ _ _)).trans (KeepsOthers.drew _)).from _, ⟨rfl, S, i + 1, fun rest => ?_, (((c0.other (by omega) _).other (by omega) _).set _).other (by omega) _, (((c1.other (by omega) _).other (by omega) _).other (by omega) _).set _⟩, below_drew1 ((((hB.setCell (p := ⟨N + 1 + 1, 0, none⟩) (by simp; omega) _).setCell (p := ⟨N + 1 + 1 + 1, 0, none⟩) (by simp; omega) _).setCell (p := ⟨N, 0, none⟩) (by simp) _).setCell (p := ⟨N + 1, 0, none⟩) (by simp) _)⟩
             rw [HP3.out rest, if_pos (by trivial), if_neg HZ2.out]
         · have z1 : 0 < dn := by omega
           clear hz hd
           gi_wp2
           gi_region_o
           all_goals gi_wp2
           all_goals
             refine ⟨(((((KeepsOthers.setCell _ _ _).trans (KeepsOthers.setCell _ _ _)).trans (KeepsOthers.setCell _ _ _)).trans (KeepsOthers.setCell _ _ _)).trans (KeepsOthers.drew _)).from _, ⟨rfl, S, i + 1, fun rest => ?_, (((c0.other (by omega) _).other (by omega) _).set _).other (by omega) _, (((c1.other (by omega) _).other (by omega) _).other (by omega) _).set _⟩, below_drew1 ((((hB.setCell (p := ⟨N + 1 + 1, 0, none⟩) (by simp; omega) _).setCell (p := ⟨N + 1 + 1 + 1, 0, none⟩) (by simp; omega) _).setCell (p := ⟨N, 0, none⟩) (by simp) _).setCell (p := ⟨N + 1, 0, none⟩) (by simp) _)⟩
             rw [HP3.out rest, if_pos (by trivial), if_neg HZ2.out]
 case done =>
   rintro D ys W hD hS' ⟨⟨m, e1, e2, e3, c0, c1, c2, c3⟩, hB⟩ hK
   have hgl : getL bs = (0, 0) := by
     rcases hS' with rfl | ⟨ini, x, rfl, hx⟩
     · have q := e2 []
       rw [List.append_nil, getP_L] at q
       exact q
     · have := e3 x (by simp)
       rw [hx] at this
       cases this
   have HG := aside hgl
   clear hgl e2 e3 e1 hS'
   have r0 := c0.cell
   have r1 := c1.cell
   have f0 := c0.frozen
   have f1 := c1.frozen
   gi_wp2
   have hK' := ((KeepsOthers.setCell W ⟨N, 0, none⟩ (.int .u64 0)).trans (KeepsOthers.setCell (W.setCell ⟨N, 0, none⟩ (.int .u64 0)) ⟨N + 1, 0, none⟩ (.int .i64 0))).same D _ hK rfl
   refine ⟨by simp, .inl ⟨_, _, rfl, run_takeDeferred hK', ?_⟩⟩
   have p0 := stays ((c0.set (.int .u64 0)).other (B' := N + 1) (by omega) (.int .i64 0)) (grownBy_putObj' _ D (.deferred none)) (fun r e => by cases e; exact ⟨_, hK', rfl⟩)
   have p1 := stays ((c1.other (B' := N) (by omega) (.int .u64 0)).set (.int .i64 0)) (grownBy_putObj' _ D (.deferred none)) (fun r e => by cases e; exact ⟨_, hK', rfl⟩)
   have q0 := p0.cell
   have q1 := p1.cell
   have hB2 : Below w.heap.size w ((W.setCell ⟨N, 0, none⟩ (.int .u64 0)).setCell ⟨N + 1, 0, none⟩ (.int .i64 0)) := by rw [HN.out]; exact (hB.setCell (p := ⟨N, 0, none⟩) (Nat.le_refl _) _).setCell (p := ⟨N + 1, 0, none⟩) (by simp) _
   refine ⟨.tuple #[.int .u64 0, .int .i64 0], ?_, by rw [HG.out]; rfl, hB2.trans (belowK_b (w := w) (Nat.le_refl _) _ D _ _ (by have := HN.out; omega) hK' rfl rfl)⟩
   simp [results, Tryz.f115, go_sem, q0, q1]
 case stop =>
   rintro D c pre W hD ⟨k, hk, rfl⟩ ⟨⟨rfl, m, k', e1, c0, c1⟩, hB⟩ hK
   have hgl : getL bs = (m, k') := by
     have q := e1 (((bs.drop k).take (10 - k)).map dg)
     rw [← getP_L, ← q]
     unfold dgs
     rw [← List.map_append, ← List.take_add, show k + (10 - k) = 10 by omega]
   have HG := aside hgl
   clear hgl e1
   gi_wp2
   refine ⟨by simp, .inl ⟨_, _, rfl, run_takeDeferred hK, ?_⟩⟩
   have p0 := stays c0 (grownBy_putObj' _ D (.deferred none)) (fun r e => by cases e; exact ⟨_, hK, rfl⟩)
   have p1 := stays c1 (grownBy_putObj' _ D (.deferred none)) (fun r e => by cases e; exact ⟨_, hK, rfl⟩)
   have q0 := p0.cell
   have q1 := p1.cell
   have hB2 : Below w.heap.size w W := by rw [HN.out]; exact hB
   refine ⟨.tuple #[.int .u64 m, .int .i64 k'], ?_, by rw [HG.out], hB2.trans (belowK_b (w := w) (Nat.le_refl _) _ D _ _ (by have := HN.out; omega) hK rfl rfl)⟩
   simp [results, Tryz.f115, go_sem, q0, q1]
theorem get {A : Option Addr} {len cap : Nat} {bs : List Int} {w : World} (hS : Sl w A cap bs) (hl : bs.length = len) :
   Calls Tryz.prog 115 #[.slice A len cap] w fun e w' => e = .returned (.tuple #[.int .u64 ((getL bs).1 : Nat), .int .i64 ((getL bs).2 : Nat)]) ∧ Below w.heap.size w w' :=
 (callsIn_wide (n := 3)).1 (get_in Fence.wide 3 trivial trivial trivial rfl (Nat.le_refl _) A len cap bs w hS hl)
end Go.Proofs.YtgoapaanmcmlmaaGreatDoor.EncG
namespace Go.Proofs.YtgoapaanmcmlmaaGreatDoor.BytR
set_option maxRecDepth 100000
open Go.RowKit Byt
end Go.Proofs.YtgoapaanmcmlmaaGreatDoor.BytR
namespace Go.Proofs.YtgoapaanmcmlmaaGreatDoor.Byt
open Go.RowKit
end Go.Proofs.YtgoapaanmcmlmaaGreatDoor.Byt
namespace Go.Proofs.YtgoapaanmcmlmaaGreatDoor.Grow
set_option maxRecDepth 100000
open Go Go.Sort Go.RowKit
section
variable {P : Program} {ops : Array Oper} {Q : Exit → Act → World → Prop} {md : Region.Mode}
def M (P : Program) (md : Region.Mode) (ops : Array Oper) (Q : Exit → Act → World → Prop) : Nat → Array Bool → Act → World → Prop
 | 0, listed, a, w => Region.ready md ops listed = [] ∧ Q .normal a w
 | fuel + 1, listed, a, w => (Region.ready md ops listed = [] → Q .normal a w) ∧
   ∀ i ∈ Region.ready md ops listed, wpOp P ops Q i (fun a' w' => Below w.heap.size w w' ∧ M P md ops Q fuel (listed.setIfInBounds i true) a' w') a w
theorem M.any : ∀ (fuel : Nat) (listed : Array Bool) (a : Act) (w : World), M P md ops Q fuel listed a w → wpAny P md ops Q fuel listed a w
 | 0, _, _, _, h => h
 | fuel + 1, _, _, _, h => ⟨h.1, fun i hi => wpOp_mono (fun a' w' h' => M.any fuel _ a' w' h'.2) (h.2 i hi)⟩
theorem later {o : Oper} {v : Value} {a : Act} {w w' : World} (h : YieldsIf P ops (Below w.heap.size w) o v a) (hb : Below w.heap.size w w') : YieldsIf P ops (Below w'.heap.size w') o v a :=
 h.imp (fun ⟨h1, h2⟩ => ⟨h1, fun u hu => h2 u (hb.trans (hu.mono hb.size))⟩) id
theorem M.first {i : Nat} {oi : Oper} {v : Value} (hi : ops[i]? = some oi) (hs : Region.noSelect ops = true)
   (hQ : ∀ c a w, Q (.panic c) (a.put oi.dst v) w → Q (.panic c) a w) (fuel : Nat) :
   ∀ (listed : Array Bool) (a : Act) (w : World),
     (∀ j oj, ops[j]? = some oj → j ≠ i → listed.getD j true = false → (∀ e ∈ oj.after, Region.binds md e = true → e.on ≠ i) → oi.apart ops oj = true) →
     i ∈ Region.ready md ops listed → YieldsIf P ops (Below w.heap.size w) oi v a →
     M P md ops Q fuel (listed.setIfInBounds i true) (a.put oi.dst v) w → M P md ops Q (fuel + 1) listed a w := by
 have sel := fun (j : Nat) (o : Oper) (cs : Array SelectCase) (b : Bool) (h : ops[j]? = some o) => Region.noSelect_spec hs j o cs b h
 induction fuel with
 | zero =>
   intro listed a w _ hr hy H
   refine ⟨fun h0 => absurd hr (by rw [h0]; simp), fun j hj => ?_⟩
   by_cases e : j = i
   · subst e
     exact hy.wpOp hi (Below.refl _ _) ⟨Below.refl _ _, H⟩
   · exact absurd (ready_mono hj e) (by rw [H.1]; simp)
 | succ fuel ih =>
   intro listed a w hf hr hy H
   refine ⟨fun h0 => absurd hr (by rw [h0]; simp), fun j hj => ?_⟩
   by_cases e : j = i
   · subst e
     exact hy.wpOp hi (Below.refl _ _) ⟨Below.refl _ _, H⟩
   · have hstep := H.2 j (ready_mono hj e)
     obtain ⟨hun, oj, hoj, hall⟩ := mem_ready.1 hj
     have hno : ∀ x ∈ oj.after, Region.binds md x = true → x.on ≠ i := by
       intro x hx hb hxi
       have p1 := hall x hx hb
       have p0 := (mem_ready.1 hr).1
       rw [hxi] at p1
       by_cases hlt : i < listed.size
       · simp [hlt] at p0 p1
         rw [p0] at p1
         cases p1
       · simp [Array.getElem?_eq_none (Nat.le_of_not_lt hlt)] at p1
     refine wpOp_mono (fun a' w' h3 => ⟨h3.2.1, ?_⟩) (wpOp_putIf hoj (hf j oj hoj e hun hno) (fun cs b => sel i oi cs b hi) (fun cs b => sel j oj cs b hoj) hQ hy hstep)
     obtain ⟨y1, y2, y3⟩ := h3
     refine ih (listed.setIfInBounds j true) a' w' (fun k ok hk hki hku hkn => hf k ok hk hki ?_ hkn) (ready_mono hr (fun h => e h.symm)) (later y1 y2) ?_
     · by_cases ejk : j = k
       · subst ejk; exact hun
       · rwa [getD_set_ne true ejk] at hku
     · rw [Array.setIfInBounds_comm _ _ e]
       exact y3
def plain (o : Oper) : Bool := match o.op with
 | .move _ | .assign _ | .pick .. | .load .. | .binOp .. | .unOp .. | .convert .. | .slice .. | .fieldAddr .. | .field .. | .indexAddr .. | .index .. | .lookup .. | .extract .. | .build .. | .makeInterface .. => true
 | .call { callee := .builtin .len, .. } | .call { callee := .builtin .cap, .. } | .call { callee := .builtin .min, .. } | .call { callee := .builtin .max, .. } => true
 | _ => false
theorem value_of {α : Type} {s : Sem α} {g : α → Value} {w w' : World} {n : Next} (h : (do pure (Next.value (g (← s))) : Sem Next).run P w = .ok n w') : ∃ v, n = .value v := by
 rw [Sem.run_bind] at h
 cases hq : s.run P w with
 | ok x u =>
   rw [hq] at h
   simp [Result.andThen] at h
   exact ⟨g x, h.1.symm⟩
 | halt x u => rw [hq] at h; simp [Result.andThen] at h
theorem plain_value {o : Oper} (hp : plain o = true) {ρ : Operand → Value} {w w' : World} {n : Next} (h : (execOp ρ o).run P w = .ok n w') : ∃ v, n = .value v := by
 unfold execOp at h
 unfold plain at hp
 cases hop : o.op <;> simp only [hop] at h hp
 case call c =>
   obtain ⟨callee, args, argTypes⟩ := c
   cases callee with
   | builtin b =>
     cases b <;> first | (exfalso; simp at hp; done) | (simp only [resolve, Sem.run_bind, Sem.run_pure, Result.andThen_ok, invoke, builtin] at h; exact value_of (g := id) (by rw [Sem.run_bind]; exact h))
   | _ => exfalso; simp at hp
 case move x => simp at h; exact ⟨_, h.1.symm⟩
 case assign x => simp at h; exact ⟨_, h.1.symm⟩
 all_goals first | (cases hp; done) | exact value_of (g := id) h | exact value_of h
def orderB (md : Region.Mode) (ops : Array Oper) : List (Nat × Bool) → Array Bool → Bool
 | [], listed => (Region.ready md ops listed).isEmpty
 | (i, true) :: r, listed => (Region.ready md ops listed).contains i && Region.free md ops listed i && ((ops[i]?).map plain).getD false && orderB md ops r (listed.setIfInBounds i true)
 | (i, false) :: r, listed => Region.ready md ops listed == [i] && orderB md ops r (listed.setIfInBounds i true)
def Seq (P : Program) (ops : Array Oper) (Q : Exit → Act → World → Prop) : List (Nat × Bool) → Act → World → Prop
 | [], a, w => Q .normal a w
 | (i, true) :: r, a, w => ∃ o, ops[i]? = some o ∧ ∃ v, YieldsIf P ops (Below w.heap.size w) o v a ∧ Seq P ops Q r (a.put o.dst v) w
 | (i, false) :: r, a, w => ∃ o, ops[i]? = some o ∧ wpList P ops (Exit.then (fun a' w' => Below w.heap.size w w' ∧ Seq P ops Q r a' w') Q) [o] a w
theorem seq_M (hs : Region.noSelect ops = true) (hQ : ∀ c a d v w, Q (.panic c) (a.put d v) w → Q (.panic c) a w) : ∀ (l : List (Nat × Bool)) (listed : Array Bool) (a : Act) (w : World),
   orderB md ops l listed = true → Seq P ops Q l a w → M P md ops Q l.length listed a w
 | [], listed, a, w, hB, h => ⟨by simpa [orderB] using hB, h⟩
 | (i, true) :: r, listed, a, w, hB, ⟨o, ho, v, hy, h⟩ => by
   simp only [orderB, Bool.and_eq_true] at hB
   obtain ⟨⟨⟨h1, h2⟩, _⟩, h4⟩ := hB
   exact M.first ho hs (fun c a w => hQ c a o.dst v w) r.length listed a w (Region.free_spec ho h2) (by simpa using h1) hy (seq_M hs hQ r _ _ _ h4 h)
 | (i, false) :: r, listed, a, w, hB, ⟨o, ho, h⟩ => by
   simp only [orderB, Bool.and_eq_true, beq_iff_eq] at hB
   obtain ⟨h1, h4⟩ := hB
   refine ⟨fun h0 => (by rw [h1] at h0; cases h0), fun j hj => ?_⟩
   rw [h1] at hj
   obtain rfl : j = i := by simpa using hj
   unfold wpOp
   simp only [ho]
   unfold wpList at h
   split
   · rename_i hw
     rw [if_pos hw] at h
     rcases h with h | ⟨h, a', w', hl⟩
     · refine .inl ?_
       unfold Oper.wp at h ⊢
       generalize (execOp a.eval o).run P w = x at h ⊢
       have on : ∀ a' w', wpList P ops (Exit.then (fun a' w' => Below w.heap.size w w' ∧ Seq P ops Q r a' w') Q) [] a' w' → Below w.heap.size w w' ∧ M P md ops Q r.length (listed.setIfInBounds j true) a' w' := by
         intro a' w' hh
         unfold wpList at hh
         exact ⟨hh.1, seq_M hs hQ r _ _ _ h4 hh.2⟩
       cases x with
       | ok n u =>
         cases n <;> simp only [Oper.upon] at h ⊢
         case enter f args =>
           refine Calls.mono h fun e w'' he => ?_
           cases e with
           | returned v => exact on _ _ he
           | panicked c => exact he
           | outgrown => exact he
         case row row args => exact Rows.mono h fun v w'' he => on _ _ he
         all_goals exact on _ _ h
       | halt x u => cases x <;> simp only [Oper.upon] at h ⊢; exact h
     · exact .inr ⟨h, a', w', hl⟩
   · rename_i hw
     rw [if_neg hw] at h
     unfold wpList at h
     exact ⟨h.1, seq_M hs hQ r _ _ _ h4 h.2⟩
theorem region {id : Nat} {a : Act} {w : World} {l : List Oper} (order : List (Nat × Bool)) (hm : P.follows .mixedOrders = true) (hs : Region.noSelect l.toArray = true)
   (hl : order.length = l.toArray.size) (hB : orderB .any l.toArray order (Array.replicate l.toArray.size false) = true) (hQ : ∀ c a d v w, Q (.panic c) (a.put d v) w → Q (.panic c) a w)
   (h : Seq P l.toArray Q order a w.drew) : (Code.region id l.toArray true).wp P Q a w := by
 refine wp_region_any hm (M.any _ _ _ _ ?_)
 have := seq_M (md := .any) hs hQ order (Array.replicate l.toArray.size false) a w.drew hB h
 rw [hl] at this
 exact this
def nth : List Oper → Nat → Option Oper
 | [], _ => none
 | o :: _, 0 => some o
 | _ :: l, n + 1 => nth l n
theorem nth_at : ∀ (l : List Oper) (i : Nat), l.toArray[i]? = nth l i
 | [], i => by simp [nth]
 | o :: l, 0 => by simp [nth]
 | o :: l, n + 1 => by
   have := nth_at l n
   simp only [List.getElem?_toArray] at this
   simp [nth, this]
theorem reads {l : List Oper} {i : Nat} {o : Oper} {r : List (Nat × Bool)} {a : Act} {w : World} (hn : nth l i = some o) (hp : plain o = true)
   (h : wpQuiet P l.toArray (fun w' => ∃ p : Regrown, w' = grow (redrawn w p.d) p.os) (fun a' => Seq P l.toArray Q r a' w) [o] a) : Seq P l.toArray Q ((i, true) :: r) a w := by
 have ho := (nth_at l i).trans hn
 unfold wpQuiet at h
 split at h
 · rename_i hw
   obtain ⟨v, h1, h2⟩ := h
   refine ⟨o, ho, v, .inl ⟨hw, fun u hu => ?_⟩, h2⟩
   have q := h1 u (regrown_of_below hu)
   unfold Oper.quietAt at q
   cases hx : (execOp a.eval o).run P u with
   | ok n u' =>
     obtain ⟨x, rfl⟩ := plain_value hp hx
     rw [hx] at q
     obtain ⟨rfl, rfl⟩ := q
     rfl
   | halt x u' => rw [hx] at q; exact q.elim
 · rename_i hw
   exact ⟨o, ho, undef, .inr ⟨by simpa using hw, rfl⟩, h⟩
def On (P : Program) (ops : Array Oper) (Q : Exit → Act → World → Prop) (r : List (Nat × Bool)) (w : World) (a' : Act) (w' : World) : Prop := Below w.heap.size w w' ∧ Seq P ops Q r a' w'
theorem acts {l : List Oper} {i : Nat} {o : Oper} {r : List (Nat × Bool)} {a : Act} {w : World} (hn : nth l i = some o)
   (h : wpList P l.toArray (Exit.then (On P l.toArray Q r w) Q) [o] a w) : Seq P l.toArray Q ((i, false) :: r) a w := ⟨o, (nth_at l i).trans hn, h⟩
theorem ends {a : Act} {w : World} (h : Q .normal a w) : Seq P ops Q [] a w := h
end
theorem grown {w : World} {f : World → Prop} (h : ∀ u, Below w.heap.size w u → f u) : ∀ d os, f (grow (redrawn w d) os) := fun d os => h _ (below_regrown w d os)
end Go.Proofs.YtgoapaanmcmlmaaGreatDoor.Grow
namespace Go.Proofs.YtgoapaanmcmlmaaGreatDoor.EncE
set_option maxRecDepth 100000
open Go.RowKit Go.Sort Byt BytR EncM EncC EncG
def cutL (bs : List Int) (most : Int) : Option (List Int × List Int) :=
 if (getL bs).2 = 0 ∨ most < 0 ∨ most < (getL bs).1 ∨ bs.length - (getL bs).2 < (getL bs).1 then none
 else some ((bs.drop (getL bs).2).take (getL bs).1, (bs.drop (getL bs).2).drop (getL bs).1)
def CutOut (bs : List Int) (most : Int) (w : World) (e : Ending) (w' : World) : Prop :=
 Below w.heap.size w w' ∧ match cutL bs most with
   | none => e = .returned (.tuple #[.string ⟨#[]⟩, .slice none 0 0, .bool false])
   | some (a, r) => ∃ v, e = .returned (.tuple #[.string (strOf a), v, .bool true]) ∧ w'.ownsRow w.heap.size 5 1 v r.length (bv r)
theorem cut_none (bs : List Int) (most : Int) (w w' : World) (e : Ending) (h : (getL bs).2 = 0 ∨ most < 0 ∨ most < (getL bs).1 ∨ bs.length - (getL bs).2 < (getL bs).1) (hb : Below w.heap.size w w') (he : e = .returned (.tuple #[.string ⟨#[]⟩, .slice none 0 0, .bool false])) : CutOut bs most w e w' := by
 refine ⟨hb, ?_⟩
 unfold cutL
 rw [if_pos h]
 exact he
theorem cut_some (bs : List Int) (most : Int) (w w' : World) (e : Ending) (v : Value) (h : ¬ ((getL bs).2 = 0 ∨ most < 0 ∨ most < (getL bs).1 ∨ bs.length - (getL bs).2 < (getL bs).1)) (hb : Below w.heap.size w w') (he : e = .returned (.tuple #[.string (strOf ((bs.drop (getL bs).2).take (getL bs).1)), v, .bool true]))
   (ho : w'.ownsRow w.heap.size 5 1 v ((bs.drop (getL bs).2).drop (getL bs).1).length (bv ((bs.drop (getL bs).2).drop (getL bs).1))) : CutOut bs most w e w' := by
 refine ⟨hb, ?_⟩
 unfold cutL
 rw [if_neg h]
 exact ⟨v, he, ho⟩
set_option maxRecDepth 100000 in
set_option maxHeartbeats 8000000 in
theorem cut {A : Option Addr} {len cap : Nat} {bs : List Int} {w : World} (most : Int) (hS : Sl w A cap bs) (hl : bs.length = len) (hlen : len ≤ 1099511627776) (hm : -9223372036854775808 ≤ most ∧ most ≤ 9223372036854775807) :
   Calls Tryz.prog 158 #[.slice A len cap, .int .i64 most] w (CutOut bs most w) := by
 have hg := get hS hl
 obtain ⟨g1, g2, g3⟩ := getL_le hS.bytes
 have hnone := cut_none bs most w
 have hsome := cut_some bs most w
 obtain ⟨n, hn⟩ : ∃ n, (getL bs).1 = n := ⟨_, rfl⟩
 obtain ⟨k, hk⟩ : ∃ k, (getL bs).2 = k := ⟨_, rfl⟩
 rw [hn, hk] at hg hnone hsome
 rw [hn] at g1
 rw [hk] at g2 g3
 rw [hl] at g3 hnone hsome
 have HL := aside hl
 have HN := aside hnone
 have HS := aside hsome
 have HG := aside g1
 clear hn hk hnone hsome hl g1
 obtain ⟨m1, m2⟩ := hm
 by_cases hk0 : k = 0
 · subst hk0
   go_enter Tryz.func158, Tryz.ntmps158
   go_wp2_with fail
   refine hg.mono ?_
   clear hg
   rintro e w1 ⟨rfl, h1⟩
   go_wp2_with fail
   exact bodyPost_ret (v := .tuple #[.string ⟨#[]⟩, .slice none 0 0, .bool false]) (by simp [results, Tryz.results158, go_sem]) rfl (HN.out _ _ (.inl (by trivial)) h1 rfl)
 · have hkp : 0 < k := by omega
   have t0 : ((k : Int) == 0) = false := by simp; omega
   clear hk0
   by_cases hm0 : most < 0
   · go_enter Tryz.func158, Tryz.ntmps158
     go_wp2_with fail
     refine hg.mono ?_
     clear hg
     rintro e w1 ⟨rfl, h1⟩
     go_wp2_with fail
     exact bodyPost_ret (v := .tuple #[.string ⟨#[]⟩, .slice none 0 0, .bool false]) (by simp [results, Tryz.results158, go_sem]) rfl (HN.out _ _ (.inr (.inl hm0)) h1 rfl)
   · go_enter Tryz.func158, Tryz.ntmps158
     go_wp2_with fail
     refine hg.mono ?_
     clear hg
     rintro e w1 ⟨rfl, h1⟩
     have hS1 := hS.below h1
     obtain ⟨A2, c2, hs2, hS2, hl2⟩ := hS1.part k len (by omega) (by have := HL.out; omega)
     have hrun := run_part_l w1 A len cap .i64 k g3
     rw [hs2] at hrun
     obtain ⟨L, hL⟩ : ∃ L, len - k = L := ⟨_, rfl⟩
     have hcs : (bs.drop k).take (len - k) = bs.drop k := by rw [List.take_of_length_le]; simp; have := HL.out; omega
     rw [hcs] at hS2 hl2
     rw [hL] at hl2 hrun
     have HR := aside hrun
     have HLL := aside hL
     have HL2 := aside hl2
     have hLle : L ≤ len := by omega
     clear hs2 hrun hL hcs hl2
     by_cases hmn : most < (n : Int)
     · have t1 : decide (most < (n : Int)) = true := by simpa using hmn
       go_wp2_with (refine wpList_sliced rfl 22 (.tmp 21) (some (.tmp 22)) none rfl (.slice A2 L c2) HR.out ?_)
       exact bodyPost_ret (v := .tuple #[.string ⟨#[]⟩, .slice none 0 0, .bool false]) (by simp [results, Tryz.results158, go_sem]) rfl (HN.out _ _ (.inr (.inr (.inl hmn))) h1 rfl)
     · have t1 : decide (most < (n : Int)) = false := by simpa using hmn
       by_cases hLn : L < n
       · have t2 : decide (L < n) = true := by simpa using hLn
         go_wp2_with (refine wpList_sliced rfl 22 (.tmp 21) (some (.tmp 22)) none rfl (.slice A2 L c2) HR.out ?_)
         exact bodyPost_ret (v := .tuple #[.string ⟨#[]⟩, .slice none 0 0, .bool false]) (by simp [results, Tryz.results158, go_sem]) rfl (HN.out _ _ (.inr (.inr (.inr (by have := HLL.out; omega)))) h1 rfl)
       · have t2 : decide (L < n) = false := by simpa using hLn
         go_wp2_with (refine wpList_sliced rfl 22 (.tmp 21) (some (.tmp 22)) none rfl (.slice A2 L c2) HR.out ?_)
         clear t0 t1 t2 HR
         have hSW : Sl w1.drew A2 c2 (bs.drop k) := hS2.drew
         have hBW : Below w.heap.size w w1.drew := below_drew1 h1
         have hlW := hBW.size
         clear hS2 h1 hS1
         obtain ⟨A3, c3, hs3, hS3, hl3⟩ := hSW.part 0 n (by omega) (by have := HL2.out; omega)
         obtain ⟨A4, c4, hs4, hS4, hl4⟩ := hSW.part n L (by omega) (by have := HL2.out; omega)
         have hr3 := fun W => run_part_h W A2 L c2 .u64 n (by have := hSW.1; have := HL2.out; omega)
         have hr4 := fun W => run_part_l W A2 L c2 .u64 n (by omega)
         rw [hs3, Nat.sub_zero] at hr3
         rw [hs4] at hr4
         rw [List.drop_zero, Nat.sub_zero] at hS3 hl3
         have hcv := hS3.conv hl3
         have hd4 : ((bs.drop k).drop n).take (L - n) = (bs.drop k).drop n := by rw [List.take_of_length_le]; rw [List.length_drop, HL2.out]; omega
         rw [hd4] at hS4 hl4
         have HL4 := aside hl4
         have HL3 := aside hl3
         have h63 : 0 + (L - n) ≤ 1099511627900 := by omega
         clear hs3 hs4 hd4 hl3 hl4
         refine Grow.region [(0, true), (1, true), (2, true), (3, true), (4, true), (5, true), (6, true), (7, false), (8, true), (9, true), (10, true)] (by kernel_rfl) (by kernel_rfl) rfl (by kernel_rfl) (by intro c a d v w h; cases d <;> exact h) ?_
         have q3 := fun d os => (hS3.below (below_regrown _ d os)).conv HL3.out
         obtain ⟨W1, hW1⟩ : ∃ W, w1.drew = W := ⟨_, rfl⟩
         rw [hW1] at hS4 hBW hlW q3 ⊢
         clear hW1 hcv hSW hS3
         repeat (refine Grow.reads rfl rfl ?_; go_big_quiet_step (fail); refine wpQuiet_nil ?_)
         clear q3 hr3 hr4
         refine Grow.acts rfl ?_
         go_wp2_with (refine wpList_append_sl rfl (.const (.slice none 0 0)) (.tmp 41) 22 rfl w.heap.size 5 Tryz.underlying22 zero_u8 (.slice none 0 0) 0 [] rfl (World.ownsRow_nil _ _ _ _) A4 (L - n) c4 ((bs.drop k).drop n) rfl HL4.out hS4 h63 hlW ?_; intro v5 w5 hown5 hg5; have hb5 : Below w.heap.size w w5 := below_grown hBW hlW hg5 (fun k hk => by cases hk); have hb6 := below_grown (Below.refl _ W1) (Nat.le_refl _) hg5 (fun k hk => by cases hk); have HO5 := aside hown5; clear hown5 hg5)
         simp only [Act.put, List.setIfInBounds_toArray, List.set_cons_succ, List.set_cons_zero]
         refine ⟨hb6, ?_⟩
         clear hb6
         repeat (refine Grow.reads rfl rfl ?_; go_big_quiet_step (fail); refine wpQuiet_nil ?_)
         refine Grow.ends ?_
         all_goals go_wp2_with fail
         all_goals
           refine bodyPost_ret (v := .tuple #[.string (strOf ((bs.drop k).take n)), v5, .bool true]) (by simp [results, Tryz.results158, go_sem]) rfl (HS.out _ _ v5 (by have := HLL.out; omega) hb5 rfl ?_)
           have h := HO5.out
           rw [Nat.zero_add, ← HL4.out, List.nil_append] at h
           exact h
end Go.Proofs.YtgoapaanmcmlmaaGreatDoor.EncE
namespace Go.Proofs.YtgoapaanmcmlmaaGreatDoor.EncT
set_option maxRecDepth 100000
open Byt EncM EncC EncE
theorem textL_length (a : List Int) (h : a.length ≤ 1099511627776) : (textL a).length ≤ a.length + 10 := by
 unfold textL
 have := numL_ten (n := a.length) (by omega)
 rw [List.length_append]
 omega
theorem textL_B {a : List Int} (h : ∀ x ∈ a, B x) : ∀ x ∈ textL a, B x := by
 intro x hx
 rcases List.mem_append.1 hx with hx | hx
 · exact numL_range _ x hx
 · exact h x hx
theorem cut_text (a r : List Int) (most : Int) (h : a.length ≤ 1099511627776) : cutL (textL a ++ r) most = if (a.length : Int) ≤ most then some (a, r) else none := by
 have g := getL_num a.length (a ++ r) (by omega)
 have e : textL a ++ r = numL a.length ++ (a ++ r) := by unfold textL; rw [List.append_assoc]
 have hp := numL_pos a.length
 unfold cutL
 rw [e, g]
 have hd : (numL a.length ++ (a ++ r)).drop (numL a.length).length = a ++ r := List.drop_left
 simp only [hd, List.length_append]
 by_cases hm : (a.length : Int) ≤ most
 · rw [if_pos hm, if_neg (by omega), List.take_left, List.drop_left]
 · rw [if_neg hm, if_pos (by omega)]
end Go.Proofs.YtgoapaanmcmlmaaGreatDoor.EncT
namespace Go.Proofs.YtgoapaanmcmlmaaGreatDoor.OpsM
set_option maxRecDepth 100000
def signB (x : Int) : Bool := (decide (97 ≤ x) && decide (x ≤ 122)) || (decide (48 ≤ x) && decide (x ≤ 57))
def keyL (l : List Int) : Bool := decide (1 ≤ l.length) && decide (l.length ≤ 8) && l.all signB
theorem keyL_len {l : List Int} (h : keyL l = true) : 1 ≤ l.length ∧ l.length ≤ 8 := by
 unfold keyL at h
 simp only [Bool.and_eq_true, decide_eq_true_eq] at h
 exact h.1
end Go.Proofs.YtgoapaanmcmlmaaGreatDoor.OpsM
