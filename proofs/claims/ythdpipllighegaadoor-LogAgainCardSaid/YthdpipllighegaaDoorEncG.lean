/- What enc.Get returns: a contract. -/
import Derived.Test.YthdpipllighegaaDoorEncD
namespace Go.Proofs.YthdpipllighegaaDoor.EncG
set_option maxRecDepth 100000
open Go.RowKit Go.Shelf Byt EncM EncP EncD EncC
attribute [local go_sem] Oper.semAt_some

theorem stays {X Y : World} {row : Option Nat} {g : Nat} {t : TypeId} {v : Value} (h : Boxed X g t v) (hg : X.grownBy Y row) (hr : ∀ r, row = some r → ∃ o : Obj, X.heap[r]? = some o ∧ o.isCells = false) : Boxed Y g t v :=
  h.kept hg (fun e => by obtain ⟨o, ho, hc⟩ := hr g e.symm; rw [show X.heap[g]? = _ from h] at ho; cases ho; cases hc)

/-- Between two digits: what those that came are together, and that none of them is the last one. -/
def Inv (N : Nat) (pre : List Dg) (W : World) : Prop :=
  ∃ n : Nat, n < 2 ^ (7 * pre.length) ∧ (∀ rest, getP 0 0 (pre ++ rest) = getP pre.length n rest) ∧ (∀ p ∈ pre, p.1.2 = false) ∧
    Boxed W N 42 (.int .u64 0) ∧ Boxed W (N + 1) 3 (.int .i64 0) ∧ Boxed W (N + 1 + 1) 42 (.int .u64 n) ∧ Boxed W (N + 1 + 1 + 1) 3 (.int .i64 pre.length)
/-- Where the loop was left: what is answered. -/
def Out (N : Nat) (c : Code) (pre : List Dg) (W : World) : Prop :=
  c = .ret ∧ ∃ n k : Nat, (∀ rest, getP 0 0 (pre ++ rest) = (n, k)) ∧ Boxed W N 42 (.int .u64 n) ∧ Boxed W (N + 1) 3 (.int .i64 k)

set_option maxRecDepth 100000 in
set_option maxHeartbeats 2000000 in
theorem get_in (F : Fence) (n : Nat) (h1 : F.fn 32) (h2 : F.fn 44) (h3 : F.fn 50) (hro : F.round = none) (hn : 3 ≤ n) (A : Option Addr) (len cap : Nat) (bs : List Int) (w : World) (hS : Sl w A cap bs) (hl : bs.length = len) :
    CallsIn F n Tryd.prog 32 #[.slice A len cap] w fun e w' => e = .returned (.tuple #[.int .u64 ((getL bs).1 : Nat), .int .i64 ((getL bs).2 : Nat)]) ∧ Below w.heap.size w w' := by
  subst hl
  have hn1 : 1 ≤ n := by omega
  refine callsIn_of_wp_marks Tryd.func32 rfl h1 ?_ hro
  simp only [Tryd.ntmps32, List.size_toArray, List.length_cons, List.length_nil, Nat.reduceAdd, Nat.reduceSub, Array.replicate_succ, Array.replicate_zero, List.push_toArray, List.append_toArray, List.nil_append, List.cons_append]
  gi_wp2_with (gi_at_call 44; refine (digits F (n - 1) h2 hro _ _ _ _).mono ?_; rintro e w' ⟨rfl, rfl⟩)
  obtain ⟨N, hN⟩ : ∃ N, w.heap.size = N := ⟨_, rfl⟩
  have b0 : Boxed (((((w.alloc (.cells #[.int .u64 0] 42)).alloc (.cells #[.int .i64 0] 3)).alloc (.cells #[.int .u64 0] 42)).alloc (.cells #[.int .i64 0] 3)).alloc (.cells #[.slice A bs.length cap] 22)) N 42 (.int .u64 0) := by
    rw [← hN]; exact ((((Boxed.new w 42 (.int .u64 0)).alloc _).alloc _).alloc _).alloc _
  have b1 : Boxed (((((w.alloc (.cells #[.int .u64 0] 42)).alloc (.cells #[.int .i64 0] 3)).alloc (.cells #[.int .u64 0] 42)).alloc (.cells #[.int .i64 0] 3)).alloc (.cells #[.slice A bs.length cap] 22)) (N + 1) 3 (.int .i64 0) := by
    rw [← hN]; have q := (((Boxed.new (w.alloc (.cells #[.int .u64 0] 42)) 3 (.int .i64 0)).alloc (.cells #[.int .u64 0] 42)).alloc (.cells #[.int .i64 0] 3)).alloc (.cells #[.slice A bs.length cap] 22); rwa [World.size_alloc] at q
  have b2 : Boxed (((((w.alloc (.cells #[.int .u64 0] 42)).alloc (.cells #[.int .i64 0] 3)).alloc (.cells #[.int .u64 0] 42)).alloc (.cells #[.int .i64 0] 3)).alloc (.cells #[.slice A bs.length cap] 22)) (N + 1 + 1) 42 (.int .u64 0) := by
    rw [← hN]; have q := ((Boxed.new ((w.alloc (.cells #[.int .u64 0] 42)).alloc (.cells #[.int .i64 0] 3)) 42 (.int .u64 0)).alloc (.cells #[.int .i64 0] 3)).alloc (.cells #[.slice A bs.length cap] 22); rwa [World.size_alloc, World.size_alloc] at q
  have b3 : Boxed (((((w.alloc (.cells #[.int .u64 0] 42)).alloc (.cells #[.int .i64 0] 3)).alloc (.cells #[.int .u64 0] 42)).alloc (.cells #[.int .i64 0] 3)).alloc (.cells #[.slice A bs.length cap] 22)) (N + 1 + 1 + 1) 3 (.int .i64 0) := by
    rw [← hN]; have q := (Boxed.new (((w.alloc (.cells #[.int .u64 0] 42)).alloc (.cells #[.int .i64 0] 3)).alloc (.cells #[.int .u64 0] 42)) 3 (.int .i64 0)).alloc (.cells #[.slice A bs.length cap] 22); rwa [World.size_alloc, World.size_alloc, World.size_alloc] at q
  have b4 : Boxed (((((w.alloc (.cells #[.int .u64 0] 42)).alloc (.cells #[.int .i64 0] 3)).alloc (.cells #[.int .u64 0] 42)).alloc (.cells #[.int .i64 0] 3)).alloc (.cells #[.slice A bs.length cap] 22)) (N + 1 + 1 + 1 + 1) 22 (.slice A bs.length cap) := by
    rw [← hN]; have q := Boxed.new ((((w.alloc (.cells #[.int .u64 0] 42)).alloc (.cells #[.int .i64 0] 3)).alloc (.cells #[.int .u64 0] 42)).alloc (.cells #[.int .i64 0] 3)) 22 (.slice A bs.length cap); rwa [World.size_alloc, World.size_alloc, World.size_alloc, World.size_alloc] at q
  have hB0 : Below w.heap.size w (((((w.alloc (.cells #[.int .u64 0] 42)).alloc (.cells #[.int .i64 0] 3)).alloc (.cells #[.int .u64 0] 42)).alloc (.cells #[.int .i64 0] 3)).alloc (.cells #[.slice A bs.length cap] 22)) := by go_grown
  obtain ⟨W0, hW0⟩ : ∃ W0, (((((w.alloc (.cells #[.int .u64 0] 42)).alloc (.cells #[.int .i64 0] 3)).alloc (.cells #[.int .u64 0] 42)).alloc (.cells #[.int .i64 0] 3)).alloc (.cells #[.slice A bs.length cap] 22)) = W0 := ⟨_, rfl⟩
  have hsz : W0.heap.size = N + 1 + 1 + 1 + 1 + 1 := by rw [← hW0, ← hN]; simp
  rw [hW0] at b0 b1 b2 b3 b4 hB0 ⊢
  rw [hN] at hB0
  rw [hN]
  have HN := aside hN
  have HZ := aside hsz
  clear hW0 hN
  refine wpIn_rangeFunc_ownG hro hn1 (gf := 50) (lb := #[.pointer (some ⟨N + 1 + 1 + 1 + 1, 0, none⟩)]) rfl h3 (enters_of Tryd.func50 (by kernel_rfl) rfl)
    (digits_stops F (n - 1) h3 hro (by omega) (N + 1 + 1 + 1 + 1) N A cap bs W0 w b4.lt (by omega) (by have := HN.out; omega) (by rw [HN.out]; exact hB0) b4.cell hS) belowK_t (belowK_b (by omega)) (Below.refl _ _) (fun _ => rfl)
    (fun pre W => Inv N pre W ∧ Below N w W) (fun c pre W => Out N c pre W ∧ Below N w W)
    (OwnFrom.and (Own.from (fun s A B row hs hg hr => by
      obtain ⟨n, e1, e2, e3, e4, e5, e6, e7⟩ := hs
      exact ⟨n, e1, e2, e3, stays e4 hg hr, stays e5 hg hr, stays e6 hg hr, stays e7 hg hr⟩) _) (ownFrom_below (by have := HN.out; omega) (by omega)))
    (fun c => OwnFrom.and (Own.from (fun s A B row hs hg hr => by
      obtain ⟨e0, n, k, e1, e2, e3⟩ := hs
      exact ⟨e0, n, k, e1, stays e2 hg hr, stays e3 hg hr⟩) _) (ownFrom_below (by have := HN.out; omega) (by omega)))
    ⟨⟨0, by simp, fun rest => by simp, by simp, b0, b1, b2, b3⟩, hB0⟩
    (fun x => { tmps := #[.slice A bs.length cap, undef, .pointer (some ⟨N, 0, none⟩), .pointer (some ⟨N + 1, 0, none⟩), .pointer (some ⟨N + 1 + 1, 0, none⟩), .pointer (some ⟨N + 1 + 1 + 1, 0, none⟩), .int .u64 x.1.1, .bool x.1.2, undef, .slice A bs.length cap, .func (.func 50) #[] #[.pointer (some ⟨N + 1 + 1 + 1 + 1, 0, none⟩)], .int .u64 x.1.1, .bool x.1.2, undef, undef, undef, undef, undef, undef, undef, undef, undef, undef, undef, undef, undef, undef, undef, undef, undef, undef, undef, undef, undef, undef, undef, undef], defers := [] }) ?assign ?body ?done ?stop
  case assign =>
    intro l x W K hK
    gi_wp2
    exact hK
  case body =>
    rintro l pre ⟨⟨d, last⟩, hd0, hd1⟩ W ⟨⟨m, e1, e2, e3, c0, c1, c2, c3⟩, hB⟩ hlt
    have E2 := aside e2
    have E3 := aside e3
    obtain ⟨dn, rfl⟩ : ∃ dn : Nat, d = dn := ⟨d.toNat, by omega⟩
    obtain ⟨i, hi⟩ : ∃ i, pre.length = i := ⟨_, rfl⟩
    rw [hi] at c3 hlt e1
    have HI := aside hi
    have E1 := aside e1
    clear e1 e2 e3 hi
    have r0 := c0.cell
    have r1 := c1.cell
    have r2 := c2.cell
    have r3 := c3.cell
    have f0 := c0.frozen
    have f1 := c1.frozen
    have f2 := c2.frozen
    have f3 := c3.frozen
    have hdn : dn < 128 := by have : (dn : Int) < 128 := hd1; omega
    have hstep : ∀ rest, getP 0 0 (pre ++ [⟨((dn : Int), last), ⟨hd0, hd1⟩⟩] ++ rest) = getP i m (⟨((dn : Int), last), ⟨hd0, hd1⟩⟩ :: rest) := by
      intro rest
      rw [List.append_assoc, E2.out, HI.out]
      rfl
    simp only [getP, Int.toNat_natCast] at hstep
    have HP := aside hstep
    clear hstep E2
    have e2i : ((2 : Int) ^ (7 * i)) = ((2 ^ (7 * i) : Nat) : Int) := by simp
    by_cases hov : 18446744073709551616 ≤ m + dn * 2 ^ (7 * i)
    · have hq := back_out i dn m hlt hdn E1.out hov
      obtain ⟨P, hP⟩ : ∃ P, dn * 2 ^ (7 * i) % 18446744073709551616 = P := ⟨_, rfl⟩
      have hw : IntKind.u64.wrap ((dn : Int) * 2 ^ (7 * i)) = (P : Int) := by
        rw [IntKind.wrap_u64, ← hP]; simp
      rw [hP] at hq
      have hne : ((P : Int) / 2 ^ (7 * i) != (dn : Int)) = true := by
        rw [bne_iff_ne]
        intro h
        apply hq
        rw [e2i, ← Int.natCast_ediv] at h
        exact Int.ofNat.inj h
      have HOv := aside hov
      clear hov hq hP e2i
      gi_wp2
      refine ⟨((KeepsOthers.setCell _ _ _).trans (KeepsOthers.setCell _ _ _)).from _, ⟨rfl, 0, 0, fun rest => ?_, (c0.set _).other (by omega) _, (c1.other (by omega) _).set _⟩, (hB.setCell (p := ⟨N, 0, none⟩) (Nat.le_refl _) _).setCell (p := ⟨N + 1, 0, none⟩) (by simp) _⟩
      rw [HP.out rest, if_pos HOv.out]
    · have hq := back_in i dn m (by omega)
      obtain ⟨P, hP⟩ : ∃ P, dn * 2 ^ (7 * i) = P := ⟨_, rfl⟩
      have hw : IntKind.u64.wrap ((dn : Int) * 2 ^ (7 * i)) = (P : Int) := by
        have e : (dn : Int) * 2 ^ (7 * i) = (P : Int) := by rw [← hP]; simp
        rw [IntKind.wrap_u64, e]; omega
      rw [hP, Nat.mod_eq_of_lt (by omega)] at hq
      have hne : ((P : Int) / 2 ^ (7 * i) != (dn : Int)) = false := by
        rw [e2i, ← Int.natCast_ediv, hq]; simp
      have hor := or_sum m dn (7 * i) E1.out (by omega)
      have hsum : m + P < 18446744073709551616 := by omega
      have hb : m + P < 2 ^ (7 * (i + 1)) := by
        have h1 := E1.out
        have h2 : dn * 2 ^ (7 * i) ≤ 127 * 2 ^ (7 * i) := Nat.mul_le_mul_right _ (by omega)
        have h3 := pw_succ i
        omega
      have HP2 := HP.out
      rw [hP] at hor HP2
      have HP3 : Hid (∀ rest, getP 0 0 (pre ++ [⟨((dn : Int), last), ⟨hd0, hd1⟩⟩] ++ rest) = if last = true then if dn = 0 ∧ 0 < i then (0, 0) else (m + P, i + 1) else getP (i + 1) (m + P) rest) := aside (fun rest => by rw [HP2 rest, if_neg (by omega)])
      have HSu := aside hsum
      have HBd := aside hb
      clear hov hq hP e2i HP HP2 hsum hb
      obtain ⟨S, hS2⟩ : ∃ S, m + P = S := ⟨_, rfl⟩
      rw [hS2] at hor HP3 HSu HBd
      clear hS2
      cases last
      · gi_wp2
        have hlen : (pre ++ [(⟨((dn : Int), false), ⟨hd0, hd1⟩⟩ : Dg)]).length = i + 1 := by rw [List.length_append, HI.out]; rfl
        refine ⟨((KeepsOthers.setCell _ _ _).trans (KeepsOthers.setCell _ _ _)).from _, ((Below.refl N W).setCell (p := ⟨N + 1 + 1, 0, none⟩) (by simp; omega) _).setCell (p := ⟨N + 1 + 1 + 1, 0, none⟩) (by simp; omega) _, ⟨S, ?_, fun rest => ?_, fun p hp => ?_, (c0.other (by omega) _).other (by omega) _, (c1.other (by omega) _).other (by omega) _, (c2.set _).other (by omega) _, ?_⟩, (hB.setCell (p := ⟨N + 1 + 1, 0, none⟩) (by simp; omega) _).setCell (p := ⟨N + 1 + 1 + 1, 0, none⟩) (by simp; omega) _⟩
        · rw [hlen]; exact HBd.out
        · rw [HP3.out rest, hlen]; simp
        · rcases List.mem_append.1 hp with hp | hp
          · exact E3.out p hp
          · obtain rfl := List.mem_singleton.1 hp
            rfl
        · rw [hlen]
          exact (c3.other (by omega) _).set _
      · by_cases hz : dn = 0 ∧ 0 < i
        · have z1 : dn ≤ 0 := by omega
          have z2 := hz.2
          have HZ2 := aside hz
          have hx : ∀ h : 0 ≤ ((0 : Int), true).1 ∧ ((0 : Int), true).1 < 128, (⟨((dn : Int), true), ⟨hd0, hd1⟩⟩ : Dg) = ⟨((0 : Int), true), h⟩ := fun h => Subtype.ext (by show ((dn : Int), true) = ((0 : Int), true); rw [hz.1]; rfl)
          clear hz
          gi_wp2
          refine ⟨((((KeepsOthers.setCell _ _ _).trans (KeepsOthers.setCell _ _ _)).trans (KeepsOthers.setCell _ _ _)).trans (KeepsOthers.setCell _ _ _)).from _, ⟨rfl, 0, 0, fun rest => ?_, (((c0.other (by omega) _).other (by omega) _).set _).other (by omega) _, (((c1.other (by omega) _).other (by omega) _).other (by omega) _).set _⟩, ((((hB.setCell (p := ⟨N + 1 + 1, 0, none⟩) (by simp; omega) _).setCell (p := ⟨N + 1 + 1 + 1, 0, none⟩) (by simp; omega) _).setCell (p := ⟨N, 0, none⟩) (by simp) _).setCell (p := ⟨N + 1, 0, none⟩) (by simp) _)⟩
          have q := HP3.out rest
          rw [hx ⟨by simp, by simp⟩, if_pos (by trivial), if_pos HZ2.out] at q
          exact q
        · have HZ2 := aside hz
          have hmx : Tryd.prog.follows .mixedOrders = true := by kernel_rfl
          by_cases hd : dn = 0
          · have z1 : dn ≤ 0 := by omega
            have z2 : i ≤ 0 := by omega
            clear hz hd
            gi_wp2
            gi_region_o
            all_goals gi_wp2
            all_goals
              refine ⟨(((((KeepsOthers.setCell _ _ _).trans (KeepsOthers.setCell _ _ _)).trans (KeepsOthers.setCell _ _ _)).trans (KeepsOthers.setCell _ _ _)).trans (KeepsOthers.drew _)).from _, ⟨rfl, S, i + 1, fun rest => ?_, (((c0.other (by omega) _).other (by omega) _).set _).other (by omega) _, (((c1.other (by omega) _).other (by omega) _).other (by omega) _).set _⟩, below_drew1 ((((hB.setCell (p := ⟨N + 1 + 1, 0, none⟩) (by simp; omega) _).setCell (p := ⟨N + 1 + 1 + 1, 0, none⟩) (by simp; omega) _).setCell (p := ⟨N, 0, none⟩) (by simp) _).setCell (p := ⟨N + 1, 0, none⟩) (by simp) _)⟩
              rw [HP3.out rest, if_pos (by trivial), if_neg HZ2.out]
          · have z1 : 0 < dn := by omega
            clear hz hd
            gi_wp2
            gi_region_o
            all_goals gi_wp2
            all_goals
              refine ⟨(((((KeepsOthers.setCell _ _ _).trans (KeepsOthers.setCell _ _ _)).trans (KeepsOthers.setCell _ _ _)).trans (KeepsOthers.setCell _ _ _)).trans (KeepsOthers.drew _)).from _, ⟨rfl, S, i + 1, fun rest => ?_, (((c0.other (by omega) _).other (by omega) _).set _).other (by omega) _, (((c1.other (by omega) _).other (by omega) _).other (by omega) _).set _⟩, below_drew1 ((((hB.setCell (p := ⟨N + 1 + 1, 0, none⟩) (by simp; omega) _).setCell (p := ⟨N + 1 + 1 + 1, 0, none⟩) (by simp; omega) _).setCell (p := ⟨N, 0, none⟩) (by simp) _).setCell (p := ⟨N + 1, 0, none⟩) (by simp) _)⟩
              rw [HP3.out rest, if_pos (by trivial), if_neg HZ2.out]
  case done =>
    rintro D ys W hD hS' ⟨⟨m, e1, e2, e3, c0, c1, c2, c3⟩, hB⟩ hK
    have hgl : getL bs = (0, 0) := by
      rcases hS' with rfl | ⟨ini, x, rfl, hx⟩
      · have q := e2 []
        rw [List.append_nil, getP_L] at q
        exact q
      · have := e3 x (by simp)
        rw [hx] at this
        cases this
    have HG := aside hgl
    clear hgl e2 e3 e1 hS'
    have r0 := c0.cell
    have r1 := c1.cell
    have f0 := c0.frozen
    have f1 := c1.frozen
    gi_wp2
    have hK' := ((KeepsOthers.setCell W ⟨N, 0, none⟩ (.int .u64 0)).trans (KeepsOthers.setCell (W.setCell ⟨N, 0, none⟩ (.int .u64 0)) ⟨N + 1, 0, none⟩ (.int .i64 0))).same D _ hK rfl
    refine ⟨by simp, .inl ⟨_, _, rfl, run_takeDeferred hK', ?_⟩⟩
    have p0 := stays ((c0.set (.int .u64 0)).other (B' := N + 1) (by omega) (.int .i64 0)) (grownBy_putObj' _ D (.deferred none)) (fun r e => by cases e; exact ⟨_, hK', rfl⟩)
    have p1 := stays ((c1.other (B' := N) (by omega) (.int .u64 0)).set (.int .i64 0)) (grownBy_putObj' _ D (.deferred none)) (fun r e => by cases e; exact ⟨_, hK', rfl⟩)
    have q0 := p0.cell
    have q1 := p1.cell
    have hB2 : Below w.heap.size w ((W.setCell ⟨N, 0, none⟩ (.int .u64 0)).setCell ⟨N + 1, 0, none⟩ (.int .i64 0)) := by rw [HN.out]; exact (hB.setCell (p := ⟨N, 0, none⟩) (Nat.le_refl _) _).setCell (p := ⟨N + 1, 0, none⟩) (by simp) _
    refine ⟨.tuple #[.int .u64 0, .int .i64 0], ?_, by rw [HG.out]; rfl, hB2.trans (belowK_b (w := w) (Nat.le_refl _) _ D _ _ (by have := HN.out; omega) hK' rfl rfl)⟩
    simp [results, Tryd.f32, go_sem, q0, q1]
  case stop =>
    rintro D c pre W hD ⟨k, hk, rfl⟩ ⟨⟨rfl, m, k', e1, c0, c1⟩, hB⟩ hK
    have hgl : getL bs = (m, k') := by
      have q := e1 (((bs.drop k).take (10 - k)).map dg)
      rw [← getP_L, ← q]
      unfold dgs
      rw [← List.map_append, ← List.take_add, show k + (10 - k) = 10 by omega]
    have HG := aside hgl
    clear hgl e1
    gi_wp2
    refine ⟨by simp, .inl ⟨_, _, rfl, run_takeDeferred hK, ?_⟩⟩
    have p0 := stays c0 (grownBy_putObj' _ D (.deferred none)) (fun r e => by cases e; exact ⟨_, hK, rfl⟩)
    have p1 := stays c1 (grownBy_putObj' _ D (.deferred none)) (fun r e => by cases e; exact ⟨_, hK, rfl⟩)
    have q0 := p0.cell
    have q1 := p1.cell
    have hB2 : Below w.heap.size w W := by rw [HN.out]; exact hB
    refine ⟨.tuple #[.int .u64 m, .int .i64 k'], ?_, by rw [HG.out], hB2.trans (belowK_b (w := w) (Nat.le_refl _) _ D _ _ (by have := HN.out; omega) hK rfl rfl)⟩
    simp [results, Tryd.f32, go_sem, q0, q1]

/-- What enc.Get returns. -/
theorem get {A : Option Addr} {len cap : Nat} {bs : List Int} {w : World} (hS : Sl w A cap bs) (hl : bs.length = len) :
    Calls Tryd.prog 32 #[.slice A len cap] w fun e w' => e = .returned (.tuple #[.int .u64 ((getL bs).1 : Nat), .int .i64 ((getL bs).2 : Nat)]) ∧ Below w.heap.size w w' :=
  (callsIn_wide (n := 3)).1 (get_in Fence.wide 3 trivial trivial trivial rfl (Nat.le_refl _) A len cap bs w hS hl)
end Go.Proofs.YthdpipllighegaaDoor.EncG
