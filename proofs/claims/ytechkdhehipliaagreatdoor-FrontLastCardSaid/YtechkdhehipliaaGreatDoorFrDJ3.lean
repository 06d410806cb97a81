/- What the project's Next of package front returns, and the five of it together: contracts. No condition. | What the listed variable gives a walk: the table of constants, cell by cell; and a world that meets the condition. | Contracts of package ids as premises; slices of ids cut on both sides. No condition. -/
import Derived.Test.YtechkdhehipliaaGreatDoorFrC
import Derived.Test.YtechkdhehipliaaGreatDoorFrXJ4
import Derived.Test.YtechkdhehipliaaGreatDoorCmFJ4
import Derived.Test.YtechkdhehipliaaGreatDoorRows
import Derived.ProofKit
import Derived.LaidMore
import Derived.OpenShut
import Derived.Stop.Joined
import Derived.Test.YtechkdhehipliaaGreatDoorDgCJ2
namespace Go.Proofs.YtechkdhehipliaaGreatDoor.FrD
set_option maxRecDepth 100000
open Go Go.Sort Go.RowKit Byt IdM IdW OpsM OpsW RowS CmM StW CmW CmX CmY CmA DgM DgX DgW DgR DgC DgF DgG FrM FrN FrH FrU FrK FrV FrY FrZ DhA
open Classical

def tree : Forks.Tree := .free 0 (.free 1 (.free 3 (.free 5 (.two 2 (.two 4 (.free 6 (.act 7 (.act 8 .ends))) 7 (.act 4 (.free 6 (.act 8 .ends)))) 7 (.act 2 (.act 4 (.free 6 (.act 8 .ends))))))))
theorem in_below {w w' : World} {l : List Cv} (h : ∀ x ∈ l, CmW.In w x ∧ Fit x.c) (k : Below w.heap.size w w') : ∀ x ∈ l, CmW.In w' x ∧ Fit x.c := fun x hx => ⟨(h x hx).1.below k, (h x hx).2⟩
set_option maxRecDepth 100000 in
set_option maxHeartbeats 32000000 in
theorem next_ret (X : KnownRet) (A : Option Addr) (cap : Nat) (l : List Cv) (ev : Ev) (o : Opn) (w : World) (S : SlK w A cap l) (hl : l.length ≤ 100) (ho : CmR.Okay ⟨ev.node, ev.seq, 0, [], o⟩) (K : ShaE.KIn w) :
    Calls Tryz.prog 41 #[.slice A l.length cap, .agg (ec ev), .agg (opc o)] w (FoundC (nextC (coms l) ev o) w) := by
  obtain ⟨E0, O0, R0⟩ := W3_boxes w ev o
  have b0 := W3_below w ev o
  have qa := fun W S => above_ret A cap l W S
  have qf := fun W S K => FrC.front_ret X A cap l W S (by omega) K
  have qc := fun B n m W S K => DhA.closed_ret X B n (l ++ [m]) W S (by simp; omega) K
  unfold NewD at qf
  have hnx := next_wrap (l := coms l) (ev := ev) (o := o) (fun c hc => by
    obtain ⟨x, hx, rfl⟩ := List.mem_map.1 hc
    exact (S.each x hx).2.gen) (by rw [coms_len]; omega)
  unfold FoundC
  obtain ⟨r, hr⟩ : ∃ r, nextC (coms l) ev o = r := ⟨_, rfl⟩
  obtain ⟨F, hF⟩ : ∃ F, frontC (coms l) = F := ⟨_, rfl⟩
  have hg := wrap_one (most ((coms l).map (·.gen)) + 1)
  obtain ⟨g, hgg⟩ : ∃ g, IntKind.i64.wrap (most ((coms l).map (·.gen)) + 1) = g := ⟨_, rfl⟩
  rw [hr, hF, hgg] at hnx
  rw [hr]
  rw [hF] at qf
  rw [hgg] at qa hg
  have hfit : Fit ⟨ev.node, ev.seq, g, F, o⟩ := ⟨ho.fit.node, ho.fit.seq, hg, ho.fit.op⟩
  have HFIT := aside hfit
  have HNX := aside hnx
  clear hr hF hgg hg hnx hfit ho
  go_enter Tryz.func41, Tryz.ntmps41
  go_wp2_with (first | go_skip)
  refine GrowT.region 8 tree (by kernel_rfl) (by kernel_rfl) rfl (by kernel_rfl) (by intro c a d v w h; cases d <;> exact h) ?_
  have dr := below_drew1 (Below.refl (W3 w ev o).heap.size (W3 w ev o))
  have E1 := E0.below dr
  have O1 := O0.below dr
  have R1 := R0.below dr
  have b1 := b0.trans (dr.mono b0.size)
  rw [show ((w.alloc (.cells (ec ev) 34)).alloc (.cells (opc o) 36)).alloc (.cells #[.int .i64 0, .int .i64 0, .int .i64 0, .slice none 0 0, .int .i64 0, .string ⟨#[]⟩, .string ⟨#[]⟩, .int .i64 0] 38) = W3 w ev o from rfl]
  generalize (W3 w ev o).drew = w1 at E1 O1 R1 b1 ⊢
  clear E0 O0 R0 b0 dr
  (try simp only [Act.put, List.setIfInBounds_toArray, List.set_cons_succ, List.set_cons_zero])
  repeat (first | (refine GrowT.reads rfl rfl ?_; go_big_quiet_want; refine Cel.quiet_row EE _ rfl _ _ rfl ev E1.range ?_; go_big_quiet_on; refine wpQuiet_nil ?_; (try simp only [Act.put, List.setIfInBounds_toArray, List.set_cons_succ, List.set_cons_zero])) | (refine GrowT.reads rfl rfl ?_; go_big_quiet_want; refine Cel.quiet_row OE _ rfl _ _ rfl o O1.range ?_; go_big_quiet_on; refine wpQuiet_nil ?_; (try simp only [Act.put, List.setIfInBounds_toArray, List.set_cons_succ, List.set_cons_zero])) | (refine GrowT.reads rfl rfl ?_; go_big_quiet_step (fail); refine wpQuiet_nil ?_))
  clear E1 O1
  refine GrowT.forks rfl rfl ?_ ?_
  focus
    go_wp2_with (first | go_skip)
    refine (qa _ (S.below b1)).mono ?_
    rintro e w2 ⟨rfl, k⟩
    go_wp2_with (first | go_skip)
    refine ⟨k, ?_⟩
    (try simp only [Act.put, List.setIfInBounds_toArray, List.set_cons_succ, List.set_cons_zero])
    have R2 := R1.below k
    have b2 := b1.trans (k.mono b1.size)
    clear R1 b1 k
    refine GrowT.forks rfl rfl ?_ ?_
    focus
      go_wp2_with (first | go_skip)
      refine (qf _ (S.below b2) (K.below b2)).mono ?_
      rintro e w3 ⟨AF, cF, rfl, T3, k⟩
      go_wp2_with (first | go_skip)
      refine ⟨k, ?_⟩
      (try simp only [Act.put, List.setIfInBounds_toArray, List.set_cons_succ, List.set_cons_zero])
      have R3 := R2.below k
      have b3 := b2.trans (k.mono b2.size)
      clear R2 b2 k
      refine GrowT.reads rfl rfl ?_
      go_big_quiet_want
      refine quiet_build4 _ _ _ _ rfl (.agg (EE.enc ev).toArray) (.int .i64 g) (.slice AF F.length cF) (.agg (OE.enc o).toArray) _ rfl rfl rfl rfl (build_com4 ev g AF F.length cF o) ?_
      go_big_quiet_on
      refine wpQuiet_nil ?_
      (try simp only [Act.put, List.setIfInBounds_toArray, List.set_cons_succ, List.set_cons_zero])
      refine GrowT.acts rfl ?_
      go_wp2_with (first | go_skip)
      have k := StW.below_alloc w3 (.cells #[.int .i64 0, .int .i64 0, .int .i64 0, .slice none 0 0, .int .i64 0, .string ⟨#[]⟩, .string ⟨#[]⟩, .int .i64 0] 38)
      refine ⟨k, ?_⟩
      (try simp only [Act.put, List.setIfInBounds_toArray, List.set_cons_succ, List.set_cons_zero])
      have N4 : Cel.Box CE (w3.alloc (.cells #[.int .i64 0, .int .i64 0, .int .i64 0, .slice none 0 0, .int .i64 0, .string ⟨#[]⟩, .string ⟨#[]⟩, .int .i64 0] 38)) w3.heap.size noV := Cel.Box.new (E := CE) w3 noV _
      have hz : w.heap.size + 1 + 1 < w3.heap.size := R3.lt
      have R4 := R3.below k
      have T4 := T3.below k
      have b4 := b3.trans (k.mono b3.size)
      clear R3 T3 b3 k
      obtain ⟨gn, hgn⟩ : ∃ gn, w3.heap.size = gn := ⟨_, rfl⟩
      generalize w3.alloc (.cells #[.int .i64 0, .int .i64 0, .int .i64 0, .slice none 0 0, .int .i64 0, .string ⟨#[]⟩, .string ⟨#[]⟩, .int .i64 0] 38) = w4 at R4 T4 b4 N4 ⊢
      rw [hgn] at N4 hz
      try rw [hgn]
      clear hgn
    rotate_left
    focus
      go_wp2_with (first | go_skip)
      have k := StW.below_alloc w2 (.cells #[.int .i64 0, .int .i64 0, .int .i64 0, .slice none 0 0, .int .i64 0, .string ⟨#[]⟩, .string ⟨#[]⟩, .int .i64 0] 38)
      refine ⟨k, ?_⟩
      (try simp only [Act.put, List.setIfInBounds_toArray, List.set_cons_succ, List.set_cons_zero])
      have N3 : Cel.Box CE (w2.alloc (.cells #[.int .i64 0, .int .i64 0, .int .i64 0, .slice none 0 0, .int .i64 0, .string ⟨#[]⟩, .string ⟨#[]⟩, .int .i64 0] 38)) w2.heap.size noV := Cel.Box.new (E := CE) w2 noV _
      have hz : w.heap.size + 1 + 1 < w2.heap.size := R2.lt
      have R3 := R2.below k
      have b3 := b2.trans (k.mono b2.size)
      clear R2 b2 k
      obtain ⟨gn, hgn⟩ : ∃ gn, w2.heap.size = gn := ⟨_, rfl⟩
      generalize w2.alloc (.cells #[.int .i64 0, .int .i64 0, .int .i64 0, .slice none 0 0, .int .i64 0, .string ⟨#[]⟩, .string ⟨#[]⟩, .int .i64 0] 38) = w3 at R3 b3 N3 ⊢
      rw [hgn] at N3 hz
      try rw [hgn]
      clear hgn
      refine GrowT.acts rfl ?_
      go_wp2_with (first | go_skip)
      refine (qf _ (S.below b3) (K.below b3)).mono ?_
      rintro e w4 ⟨AF, cF, rfl, T4, k⟩
      go_wp2_with (first | go_skip)
      refine ⟨k, ?_⟩
      (try simp only [Act.put, List.setIfInBounds_toArray, List.set_cons_succ, List.set_cons_zero])
      have R4 := R3.below k
      have N4 := N3.below k
      have b4 := b3.trans (k.mono b3.size)
      clear R3 N3 b3 k
      refine GrowT.reads rfl rfl ?_
      go_big_quiet_want
      refine quiet_build4 _ _ _ _ rfl (.agg (EE.enc ev).toArray) (.int .i64 g) (.slice AF F.length cF) (.agg (OE.enc o).toArray) _ rfl rfl rfl rfl (build_com4 ev g AF F.length cF o) ?_
      go_big_quiet_on
      refine wpQuiet_nil ?_
      (try simp only [Act.put, List.setIfInBounds_toArray, List.set_cons_succ, List.set_cons_zero])
  rotate_left 2
  focus
    go_wp2_with (first | go_skip)
    have k := StW.below_alloc w1 (.cells #[.int .i64 0, .int .i64 0, .int .i64 0, .slice none 0 0, .int .i64 0, .string ⟨#[]⟩, .string ⟨#[]⟩, .int .i64 0] 38)
    refine ⟨k, ?_⟩
    (try simp only [Act.put, List.setIfInBounds_toArray, List.set_cons_succ, List.set_cons_zero])
    have N2 : Cel.Box CE (w1.alloc (.cells #[.int .i64 0, .int .i64 0, .int .i64 0, .slice none 0 0, .int .i64 0, .string ⟨#[]⟩, .string ⟨#[]⟩, .int .i64 0] 38)) w1.heap.size noV := Cel.Box.new (E := CE) w1 noV _
    have hz : w.heap.size + 1 + 1 < w1.heap.size := R1.lt
    have R2 := R1.below k
    have b2 := b1.trans (k.mono b1.size)
    clear R1 b1 k
    obtain ⟨gn, hgn⟩ : ∃ gn, w1.heap.size = gn := ⟨_, rfl⟩
    generalize w1.alloc (.cells #[.int .i64 0, .int .i64 0, .int .i64 0, .slice none 0 0, .int .i64 0, .string ⟨#[]⟩, .string ⟨#[]⟩, .int .i64 0] 38) = w2 at R2 b2 N2 ⊢
    rw [hgn] at N2 hz
    try rw [hgn]
    clear hgn
    refine GrowT.acts rfl ?_
    go_wp2_with (first | go_skip)
    refine (qa _ (S.below b2)).mono ?_
    rintro e w3 ⟨rfl, k⟩
    go_wp2_with (first | go_skip)
    refine ⟨k, ?_⟩
    (try simp only [Act.put, List.setIfInBounds_toArray, List.set_cons_succ, List.set_cons_zero])
    have R3 := R2.below k
    have N3 := N2.below k
    have b3 := b2.trans (k.mono b2.size)
    clear R2 N2 b2 k
    refine GrowT.acts rfl ?_
    go_wp2_with (first | go_skip)
    refine (qf _ (S.below b3) (K.below b3)).mono ?_
    rintro e w4 ⟨AF, cF, rfl, T4, k⟩
    go_wp2_with (first | go_skip)
    refine ⟨k, ?_⟩
    (try simp only [Act.put, List.setIfInBounds_toArray, List.set_cons_succ, List.set_cons_zero])
    have R4 := R3.below k
    have N4 := N3.below k
    have b4 := b3.trans (k.mono b3.size)
    clear R3 N3 b3 k
    refine GrowT.reads rfl rfl ?_
    go_big_quiet_want
    refine quiet_build4 _ _ _ _ rfl (.agg (EE.enc ev).toArray) (.int .i64 g) (.slice AF F.length cF) (.agg (OE.enc o).toArray) _ rfl rfl rfl rfl (build_com4 ev g AF F.length cF o) ?_
    go_big_quiet_on
    refine wpQuiet_nil ?_
    (try simp only [Act.put, List.setIfInBounds_toArray, List.set_cons_succ, List.set_cons_zero])
  all_goals
    refine GrowT.last rfl ?_
    go_wp2_with (first | go_skip | (refine Cel.wpList_store_box CE rfl _ _ rfl gn rfl noV N4 (⟨AF, cF, ⟨ev.node, ev.seq, g, F, o⟩⟩ : Cv) rfl ?_; intro w5 N5 f8 g8 s8))
    have R5 := R4.kept g8 (fun e => absurd (Option.some.inj e) (Nat.ne_of_lt hz))
    have T5 := CmD.sli_far T4 (CmD.no_cm N4) g8
    have b5 := b4.trans (f8 w.heap.size (by omega))
    clear R4 T4 N4 b4 f8 g8 s8
    refine GrowL.done ?_
    go_wp2_with (first | go_skip | (refine Cel.wpList_load_box CE rfl _ rfl _ rfl (⟨AF, cF, ⟨ev.node, ev.seq, g, F, o⟩⟩ : Cv) N5 ?_) | (refine RowC.wpList_lit1 KE (of_decide_eq_true rfl) rfl _ rfl (⟨AF, cF, ⟨ev.node, ev.seq, g, F, o⟩⟩ : Cv) rfl ?_; intro w6 S6 k))
    have R6 := R5.below k
    have N6 := N5.below k
    have T6 := T5.below k
    have b6 := b5.trans (k.mono b5.size)
    clear R5 N5 T5 b5 k
    obtain ⟨z0, z1⟩ := two_cells w6 (.slice A l.length cap) (.slice (some ⟨w5.heap.size, 0, none⟩) 1 1) 22
    have k := StW.below_alloc w6 (.cells #[.slice A l.length cap, .slice (some ⟨w5.heap.size, 0, none⟩) 1 1] 22)
    refine (FrX.concat_ret w6.heap.size A cap l (some ⟨w5.heap.size, 0, none⟩) 1 [(⟨AF, cF, ⟨ev.node, ev.seq, g, F, o⟩⟩ : Cv)] _ z0 z1 (S.below (b6.trans (k.mono b6.size))).row (S6.below k) (by simp; omega) 2).mono ?_
    clear z0 z1
    have R7 := R6.below k
    have N7 := N6.below k
    have T7 := T6.below k
    have b7 := b6.trans (k.mono b6.size)
    clear R6 N6 T6 b6 k
    rintro e wc ⟨vc, rfl, oc, k⟩
    have R8 := R7.below k
    have N8 := N7.below k
    have T8 := T7.below k
    have b8 := b7.trans (k.mono b7.size)
    clear R7 N7 T7 b7 k
    obtain ⟨AC, cC, rfl, SC⟩ := sl_both oc (S.below b8).each (fun x hx => by rw [List.mem_singleton.1 hx]; exact ⟨T8, HFIT.out⟩)
    clear oc
    have qd := qc AC cC (⟨AF, cF, ⟨ev.node, ev.seq, g, F, o⟩⟩ : Cv) _ SC (K.below b8)
    rw [coms_one] at qd
    rw [List.length_append, List.length_singleton] at qd
    go_wp2_with (first | go_skip)
    refine qd.mono ?_
    clear qd SC
    rintro e we ⟨rfl, k⟩
    have R9 := R8.below k
    have N9 := N8.below k
    have T9 := T8.below k
    have b9 := b8.trans (k.mono b8.size)
    clear R8 N8 T8 b8 k
    have hnx := HNX.out
    by_cases D : Closed hashK (coms l ++ [⟨ev.node, ev.seq, g, F, o⟩])
    case pos =>
      rw [if_pos D] at hnx
      have hd : decide (Closed hashK (coms l ++ [(⟨AF, cF, ⟨ev.node, ev.seq, g, F, o⟩⟩ : Cv).c])) = true := decide_eq_true D
      rw [hd]
      clear hd D
      subst hnx
      go_wp2_with (first | go_skip | (refine Cel.wpList_load_box CE rfl _ rfl _ rfl (⟨AF, cF, ⟨ev.node, ev.seq, g, F, o⟩⟩ : Cv) N9 ?_) | (refine Cel.wpList_store_box CE rfl _ _ rfl (w.heap.size + 1 + 1) rfl noV R9 (⟨AF, cF, ⟨ev.node, ev.seq, g, F, o⟩⟩ : Cv) rfl ?_; intro wZ RZ fZ gZ sZ))
      exact bodyPost_ret (v := .tuple #[.agg (cc (⟨AF, cF, ⟨ev.node, ev.seq, g, F, o⟩⟩ : Cv)), .bool true]) (results_cb Tryz.results41 _ _ (w.heap.size + 1 + 1) (⟨AF, cF, ⟨ev.node, ev.seq, g, F, o⟩⟩ : Cv) _ rfl rfl RZ) rfl ⟨(⟨AF, cF, ⟨ev.node, ev.seq, g, F, o⟩⟩ : Cv), rfl, rfl, CmD.sli_far T9 (CmD.no_cm R9) gZ, HFIT.out, b9.trans (fZ _ (by omega))⟩
    case neg =>
      rw [if_neg D] at hnx
      have hd : decide (Closed hashK (coms l ++ [(⟨AF, cF, ⟨ev.node, ev.seq, g, F, o⟩⟩ : Cv).c])) = false := decide_eq_false D
      rw [hd]
      clear hd D
      subst hnx
      go_wp2_with (first | go_skip | (refine Cel.wpList_load_box CE rfl _ rfl _ rfl (⟨AF, cF, ⟨ev.node, ev.seq, g, F, o⟩⟩ : Cv) N9 ?_) | (refine Cel.wpList_store_box CE rfl _ _ rfl (w.heap.size + 1 + 1) rfl noV R9 noV rfl ?_; intro wZ RZ fZ gZ sZ))
      exact bodyPost_ret (v := .tuple #[.agg (cc noV), .bool false]) (results_cb Tryz.results41 _ _ (w.heap.size + 1 + 1) noV _ rfl rfl RZ) rfl ⟨noV, rfl, rfl, CmW.In.none _, fit_noK, b9.trans (fZ _ (by omega))⟩
theorem known : KnownRet := DhK.known_ret
theorem three : Three where
  ids A cap l w S _ hl K := DhC.ids_ret A cap l w S (by omega) K
  closed A cap l w S _ hl K := DhA.closed_ret known A cap l w S (by omega) K
  anc A A' cap cap' l a w S T _ hl _ K := DhA.anc_ret known A A' cap cap' l a w S T hl K
theorem five : Five where
  front A cap l w S _ hl K := FrC.front_ret known A cap l w S (by omega) K
  join A A' cap cap' l a w S T _ hl _ K := FrC.join_ret known A A' cap cap' l a w S T (by omega) K
  head A cap l w S _ hl K := FrC.head_ret known A cap l w S (by omega) K
  base A A1 A2 cap cap1 cap2 l a b w S T R _ hl _ _ K := FrC.base_ret known A A1 A2 cap cap1 cap2 l a b w S T R (by omega) K
  next A cap l ev o w S _ hl ho K := next_ret known A cap l ev o w S hl ho K
end Go.Proofs.YtechkdhehipliaaGreatDoor.FrD
namespace Go.Proofs.YtechkdhehipliaaGreatDoor.ShaL
set_option maxRecDepth 100000
open Go.ChangeShapes Go.WideShapes Go.ChangeAt Go.RowKit RotM ShaM ShaE

/-- The list of the rows of this seat. -/
abbrev laid1 : List (String × DataW Unit) := [("anabranch/sha.constants", Rows.laid_anabranch_sha_constants)]
theorem gK : Tryz.prog.globalNamed "anabranch/sha.constants" = some 0 := by kernel_rfl
theorem tK : (Tryz.prog.globals[0]?).map (·.type) = some 133 := by kernel_rfl
theorem cells_u32 : Tryz.prog.cellsOf 114 = 1 := by kernel_rfl
theorem datum : (Rows.laid_anabranch_sha_constants : DataW Unit) = .agg ((List.range 64).map fun i => .lit (.int .u32 (u (kc i)))) := by kernel_rfl

/-- The door's own heap meets the condition. -/
theorem door_met (os : Os) (args : Array Value) : laidMetH Tryz.prog laid1 ((World.doorLaid Tryz.prog 14 os).forCall (fun _ _ => 0) ⟨#[], args, []⟩).memory :=
  laidMetH_of_parts3 (fuel := 8) (laidMet_of_run' 8 (by kernel_rfl) (by kernel_rfl)) (by kernel_rfl) (by kernel_rfl)

theorem of_laid {W : World} (h : laidMetH Tryz.prog laid1 W) : KIn W := by
  rw [MakeChecks.laidMetH_plain _ _ _ (by kernel_rfl)] at h
  obtain ⟨ps, ⟨g0, t0, cs0, f0, p0, q0, hg0, ht0, hv0, hd0, _⟩, _, _⟩ := h
  obtain rfl := Option.some.inj (gK.symm.trans hg0)
  obtain rfl := Option.some.inj (tK.symm.trans ht0)
  obtain ⟨xs, m, _, hx, hlen, hn, hel⟩ := DataW.trod_array Tryz.underlying133 hd0
  intro i hi
  have hc := World.var?_cell hg0 hv0 i
  have he := hel i hi
  rw [datum] at hx
  simp only [Prod.mk.injEq, DataW.agg.injEq] at hx
  obtain ⟨hx, _⟩ := hx
  have hxi := congrArg (fun l => l[i]?) hx
  have hlt : i < xs.length := by omega
  simp only [List.getElem?_map, List.getElem?_range hi, Option.map_some, List.getElem?_eq_getElem hlt, Option.some.injEq] at hxi
  rw [List.getElem?_eq_getElem hlt] at he
  obtain ⟨n, e1, e2, _⟩ := DataW.trod_int Tryz.underlying114 he
  rw [e2] at hxi
  simp only [DataW.lit.injEq, Lit.int.injEq, true_and] at hxi
  subst hxi
  rw [hc]
  rw [cells_u32, Nat.mul_one] at e1
  have e3 := congrArg (fun l => l[0]?) e1
  simpa using e3
end Go.Proofs.YtechkdhehipliaaGreatDoor.ShaL
namespace Go.Proofs.YtechkdhehipliaaGreatDoor.DhU
set_option maxRecDepth 100000
open Go Go.Sort Go.RowKit Byt IdM IdW IdX

theorem run_part_lh (w : World) (A : Option Addr) (len cap : Nat) (k k' : IntKind) (i j : Nat) (hij : i ≤ j) (hj : j ≤ cap) :
    (Instr.sliceAt 23 (.slice A len cap) (some (.int k i)) (some (.int k' j)) none).run Tryz.prog w = .ok (sliced A i j cap 32) w := by
  rw [run_sliceAt_slice w _ _ _ _ _ under_id, run_slice_lh w _ A len cap under_id k k' i j (by omega) (by omega) (by omega), size_id]
  simp [Result.andThen]
abbrev BothRet : Prop := ∀ (A A' : Option Addr) (cap cap' : Nat) (l l' : List Idn) (w : World), SlI w A cap l → SlI w A' cap' l' → l.length ≤ 500 → l'.length ≤ 500 → Calls Tryz.prog 29 #[.slice A l.length cap, .slice A' l'.length cap'] w (NewI (both l l') w)
abbrev CommonRet : Prop := ∀ (A A' : Option Addr) (cap cap' : Nat) (l l' : List Idn) (w : World), SlI w A cap l → SlI w A' cap' l' → l.length ≤ 500 → l'.length ≤ 500 → Calls Tryz.prog 30 #[.slice A l.length cap, .slice A' l'.length cap'] w (NewI (common l l') w)
theorem rising_short {l m : List Idn} (hl : Rising l) (h : ∀ x ∈ l, x ∈ m) : l.length ≤ m.length := by
  have hn := rising_nodup hl
  clear hl
  induction l generalizing m with
  | nil => exact Nat.zero_le _
  | cons x l ih =>
    rw [List.nodup_cons] at hn
    have h1 := ih (m := m.erase x) (fun y hy => by
      have hne : y ≠ x := fun e => hn.1 (by rw [← e]; exact hy)
      exact (List.mem_erase_of_ne hne).2 (h y (List.mem_cons_of_mem _ hy))) hn.2
    have hx := h x (by simp)
    rw [List.length_erase_of_mem hx] at h1
    have := List.length_pos_of_mem hx
    simp only [List.length_cons]
    omega
theorem common_short (a b : List Idn) : (common a b).length ≤ a.length := rising_short (rising_common a b) fun _ h => ((mem_common _ a b).1 h).1
end Go.Proofs.YtechkdhehipliaaGreatDoor.DhU
