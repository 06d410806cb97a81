/- What the project's At of package eval returns: a contract; both functions. No condition. | What the listed variable gives a walk: the table of constants, cell by cell; and a world that meets the condition. -/
import Derived.Test.YtgmdhaepiclkcaaGreatDoorEaG
import Derived.Test.YtgmdhaepiclkcaaGreatDoorOpsGJ8
import Derived.Test.YtgmdhaepiclkcaaGreatDoorRows
import Derived.ProofKit
import Derived.LaidMore
import Derived.OpenShut
import Derived.Stop.Joined
namespace Go.Proofs.YtgmdhaepiclkcaaGreatDoor.EaL
set_option maxRecDepth 100000
open Go Go.Sort Go.RowKit Byt IdM IdW OpsM OpsW RowS CmM StM StW CmW CmX CmY CmA DgM DgW DgR DgF EaM EaN EaH EaG
open Classical

theorem anc_few (l : List Com) (a : List Idn) : (ancC l a).length ≤ l.length := by
  by_cases C : Closed hashK l
  · rw [ancC, if_pos C, ← part_len C]
    exact List.length_filter_le _ _
  · rw [ancC, if_neg C]
    exact Nat.zero_le _
theorem part_few (l : List Com) (a : List Idn) : (partC l a).length ≤ l.length := by
  unfold partC
  split
  · exact List.length_filter_le _ _
  · exact Nat.zero_le _
set_option maxRecDepth 100000 in
set_option maxHeartbeats 16000000 in
theorem at_ret (A A' : Option Addr) (cap cap' : Nat) (l : List Cv) (a : List Idn) (w : World) (S : SlK w A cap l) (T : SlI w A' cap' a) (hl : l.length ≤ 1000) (hK : ShaE.KIn w) :
    Calls Tryz.prog 14 #[.slice A l.length cap, .slice A' a.length cap'] w (StW.New (atE (coms l) a) w) := by
  have R0 : Cel.Box SE (w.alloc (.cells #[.slice none 0 0, .slice none 0 0, .slice none 0 0] 30)) w.heap.size noV := Cel.Box.new (E := SE) w noV _
  have kb := StW.below_alloc w (.cells #[.slice none 0 0, .slice none 0 0, .slice none 0 0] 30)
  have q1 := DhA.closed_ret DhK.known_ret A cap l _ (S.below kb) (by omega) (hK.below kb)
  unfold StW.New
  by_cases C : Closed hashK (coms l)
  · have hev : atE (coms l) a = some (atK hashK (coms l) a) := if_pos C
    rw [hev]
    rw [decide_eq_true C] at q1
    have HAT := aside (at_eval C a)
    clear C hev
    go_enter Tryz.func14, Tryz.ntmps14
    go_wp2_with (first | go_skip)
    refine q1.mono ?_
    clear q1
    rintro e w1 ⟨rfl, k1⟩
    have b1 := kb.trans (k1.mono kb.size)
    have R1 := R0.below k1
    clear R0 kb k1
    have q2 := DhA.anc_ret DhK.known_ret A A' cap cap' l a w1 (S.below b1) (T.below b1) hl (hK.below b1)
    go_wp2_with (first | go_skip)
    refine q2.mono ?_
    clear q2
    rintro e w2 ⟨A2, c2, rfl, T2, k2⟩
    have b2 := b1.trans (k2.mono b1.size)
    have R2 := R1.below k2
    clear R1 b1 k2
    have h1 := anc_few (coms l) a
    rw [coms_len] at h1
    have q3 := DhB.part_ret DhK.known_ret A A2 cap c2 l _ w2 (S.below b2) T2 (by omega) (by omega) (hK.below b2)
    clear h1
    go_wp2_with (first | go_skip)
    refine q3.mono ?_
    clear q3
    rintro e w3 ⟨A3, c3, us, rfl, S3, hus, k3⟩
    have b3 := b2.trans (k3.mono b2.size)
    have R3 := R2.below k3
    have h2 := part_few (coms l) (ancC (coms l) a)
    rw [coms_len, ← hus, coms_len] at h2
    have q4 := eval_ret A3 c3 us w3 S3 (by omega) (hK.below b3)
    rw [hus, HAT.out] at q4
    unfold StW.New at q4
    clear h2 hus R2 b2 k3 T2
    go_wp2_with (first | go_skip)
    refine q4.mono ?_
    clear q4
    rintro e w4 ⟨v, rfl, hv, IV, k4⟩
    have b4 := b3.trans (k4.mono b3.size)
    have R4 := R3.below k4
    have HV := aside hv
    clear hv R3 b3 k4 S3
    (try simp only [Option.isSome_some, if_true])
    go_wp2_with (first | go_skip | (refine Cel.wpList_store_box SE rfl _ _ rfl w.heap.size rfl noV R4 v rfl ?_; intro w9 R9 f9 g9 s9))
    obtain ⟨r0, r1, r2⟩ := box_cells R9
    exact bodyPost_ret (v := .tuple #[.agg (sc v), .int .i64 0]) (by simp [results, Tryz.results14, go_sem, r0, r1, r2, sc]) rfl ⟨v, rfl, HV.out, IV.kept R4 g9, b4.trans (f9 _ (Nat.le_refl _))⟩
  · have hev : atE (coms l) a = none := if_neg C
    rw [hev]
    rw [decide_eq_false C] at q1
    clear C hev
    go_enter Tryz.func14, Tryz.ntmps14
    go_wp2_with (first | go_skip)
    refine q1.mono ?_
    clear q1
    rintro e w1 ⟨rfl, k1⟩
    have b1 := kb.trans (k1.mono kb.size)
    have R1 := R0.below k1
    clear R0 kb k1
    go_wp2_with (first | go_skip | (refine Cel.wpList_store_box SE rfl _ _ rfl w.heap.size rfl noV R1 noV rfl ?_; intro w9 R9 f9 g9 s9))
    obtain ⟨r0, r1, r2⟩ := box_cells R9
    exact bodyPost_ret (v := .tuple #[.agg (sc noV), .int .i64 1]) (by simp [results, Tryz.results14, go_sem, r0, r1, r2, sc]) rfl ⟨noV, rfl, rfl, In.none _, b1.trans (f9 _ (Nat.le_refl _))⟩
theorem two : Two := ⟨eval_ret, fun A A' cap cap' l a w S T hl _ hK => at_ret A A' cap cap' l a w S T hl hK⟩
end Go.Proofs.YtgmdhaepiclkcaaGreatDoor.EaL
namespace Go.Proofs.YtgmdhaepiclkcaaGreatDoor.ShaL
set_option maxRecDepth 100000
open Go.ChangeShapes Go.WideShapes Go.ChangeAt Go.RowKit RotM ShaM ShaE

/-- The list of the rows of this seat. -/
abbrev laid1 : List (String × DataW Unit) := [("anabranch/sha.constants", Rows.laid_anabranch_sha_constants)]
theorem gK : Tryz.prog.globalNamed "anabranch/sha.constants" = some 0 := by kernel_rfl
theorem tK : (Tryz.prog.globals[0]?).map (·.type) = some 191 := by kernel_rfl
theorem cells_u32 : Tryz.prog.cellsOf 161 = 1 := by kernel_rfl
theorem datum : (Rows.laid_anabranch_sha_constants : DataW Unit) = .agg ((List.range 64).map fun i => .lit (.int .u32 (u (kc i)))) := by kernel_rfl

/-- The door's own heap meets the condition. -/
theorem door_met (os : Os) (args : Array Value) : laidMetH Tryz.prog laid1 ((World.doorLaid Tryz.prog 14 os).forCall (fun _ _ => 0) ⟨#[], args, []⟩).memory :=
  laidMetH_of_parts3 (fuel := 8) (laidMet_of_run' 8 (by kernel_rfl) (by kernel_rfl)) (by kernel_rfl) (by kernel_rfl)

theorem of_laid {W : World} (h : laidMetH Tryz.prog laid1 W) : KIn W := by
  rw [MakeChecks.laidMetH_plain _ _ _ (by kernel_rfl)] at h
  obtain ⟨ps, ⟨g0, t0, cs0, f0, p0, q0, hg0, ht0, hv0, hd0, _⟩, _, _⟩ := h
  obtain rfl := Option.some.inj (gK.symm.trans hg0)
  obtain rfl := Option.some.inj (tK.symm.trans ht0)
  obtain ⟨xs, m, _, hx, hlen, hn, hel⟩ := DataW.trod_array Tryz.underlying191 hd0
  intro i hi
  have hc := World.var?_cell hg0 hv0 i
  have he := hel i hi
  rw [datum] at hx
  simp only [Prod.mk.injEq, DataW.agg.injEq] at hx
  obtain ⟨hx, _⟩ := hx
  have hxi := congrArg (fun l => l[i]?) hx
  have hlt : i < xs.length := by omega
  simp only [List.getElem?_map, List.getElem?_range hi, Option.map_some, List.getElem?_eq_getElem hlt, Option.some.injEq] at hxi
  rw [List.getElem?_eq_getElem hlt] at he
  obtain ⟨n, e1, e2, _⟩ := DataW.trod_int Tryz.underlying161 he
  rw [e2] at hxi
  simp only [DataW.lit.injEq, Lit.int.injEq, true_and] at hxi
  subst hxi
  rw [hc]
  rw [cells_u32, Nat.mul_one] at e1
  have e3 := congrArg (fun l => l[0]?) e1
  simpa using e3
end Go.Proofs.YtgmdhaepiclkcaaGreatDoor.ShaL
