/- What the project's At of package eval returns: a contract; both functions. No condition. | What the listed variable gives a walk: the table of constants, cell by cell; and a world that meets the condition. | EvalSums' walk, over contracts: what a key counts is what all commits, together, count it more. No condition. | How many commits an argument can hold: no slice is greater than what the form reaches. No condition. -/
import Derived.Test.YtgmdhaepiclkcaaGreatDoorEaG
import Derived.Test.YtgmdhaepiclkcaaGreatDoorOpsPJ7
import Derived.Test.YtgmdhaepiclkcaaGreatDoorRows
import Derived.ProofKit
import Derived.LaidMore
import Derived.OpenShut
import Derived.Stop.Joined
import Derived.Test.YtgmdhaepiclkcaaGreatDoorEaAJ12
import Derived.Test.YtgmdhaepiclkcaaGreatDoorEaWJ12
import Derived.Test.YtgmdhaepiclkcaaGreatDoorCtrD
import Derived.Test.YtgmdhaepiclkcaaGreatDoorRowGJ9
import Derived.SizedLaws
namespace Go.Proofs.YtgmdhaepiclkcaaGreatDoor.EaL
set_option maxRecDepth 100000
open Go Go.Sort Go.RowKit Byt IdM IdW OpsM OpsW RowS CmM StM StW CmW CmX CmY CmA DgM DgW DgR DgF EaM EaN EaH EaG
open Classical

theorem anc_few (l : List Com) (a : List Idn) : (ancC l a).length ≤ l.length := by
  by_cases C : Closed hashK l
  · rw [ancC, if_pos C, ← part_len C]
    exact List.length_filter_le _ _
  · rw [ancC, if_neg C]
    exact Nat.zero_le _
theorem part_few (l : List Com) (a : List Idn) : (partC l a).length ≤ l.length := by
  unfold partC
  split
  · exact List.length_filter_le _ _
  · exact Nat.zero_le _
set_option maxRecDepth 100000 in
set_option maxHeartbeats 16000000 in
theorem at_ret (A A' : Option Addr) (cap cap' : Nat) (l : List Cv) (a : List Idn) (w : World) (S : SlK w A cap l) (T : SlI w A' cap' a) (hl : l.length ≤ 1000) (hK : ShaE.KIn w) :
    Calls Tryz.prog 14 #[.slice A l.length cap, .slice A' a.length cap'] w (StW.New (atE (coms l) a) w) := by
  have R0 : Cel.Box SE (w.alloc (.cells #[.slice none 0 0, .slice none 0 0, .slice none 0 0] 30)) w.heap.size noV := Cel.Box.new (E := SE) w noV _
  have kb := StW.below_alloc w (.cells #[.slice none 0 0, .slice none 0 0, .slice none 0 0] 30)
  have q1 := DhA.closed_ret DhK.known_ret A cap l _ (S.below kb) (by omega) (hK.below kb)
  unfold StW.New
  by_cases C : Closed hashK (coms l)
  · have hev : atE (coms l) a = some (atK hashK (coms l) a) := if_pos C
    rw [hev]
    rw [decide_eq_true C] at q1
    have HAT := aside (at_eval C a)
    clear C hev
    go_enter Tryz.func14, Tryz.ntmps14
    go_wp2_with (first | go_skip)
    refine q1.mono ?_
    clear q1
    rintro e w1 ⟨rfl, k1⟩
    have b1 := kb.trans (k1.mono kb.size)
    have R1 := R0.below k1
    clear R0 kb k1
    have q2 := DhA.anc_ret DhK.known_ret A A' cap cap' l a w1 (S.below b1) (T.below b1) hl (hK.below b1)
    go_wp2_with (first | go_skip)
    refine q2.mono ?_
    clear q2
    rintro e w2 ⟨A2, c2, rfl, T2, k2⟩
    have b2 := b1.trans (k2.mono b1.size)
    have R2 := R1.below k2
    clear R1 b1 k2
    have h1 := anc_few (coms l) a
    rw [coms_len] at h1
    have q3 := DhB.part_ret DhK.known_ret A A2 cap c2 l _ w2 (S.below b2) T2 (by omega) (by omega) (hK.below b2)
    clear h1
    go_wp2_with (first | go_skip)
    refine q3.mono ?_
    clear q3
    rintro e w3 ⟨A3, c3, us, rfl, S3, hus, k3⟩
    have b3 := b2.trans (k3.mono b2.size)
    have R3 := R2.below k3
    have h2 := part_few (coms l) (ancC (coms l) a)
    rw [coms_len, ← hus, coms_len] at h2
    have q4 := eval_ret A3 c3 us w3 S3 (by omega) (hK.below b3)
    rw [hus, HAT.out] at q4
    unfold StW.New at q4
    clear h2 hus R2 b2 k3 T2
    go_wp2_with (first | go_skip)
    refine q4.mono ?_
    clear q4
    rintro e w4 ⟨v, rfl, hv, IV, k4⟩
    have b4 := b3.trans (k4.mono b3.size)
    have R4 := R3.below k4
    have HV := aside hv
    clear hv R3 b3 k4 S3
    (try simp only [Option.isSome_some, if_true])
    go_wp2_with (first | go_skip | (refine Cel.wpList_store_box SE rfl _ _ rfl w.heap.size rfl noV R4 v rfl ?_; intro w9 R9 f9 g9 s9))
    obtain ⟨r0, r1, r2⟩ := box_cells R9
    exact bodyPost_ret (v := .tuple #[.agg (sc v), .int .i64 0]) (by simp [results, Tryz.results14, go_sem, r0, r1, r2, sc]) rfl ⟨v, rfl, HV.out, IV.kept R4 g9, b4.trans (f9 _ (Nat.le_refl _))⟩
  · have hev : atE (coms l) a = none := if_neg C
    rw [hev]
    rw [decide_eq_false C] at q1
    clear C hev
    go_enter Tryz.func14, Tryz.ntmps14
    go_wp2_with (first | go_skip)
    refine q1.mono ?_
    clear q1
    rintro e w1 ⟨rfl, k1⟩
    have b1 := kb.trans (k1.mono kb.size)
    have R1 := R0.below k1
    clear R0 kb k1
    go_wp2_with (first | go_skip | (refine Cel.wpList_store_box SE rfl _ _ rfl w.heap.size rfl noV R1 noV rfl ?_; intro w9 R9 f9 g9 s9))
    obtain ⟨r0, r1, r2⟩ := box_cells R9
    exact bodyPost_ret (v := .tuple #[.agg (sc noV), .int .i64 1]) (by simp [results, Tryz.results14, go_sem, r0, r1, r2, sc]) rfl ⟨noV, rfl, rfl, In.none _, b1.trans (f9 _ (Nat.le_refl _))⟩
theorem two : Two := ⟨eval_ret, fun A A' cap cap' l a w S T hl _ hK => at_ret A A' cap cap' l a w S T hl hK⟩
end Go.Proofs.YtgmdhaepiclkcaaGreatDoor.EaL
namespace Go.Proofs.YtgmdhaepiclkcaaGreatDoor.ShaL
set_option maxRecDepth 100000
open Go.ChangeShapes Go.WideShapes Go.ChangeAt Go.RowKit RotM ShaM ShaE

/-- The list of the rows of this seat. -/
abbrev laid1 : List (String × DataW Unit) := [("anabranch/sha.constants", Rows.laid_anabranch_sha_constants)]
theorem gK : Tryz.prog.globalNamed "anabranch/sha.constants" = some 0 := by kernel_rfl
theorem tK : (Tryz.prog.globals[0]?).map (·.type) = some 191 := by kernel_rfl
theorem cells_u32 : Tryz.prog.cellsOf 161 = 1 := by kernel_rfl
theorem datum : (Rows.laid_anabranch_sha_constants : DataW Unit) = .agg ((List.range 64).map fun i => .lit (.int .u32 (u (kc i)))) := by kernel_rfl

/-- The door's own heap meets the condition. -/
theorem door_met (os : Os) (args : Array Value) : laidMetH Tryz.prog laid1 ((World.doorLaid Tryz.prog 14 os).forCall (fun _ _ => 0) ⟨#[], args, []⟩).memory :=
  laidMetH_of_parts3 (fuel := 8) (laidMet_of_run' 8 (by kernel_rfl) (by kernel_rfl)) (by kernel_rfl) (by kernel_rfl)

theorem of_laid {W : World} (h : laidMetH Tryz.prog laid1 W) : KIn W := by
  rw [MakeChecks.laidMetH_plain _ _ _ (by kernel_rfl)] at h
  obtain ⟨ps, ⟨g0, t0, cs0, f0, p0, q0, hg0, ht0, hv0, hd0, _⟩, _, _⟩ := h
  obtain rfl := Option.some.inj (gK.symm.trans hg0)
  obtain rfl := Option.some.inj (tK.symm.trans ht0)
  obtain ⟨xs, m, _, hx, hlen, hn, hel⟩ := DataW.trod_array Tryz.underlying191 hd0
  intro i hi
  have hc := World.var?_cell hg0 hv0 i
  have he := hel i hi
  rw [datum] at hx
  simp only [Prod.mk.injEq, DataW.agg.injEq] at hx
  obtain ⟨hx, _⟩ := hx
  have hxi := congrArg (fun l => l[i]?) hx
  have hlt : i < xs.length := by omega
  simp only [List.getElem?_map, List.getElem?_range hi, Option.map_some, List.getElem?_eq_getElem hlt, Option.some.injEq] at hxi
  rw [List.getElem?_eq_getElem hlt] at he
  obtain ⟨n, e1, e2, _⟩ := DataW.trod_int Tryz.underlying161 he
  rw [e2] at hxi
  simp only [DataW.lit.injEq, Lit.int.injEq, true_and] at hxi
  subst hxi
  rw [hc]
  rw [cells_u32, Nat.mul_one] at e1
  have e3 := congrArg (fun l => l[0]?) e1
  simpa using e3
end Go.Proofs.YtgmdhaepiclkcaaGreatDoor.ShaL
namespace Go.Proofs.YtgmdhaepiclkcaaGreatDoor.EbS
set_option maxRecDepth 100000
open Go Go.Sort Go.RowKit Byt IdM IdW OpsM OpsW CmM StW CmW CmX CmY CmA DgM DgW DgR DgF DgG FrM FrN FrJ FrH FrU EaM EaN EaH EaW 
open Classical

theorem n_may {o : Opn} (h : mayO o = true) (h0 : o.kind = 0) : -1048576 ≤ o.n ∧ o.n ≤ 1048576 := by
  rcases (mayO_kind h).2 with ⟨_, h1⟩ | ⟨h1, _⟩
  · have := stepB_iff.1 h1
    exact ⟨this.1, this.2.1⟩
  · omega
theorem cnt_take {l : List Com} {k : Nat} {c : Com} (key : ByteArray) (h : l[k]? = some c) : cnt key (l.take (k + 1)) = cnt key (l.take k) + if c.op.kind = 0 ∧ c.op.key = key then c.op.n else 0 := by
  obtain ⟨hk, e⟩ := List.getElem?_eq_some_iff.1 h
  rw [List.take_succ_eq_append_getElem hk, e, cnt_snoc]
theorem cnt_in {l : List Com} (key : ByteArray) (hl : ∀ c ∈ l, Fine c) : ∀ k : Nat, -1048576 * (k : Int) ≤ cnt key (l.take k) ∧ cnt key (l.take k) ≤ 1048576 * (k : Int)
  | 0 => by simp [cnt]
  | k + 1 => by
    have ih := cnt_in key hl k
    by_cases hk : k < l.length
    · rw [cnt_take key (List.getElem?_eq_getElem hk)]
      have hf := hl l[k] (List.getElem_mem hk)
      split
      · rename_i h0
        have hn := n_may hf.op h0.1
        omega
      · omega
    · rw [List.take_of_length_le (by omega)] at ih ⊢
      omega
set_option maxRecDepth 100000 in
set_option maxHeartbeats 32000000 in
theorem walk (E : Two) (HA : EaA.AwakeRet) (a0 : Option Addr) (cap0 : Nat) (l0 : List Cv) (key : ByteArray) (w : World) (S : SlK w a0 cap0 l0) (hks : key.size ≤ maxLen) (hlen : l0.length ≤ 1500000000000) (K : ShaE.KIn w) :
    Calls Tryz.prog 8 #[.slice a0 l0.length cap0, .string key] w fun e w' => e = .returned (.bool true) ∧ Below w.heap.size w w' := by
  have hmax := S.len
  have hkm : (key.size : Int) ≤ 9223372036854775807 := by unfold maxLen at hks; omega
  have b := Below.refl w.heap.size w
  go_enter Tryz.func8, Tryz.ntmps8
  have qs := HA _ K
  go_wp2_with (first | go_skip)
  refine qs.mono ?_
  clear qs
  rintro e wx ⟨rfl, kx⟩
  have S' := S.below kx
  have K' := K.below kx
  have b' := b.trans (kx.mono b.size)
  clear S K b kx
  have S := S'
  have K := K'
  have b := b'
  clear S' K' b'
  go_wp2_with (first | go_skip)
  obtain ⟨f, hf⟩ : ∃ f, fewD (coms l0) 10 = f := ⟨_, rfl⟩
  have qs := DgR.few_ret a0 cap0 l0 10 _ S
  rw [hf] at qs
  refine qs.mono ?_
  clear qs
  rintro e w2 ⟨rfl, kx⟩
  have S' := S.below kx
  have K' := K.below kx
  have b' := b.trans (kx.mono b.size)
  clear S K b kx
  have S := S'
  have K := K'
  have b := b'
  clear S' K' b'
  obtain ⟨r, hr⟩ : ∃ r, evalC (coms l0) = r := ⟨_, rfl⟩
  obtain ⟨z, hz⟩ : ∃ z : Int, (if r.isSome = true then 0 else 1) = z := ⟨_, rfl⟩
  have qs := E.eval a0 cap0 l0 _ S hlen K
  unfold StW.New at qs
  simp only [hr, hz] at qs
  go_wp2_with (first | go_skip)
  refine qs.mono ?_
  clear qs
  rintro e wx ⟨v, rfl, hv, IV, kx⟩
  have S' := S.below kx
  have K' := K.below kx
  have b' := b.trans (kx.mono b.size)
  clear S K b kx
  have S := S'
  have K := K'
  have b := b'
  clear S' K' b'
  cases f with
  | false =>
    go_wp2_with (first | go_skip | (refine Cel.wpList_store_new SE rfl _ _ rfl wx _ _ rfl v _ rfl rfl rfl rfl ?_; intro wy BZ ky g4 s4))
    go_ret
    exact ⟨rfl, b.trans (ky.mono b.size)⟩
  | true =>
    obtain ⟨ho, hl⟩ := okay_few (fun v hv => (S.each v hv).2) hf
    have hl1 : l0.length ≤ 100 := by omega
    clear ho hf
    by_cases hC : Closed hashK (coms l0)
    case neg =>
      rw [evalC, if_neg hC] at hr
      subst hr
      have hz1 : z = 1 := hz.symm
      subst hz1
      go_wp2_with (first | go_skip | (refine Cel.wpList_store_new SE rfl _ _ rfl wx _ _ rfl v _ rfl rfl rfl rfl ?_; intro wy BZ ky g4 s4))
      go_ret
      exact ⟨rfl, b.trans (ky.mono b.size)⟩
    case pos =>
      rw [eval_of hC] at hr
      subst hr
      have hz1 : z = 0 := hz.symm
      subst hz1
      have hv2 : v.s = evalK hashK (coms l0) := hv
      have HV := aside hv2
      have HC := aside hC
      have HFN := aside (fine_all hC)
      clear hv hv2 hC hz
      by_cases p1 : (100 : Int) < key.size
      case pos =>
        go_wp2_with (first | go_skip | (refine Cel.wpList_store_new SE rfl _ _ rfl wx _ _ rfl v _ rfl rfl rfl rfl ?_; intro wy BZ ky g4 s4))
        go_ret
        exact ⟨rfl, b.trans (ky.mono b.size)⟩
      case neg =>
        go_wp2_with (first | go_skip | (refine Cel.wpList_store_new SE rfl _ _ rfl wx _ _ rfl v _ rfl rfl rfl rfl ?_; intro wy B ky g4 s4; clear g4 s4))
        have S' := S.below ky
        have K' := K.below ky
        have IV' := IV.below ky
        have b' := b.trans (ky.mono b.size)
        clear S K IV b ky
        have S := S'
        have K := K'
        have IV := IV'
        have b := b'
        clear S' K' IV' b'
        clear p1
        go_loopw [9, 10] (fun n i wr => ∃ k : Nat, k ≤ l0.length ∧ i = .int .i64 k ∧ n = .int .i64 (cnt key ((coms l0).take k)) ∧ wy = wr) (fun _ i _ => l0.length - (intOf i).toNat)
        case atStart => exact ⟨0, Nat.zero_le _, rfl, rfl, rfl⟩
        case round =>
          obtain ⟨k, hk, rfl, rfl, rfl⟩ := hrel
          by_cases hlt : k < l0.length
          · obtain ⟨bb, off, rfl, hbw, hrg⟩ := S.plain (by omega)
            obtain ⟨x, hx⟩ : ∃ x, l0[k]? = some x := ⟨_, List.getElem?_eq_getElem hlt⟩
            have rx := hrg k x hx
            have p0 : (k : Int) < l0.length := by omega
            have m0 : ((k : Int)).toNat = k := by omega
            have c4 : wy.cell? ⟨bb, off + k * 8 + 4, none⟩ = some (.int .i64 x.c.op.kind) := rx 4 _ rfl
            have c5 : wy.cell? ⟨bb, off + k * 8 + 5, none⟩ = some (.string x.c.op.key) := rx 5 _ rfl
            have c7 : wy.cell? ⟨bb, off + k * 8 + 7, none⟩ = some (.int .i64 x.c.op.n) := rx 7 _ rfl
            have hct := cnt_take key (coms_at hx)
            have hin := cnt_in key HFN.out k
            have hin2 := cnt_in key HFN.out (k + 1)
            obtain ⟨m, hm⟩ : ∃ m, cnt key ((coms l0).take k) = m := ⟨_, rfl⟩
            obtain ⟨m', hm'⟩ : ∃ m, cnt key ((coms l0).take (k + 1)) = m := ⟨_, rfl⟩
            rw [hm] at hct hin
            rw [hm'] at hct hin2
            have HCT := aside hct
            have HM' := aside hm'
            rw [hm]
            clear hrg hct hx rx hm hm'
            obtain ⟨kd, hkd⟩ : ∃ y, x.c.op.kind = y := ⟨_, rfl⟩
            obtain ⟨xk, hxk⟩ : ∃ y, x.c.op.key = y := ⟨_, rfl⟩
            obtain ⟨xn, hxn⟩ : ∃ y, x.c.op.n = y := ⟨_, rfl⟩
            rw [hkd] at c4
            rw [hxk] at c5
            rw [hxn] at c7
            have HC3 : Hid (m' = m + if kd = 0 ∧ xk = key then xn else 0) := aside (by rw [HCT.out, hkd, hxk, hxn])
            clear hkd hxk hxn HCT
            have hw : kd ≠ 0 ∨ (kd = 0 ∧ xk ≠ key) ∨ (kd = 0 ∧ xk = key) := by by_cases h1 : kd = 0 <;> by_cases h2 : xk = key <;> simp [h1, h2]
            rcases hw with h1 | ⟨rfl, h2⟩ | ⟨rfl, rfl⟩
            case inl =>
              have e1 : (kd == 0) = false := by simpa using h1
              have h3 : m' = m := by rw [HC3.out, if_neg fun q => h1 q.1, Int.add_zero]
              have H3 := aside h3
              clear h1 h3
              go_wp2_with (first | go_skip)
              go_roundw
              case rel => exact ⟨k + 1, by omega, by go_num, by rw [HM'.out]; rw [H3.out], trivial⟩
              case measure => simp [intOf]; omega
            case inr.inl =>
              have e2 := PairW.str_no h2
              have h3 : m' = m := by rw [HC3.out, if_neg fun q => h2 q.2, Int.add_zero]
              have H3 := aside h3
              clear h2 h3
              go_wp2_with (first | go_skip)
              go_roundw
              case rel => exact ⟨k + 1, by omega, by go_num, by rw [HM'.out]; rw [H3.out], trivial⟩
              case measure => simp [intOf]; omega
            case inr.inr =>
              have e2 : (xk.toList == xk.toList) = true := PairW.str_yes rfl
              have h3 : m + xn = m' := by rw [HC3.out, if_pos ⟨rfl, rfl⟩]
              have H3 := aside h3
              have hws : IntKind.i64.wrap (m + xn) = m' := by rw [IntKind.wrap_i64, h3]; omega
              clear h3
              go_wp2_with (first | go_skip)
              go_roundw
              case rel => exact ⟨k + 1, by omega, by go_num, by rw [HM'.out], trivial⟩
              case measure => simp [intOf]; omega
          · obtain rfl : k = l0.length := by omega
            have c0 := (box_cells B).1
            have qs := CtrD.get_ret v.a0 v.k0 v.s.c key wy IV.c (by rw [HV.out]; have := (eval_len (H := hashK) (l := coms l0)).1; rw [coms_len] at this; omega)
            have hg : CtrM.getC v.s.c key = cnt key ((coms l0).take l0.length) := by
              rw [HV.out, eval_c HFN.out, ← coms_len l0, List.take_length]
              have h1 := cnt_in key HFN.out (coms l0).length
              rw [List.take_length, coms_len] at h1
              exact CtrL.w64_id (by unfold CtrL.In64; omega)
            rw [hg] at qs
            have hzz : ∀ y : Int, (y == y) = true := fun y => by simp
            obtain ⟨y, hy⟩ : ∃ y, cnt key ((coms l0).take l0.length) = y := ⟨_, rfl⟩
            rw [hy] at qs ⊢
            have hyy := hzz y
            clear hzz hy hg
            go_wp2_with (first | go_skip)
            refine qs.mono ?_
            rintro e wx ⟨rfl, kx⟩
            go_wp2_with (first | go_skip)
            go_ret
            exact ⟨rfl, b.trans (kx.mono b.size)⟩
end Go.Proofs.YtgmdhaepiclkcaaGreatDoor.EbS
namespace Go.Proofs.YtgmdhaepiclkcaaGreatDoor.EaO
set_option maxRecDepth 100000
open Go Go.ChangeShapes Go.WideShapes Go.ChangeAt Go.RowKit

section
variable {H : Type} {enc : TypeId × Value → H} {W : World}
theorem bytes_com : Tryz.prog.bytesOf 47 = 96 := by kernel_rfl
theorem few_coms {ts : List TypeId} {ds : List (DataW H)} (h : (DataW.weightsEach Tryz.prog ts ds).all (· ≤ reachBytes) = true) {j : Nat} (ht : ts[j]? = some 22) {d : DataW H} (hd : ds[j]? = some d) {A : Option Addr} {n cap : Nat} {p : List MemPlace}
    (h0 : DataW.Trod enc Tryz.prog W 0 (fun _ => true) true 22 (.slice A n cap) d p) : n ≤ 1500000000000 := by
  obtain ⟨fuel, hf⟩ := h0
  rcases DataW.trod_slice Tryz.underlying22 hf with ⟨hcs, _⟩ | ⟨x, len', cap', elems, rest, m, _, hcs, hx, _, _, _, hel, _⟩
  · simp [Value.cells] at hcs
    omega
  · simp [Value.cells] at hcs
    obtain ⟨rfl, rfl, rfl⟩ := hcs
    have hd2 : d = .slice (elems.map (·.1)) (rest.map (·.1)) := by
      injection hx
    rw [hd2] at hd
    have := sized_slice h ht hd Tryz.underlying22
    rw [bytes_com, List.length_map, List.length_map, hel] at this
    have h2 := reachBytes_lt
    omega
end
end Go.Proofs.YtgmdhaepiclkcaaGreatDoor.EaO
