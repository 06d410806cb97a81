/- What the project's Missing of package wait returns: a contract. No condition but sizes. | The project's three functions of package wait return what the walks of its laws ask. No condition. | What the listed variable gives a walk: the table of constants, cell by cell; and a world that meets the condition. -/
import Derived.Test.YteojkfbnenfmkaaDoorWtG
import Derived.Test.YteojkfbnenfmkaaDoorDgKJ8
import Derived.Test.YteojkfbnenfmkaaDoorWtOJ3
import Derived.Test.YteojkfbnenfmkaaDoorIdTJ6
import Derived.Test.YteojkfbnenfmkaaDoorWtPJ2
import Derived.Test.YteojkfbnenfmkaaDoorWtK
import Derived.Test.YteojkfbnenfmkaaDoorPadMJ3
import Derived.Test.YteojkfbnenfmkaaDoorRows
import Derived.ProofKit
import Derived.LaidMore
import Derived.OpenShut
import Derived.Stop.Joined
namespace Go.Proofs.YteojkfbnenfmkaaDoor.WtJ
set_option maxRecDepth 100000
open Go Go.Sort Go.RowKit Byt IdM IdW OpsM OpsW CmM StW CmW CmX CmY CmA DgM DgW DgR DgF DhC FrP WtM WtF WtG WtO
open Classical

/-- The ids of the commits that have one. -/
def ownW (l : List Com) : List Idn := (l.filter fun c => mayK c).map hashK
theorem own_next {l : List Com} {k : Nat} {x : Com} (hx : l[k]? = some x) : ownW (l.take (k + 1)) = ownW (l.take k) ++ idsD [x] := by
  obtain ⟨hk, rfl⟩ := List.getElem?_eq_some_iff.1 hx
  unfold ownW idsD
  rw [List.take_succ_eq_append_getElem hk, List.filter_append, List.map_append]
  congr 1
  by_cases hm : mayK l[k] = true
  · simp [hm]
  · simp [hm]
theorem own_le (l : List Com) (k : Nat) : (ownW (l.take k)).length ≤ k := by
  unfold ownW
  rw [List.length_map]
  have := List.length_filter_le (fun c => mayK c) (l.take k)
  have := List.length_take_le k l
  omega
theorem ids_le (x : Com) : (idsD [x]).length ≤ 1 := by
  unfold idsD
  split <;> simp
theorem one_at {l : List Cv} {k : Nat} {x : Cv} (h : l[k]? = some x) : (l.drop k).take (k + 1 - k) = [x] := by
  rw [drop_at h, Nat.add_sub_cancel_left]
  simp
/-- A slice of two slices of ids, just made. -/
theorem two_new (w : World) (x y : Pv) (hx : SlI w x.a x.k x.ps) (hy : SlI w y.a y.k y.ps) (t : TypeId) : SlP (w.alloc (.cells #[hd x, hd y] t)) (some ⟨w.heap.size, 0, none⟩) 2 [x, y] := by
  have kb : Below w.heap.size w (w.alloc (.cells #[hd x, hd y] t)) := (Below.refl _ _).alloc (Nat.le_refl _) _
  refine ⟨⟨Nat.le_refl _, by unfold maxLen; omega⟩, .inr ⟨_, rfl, fun i v hv => ?_⟩, fun v hv => ?_⟩
  · rw [Addr.add_lit, Nat.zero_add, cell_of_row _ _ i _ t (0, 0) (heap_alloc_new w _)]
    simpa [hds] using hv
  · simp only [List.mem_cons, List.not_mem_nil, or_false] at hv
    rcases hv with rfl | rfl
    · exact hx.below kb
    · exact hy.below kb
set_option maxRecDepth 100000 in
set_option maxHeartbeats 16000000 in
theorem missing_ret (A A' : Option Addr) (cap cap' : Nat) (l : List Cv) (h : List Idn) (w : World) (S : SlK w A cap l) (hl : l.length ≤ 1000) (hs : (parsW (coms l)).length ≤ 500) (T : SlI w A' cap' h) (hh : h.length ≤ 50000) (hK : ShaE.KIn w) :
    Calls Tryd.prog 18 #[.slice A l.length cap, .slice A' h.length cap'] w (NewD (missW hashK (coms l) h) w) := by
  have hmax := S.len
  have hlc := coms_len l
  unfold NewD
  go_enter Tryd.func18, Tryd.ntmps18
  go_wp2_with (first | go_skip)
  have T1 : Two w.heap.size w (.slice none 0 0) (.slice none 0 0) [] [] := ⟨⟨rfl, .inl ⟨rfl, rfl⟩⟩, ⟨rfl, .inl ⟨rfl, rfl⟩⟩, fun q hq => by cases hq⟩
  have k1 := Below.refl w.heap.size w
  go_loopw [5, 6, 11] (fun o kn i wr => ∃ k : Nat, k ≤ l.length ∧ i = .int .i64 k ∧ Hid (Two w.heap.size wr o kn (parsW ((coms l).take k)) (ownW ((coms l).take k))) ∧ Below w.heap.size w wr) (fun _ _ i _ => l.length - (intOf i).toNat)
  case atStart => exact ⟨0, Nat.zero_le _, rfl, aside (by rw [List.take_zero]; exact T1), k1⟩
  case round =>
    clear T1 k1
    obtain ⟨k, hk, rfl, HT, kb⟩ := hrel
    by_cases hlt : k < l.length
    · obtain ⟨b, off, rfl, hbw, hrg⟩ := S.plain (by omega)
      obtain ⟨x, hx⟩ : ∃ x, l[k]? = some x := ⟨_, List.getElem?_eq_getElem hlt⟩
      have hxm := List.mem_of_getElem? hx
      have rx := range_on (hrg k x hx) kb
      have HIX := aside (S.each x hxm).1
      obtain ⟨A1, c1, hq, S1⟩ := part_lh S.row k (k + 1) (Nat.le_succ _) hlt
      rw [one_at hx] at S1
      have e1 : ∀ W, (Instr.sliceAt 22 (.slice (some ⟨b, off, none⟩) l.length cap) (some (.int .i64 (k : Int))) (some (.int .i64 ((k : Int) + 1))) none).run Tryd.prog W = .ok (.slice A1 1 c1) W := fun W => by
        have := hq W .i64 .i64
        rwa [Nat.add_sub_cancel_left] at this
      have S1 : SlK w A1 c1 [x] := ⟨S1, fun v hv => by rw [List.mem_singleton.1 hv]; exact S.each x hxm⟩
      have HS1 := aside S1
      have p0 : (k : Int) < l.length := by omega
      have m0 : ((k : Int)).toNat = k := by omega
      have m1 : IntKind.i64.wrap ((k : Int) + 1) = (k : Int) + 1 := IntWalk.i64_in _ (by omega)
      have HPN := aside (pars_next (coms_at hx))
      have HKN := aside (own_next (coms_at hx))
      have hpl := pars_le (coms l) (k + 1)
      have hpl2 := pars_le (coms l) k
      have hkl := own_le (coms l) k
      rw [HPN.out, List.length_append] at hpl
      obtain ⟨ps, hps⟩ : ∃ ps, parsW ((coms l).take k) = ps := ⟨_, rfl⟩
      obtain ⟨ks, hks⟩ : ∃ ks, ownW ((coms l).take k) = ks := ⟨_, rfl⟩
      rw [hps] at HT HPN hpl hpl2
      rw [hks] at HT HKN hkl
      have qi := fun W (S : SlK W A1 c1 [x]) K => ids_ret A1 c1 [x] W S (by simp) K
      rw [show coms [x] = [x.c] from rfl] at qi
      have hil := ids_le x.c
      obtain ⟨own, hown⟩ : ∃ own, idsD [x.c] = own := ⟨_, rfl⟩
      rw [hown] at qi HKN hil
      unfold NewD at qi
      have qi : ∀ W, SlK W A1 c1 [x] → ShaE.KIn W → Calls Tryd.prog 39 #[.slice A1 1 c1] W _ := qi
      clear hrg hx hxm hps hks hq S1 hown
      go_wp2_with (first | go_skip | (refine load_at rfl _ rfl _ _ rfl x rx ?_) | (refine Cel.wpList_store_new CE rfl _ _ rfl wr _ _ rfl x _ rfl rfl rfl rfl ?_; intro w3 B3 k3 g3 s3; have T3 := aside (HT.out.below k3); have b3 := kb.trans (k3.mono kb.size); have c3 := cell_ps B3; have IX3 := HIX.out.below b3; clear g3 s3 HT) | (refine append_ids_at rfl (.tmp 16) (.tmp 18) rfl w.heap.size u5 ps.length ps rfl T3.out.ra x.a _ x.k x.c.ps rfl rfl IX3 (by omega) b3.size ?_; intro v4 w4 o4 g4 e4; have T4 := aside (T3.out.left o4 g4 e4); have b4 : Below w.heap.size w w4 := below_grown b3 b3.size g4 (fun q hq => (T3.out.ra.lt q hq).1); clear T3 b3 o4 g4 e4 B3 k3 IX3 c3))
      refine (qi w4 (HS1.out.below b4) (hK.below b4)).mono ?_
      rintro e w5 ⟨A5, c5, rfl, S5, k5⟩
      have T5 := aside (T4.out.below k5)
      have b5 := b4.trans (k5.mono b4.size)
      clear qi T4 b4 k5 e1
      go_wp2_with (first | go_skip | (refine append_ids_at rfl (.tmp 20) (.tmp 26) rfl w.heap.size u6 ks.length ks rfl T5.out.rb A5 _ c5 own rfl rfl S5 (by omega) b5.size ?_; intro v6 w6 o6 g6 e6))
      have T6 := aside (T5.out.right o6 g6 e6)
      have b6 : Below w.heap.size w w6 := below_grown b5 b5.size g6 (fun q hq => (T5.out.rb.lt q hq).1)
      clear T5 o6 g6 e6
      go_roundw
      case rel => exact ⟨k + 1, by omega, by go_num, aside (by rw [HPN.out, HKN.out]; exact T6.out), b6⟩
      case measure => simp [intOf]; omega
    · obtain rfl : k = l.length := by omega
      have T2 := HT.out
      rw [List.take_of_length_le (by omega)] at T2
      obtain ⟨ps, hps⟩ : ∃ ps, parsW (coms l) = ps := ⟨_, rfl⟩
      have hkl := own_le (coms l) l.length
      rw [List.take_of_length_le (by omega)] at hkl
      obtain ⟨ks, hks⟩ : ∃ ks, ownW (coms l) = ks := ⟨_, rfl⟩
      have HM : Hid (missW hashK (coms l) h = without ps (h ++ ks)) := aside (by
        unfold missW knownW
        rw [← hks]
        exact congrArg (fun z => without z _) hps)
      rw [hps] at hs T2
      rw [hks] at T2 hkl
      obtain ⟨A5, c5, rfl, S5⟩ := SlI.own T2.ra
      obtain ⟨A6, c6, rfl, S6⟩ := SlI.own T2.rb
      obtain ⟨wc, hwc⟩ : ∃ wc, wr.alloc (.cells #[.slice A' h.length cap', .slice A6 ks.length c6] 25) = wc := ⟨_, rfl⟩
      have kc : Below wr.heap.size wr wc := by rw [← hwc]; exact (Below.refl _ _).alloc (Nat.le_refl _) _
      have P2 : SlP wc (some ⟨wr.heap.size, 0, none⟩) 2 [⟨A', cap', h⟩, ⟨A6, c6, ks⟩] := by rw [← hwc]; exact two_new wr ⟨A', cap', h⟩ ⟨A6, c6, ks⟩ (T.below kb) S6 25
      have hcat : cat [⟨A', cap', h⟩, ⟨A6, c6, ks⟩] = h ++ ks := by simp [cat]
      have hlc2 : (h ++ ks).length = h.length + ks.length := List.length_append
      have q := FrQ.concat_ret _ 2 _ _ P2 (by simp) (by rw [hcat, hlc2]; omega)
      rw [hcat] at q
      unfold NewI at q
      have q : Calls Tryd.prog 40 #[.slice (some ⟨wr.heap.size, 0, none⟩) 2 2] wc _ := q
      have SA := S5.below kc
      obtain ⟨kn, hkn⟩ : ∃ kn, h ++ ks = kn := ⟨_, rfl⟩
      have hknl : kn.length ≤ 100000 := by rw [← hkn, hlc2]; omega
      rw [hkn] at q HM
      have HWC := aside hwc
      clear HT T2 hps hks P2 S5 S6 hcat hlc2 hkn hwc
      go_wp2_with (first | go_skip)
      rw [HWC.out]
      refine q.mono ?_
      rintro e w2 ⟨v2, rfl, o2, k2⟩
      obtain ⟨A7, c7, rfl, S7⟩ := SlI.own o2
      have q2 := IdU.without_ret A5 A7 c5 c7 ps kn w2 (SA.below k2) S7 hs hknl
      unfold NewI at q2
      have b2 := kb.trans ((kc.trans (k2.mono kc.size)).mono kb.size)
      clear q o2 SA S7
      go_wp2_with (first | go_skip)
      refine q2.mono ?_
      rintro e w3 ⟨v3, rfl, o3, k3⟩
      obtain ⟨A8, c8, rfl, S8⟩ := SlI.own o3
      clear q2 o3
      go_wp2_with (first | go_skip)
      go_ret
      rw [HM.out]
      exact ⟨A8, c8, rfl, S8, b2.trans (k3.mono b2.size)⟩
end Go.Proofs.YteojkfbnenfmkaaDoor.WtJ
namespace Go.Proofs.YteojkfbnenfmkaaDoor.WtC
set_option maxRecDepth 100000
open Go Go.Sort Go.RowKit Byt IdM IdW OpsM OpsW CmM StW CmW CmX CmY DgM DgW DgF WtM WtF WtO

theorem pars_few : ∀ (l : List Com) (m : Nat), (∀ c ∈ l, c.ps.length ≤ m) → (parsW l).length ≤ m * l.length
  | [], m, _ => by simp [parsW]
  | c :: l, m, h => by
    have h1 := h c (by simp)
    have h2 := pars_few l m (fun d hd => h d (by simp [hd]))
    simp only [parsW, List.flatMap_cons, List.length_append, List.length_cons] at h2 ⊢
    rw [Nat.mul_add, Nat.mul_one]
    omega
theorem put1 : Put1 := ⟨fun A cap l v w S hl I F hv _ => WtP.put_ret A cap l v w S (by have := hl.1; omega) (fun u hu => by have := hl.2 u hu; omega) I F (by omega)⟩
theorem ready1 : Ready1 := ⟨fun A A' cap cap' l h w S hl T hh _ => WtK.ready_ret A A' cap cap' l h w S (by have := hl.1; omega) (fun u hu => by have := hl.2 u hu; omega) T (by omega)⟩
theorem missing1 : Missing1 := ⟨fun A A' cap cap' l h w S hl T hh hK => by
  have hp := pars_few (coms l) 20 (fun c hc => by unfold coms at hc; obtain ⟨u, hu, rfl⟩ := List.mem_map.1 hc; exact hl.2 u hu)
  rw [coms_len] at hp
  exact WtJ.missing_ret A A' cap cap' l h w S (by have := hl.1; omega) (by have := hl.1; omega) T (by omega) hK⟩
end Go.Proofs.YteojkfbnenfmkaaDoor.WtC
namespace Go.Proofs.YteojkfbnenfmkaaDoor.ShaL
set_option maxRecDepth 100000
open Go.ChangeShapes Go.WideShapes Go.ChangeAt Go.RowKit RotM ShaM ShaE

/-- The list of the rows of this seat. -/
abbrev laid1 : List (String × DataW Unit) := [("anabranch/sha.constants", Rows.laid_anabranch_sha_constants)]
theorem gK : Tryd.prog.globalNamed "anabranch/sha.constants" = some 0 := by kernel_rfl
theorem tK : (Tryd.prog.globals[0]?).map (·.type) = some 104 := by kernel_rfl
theorem cells_u32 : Tryd.prog.cellsOf 88 = 1 := by kernel_rfl
theorem datum : (Rows.laid_anabranch_sha_constants : DataW Unit) = .agg ((List.range 64).map fun i => .lit (.int .u32 (u (kc i)))) := by kernel_rfl

/-- The door's own heap meets the condition. -/
theorem door_met (os : Os) (args : Array Value) : laidMetH Tryd.prog laid1 ((World.doorLaid Tryd.prog 14 os).forCall (fun _ _ => 0) ⟨#[], args, []⟩).memory :=
  laidMetH_of_parts3 (fuel := 8) (laidMet_of_run' 8 (by kernel_rfl) (by kernel_rfl)) (by kernel_rfl) (by kernel_rfl)

theorem of_laid {W : World} (h : laidMetH Tryd.prog laid1 W) : KIn W := by
  rw [MakeChecks.laidMetH_plain _ _ _ (by kernel_rfl)] at h
  obtain ⟨ps, ⟨g0, t0, cs0, f0, p0, q0, hg0, ht0, hv0, hd0, _⟩, _, _⟩ := h
  obtain rfl := Option.some.inj (gK.symm.trans hg0)
  obtain rfl := Option.some.inj (tK.symm.trans ht0)
  obtain ⟨xs, m, _, hx, hlen, hn, hel⟩ := DataW.trod_array Tryd.underlying104 hd0
  intro i hi
  have hc := World.var?_cell hg0 hv0 i
  have he := hel i hi
  rw [datum] at hx
  simp only [Prod.mk.injEq, DataW.agg.injEq] at hx
  obtain ⟨hx, _⟩ := hx
  have hxi := congrArg (fun l => l[i]?) hx
  have hlt : i < xs.length := by omega
  simp only [List.getElem?_map, List.getElem?_range hi, Option.map_some, List.getElem?_eq_getElem hlt, Option.some.injEq] at hxi
  rw [List.getElem?_eq_getElem hlt] at he
  obtain ⟨n, e1, e2, _⟩ := DataW.trod_int Tryd.underlying88 he
  rw [e2] at hxi
  simp only [DataW.lit.injEq, Lit.int.injEq, true_and] at hxi
  subst hxi
  rw [hc]
  rw [cells_u32, Nat.mul_one] at e1
  have e3 := congrArg (fun l => l[0]?) e1
  simpa using e3
end Go.Proofs.YteojkfbnenfmkaaDoor.ShaL
