/- What the walks of the laws of package eval lean on: how long states are, and that they fit. No condition. | The commits of chapter 12's example: their bytes, their ids (each block's words and states stand here written out; the kernel holds them against the definitions), that they are closed, their last ones, their head, what comes next. No condition. | What the document's Find of package dag returns: a contract. | What the five functions of package front return, as the walks need it; what they are on the chapter's two commits. No condition. | What the walks of the laws of package front lean on. No condition. | EvalNewest's walk, over contracts: each register is one that was set, and none that was set of its key is newer. No condition. | How many commits an argument can hold: no slice is greater than what the form reaches. No condition. | Ids as keys of a map; a map as a set of ids. No condition. -/
import Derived.Test.YtgmdhaepiclkcaaGreatDoorGrowLJ6
import Derived.Test.YtgmdhaepiclkcaaGreatDoorEaRJ28
import Derived.Test.YtgmdhaepiclkcaaGreatDoorStL
import Derived.Test.YtgmdhaepiclkcaaGreatDoorSmallJ8
import Derived.Test.YtgmdhaepiclkcaaGreatDoorCmAJ3
import Derived.Test.YtgmdhaepiclkcaaGreatDoorFrMJ4
import Derived.Test.YtgmdhaepiclkcaaGreatDoorRowGJ15
import Derived.Test.YtgmdhaepiclkcaaGreatDoorDgKJ13
import Derived.Test.YtgmdhaepiclkcaaGreatDoorEaA
import Derived.Test.YtgmdhaepiclkcaaGreatDoorRowBJ2
import Derived.SizedLaws
import Derived.Test.YtgmdhaepiclkcaaGreatDoorIdWJ3
import Derived.WideKeyArr2
import Derived.Maps.RangeWalk
import Derived.Maps.OwnSet
import Derived.Maps.OwnOps
import Derived.Maps.Ext
namespace Go.Proofs.YtgmdhaepiclkcaaGreatDoor.EaW
set_option maxRecDepth 100000
open Go Go.Sort Go.RowKit Byt IdM IdW OpsM OpsW CmM StW CmW CmX CmY DgM DgW DgR DgF FrM FrN EaM EaN EaH EaS
open Classical
theorem eval_of {l : List Com} (C : Closed hashK l) : evalC l = some (evalK hashK l) := if_pos C
end Go.Proofs.YtgmdhaepiclkcaaGreatDoor.EaW
namespace Go.Proofs.YtgmdhaepiclkcaaGreatDoor.FrJ
set_option maxRecDepth 100000
open Go RotM RotN ShaM ShaD PadM SumM ShaK Byt EncM EncC IdM IdW OpsM OpsW CmM CmW CmY CmA DgM FrM FrN
open Classical
end Go.Proofs.YtgmdhaepiclkcaaGreatDoor.FrJ
namespace Go.Proofs.YtgmdhaepiclkcaaGreatDoor.DgG
set_option maxRecDepth 100000
open Go Go.Sort Go.RowKit Byt IdM IdW OpsM OpsW CmM StW CmW CmX CmY DgM DgN DgW DgR
end Go.Proofs.YtgmdhaepiclkcaaGreatDoor.DgG
namespace Go.Proofs.YtgmdhaepiclkcaaGreatDoor.FrH
set_option maxRecDepth 100000
open Go Go.Sort Go.RowKit Byt IdM IdW OpsM OpsW CmM StW CmW CmX CmY CmA DgM DgW DgR DgF DgG FrM FrN FrJ
open Classical
end Go.Proofs.YtgmdhaepiclkcaaGreatDoor.FrH
namespace Go.Proofs.YtgmdhaepiclkcaaGreatDoor.FrU
set_option maxRecDepth 100000
open Go Go.Sort Go.RowKit Byt IdM IdW OpsM OpsW CmM StW CmW CmX CmY CmA DgM DgW DgR DgC DgF DgG FrM FrN FrJ FrH
open Classical
theorem okay_few {l : List Cv} {m : Int} (S : ∀ v ∈ l, Fit v.c) (h : fewD (coms l) m = true) : (∀ v ∈ l, CmR.Okay v.c) ∧ (l.length : Int) ≤ m := by
 unfold fewD at h
 rw [Bool.and_eq_true, decide_eq_true_eq, coms_len, List.all_eq_true] at h
 refine ⟨fun v hv => ?_, h.1⟩
 exact CmX.okay (h.2 v.c (List.mem_map_of_mem hv)) (S v hv)
end Go.Proofs.YtgmdhaepiclkcaaGreatDoor.FrU
namespace Go.Proofs.YtgmdhaepiclkcaaGreatDoor.EbR
set_option maxRecDepth 100000
open Go Go.Sort Go.RowKit Byt IdM IdW OpsM OpsW CmM StW CmW CmX CmY CmA DgM DgW DgR DgF DgG FrM FrN FrJ FrH FrU EaM EaN EaH EaW
open Classical
def qOf (r : RegM.Rg) (c : Com) : Bool := (decide (c.op.kind = 1) && decide (c.op.key = r.key)) && ((decide (c.node = r.node) && decide (c.seq = r.seq)) && ((c.gen == r.gen) && (c.op.elem.toList == r.elem.toList)))
def fnd (r : RegM.Rg) (l : List Com) : Bool := l.any (qOf r)
theorem fnd_take {l : List Com} {j : Nat} {c : Com} (r : RegM.Rg) (h : l[j]? = some c) : fnd r (l.take (j + 1)) = (fnd r (l.take j) || qOf r c) := by
 obtain ⟨hk, e⟩ := List.getElem?_eq_some_iff.1 h
 unfold fnd
 rw [List.take_succ_eq_append_getElem hk, e, List.any_append]
 simp
theorem fnd_reg {l : List Com} {r : RegM.Rg} (h : ∃ c ∈ l, c.op.kind = 1 ∧ c.op.key = r.key ∧ r = regC c) : fnd r l = true := by
 obtain ⟨c, hc, h1, h2, h3⟩ := h
 refine List.any_eq_true.2 ⟨c, hc, ?_⟩
 subst h3
 simp [qOf, regC, StM.regO, h1]
theorem q_no {r : RegM.Rg} {c : Com} (h : ¬ (c.op.kind = 1 ∧ c.op.key = r.key)) : qOf r c = false := by
 unfold qOf
 by_cases h1 : c.op.kind = 1
 · by_cases h2 : c.op.key = r.key
   · exact absurd ⟨h1, h2⟩ h
   · simp [h2]
 · simp [h1]
theorem q_yes {r : RegM.Rg} {c : Com} (h1 : c.op.kind = 1) (h2 : c.op.key = r.key) : qOf r c = ((decide (c.node = r.node) && decide (c.seq = r.seq)) && ((c.gen == r.gen) && (c.op.elem.toList == r.elem.toList))) := by
 unfold qOf
 rw [h1, h2]
 simp
theorem equal_ev (d : Nat) (w : World) (a b m n : Int) : (Op.equalIn (d + 1 + 1) 43 (.agg #[.int .i64 a, .int .i64 b]) (.agg #[.int .i64 m, .int .i64 n])).run Tryz.prog w = .ok (decide (a = m) && decide (b = n)) w := by
 have hE : Tryz.prog.underlying 43 = some (.struct (Tryz.prog.fieldsOf 43)) := by kernel_rfl
 rw [run_equalIn_agg w (d + 1) 43 _ _ hE (by kernel_rfl)]
 simp only [Program.fieldsOf, Tryz.underlying43]
 go_simp
 by_cases h1 : a = m <;> by_cases h2 : b = n <;> simp [h1, h2]
set_option maxRecDepth 100000 in
set_option maxHeartbeats 32000000 in
theorem walk (E : Two) (HA : EaA.AwakeRet) (a0 : Option Addr) (cap0 : Nat) (l0 : List Cv) (w : World) (S : SlK w a0 cap0 l0) (hlen : l0.length ≤ 1500000000000) (K : ShaE.KIn w) :
   Calls Tryz.prog 9 #[.slice a0 l0.length cap0] w fun e w' => e = .returned (.bool true) ∧ Below w.heap.size w w' := by
 have hmax := S.len
 have b := Below.refl w.heap.size w
 go_enter Tryz.func9, Tryz.ntmps9
 have qs := HA _ K
 go_wp2_with (first | go_skip)
 refine qs.mono ?_
 clear qs
 rintro e wx ⟨rfl, kx⟩
 replace S := S.below kx; replace K := K.below kx; replace b := b.trans (kx.mono b.size); clear kx
 go_wp2_with (first | go_skip)
 obtain ⟨f, hf⟩ : ∃ f, fewD (coms l0) 10 = f := ⟨_, rfl⟩
 have qs := DgR.few_ret a0 cap0 l0 10 _ S
 rw [hf] at qs
 refine qs.mono ?_
 clear qs
 rintro e w2 ⟨rfl, kx⟩
 replace S := S.below kx; replace K := K.below kx; replace b := b.trans (kx.mono b.size); clear kx
 obtain ⟨r, hr⟩ : ∃ r, evalC (coms l0) = r := ⟨_, rfl⟩
 obtain ⟨z, hz⟩ : ∃ z : Int, (if r.isSome = true then 0 else 1) = z := ⟨_, rfl⟩
 have qs := E.eval a0 cap0 l0 _ S hlen K
 unfold StW.New at qs
 simp only [hr, hz] at qs
 go_wp2_with (first | go_skip)
 refine qs.mono ?_
 clear qs
 rintro e wx ⟨v, rfl, hv, IV, kx⟩
 replace S := S.below kx; replace K := K.below kx; replace b := b.trans (kx.mono b.size); clear kx
 cases f with
 | false =>
   go_wp2_with (first | go_skip | (refine Cel.wpList_store_new SE rfl _ _ rfl wx _ _ rfl v _ rfl rfl rfl rfl ?_; intro wy BZ ky g4 s4))
   go_ret
   exact ⟨rfl, b.trans (ky.mono b.size)⟩
 | true =>
   obtain ⟨ho, hl⟩ := okay_few (fun v hv => (S.each v hv).2) hf
   have hl1 : l0.length ≤ 100 := by omega
   clear ho hf
   by_cases hC : Closed hashK (coms l0)
   case neg =>
     rw [evalC, if_neg hC] at hr
     subst hr
     have hz1 : z = 1 := hz.symm
     subst hz1
     go_wp2_with (first | go_skip | (refine Cel.wpList_store_new SE rfl _ _ rfl wx _ _ rfl v _ rfl rfl rfl rfl ?_; intro wy BZ ky g4 s4))
     go_ret
     exact ⟨rfl, b.trans (ky.mono b.size)⟩
   case pos =>
     rw [eval_of hC] at hr
     subst hr
     have hz1 : z = 0 := hz.symm
     subst hz1
     have hv2 : v.s = evalK hashK (coms l0) := hv
     have HV := aside hv2
     have HC := aside hC
     have HFN := aside (fine_all hC)
     clear hv hv2 hC hz
     go_wp2_with (first | go_skip | (refine Cel.wpList_store_new SE rfl _ _ rfl wx _ _ rfl v _ rfl rfl rfl rfl ?_; intro wy B ky g4 s4; clear g4 s4))
     replace S := S.below ky; replace K := K.below ky; replace IV := IV.below ky; replace b := b.trans (ky.mono b.size); clear ky
     obtain ⟨g0, hg0⟩ : ∃ g, wx.heap.size = g := ⟨_, rfl⟩
     rw [hg0] at B ⊢
     clear hg0
     have HRG := aside (fun (r : RegM.Rg) (h : r ∈ v.s.r) => reg_of (H := hashK) HFN.out (by rw [HV.out] at h; exact h))
     have IR := IV.r
     have HC1 := aside (fun (W : World) (k : Below wy.heap.size wy W) => (box_cells (B.below k)).2.1)
     obtain ⟨A1, hA1⟩ : ∃ A, v.a1 = A := ⟨_, rfl⟩
     obtain ⟨K1, hK1⟩ : ∃ A, v.k1 = A := ⟨_, rfl⟩
     obtain ⟨rs, hrs⟩ : ∃ A, v.s.r = A := ⟨_, rfl⟩
     rw [hA1, hK1, hrs] at HC1
     rw [hA1, hK1, hrs] at IR
     rw [hrs] at HRG
     clear hA1 hK1 hrs
     have hmaxr : rs.length ≤ 9223372036854775807 := by have := IR.1; have := IR.2.1; unfold maxLen at this; omega
     go_loopw [7] (fun i wr => ∃ k : Nat, k ≤ rs.length ∧ i = .int .i64 k ∧ Below wy.heap.size wy wr) (fun i _ => rs.length - (intOf i).toNat)
     case atStart => exact ⟨0, Nat.zero_le _, rfl, Below.refl _ _⟩
     case round =>
       obtain ⟨k, hk, rfl, kb⟩ := hrel
       rename World => wr
       have c1 := HC1.out wr kb
       by_cases hlt : k < rs.length
       · obtain ⟨p, off, rfl, hbw, hr⟩ := RegW.plain IR (by omega)
         obtain ⟨r, hx⟩ : ∃ r, rs[k]? = some r := ⟨_, List.getElem?_eq_getElem hlt⟩
         have rr := RowS.range_below (hr k r hx) kb
         have HRR := aside (HRG.out r (List.mem_of_getElem? hx))
         have p0 : (k : Int) < rs.length := by omega
         have m0 : ((k : Int)).toNat = k := by omega
         clear hr hx
         go_wp2_with (first | go_skip | (refine RowS.wpList_load_at RegW.E rfl _ rfl p _ rfl r rr ?_) | (refine RowB.wpList_store_new RegW.E rfl _ _ rfl wr _ _ rfl r _ rfl rfl rfl rfl ?_; intro w3 D k3 g3 s3; clear g3 s3))
         have b3 := kb.trans (k3.mono kb.size)
         have hb3 := b3.size
         obtain ⟨gr, hgr⟩ : ∃ g, wr.heap.size = g := ⟨_, rfl⟩
         rw [hgr] at D ⊢
         clear hgr k3
         go_loopw [9, 10] (fun f i wq => ∃ j : Nat, j ≤ l0.length ∧ i = .int .i64 j ∧ f = .bool (fnd r ((coms l0).take j)) ∧ Below wy.heap.size wy wq ∧ RowB.Box RegW.E wq gr r) (fun _ i _ => l0.length - (intOf i).toNat)
         case atStart => exact ⟨0, Nat.zero_le _, rfl, rfl, b3, D⟩
         case round =>
           clear D b3 hb3
           obtain ⟨j, hj, rfl, rfl, kq, D⟩ := hrel
           rename World => wq
           by_cases hjl : j < l0.length
           · obtain ⟨bb, of2, rfl, hbw2, hrg⟩ := S.plain (by omega)
             obtain ⟨x, hx⟩ : ∃ x, l0[j]? = some x := ⟨_, List.getElem?_eq_getElem hjl⟩
             have rx := RowS.range_below (hrg j x hx) kq
             have q0 : (j : Int) < l0.length := by omega
             have n0 : ((j : Int)).toNat = j := by omega
             have d0 : wq.cell? ⟨gr, 0, none⟩ = some (.string r.key) := D.cell (j := 0) rfl
             have d1 : wq.cell? ⟨gr, 1, none⟩ = some (.string r.elem) := D.cell (j := 1) rfl
             have d2 : wq.cell? ⟨gr, 2, none⟩ = some (.int .i64 r.gen) := D.cell (j := 2) rfl
             have d3 : wq.cell? ⟨gr, 3, none⟩ = some (.int .i64 r.node) := D.cell (j := 3) rfl
             have d4 : wq.cell? ⟨gr, 4, none⟩ = some (.int .i64 r.seq) := D.cell (j := 4) rfl
             have e0 : wq.cell? ⟨bb, of2 + j * 8, none⟩ = some (.int .i64 x.c.node) := rx 0 _ rfl
             have e1 : wq.cell? ⟨bb, of2 + j * 8 + 1, none⟩ = some (.int .i64 x.c.seq) := rx 1 _ rfl
             have e2 : wq.cell? ⟨bb, of2 + j * 8 + 2, none⟩ = some (.int .i64 x.c.gen) := rx 2 _ rfl
             have e4 : wq.cell? ⟨bb, of2 + j * 8 + 4, none⟩ = some (.int .i64 x.c.op.kind) := rx 4 _ rfl
             have e5 : wq.cell? ⟨bb, of2 + j * 8 + 5, none⟩ = some (.string x.c.op.key) := rx 5 _ rfl
             have e6 : wq.cell? ⟨bb, of2 + j * 8 + 6, none⟩ = some (.string x.c.op.elem) := rx 6 _ rfl
             have HTK := aside (fnd_take r (coms_at hx))
             have hge := HRR.out.2 x.c (List.mem_of_getElem? (coms_at hx))
             have HGE := aside hge
             clear hrg hx rx hge
             obtain ⟨f, hf⟩ : ∃ f, fnd r ((coms l0).take j) = f := ⟨_, rfl⟩
             rw [hf] at HTK ⊢
             clear hf
             have hw : x.c.op.kind ≠ 1 ∨ (x.c.op.kind = 1 ∧ x.c.op.key ≠ r.key) ∨ (x.c.op.kind = 1 ∧ x.c.op.key = r.key) := by by_cases h1 : x.c.op.kind = 1 <;> by_cases h2 : x.c.op.key = r.key <;> simp [h1, h2]
             rcases hw with h1 | ⟨h1, h2⟩ | ⟨h1, h2⟩
             case inl =>
               have HQ := aside (q_no (r := r) (c := x.c) (fun q => h1 q.1))
               have z1 : (x.c.op.kind != 1) = true := by simpa using h1
               clear h1 HGE
               go_wp2_with (first | go_skip)
               go_quiet (fail)
               go_wp2_with (first | go_skip)
               go_roundw
               case rel => exact ⟨j + 1, by omega, by go_num, by rw [HTK.out, HQ.out, Bool.or_false], below_drew kq _, D.below (below_drew (Below.refl _ _) _)⟩
               case measure => simp [intOf]; omega
             case inr.inl =>
               have HQ := aside (q_no (r := r) (c := x.c) (fun q => h2 q.2))
               have z2 : (x.c.op.key.toList == r.key.toList) = false := PairW.str_no h2
               rw [h1] at e4
               clear h1 h2 HGE
               go_wp2_with (first | go_skip)
               go_quiet (fail)
               go_wp2_with (first | go_skip)
               go_roundw
               case rel => exact ⟨j + 1, by omega, by go_num, by rw [HTK.out, HQ.out, Bool.or_false], below_drew kq _, D.below (below_drew (Below.refl _ _) _)⟩
               case measure => simp [intOf]; omega
             case inr.inr =>
               have HQ := aside (q_yes h1 h2)
               have hg : ¬ r.gen < x.c.gen := by have := HGE.out h1 h2; omega
               have z2 : (x.c.op.key.toList == r.key.toList) = true := PairW.str_yes h2
               have heq := fun W => equal_ev 9998 W x.c.node x.c.seq r.node r.seq
               rw [h1] at e4
               clear h1 h2 HGE
               obtain ⟨t1, ht1⟩ : ∃ y, (decide (x.c.node = r.node) && decide (x.c.seq = r.seq)) = y := ⟨_, rfl⟩
               obtain ⟨t2, ht2⟩ : ∃ y, (x.c.gen == r.gen) = y := ⟨_, rfl⟩
               obtain ⟨t3, ht3⟩ : ∃ y, (x.c.op.elem.toList == r.elem.toList) = y := ⟨_, rfl⟩
               rw [ht1, ht2, ht3] at HQ
               simp only [ht1] at heq
               clear ht1
               rw [HQ.out] at HTK
               clear HQ
               cases f <;> cases t1 <;> cases t2 <;> cases t3
               all_goals
                 go_wp2_with (first | go_skip)
                 go_quiet (fail)
                 go_wp2_with (first | go_skip)
                 go_quiet (fail)
                 go_wp2_with (first | go_skip)
                 go_quiet (fail)
                 go_wp2_with (first | go_skip)
                 go_roundw
                 case rel => exact ⟨j + 1, by omega, by go_num, by rw [HTK.out]; rfl, below_drew kq _, D.below (below_drew (Below.refl _ _) _)⟩
                 case measure => simp [intOf]; omega
           · obtain rfl : j = l0.length := by omega
             have hfd : fnd r ((coms l0).take l0.length) = true := by rw [← coms_len l0, List.take_length]; exact fnd_reg HRR.out.1
             rw [hfd]
             clear hfd
             go_wp2_with (first | go_skip)
             go_roundw
             case rel => exact ⟨k + 1, by omega, by go_num, kq⟩
             case measure => simp [intOf]; omega
       · obtain rfl : k = rs.length := by omega
         go_wp2_with (first | go_skip)
         go_ret
         exact ⟨rfl, b.trans (kb.mono b.size)⟩
end Go.Proofs.YtgmdhaepiclkcaaGreatDoor.EbR
namespace Go.Proofs.YtgmdhaepiclkcaaGreatDoor.EaO
set_option maxRecDepth 100000
open Go Go.ChangeShapes Go.WideShapes Go.ChangeAt Go.RowKit
section
variable {H : Type} {enc : TypeId × Value → H} {W : World}
theorem bytes_com : Tryz.prog.bytesOf 47 = 96 := by kernel_rfl
theorem few_coms {ts : List TypeId} {ds : List (DataW H)} (h : (DataW.weightsEach Tryz.prog ts ds).all (· ≤ reachBytes) = true) {j : Nat} (ht : ts[j]? = some 22) {d : DataW H} (hd : ds[j]? = some d) {A : Option Addr} {n cap : Nat} {p : List MemPlace}
   (h0 : DataW.Trod enc Tryz.prog W 0 (fun _ => true) true 22 (.slice A n cap) d p) : n ≤ 1500000000000 := by
 obtain ⟨fuel, hf⟩ := h0
 rcases DataW.trod_slice Tryz.underlying22 hf with ⟨hcs, _⟩ | ⟨x, len', cap', elems, rest, m, _, hcs, hx, _, _, _, hel, _⟩
 · simp [Value.cells] at hcs
   omega
 · simp [Value.cells] at hcs
   obtain ⟨rfl, rfl, rfl⟩ := hcs
   have hd2 : d = .slice (elems.map (·.1)) (rest.map (·.1)) := by
     injection hx
   rw [hd2] at hd
   have := sized_slice h ht hd Tryz.underlying22
   rw [bytes_com, List.length_map, List.length_map, hel] at this
   have h2 := reachBytes_lt
   omega
end
end Go.Proofs.YtgmdhaepiclkcaaGreatDoor.EaO
namespace Go.Proofs.YtgmdhaepiclkcaaGreatDoor.IdK
set_option maxRecDepth 100000
open Go Go.RowKit Go.Maps IdM Byt IdW
theorem arrK : WideMaps.ArrKey Tryz.prog 56 5 32 := ⟨Tryz.underlying56, by kernel_rfl, by kernel_rfl, by kernel_rfl⟩
theorem law : Keyed Tryz.prog 56 := Keyed.of_law arrK.law
theorem types_gt : 0 < Tryz.prog.types.size := of_decide_eq_true (by kernel_rfl)
theorem types_pos : ∃ m, Tryz.prog.types.size = m + 1 := ⟨Tryz.prog.types.size - 1, by have := types_gt; omega⟩
theorem keyT : Tryz.prog.keyType 56 = true := arrK.keyType types_pos
def key (x : Idn) : Lit := .string (keyBytes (x.1.map (Lit.int .u8)))
theorem wf_u8 {n : Int} (h : 0 ≤ n ∧ n ≤ 255) : (Lit.int .u8 n).wf = true := by
 simp [Lit.wf, IntKind.min, IntKind.max, IntKind.bits, IntKind.signed]
 omega
theorem lits_at (x : Idn) (D : Nat) : ∀ L : List Nat, (∀ i ∈ L, i < 32) →
   L.mapM (fun i => Tryz.prog.keyLits (D + 1) 5 (((bv x.1).drop (i * 1)).take 1)) = some (L.map fun i => [Lit.int .u8 (x.1.getD i 0)])
 | [], _ => rfl
 | i :: L, h => by
   have hi : i < 32 := h i (by simp)
   have e : ((bv x.1).drop (i * 1)).take 1 = [.int .u8 (x.1.getD i 0)] := by
     rw [Nat.mul_one]
     apply List.ext_getElem?
     intro j
     rw [List.getElem?_take, List.getElem?_drop]
     by_cases hj : j = 0
     · subst hj
       rw [if_pos (by omega), Nat.add_zero, bv_at _ (by rw [Idn_len]; exact hi)]
       rfl
     · rw [if_neg (by omega), List.getElem?_eq_none (by simp; omega)]
   have q : Tryz.prog.keyLits (D + 1) 5 [.int .u8 (x.1.getD i 0)] = some [Lit.int .u8 (x.1.getD i 0)] := by
     simp only [Program.keyLits, Tryz.underlying5]
     rw [if_pos ⟨trivial, wf_u8 (Idn_at_range x i)⟩]
   rw [List.mapM_cons, e, q, lits_at x D L (fun j hj => h j (by simp [hj]))]
   rfl
theorem map_range (x : Idn) : (List.range 32).map (fun i => Lit.int .u8 (x.1.getD i 0)) = x.1.map (Lit.int .u8) := by
 apply List.ext_getElem
 · simp [Idn_len]
 · intro i h1 h2
   simp at h1 h2 ⊢
   rw [List.getElem?_eq_getElem h2]
   rfl
theorem keyOf_id (x : Idn) : keyOf Tryz.prog 56 (.agg (cs x)) = some (key x) := by
 obtain ⟨m0, hm0⟩ := types_pos
 unfold keyOf
 simp only [Tryz.underlying56]
 rw [if_pos (by simp [keyT, Value.formed, Tryz.underlying56, arrK.size, cs_size]), hm0]
 unfold Program.keyLits
 simp only [Tryz.underlying56, Value.cells]
 rw [if_pos (by rw [arrK.size]; simp [cs_size]), arrK.one, cs_toList, lits_at x m0 (List.range 32) (fun i hi => by simpa using hi)]
 have hfl : ∀ (l : List Nat) (f : Nat → Lit), (l.map fun i => [f i]).flatten = l.map f := fun l f => by induction l with | nil => rfl | cons a r ih => simp [ih]
 simp only [Option.map_some, hfl]
 rw [map_range]
 rfl
theorem key_inj {x y : Idn} (h : key x = key y) : x = y := by
 have h1 := keyOf_id x
 have h2 := keyOf_id y
 rw [← h] at h2
 have := law.inj h1 h2
 injection this with this
 exact cs_inj this
theorem keyOf_inv {v : Value} {kl : Lit} (h : keyOf Tryz.prog 56 v = some kl) : ∃ x, v = .agg (cs x) := by
 obtain ⟨m0, hm0⟩ := types_pos
 unfold keyOf at h
 simp only [Tryz.underlying56] at h
 split at h
 · rename_i hf
   simp only [Bool.and_eq_true] at hf
   have hf2 := hf.2
   cases v <;> simp [Value.formed, Tryz.underlying56] at hf2
   rename_i xs
   rw [arrK.size] at hf2
   rw [Option.map_eq_some_iff] at h
   obtain ⟨ls, hls, _⟩ := h
   rw [hm0] at hls
   unfold Program.keyLits at hls
   simp only [Tryz.underlying56, Value.cells] at hls
   rw [if_pos (by rw [arrK.size]; simpa using hf2), Option.map_eq_some_iff] at hls
   obtain ⟨ys, hys, _⟩ := hls
   rw [arrK.one] at hys
   have key : ∀ i, i < 32 → ∃ n, xs[i]? = some (.int .u8 n) ∧ 0 ≤ n ∧ n ≤ 255 := by
     intro i hi
     have q := mapM_some_get hys i i (by simp [hi])
     have hlen : ys.length = 32 := by simpa using mapM_some_length hys
     rw [List.getElem?_eq_getElem (by omega)] at q
     have e : ((xs.toList.drop (i * 1)).take 1) = [xs[i]'(by omega)] := by
       rw [Nat.mul_one]
       apply List.ext_getElem?
       intro j
       rw [List.getElem?_take, List.getElem?_drop]
       by_cases hj : j = 0
       · subst hj
         rw [if_pos (by omega), Nat.add_zero, Array.getElem?_toList, Array.getElem?_eq_getElem (by omega)]
         rfl
       · rw [if_neg (by omega), List.getElem?_eq_none (by simp; omega)]
     rw [e] at q
     rw [Array.getElem?_eq_getElem (by omega)]
     generalize xs[i]'(by omega) = u at q
     cases u <;> simp only [Program.keyLits, Tryz.underlying5] at q
     all_goals first | (cases q; done) | skip
     rename_i kd n
     split at q
     · rename_i hw
       obtain ⟨rfl, hw⟩ := hw
       have hb := B_of_wf hw
       unfold B at hb
       exact ⟨n, rfl, hb⟩
     · cases q
   have hl : (List.map (fun i => (xs[i]?).elim 0 fun v => match v with | .int _ n => n | _ => 0) (List.range 32)).length = 32 := by simp
   refine ⟨⟨List.map (fun i => (xs[i]?).elim 0 fun v => match v with | .int _ n => n | _ => 0) (List.range 32), hl, fun n hn => ?_⟩, ?_⟩
   · simp only [List.mem_map, List.mem_range] at hn
     obtain ⟨i, hi, rfl⟩ := hn
     obtain ⟨n, e, hb⟩ := key i hi
     rw [e]
     exact hb
   · congr 1
     apply Array.ext_getElem?
     intro i
     by_cases hi : i < 32
     · rw [cs_at _ i hi]
       obtain ⟨n, e, _⟩ := key i hi
       rw [e]
       simp [List.getD_eq_getElem?_getD, hi, e]
     · rw [Array.getElem?_eq_none (by omega), Array.getElem?_eq_none (by rw [cs_size]; omega)]
 · cases h
def SetD (D : DataW Unit) (L : List Idn) : Prop := (∀ x, Maps.has D (key x) = decide (x ∈ L)) ∧ ∀ x, x ∈ L → ∀ z, D.atKey (key x) z = .lit (.int .i64 1)
def SetIn (w : World) (b n : Nat) (L : List Idn) : Prop := ∃ D : DataW Unit, w.ownsMap Tryz.prog 56 (plainElem Tryz.prog 3) b n D ∧ SetD D L
theorem SetIn.made (w : World) : SetIn (w.alloc (.map #[] 0)) w.heap.size 0 [] := ⟨.map [], World.ownsMap_made _ _ _ _, fun x => by simp [Maps.has], fun x hx => absurd hx (by simp)⟩
theorem SetIn.kept {w w' : World} {b n : Nat} {L : List Idn} {row : Option Nat} (h : SetIn w b n L) (hg : w.grownBy w' row) (hne : some b ≠ row) : SetIn w' b n L := by
 obtain ⟨D, hD, hs⟩ := h
 exact ⟨D, hD.kept hg hne, hs⟩
theorem SetIn.below {w w' : World} {b n : Nat} {L : List Idn} (h : SetIn w b n L) (hb : Below w.heap.size w w') : SetIn w' b n L := h.kept (grown_of_below hb none) (by simp)
theorem SetIn.alloc {w : World} {b n : Nat} {L : List Idn} (h : SetIn w b n L) (o : Obj) : SetIn (w.alloc o) b n L := h.kept (World.grownBy_alloc w o none) (by simp)
theorem SetIn.congr {w : World} {b n : Nat} {L L' : List Idn} (h : SetIn w b n L) (he : ∀ x, x ∈ L ↔ x ∈ L') : SetIn w b n L' := by
 obtain ⟨D, hD, h1, h2⟩ := h
 exact ⟨D, hD, fun x => by rw [h1]; simp only [he], fun x hx => h2 x ((he x).2 hx)⟩
theorem put_D {D : DataW Unit} {L : List Idn} (hm : Maps.IsMap D) (h : SetD D L) (y : Idn) : SetD (D.put (key y) (.lit (.int .i64 1))) (y :: L) := by
 have hk : WideAt.IsKeyLit (key y) := law.key (keyOf_id y)
 refine ⟨fun x => ?_, fun x hx z => ?_⟩
 · by_cases hxy : x = y
   · subst hxy
     rw [Maps.has_put_same hm hk]
     simp
   · rw [Maps.has_put_other (fun e => hxy (key_inj e)), h.1]
     simp [hxy]
 · by_cases hxy : x = y
   · subst hxy
     exact Maps.atKey_put_same hm hk _ _
   · rw [Maps.atKey_put_other (fun e => hxy (key_inj e))]
     exact h.2 x (by simpa [hxy] using hx) z
section
variable (w : World) {ops : Array Oper} {rest : List Oper} {o : Oper} {a : Act} {Q : Exit → Act → World → Prop}
theorem wpList_put (hg : o.guard = none) (m x v : Operand) (hop : o.op = Op.mapUpdate 126 m x v) (b n : Nat) (L : List Idn) (hm : a.eval m = .map (some b)) (h : SetIn w b n L) (hn : n < 1000000)
   (y : Idn) (hx : a.eval x = .agg (cs y)) (hv : a.eval v = .int .i64 1) (hK : ∀ w', SetIn w' b (n + 1) (y :: L) → w.grownBy w' (some b) → wpList Tryz.prog ops Q rest (a.put o.dst undef) w') : wpList Tryz.prog ops Q (o :: rest) a w := by
 obtain ⟨D, hD, hs⟩ := h
 exact wpList_mapUpdate_own w hg m x v 126 hop 56 3 law Tryz.underlying126 _ b n D hm hD (by unfold maxLen; omega) _ _ (key y) hx hv (keyOf_id y) _ [] (plainElem_int Tryz.underlying3 (by decide))
   (fun w' h1 h2 => hK w' ⟨_, h1, put_D hD.isMap hs y⟩ h2)
theorem zero_int (w : World) : (zeroValue 3).run Tryz.prog w = .ok (.int .i64 0) w := by kernel_rfl
theorem wpList_find (hg : o.guard = none) (m x : Operand) (hop : o.op = Op.lookup 126 m x false) (b n : Nat) (L : List Idn) (hm : a.eval m = .map (some b)) (h : SetIn w b n L)
   (y : Idn) (hx : a.eval x = .agg (cs y)) (hK : wpList Tryz.prog ops Q rest (a.put o.dst (.int .i64 (if y ∈ L then 1 else 0))) w) : wpList Tryz.prog ops Q (o :: rest) a w := by
 obtain ⟨D, hD, hs⟩ := h
 refine wpList_lookup_own_int w hg m x 126 hop 56 3 .i64 law Tryz.underlying126 Tryz.underlying3 (zero_int w) b n D hm hD _ (key y) hx (keyOf_id y) (fun c hat _ => ?_)
 have hc : c = if y ∈ L then 1 else 0 := by
   by_cases hy : y ∈ L
   · rw [hs.2 y hy] at hat
     simp only [hy, if_true]
     injection hat with hat
     injection hat with _ hat
     exact hat.symm
   · have hh := hs.1 y
     simp only [hy, decide_false] at hh
     rw [Maps.atKey_of_not_has hh] at hat
     simp only [hy, if_false]
     injection hat with hat
     injection hat with _ hat
     exact hat.symm
 rw [hc]
 exact hK
end
end Go.Proofs.YtgmdhaepiclkcaaGreatDoor.IdK
