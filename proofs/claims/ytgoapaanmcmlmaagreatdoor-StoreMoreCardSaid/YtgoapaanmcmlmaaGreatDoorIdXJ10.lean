/- What the document's answers Sort, Both, Common and Without return: contracts. | What the document's Find, Part and Anc of package dag return: contracts. | Slices of ints in memory: read, cut, appended to; and what is put in at its place. No condition. | What the document's Sorted of package dag returns: a contract. | What the answers on the chapter's two commits are; what the walks need of the six functions. No condition. | What the walks need of package store's functions, and what the answers on one commit are. No condition. | The chapter's own example: 'awake' of the laws of package store returns true, where its four functions answer as the document does. No condition. | Slices of slices of bytes in memory: read, made, appended to. No condition. | As Grow, where the last operation may write what was there: it waits for all others. No condition. | What the walks of package store's laws need of package dag's Closed and Sorted. No condition. -/
import Derived.Test.YtgoapaanmcmlmaaGreatDoorEvRJ5
import Derived.Test.YtgoapaanmcmlmaaGreatDoorOpenKJ3
import Derived.Maps.AppendAt
import Derived.Test.YtgoapaanmcmlmaaGreatDoorDgC
import Derived.Test.YtgoapaanmcmlmaaGreatDoorDgEJ5
import Derived.Test.YtgoapaanmcmlmaaGreatDoorStGJ6
import Derived.Test.YtgoapaanmcmlmaaGreatDoorRowInJ3
import Derived.Test.YtgoapaanmcmlmaaGreatDoorForksJ3
import Derived.Test.YtgoapaanmcmlmaaGreatDoorShaDJ4
namespace Go.Proofs.YtgoapaanmcmlmaaGreatDoor.IdX
set_option maxRecDepth 100000
open Go Go.Sort Go.RowKit IdM Byt IdW IdC IdV IdB
theorem SlI.part {w : World} {A : Option Addr} {cap : Nat} {l : List Idn} (h : SlI w A cap l) (i j : Nat) (hij : i ≤ j) (hj : j ≤ l.length) :
   ∃ A' cap', sliced A i j cap 32 = .slice A' (j - i) cap' ∧ SlI w A' cap' ((l.drop i).take (j - i)) ∧ ((l.drop i).take (j - i)).length = j - i := by
 obtain ⟨h1, h2, h5⟩ := h
 have hl : ((l.drop i).take (j - i)).length = j - i := by simp; omega
 rcases h5 with ⟨rfl, rfl, rfl⟩ | ⟨x, rfl, hc⟩
 · simp at hj
   obtain rfl : j = 0 := hj
   obtain rfl : i = 0 := by omega
   exact ⟨none, 0, by simp [sliced], by simpa using SlI.nil w, hl⟩
 · by_cases hci : cap = i
   · refine ⟨some x, cap - i, by simp [sliced, hci], ⟨by rw [hl]; omega, by omega, .inr ⟨x, rfl, fun k hk => ?_⟩⟩, hl⟩
     rw [flat_length, hl] at hk
     omega
   · refine ⟨some (x.add (i * 32)), cap - i, by simp [sliced, hci], ⟨by rw [hl]; omega, by omega, .inr ⟨_, rfl, fun k hk => ?_⟩⟩, hl⟩
     have hk' := hk
     rw [flat_length, hl] at hk'
     rw [Addr.add_add, hc (i * 32 + k) (by rw [flat_length]; omega)]
     congr 2
     rw [flat_take, flat_drop, List.getD_eq_getElem?_getD, List.getD_eq_getElem?_getD, List.getElem?_take, if_pos (by omega), List.getElem?_drop]
theorem elem_id : Tryz.prog.elem 25 = 75 := by kernel_rfl
theorem under_id : Tryz.prog.underlying 25 = some (.slice (Tryz.prog.elem 25)) := by kernel_rfl
theorem size_id (w : World) : (sizeOf (Tryz.prog.elem 25)).run Tryz.prog w = .ok 32 w := by rw [elem_id]; exact size_v w
theorem run_part_h (w : World) (A : Option Addr) (len cap : Nat) (k : IntKind) (j : Nat) (hj : j ≤ cap) :
   (Instr.sliceAt 25 (.slice A len cap) none (some (.int k j)) none).run Tryz.prog w = .ok (sliced A 0 j cap 32) w := by
 rw [run_sliceAt_slice w _ _ _ _ _ under_id, run_slice_h w _ A len cap under_id k j (by omega) (by omega), size_id]
 simp [Result.andThen]
end Go.Proofs.YtgoapaanmcmlmaaGreatDoor.IdX
namespace Go.Proofs.YtgoapaanmcmlmaaGreatDoor.DgF
set_option maxRecDepth 100000
open Go Go.Sort Go.RowKit Byt IdM IdW OpsM OpsW CmM StW CmW CmX CmY DgM DgN DgP DgW DgT DgR DgK DgO DgC
open Classical
def NewC (m : List Com) (w : World) (e : Ending) (w' : World) : Prop := ∃ A cap l, e = .returned (.slice A (List.length l) cap) ∧ SlK w' A cap l ∧ coms l = m ∧ Below w.heap.size w w'
theorem own_in {w : World} {base n : Nat} {v : Value} {l : List Cv} (h : w.ownsRow base 29 8 v n (RowS.flat KE l)) (he : ∀ x ∈ l, In w x ∧ Fit x.c) : ∃ A cap, v = .slice A l.length cap ∧ SlK w A cap l := by
 obtain ⟨A, cap, e, S⟩ := RowS.SlR.own (E := KE) h
 exact ⟨A, cap, e, S, he⟩
end Go.Proofs.YtgoapaanmcmlmaaGreatDoor.DgF
namespace Go.Proofs.YtgoapaanmcmlmaaGreatDoor.DgI
set_option maxRecDepth 100000
open Go Go.Sort Go.RowKit Byt IdM IdW OpsM OpsW CmM StW CmW
def nv (l : List Nat) : List Value := l.map fun (n : Nat) => Value.int .i64 n
theorem nv_length (l : List Nat) : (nv l).length = l.length := List.length_map ..
theorem nv_at {l : List Nat} {i n : Nat} (h : l[i]? = some n) : (nv l)[i]? = some (.int .i64 n) := by
 unfold nv
 rw [List.getElem?_map, h]
 rfl
def SlN (w : World) (A : Option Addr) (cap : Nat) (l : List Nat) : Prop :=
 l.length ≤ cap ∧ cap ≤ maxLen ∧ ((A = none ∧ l = [] ∧ cap = 0) ∨ ∃ x, A = some x ∧ ∀ i v, (nv l)[i]? = some v → w.cell? (x.add i) = some v)
theorem SlN.nil (w : World) : SlN w none 0 [] := ⟨Nat.le_refl _, Nat.zero_le _, .inl ⟨rfl, rfl, rfl⟩⟩
theorem SlN.part {w : World} {A : Option Addr} {cap : Nat} {l : List Nat} (h : SlN w A cap l) (i j : Nat) (hij : i ≤ j) (hj : j ≤ l.length) :
   ∃ A' cap', sliced A i j cap 1 = .slice A' (j - i) cap' ∧ SlN w A' cap' ((l.drop i).take (j - i)) ∧ ((l.drop i).take (j - i)).length = j - i := by
 obtain ⟨h1, h2, h5⟩ := h
 have hl : ((l.drop i).take (j - i)).length = j - i := by simp; omega
 rcases h5 with ⟨rfl, rfl, rfl⟩ | ⟨x, rfl, hc⟩
 · simp at hj
   obtain rfl : j = 0 := hj
   obtain rfl : i = 0 := by omega
   exact ⟨none, 0, by simp [sliced], by simpa using SlN.nil w, hl⟩
 · by_cases hci : cap = i
   · refine ⟨some x, cap - i, by simp [sliced, hci], ⟨by rw [hl]; omega, by omega, .inr ⟨x, rfl, fun m v hv => ?_⟩⟩, hl⟩
     have := (List.getElem?_eq_some_iff.1 hv).1
     rw [nv_length, hl] at this
     omega
   · refine ⟨some (x.add (i * 1)), cap - i, by simp [sliced, hci], ⟨by rw [hl]; omega, by omega, .inr ⟨_, rfl, fun m v hv => ?_⟩⟩, hl⟩
     rw [Addr.add_add]
     apply hc
     have hm := (List.getElem?_eq_some_iff.1 hv).1
     rw [nv_length, hl] at hm
     unfold nv at hv ⊢
     rw [List.getElem?_map, List.getElem?_take, if_pos (by omega), List.getElem?_drop] at hv
     rw [List.getElem?_map, Nat.mul_one]
     exact hv
theorem info_int : (Tryz.prog.info? 3).map (fun i => (i.zero, i.size, i.bytes)) = some (some (.int .i64 0), 1, 8) := by kernel_rfl
end Go.Proofs.YtgoapaanmcmlmaaGreatDoor.DgI
namespace Go.Proofs.YtgoapaanmcmlmaaGreatDoor.DgS
set_option maxRecDepth 100000
open Go Go.Sort Go.RowKit Byt IdM IdC IdV IdW OpsM OpsW CmM StW CmW CmX CmY DgM DgN DgP DgW DgT DgR DgK DgO DgC DgF DgI
open Classical
def IsSorted (l m : List Com) : Prop := if Closed hashK l then InOrder hashK m ∧ ∀ z, z ∈ m ↔ z ∈ l else m = []
end Go.Proofs.YtgoapaanmcmlmaaGreatDoor.DgS
namespace Go.Proofs.YtgoapaanmcmlmaaGreatDoor.DgH
set_option maxRecDepth 100000
open Go Go.Sort Go.RowKit Byt IdM IdW OpsM OpsW CmM StW CmW CmX CmY CmA DgM DgW DgR DgF DgG DgS DgJ
open Classical
end Go.Proofs.YtgoapaanmcmlmaaGreatDoor.DgH
namespace Go.Proofs.YtgoapaanmcmlmaaGreatDoor.StoF
set_option maxRecDepth 100000
open Go Go.Sort Go.RowKit Byt IdM IdW OpsM OpsW CmM StW CmW CmX CmY CmA DgM DgW DgJ StoM StoW LogM LogD LogE LogW EncM
open Classical
structure Four : Prop where
 put : ∀ (A : Option Addr) (cap len : Nat) (b : List Int) (room : Int) (v : Cv) (w : World), Sl w A cap b → b.length = len → len ≤ 1000000 → In w v → Fit v.c → ShaE.KIn w → Calls Tryz.prog 10 #[.slice A len cap, .int .i64 room, .agg (cc v)] w (GivesN (putO b v.c room) w)
 load : ∀ (A : Option Addr) (cap len : Nat) (b : List Int) (w : World), Sl w A cap b → b.length = len → len ≤ 1000000 → ShaE.KIn w → Calls Tryz.prog 12 #[.slice A len cap] w (LoadOut (loadD hashK b) w)
 opn : ∀ (A : Option Addr) (cap len : Nat) (b : List Int) (w : World), Sl w A cap b → b.length = len → len ≤ 1000000 → ShaE.KIn w → Calls Tryz.prog 15 #[.slice A len cap] w (Gives (openD hashK b) w)
 last : ∀ (A : Option Addr) (cap : Nat) (l : List Cv) (node : Int) (w : World), SlK w A cap l → Calls Tryz.prog 17 #[.slice A l.length cap, .int .i64 node] w fun e w' => e = .returned (.int .i64 (lastL (coms l) node)) ∧ Below w.heap.size w w'
theorem order_two : InOrder hashK two := by
 unfold InOrder two
 rw [List.pairwise_cons]
 refine ⟨fun d hd => ?_, by simp⟩
 rw [List.mem_singleton.1 hd]
 exact .inl (by show (1 : Int) < 2; omega)
theorem closed_one : Closed hashK [c1] := closed_take closed_two order_two 1
theorem order_one : InOrder hashK [c1] := by
 unfold InOrder
 simp
theorem frame_len : (frameL (putK c1)).length = 13 := by
 rw [frameL_len, put1, numL_one (by simp)]
 rfl
theorem disk_one : diskK [c1] = frameL (putK c1) := by
 unfold diskK
 rw [List.map_cons, List.map_nil, catL_cons, catL_nil, List.append_nil]
theorem put_one : putO [] c1 100 = (frameL (putK c1), 0) := by
 unfold putO writeO
 rw [if_pos may1, if_neg (by rw [put1]; simp), frame_len, if_neg (by simp), List.nil_append]
theorem load_one : loadD hashK (frameL (putK c1)) = ([c1], 13) := by
 have h := load_all closed_one order_one
 rwa [disk_one, frame_len] at h
theorem load_nil : loadD hashK [] = ([], 0) := by
 unfold loadD
 rw [readL_none firstL_nil]
 rfl
theorem open_cut : (openD hashK ((frameL (putK c1)).take 5)).length = 0 := by
 have h := load_cut closed_one order_one (want := 0) (m := 5) (by simp) (by simp [diskK, catL]) (fun _ => by
   rw [show ([c1] : List Com).take (0 + 1) = [c1] from rfl, disk_one, frame_len]
   omega)
 rw [disk_one] at h
 unfold openD
 rw [h]
 simp [diskK, catL]
theorem last_0 : lastL [c1] 0 = 1 := by kernel_rfl
theorem last_1 : lastL [c1] 1 = 0 := by kernel_rfl
end Go.Proofs.YtgoapaanmcmlmaaGreatDoor.StoF
namespace Go.Proofs.YtgoapaanmcmlmaaGreatDoor.StoA
set_option maxRecDepth 100000
open Go Go.Sort Go.RowKit Byt IdM IdW OpsM OpsW CmM StW CmW CmX CmY CmA DgM DgW DgJ StoM StoW StoF LogM LogD LogE LogW EncM
open Classical
theorem frame_B1 : ∀ x ∈ frameL (putK c1), Byt.B x := LogC.frame_B (putK_B c1)
set_option maxRecDepth 100000 in
set_option maxHeartbeats 16000000 in
theorem awake (X : Four) (w : World) (hK : ShaE.KIn w) : Calls Tryz.prog 8 #[] w fun e w' => e = .returned (.bool true) ∧ RowKit.Below w.heap.size w w' := by
 have qp := fun W (K : ShaE.KIn W) => X.put none 0 0 [] 100 v1 W (Sl.nil W) rfl (by omega) (in1 W) fit1 K
 rw [show v1.c = c1 from rfl, put_one] at qp
 obtain ⟨F, hF⟩ : ∃ F, frameL (putK c1) = F := ⟨_, rfl⟩
 have hF13 : F.length = 13 := by rw [← hF]; exact frame_len
 have FB : ∀ x ∈ F, Byt.B x := by rw [← hF]; exact frame_B1
 have ql := fun W A cap (S : Sl W A cap F) (K : ShaE.KIn W) => X.load A cap 13 F W S hF13 (by omega) K
 have hl1 := load_one
 have hoc := open_cut
 rw [hF] at qp hl1 hoc
 rw [hl1] at ql
 have qn := fun W (K : ShaE.KIn W) => X.load none 0 0 [] W (Sl.nil W) rfl (by omega) K
 rw [load_nil] at qn
 have q0 := fun W A cap l (S : SlK W A cap l) => X.last A cap l 0 W S
 have q1 := fun W A cap l (S : SlK W A cap l) => X.last A cap l 1 W S
 have qo := fun W A cap b (S : Sl W A cap b) (h : b.length = 5) (K : ShaE.KIn W) => X.opn A cap 5 b W S h (by omega) K
 clear hF hl1 X
 go_enter Tryz.func8, Tryz.ntmps8
 go_wp2_with (first | go_skip)
 refine (some_ret _).mono ?_
 rintro e w1 ⟨rfl, k1⟩
 go_wp2_with (first | go_skip)
 refine (qp _ (hK.below k1)).mono ?_
 rintro e w2 ⟨v2, rfl, own2, k2⟩
 have b2 := k1.trans (k2.mono k1.size)
 simp only [] at own2
 obtain ⟨A2, c2, rfl, S2⟩ := Sl.own own2 FB
 clear qp own2 k1 k2
 simp only [hF13]
 go_wp2_with (first | go_skip)
 refine (ql _ _ _ S2 (hK.below b2)).mono ?_
 rintro e w3 ⟨A3, c3, ps, rfl, hps, S3, k3⟩
 have hl3 : ps.length = 1 := by rw [← coms_len, hps]; rfl
 have b3 := b2.trans (k3.mono b2.size)
 have T2 := S2.below k3
 simp only [hl3]
 clear ql k3 b2 S2
 go_wp2_with (first | go_skip)
 refine (qn _ (hK.below b3)).mono ?_
 rintro e w4 ⟨A4, c4, qs, rfl, hqs, _, k4⟩
 have hl4 : qs.length = 0 := by rw [← coms_len, hqs]; rfl
 have b4 := b3.trans (k4.mono b3.size)
 have S2 := T2.below k4
 have S4 := S3.below k4
 have r0 := q0 _ _ _ _ S4
 rw [hps, hl3, last_0] at r0
 simp only [hl4]
 clear qn k4 b3 T2 S3
 go_wp2_with (first | go_skip)
 refine r0.mono ?_
 rintro e w5 ⟨rfl, k5⟩
 have b5 := b4.trans (k5.mono b4.size)
 have T2 := S2.below k5
 have S5 := S4.below k5
 have r1 := q1 _ _ _ _ S5
 rw [hps, hl3, last_1] at r1
 clear r0 q0 k5 b4 S2 S4
 go_wp2_with (first | go_skip)
 refine r1.mono ?_
 rintro e w6 ⟨rfl, k6⟩
 have b6 := b5.trans (k6.mono b5.size)
 have S2 := T2.below k6
 have hc2 := S2.1
 rw [hF13] at hc2
 obtain ⟨A7, c7, hs7, S7, hl7⟩ := S2.part 0 5 (by omega) (by omega)
 have hr7 := fun W => run_part_h W A2 13 c2 .i64 5 (by omega)
 rw [hs7, show ((5 : Nat) : Int) = 5 from rfl, Nat.sub_zero] at hr7
 rw [List.drop_zero, Nat.sub_zero] at S7 hl7
 have r2 := qo _ _ _ _ S7 hl7 (hK.below b6)
 obtain ⟨O, hO⟩ : ∃ O, openD hashK (F.take 5) = O := ⟨_, rfl⟩
 rw [hO] at r2 hoc
 have p5 : (5 : Int) ≤ c2 := by omega
 clear r1 q1 k6 b5 T2 S5 hs7 hO S2 qo
 go_wp2_with (first | go_skip)
 refine r2.mono ?_
 rintro e w8 ⟨A8, c8, rfl, S8, k8, _⟩
 have b8 := b6.trans (k8.mono b6.size)
 simp only [hoc]
 go_wp2_with (first | go_skip)
 go_ret
 exact ⟨rfl, b8⟩
end Go.Proofs.YtgoapaanmcmlmaaGreatDoor.StoA
namespace Go.Proofs.YtgoapaanmcmlmaaGreatDoor.LogB
set_option maxRecDepth 100000
open Go Go.RowKit Byt
structure Pb where
 a : Option Addr
 k : Nat
 bs : List Int
def hd (v : Pb) : Value := .slice v.a v.bs.length v.k
def hds (l : List Pb) : List Value := l.map hd
theorem hds_len (l : List Pb) : (hds l).length = l.length := List.length_map ..
theorem hds_append (a b : List Pb) : hds (a ++ b) = hds a ++ hds b := List.map_append
theorem hds_at {l : List Pb} {i : Nat} {x : Pb} (h : l[i]? = some x) : (hds l)[i]? = some (hd x) := by
 unfold hds
 rw [List.getElem?_map, h]
 rfl
def tx (l : List Pb) : List (List Int) := l.map (·.bs)
theorem tx_len (l : List Pb) : (tx l).length = l.length := List.length_map ..
theorem tx_append (a b : List Pb) : tx (a ++ b) = tx a ++ tx b := List.map_append
theorem tx_at {l : List Pb} {i : Nat} {x : Pb} (h : l[i]? = some x) : (tx l)[i]? = some x.bs := by
 unfold tx
 rw [List.getElem?_map, h]
 rfl
structure SlB (w : World) (A : Option Addr) (cap : Nat) (l : List Pb) : Prop where
 room : l.length ≤ cap ∧ cap ≤ maxLen
 lies : (A = none ∧ l = [] ∧ cap = 0) ∨ ∃ x, A = some x ∧ ∀ i v, (hds l)[i]? = some v → w.cell? (x.add i) = some v
 each : ∀ v ∈ l, Sl w v.a v.k v.bs
theorem SlB.below {w w' : World} {A : Option Addr} {cap : Nat} {l : List Pb} (h : SlB w A cap l) (hb : Below w.heap.size w w') : SlB w' A cap l := by
 refine ⟨h.room, ?_, fun v hv => (h.each v hv).below hb⟩
 rcases h.lies with h5 | ⟨x, rfl, hc⟩
 · exact .inl h5
 · refine .inr ⟨x, rfl, fun i v hv => ?_⟩
   have hcell := hc i v hv
   exact (hb.cell (block_lt_of_cell hcell)).trans hcell
theorem SlB.plain {w : World} {A : Option Addr} {cap : Nat} {l : List Pb} (h : SlB w A cap l) (hp : 0 < l.length) :
   ∃ b off, A = some ⟨b, off, none⟩ ∧ b < w.heap.size ∧ ∀ i x, l[i]? = some x → w.cell? ⟨b, off + i, none⟩ = some (hd x) := by
 rcases h.lies with ⟨_, rfl, _⟩ | ⟨x, rfl, hc⟩
 · simp at hp
 · have h0 := hc 0 _ (hds_at (List.getElem?_eq_getElem hp))
   obtain ⟨b, off, spot⟩ := x
   have hspot : spot = none := by simpa [Addr.add] using World.cell?_spot h0
   subst hspot
   rw [Addr.add_lit] at h0
   refine ⟨b, off, rfl, block_lt_of_cell h0, fun i x hi => ?_⟩
   have := hc i _ (hds_at hi)
   rwa [Addr.add_lit] at this
theorem SlB.own {w : World} {base n : Nat} {v : Value} {l : List Pb} (h : w.ownsRow base 22 1 v n (hds l)) (he : ∀ v ∈ l, Sl w v.a v.k v.bs) : ∃ A cap, v = .slice A l.length cap ∧ SlB w A cap l := by
 have hn : l.length = n := by have := h.1; rw [hds_len] at this; omega
 rcases h.2 with ⟨rfl, rfl⟩ | ⟨g, cap, cur, rfl, hbg, hg, h1, h2, h3, h4⟩
 · have : l = [] := List.eq_nil_of_length_eq_zero hn
   subst this
   exact ⟨none, 0, rfl, ⟨Nat.le_refl _, Nat.zero_le _⟩, .inl ⟨rfl, rfl, rfl⟩, he⟩
 · refine ⟨some ⟨g, 0, none⟩, cap, by rw [hn], ⟨by omega, h2⟩, .inr ⟨_, rfl, fun i u hu => ?_⟩, he⟩
   exact h.cells rfl i u hu
theorem zero_ps : (Tryz.prog.info? 22).map (fun i => (i.zero, i.size, i.bytes)) = some (some (.slice none 0 0), 1, 24) := by kernel_rfl
theorem new1 (w : World) (x : Value) (t : TypeId) : ∀ j u, [x][j]? = some u → (w.alloc (.cells #[x] t)).cell? ((⟨w.heap.size, 0, none⟩ : Addr).add j) = some u := by
 intro j u hu
 cases j with
 | zero =>
   simp only [List.getElem?_cons_zero, Option.some.injEq] at hu
   subst hu
   rw [Addr.add_lit, Nat.zero_add, cell_of_row _ _ 0 _ t (0, 0) (heap_alloc_new w _)]
   rfl
 | succ j => simp at hu
theorem wpList_append_ps {w : World} {ops : Array Oper} {rest : List Oper} {o : Oper} {a : Act} {Q : Exit → Act → World → Prop} (hgd : o.guard = none) (s x : Operand)
   (ho : o.op = .call { callee := .builtin .append, args := #[s, x], argTypes := #[58, 58] })
   (base : Nat) (v : Value) (n : Nat) (xs : List Pb) (hs : a.eval s = v) (hown : w.ownsRow base 22 1 v n (hds xs))
   (ad : Addr) (y : Pb) (hx : a.eval x = .slice (some ad) 1 1) (hr : ∀ j u, [hd y][j]? = some u → w.cell? (ad.add j) = some u)
   (h63 : n ≤ 1099511627776) (hbase : base ≤ w.heap.size)
   (h : ∀ v' w', w'.ownsRow base 22 1 v' (n + 1) (hds (xs ++ [y])) → w.grownBy w' v.ownBlock → (v'.ownBlock = v.ownBlock ∨ v'.ownBlock = some w.heap.size) → wpList Tryz.prog ops Q rest (a.put o.dst v') w') : wpList Tryz.prog ops Q (o :: rest) a w := by
 obtain ⟨i, hi, z0, z1, z2⟩ := info_parts zero_ps
 exact wpList_append_own_at w hgd s x 58 ho base 22 i (.slice none 0 0) 1 24 Tryz.underlying58 hi z0 z1 z2 rfl (by decide) v n (hds xs) hs hown ad 1 1 [hd y] hx rfl hr (by intro u hu; simp at hu; subst hu; rfl) (by unfold maxLen; omega) (by omega) hbase
   (fun v' w' a1 a2 _ a4 => h v' w' (by rw [hds_append]; exact a1) a2 a4)
theorem sl_other {w w' : World} {A : Option Addr} {cap : Nat} {l : List Int} {g : Option Nat} (S : Sl w A cap l) (hg : w.grownBy w' g) (hf : ∀ b off sp, A = some ⟨b, off, sp⟩ → g ≠ some b) : Sl w' A cap l := by
 obtain ⟨h1, h2, h3, h5⟩ := S
 rcases h5 with ⟨rfl, rfl, rfl⟩ | ⟨x, rfl, hc⟩
 · exact ⟨h1, h2, h3, .inl ⟨rfl, rfl, rfl⟩⟩
 · refine ⟨h1, h2, h3, .inr ⟨x, rfl, fun i hi => ?_⟩⟩
   have hcell := hc i hi
   have hlt := block_lt_of_cell hcell
   have hne : some (x.add i).block ≠ g := fun e => hf x.block x.off x.spot (by cases x; rfl) (by rw [← e, RowIn.block_add])
   unfold World.cell? at hcell ⊢
   rw [hg.block _ hlt hne]
   exact hcell
structure Held (w : World) (v : Value) (ps : List Pb) : Prop where
 each : ∀ p ∈ ps, Sl w p.a p.k p.bs
 far : ∀ p ∈ ps, ∀ b off sp, p.a = some ⟨b, off, sp⟩ → v.ownBlock ≠ some b ∧ b < w.heap.size
theorem Held.nil (w : World) (v : Value) : Held w v [] := ⟨fun u h => by simp at h, fun u h => by simp at h⟩
theorem Held.below {w w' : World} {v : Value} {ps : List Pb} (h : Held w v ps) (hb : Below w.heap.size w w') : Held w' v ps :=
 ⟨fun p hp => (h.each p hp).below hb, fun p hp b off sp e => ⟨(h.far p hp b off sp e).1, Nat.lt_of_lt_of_le (h.far p hp b off sp e).2 hb.size⟩⟩
theorem Held.snoc {w : World} {v : Value} {ps : List Pb} {p : Pb} (h : Held w v ps) (hi : Sl w p.a p.k p.bs) (hr : ∀ b off sp, p.a = some ⟨b, off, sp⟩ → v.ownBlock ≠ some b ∧ b < w.heap.size) : Held w v (ps ++ [p]) := by
 refine ⟨fun x hx => ?_, fun x hx => ?_⟩
 · rcases List.mem_append.1 hx with hx | hx
   · exact h.each x hx
   · rw [List.mem_singleton.1 hx]; exact hi
 · rcases List.mem_append.1 hx with hx | hx
   · exact h.far x hx
   · rw [List.mem_singleton.1 hx]; exact hr
theorem Held.grown {w w' : World} {v v' : Value} {ps : List Pb} (h : Held w v ps) (hg : w.grownBy w' v.ownBlock) (hv : v'.ownBlock = v.ownBlock ∨ v'.ownBlock = some w.heap.size) : Held w' v' ps := by
 refine ⟨fun p hp => sl_other (h.each p hp) hg (fun b off sp e => (h.far p hp b off sp e).1), fun p hp b off sp e => ?_⟩
 obtain ⟨h1, h2⟩ := h.far p hp b off sp e
 refine ⟨?_, Nat.lt_of_lt_of_le h2 hg.size⟩
 rcases hv with hv | hv
 · rw [hv]; exact h1
 · rw [hv]
   intro e2
   injection e2 with e2
   omega
theorem SlB.held {w : World} {base n : Nat} {v : Value} {l : List Pb} (h : w.ownsRow base 22 1 v n (hds l)) (he : Held w v l) : ∃ A cap, v = .slice A l.length cap ∧ SlB w A cap l := SlB.own h he.each
def Recs (l : List (List Int)) (n : Nat) (w : World) (e : Ending) (w' : World) : Prop :=
 ∃ A cap ps, e = .returned (.tuple #[.slice A (List.length ps) cap, .int .i64 n]) ∧ tx ps = l ∧ SlB w' A cap ps ∧ Below w.heap.size w w'
end Go.Proofs.YtgoapaanmcmlmaaGreatDoor.LogB
namespace Go.Proofs.YtgoapaanmcmlmaaGreatDoor.GrowL
set_option maxRecDepth 100000
open Go Go.Sort Go.RowKit
section
variable {P : Program} {ops : Array Oper} {Q : Exit → Act → World → Prop} {md : Region.Mode}
def ahead (md : Region.Mode) (ops : Array Oper) (i : Nat) : Nat → Nat → Bool
 | 0, _ => false
 | fuel + 1, j => match ops[j]? with
   | none => false
   | some o => o.after.toList.any fun e => Region.binds md e && (e.on == i || ahead md ops i fuel e.on)
def Shut (md : Region.Mode) (ops : Array Oper) (listed : Array Bool) : Prop :=
 ∀ j o, ops[j]? = some o → listed.getD j false = true → ∀ e ∈ o.after, Region.binds md e = true → listed.getD e.on false = true
theorem Shut.none (n : Nat) : Shut md ops (Array.replicate n false) := fun j o _ hl => by
 by_cases h : j < n
 · simp [h] at hl
 · simp [h] at hl
theorem Shut.set {i : Nat} {listed : Array Bool} (h : Shut md ops listed) (hi : i ∈ Region.ready md ops listed) : Shut md ops (listed.setIfInBounds i true) := by
 intro j o ho hl e he hb
 refine getD_set_true ?_
 by_cases hij : i = j
 · subst hij
   obtain ⟨_, o', ho', hall⟩ := mem_ready.1 hi
   obtain rfl : o = o' := Option.some.inj (ho.symm.trans ho')
   exact hall e he hb
 · rw [getD_set_ne false hij] at hl
   exact h j o ho hl e he hb
theorem ahead_listed {i : Nat} {listed : Array Bool} (hS : Shut md ops listed) : ∀ (fuel j : Nat), ahead md ops i fuel j = true → (listed.getD j false = true ∨ j ∈ Region.ready md ops listed) → listed.getD i false = true
 | 0, _, h, _ => by simp [ahead] at h
 | fuel + 1, j, h, hj => by
   unfold ahead at h
   cases ho : ops[j]? with
   | none => rw [ho] at h; cases h
   | some o =>
     rw [ho] at h
     simp only [List.any_eq_true, Bool.and_eq_true, Bool.or_eq_true, beq_iff_eq] at h
     obtain ⟨e, he, hb, h⟩ := h
     have he : e ∈ o.after := Array.mem_toList_iff.1 he
     have hl : listed.getD e.on false = true := by
       rcases hj with hj | hj
       · exact hS j o ho hj e he hb
       · obtain ⟨_, o', ho', hall⟩ := mem_ready.1 hj
         obtain rfl : o = o' := Option.some.inj (ho.symm.trans ho')
         exact hall e he hb
     rcases h with h | h
     · rw [← h]; exact hl
     · exact ahead_listed hS fuel e.on h (.inl hl)
theorem not_both {i : Nat} {listed : Array Bool} (h1 : listed.getD i true = false) (h2 : listed.getD i false = true) : False := by
 by_cases hlt : i < listed.size
 · simp [hlt] at h1 h2
   rw [h1] at h2
   cases h2
 · simp [Array.getElem?_eq_none (Nat.le_of_not_lt hlt)] at h2
def M (L : Nat) (P : Program) (md : Region.Mode) (ops : Array Oper) (Q : Exit → Act → World → Prop) : Nat → Array Bool → Act → World → Prop
 | 0, listed, a, w => Region.ready md ops listed = [] ∧ Q .normal a w
 | fuel + 1, listed, a, w => (Region.ready md ops listed = [] → Q .normal a w) ∧
   ∀ i ∈ Region.ready md ops listed, wpOp P ops Q i (fun a' w' => (i ≠ L → Below w.heap.size w w') ∧ M L P md ops Q fuel (listed.setIfInBounds i true) a' w') a w
theorem M.any {L : Nat} : ∀ (fuel : Nat) (listed : Array Bool) (a : Act) (w : World), M L P md ops Q fuel listed a w → wpAny P md ops Q fuel listed a w
 | 0, _, _, _, h => h
 | fuel + 1, _, _, _, h => ⟨h.1, fun i hi => wpOp_mono (fun a' w' h' => M.any fuel _ a' w' h'.2) (h.2 i hi)⟩
theorem M.first {L i : Nat} {oi : Oper} {v : Value} (hi : ops[i]? = some oi) (hs : Region.noSelect ops = true) {af : Nat} (hA : ahead md ops i af L = true)
   (hQ : ∀ c a w, Q (.panic c) (a.put oi.dst v) w → Q (.panic c) a w) (fuel : Nat) :
   ∀ (listed : Array Bool) (a : Act) (w : World), Shut md ops listed →
     (∀ j oj, ops[j]? = some oj → j ≠ i → listed.getD j true = false → (∀ e ∈ oj.after, Region.binds md e = true → e.on ≠ i) → oi.apart ops oj = true) →
     i ∈ Region.ready md ops listed → YieldsIf P ops (Below w.heap.size w) oi v a →
     M L P md ops Q fuel (listed.setIfInBounds i true) (a.put oi.dst v) w → M L P md ops Q (fuel + 1) listed a w := by
 have sel := fun (j : Nat) (o : Oper) (cs : Array SelectCase) (b : Bool) (h : ops[j]? = some o) => Region.noSelect_spec hs j o cs b h
 induction fuel with
 | zero =>
   intro listed a w _ _ hr hy H
   refine ⟨fun h0 => absurd hr (by rw [h0]; simp), fun j hj => ?_⟩
   by_cases e : j = i
   · subst e
     exact hy.wpOp hi (Below.refl _ _) ⟨fun _ => Below.refl _ _, H⟩
   · exact absurd (ready_mono hj e) (by rw [H.1]; simp)
 | succ fuel ih =>
   intro listed a w hS hf hr hy H
   refine ⟨fun h0 => absurd hr (by rw [h0]; simp), fun j hj => ?_⟩
   by_cases e : j = i
   · subst e
     exact hy.wpOp hi (Below.refl _ _) ⟨fun _ => Below.refl _ _, H⟩
   · have hjL : j ≠ L := by
       rintro rfl
       exact not_both (mem_ready.1 hr).1 (ahead_listed hS af j hA (.inr hj))
     have hstep := H.2 j (ready_mono hj e)
     obtain ⟨hun, oj, hoj, hall⟩ := mem_ready.1 hj
     have hno : ∀ x ∈ oj.after, Region.binds md x = true → x.on ≠ i := by
       intro x hx hb hxi
       have p1 := hall x hx hb
       rw [hxi] at p1
       exact not_both (mem_ready.1 hr).1 p1
     refine wpOp_mono (fun a' w' h3 => ⟨h3.2.1, ?_⟩) (wpOp_putIf hoj (hf j oj hoj e hun hno) (fun cs b => sel i oi cs b hi) (fun cs b => sel j oj cs b hoj) hQ hy hstep)
     obtain ⟨y1, y2, y3⟩ := h3
     refine ih (listed.setIfInBounds j true) a' w' (hS.set hj) (fun k ok hk hki hku hkn => hf k ok hk hki ?_ hkn) (ready_mono hr (fun h => e h.symm)) (Grow.later y1 (y2 hjL)) ?_
     · by_cases ejk : j = k
       · subst ejk; exact hun
       · rwa [getD_set_ne true ejk] at hku
     · rw [Array.setIfInBounds_comm _ _ e]
       exact y3
def plain (o : Oper) : Bool := match o.op with
 | .nilCheck _ => true
 | _ => Grow.plain o
def orderB (L : Nat) (md : Region.Mode) (ops : Array Oper) : List (Nat × Bool) → Array Bool → Bool
 | [], listed => (Region.ready md ops listed).isEmpty
 | (i, true) :: r, listed => ((Region.ready md ops listed).contains i && Region.free md ops listed i && ((ops[i]?).map plain).getD false && ahead md ops i ops.size L) && orderB L md ops r (listed.setIfInBounds i true)
 | (i, false) :: r, listed => Region.ready md ops listed == [i] && orderB L md ops r (listed.setIfInBounds i true)
def Seq (L : Nat) (P : Program) (ops : Array Oper) (Q : Exit → Act → World → Prop) : List (Nat × Bool) → Act → World → Prop
 | [], a, w => Q .normal a w
 | (i, true) :: r, a, w => ∃ o, ops[i]? = some o ∧ ∃ v, YieldsIf P ops (Below w.heap.size w) o v a ∧ Seq L P ops Q r (a.put o.dst v) w
 | (i, false) :: r, a, w => Forks.One P ops Q i (fun a' w' => Below w.heap.size w w' ∧ Seq L P ops Q r a' w') a w ∨ (i = L ∧ Forks.One P ops Q i (fun a' w' => Seq L P ops Q r a' w') a w)
theorem seq_M {L : Nat} (hs : Region.noSelect ops = true) (hQ : ∀ c a d v w, Q (.panic c) (a.put d v) w → Q (.panic c) a w) : ∀ (l : List (Nat × Bool)) (listed : Array Bool) (a : Act) (w : World), Shut md ops listed →
   orderB L md ops l listed = true → Seq L P ops Q l a w → M L P md ops Q l.length listed a w
 | [], listed, a, w, _, hB, h => ⟨by simpa [orderB] using hB, h⟩
 | (i, true) :: r, listed, a, w, hS, hB, ⟨o, ho, v, hy, h⟩ => by
   simp only [orderB, Bool.and_eq_true] at hB
   obtain ⟨⟨⟨⟨h1, h2⟩, _⟩, h3⟩, h4⟩ := hB
   have hr : i ∈ Region.ready md ops listed := by simpa using h1
   exact M.first ho hs h3 (fun c a w => hQ c a o.dst v w) r.length listed a w hS (Region.free_spec ho h2) hr hy (seq_M hs hQ r _ _ _ (hS.set hr) h4 h)
 | (i, false) :: r, listed, a, w, hS, hB, h => by
   simp only [orderB, Bool.and_eq_true, beq_iff_eq] at hB
   obtain ⟨h1, h4⟩ := hB
   have hS' : Shut md ops (listed.setIfInBounds i true) := hS.set (by rw [h1]; simp)
   refine ⟨fun h0 => (by rw [h1] at h0; cases h0), fun j hj => ?_⟩
   rw [h1] at hj
   obtain rfl : j = i := by simpa using hj
   rcases h with h | ⟨e, h⟩
   · exact h.op (fun a' w' hh => ⟨fun _ => hh.1, seq_M hs hQ r _ _ _ hS' h4 hh.2⟩)
   · exact h.op (fun a' w' hh => ⟨fun hne => absurd e hne, seq_M hs hQ r _ _ _ hS' h4 hh⟩)
theorem region (L : Nat) {id : Nat} {a : Act} {w : World} {l : List Oper} (order : List (Nat × Bool)) (hm : P.follows .mixedOrders = true) (hs : Region.noSelect l.toArray = true)
   (hl : order.length = l.toArray.size) (hB : orderB L .any l.toArray order (Array.replicate l.toArray.size false) = true) (hQ : ∀ c a d v w, Q (.panic c) (a.put d v) w → Q (.panic c) a w)
   (h : Seq L P l.toArray Q order a w.drew) : (Code.region id l.toArray true).wp P Q a w := by
 refine wp_region_any hm (M.any (L := L) _ _ _ _ ?_)
 have := seq_M (md := .any) hs hQ order (Array.replicate l.toArray.size false) a w.drew (Shut.none _) hB h
 rw [hl] at this
 exact this
theorem reads {L : Nat} {l : List Oper} {i : Nat} {o : Oper} {r : List (Nat × Bool)} {a : Act} {w : World} (hn : Grow.nth l i = some o) (hp : Grow.plain o = true)
   (h : wpQuiet P l.toArray (fun w' => ∃ p : Regrown, w' = grow (redrawn w p.d) p.os) (fun a' => Seq L P l.toArray Q r a' w) [o] a) : Seq L P l.toArray Q ((i, true) :: r) a w := by
 have ho := (Grow.nth_at l i).trans hn
 unfold wpQuiet at h
 split at h
 · rename_i hw
   obtain ⟨v, h1, h2⟩ := h
   refine ⟨o, ho, v, .inl ⟨hw, fun u hu => ?_⟩, h2⟩
   have q := h1 u (regrown_of_below hu)
   unfold Oper.quietAt at q
   cases hx : (execOp a.eval o).run P u with
   | ok n u' =>
     obtain ⟨x, rfl⟩ := Grow.plain_value hp hx
     rw [hx] at q
     obtain ⟨rfl, rfl⟩ := q
     rfl
   | halt x u' => rw [hx] at q; exact q.elim
 · rename_i hw
   exact ⟨o, ho, undef, .inr ⟨by simpa using hw, rfl⟩, h⟩
def On (L : Nat) (P : Program) (ops : Array Oper) (Q : Exit → Act → World → Prop) (r : List (Nat × Bool)) (w : World) (a' : Act) (w' : World) : Prop := Below w.heap.size w w' ∧ Seq L P ops Q r a' w'
theorem acts {L : Nat} {l : List Oper} {i : Nat} {o : Oper} {r : List (Nat × Bool)} {a : Act} {w : World} (hn : Grow.nth l i = some o)
   (h : wpList P l.toArray (Exit.then (On L P l.toArray Q r w) Q) [o] a w) : Seq L P l.toArray Q ((i, false) :: r) a w :=
 .inl ⟨o, (Grow.nth_at l i).trans hn, h⟩
def Done (Q : Exit → Act → World → Prop) (a' : Act) (w' : World) : Prop := Q .normal a' w'
theorem last {L : Nat} {l : List Oper} {o : Oper} {a : Act} {w : World} (hn : Grow.nth l L = some o)
   (h : wpList P l.toArray (Exit.then (Done Q) Q) [o] a w) : Seq L P l.toArray Q [(L, false)] a w :=
 .inr ⟨rfl, o, (Grow.nth_at l L).trans hn, h⟩
theorem done {a : Act} {w : World} (h : Q .normal a w) : Done Q a w := h
end
end Go.Proofs.YtgoapaanmcmlmaaGreatDoor.GrowL
namespace Go.Proofs.YtgoapaanmcmlmaaGreatDoor.StoG
set_option maxRecDepth 100000
open Go Go.Sort Go.RowKit Byt IdM IdW OpsM OpsW CmM StW CmW CmX CmY DgM DgW DgF DgS
open Classical
structure Dag1 : Prop where
 closed : ∀ (A : Option Addr) (cap : Nat) (l : List Cv) (w : World), SlK w A cap l → l.length ≤ 1000 → ShaE.KIn w → Calls Tryz.prog 20 #[.slice A l.length cap] w fun e w' => e = .returned (.bool (decide (Closed hashK (coms l)))) ∧ Below w.heap.size w w'
structure Dag2 : Prop where
 closed : ∀ (A : Option Addr) (cap : Nat) (l : List Cv) (w : World), SlK w A cap l → l.length ≤ 1000 → ShaE.KIn w → Calls Tryz.prog 20 #[.slice A l.length cap] w fun e w' => e = .returned (.bool (decide (Closed hashK (coms l)))) ∧ Below w.heap.size w w'
 sorted : ∀ (A : Option Addr) (cap : Nat) (l : List Cv) (w : World), SlK w A cap l → l.length ≤ 1000 → ShaE.KIn w → Calls Tryz.prog 21 #[.slice A l.length cap] w fun e w' => ∃ m, IsSorted (coms l) m ∧ NewC m w e w'
end Go.Proofs.YtgoapaanmcmlmaaGreatDoor.StoG
