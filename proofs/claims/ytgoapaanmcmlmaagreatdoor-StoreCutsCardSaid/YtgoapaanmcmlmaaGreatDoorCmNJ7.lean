/- What the document's Get of package commit answers, in the form in which both are told. No condition. | What the listed variable gives a walk: the table of constants, cell by cell; and a world that meets the condition. | Slices of ints in memory: owned, read, appended to. No condition. | What the laws' own disk of commits is, and where each of them ends: a contract, where package store's Put answers as the document does. No condition but sizes. | The chapter's own example: 'awake' of the laws of package dag returns true, where the six functions answer as the document does. No condition. | DagSorted returns true for every input: closed commits, sorted, are the same from any order of theirs, they are all of them, and each beginning of them is closed. No condition. | StoreCuts' walk: of a disk that is cut, the commits that were whole are loaded. No condition. -/
import Derived.Test.YtgoapaanmcmlmaaGreatDoorCmRJ8
import Derived.Test.YtgoapaanmcmlmaaGreatDoorCmG
import Derived.Test.YtgoapaanmcmlmaaGreatDoorShaDJ4
import Derived.Test.YtgoapaanmcmlmaaGreatDoorRows
import Derived.ProofKit
import Derived.LaidMore
import Derived.OpenShut
import Derived.Stop.Joined
import Derived.Test.YtgoapaanmcmlmaaGreatDoorRowInJ3
import Derived.Maps.AppendAt
import Derived.Test.YtgoapaanmcmlmaaGreatDoorIdXJ9
import Derived.Test.YtgoapaanmcmlmaaGreatDoorStoBJ4
import Derived.Test.YtgoapaanmcmlmaaGreatDoorStoLJ3
namespace Go.Proofs.YtgoapaanmcmlmaaGreatDoor.CmY
set_option maxRecDepth 100000
open Go Go.Sort Go.RowKit Byt IdM IdW OpsM OpsW CmM StW CmW
theorem get_doc (A : Option Addr) (cap : Nat) (bs : List Int) (w : World) (S : Sl w A cap bs) (hl : bs.length ≤ 1099511627776) :
   Calls Tryz.prog 32 #[.slice A bs.length cap] w (GetAll (getK bs) w) := by
 refine (CmG.get_ret A cap bs w S hl).mono ?_
 rintro e w' ⟨k, h⟩
 cases hq : getK bs with
 | none =>
   rw [hq] at h
   exact ⟨noV, none, 0, h, rfl, In.none w', Sl.nil w', k⟩
 | some p =>
   obtain ⟨c, r⟩ := p
   rw [hq] at h
   obtain ⟨v, A', c', h1, h2, h3, h4⟩ := h
   exact ⟨v, A', c', h1, h2, h3, h4, k⟩
end Go.Proofs.YtgoapaanmcmlmaaGreatDoor.CmY
namespace Go.Proofs.YtgoapaanmcmlmaaGreatDoor.ShaL
set_option maxRecDepth 100000
open Go.ChangeShapes Go.WideShapes Go.ChangeAt Go.RowKit RotM ShaM ShaE
abbrev laid1 : List (String × DataW Unit) := [("anabranch/sha.constants", Rows.laid_anabranch_sha_constants)]
theorem gK : Tryz.prog.globalNamed "anabranch/sha.constants" = some 0 := by kernel_rfl
theorem tK : (Tryz.prog.globals[0]?).map (·.type) = some 153 := by kernel_rfl
theorem cells_u32 : Tryz.prog.cellsOf 134 = 1 := by kernel_rfl
theorem datum : (Rows.laid_anabranch_sha_constants : DataW Unit) = .agg ((List.range 64).map fun i => .lit (.int .u32 (u (kc i)))) := by kernel_rfl
theorem door_met (os : Os) (args : Array Value) : laidMetH Tryz.prog laid1 ((World.doorLaid Tryz.prog 14 os).forCall (fun _ _ => 0) ⟨#[], args, []⟩).memory :=
 laidMetH_of_parts3 (fuel := 8) (laidMet_of_run' 8 (by kernel_rfl) (by kernel_rfl)) (by kernel_rfl) (by kernel_rfl)
theorem of_laid {W : World} (h : laidMetH Tryz.prog laid1 W) : KIn W := by
 rw [MakeChecks.laidMetH_plain _ _ _ (by kernel_rfl)] at h
 obtain ⟨ps, ⟨g0, t0, cs0, f0, p0, q0, hg0, ht0, hv0, hd0, _⟩, _, _⟩ := h
 obtain rfl := Option.some.inj (gK.symm.trans hg0)
 obtain rfl := Option.some.inj (tK.symm.trans ht0)
 obtain ⟨xs, m, _, hx, hlen, hn, hel⟩ := DataW.trod_array Tryz.underlying153 hd0
 intro i hi
 have hc := World.var?_cell hg0 hv0 i
 have he := hel i hi
 rw [datum] at hx
 simp only [Prod.mk.injEq, DataW.agg.injEq] at hx
 obtain ⟨hx, _⟩ := hx
 have hxi := congrArg (fun l => l[i]?) hx
 have hlt : i < xs.length := by omega
 simp only [List.getElem?_map, List.getElem?_range hi, Option.map_some, List.getElem?_eq_getElem hlt, Option.some.injEq] at hxi
 rw [List.getElem?_eq_getElem hlt] at he
 obtain ⟨n, e1, e2, _⟩ := DataW.trod_int Tryz.underlying134 he
 rw [e2] at hxi
 simp only [DataW.lit.injEq, Lit.int.injEq, true_and] at hxi
 subst hxi
 rw [hc]
 rw [cells_u32, Nat.mul_one] at e1
 have e3 := congrArg (fun l => l[0]?) e1
 simpa using e3
end Go.Proofs.YtgoapaanmcmlmaaGreatDoor.ShaL
namespace Go.Proofs.YtgoapaanmcmlmaaGreatDoor.IntS
set_option maxRecDepth 100000
open Go Go.RowKit Byt
def iv (l : List Int) : List Value := l.map (Value.int .i64)
theorem iv_len (l : List Int) : (iv l).length = l.length := List.length_map ..
theorem iv_append (a b : List Int) : iv (a ++ b) = iv a ++ iv b := List.map_append
theorem iv_at {l : List Int} {i : Nat} {x : Int} (h : l[i]? = some x) : (iv l)[i]? = some (.int .i64 x) := by
 unfold iv
 rw [List.getElem?_map, h]
 rfl
structure SlN (w : World) (A : Option Addr) (cap : Nat) (l : List Int) : Prop where
 room : l.length ≤ cap ∧ cap ≤ maxLen
 lies : (A = none ∧ l = [] ∧ cap = 0) ∨ ∃ x, A = some x ∧ ∀ i v, (iv l)[i]? = some v → w.cell? (x.add i) = some v
theorem SlN.nil (w : World) : SlN w none 0 [] := ⟨⟨Nat.le_refl _, Nat.zero_le _⟩, .inl ⟨rfl, rfl, rfl⟩⟩
theorem SlN.below {w w' : World} {A : Option Addr} {cap : Nat} {l : List Int} (h : SlN w A cap l) (hb : Below w.heap.size w w') : SlN w' A cap l := by
 refine ⟨h.room, ?_⟩
 rcases h.lies with h5 | ⟨x, rfl, hc⟩
 · exact .inl h5
 · refine .inr ⟨x, rfl, fun i v hv => ?_⟩
   have hcell := hc i v hv
   exact (hb.cell (block_lt_of_cell hcell)).trans hcell
theorem SlN.plain {w : World} {A : Option Addr} {cap : Nat} {l : List Int} (h : SlN w A cap l) (hp : 0 < l.length) :
   ∃ b off, A = some ⟨b, off, none⟩ ∧ b < w.heap.size ∧ ∀ i x, l[i]? = some x → w.cell? ⟨b, off + i, none⟩ = some (.int .i64 x) := by
 rcases h.lies with ⟨_, rfl, _⟩ | ⟨x, rfl, hc⟩
 · simp at hp
 · have h0 := hc 0 _ (iv_at (List.getElem?_eq_getElem hp))
   obtain ⟨b, off, spot⟩ := x
   have hspot : spot = none := by simpa [Addr.add] using World.cell?_spot h0
   subst hspot
   rw [Addr.add_lit] at h0
   refine ⟨b, off, rfl, block_lt_of_cell h0, fun i x hi => ?_⟩
   have := hc i _ (iv_at hi)
   rwa [Addr.add_lit] at this
theorem SlN.own {w : World} {base n : Nat} {v : Value} {l : List Int} (h : w.ownsRow base 3 1 v n (iv l)) : ∃ A cap, v = .slice A l.length cap ∧ SlN w A cap l := by
 have hn : l.length = n := by have := h.1; rw [iv_len] at this; omega
 rcases h.2 with ⟨rfl, rfl⟩ | ⟨g, cap, cur, rfl, hbg, hg, h1, h2, h3, h4⟩
 · have : l = [] := List.eq_nil_of_length_eq_zero hn
   subst this
   exact ⟨none, 0, rfl, SlN.nil w⟩
 · refine ⟨some ⟨g, 0, none⟩, cap, by rw [hn], ⟨by omega, h2⟩, .inr ⟨_, rfl, fun i u hu => ?_⟩⟩
   exact h.cells rfl i u hu
theorem zero_int : (Tryz.prog.info? 3).map (fun i => (i.zero, i.size, i.bytes)) = some (some (.int .i64 0), 1, 8) := by kernel_rfl
theorem new1 (w : World) (x : Value) (t : TypeId) : ∀ j u, [x][j]? = some u → (w.alloc (.cells #[x] t)).cell? ((⟨w.heap.size, 0, none⟩ : Addr).add j) = some u := by
 intro j u hu
 cases j with
 | zero =>
   simp only [List.getElem?_cons_zero, Option.some.injEq] at hu
   subst hu
   rw [Addr.add_lit, Nat.zero_add, cell_of_row _ _ 0 _ t (0, 0) (heap_alloc_new w _)]
   rfl
 | succ j => simp at hu
theorem wpList_append_int {w : World} {ops : Array Oper} {rest : List Oper} {o : Oper} {a : Act} {Q : Exit → Act → World → Prop} (hgd : o.guard = none) (s x : Operand)
   (ho : o.op = .call { callee := .builtin .append, args := #[s, x], argTypes := #[45, 45] })
   (base : Nat) (v : Value) (n : Nat) (xs : List Int) (hs : a.eval s = v) (hown : w.ownsRow base 3 1 v n (iv xs))
   (ad : Addr) (y : Int) (hx : a.eval x = .slice (some ad) 1 1) (hr : ∀ j u, [Value.int .i64 y][j]? = some u → w.cell? (ad.add j) = some u)
   (h63 : n ≤ 1099511627776) (hbase : base ≤ w.heap.size)
   (h : ∀ v' w', w'.ownsRow base 3 1 v' (n + 1) (iv (xs ++ [y])) → w.grownBy w' v.ownBlock → (v'.ownBlock = v.ownBlock ∨ v'.ownBlock = some w.heap.size) → wpList Tryz.prog ops Q rest (a.put o.dst v') w') : wpList Tryz.prog ops Q (o :: rest) a w := by
 obtain ⟨i, hi, z0, z1, z2⟩ := info_parts zero_int
 exact wpList_append_own_at w hgd s x 45 ho base 3 i (.int .i64 0) 1 8 Tryz.underlying45 hi z0 z1 z2 rfl (by decide) v n (iv xs) hs hown ad 1 1 [.int .i64 y] hx rfl hr (by intro u hu; simp at hu; subst hu; rfl) (by unfold maxLen; omega) (by omega) hbase
   (fun v' w' a1 a2 _ a4 => h v' w' (by rw [iv_append]; exact a1) a2 a4)
end Go.Proofs.YtgoapaanmcmlmaaGreatDoor.IntS
namespace Go.Proofs.YtgoapaanmcmlmaaGreatDoor.StoD
set_option maxRecDepth 100000
open Go Go.Sort Go.RowKit Byt IdM IdW OpsM OpsW CmM StW CmW CmX CmY CmA DgM DgW DgJ StoM StoW StoF LogM LogD LogE LogW EncM IntS
open Classical
def endsL (l : List Com) : List Int := (List.range l.length).map fun i => ((diskK (l.take (i + 1))).length : Int)
theorem endsL_len (l : List Com) : (endsL l).length = l.length := by simp [endsL]
theorem endsL_at {l : List Com} {i : Nat} (h : i < l.length) : (endsL l)[i]? = some ((diskK (l.take (i + 1))).length : Int) := by
 unfold endsL
 rw [List.getElem?_map, List.getElem?_range h]
 rfl
theorem endsL_next {l : List Com} {k : Nat} (h : k < l.length) : (endsL l).take (k + 1) = (endsL l).take k ++ [((diskK (l.take (k + 1))).length : Int)] := by
 rw [List.take_add_one, endsL_at h]
 rfl
theorem disk_next {l : List Com} {k : Nat} {c : Com} (h : l[k]? = some c) : diskK (l.take (k + 1)) = diskK (l.take k) ++ frameL (putK c) := by
 unfold diskK
 rw [List.take_add_one, h, List.map_append, catL_append]
 simp [catL]
theorem put_room {b : List Int} {c : Com} (hb : b.length ≤ 100000) (h : mayK c = true) : putO b c 1048576 = (b ++ frameL (putK c), 0) := by
 have h1 := putK_len h
 have h2 := frameL_len (putK c)
 have h3 := numL_ten (n := (putK c).length) (by omega)
 unfold putO writeO
 rw [if_pos h, if_neg (by omega), if_neg (by omega)]
theorem disk_B {l : List Com} : ∀ x ∈ diskK l, Byt.B x := by
 intro x hx
 obtain ⟨r, hr, hx⟩ := List.mem_flatMap.1 hx
 obtain ⟨c, _, rfl⟩ := List.mem_map.1 hr
 exact LogC.frame_B (putK_B c) x hx
def DiskOut (l : List Com) (w : World) (e : Ending) (w' : World) : Prop :=
 ∃ vb ve, e = .returned (.tuple #[vb, ve, .bool true]) ∧ w'.ownsRow w.heap.size 5 1 vb (diskK l).length (Byt.bv (diskK l)) ∧ w'.ownsRow w.heap.size 3 1 ve l.length (iv (endsL l)) ∧ (∀ g, vb.ownBlock = some g → ve.ownBlock ≠ some g) ∧ RowKit.Below w.heap.size w w'
def intOf : Value → Int | .int _ q => q | _ => 0
set_option maxRecDepth 100000 in
set_option maxHeartbeats 16000000 in
theorem disk_ret (X : Four) (A : Option Addr) (cap : Nat) (ps : List Cv) (w : World) (S : SlK w A cap ps) (hmay : ∀ c ∈ coms ps, mayK c = true) (h8 : ps.length ≤ 12) (hK : ShaE.KIn w) :
   Calls Tryz.prog 22 #[.slice A ps.length cap] w (DiskOut (coms ps) w) := by
 have HM := aside hmay
 clear hmay
 go_enter Tryz.func22, Tryz.ntmps22
 go_wp2_with (first | go_skip)
 go_loopw [5, 6, 7] (fun vb ve i wr => ∃ k : Nat, k ≤ ps.length ∧ i = .int .i64 k ∧ Hid (wr.ownsRow w.heap.size 5 1 vb (diskK ((coms ps).take k)).length (Byt.bv (diskK ((coms ps).take k)))) ∧ Hid (wr.ownsRow w.heap.size 3 1 ve k (iv ((endsL (coms ps)).take k))) ∧ Hid (∀ g, vb.ownBlock = some g → ve.ownBlock ≠ some g) ∧ RowKit.Below w.heap.size w wr) (fun _ _ i _ => ps.length - (intOf i).toNat)
 case atStart => exact ⟨0, Nat.zero_le _, rfl, aside ⟨rfl, .inl ⟨rfl, rfl⟩⟩, aside ⟨rfl, .inl ⟨rfl, rfl⟩⟩, aside (fun g h => by cases h), Below.refl _ _⟩
 case round =>
   rename World => wr
   obtain ⟨k, hk, rfl, HO, HE, HN, kb⟩ := hrel
   by_cases hlt : k < ps.length
   · obtain ⟨b, off, rfl, hbw, hrg⟩ := S.plain (by omega)
     obtain ⟨x, hx⟩ : ∃ x, ps[k]? = some x := ⟨_, List.getElem?_eq_getElem hlt⟩
     have rx := range_on (hrg k x hx) kb
     have IX := (S.each x (List.mem_of_getElem? hx)).1.below kb
     have FX := (S.each x (List.mem_of_getElem? hx)).2
     have hcx := coms_at hx
     have hmx := HM.out x.c (List.mem_of_getElem? hcx)
     have hnx := disk_next hcx
     have hln : ((coms ps).take k).length ≤ k := by rw [List.length_take]; omega
     have hdl := diskK_len (l := (coms ps).take k) (fun c hc => HM.out c (List.mem_of_mem_take hc))
     have hen := endsL_next (l := coms ps) (k := k) (by rw [coms_len]; exact hlt)
     obtain ⟨Bk, hBk⟩ : ∃ Bk, diskK ((coms ps).take k) = Bk := ⟨_, rfl⟩
     rw [hBk] at HO hnx hdl
     have hroom := put_room (b := Bk) (by omega) hmx
     rw [← hnx] at hroom
     obtain ⟨Bn, hBn⟩ : ∃ Bn, diskK ((coms ps).take (k + 1)) = Bn := ⟨_, rfl⟩
     have hBnB : ∀ y ∈ Bn, Byt.B y := by rw [← hBn]; exact disk_B
     have hBkB : ∀ y ∈ Bk, Byt.B y := by rw [← hBk]; exact disk_B
     rw [hBn] at hroom hen
     obtain ⟨A5, c5, rfl, S5⟩ := Sl.own HO.out hBkB
     have q := X.put A5 c5 Bk.length Bk 1048576 x wr S5 rfl (by omega) IX FX (hK.below kb)
     rw [hroom] at q
     obtain ⟨N, hN⟩ : ∃ N, Bn.length = N := ⟨_, rfl⟩
     have HBN := aside hBn
     have HEN := aside hen
     have HNN := aside hN
     have p0 : (k : Int) < (ps.length : Int) := by omega
     have m0 : ((k : Int)).toNat = k := by omega
     have hve := fun g (h : Value.ownBlock _ = some g) => (HE.out.lt g h).2
     clear hrg hbw S IX FX hcx hmx hnx hln hdl hen hBk hroom hBn hBkB S5 HO HN hx hN
     go_wp2_with (first | go_skip | (refine load_at rfl _ rfl _ _ rfl x rx ?_))
     refine q.mono ?_
     rintro e w2 ⟨v2, rfl, own2, k2⟩
     simp only [] at own2
     have b2 := kb.trans (k2.mono kb.size)
     have HE2 := aside (owns_below HE.out k2)
     have hv2 : ∀ g, v2.ownBlock = some g → wr.heap.size ≤ g ∧ g < w2.heap.size := fun g h => own2.lt g h
     have own3 := owns_less own2 kb.size
     obtain ⟨A2, c2, rfl, _⟩ := Sl.own own2 hBnB
     have bs2 := b2.size
     clear q own2 k2 rx HE kb hBnB
     simp only [HNN.out] at own3 hv2 ⊢
     have O3 := aside own3
     have HV := aside hv2
     clear own3 hv2
     go_wp2_with (first | go_skip | (refine wpList_append_int rfl (.tmp 28) (.tmp 31) rfl w.heap.size _ k _ rfl (HE2.out.alloc _) _ N rfl (new1 w2 _ _) (by omega) (by simp; omega) ?_; intro v8 w8 o8 g8 e8))
     have O8 := (O3.out.alloc (.cells #[.int .i64 (N : Int)] 3)).kept g8 (by
       cases hob : Value.ownBlock (.slice A2 N c2) with
       | none => exact .inl rfl
       | some g =>
         refine .inr fun e => ?_
         have h1 := (HV.out g hob).1
         have h2 := hve g e.symm
         omega)
     have b8 := below_grown (b2.alloc b2.size (.cells #[.int .i64 (N : Int)] 3)) (by simp; omega) g8 (fun q hq => (HE2.out.lt q hq).1)
     have HN8 : Hid (∀ g, Value.ownBlock (.slice A2 N c2) = some g → v8.ownBlock ≠ some g) := aside (fun g h e => by
       have h1 := HV.out g h
       rcases e8 with e8 | e8
       · rw [e8] at e
         have h2 := hve g e
         omega
       · rw [e8] at e
         simp at e
         omega)
     have O9 := aside O8
     have E9 := aside o8
     clear O8 o8 g8 e8 O3 HV HE2 hve b2 bs2
     go_roundw
     case rel => exact ⟨k + 1, by omega, by go_num, aside (by rw [HBN.out, HNN.out]; exact O9.out), aside (by rw [HEN.out, HNN.out]; exact E9.out), HN8, b8⟩
     case measure => simp [intOf]; omega
   · obtain rfl : k = ps.length := by omega
     have p0 : ¬ (ps.length : Int) < (ps.length : Int) := by omega
     have h1 := HO.out
     have h2 := HE.out
     rw [List.take_of_length_le (by rw [coms_len]; omega)] at h1
     rw [List.take_of_length_le (by rw [endsL_len, coms_len]; omega)] at h2
     have H1 := aside h1
     have H2 := aside h2
     clear h1 h2 HO HE S
     go_wp2_with (first | go_skip)
     exact bodyPost_ret (v := .tuple #[_, _, .bool true]) (by simp [results, Tryz.results22, go_sem]) rfl ⟨_, _, rfl, H1.out, by rw [coms_len]; exact H2.out, HN.out, kb⟩
end Go.Proofs.YtgoapaanmcmlmaaGreatDoor.StoD
namespace Go.Proofs.YtgoapaanmcmlmaaGreatDoor.DgB
set_option maxRecDepth 100000
open Go Go.Sort Go.RowKit Byt IdM IdW IdV OpsM OpsW CmM StW CmW CmX CmY CmA DgM DgW DgR DgF DgG DgS DgJ DgE DgH
open Classical
end Go.Proofs.YtgoapaanmcmlmaaGreatDoor.DgB
namespace Go.Proofs.YtgoapaanmcmlmaaGreatDoor.DgV
set_option maxRecDepth 100000
open Go Go.Sort Go.RowKit Byt IdM IdW OpsM OpsW CmM StW CmW CmX CmY CmA DgM DgW DgR DgF DgG DgS DgJ DgE DgH DgB
open Classical
theorem okay_few {l : List Cv} {m : Int} (S : ∀ v ∈ l, Fit v.c) (h : fewD (coms l) m = true) : (∀ v ∈ l, CmR.Okay v.c) ∧ (l.length : Int) ≤ m := by
 unfold fewD at h
 rw [Bool.and_eq_true, decide_eq_true_eq, coms_len, List.all_eq_true] at h
 exact ⟨fun v hv => CmX.okay (h.2 v.c (List.mem_map_of_mem hv)) (S v hv), h.1⟩
theorem order_nodup {m : List Com} (h : InOrder hashK m) : m.Nodup := List.Pairwise.imp (fun {a b} (hab : Ahead hashK a b) (e : a = b) => by subst e; exact ahead_asymm hab hab) h
theorem sorted_perm {l m : List Com} (C : Closed hashK l) (h : IsSorted l m) : m.Perm l ∧ InOrder hashK m := by
 unfold IsSorted at h
 rw [if_pos C] at h
 refine ⟨(List.perm_ext_iff_of_nodup (order_nodup h.1) ?_).2 h.2, h.1⟩
 exact (List.pairwise_map.1 C.nodup).imp fun {a b} hab e => hab (by rw [e])
end Go.Proofs.YtgoapaanmcmlmaaGreatDoor.DgV
namespace Go.Proofs.YtgoapaanmcmlmaaGreatDoor.SoC
set_option maxRecDepth 100000
open Go Go.Sort Go.RowKit Byt IdM IdW OpsM OpsW CmM StW CmW CmX CmY CmA DgM DgW DgR DgG DgS DgJ DgH DgV DgF StoG StoM StoW StoF StoD StoA LogM LogD LogE LogW EncM IntS
open Classical
def intOf : Value → Int | .int _ q => q | _ => 0
theorem coms_take (l : List Cv) (k : Nat) : coms (l.take k) = (coms l).take k := List.map_take ..
def Inv (s : List Com) (k want used m : Nat) : Prop := want ≤ k ∧ used = (diskK (s.take want)).length ∧ used ≤ m ∧ (want < k → m < (diskK (s.take (want + 1))).length)
theorem Inv.start (s : List Com) (m : Nat) : Inv s 0 0 0 m := ⟨Nat.le_refl _, rfl, Nat.zero_le _, fun h => absurd h (by omega)⟩
theorem Inv.yes {s : List Com} {k want used m E : Nat} (_h : Inv s k want used m) (hE : (diskK (s.take (k + 1))).length = E) (ha : E ≤ m) : Inv s (k + 1) (k + 1) E m := ⟨Nat.le_refl _, hE.symm, ha, fun h => absurd h (by omega)⟩
theorem Inv.no {s : List Com} {k want used m E : Nat} (h : Inv s k want used m) (hE : (diskK (s.take (k + 1))).length = E) (ha : ¬ E ≤ m) : Inv s (k + 1) want used m := by
 obtain ⟨h1, h2, h3, h4⟩ := h
 refine ⟨by omega, h2, h3, fun hw => ?_⟩
 by_cases e : want = k
 · rw [e, hE]
   omega
 · exact h4 (by omega)
set_option maxRecDepth 100000 in
set_option maxHeartbeats 64000000 in
theorem walk (Y : Dag2) (X : Four) (a0 : Option Addr) (cap0 : Nat) (l0 : List Cv) (at_ : Int) (w : World) (S : SlK w a0 cap0 l0) (hK : ShaE.KIn w) :
   Calls Tryz.prog 4 #[.slice a0 l0.length cap0, .int .i64 at_] w fun e w' => e = .returned (.bool true) ∧ RowKit.Below w.heap.size w w' := by
 have hmax := S.len
 have b := Below.refl w.heap.size w
 have hbs := b.size
 go_enter Tryz.func4, Tryz.ntmps4
 go_wp2_with (first | go_skip)
 refine (awake X _ (hK.below b)).mono ?_
 rintro e w1 ⟨rfl, k1⟩
 clear hbs
 replace S := S.below k1; replace b := b.trans (k1.mono b.size); clear k1
 go_wp2_with (first | go_skip)
 obtain ⟨f, hf⟩ : ∃ f, fewD (coms l0) 8 = f := ⟨_, rfl⟩
 have qf := DgR.few_ret a0 cap0 l0 8 _ S
 rw [hf] at qf
 refine qf.mono ?_
 clear qf
 rintro e w2 ⟨rfl, k2⟩
 replace S := S.below k2; replace b := b.trans (k2.mono b.size); clear k2
 cases f with
 | false =>
   go_wp2_with (first | go_skip)
   go_ret
   exact ⟨rfl, b⟩
 | true =>
   obtain ⟨ho, hl⟩ := okay_few (fun v hv => (S.each v hv).2) hf
   have hl2 : l0.length ≤ 8 := by omega
   have HO := aside ho
   clear ho hf hl
   have qc := Y.closed a0 cap0 l0 _ S (by omega) (hK.below b)
   by_cases hC : Closed hashK (coms l0)
   case neg =>
     rw [decide_eq_false hC] at qc
     go_wp2_with (first | go_skip)
     refine qc.mono ?_
     rintro e wx ⟨rfl, kx⟩
     clear qc
     go_wp2_with (first | go_skip)
     go_ret
     exact ⟨rfl, b.trans (kx.mono b.size)⟩
   case pos =>
     rw [decide_eq_true hC] at qc
     have HC0 := aside hC
     clear hC
     go_wp2_with (first | go_skip)
     refine qc.mono ?_
     clear qc
     rintro e wx ⟨rfl, kx⟩
     replace S := S.below kx; replace b := b.trans (kx.mono b.size); clear kx
     go_wp2_with (first | go_skip)
     refine (Y.sorted a0 cap0 l0 _ S (by omega) (hK.below b)).mono ?_
     rintro e wx ⟨s, hm, A7, c7, qs, rfl, U, hqs, kx⟩
     have b' := b.trans (kx.mono b.size)
     clear  b kx S
     have b := b'
     clear  b'
     obtain ⟨hperm, hord⟩ := sorted_perm HC0.out hm
     have hcl : Closed hashK s := closed_perm HC0.out hperm.symm
     have hq8 : qs.length ≤ 8 := by
       have h1 := hperm.length_eq
       rw [← hqs, coms_len, coms_len] at h1
       omega
     have HS := aside hqs
     have HC := aside hcl
     have HI := aside hord
     have qd := disk_ret X A7 c7 qs _ U (by rw [hqs]; exact fun c hc => hcl.may c hc) (by omega) (hK.below b)
     rw [hqs] at qd
     have hdl := diskK_len hcl.may
     have hsl : s.length = qs.length := by rw [← hqs, coms_len]
     have HSL := aside hsl
     have hdl : (diskK s).length ≤ 3300 := by omega
     clear hm hperm hord hqs hcl hsl HO HC0
     go_wp2_with (first | go_skip)
     refine qd.mono ?_
     clear qd
     rintro e wx ⟨vb, ve, rfl, OB, OE, hne, kx⟩
     replace U := U.below kx; replace b := b.trans (kx.mono b.size); clear kx
     obtain ⟨A8, c8, rfl, T8⟩ := Sl.own OB disk_B
     obtain ⟨A9, c9, rfl, N9⟩ := SlN.own OE
     clear OB OE hne
     obtain ⟨D, hD⟩ : ∃ D, (diskK s).length = D := ⟨_, rfl⟩
     have HD := aside hD
     rw [endsL_len]
     simp only [HSL.out]
     simp only [hD] at hdl ⊢
     clear hD
     by_cases hn : at_ < 0
     · clear X Y U T8 N9 HS HC HI
       go_wp2_with (first | go_skip)
       go_ret
       exact ⟨rfl, b⟩
     obtain ⟨m, rfl⟩ : ∃ m : Nat, at_ = m := ⟨at_.toNat, by omega⟩
     have hn2 : ¬ (m : Int) < 0 := by omega
     by_cases hb : D < m
     · have p1 : (D : Int) < (m : Int) := by omega
       clear X Y U T8 N9 HS HC HI
       go_wp2_with (first | go_skip)
       go_ret
       exact ⟨rfl, b⟩
     have p1 : ¬ (D : Int) < (m : Int) := by omega
     have b0 := Below.refl wx.heap.size wx
     go_wp2_with (first | go_skip)
     go_loopw [11, 12, 13] (fun wt us i wr => ∃ (k want used : Nat), k ≤ qs.length ∧ wt = .int .i64 want ∧ us = .int .i64 used ∧ i = .int .i64 k ∧ Hid (Inv s k want used m) ∧ RowKit.Below wx.heap.size wx wr) (fun _ _ i _ => qs.length - (intOf i).toNat)
     case atStart => exact ⟨0, 0, 0, Nat.zero_le _, rfl, rfl, rfl, aside (Inv.start _ _), b0⟩
     case round =>
       rename World => wr
       clear b0
       obtain ⟨k, want, used, hk, rfl, rfl, rfl, HV, kb⟩ := hrel
       by_cases hlt : k < qs.length
       · have p2 : (k : Int) < (qs.length : Int) := by omega
         have m0 : ((k : Int)).toNat = k := by omega
         obtain ⟨bb, off, rfl, hbw, hc⟩ := N9.plain (by rw [endsL_len, HSL.out]; omega)
         have hks : k < s.length := by rw [HSL.out]; exact hlt
         have cx := (kb.cell (p := ⟨bb, off + k, none⟩) hbw).trans (hc k _ (endsL_at hks))
         obtain ⟨E, hE⟩ : ∃ E, (diskK (s.take (k + 1))).length = E := ⟨_, rfl⟩
         rw [hE] at cx
         have e1 : ((k + 1 : Nat) : Int) = (k : Int) + 1 := by omega
         by_cases ha : E ≤ m
         · have HQ := aside (HV.out.yes hE ha)
           have p3 : (E : Int) ≤ (m : Int) := by omega
           clear HV hc hbw hE U T8 N9
           go_wp2_with (first | go_skip)
           go_roundw
           case rel => exact ⟨k + 1, k + 1, E, by omega, by rw [e1], rfl, by go_num, HQ, kb⟩
           case measure => simp [intOf]; omega
         · have HQ := aside (HV.out.no hE ha)
           have p3 : ¬ (E : Int) ≤ (m : Int) := by omega
           clear HV hc hbw hE U T8 N9
           go_wp2_with (first | go_skip)
           go_roundw
           case rel => exact ⟨k + 1, want, used, by omega, rfl, rfl, by go_num, HQ, kb⟩
           case measure => simp [intOf]; omega
       · obtain rfl : k = qs.length := by omega
         have p2 : ¬ (qs.length : Int) < (qs.length : Int) := by omega
         obtain ⟨v1, v2, v3, v4⟩ := HV.out
         rw [← HSL.out] at v1 v4
         have hld := load_cut HC.out HI.out v1 (by rw [← v2]; exact v3) v4
         rw [← v2] at hld
         have hct := closed_take HC.out HI.out want
         have T := T8.below kb
         have V := U.below kb
         have b := b.trans (kb.mono b.size)
         have hcap := T.1
         rw [HD.out] at hcap
         obtain ⟨A2, c2, hs2, S2, hl2⟩ := T.part 0 m (by omega) (by rw [HD.out]; omega)
         have hr2 := fun W => run_part_h W A8 D c8 .i64 m (by omega)
         rw [hs2, Nat.sub_zero] at hr2
         rw [List.drop_zero, Nat.sub_zero] at S2 hl2
         have q := X.load A2 c2 m _ _ S2 hl2 (by omega) (hK.below b)
         rw [hld] at q
         have hwq : want ≤ qs.length := by rw [← HSL.out]; exact v1
         obtain ⟨qA, qc, hqs, hqS⟩ := RowP.ahead V.row want hwq
         have hq1 : ∀ W, (Instr.sliceAt 35 (.slice A7 qs.length c7) none (some (.int .i64 (want : Int))) none).run Tryz.prog W = .ok (.slice qA want qc) W := fun W => hqs W .i64
         have hkl : (qs.take want).length = want := by rw [List.length_take]; omega
         have Q : SlK wr qA qc (qs.take want) := ⟨hqS, fun y hy => V.each y (List.mem_of_mem_take hy)⟩
         have HQ : Hid (coms (qs.take want) = s.take want) := aside (by rw [coms_take, HS.out])
         have HT := aside hct
         have p3 : (m : Int) ≤ (c8 : Int) := by omega
         clear HV v2 v3 v4 hld hct T V S2 hl2 hs2 hqs hqS U T8 N9 kb
         go_wp2_with (first | go_skip)
         refine q.mono ?_
         rintro e w3 ⟨A3, c3, us, rfl, hus, S3, k3⟩
         have Q' := Q.below k3
         have b' := b.trans (k3.mono b.size)
         have qe := list_ret A3 qA c3 qc us (qs.take want) _ S3 Q'
         rw [hus, HQ.out, listB_iff.2 rfl, hkl] at qe
         have HU := aside hus
         clear q Q k3 b hus
         go_wp2_with (first | go_skip)
         refine qe.mono ?_
         rintro e w4 ⟨rfl, k4⟩
         have S4 := S3.below k4
         have b4 := b'.trans (k4.mono b'.size)
         have hul : us.length ≤ 1000 := by
           have h1 := congrArg List.length HU.out
           rw [coms_len, List.length_take] at h1
           omega
         have qz := Y.closed A3 c3 us _ S4 hul (hK.below b4)
         rw [HU.out, decide_eq_true HT.out] at qz
         have tu : ((used : Int) == (used : Int)) = true := by simp
         clear qe k4 b' S3 S4 Q'
         go_wp2_with (first | go_skip)
         refine qz.mono ?_
         rintro e w5 ⟨rfl, k5⟩
         have b5 := b4.trans (k5.mono b4.size)
         clear qz
         go_wp2_with (first | go_skip)
         go_ret
         exact ⟨rfl, b5⟩
end Go.Proofs.YtgoapaanmcmlmaaGreatDoor.SoC
