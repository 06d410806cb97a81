/- Slices of ints in memory: owned, read, appended to. No condition. | What the laws' own disk of commits is, and where each of them ends: a contract, where package store's Put answers as the document does. No condition but sizes. | The chapter's own example: 'awake' of the laws of package dag returns true, where the six functions answer as the document does. No condition. | DagSorted returns true for every input: closed commits, sorted, are the same from any order of theirs, they are all of them, and each beginning of them is closed. No condition. -/
import Derived.Test.YtgoapaanmcmlmaaGreatDoorRowInJ3
import Derived.Maps.AppendAt
import Derived.Test.YtgoapaanmcmlmaaGreatDoorIdXJ10
import Derived.Test.YtgoapaanmcmlmaaGreatDoorStoBJ4
namespace Go.Proofs.YtgoapaanmcmlmaaGreatDoor.IntS
set_option maxRecDepth 100000
open Go Go.RowKit Byt
def iv (l : List Int) : List Value := l.map (Value.int .i64)
theorem iv_len (l : List Int) : (iv l).length = l.length := List.length_map ..
theorem iv_append (a b : List Int) : iv (a ++ b) = iv a ++ iv b := List.map_append
theorem iv_at {l : List Int} {i : Nat} {x : Int} (h : l[i]? = some x) : (iv l)[i]? = some (.int .i64 x) := by
 unfold iv
 rw [List.getElem?_map, h]
 rfl
structure SlN (w : World) (A : Option Addr) (cap : Nat) (l : List Int) : Prop where
 room : l.length ≤ cap ∧ cap ≤ maxLen
 lies : (A = none ∧ l = [] ∧ cap = 0) ∨ ∃ x, A = some x ∧ ∀ i v, (iv l)[i]? = some v → w.cell? (x.add i) = some v
theorem SlN.nil (w : World) : SlN w none 0 [] := ⟨⟨Nat.le_refl _, Nat.zero_le _⟩, .inl ⟨rfl, rfl, rfl⟩⟩
theorem SlN.below {w w' : World} {A : Option Addr} {cap : Nat} {l : List Int} (h : SlN w A cap l) (hb : Below w.heap.size w w') : SlN w' A cap l := by
 refine ⟨h.room, ?_⟩
 rcases h.lies with h5 | ⟨x, rfl, hc⟩
 · exact .inl h5
 · refine .inr ⟨x, rfl, fun i v hv => ?_⟩
   have hcell := hc i v hv
   exact (hb.cell (block_lt_of_cell hcell)).trans hcell
theorem SlN.plain {w : World} {A : Option Addr} {cap : Nat} {l : List Int} (h : SlN w A cap l) (hp : 0 < l.length) :
   ∃ b off, A = some ⟨b, off, none⟩ ∧ b < w.heap.size ∧ ∀ i x, l[i]? = some x → w.cell? ⟨b, off + i, none⟩ = some (.int .i64 x) := by
 rcases h.lies with ⟨_, rfl, _⟩ | ⟨x, rfl, hc⟩
 · simp at hp
 · have h0 := hc 0 _ (iv_at (List.getElem?_eq_getElem hp))
   obtain ⟨b, off, spot⟩ := x
   have hspot : spot = none := by simpa [Addr.add] using World.cell?_spot h0
   subst hspot
   rw [Addr.add_lit] at h0
   refine ⟨b, off, rfl, block_lt_of_cell h0, fun i x hi => ?_⟩
   have := hc i _ (iv_at hi)
   rwa [Addr.add_lit] at this
theorem SlN.own {w : World} {base n : Nat} {v : Value} {l : List Int} (h : w.ownsRow base 3 1 v n (iv l)) : ∃ A cap, v = .slice A l.length cap ∧ SlN w A cap l := by
 have hn : l.length = n := by have := h.1; rw [iv_len] at this; omega
 rcases h.2 with ⟨rfl, rfl⟩ | ⟨g, cap, cur, rfl, hbg, hg, h1, h2, h3, h4⟩
 · have : l = [] := List.eq_nil_of_length_eq_zero hn
   subst this
   exact ⟨none, 0, rfl, SlN.nil w⟩
 · refine ⟨some ⟨g, 0, none⟩, cap, by rw [hn], ⟨by omega, h2⟩, .inr ⟨_, rfl, fun i u hu => ?_⟩⟩
   exact h.cells rfl i u hu
theorem zero_int : (Tryz.prog.info? 3).map (fun i => (i.zero, i.size, i.bytes)) = some (some (.int .i64 0), 1, 8) := by kernel_rfl
theorem new1 (w : World) (x : Value) (t : TypeId) : ∀ j u, [x][j]? = some u → (w.alloc (.cells #[x] t)).cell? ((⟨w.heap.size, 0, none⟩ : Addr).add j) = some u := by
 intro j u hu
 cases j with
 | zero =>
   simp only [List.getElem?_cons_zero, Option.some.injEq] at hu
   subst hu
   rw [Addr.add_lit, Nat.zero_add, cell_of_row _ _ 0 _ t (0, 0) (heap_alloc_new w _)]
   rfl
 | succ j => simp at hu
theorem wpList_append_int {w : World} {ops : Array Oper} {rest : List Oper} {o : Oper} {a : Act} {Q : Exit → Act → World → Prop} (hgd : o.guard = none) (s x : Operand)
   (ho : o.op = .call { callee := .builtin .append, args := #[s, x], argTypes := #[45, 45] })
   (base : Nat) (v : Value) (n : Nat) (xs : List Int) (hs : a.eval s = v) (hown : w.ownsRow base 3 1 v n (iv xs))
   (ad : Addr) (y : Int) (hx : a.eval x = .slice (some ad) 1 1) (hr : ∀ j u, [Value.int .i64 y][j]? = some u → w.cell? (ad.add j) = some u)
   (h63 : n ≤ 1099511627776) (hbase : base ≤ w.heap.size)
   (h : ∀ v' w', w'.ownsRow base 3 1 v' (n + 1) (iv (xs ++ [y])) → w.grownBy w' v.ownBlock → (v'.ownBlock = v.ownBlock ∨ v'.ownBlock = some w.heap.size) → wpList Tryz.prog ops Q rest (a.put o.dst v') w') : wpList Tryz.prog ops Q (o :: rest) a w := by
 obtain ⟨i, hi, z0, z1, z2⟩ := info_parts zero_int
 exact wpList_append_own_at w hgd s x 45 ho base 3 i (.int .i64 0) 1 8 Tryz.underlying45 hi z0 z1 z2 rfl (by decide) v n (iv xs) hs hown ad 1 1 [.int .i64 y] hx rfl hr (by intro u hu; simp at hu; subst hu; rfl) (by unfold maxLen; omega) (by omega) hbase
   (fun v' w' a1 a2 _ a4 => h v' w' (by rw [iv_append]; exact a1) a2 a4)
end Go.Proofs.YtgoapaanmcmlmaaGreatDoor.IntS
namespace Go.Proofs.YtgoapaanmcmlmaaGreatDoor.StoD
set_option maxRecDepth 100000
open Go Go.Sort Go.RowKit Byt IdM IdW OpsM OpsW CmM StW CmW CmX CmY CmA DgM DgW DgJ StoM StoW StoF LogM LogD LogE LogW EncM IntS
open Classical
def endsL (l : List Com) : List Int := (List.range l.length).map fun i => ((diskK (l.take (i + 1))).length : Int)
theorem endsL_len (l : List Com) : (endsL l).length = l.length := by simp [endsL]
theorem endsL_at {l : List Com} {i : Nat} (h : i < l.length) : (endsL l)[i]? = some ((diskK (l.take (i + 1))).length : Int) := by
 unfold endsL
 rw [List.getElem?_map, List.getElem?_range h]
 rfl
theorem endsL_next {l : List Com} {k : Nat} (h : k < l.length) : (endsL l).take (k + 1) = (endsL l).take k ++ [((diskK (l.take (k + 1))).length : Int)] := by
 rw [List.take_add_one, endsL_at h]
 rfl
theorem disk_next {l : List Com} {k : Nat} {c : Com} (h : l[k]? = some c) : diskK (l.take (k + 1)) = diskK (l.take k) ++ frameL (putK c) := by
 unfold diskK
 rw [List.take_add_one, h, List.map_append, catL_append]
 simp [catL]
theorem put_room {b : List Int} {c : Com} (hb : b.length ≤ 100000) (h : mayK c = true) : putO b c 1048576 = (b ++ frameL (putK c), 0) := by
 have h1 := putK_len h
 have h2 := frameL_len (putK c)
 have h3 := numL_ten (n := (putK c).length) (by omega)
 unfold putO writeO
 rw [if_pos h, if_neg (by omega), if_neg (by omega)]
theorem disk_B {l : List Com} : ∀ x ∈ diskK l, Byt.B x := by
 intro x hx
 obtain ⟨r, hr, hx⟩ := List.mem_flatMap.1 hx
 obtain ⟨c, _, rfl⟩ := List.mem_map.1 hr
 exact LogC.frame_B (putK_B c) x hx
def DiskOut (l : List Com) (w : World) (e : Ending) (w' : World) : Prop :=
 ∃ vb ve, e = .returned (.tuple #[vb, ve, .bool true]) ∧ w'.ownsRow w.heap.size 5 1 vb (diskK l).length (Byt.bv (diskK l)) ∧ w'.ownsRow w.heap.size 3 1 ve l.length (iv (endsL l)) ∧ (∀ g, vb.ownBlock = some g → ve.ownBlock ≠ some g) ∧ RowKit.Below w.heap.size w w'
def intOf : Value → Int | .int _ q => q | _ => 0
set_option maxRecDepth 100000 in
set_option maxHeartbeats 16000000 in
theorem disk_ret (X : Four) (A : Option Addr) (cap : Nat) (ps : List Cv) (w : World) (S : SlK w A cap ps) (hmay : ∀ c ∈ coms ps, mayK c = true) (h8 : ps.length ≤ 12) (hK : ShaE.KIn w) :
   Calls Tryz.prog 22 #[.slice A ps.length cap] w (DiskOut (coms ps) w) := by
 have HM := aside hmay
 clear hmay
 go_enter Tryz.func22, Tryz.ntmps22
 go_wp2_with (first | go_skip)
 go_loopw [5, 6, 7] (fun vb ve i wr => ∃ k : Nat, k ≤ ps.length ∧ i = .int .i64 k ∧ Hid (wr.ownsRow w.heap.size 5 1 vb (diskK ((coms ps).take k)).length (Byt.bv (diskK ((coms ps).take k)))) ∧ Hid (wr.ownsRow w.heap.size 3 1 ve k (iv ((endsL (coms ps)).take k))) ∧ Hid (∀ g, vb.ownBlock = some g → ve.ownBlock ≠ some g) ∧ RowKit.Below w.heap.size w wr) (fun _ _ i _ => ps.length - (intOf i).toNat)
 case atStart => exact ⟨0, Nat.zero_le _, rfl, aside ⟨rfl, .inl ⟨rfl, rfl⟩⟩, aside ⟨rfl, .inl ⟨rfl, rfl⟩⟩, aside (fun g h => by cases h), Below.refl _ _⟩
 case round =>
   rename World => wr
   obtain ⟨k, hk, rfl, HO, HE, HN, kb⟩ := hrel
   by_cases hlt : k < ps.length
   · obtain ⟨b, off, rfl, hbw, hrg⟩ := S.plain (by omega)
     obtain ⟨x, hx⟩ : ∃ x, ps[k]? = some x := ⟨_, List.getElem?_eq_getElem hlt⟩
     have rx := range_on (hrg k x hx) kb
     have IX := (S.each x (List.mem_of_getElem? hx)).1.below kb
     have FX := (S.each x (List.mem_of_getElem? hx)).2
     have hcx := coms_at hx
     have hmx := HM.out x.c (List.mem_of_getElem? hcx)
     have hnx := disk_next hcx
     have hln : ((coms ps).take k).length ≤ k := by rw [List.length_take]; omega
     have hdl := diskK_len (l := (coms ps).take k) (fun c hc => HM.out c (List.mem_of_mem_take hc))
     have hen := endsL_next (l := coms ps) (k := k) (by rw [coms_len]; exact hlt)
     obtain ⟨Bk, hBk⟩ : ∃ Bk, diskK ((coms ps).take k) = Bk := ⟨_, rfl⟩
     rw [hBk] at HO hnx hdl
     have hroom := put_room (b := Bk) (by omega) hmx
     rw [← hnx] at hroom
     obtain ⟨Bn, hBn⟩ : ∃ Bn, diskK ((coms ps).take (k + 1)) = Bn := ⟨_, rfl⟩
     have hBnB : ∀ y ∈ Bn, Byt.B y := by rw [← hBn]; exact disk_B
     have hBkB : ∀ y ∈ Bk, Byt.B y := by rw [← hBk]; exact disk_B
     rw [hBn] at hroom hen
     obtain ⟨A5, c5, rfl, S5⟩ := Sl.own HO.out hBkB
     have q := X.put A5 c5 Bk.length Bk 1048576 x wr S5 rfl (by omega) IX FX (hK.below kb)
     rw [hroom] at q
     obtain ⟨N, hN⟩ : ∃ N, Bn.length = N := ⟨_, rfl⟩
     have HBN := aside hBn
     have HEN := aside hen
     have HNN := aside hN
     have p0 : (k : Int) < (ps.length : Int) := by omega
     have m0 : ((k : Int)).toNat = k := by omega
     have hve := fun g (h : Value.ownBlock _ = some g) => (HE.out.lt g h).2
     clear hrg hbw S IX FX hcx hmx hnx hln hdl hen hBk hroom hBn hBkB S5 HO HN hx hN
     go_wp2_with (first | go_skip | (refine load_at rfl _ rfl _ _ rfl x rx ?_))
     refine q.mono ?_
     rintro e w2 ⟨v2, rfl, own2, k2⟩
     simp only [] at own2
     have b2 := kb.trans (k2.mono kb.size)
     have HE2 := aside (owns_below HE.out k2)
     have hv2 : ∀ g, v2.ownBlock = some g → wr.heap.size ≤ g ∧ g < w2.heap.size := fun g h => own2.lt g h
     have own3 := owns_less own2 kb.size
     obtain ⟨A2, c2, rfl, _⟩ := Sl.own own2 hBnB
     have bs2 := b2.size
     clear q own2 k2 rx HE kb hBnB
     simp only [HNN.out] at own3 hv2 ⊢
     have O3 := aside own3
     have HV := aside hv2
     clear own3 hv2
     go_wp2_with (first | go_skip | (refine wpList_append_int rfl (.tmp 28) (.tmp 31) rfl w.heap.size _ k _ rfl (HE2.out.alloc _) _ N rfl (new1 w2 _ _) (by omega) (by simp; omega) ?_; intro v8 w8 o8 g8 e8))
     have O8 := (O3.out.alloc (.cells #[.int .i64 (N : Int)] 3)).kept g8 (by
       cases hob : Value.ownBlock (.slice A2 N c2) with
       | none => exact .inl rfl
       | some g =>
         refine .inr fun e => ?_
         have h1 := (HV.out g hob).1
         have h2 := hve g e.symm
         omega)
     have b8 := below_grown (b2.alloc b2.size (.cells #[.int .i64 (N : Int)] 3)) (by simp; omega) g8 (fun q hq => (HE2.out.lt q hq).1)
     have HN8 : Hid (∀ g, Value.ownBlock (.slice A2 N c2) = some g → v8.ownBlock ≠ some g) := aside (fun g h e => by
       have h1 := HV.out g h
       rcases e8 with e8 | e8
       · rw [e8] at e
         have h2 := hve g e
         omega
       · rw [e8] at e
         simp at e
         omega)
     have O9 := aside O8
     have E9 := aside o8
     clear O8 o8 g8 e8 O3 HV HE2 hve b2 bs2
     go_roundw
     case rel => exact ⟨k + 1, by omega, by go_num, aside (by rw [HBN.out, HNN.out]; exact O9.out), aside (by rw [HEN.out, HNN.out]; exact E9.out), HN8, b8⟩
     case measure => simp [intOf]; omega
   · obtain rfl : k = ps.length := by omega
     have p0 : ¬ (ps.length : Int) < (ps.length : Int) := by omega
     have h1 := HO.out
     have h2 := HE.out
     rw [List.take_of_length_le (by rw [coms_len]; omega)] at h1
     rw [List.take_of_length_le (by rw [endsL_len, coms_len]; omega)] at h2
     have H1 := aside h1
     have H2 := aside h2
     clear h1 h2 HO HE S
     go_wp2_with (first | go_skip)
     exact bodyPost_ret (v := .tuple #[_, _, .bool true]) (by simp [results, Tryz.results22, go_sem]) rfl ⟨_, _, rfl, H1.out, by rw [coms_len]; exact H2.out, HN.out, kb⟩
end Go.Proofs.YtgoapaanmcmlmaaGreatDoor.StoD
namespace Go.Proofs.YtgoapaanmcmlmaaGreatDoor.DgB
set_option maxRecDepth 100000
open Go Go.Sort Go.RowKit Byt IdM IdW IdV OpsM OpsW CmM StW CmW CmX CmY CmA DgM DgW DgR DgF DgG DgS DgJ DgE DgH
open Classical
end Go.Proofs.YtgoapaanmcmlmaaGreatDoor.DgB
namespace Go.Proofs.YtgoapaanmcmlmaaGreatDoor.DgV
set_option maxRecDepth 100000
open Go Go.Sort Go.RowKit Byt IdM IdW OpsM OpsW CmM StW CmW CmX CmY CmA DgM DgW DgR DgF DgG DgS DgJ DgE DgH DgB
open Classical
theorem okay_few {l : List Cv} {m : Int} (S : ∀ v ∈ l, Fit v.c) (h : fewD (coms l) m = true) : (∀ v ∈ l, CmR.Okay v.c) ∧ (l.length : Int) ≤ m := by
 unfold fewD at h
 rw [Bool.and_eq_true, decide_eq_true_eq, coms_len, List.all_eq_true] at h
 exact ⟨fun v hv => CmX.okay (h.2 v.c (List.mem_map_of_mem hv)) (S v hv), h.1⟩
theorem order_nodup {m : List Com} (h : InOrder hashK m) : m.Nodup := List.Pairwise.imp (fun {a b} (hab : Ahead hashK a b) (e : a = b) => by subst e; exact ahead_asymm hab hab) h
theorem sorted_perm {l m : List Com} (C : Closed hashK l) (h : IsSorted l m) : m.Perm l ∧ InOrder hashK m := by
 unfold IsSorted at h
 rw [if_pos C] at h
 refine ⟨(List.perm_ext_iff_of_nodup (order_nodup h.1) ?_).2 h.2, h.1⟩
 exact (List.pairwise_map.1 C.nodup).imp fun {a b} hab e => hab (by rw [e])
end Go.Proofs.YtgoapaanmcmlmaaGreatDoor.DgV
