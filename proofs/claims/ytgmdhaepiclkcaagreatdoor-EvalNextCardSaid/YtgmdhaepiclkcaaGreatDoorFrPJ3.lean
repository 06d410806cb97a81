/- Slices of slices of ids in memory: read, made, appended to. No condition. | What slices.Grow of no slice, and slices.Concat, return at ids: contracts. No condition but sizes. | Ids as keys of a map; a map as a set of ids. No condition. -/
import Derived.Test.YtgmdhaepiclkcaaGreatDoorRowGJ7
import Derived.Lib.AppendZeros
import Derived.Lib.Walk
import Derived.Test.YtgmdhaepiclkcaaGreatDoorIdWJ3
import Derived.WideKeyArr2
import Derived.Maps.RangeWalk
import Derived.Maps.OwnSet
import Derived.Maps.OwnOps
import Derived.Maps.Ext
namespace Go.Proofs.YtgmdhaepiclkcaaGreatDoor.FrP
set_option maxRecDepth 100000
open Go Go.Sort Go.RowKit Byt IdM IdW
structure Pv where
 a : Option Addr
 k : Nat
 ps : List Idn
def hd (v : Pv) : Value := .slice v.a v.ps.length v.k
def hds (l : List Pv) : List Value := l.map hd
theorem hds_len (l : List Pv) : (hds l).length = l.length := List.length_map ..
theorem hds_append (a b : List Pv) : hds (a ++ b) = hds a ++ hds b := List.map_append
theorem hds_at {l : List Pv} {i : Nat} {x : Pv} (h : l[i]? = some x) : (hds l)[i]? = some (hd x) := by
 unfold hds
 rw [List.getElem?_map, h]
 rfl
def cat (l : List Pv) : List Idn := l.flatMap (·.ps)
theorem cat_next {l : List Pv} {k : Nat} {x : Pv} (h : l[k]? = some x) : cat (l.take (k + 1)) = cat (l.take k) ++ x.ps := by
 obtain ⟨hk, e⟩ := List.getElem?_eq_some_iff.1 h
 unfold cat
 rw [List.take_succ_eq_append_getElem hk, e, List.flatMap_append]
 simp
theorem cat_short (l : List Pv) : ∀ k, (cat (l.take k)).length ≤ (cat l).length := fun k => by
 have e : cat l = cat (l.take k) ++ cat (l.drop k) := by
   unfold cat
   rw [← List.flatMap_append, List.take_append_drop]
 rw [e, List.length_append]
 omega
structure SlP (w : World) (A : Option Addr) (cap : Nat) (l : List Pv) : Prop where
 room : l.length ≤ cap ∧ cap ≤ maxLen
 lies : (A = none ∧ l = [] ∧ cap = 0) ∨ ∃ x, A = some x ∧ ∀ i v, (hds l)[i]? = some v → w.cell? (x.add i) = some v
 each : ∀ v ∈ l, SlI w v.a v.k v.ps
theorem SlP.below {w w' : World} {A : Option Addr} {cap : Nat} {l : List Pv} (h : SlP w A cap l) (hb : Below w.heap.size w w') : SlP w' A cap l := by
 refine ⟨h.room, ?_, fun v hv => (h.each v hv).below hb⟩
 rcases h.lies with h5 | ⟨x, rfl, hc⟩
 · exact .inl h5
 · refine .inr ⟨x, rfl, fun i v hv => ?_⟩
   have hcell := hc i v hv
   exact (hb.cell (block_lt_of_cell hcell)).trans hcell
theorem SlP.plain {w : World} {A : Option Addr} {cap : Nat} {l : List Pv} (h : SlP w A cap l) (hp : 0 < l.length) :
   ∃ b off, A = some ⟨b, off, none⟩ ∧ ∀ i x, l[i]? = some x → w.cell? ⟨b, off + i, none⟩ = some (hd x) := by
 rcases h.lies with ⟨_, rfl, _⟩ | ⟨x, rfl, hc⟩
 · simp at hp
 · have h0 := hc 0 _ (hds_at (List.getElem?_eq_getElem hp))
   obtain ⟨b, off, spot⟩ := x
   have hspot : spot = none := by simpa [Addr.add] using World.cell?_spot h0
   subst hspot
   refine ⟨b, off, rfl, fun i x hi => ?_⟩
   have := hc i _ (hds_at hi)
   rwa [Addr.add_lit] at this
theorem SlP.own {w : World} {base n : Nat} {v : Value} {l : List Pv} (h : w.ownsRow base 23 1 v n (hds l)) (he : ∀ v ∈ l, SlI w v.a v.k v.ps) : ∃ A cap, v = .slice A l.length cap ∧ SlP w A cap l := by
 have hn : l.length = n := by have := h.1; rw [hds_len] at this; omega
 rcases h.2 with ⟨rfl, rfl⟩ | ⟨g, cap, cur, rfl, hbg, hg, h1, h2, h3, h4⟩
 · have : l = [] := List.eq_nil_of_length_eq_zero hn
   subst this
   exact ⟨none, 0, rfl, ⟨Nat.le_refl _, Nat.zero_le _⟩, .inl ⟨rfl, rfl, rfl⟩, he⟩
 · refine ⟨some ⟨g, 0, none⟩, cap, by rw [hn], ⟨by omega, h2⟩, .inr ⟨_, rfl, fun i u hu => ?_⟩, he⟩
   exact h.cells rfl i u hu
theorem zero_ps : (Tryz.prog.info? 23).map (fun i => (i.zero, i.size, i.bytes)) = some (some (.slice none 0 0), 1, 24) := by kernel_rfl
theorem new1 (w : World) (x : Value) (t : TypeId) : ∀ j u, [x][j]? = some u → (w.alloc (.cells #[x] t)).cell? ((⟨w.heap.size, 0, none⟩ : Addr).add j) = some u := by
 intro j u hu
 cases j with
 | zero =>
   simp only [List.getElem?_cons_zero, Option.some.injEq] at hu
   subst hu
   rw [Addr.add_lit, Nat.zero_add, cell_of_row _ _ 0 _ t (0, 0) (heap_alloc_new w _)]
   rfl
 | succ j => simp at hu
theorem wpList_append_ps {w : World} {ops : Array Oper} {rest : List Oper} {o : Oper} {a : Act} {Q : Exit → Act → World → Prop} (hgd : o.guard = none) (s x : Operand)
   (ho : o.op = .call { callee := .builtin .append, args := #[s, x], argTypes := #[179, 179] })
   (base : Nat) (v : Value) (n : Nat) (xs : List Pv) (hs : a.eval s = v) (hown : w.ownsRow base 23 1 v n (hds xs))
   (ad : Addr) (y : Pv) (hx : a.eval x = .slice (some ad) 1 1) (hr : ∀ j u, [hd y][j]? = some u → w.cell? (ad.add j) = some u)
   (h63 : n ≤ 1000000) (hbase : base ≤ w.heap.size)
   (h : ∀ v' w', w'.ownsRow base 23 1 v' (n + 1) (hds (xs ++ [y])) → w.grownBy w' v.ownBlock → wpList Tryz.prog ops Q rest (a.put o.dst v') w') : wpList Tryz.prog ops Q (o :: rest) a w := by
 obtain ⟨i, hi, z0, z1, z2⟩ := info_parts zero_ps
 exact wpList_append_own w hgd s x 179 ho base 23 i (.slice none 0 0) 1 24 Tryz.underlying179 hi z0 z1 z2 rfl (by decide) v n (hds xs) hs hown ad 1 1 [hd y] hx rfl hr (by intro u hu; simp at hu; subst hu; rfl) (by unfold maxLen; omega) (by omega) hbase
   (fun v' w' a1 a2 _ => h v' w' (by rw [hds_append]; exact a1) a2)
end Go.Proofs.YtgmdhaepiclkcaaGreatDoor.FrP
namespace Go.Proofs.YtgmdhaepiclkcaaGreatDoor.FrQ
set_option maxRecDepth 100000
open Go Go.Sort Go.RowKit Byt IdM IdW FrP
set_option maxRecDepth 100000 in
set_option maxHeartbeats 4000000 in
theorem grow_ret (n : Nat) (hn : n ≤ 1000000) (w : World) : Calls Tryz.prog 218 #[.slice none 0 0, .int .i64 n] w fun e w' => ∃ v, e = .returned v ∧ w'.ownsRow w.heap.size 56 32 v 0 (bv (flat [])) ∧ Below w.heap.size w w' := by
 by_cases h0 : n = 0
 · subst h0
   go_enter Tryz.func218, Tryz.ntmps218
   go_wp2_with (first | go_skip)
   go_ret
   exact ⟨_, rfl, ⟨rfl, .inl ⟨rfl, rfl⟩⟩, Below.refl _ _⟩
 · obtain ⟨i, hi, z0, z1, z2⟩ := info_parts zero_id
   have h1 : ¬ ((n : Int) < 0) := by omega
   have h4 : (0 : Int) < n := by omega
   have hw : IntKind.i64.wrap (n : Int) = n := by rw [IntKind.wrap_i64]; omega
   have hrz : ∀ ty, (Builtin.append_ #[23, 3] ty #[.slice none 0 0, .int .i64 n]).run Tryz.prog w =
       .ok (.slice (some ⟨w.heap.size, 0, none⟩) n (grownCap w n 0 56)) (w.drew.alloc (.cells (Builtin.zeroCells (Value.agg (cs nought)).cells n ++ Builtin.zeroCells (Value.agg (cs nought)).cells (grownCap w n 0 56 - n)) 56)) := fun ty =>
     Lib.run_append_nil_zeros w 23 3 ty 56 i (.agg (cs nought)) .i64 .i64 Tryz.underlying23 Tryz.underlying3 hi z0 n (by omega) (by rw [z1]; omega) (by omega) (by rw [z2]; omega)
   have hge := grownCap_ge w n 0 56
   have hle := grownCap_le_maxLen w n 0 56 (by unfold maxLen; omega)
   obtain ⟨G, hG⟩ : ∃ G, grownCap w n 0 56 = G := ⟨_, rfl⟩
   rw [hG] at hrz hge hle
   obtain ⟨Z, hZ⟩ : ∃ Z, Builtin.zeroCells (Value.agg (cs nought)).cells n ++ Builtin.zeroCells (Value.agg (cs nought)).cells (G - n) = Z := ⟨_, rfl⟩
   have hz : Z.size = G * 32 := by
     rw [← hZ]
     simp [Builtin.zeroCells, zs]
     omega
   rw [hZ] at hrz
   have own : (w.drew.alloc (.cells Z 56)).ownsRow w.heap.size 56 32 (.slice (some ⟨w.drew.heap.size, 0, none⟩) 0 G) 0 [] :=
     World.ownsRow_made w.drew _ G (Nat.le_refl _) hle hz
   have kb : Below w.heap.size w (w.drew.alloc (.cells Z 56)) := (below_drew1 (Below.refl _ _)).alloc (Nat.le_refl _) _
   have own' : (w.drew.alloc (.cells Z 56)).ownsRow w.heap.size 56 32 (.slice (some ⟨w.heap.size, 0, none⟩) 0 G) 0 (bv (flat [])) := own
   obtain ⟨W, hW⟩ : ∃ W, w.drew.alloc (.cells Z 56) = W := ⟨_, rfl⟩
   rw [hW] at hrz own' kb
   have hmax : (G : Int) ≤ 9223372036854775807 := by unfold maxLen at hle; omega
   clear hG own hz hW hZ
   go_enter Tryz.func218, Tryz.ntmps218
   go_wp2_with (first | go_skip | (at_builtin; refine Lib.wpList_append_run _ rfl _ _ _ _ rfl _ _ rfl rfl _ _ (hrz _) ?_))
   go_ret
   exact ⟨_, rfl, own', kb⟩
set_option maxRecDepth 100000 in
set_option maxHeartbeats 16000000 in
theorem concat_ret (A : Option Addr) (cap : Nat) (l : List Pv) (w : World) (S : SlP w A cap l) (hl : l.length ≤ 1000000) (hn : (cat l).length ≤ 1000000) :
   Calls Tryz.prog 175 #[.slice A l.length cap] w (NewI (cat l) w) := by
 have hsh := cat_short l
 have cg : ∀ W, Calls Tryz.prog 218 #[.slice none 0 0, .int .i64 ((cat l).length : Int)] W fun e w' => ∃ v, e = .returned v ∧ w'.ownsRow W.heap.size 56 32 v 0 (bv (flat [])) ∧ Below W.heap.size W w' := fun W => grow_ret _ hn W
 have hfull : cat (l.take l.length) = cat l := by rw [List.take_length]
 go_enter Tryz.func175, Tryz.ntmps175
 go_wp2_with (first | go_skip)
 go_loopw [3, 11] (fun s i wr => ∃ k : Nat, k ≤ l.length ∧ s = .int .i64 ((cat (l.take k)).length : Int) ∧ i = .int .i64 k ∧ Below w.heap.size w wr) (fun _ i _ => l.length - (intOf i).toNat)
 case atStart => exact ⟨0, Nat.zero_le _, rfl, rfl, Below.refl _ _⟩
 case round =>
   obtain ⟨k, hk, rfl, rfl, kb⟩ := hrel
   by_cases hlt : k < l.length
   · obtain ⟨b, off, rfl, hcell⟩ := (S.below kb).plain (by omega)
     obtain ⟨x, hx⟩ : ∃ x, l[k]? = some x := ⟨_, List.getElem?_eq_getElem hlt⟩
     have c0 : wr.cell? ⟨b, off + k, none⟩ = some (.slice x.a x.ps.length x.k) := hcell k x hx
     have p0 : (k : Int) < l.length := by omega
     have m0 : ((k : Int)).toNat = k := by omega
     have hn2 := hsh (k + 1)
     have HN := aside (cat_next hx)
     have hln : (cat (l.take (k + 1))).length = (cat (l.take k)).length + x.ps.length := by rw [HN.out, List.length_append]
     obtain ⟨n, hn1⟩ : ∃ n, (cat (l.take k)).length = n := ⟨_, rfl⟩
     rw [hn1] at hln ⊢
     have hw1 : IntKind.i64.wrap ((n : Int) + (x.ps.length : Int)) = (n : Int) + x.ps.length := by rw [IntKind.wrap_i64]; omega
     have hneg : ¬ ((n : Int) + (x.ps.length : Int) < 0) := by omega
     clear hcell hx hn1 cg hsh
     go_wp2_with (first | go_skip)
     go_roundw
     case rel => exact ⟨k + 1, by omega, by rw [hln]; rfl, by go_num, kb⟩
     case measure => simp [intOf]; omega
   · obtain rfl : k = l.length := by omega
     rw [hfull]
     have T := S.below kb
     clear hsh hfull
     go_wp2_with (first | go_skip)
     refine (cg wr).mono ?_
     rintro e w1 ⟨v1, rfl, o1, k1⟩
     have b1 := kb.trans (k1.mono kb.size)
     have T1 := T.below k1
     have O1 := aside (show w1.ownsRow w.heap.size 56 32 v1 0 (bv (flat [])) from owns_less o1 kb.size)
     clear cg T kb k1 o1
     go_wp2_with (first | go_skip)
     go_loopw [6, 27] (fun o i wq => ∃ k : Nat, k ≤ l.length ∧ i = .int .i64 k ∧ Hid (wq.ownsRow w.heap.size 56 32 o (cat (l.take k)).length (bv (flat (cat (l.take k))))) ∧ Below w.heap.size w wq) (fun _ i _ => l.length - (intOf i).toNat)
     case atStart => exact ⟨0, Nat.zero_le _, rfl, O1, b1⟩
     case round =>
       rename World => wq
       clear O1 b1 T1
       obtain ⟨k, hk, rfl, HO, kc⟩ := hrel
       by_cases hlt : k < l.length
       · obtain ⟨b, off, rfl, hcell⟩ := (S.below kc).plain (by omega)
         obtain ⟨x, hx⟩ : ∃ x, l[k]? = some x := ⟨_, List.getElem?_eq_getElem hlt⟩
         have c0 : wq.cell? ⟨b, off + k, none⟩ = some (.slice x.a x.ps.length x.k) := hcell k x hx
         have Sx := (S.below kc).each x (List.mem_of_getElem? hx)
         have p0 : (k : Int) < l.length := by omega
         have m0 : ((k : Int)).toNat = k := by omega
         have hn2 := cat_short l (k + 1)
         have HN := aside (cat_next hx)
         have hln : (cat (l.take (k + 1))).length = (cat (l.take k)).length + x.ps.length := by rw [HN.out, List.length_append]
         obtain ⟨xs, hxs⟩ : ∃ xs, cat (l.take k) = xs := ⟨_, rfl⟩
         rw [hxs] at hln HO HN
         clear hcell hx hxs
         go_wp2_with (first | go_skip | (refine wpList_append_ids rfl (.tmp 31) (.tmp 32) rfl w.heap.size _ xs.length xs rfl HO.out x.a _ x.k x.ps rfl rfl Sx (by omega) kc.size ?_; intro v2 w2 o2 g2))
         have b2 : Below w.heap.size w w2 := below_grown kc kc.size g2 (fun q hq => (HO.out.lt q hq).1)
         have O2 := aside (show w2.ownsRow w.heap.size 56 32 v2 (cat (l.take (k + 1))).length (bv (flat (cat (l.take (k + 1))))) by rw [HN.out, List.length_append]; exact o2)
         clear HO HN o2 g2 Sx hln
         go_roundw
         case rel => exact ⟨k + 1, by omega, by go_num, O2, b2⟩
         case measure => simp [intOf]; omega
       · obtain rfl : k = l.length := by omega
         have O3 := HO.out
         rw [List.take_length] at O3
         clear HO
         go_wp2_with (first | go_skip)
         go_ret
         exact ⟨_, rfl, O3, kc⟩
end Go.Proofs.YtgmdhaepiclkcaaGreatDoor.FrQ
namespace Go.Proofs.YtgmdhaepiclkcaaGreatDoor.IdK
set_option maxRecDepth 100000
open Go Go.RowKit Go.Maps IdM Byt IdW
theorem arrK : WideMaps.ArrKey Tryz.prog 56 5 32 := ⟨Tryz.underlying56, by kernel_rfl, by kernel_rfl, by kernel_rfl⟩
theorem law : Keyed Tryz.prog 56 := Keyed.of_law arrK.law
theorem types_gt : 0 < Tryz.prog.types.size := of_decide_eq_true (by kernel_rfl)
theorem types_pos : ∃ m, Tryz.prog.types.size = m + 1 := ⟨Tryz.prog.types.size - 1, by have := types_gt; omega⟩
theorem keyT : Tryz.prog.keyType 56 = true := arrK.keyType types_pos
def key (x : Idn) : Lit := .string (keyBytes (x.1.map (Lit.int .u8)))
theorem wf_u8 {n : Int} (h : 0 ≤ n ∧ n ≤ 255) : (Lit.int .u8 n).wf = true := by
 simp [Lit.wf, IntKind.min, IntKind.max, IntKind.bits, IntKind.signed]
 omega
theorem lits_at (x : Idn) (D : Nat) : ∀ L : List Nat, (∀ i ∈ L, i < 32) →
   L.mapM (fun i => Tryz.prog.keyLits (D + 1) 5 (((bv x.1).drop (i * 1)).take 1)) = some (L.map fun i => [Lit.int .u8 (x.1.getD i 0)])
 | [], _ => rfl
 | i :: L, h => by
   have hi : i < 32 := h i (by simp)
   have e : ((bv x.1).drop (i * 1)).take 1 = [.int .u8 (x.1.getD i 0)] := by
     rw [Nat.mul_one]
     apply List.ext_getElem?
     intro j
     rw [List.getElem?_take, List.getElem?_drop]
     by_cases hj : j = 0
     · subst hj
       rw [if_pos (by omega), Nat.add_zero, bv_at _ (by rw [Idn_len]; exact hi)]
       rfl
     · rw [if_neg (by omega), List.getElem?_eq_none (by simp; omega)]
   have q : Tryz.prog.keyLits (D + 1) 5 [.int .u8 (x.1.getD i 0)] = some [Lit.int .u8 (x.1.getD i 0)] := by
     simp only [Program.keyLits, Tryz.underlying5]
     rw [if_pos ⟨trivial, wf_u8 (Idn_at_range x i)⟩]
   rw [List.mapM_cons, e, q, lits_at x D L (fun j hj => h j (by simp [hj]))]
   rfl
theorem map_range (x : Idn) : (List.range 32).map (fun i => Lit.int .u8 (x.1.getD i 0)) = x.1.map (Lit.int .u8) := by
 apply List.ext_getElem
 · simp [Idn_len]
 · intro i h1 h2
   simp at h1 h2 ⊢
   rw [List.getElem?_eq_getElem h2]
   rfl
theorem keyOf_id (x : Idn) : keyOf Tryz.prog 56 (.agg (cs x)) = some (key x) := by
 obtain ⟨m0, hm0⟩ := types_pos
 unfold keyOf
 simp only [Tryz.underlying56]
 rw [if_pos (by simp [keyT, Value.formed, Tryz.underlying56, arrK.size, cs_size]), hm0]
 unfold Program.keyLits
 simp only [Tryz.underlying56, Value.cells]
 rw [if_pos (by rw [arrK.size]; simp [cs_size]), arrK.one, cs_toList, lits_at x m0 (List.range 32) (fun i hi => by simpa using hi)]
 have hfl : ∀ (l : List Nat) (f : Nat → Lit), (l.map fun i => [f i]).flatten = l.map f := fun l f => by induction l with | nil => rfl | cons a r ih => simp [ih]
 simp only [Option.map_some, hfl]
 rw [map_range]
 rfl
theorem key_inj {x y : Idn} (h : key x = key y) : x = y := by
 have h1 := keyOf_id x
 have h2 := keyOf_id y
 rw [← h] at h2
 have := law.inj h1 h2
 injection this with this
 exact cs_inj this
theorem keyOf_inv {v : Value} {kl : Lit} (h : keyOf Tryz.prog 56 v = some kl) : ∃ x, v = .agg (cs x) := by
 obtain ⟨m0, hm0⟩ := types_pos
 unfold keyOf at h
 simp only [Tryz.underlying56] at h
 split at h
 · rename_i hf
   simp only [Bool.and_eq_true] at hf
   have hf2 := hf.2
   cases v <;> simp [Value.formed, Tryz.underlying56] at hf2
   rename_i xs
   rw [arrK.size] at hf2
   rw [Option.map_eq_some_iff] at h
   obtain ⟨ls, hls, _⟩ := h
   rw [hm0] at hls
   unfold Program.keyLits at hls
   simp only [Tryz.underlying56, Value.cells] at hls
   rw [if_pos (by rw [arrK.size]; simpa using hf2), Option.map_eq_some_iff] at hls
   obtain ⟨ys, hys, _⟩ := hls
   rw [arrK.one] at hys
   have key : ∀ i, i < 32 → ∃ n, xs[i]? = some (.int .u8 n) ∧ 0 ≤ n ∧ n ≤ 255 := by
     intro i hi
     have q := mapM_some_get hys i i (by simp [hi])
     have hlen : ys.length = 32 := by simpa using mapM_some_length hys
     rw [List.getElem?_eq_getElem (by omega)] at q
     have e : ((xs.toList.drop (i * 1)).take 1) = [xs[i]'(by omega)] := by
       rw [Nat.mul_one]
       apply List.ext_getElem?
       intro j
       rw [List.getElem?_take, List.getElem?_drop]
       by_cases hj : j = 0
       · subst hj
         rw [if_pos (by omega), Nat.add_zero, Array.getElem?_toList, Array.getElem?_eq_getElem (by omega)]
         rfl
       · rw [if_neg (by omega), List.getElem?_eq_none (by simp; omega)]
     rw [e] at q
     rw [Array.getElem?_eq_getElem (by omega)]
     generalize xs[i]'(by omega) = u at q
     cases u <;> simp only [Program.keyLits, Tryz.underlying5] at q
     all_goals first | (cases q; done) | skip
     rename_i kd n
     split at q
     · rename_i hw
       obtain ⟨rfl, hw⟩ := hw
       have hb := B_of_wf hw
       unfold B at hb
       exact ⟨n, rfl, hb⟩
     · cases q
   have hl : (List.map (fun i => (xs[i]?).elim 0 fun v => match v with | .int _ n => n | _ => 0) (List.range 32)).length = 32 := by simp
   refine ⟨⟨List.map (fun i => (xs[i]?).elim 0 fun v => match v with | .int _ n => n | _ => 0) (List.range 32), hl, fun n hn => ?_⟩, ?_⟩
   · simp only [List.mem_map, List.mem_range] at hn
     obtain ⟨i, hi, rfl⟩ := hn
     obtain ⟨n, e, hb⟩ := key i hi
     rw [e]
     exact hb
   · congr 1
     apply Array.ext_getElem?
     intro i
     by_cases hi : i < 32
     · rw [cs_at _ i hi]
       obtain ⟨n, e, _⟩ := key i hi
       rw [e]
       simp [List.getD_eq_getElem?_getD, hi, e]
     · rw [Array.getElem?_eq_none (by omega), Array.getElem?_eq_none (by rw [cs_size]; omega)]
 · cases h
def SetD (D : DataW Unit) (L : List Idn) : Prop := (∀ x, Maps.has D (key x) = decide (x ∈ L)) ∧ ∀ x, x ∈ L → ∀ z, D.atKey (key x) z = .lit (.int .i64 1)
def SetIn (w : World) (b n : Nat) (L : List Idn) : Prop := ∃ D : DataW Unit, w.ownsMap Tryz.prog 56 (plainElem Tryz.prog 3) b n D ∧ SetD D L
theorem SetIn.made (w : World) : SetIn (w.alloc (.map #[] 0)) w.heap.size 0 [] := ⟨.map [], World.ownsMap_made _ _ _ _, fun x => by simp [Maps.has], fun x hx => absurd hx (by simp)⟩
theorem SetIn.lt {w : World} {b n : Nat} {L : List Idn} (h : SetIn w b n L) : b < w.heap.size := by obtain ⟨D, hD, _⟩ := h; exact hD.lt
theorem SetIn.kept {w w' : World} {b n : Nat} {L : List Idn} {row : Option Nat} (h : SetIn w b n L) (hg : w.grownBy w' row) (hne : some b ≠ row) : SetIn w' b n L := by
 obtain ⟨D, hD, hs⟩ := h
 exact ⟨D, hD.kept hg hne, hs⟩
theorem SetIn.below {w w' : World} {b n : Nat} {L : List Idn} (h : SetIn w b n L) (hb : Below w.heap.size w w') : SetIn w' b n L := h.kept (grown_of_below hb none) (by simp)
theorem SetIn.alloc {w : World} {b n : Nat} {L : List Idn} (h : SetIn w b n L) (o : Obj) : SetIn (w.alloc o) b n L := h.kept (World.grownBy_alloc w o none) (by simp)
theorem SetIn.congr {w : World} {b n : Nat} {L L' : List Idn} (h : SetIn w b n L) (he : ∀ x, x ∈ L ↔ x ∈ L') : SetIn w b n L' := by
 obtain ⟨D, hD, h1, h2⟩ := h
 exact ⟨D, hD, fun x => by rw [h1]; simp only [he], fun x hx => h2 x ((he x).2 hx)⟩
theorem SetIn.up {w : World} {b n : Nat} {L : List Idn} (h : SetIn w b n L) : SetIn w b (n + 1) L := by
 obtain ⟨D, hD, hs⟩ := h
 exact ⟨D, hD.mono (Nat.le_succ _), hs⟩
theorem put_D {D : DataW Unit} {L : List Idn} (hm : Maps.IsMap D) (h : SetD D L) (y : Idn) : SetD (D.put (key y) (.lit (.int .i64 1))) (y :: L) := by
 have hk : WideAt.IsKeyLit (key y) := law.key (keyOf_id y)
 refine ⟨fun x => ?_, fun x hx z => ?_⟩
 · by_cases hxy : x = y
   · subst hxy
     rw [Maps.has_put_same hm hk]
     simp
   · rw [Maps.has_put_other (fun e => hxy (key_inj e)), h.1]
     simp [hxy]
 · by_cases hxy : x = y
   · subst hxy
     exact Maps.atKey_put_same hm hk _ _
   · rw [Maps.atKey_put_other (fun e => hxy (key_inj e))]
     exact h.2 x (by simpa [hxy] using hx) z
theorem del_D {D : DataW Unit} {L : List Idn} (h : SetD D L) (y : Idn) : SetD (D.del (key y)) (L.filter fun x => decide (x ≠ y)) := by
 refine ⟨fun x => ?_, fun x hx z => ?_⟩
 · by_cases hxy : x = y
   · subst hxy
     rw [Maps.has_del_same]
     simp
   · rw [Maps.has_del_other (fun e => hxy (key_inj e)), h.1]
     simp [hxy]
 · simp only [List.mem_filter, decide_eq_true_eq] at hx
   rw [Maps.atKey_del_other (fun e => hx.2 (key_inj e))]
   exact h.2 x hx.1 z
section
variable (w : World) {ops : Array Oper} {rest : List Oper} {o : Oper} {a : Act} {Q : Exit → Act → World → Prop}
theorem wpList_put (hg : o.guard = none) (m x v : Operand) (hop : o.op = Op.mapUpdate 126 m x v) (b n : Nat) (L : List Idn) (hm : a.eval m = .map (some b)) (h : SetIn w b n L) (hn : n < 1000000)
   (y : Idn) (hx : a.eval x = .agg (cs y)) (hv : a.eval v = .int .i64 1) (hK : ∀ w', SetIn w' b (n + 1) (y :: L) → w.grownBy w' (some b) → wpList Tryz.prog ops Q rest (a.put o.dst undef) w') : wpList Tryz.prog ops Q (o :: rest) a w := by
 obtain ⟨D, hD, hs⟩ := h
 exact wpList_mapUpdate_own w hg m x v 126 hop 56 3 law Tryz.underlying126 _ b n D hm hD (by unfold maxLen; omega) _ _ (key y) hx hv (keyOf_id y) _ [] (plainElem_int Tryz.underlying3 (by decide))
   (fun w' h1 h2 => hK w' ⟨_, h1, put_D hD.isMap hs y⟩ h2)
theorem wpList_take (hg : o.guard = none) (m x : Operand) (hop : o.op = Op.call { callee := Callee.builtin Builtin.delete, args := #[m, x], argTypes := #[126, 56] }) (b n : Nat) (L : List Idn) (hm : a.eval m = .map (some b)) (h : SetIn w b n L)
   (y : Idn) (hx : a.eval x = .agg (cs y)) (hK : ∀ w', SetIn w' b n (L.filter fun x => decide (x ≠ y)) → w.grownBy w' (some b) → wpList Tryz.prog ops Q rest (a.put o.dst (.tuple #[])) w') : wpList Tryz.prog ops Q (o :: rest) a w := by
 obtain ⟨D, hD, hs⟩ := h
 exact wpList_delete_own w hg m x 126 56 hop 3 law Tryz.underlying126 _ b n D hm hD _ (key y) hx (keyOf_id y) (fun w' h1 h2 => hK w' ⟨_, h1, del_D hs y⟩ h2.grown)
theorem zero_int (w : World) : (zeroValue 3).run Tryz.prog w = .ok (.int .i64 0) w := by kernel_rfl
theorem wpList_find (hg : o.guard = none) (m x : Operand) (hop : o.op = Op.lookup 126 m x false) (b n : Nat) (L : List Idn) (hm : a.eval m = .map (some b)) (h : SetIn w b n L)
   (y : Idn) (hx : a.eval x = .agg (cs y)) (hK : wpList Tryz.prog ops Q rest (a.put o.dst (.int .i64 (if y ∈ L then 1 else 0))) w) : wpList Tryz.prog ops Q (o :: rest) a w := by
 obtain ⟨D, hD, hs⟩ := h
 refine wpList_lookup_own_int w hg m x 126 hop 56 3 .i64 law Tryz.underlying126 Tryz.underlying3 (zero_int w) b n D hm hD _ (key y) hx (keyOf_id y) (fun c hat _ => ?_)
 have hc : c = if y ∈ L then 1 else 0 := by
   by_cases hy : y ∈ L
   · rw [hs.2 y hy] at hat
     simp only [hy, if_true]
     injection hat with hat
     injection hat with _ hat
     exact hat.symm
   · have hh := hs.1 y
     simp only [hy, decide_false] at hh
     rw [Maps.atKey_of_not_has hh] at hat
     simp only [hy, if_false]
     injection hat with hat
     injection hat with _ hat
     exact hat.symm
 rw [hc]
 exact hK
end
end Go.Proofs.YtgmdhaepiclkcaaGreatDoor.IdK
