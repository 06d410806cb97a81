/- Texts as keys of a map of numbers. No condition. | What gather does to a map: a contract. | A contract of the library's, laid at this program: slices.Sort at texts. | The keys of a map of numbers, sorted: what rising returns: a contract. | The keys of a map of numbers, sorted: a contract. | What counts returns: a contract. -/
import Derived.Test.YtgmdhaepiclkcaaGreatDoorCmTJ4
import Derived.Test.YtgmdhaepiclkcaaGreatDoorRowInJ9
import Derived.StringKeys
import Derived.Maps.RangeWalk
import Derived.Maps.OwnSet
import Derived.Maps.OwnOps
import Derived.Test.YtgmdhaepiclkcaaGreatDoorCtrLJ3
import Derived.Test.YtgmdhaepiclkcaaGreatDoorDgNJ21
import Derived.Test.YtgmdhaepiclkcaaGreatDoorRowBJ2
import Derived.Maps.AppendAt
import Derived.Shelf.SlLaysM
import Derived.Test.YtgmdhaepiclkcaaGreatDoorProg
import Derived.Shelf.SortM.Plain
import Derived.Shelf.SortM.SortNone
import Derived.Sort.OwnSorted
import Derived.Sort.Walk0
namespace Go.Proofs.YtgmdhaepiclkcaaGreatDoor.StrK
set_option maxRecDepth 100000
open Go Go.RowKit Go.Maps Byt Rise
theorem law : Keyed Tryz.prog 9 := string_keyed Tryz.underlying9
def key (x : ByteArray) : Lit := .string x.data.toList
theorem keyOf_str {x : ByteArray} (hx : x.size ≤ maxLen) : keyOf Tryz.prog 9 (.string x) = some (key x) := Go.WideMaps.keyOf_string_mk Tryz.underlying9 hx
theorem key_inj {x y : ByteArray} (h : key x = key y) : x = y := by
 injection h with h
 cases x; cases y
 congr 1
 exact Array.ext' h
theorem keyOf_inv {v : Value} {kl : Lit} (h : keyOf Tryz.prog 9 v = some kl) : ∃ x : ByteArray, v = .string x := by
 obtain ⟨s, h1, _, _⟩ := Go.WideMaps.string_of_keyOf Tryz.underlying9 h
 exact ⟨s, h1⟩
theorem keyOf_key {x : ByteArray} {kl : Lit} (h : keyOf Tryz.prog 9 (.string x) = some kl) : kl = key x ∧ x.size ≤ maxLen := by
 obtain ⟨s, h1, h2, h3⟩ := Go.WideMaps.string_of_keyOf Tryz.underlying9 h
 injection h1 with h1
 subst h1
 exact ⟨h2, h3⟩
theorem same_self (x : ByteArray) : (key x).sameKey (key x) = true := by simp [Lit.sameKey, key]
def In64 (x : Int) : Prop := -9223372036854775808 ≤ x ∧ x ≤ 9223372036854775807
theorem wf64 {n : Int} (h : In64 n) : (Lit.int .i64 n).wf = true := by
 unfold In64 at h
 simp [Lit.wf, IntKind.min, IntKind.max, IntKind.bits, IntKind.signed]
 omega
def upd (v : ByteArray → Int) (y : ByteArray) (c : Int) : ByteArray → Int := fun x => if x = y then c else v x
def NumD (D : DataW Unit) (K : List ByteArray) (v : ByteArray → Int) : Prop :=
 (∀ x, Maps.has D (key x) = true ↔ x ∈ K) ∧ (∀ x, x ∈ K → ∀ z, D.atKey (key x) z = .lit (.int .i64 (v x))) ∧ ∀ x, x ∉ K → v x = 0
def NumIn (w : World) (b n : Nat) (K : List ByteArray) (v : ByteArray → Int) : Prop := ∃ D : DataW Unit, w.ownsMap Tryz.prog 9 (plainElem Tryz.prog 3) b n D ∧ NumD D K v
theorem NumIn.made (w : World) : NumIn (w.alloc (.map #[] 0)) w.heap.size 0 [] fun _ => 0 := ⟨.map [], World.ownsMap_made _ _ _ _, fun x => by simp [Maps.has], fun x hx => absurd hx (by simp), fun _ _ => rfl⟩
theorem NumIn.lt {w : World} {b n : Nat} {K : List ByteArray} {v : ByteArray → Int} (h : NumIn w b n K v) : b < w.heap.size := by obtain ⟨D, hD, _⟩ := h; exact hD.lt
theorem NumIn.kept {w w' : World} {b n : Nat} {K : List ByteArray} {v : ByteArray → Int} {row : Option Nat} (h : NumIn w b n K v) (hg : w.grownBy w' row) (hne : some b ≠ row) : NumIn w' b n K v := by
 obtain ⟨D, hD, hs⟩ := h
 exact ⟨D, hD.kept hg hne, hs⟩
theorem NumIn.below {w w' : World} {b n : Nat} {K : List ByteArray} {v : ByteArray → Int} (h : NumIn w b n K v) (hb : Below w.heap.size w w') : NumIn w' b n K v := h.kept (grown_of_below hb none) (by simp)
theorem NumIn.alloc {w : World} {b n : Nat} {K : List ByteArray} {v : ByteArray → Int} (h : NumIn w b n K v) (o : Obj) : NumIn (w.alloc o) b n K v := h.kept (World.grownBy_alloc w o none) (by simp)
theorem NumIn.congr {w : World} {b n : Nat} {K K' : List ByteArray} {v v' : ByteArray → Int} (h : NumIn w b n K v) (he : ∀ x, x ∈ K ↔ x ∈ K') (hv : ∀ x, v x = v' x) : NumIn w b n K' v' := by
 obtain ⟨D, hD, h1, h2, h3⟩ := h
 exact ⟨D, hD, fun x => by rw [h1]; simp only [he], fun x hx z => by rw [h2 x ((he x).2 hx), hv], fun x hx => by rw [← hv]; exact h3 x (fun h => hx ((he x).1 h))⟩
theorem NumIn.up {w : World} {b n m : Nat} {K : List ByteArray} {v : ByteArray → Int} (h : NumIn w b n K v) (hm : n ≤ m) : NumIn w b m K v := by
 obtain ⟨D, hD, hs⟩ := h
 exact ⟨D, hD.mono hm, hs⟩
theorem put_D {D : DataW Unit} {K : List ByteArray} {v : ByteArray → Int} (hm : Maps.IsMap D) (h : NumD D K v) {y : ByteArray} (hy : y.size ≤ maxLen) (c : Int) : NumD (D.put (key y) (.lit (.int .i64 c))) (y :: K) (upd v y c) := by
 have hk : WideAt.IsKeyLit (key y) := law.key (keyOf_str hy)
 refine ⟨fun x => ?_, fun x hx z => ?_, fun x hx => ?_⟩
 · by_cases hxy : x = y
   · subst hxy
     rw [Maps.has_put_same hm hk]
     simp
   · rw [Maps.has_put_other (fun e => hxy (key_inj e)), h.1]
     simp [hxy]
 · unfold upd
   by_cases hxy : x = y
   · subst hxy
     rw [if_pos rfl]
     exact Maps.atKey_put_same hm hk _ _
   · rw [Maps.atKey_put_other (fun e => hxy (key_inj e)), if_neg hxy]
     exact h.2.1 x (by simpa [hxy] using hx) z
 · simp only [List.mem_cons, not_or] at hx
   unfold upd
   rw [if_neg hx.1]
   exact h.2.2 x hx.2
theorem zero_int (w : World) : (zeroValue 3).run Tryz.prog w = .ok (.int .i64 0) w := by kernel_rfl
section
variable (w : World) {ops : Array Oper} {rest : List Oper} {o : Oper} {a : Act} {Q : Exit → Act → World → Prop}
theorem wpList_put (hg : o.guard = none) (m x v : Operand) (hop : o.op = Op.mapUpdate 133 m x v) (b n : Nat) (K : List ByteArray) (f : ByteArray → Int) (hm : a.eval m = .map (some b)) (h : NumIn w b n K f) (hn : n < 1000000000)
   (y : ByteArray) (hy : y.size ≤ maxLen) (c : Int) (hc : In64 c) (hx : a.eval x = .string y) (hv : a.eval v = .int .i64 c) (hK : ∀ w', NumIn w' b (n + 1) (y :: K) (upd f y c) → w.grownBy w' (some b) → wpList Tryz.prog ops Q rest (a.put o.dst undef) w') : wpList Tryz.prog ops Q (o :: rest) a w := by
 obtain ⟨D, hD, hs⟩ := h
 exact wpList_mapUpdate_own w hg m x v 133 hop 9 3 law Tryz.underlying133 _ b n D hm hD (by unfold maxLen; omega) _ _ (key y) hx hv (keyOf_str hy) _ [] (plainElem_int Tryz.underlying3 (wf64 hc))
   (fun w' h1 h2 => hK w' ⟨_, h1, put_D hD.isMap hs hy c⟩ h2)
theorem wpList_insert (hg : o.guard = none) (m x v : Operand) (hop : o.op = Op.insert 133 m x v) (b n : Nat) (K : List ByteArray) (f : ByteArray → Int) (hm : a.eval m = .map (some b)) (h : NumIn w b n K f) (hn : n < 1000000000)
   (y : ByteArray) (hy : y.size ≤ maxLen) (c : Int) (hc : In64 c) (hx : a.eval x = .string y) (hv : a.eval v = .int .i64 c) (hK : ∀ w', NumIn w' b (n + 1) (y :: K) (upd f y c) → w.grownBy w' (some b) → wpList Tryz.prog ops Q rest (a.put o.dst undef) w') : wpList Tryz.prog ops Q (o :: rest) a w := by
 obtain ⟨D, hD, hs⟩ := h
 refine wpList_plain hg fun K' hK' => ?_
 obtain ⟨w', hrun, r1, r2⟩ := hD.update law Tryz.underlying133 (by unfold maxLen; omega) (keyOf_str hy) (plainElem_int Tryz.underlying3 (wf64 hc))
 unfold Oper.wp
 simp [execOp, hop, hm, hx, hv, hrun, Result.andThen]
 exact hK' _ _ (hK w' ⟨_, r1, put_D hD.isMap hs hy c⟩ r2)
theorem wpList_find (hg : o.guard = none) (m x : Operand) (hop : o.op = Op.lookup 133 m x false) (b n : Nat) (K : List ByteArray) (f : ByteArray → Int) (hm : a.eval m = .map (some b)) (h : NumIn w b n K f)
   (y : ByteArray) (hy : y.size ≤ maxLen) (hx : a.eval x = .string y) (hK : wpList Tryz.prog ops Q rest (a.put o.dst (.int .i64 (f y))) w) : wpList Tryz.prog ops Q (o :: rest) a w := by
 obtain ⟨D, hD, hs⟩ := h
 refine wpList_lookup_own_int w hg m x 133 hop 9 3 .i64 law Tryz.underlying133 Tryz.underlying3 (zero_int w) b n D hm hD _ (key y) hx (keyOf_str hy) (fun c hat _ => ?_)
 have hc : c = f y := by
   by_cases hyK : y ∈ K
   · rw [hs.2.1 y hyK] at hat
     injection hat with hat
     injection hat with _ hat
     exact hat.symm
   · have hh : Maps.has D (key y) = false := by
       rw [← Bool.not_eq_true, hs.1 y]
       exact hyK
     rw [Maps.atKey_of_not_has hh] at hat
     rw [hs.2.2 y hyK]
     injection hat with hat
     injection hat with _ hat
     exact hat.symm
 rw [hc]
 exact hK
end
end Go.Proofs.YtgmdhaepiclkcaaGreatDoor.StrK
namespace Go.Proofs.YtgmdhaepiclkcaaGreatDoor.CtrG
set_option maxRecDepth 100000
open Go Go.RowKit Byt OpsM Rise CtrM RowS RowB CtrW StrK
theorem w64_wrap (x : Int) : w64 x = wrap64 x := by rw [w64_eq]; unfold wrap64; rfl
theorem in_wrap (x : Int) : StrK.In64 (wrap64 x) := by rw [← w64_wrap]; exact CtrL.w64_in x
def more (t : Int) (v : ByteArray → Int) (c : Cn) : ByteArray → Int := upd v c.key (w64 (v c.key + w64 (t * c.n)))
def gath (t : Int) (v : ByteArray → Int) (l : List Cn) : ByteArray → Int := l.foldl (more t) v
theorem gath_snoc (t : Int) (v : ByteArray → Int) (l : List Cn) (c : Cn) : gath t v (l ++ [c]) = more t (gath t v l) c := by simp [gath]
theorem gath_take (t : Int) (v : ByteArray → Int) {l : List Cn} {k : Nat} {c : Cn} (h : l[k]? = some c) : gath t v (l.take (k + 1)) = more t (gath t v (l.take k)) c := by
 obtain ⟨hk, rfl⟩ := List.getElem?_eq_some_iff.1 h
 rw [List.take_succ_eq_append_getElem hk, gath_snoc]
theorem keys_take {l : List Cn} {k : Nat} {c : Cn} (h : l[k]? = some c) (K : List ByteArray) (z : ByteArray) : z ∈ c.key :: (K ++ (l.take k).map Cn.key) ↔ z ∈ K ++ (l.take (k + 1)).map Cn.key := by
 obtain ⟨hk, rfl⟩ := List.getElem?_eq_some_iff.1 h
 rw [List.take_succ_eq_append_getElem hk]
 simp only [List.mem_cons, List.mem_append, List.map_append, List.map_cons, List.map_nil, List.not_mem_nil, or_false]
 constructor
 · rintro (h | h | h)
   · exact .inr (.inr h)
   · exact .inl h
   · exact .inr (.inl h)
 · rintro (h | h | h)
   · exact .inr (.inl h)
   · exact .inr (.inr h)
   · exact .inl h
theorem gath_get (t : Int) : ∀ (l : List Cn) (v : ByteArray → Int) (k : ByteArray), Rises Cn.key ltS l → CtrL.In64 (v k) → gath t v l k = w64 (v k + w64 (t * getC l k))
 | [], v, k, _, hv => by
   show v k = w64 (v k + w64 (t * 0))
   rw [Int.mul_zero, CtrL.w64_id (x := 0) (by unfold CtrL.In64; omega), Int.add_zero, CtrL.w64_id hv]
 | c :: r, v, k, h, hv => by
   obtain ⟨h1, h2⟩ := List.pairwise_cons.1 h
   show gath t (more t v c) r k = _
   by_cases hk : c.key = k
   · have hm : more t v c k = w64 (v k + w64 (t * c.n)) := by unfold more upd; rw [if_pos hk.symm, hk]
     have hr : getC r k = 0 := getC_none (fun d hd => by
       have := strictS.ne (h1 d hd)
       rw [hk] at this
       exact this.symm)
     rw [gath_get t r _ k h2 (by rw [hm]; exact CtrL.w64_in _), hm, hr, getC_cons, if_pos hk, Int.mul_zero, CtrL.w64_id (x := 0) (by unfold CtrL.In64; omega), Int.add_zero, CtrL.w64_id (CtrL.w64_in _)]
   · have hm : more t v c k = v k := by unfold more upd; rw [if_neg (fun e => hk e.symm)]
     rw [gath_get t r _ k h2 (by rw [hm]; exact hv), hm, getC_cons, if_neg hk]
set_option maxHeartbeats 4000000 in
theorem gather_ret (b n : Nat) (K : List ByteArray) (v : ByteArray → Int) (A : Option Addr) (cap : Nat) (l : List Cn) (t : Int) (w : World) (h : NumIn w b n K v) (S : SlR E w A cap l) (hf : Fits l) (hn : n ≤ 100000000) (hl : l.length ≤ 100000000) :
   Calls Tryz.prog 93 #[.map (some b), .slice A l.length cap, .int .i64 t] w fun e w' => e = .returned (.tuple #[]) ∧ NumIn w' b (n + l.length) (K ++ l.map Cn.key) (gath t v l) ∧ w.grownBy w' (some b) := by
 have hcap := S.1
 go_enter Tryz.func93, Tryz.ntmps93
 go_wp2_with fail
 go_loopw [10] (fun i wr => ∃ k : Nat, k ≤ l.length ∧ i = .int .i64 k ∧ NumIn wr b (n + k) (K ++ (l.take k).map Cn.key) (gath t v (l.take k)) ∧ w.grownBy wr (some b)) (fun i _ => l.length - (intOf i).toNat)
 case atStart => exact ⟨0, Nat.zero_le _, rfl, by simpa [gath] using h, grown_of_below (Below.refl _ _) _⟩
 case round =>
   obtain ⟨k, hk, rfl, hset, kg⟩ := hrel
   by_cases hlt : k < l.length
   · obtain ⟨g, off, rfl, hbw, hr⟩ := S.plain (by omega)
     obtain ⟨x, hx⟩ : ∃ x, l[k]? = some x := ⟨_, List.getElem?_eq_getElem hlt⟩
     have hxm := List.mem_of_getElem? hx
     obtain ⟨x1, x2, x3⟩ := hf x hxm
     have hne : g ≠ b := by
       obtain ⟨D, ⟨es, clock, hm, _⟩, _⟩ := h
       exact map_not_cells hm (hr k x hx)
     have hr1 := range_kept (hr k x hx) kg hbw hne
     have HT := aside (gath_take t v hx)
     have HK := aside (keys_take hx K)
     obtain ⟨f, hf0⟩ : ∃ f, gath t v (l.take k) = f := ⟨_, rfl⟩
     rw [hf0] at hset HT
     have p0 : (k : Int) < l.length := by omega
     have m0 : ((k : Int)).toNat = k := by omega
     have hmx : x.key.size ≤ maxLen := by unfold maxLen; omega
     clear hr S hx hf hxm hf0 h
     go_wp2_with (first
       | (refine wpList_load_at E rfl _ rfl g _ rfl x hr1 ?_)
       | (refine wpList_store_new E rfl _ _ rfl _ _ _ rfl x _ rfl rfl rfl rfl ?_; intro w2 bx kx gx sx; have c0 := bx.cell (j := 0) rfl; have c1 := bx.cell (j := 1) rfl)
       | (refine wpList_find _ rfl _ _ rfl b _ _ f rfl (hset.kept gx (by simp)) x.key hmx rfl ?_)
       | (refine wpList_put _ rfl _ _ _ rfl b _ _ f rfl (hset.kept gx (by simp)) (by omega) x.key hmx (wrap64 (f x.key + wrap64 (t * x.n))) (in_wrap _) rfl rfl ?_; intro w3 hs3 hg3))
     go_roundw
     case rel =>
       refine ⟨k + 1, by omega, by go_num, (hs3.congr HK.out (fun z => ?_)).up (by omega), ?_⟩
       · rw [HT.out, ← w64_wrap, ← w64_wrap]
         rfl
       · exact (kg.trans (gx.but _)).trans hg3
     case measure => simp [intOf]; omega
   · have e : k = l.length := by omega
     subst e
     rw [List.take_length] at hset
     go_wp2_with fail
     go_end0
     exact ⟨rfl, hset, kg⟩
end Go.Proofs.YtgmdhaepiclkcaaGreatDoor.CtrG
namespace Go.Proofs
set_option maxRecDepth 100000
open Go.Shelf
def Tryz.sortStrs_ren : Go.Shelf.Ren := ⟨fun | 6 => 172 | 8 => 151 | 9 => 209 | 19 => 184 | 20 => 185 | 21 => 228 | 22 => 229 | 23 => 230 | 24 => 231 | 25 => 232 | 26 => 233 | 27 => 234 | 28 => 235 | 29 => 236 | 31 => 220 | 32 => 221 | 36 => 242 | 37 => 243 | 38 => 244 | 39 => 245 | 41 => 247 | n => n, fun | 0 => 0 | 3 => 3 | 4 => 4 | 5 => 5 | 9 => 9 | 26 => 170 | 27 => 170 | 29 => 9 | 32 => 184 | 35 => 202 | 36 => 203 | 41 => 207 | 44 => 161 | 46 => 157 | 53 => 229 | 57 => 233 | 63 => 245 | 64 => 246 | n => n, fun | n => n⟩
theorem Tryz.sortStrs : Go.Proofs.SlLaysM.n6 Tryz.prog Tryz.sortStrs_ren := {
 mixed := by kernel_rfl
 f6 := ⟨Tryz.f172.name, by decide, Tryz.func172.trans (congrArg some (by kernel_rfl))⟩
 f8 := Tryz.func151.trans (congrArg some (by kernel_rfl))
 f9 := ⟨Tryz.f209.name, by decide, Tryz.func209.trans (congrArg some (by kernel_rfl))⟩
 f19 := Tryz.func184.trans (congrArg some (by kernel_rfl))
 f20 := Tryz.func185.trans (congrArg some (by kernel_rfl))
 f21 := ⟨Tryz.f228.name, by decide, Tryz.func228.trans (congrArg some (by kernel_rfl))⟩
 f22 := ⟨Tryz.f229.name, by decide, Tryz.func229.trans (congrArg some (by kernel_rfl))⟩
 f23 := ⟨Tryz.f230.name, by decide, Tryz.func230.trans (congrArg some (by kernel_rfl))⟩
 f24 := ⟨Tryz.f231.name, by decide, Tryz.func231.trans (congrArg some (by kernel_rfl))⟩
 f25 := ⟨Tryz.f232.name, by decide, Tryz.func232.trans (congrArg some (by kernel_rfl))⟩
 f26 := ⟨Tryz.f233.name, by decide, Tryz.func233.trans (congrArg some (by kernel_rfl))⟩
 f27 := ⟨Tryz.f234.name, by decide, Tryz.func234.trans (congrArg some (by kernel_rfl))⟩
 f28 := ⟨Tryz.f235.name, by decide, Tryz.func235.trans (congrArg some (by kernel_rfl))⟩
 f29 := ⟨Tryz.f236.name, by decide, Tryz.func236.trans (congrArg some (by kernel_rfl))⟩
 f31 := Tryz.func220.trans (congrArg some (by kernel_rfl))
 f32 := Tryz.func221.trans (congrArg some (by kernel_rfl))
 f36 := ⟨Tryz.f242.name, by decide, Tryz.func242.trans (congrArg some (by kernel_rfl))⟩
 f37 := ⟨Tryz.f243.name, by decide, Tryz.func243.trans (congrArg some (by kernel_rfl))⟩
 f38 := ⟨Tryz.f244.name, by decide, Tryz.func244.trans (congrArg some (by kernel_rfl))⟩
 f39 := ⟨Tryz.f245.name, by decide, Tryz.func245.trans (congrArg some (by kernel_rfl))⟩
 f41 := ⟨Tryz.f247.name, by decide, Tryz.func247.trans (congrArg some (by kernel_rfl))⟩
 t0 := Tryz.underlying0
 a0 := Tryz.isAgg0
 z0 := Tryz.sizeOf0
 v0 := Tryz.zeroValue0
 t3 := Tryz.underlying3
 a3 := Tryz.isAgg3
 z3 := Tryz.sizeOf3
 v3 := Tryz.zeroValue3
 t4 := Tryz.underlying4
 a4 := Tryz.isAgg4
 z4 := Tryz.sizeOf4
 v4 := Tryz.zeroValue4
 t5 := Tryz.underlying5
 a5 := Tryz.isAgg5
 z5 := Tryz.sizeOf5
 v5 := Tryz.zeroValue5
 t9 := Tryz.underlying9
 a9 := Tryz.isAgg9
 z9 := Tryz.sizeOf9
 v9 := Tryz.zeroValue9
 t26 := Tryz.underlying170
 a26 := Tryz.isAgg170
 z26 := Tryz.sizeOf170
 v26 := Tryz.zeroValue170
 t27 := Tryz.underlying170
 a27 := Tryz.isAgg170
 z27 := Tryz.sizeOf170
 v27 := Tryz.zeroValue170
 t29 := Tryz.underlying9
 a29 := Tryz.isAgg9
 z29 := Tryz.sizeOf9
 v29 := Tryz.zeroValue9
 t32 := Tryz.underlying184
 a32 := Tryz.isAgg184
 z32 := Tryz.sizeOf184
 v32 := Tryz.zeroValue184
 t35 := Tryz.underlying202
 a35 := Tryz.isAgg202
 z35 := Tryz.sizeOf202
 v35 := Tryz.zeroValue202
 t36 := Tryz.underlying203
 a36 := Tryz.isAgg203
 z36 := Tryz.sizeOf203
 v36 := Tryz.zeroValue203
 t41 := Tryz.underlying207
 a41 := Tryz.isAgg207
 z41 := Tryz.sizeOf207
 v41 := Tryz.zeroValue207
 t44 := Tryz.underlying161
 a44 := Tryz.isAgg161
 z44 := Tryz.sizeOf161
 v44 := Tryz.zeroValue161
 t46 := Tryz.underlying157
 a46 := Tryz.isAgg157
 z46 := Tryz.sizeOf157
 v46 := Tryz.zeroValue157
 t53 := Tryz.underlying229
 a53 := Tryz.isAgg229
 z53 := Tryz.sizeOf229
 v53 := Tryz.zeroValue229
 t57 := Tryz.underlying233
 a57 := Tryz.isAgg233
 z57 := Tryz.sizeOf233
 v57 := Tryz.zeroValue233
 t63 := Tryz.underlying245
 a63 := Tryz.isAgg245
 z63 := Tryz.sizeOf245
 v63 := Tryz.zeroValue245
 t64 := Tryz.underlying246
 a64 := Tryz.isAgg246
 z64 := Tryz.sizeOf246
 v64 := Tryz.zeroValue246 }
end Go.Proofs
namespace Go.Proofs.YtgmdhaepiclkcaaGreatDoor.StrT
set_option maxRecDepth 100000
open Go Go.RowKit Go.Sort Go.Shelf Go.Proofs Byt Rise StrK
def ts (l : List ByteArray) : List Value := l.map Value.string
theorem ts_append (a b : List ByteArray) : ts (a ++ b) = ts a ++ ts b := by simp [ts]
def raw (l : List ByteArray) : List (List UInt8) := l.map fun x => x.data.toList
def cook (l : List (List UInt8)) : List ByteArray := l.map fun x => ⟨x.toArray⟩
theorem cook_raw (l : List ByteArray) : cook (raw l) = l := by
 unfold cook raw
 rw [List.map_map]
 have : ((fun x : List UInt8 => (⟨x.toArray⟩ : ByteArray)) ∘ fun x : ByteArray => x.data.toList) = id := by
   funext x
   cases x
   simp
 rw [this, List.map_id]
theorem enc_cook (l : List (List UInt8)) : l.map encStr = ts (cook l) := by
 unfold ts cook
 rw [List.map_map]
 rfl
theorem enc_raw (l : List ByteArray) : (raw l).map encStr = ts l := by rw [enc_cook, cook_raw]
theorem ltS_iff (a b : ByteArray) : ltS a b = decide (a.data.toList < b.data.toList) := by
 unfold ltS
 rw [bytesLess_eq, ByteArray.toList_eq, ByteArray.toList_eq]
theorem sorted_of {l : List ByteArray} (hn : l.Nodup) : Rises id ltS (cook ((raw l).mergeSort fun x y => decide (x ≤ y))) ∧ (∀ x, x ∈ cook ((raw l).mergeSort fun x y => decide (x ≤ y)) ↔ x ∈ l) ∧ (cook ((raw l).mergeSort fun x y => decide (x ≤ y))).length = l.length := by
 have hp := List.mergeSort_perm (raw l) fun x y => decide (x ≤ y)
 have hs : ((raw l).mergeSort fun x y => decide (x ≤ y)).Pairwise fun x y => decide (x ≤ y) = true :=
   List.pairwise_mergeSort (fun a b c h1 h2 => by simp only [decide_eq_true_eq] at *; exact List.le_trans h1 h2) (fun a b => by simp only [Bool.or_eq_true, decide_eq_true_eq]; exact List.le_total a b) _
 have hc : (cook ((raw l).mergeSort fun x y => decide (x ≤ y))).Perm l := by
   have := hp.map (fun x : List UInt8 => (⟨x.toArray⟩ : ByteArray))
   have e : (raw l).map (fun x : List UInt8 => (⟨x.toArray⟩ : ByteArray)) = l := cook_raw l
   rwa [e] at this
 refine ⟨?_, fun x => hc.mem_iff, hc.length_eq⟩
 have hnd := hc.nodup_iff.2 hn
 unfold Rises
 have h1 : (cook ((raw l).mergeSort fun x y => decide (x ≤ y))).Pairwise fun x y => x.data.toList ≤ y.data.toList := by
   unfold cook
   rw [List.pairwise_map]
   exact hs.imp (fun h => by simpa using h)
 refine (h1.and (List.nodup_iff_pairwise_ne.1 hnd)).imp ?_
 rintro x y ⟨h2, h3⟩
 show ltS x y = true
 rw [ltS_iff, decide_eq_true_eq]
 rcases Classical.em (x.data.toList < y.data.toList) with h | h
 · exact h
 · refine absurd ?_ h3
   have e := List.le_antisymm h2 (List.not_lt.1 h)
   cases x; cases y
   congr 1
   exact Array.ext' e
theorem zero_str : (Tryz.prog.info? 9).map (fun i => (i.zero, i.size, i.bytes)) = some (some (.string ⟨#[]⟩), 1, 16) := by kernel_rfl
theorem new1 (w : World) (x : ByteArray) (t : TypeId) : ∀ j u, (ts [x])[j]? = some u → (w.alloc (.cells #[.string x] t)).cell? ((⟨w.heap.size, 0, none⟩ : Addr).add j) = some u := by
 intro j u hu
 cases j with
 | zero =>
   simp only [ts, List.map_cons, List.map_nil, List.getElem?_cons_zero, Option.some.injEq] at hu
   subst hu
   rw [Addr.add_lit, Nat.zero_add, cell_of_row _ _ 0 _ t (0, 0) (heap_alloc_new w _)]
   rfl
 | succ j => simp [ts] at hu
theorem wpList_append_str {w : World} {ops : Array Oper} {rest : List Oper} {o : Oper} {a : Act} {Q : Exit → Act → World → Prop} (hgd : o.guard = none) (s x : Operand)
   (ho : o.op = .call { callee := .builtin .append, args := #[s, x], argTypes := #[170, 170] })
   (base : Nat) (v : Value) (n : Nat) (xs : List ByteArray) (hs : a.eval s = v) (hown : w.ownsRow base 9 1 v n (ts xs))
   (ad : Addr) (y : ByteArray) (hx : a.eval x = .slice (some ad) 1 1) (hr : ∀ j u, (ts [y])[j]? = some u → w.cell? (ad.add j) = some u)
   (h63 : n ≤ 1000000000) (hbase : base ≤ w.heap.size)
   (h : ∀ v' w', w'.ownsRow base 9 1 v' (n + 1) (ts (xs ++ [y])) → w.grownBy w' v.ownBlock → wpList Tryz.prog ops Q rest (a.put o.dst v') w') : wpList Tryz.prog ops Q (o :: rest) a w := by
 obtain ⟨i, hi, z0, z1, z2⟩ := info_parts zero_str
 exact wpList_append_own w hgd s x 170 ho base 9 i (.string ⟨#[]⟩) 1 16 Tryz.underlying170 hi z0 z1 z2 rfl (by decide) v n (ts xs) hs hown ad 1 1 (ts [y]) hx (by simp [ts]) hr (by intro u hu; simp [ts] at hu; subst hu; rfl) (by unfold maxLen; omega) (by omega) hbase
   (fun v' w' a1 a2 _ => h v' w' (by rw [ts_append]; exact a1) a2)
theorem sort_own {w : World} {base : Nat} {v : Value} {l : List ByteArray} (h : w.ownsRow base 9 1 v l.length (ts l)) (hn : l.Nodup) (hl : l.length ≤ 1000000000) :
   Calls Tryz.prog 172 #[v] w fun e w' =>
     e = .returned (.tuple #[]) ∧ ∃ l', w'.ownsRow base 9 1 v l'.length (ts l') ∧ Rises id ltS l' ∧ (∀ x, x ∈ l' ↔ x ∈ l) ∧ l'.length = l.length ∧ w.grownBy w' v.ownBlock := by
 rcases h.2 with ⟨rfl, e⟩ | ⟨g, cap, cur, rfl, hbg, hg, h1, h2, h3, h4⟩
 · have e := List.eq_nil_of_length_eq_zero e
   subst e
   refine (AnyM.slices_Sort_string_none Tryz.sortStrs none 0 w).mono ?_
   rintro e w' ⟨rfl, rfl⟩
   exact ⟨rfl, [], h, List.Pairwise.nil, fun x => Iff.rfl, rfl, grown_of_below (Below.refl _ _) _⟩
 · have hr : (raw l).length = l.length := by simp [raw]
   have hH : Holds encStr w g 0 (raw l).toArray := holds_of_block hg (by rw [hr, enc_raw]; simpa using h4)
   have q := AnyM.slices_Sort_string Tryz.sortStrs g 0 cap (raw l) w hH (Array.getElem?_eq_some_iff.1 hg).1 (by rw [hr]; omega)
   rw [hr] at q
   refine q.mono ?_
   rintro e w' ⟨rfl, n, os, rfl⟩
   obtain ⟨s1, s2, s3⟩ := sorted_of hn
   refine ⟨rfl, _, ?_, s1, s2, s3, grownBy_sorted _⟩
   have := ownsRow_sorted (n := n) (os := os) (ss := raw l) (ts := (raw l).mergeSort fun x y => decide (x ≤ y)) (by simp) hbg hg (by rw [hr]; exact h1) h2 h3
   rw [hr, enc_cook] at this
   rw [s3]
   exact this
end Go.Proofs.YtgmdhaepiclkcaaGreatDoor.StrT
namespace Go.Proofs.YtgmdhaepiclkcaaGreatDoor.StrR
set_option maxRecDepth 100000
open Go Go.RowKit Go.Sort Go.Shelf Go.Proofs Byt Rise StrK StrT
abbrev Ranges (w : World) (b r n : Nat) (D : DataW Unit) (left : Lit → Bool) (cnt : Nat) : Prop := w.ranges Tryz.prog 9 (plainElem Tryz.prog 3) b r n D left cnt
theorem apart_map {w : World} {b n : Nat} {D : DataW Unit} {base m k : Nat} {T : TypeId} {v : Value} {xs : List Value} (h : w.ownsMap Tryz.prog 9 (plainElem Tryz.prog 3) b n D) (hr : w.ownsRow base T k v m xs) : some b ≠ v.ownBlock := by
 obtain ⟨es, clock, hb, _⟩ := h
 rcases hr.2 with ⟨rfl, _⟩ | ⟨g, cap, cur, rfl, _, hg, _⟩
 · simp [Value.ownBlock]
 · intro e
   simp only [Value.ownBlock, Option.some.injEq] at e
   subst e
   rw [hb] at hg
   cases hg
theorem step_mem {K acc : List ByteArray} {left : Lit → Bool} {x : ByteArray} (h : ∀ z, z ∈ acc ↔ z ∈ K ∧ left (key z) = false) (hx : x ∈ K) : ∀ z, z ∈ acc ++ [x] ↔ z ∈ K ∧ (left (key z) && !(key z).sameKey (key x)) = false := by
 intro z
 rw [List.mem_append, h, List.mem_singleton]
 by_cases hz : z = x
 · subst hz
   simp [same_self, hx]
 · have : (key z).sameKey (key x) = false := Maps.sameKey_ne (fun e => hz (key_inj e))
   simp [this, hz]
theorem wpList_next_key (w : World) {ops : Array Oper} {rest : List Oper} {o : Oper} {a : Act} {Q : Exit → Act → World → Prop} (hg : o.guard = none) (it : Operand) (hop : o.op = Op.next it false) (b r n : Nat) (D : DataW Unit) (left : Lit → Bool) (cnt : Nat)
   (hit : a.eval it = .pointer (some ⟨r, 0, none⟩)) (h : Ranges w b r n D left cnt)
   (hDone : (∀ kl, left kl = false) → wpList Tryz.prog ops Q rest (a.put o.dst (.tuple #[.bool false])) w)
   (hMore : ∀ (x : ByteArray) (c : Int) (w' : World) (cnt' : Nat), x.size ≤ maxLen → Maps.has D (key x) = true → left (key x) = true → Ranges w' b r n D (fun z => left z && !z.sameKey (key x)) cnt' → cnt' < cnt →
     w.grownBy w' (some r) → (Instr.entry (.pointer (some ⟨r, 0, none⟩))).run Tryz.prog w' = .ok (.tuple #[.string x, .int .i64 c]) w' → wpList Tryz.prog ops Q rest (a.put o.dst (.tuple #[.bool true, .string x, .int .i64 c])) w') :
   wpList Tryz.prog ops Q (o :: rest) a w := by
 refine wpList_next_ranges w hg it hop 9 law (plainElem Tryz.prog 3) Value.string (Value.int .i64) (fun _ _ hk => keyOf_inv hk) (fun _ _ hv => by obtain ⟨c, rfl, _⟩ := plainElem_int_inv Tryz.underlying3 hv; exact ⟨c, rfl⟩) b r n D left cnt hit h (fun _ hl => hDone hl) ?_
 intro x c kl y w' cnt' hkey hlx _ hat hrg hlt hgr _ hen
 obtain ⟨rfl, hs⟩ := keyOf_key hkey
 exact hMore x c w' cnt' hs (Maps.has_true_of_atKey hat) hlx hrg hlt hgr hen
set_option maxHeartbeats 1000000 in
theorem rising_ret (b n : Nat) (K : List ByteArray) (f : ByteArray → Int) (w : World) (h : NumIn w b n K f) (hn : n ≤ 100000000) :
   Calls Tryz.prog 138 #[.map (some b)] w fun e w' => ∃ v ks, e = .returned v ∧ w'.ownsRow w.heap.size 9 1 v ks.length (ts ks) ∧ Rises id ltS ks ∧ (∀ x, x ∈ ks ↔ x ∈ K) ∧ (∀ x, x ∈ ks → x.size ≤ maxLen) ∧ ks.length ≤ n ∧ Below w.heap.size w w' := by
 obtain ⟨D, hown, hD⟩ := h
 have hsz := hown.size_le
 obtain ⟨i, hi, z0, z1, z2⟩ := info_parts zero_str
 obtain ⟨w1, hmk, own1, g1⟩ := run_make_own (P := Tryz.prog) w w.heap.size 170 9 i (.string ⟨#[]⟩) 1 Tryz.underlying170 hi z0 z1 .i64 .i64 (Maps.size D) (by rw [z2]; omega) (by unfold maxLen; omega) (Nat.le_refl _)
 have hown1 := hown.kept g1 (by simp)
 have kb1 : Below w.heap.size w w1 := below_grown (Below.refl _ _) (Nat.le_refl _) g1 (fun k hk => by cases hk)
 clear hi z0 z1 z2
 go_enter Tryz.func138, Tryz.ntmps138
 go_wp2_with (first
   | (at_len; refine wpList_len_own _ rfl _ 133 rfl 9 3 Tryz.underlying133 _ b n D rfl hown ?_)
   | (at_range; refine wpList_range_own _ rfl _ 133 rfl 9 3 law Tryz.underlying133 _ b n _ rfl hown1 ?_; intro w0 hrg0 hg0 hs0))
 go_frame
 have own0 : w0.ownsRow w.heap.size 9 1 (.slice (some ⟨w.heap.size, 0, none⟩) 0 (Maps.size D)) 0 [] := own1.kept hg0 (by simp [Value.ownBlock])
 have kb0 : Below w.heap.size w w0 := below_grown kb1 kb1.size hg0 (fun k hk => by cases hk)
 clear own1 hown1 g1 hmk
 go_loopw [3] (fun v wr => ∃ (left : Lit → Bool) (cnt : Nat) (acc : List ByteArray), Ranges wr b w1.heap.size n D left cnt ∧ wr.ownsRow w.heap.size 9 1 v acc.length (ts acc) ∧ acc.Nodup ∧ Hid (∀ x, x ∈ acc ↔ x ∈ K ∧ left (key x) = false) ∧ Hid (∀ x, x ∈ acc → x.size ≤ maxLen) ∧ acc.length + cnt ≤ n ∧ Below w.heap.size w wr)
   (fun _ wr => wr.rangeLeft b w1.heap.size)
 case atStart =>
   refine ⟨_, _, [], hrg0, own0, List.nodup_nil, aside (fun x => ?_), aside (fun x hx => by simp at hx), by simpa using hsz, kb0⟩
   rw [← hD.1 x]
   cases Maps.has D (key x) <;> simp
 case round =>
   clear hrg0 own0 kb0 hg0 hs0
   obtain ⟨left, cnt, acc, hrg, hrow, hnd, hmem, hbig, hle, kb⟩ := hrel
   go_wp2_with (first
     | (at_next; refine wpList_next_key _ rfl _ rfl b w1.heap.size n _ _ _ rfl hrg ?_ ?_))
   · intro hl0
     have hmem' : Hid (∀ x, x ∈ acc ↔ x ∈ K) := aside (fun x => by rw [hmem.out x, hl0 (key x)]; simp)
     have hso := sort_own hrow hnd (by omega)
     go_wp2_with fail
     refine hso.mono ?_
     rintro e w3 ⟨rfl, ks, h3, s1, s2, s3, g3⟩
     have HS2 := aside s2
     have HS3 := aside s3
     clear s2 s3 hso
     go_wp2_with fail
     go_ret
     exact ⟨_, ks, rfl, h3, s1, fun x => (HS2.out x).trans (hmem'.out x), fun x hx => hbig.out x ((HS2.out x).1 hx), by rw [HS3.out]; omega, below_grown kb kb.size g3 (fun k hk => (hrow.lt k hk).1)⟩
   · intro x c w2 cnt1 hxs hhas hlx hrg1 hlt hg1 hen
     have hrow1 := hrow.kept hg1 (.inr (fun e => row_ne_iter hrow hrg e.symm))
     have hxK : x ∈ K := (hD.1 x).1 hhas
     have kb2 : Below w.heap.size w w2 := below_grown kb kb.size hg1 (fun k hk => by cases hk; exact kb1.size)
     go_wp2_with (first | (refine wpList_append_str rfl _ _ rfl w.heap.size _ _ acc rfl (hrow1.alloc _) _ x rfl (new1 _ x _) (by omega) (by have := kb2.size; simp; omega) ?_; intro v' w3 hrow3 hg3))
     rename_i u3
     have hgA : w2.grownBy w3 u3.ownBlock := (World.grownBy_alloc w2 _ _).trans hg3
     have hrg3 := hrg1.kept hgA (apart_map hrg1.owns hrow1) (row_ne_iter hrow1 hrg1)
     go_roundw
     case rel =>
       refine ⟨_, cnt1, acc ++ [x], hrg3, by simpa using hrow3, ?_, aside (step_mem hmem.out hxK), aside (fun z hz => ?_), by simp; omega, below_grown kb2 kb2.size hgA (fun k hk => (hrow.lt k hk).1)⟩
       · rw [List.nodup_append]
         refine ⟨hnd, by simp, fun a ha b hb => ?_⟩
         rintro rfl
         simp at hb
         subst hb
         rw [(hmem.out a).1 ha |>.2] at hlx
         cases hlx
       · rcases List.mem_append.1 hz with h | h
         · exact hbig.out z h
         · simp at h
           rw [h]
           exact hxs
     case measure => rw [hrg3.left_eq, hrg.left_eq]; exact hlt
end Go.Proofs.YtgmdhaepiclkcaaGreatDoor.StrR
namespace Go.Proofs.YtgmdhaepiclkcaaGreatDoor.CtrH
set_option maxRecDepth 100000
open Go Go.RowKit Byt OpsM Rise CtrM RowS RowB CtrW StrK StrT CtrG
def pick (f : ByteArray → Int) (ks : List ByteArray) : List Cn := ks.filterMap fun x => if f x ≠ 0 then some ⟨x, f x⟩ else none
theorem pick_yes {f : ByteArray → Int} {ks : List ByteArray} {k : Nat} {x : ByteArray} (h : ks[k]? = some x) (hx : f x ≠ 0) : pick f (ks.take (k + 1)) = pick f (ks.take k) ++ [⟨x, f x⟩] := by
 obtain ⟨hk, rfl⟩ := List.getElem?_eq_some_iff.1 h
 unfold pick
 rw [List.take_succ_eq_append_getElem hk, List.filterMap_append]
 simp [hx]
theorem pick_no {f : ByteArray → Int} {ks : List ByteArray} {k : Nat} {x : ByteArray} (h : ks[k]? = some x) (hx : f x = 0) : pick f (ks.take (k + 1)) = pick f (ks.take k) := by
 obtain ⟨hk, rfl⟩ := List.getElem?_eq_some_iff.1 h
 unfold pick
 rw [List.take_succ_eq_append_getElem hk, List.filterMap_append]
 simp [hx]
theorem pick_len (f : ByteArray → Int) (ks : List ByteArray) : (pick f ks).length ≤ ks.length := List.length_filterMap_le _ _
theorem pick_mem {f : ByteArray → Int} {ks : List ByteArray} {c : Cn} : c ∈ pick f ks ↔ c.key ∈ ks ∧ f c.key = c.n ∧ c.n ≠ 0 := by
 unfold pick
 rw [List.mem_filterMap]
 constructor
 · rintro ⟨x, hx, h⟩
   by_cases h0 : f x = 0
   · rw [if_neg (by simp [h0])] at h
     cases h
   · rw [if_pos h0] at h
     injection h with h
     subst h
     exact ⟨hx, rfl, h0⟩
 · rintro ⟨h1, h2, h3⟩
   refine ⟨c.key, h1, ?_⟩
   rw [if_pos (by rw [h2]; exact h3), h2]
theorem pick_rises {f : ByteArray → Int} {ks : List ByteArray} (h : Rises id ltS ks) : Rises Cn.key ltS (pick f ks) := by
 unfold pick Rises
 rw [List.pairwise_filterMap]
 refine h.imp (fun {x y} hxy c hc d hd => ?_)
 split at hc <;> simp at hc
 split at hd <;> simp at hd
 subst hc
 subst hd
 exact hxy
theorem pick_is {f : ByteArray → Int} {ks K : List ByteArray} {T : List Cn} (hs : Rises id ltS ks) (hm : ∀ x, x ∈ ks ↔ x ∈ K) (h0 : ∀ x, x ∉ K → f x = 0) (hT : mayC T = true) (hv : ∀ k, getC T k = f k) : pick f ks = T := by
 refine Rises.ext strictS (pick_rises hs) (mayC_iff.1 hT).2 (fun c => ?_)
 rw [pick_mem, mem_iff hT, hv]
 constructor
 · rintro ⟨_, h2⟩
   exact h2
 · rintro ⟨h1, h2⟩
   refine ⟨?_, h1, h2⟩
   rw [hm]
   refine Classical.byContradiction fun hn => h2 ?_
   rw [← h1]
   exact h0 _ hn
set_option maxHeartbeats 4000000 in
theorem counts_ret (b n : Nat) (K : List ByteArray) (f : ByteArray → Int) (T : List Cn) (w : World) (h : NumIn w b n K f) (hn : n ≤ 100000000) (hT : mayC T = true) (hv : ∀ k, getC T k = f k) :
   Calls Tryz.prog 94 #[.map (some b)] w (NewR E T w) := by
 have hb := h.lt
 have h0 : ∀ x, x ∉ K → f x = 0 := by obtain ⟨D, _, hD⟩ := h; exact hD.2.2
 obtain ⟨D, hown, hD⟩ := h
 have hsz := hown.size_le
 obtain ⟨i, hi, z0, z1, z2⟩ := info_parts E.info
 obtain ⟨w1, hmk, own1, g1⟩ := run_make_own (P := Tryz.prog) w w.heap.size 26 95 i (.agg (E.enc E.zero).toArray) 2 Tryz.underlying26 hi z0 z1 .i64 .i64 (Maps.size D) (by rw [z2]; show 24 * _ ≤ _; omega) (by unfold maxLen; omega) (Nat.le_refl _)
 have hn1 : NumIn w1 b n K f := (show NumIn w b n K f from ⟨D, hown, hD⟩).kept g1 (by simp)
 have kb1 : Below w.heap.size w w1 := below_grown (Below.refl _ _) (Nat.le_refl _) g1 (fun k hk => by cases hk)
 have hri := StrR.rising_ret b n K f w1 hn1 hn
 clear hi z0 z1 z2
 go_enter Tryz.func94, Tryz.ntmps94
 go_wp2_with (first | (at_len; refine wpList_len_own _ rfl _ 133 rfl 9 3 Tryz.underlying133 _ b n D rfl hown ?_))
 refine hri.mono ?_
 rintro e w2 ⟨v, ks, rfl, own2, s1, s2, s3, s4, k2⟩
 have HP := aside (pick_is s1 s2 h0 hT hv)
 have HS := aside s3
 have HM := aside s2
 obtain ⟨A, cap, rfl⟩ : ∃ A cap, v = .slice A ks.length cap := by
   rcases own2.2 with ⟨rfl, e⟩ | ⟨g, cap, cur, rfl, _⟩
   · exact ⟨none, 0, by rw [e]⟩
   · exact ⟨_, _, rfl⟩
 have hn2 := hn1.below k2
 have own3 := own1.kept (grown_of_below k2 none) (.inr (by simp [Value.ownBlock]))
 have kb2 := kb1.trans (k2.mono kb1.size)
 have hA : ∀ g, A = some ⟨g, 0, none⟩ → (Value.slice (some ⟨w.heap.size, 0, none⟩) 0 (Maps.size D)).ownBlock ≠ some g := by
   rintro g rfl e
   simp only [Value.ownBlock, Option.some.injEq] at e
   have := (own2.lt g rfl).1
   have := (own1.lt w.heap.size rfl).2
   omega
 have hA0 : ∀ x, A = some x → ∃ g, A = some ⟨g, 0, none⟩ := by
   rintro x rfl
   rcases own2.2 with ⟨h, _⟩ | ⟨g, cap, cur, h, _⟩
   · cases h
   · injection h with h1
     exact ⟨g, h1⟩
 have hlen : ks.length ≤ 9223372036854775807 := by omega
 clear s1 s2 s3 h0 hT hv hri hmk hown hD own1 hn1 g1 k2 kb1
 go_wp2_with fail
 go_loopw [3, 13] (fun v i wr => ∃ (k : Nat) (acc : List Cn), k ≤ ks.length ∧ i = .int .i64 k ∧ Hid (acc = pick f (ks.take k)) ∧ wr.ownsRow w.heap.size E.T 2 v acc.length (flat E acc) ∧ Hid (∀ g, A = some ⟨g, 0, none⟩ → v.ownBlock ≠ some g) ∧ wr.ownsRow w1.heap.size 9 1 (.slice A ks.length cap) ks.length (ts ks) ∧ NumIn wr b n K f ∧ Below w.heap.size w wr) (fun _ i _ => ks.length - (intOf i).toNat)
 case atStart => exact ⟨0, [], Nat.zero_le _, rfl, aside rfl, own3, aside hA, own2, hn2, kb2⟩
 case round =>
   clear own3 hA own2 hn2 kb2
   obtain ⟨k, acc, hk, rfl, HA, orow, HD, okeys, hset, kb⟩ := hrel
   by_cases hlt : k < ks.length
   · obtain ⟨x, hx⟩ : ∃ x, ks[k]? = some x := ⟨_, List.getElem?_eq_getElem hlt⟩
     have hmx := HS.out x (List.mem_of_getElem? hx)
     obtain ⟨g, rfl⟩ : ∃ g, A = some ⟨g, 0, none⟩ := by
       cases A with
       | none =>
         rcases okeys.2 with ⟨_, e⟩ | ⟨g, cap, cur, h, _⟩
         · omega
         · cases h
       | some y =>
         obtain ⟨g, hg⟩ := hA0 y rfl
         exact ⟨g, hg⟩
     have c0 : wr.cell? ⟨g, k, none⟩ = some (.string x) := by
       have := okeys.cells rfl k (.string x) (by simp [ts, hx])
       rw [Addr.add_lit, Nat.zero_add] at this
       exact this
     have p0 : (k : Int) < ks.length := by omega
     have m0 : ((k : Int)).toNat = k := by omega
     have hacc : acc.length ≤ k := by rw [HA.out]; exact Nat.le_trans (pick_len _ _) (by rw [List.length_take]; omega)
     by_cases hf : f x = 0
     · have HA2 := aside (HA.out.trans (pick_no hx hf).symm)
       have t0 : (f x != 0) = false := by simp [hf]
       clear hx HA hf
       go_wp2_with (first | (refine wpList_find _ rfl _ _ rfl b _ _ f rfl hset x hmx rfl ?_))
       go_roundw
       case rel => exact ⟨k + 1, acc, by omega, by go_num, HA2, orow, HD, okeys, hset, kb⟩
       case measure => simp [intOf]; omega
     · have HA2 := aside ((congrArg (· ++ [(⟨x, f x⟩ : Cn)]) HA.out).trans (pick_yes hx hf).symm)
       have t0 : (f x != 0) = true := by simp [hf]
       have hg := (okeys.lt g rfl).2
       clear hx HA hf
       go_wp2_with (first | (refine wpList_find _ rfl _ _ rfl b _ _ f rfl hset x hmx rfl ?_) | (refine wpList_append_at E rfl (.tmp 22) (.tmp 26) rfl w.heap.size _ _ acc rfl (orow.alloc _) wr.heap.size ⟨x, f x⟩ rfl (Box.new (E := E) wr ⟨x, f x⟩ 95) (by omega) (by have := kb.size; simp; omega) ?_; intro v' w3 orow3 hg3 hv3))
       have kg := (World.grownBy_alloc wr (.cells (E.enc ⟨x, f x⟩).toArray 95) _).trans hg3
       have HD2 : Hid (∀ g1 : Nat, some (⟨g, 0, none⟩ : Addr) = some ⟨g1, 0, none⟩ → v'.ownBlock ≠ some g1) := aside (by
         intro g1 e1
         injection e1 with e1
         injection e1 with e1
         subst e1
         rcases hv3 with e2 | e2
         · rw [e2]
           exact HD.out g rfl
         · rw [e2]
           intro e3
           injection e3 with e3
           simp at e3
           omega)
       have okeys2 := okeys.kept kg (.inr (fun e => HD.out g rfl e.symm))
       have hset2 := hset.kept kg (row_ne_low orow hb)
       have kb2 := below_grown kb kb.size kg (fun q hq => (orow.lt q hq).1)
       clear okeys hset orow hg3 hv3 kg
       go_roundw
       case rel => exact ⟨k + 1, acc ++ [⟨x, f x⟩], by omega, by go_num, HA2, by rw [List.length_append]; exact orow3, HD2, okeys2, hset2, kb2⟩
       case measure => simp [intOf]; omega
   · have e : k = ks.length := by omega
     have HA2 : Hid (acc = T) := aside (by rw [HA.out, e, List.take_length]; exact HP.out)
     clear okeys HA
     go_wp2_with fail
     go_ret
     rw [← HA2.out]
     exact ⟨_, rfl, orow, kb⟩
end Go.Proofs.YtgmdhaepiclkcaaGreatDoor.CtrH
