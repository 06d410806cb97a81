/- What staying of the project's package pair returns: a contract; the sort at pairs. | A contract of the library's, laid at this program: slices.Compact at texts. | slices.Compact at texts: the library's contract, laid at this program: a contract on a new row. No condition. -/
import Derived.Test.YtnjdkjkihbgkaaaGreatPairTJ3
import Derived.Shelf.SlSortCmp.NoneTotal
import Derived.Sort.OwnSorted
import Derived.Maps.AppendAt
import Derived.Shelf.SlLaysN
import Derived.Test.YtnjdkjkihbgkaaaGreatProg
import Derived.Test.YtnjdkjkihbgkaaaGreatPairPJ3
import Derived.Shelf.SlicesG.CompactS
namespace Go.Proofs.YtnjdkjkihbgkaaaGreat.PairJ
set_option maxRecDepth 100000
open Go Go.RowKit Go.Shelf Go.Sort Go.Lib Byt Rise PairM PairN RowS RowB PairW PairS PairK PairT PairO

instance : Inhabited Pr := ⟨⟨⟨#[]⟩, ⟨#[]⟩, 0, 0⟩⟩
theorem lt_is (x y : Pr) : ltOf cf x y = lessP x y := cf_less x y
theorem swo : SWO (ltOf cf) where
  irrefl x := by rw [lt_is]; exact strictP.irrefl x
  trans x y z h1 h2 := by rw [lt_is] at *; exact strictP.trans x y z h1 h2
  ntrans x y z h1 h2 := by
    rw [lt_is] at *
    cases h3 : lessP x z with
    | false => rfl
    | true =>
      by_cases hxy : x = y
      · subst hxy; rw [h3] at h2; cases h2
      · rcases less_or (x := x) (p := y) hxy with h4 | h4
        · rw [h4] at h1; cases h1
        · have h5 := strictP.trans _ _ _ h4 h3
          rw [h2] at h5
          cases h5
theorem cmpLays (blk off size : Nat) (w : World) : CmpLays Tryz.prog 107 #[] E.enc 4 cf blk off size w := fun _ _ _ _ x y => order_ret x y _
theorem agg_pair (w : World) : (isAgg 63).run Tryz.prog w = .ok true w := by kernel_rfl
theorem size_pair (w : World) : (Go.sizeOf 63).run Tryz.prog w = .ok 4 w := by kernel_rfl
theorem sortf (blk off cap : Nat) (d : Array Pr) (w : World) (hH : HoldsK E.enc 4 w blk off d) (hblk : blk < w.heap.size) (hsz : d.size < 4611686018427387904) :
    Calls Tryz.prog 106 #[.slice (some ⟨blk, off, none⟩) d.size cap, .func (.func 107) #[] #[]] w fun e w' =>
      e = .returned (.tuple #[]) ∧ ∃ d' n os, PermIn 0 d.size d d' ∧ SortedIn (ltOf cf) 0 d.size d' ∧ w' = sortWorldK E.enc 4 w blk off n d' os := by
  have eg : ∀ args w, (callFunc 107 args).run Tryz.prog w = .ok (.enter 107 args) w := enters_of Tryz.func107 (by kernel_rfl) rfl
  exact AnyQ.slices_SortFunc Tryz.sortPairs 4 agg_pair size_pair E.enc E.len (fun x v hv => E.one x v hv) cf swo 107 #[] blk off cap d w eg (cmpLays blk off d.size w) hH hblk hsz
/-- Sorted, and each of them once: rising. -/
theorem rising_of {l l' : List Pr} (hn : l.Nodup) (hp : PermIn 0 l.length l.toArray l'.toArray) (hs : SortedIn (ltOf cf) 0 l.length l'.toArray) : l'.length = l.length ∧ RisP l' ∧ ∀ x, x ∈ l' ↔ x ∈ l := by
  have hl : l'.length = l.length := by simpa using hp.1
  have hperm : l'.Perm l := by
    have q := hp.2.2
    have e1 : (l.toArray.extract 0 l.length).toList = l := by simp
    have e2 : (l'.toArray.extract 0 l.length).toList = l' := by rw [← hl]; simp
    rw [e1, e2] at q
    exact q
  refine ⟨hl, ?_, fun x => hperm.mem_iff⟩
  have hn' : l'.Nodup := hperm.nodup_iff.2 hn
  unfold RisP Rises
  rw [List.pairwise_iff_getElem]
  intro i j hi hj hij
  have q := hs i j (Nat.zero_le _) hij (by omega)
  rw [lt_is] at q
  have e : ∀ (k : Nat) (hk : k < l'.length), l'.toArray[k]! = l'[k] := by
    intro k hk
    rw [Array.getElem!_eq_getD, Array.getD_eq_getD_getElem?, List.getElem?_toArray, List.getElem?_eq_getElem hk]
    rfl
  rw [e i hi, e j hj] at q
  have hne : l'[i] ≠ l'[j] := List.pairwise_iff_getElem.1 (List.nodup_iff_pairwise_ne.1 hn') i j hi hj hij
  rcases less_or hne with h | h
  · exact h
  · exact absurd h (by show ¬ lessP l'[j] l'[i] = true; rw [q]; simp)
/-- The sort of a new row. -/
theorem sort_own {w : World} {base : Nat} {v : Value} {l : List Pr} (h : w.ownsRow base E.T 4 v l.length (flat E l)) (hn : l.Nodup) (hl : l.length ≤ 100000000) :
    Calls Tryz.prog 106 #[v, .func (.func 107) #[] #[]] w fun e w' =>
      e = .returned (.tuple #[]) ∧ ∃ l', w'.ownsRow base E.T 4 v l'.length (flat E l') ∧ RisP l' ∧ (∀ x, x ∈ l' ↔ x ∈ l) ∧ w.grownBy w' v.ownBlock := by
  by_cases h0 : l.length = 0
  · have e := List.eq_nil_of_length_eq_zero h0
    subst e
    obtain ⟨A, cap, rfl, _⟩ := SlR.own h
    refine (AnyF.slices_SortFunc_none Tryz.sortPairs A cap _ w).mono ?_
    rintro e w' ⟨rfl, rfl⟩
    exact ⟨rfl, [], h, List.Pairwise.nil, fun x => Iff.rfl, grown_of_below (Below.refl _ _) _⟩
  · rcases h.2 with ⟨_, e⟩ | ⟨g, cap, cur, rfl, hbg, hg, h1, h2, h3, h4⟩
    · exact absurd e h0
    · have hlt := (RowZ.owns_lt (E := E) h).2
      have q := sortf g 0 cap l.toArray w (RowZ.holds_own (E := E) h) hlt (by simp; omega)
      rw [List.size_toArray] at q
      refine q.mono ?_
      rintro e w' ⟨rfl, d', n, os, hp, hso, rfl⟩
      obtain ⟨l'⟩ := d'
      obtain ⟨e1, e2, e3⟩ := rising_of hn hp hso
      have := RowZ.own_sorted (E := E) h e1 n os
      refine ⟨rfl, l', ?_, e2, e3, this.2⟩
      rw [e1]
      exact this.1

abbrev Ranges (w : World) (b r n : Nat) (D : DataW Unit) (left : Lit → Bool) (cnt : Nat) : Prop := w.ranges Tryz.prog 63 (plainElem Tryz.prog 3) b r n D left cnt
/-- A row of cells lies in another block than a map. -/
theorem apart_map {w : World} {b n : Nat} {D : DataW Unit} {base m k : Nat} {T : TypeId} {v : Value} {xs : List Value} (h : w.ownsMap Tryz.prog 63 (plainElem Tryz.prog 3) b n D) (hr : w.ownsRow base T k v m xs) : some b ≠ v.ownBlock := by
  obtain ⟨es, clock, hb, _⟩ := h
  rcases hr.2 with ⟨rfl, _⟩ | ⟨g, cap, cur, rfl, _, hg, _⟩
  · simp [Value.ownBlock]
  · intro e
    simp only [Value.ownBlock, Option.some.injEq] at e
    subst e
    rw [hb] at hg
    cases hg
/-- One more has come. -/
theorem step_yes {L acc : List Pr} {f : Pr → Int} {left : Lit → Bool} {x : Pr} (hL : ∀ z, z ∈ L → Gd z) (h : ∀ z, z ∈ acc ↔ z ∈ L ∧ stB (f z) = true ∧ left (key z) = false) (hx : x ∈ L) (hs : stB (f x) = true) : ∀ z, z ∈ acc ++ [x] ↔ z ∈ L ∧ stB (f z) = true ∧ (left (key z) && !(key z).sameKey (key x)) = false := by
  intro z
  rw [List.mem_append, h, List.mem_singleton]
  by_cases hz : z = x
  · subst hz
    simp [same_self (hL _ hx), hx, hs]
  · constructor
    · rintro (⟨h1, h2, h3⟩ | h1)
      · exact ⟨h1, h2, by rw [h3]; rfl⟩
      · exact absurd h1 hz
    · rintro ⟨h1, h2, h3⟩
      have : (key z).sameKey (key x) = false := Maps.sameKey_ne (fun e => hz (key_inj (hL _ h1) (hL _ hx) e))
      rw [this] at h3
      exact .inl ⟨h1, h2, by simpa using h3⟩
theorem step_no {L acc : List Pr} {f : Pr → Int} {left : Lit → Bool} {x : Pr} (hL : ∀ z, z ∈ L → Gd z) (h : ∀ z, z ∈ acc ↔ z ∈ L ∧ stB (f z) = true ∧ left (key z) = false) (hx : x ∈ L) (hs : stB (f x) = false) : ∀ z, z ∈ acc ↔ z ∈ L ∧ stB (f z) = true ∧ (left (key z) && !(key z).sameKey (key x)) = false := by
  intro z
  rw [h]
  by_cases hz : z = x
  · subst hz
    simp [hs]
  · constructor
    · rintro ⟨h1, h2, h3⟩
      exact ⟨h1, h2, by rw [h3]; rfl⟩
    · rintro ⟨h1, h2, h3⟩
      have : (key z).sameKey (key x) = false := Maps.sameKey_ne (fun e => hz (key_inj (hL _ h1) (hL _ hx) e))
      rw [this] at h3
      exact ⟨h1, h2, by simpa using h3⟩
/-- The next pair of a map of numbers. -/
theorem wpList_next_pair (w : World) {ops : Array Oper} {rest : List Oper} {o : Oper} {a : Act} {Q : Exit → Act → World → Prop} (hg : o.guard = none) (it : Operand) (hop : o.op = Op.next it false) (b r n : Nat) (D : DataW Unit) (left : Lit → Bool) (cnt : Nat) (K : List Pr) (f : Pr → Int) (hD : NumD D K f)
    (hit : a.eval it = .pointer (some ⟨r, 0, none⟩)) (h : Ranges w b r n D left cnt)
    (hDone : (∀ kl, left kl = false) → wpList Tryz.prog ops Q rest (a.put o.dst (.tuple #[.bool false])) w)
    (hMore : ∀ (x : Pr) (w' : World) (cnt' : Nat), x ∈ K → left (key x) = true → Ranges w' b r n D (fun z => left z && !z.sameKey (key x)) cnt' → cnt' < cnt →
      w.grownBy w' (some r) → (Instr.entry (.pointer (some ⟨r, 0, none⟩))).run Tryz.prog w' = .ok (.tuple #[.agg (pc x), .int .i64 (f x)]) w' → wpList Tryz.prog ops Q rest (a.put o.dst (.tuple #[.bool true, .agg (pc x), .int .i64 (f x)])) w') :
    wpList Tryz.prog ops Q (o :: rest) a w := by
  refine wpList_next_ranges w hg it hop 63 law (plainElem Tryz.prog 3) (fun x : Pr => .agg (pc x)) (Value.int .i64) (fun _ _ hk => by obtain ⟨x, _, h, _⟩ := keyOf_inv hk; exact ⟨x, h⟩) (fun _ _ hv => by obtain ⟨c, rfl, _⟩ := plainElem_int_inv Tryz.underlying3 hv; exact ⟨c, rfl⟩) b r n D left cnt hit h (fun _ hl => hDone hl) ?_
  intro x c kl y w' cnt' hkey hlx hv hat hrg hlt hgr _ hen
  obtain ⟨x', hx', e1, e2⟩ := keyOf_inv hkey
  injection e1 with e1
  obtain rfl := pc_inj e1
  subst e2
  have hxK : x ∈ K := (hD.1 x hx').1 (Maps.has_true_of_atKey hat)
  obtain ⟨c', hc1, hc2, _⟩ := plainElem_int_inv Tryz.underlying3 hv
  injection hc1 with _ hc1
  subst hc1
  have hc : c = f x := by
    have q := hat (.lit (.int .i64 0))
    rw [hD.2.1 x hxK] at q
    rw [hc2] at q
    injection q with q
    injection q with _ q
    exact q.symm
  subst hc
  exact hMore x w' cnt' hxK hlx hrg hlt hgr hen
set_option maxRecDepth 100000 in
set_option maxHeartbeats 8000000 in
theorem staying_ret (b n : Nat) (K : List Pr) (f : Pr → Int) (T : List Pr) (w : World) (h : NumIn w b n K f) (hn : n ≤ 10000000) (h8 : ∀ x, 0 ≤ f x ∧ f x < 8) (hT : RisP T) (hm : ∀ x, x ∈ T ↔ x ∈ K ∧ stB (f x) = true) :
    Calls Tryz.prog 96 #[.map (some b)] w (NewR E T w) := by
  obtain ⟨D, hown, hD⟩ := h
  have hsz := hown.size_le
  obtain ⟨i, hi, z0, z1, z2⟩ := info_parts E.info
  obtain ⟨w1, hmk, own1, g1⟩ := run_make_own (P := Tryz.prog) w w.heap.size 24 63 i (.agg (E.enc E.zero).toArray) 4 Tryz.underlying24 hi z0 z1 .i64 .i64 (Maps.size D) (by rw [z2]; show 48 * _ ≤ _; omega) (by unfold maxLen; omega) (Nat.le_refl _)
  have hown1 := hown.kept g1 (by simp)
  have kb1 : Below w.heap.size w w1 := below_grown (Below.refl _ _) (Nat.le_refl _) g1 (fun k hk => by cases hk)
  have HT := aside hT
  have HM := aside hm
  have H8 := aside h8
  clear hi z0 z1 z2 hT hm h8
  go_enter Tryz.func96, Tryz.ntmps96
  go_wp2_with (first
    | (at_len; refine wpList_len_own _ rfl _ 105 rfl 63 3 Tryz.underlying105 _ b n D rfl hown ?_)
    | (at_range; refine wpList_range_own _ rfl _ 105 rfl 63 3 law Tryz.underlying105 _ b n _ rfl hown1 ?_; intro w0 hrg0 hg0 hs0))
  go_frame
  have own0 : w0.ownsRow w.heap.size E.T 4 (.slice (some ⟨w.heap.size, 0, none⟩) 0 (Maps.size D)) 0 [] := own1.kept hg0 (by simp [Value.ownBlock])
  have kb0 : Below w.heap.size w w0 := below_grown kb1 kb1.size hg0 (fun k hk => by cases hk)
  clear own1 hown1 g1 hmk
  go_loopw [3] (fun v wr => ∃ (left : Lit → Bool) (cnt : Nat) (acc : List Pr), Ranges wr b w1.heap.size n D left cnt ∧ wr.ownsRow w.heap.size E.T 4 v acc.length (flat E acc) ∧ acc.Nodup ∧ Hid (∀ x, x ∈ acc ↔ x ∈ K ∧ stB (f x) = true ∧ left (key x) = false) ∧ acc.length + cnt ≤ n ∧ Below w.heap.size w wr)
    (fun _ wr => wr.rangeLeft b w1.heap.size)
  case atStart =>
    refine ⟨_, _, [], hrg0, own0, List.nodup_nil, aside (fun x => ?_), by simpa using hsz, kb0⟩
    by_cases hx : x ∈ K
    · have := (hD.1 x (hD.2.2.2 x hx)).2 hx
      simp [hx, this]
    · simp [hx]
  case round =>
    clear hrg0 own0 kb0 hg0 hs0
    obtain ⟨left, cnt, acc, hrg, hrow, hnd, hmem, hle, kb⟩ := hrel
    go_wp2_with (first
      | (at_next; refine wpList_next_pair _ rfl _ rfl b w1.heap.size n _ _ _ K f hD rfl hrg ?_ ?_))
    · intro hl0
      have hmem' : ∀ x, x ∈ acc ↔ x ∈ K ∧ stB (f x) = true := fun x => by rw [hmem.out x, hl0 (key x)]; simp
      have HM' := aside hmem'
      have hso := sort_own hrow hnd (by omega)
      clear hmem'
      go_wp2_with fail
      refine hso.mono ?_
      rintro e w3 ⟨rfl, l', h3, s1, s2, g3⟩
      have e1 : l' = T := det s1 HT.out (fun x => by rw [s2, HM'.out, HM.out])
      subst e1
      clear s1 s2 hso
      go_wp2_with fail
      go_ret
      exact ⟨_, rfl, h3, below_grown kb kb.size g3 (fun k hk => (hrow.lt k hk).1)⟩
    · intro x w2 cnt1 hxK hlx hrg1 hlt hg1 hen
      have hrow1 := hrow.kept hg1 (.inr (fun e => row_ne_iter hrow hrg e.symm))
      have kb2 : Below w.heap.size w w2 := below_grown kb kb.size hg1 (fun k hk => by cases hk; exact kb1.size)
      have hs := fun W => stays_ret (f x) (H8.out x).1 (H8.out x).2 W
      obtain ⟨z, hz⟩ : ∃ z, stB (f x) = z := ⟨_, rfl⟩
      rw [hz] at hs
      have HZ := aside hz
      clear hz
      cases z with
      | true =>
        have HS := aside (step_yes hD.2.2.2 hmem.out hxK HZ.out)
        go_wp2_with (first
          | (refine wpList_store_new E rfl _ _ rfl _ _ _ rfl x _ rfl rfl rfl rfl ?_; intro w3 bx kx gx sx)
          | (refine (hs _).mono ?_; rintro e w' ⟨rfl, rfl⟩)
          | (refine wpList_load_box E rfl _ rfl _ rfl x bx ?_)
          | (refine RowC.wpList_build1 E (of_decide_eq_true rfl) rfl _ rfl x rfl ?_)
          | (refine wpList_append_at E rfl (.tmp 18) (.tmp 20) rfl w.heap.size _ _ acc rfl ((hrow1.kept gx (Classical.em _)).alloc _) w3.heap.size x rfl (Box.new w3 x _) (by omega) (by have := kb2.size; have := kx.size; simp; omega) ?_; intro v' w4 hrow4 hg4 hv4))
        have hgA : w2.grownBy w4 _ := ((gx.but _).trans (World.grownBy_alloc w3 (.cells (E.enc x).toArray 63) _)).trans hg4
        have hrg4 := hrg1.kept hgA (apart_map hrg1.owns hrow1) (row_ne_iter hrow1 hrg1)
        clear hs bx kx gx
        go_roundw
        case rel =>
          refine ⟨_, cnt1, acc ++ [x], hrg4, by rw [List.length_append]; exact hrow4, ?_, HS, by simp; omega, below_grown kb2 kb2.size hgA (fun k hk => (hrow.lt k hk).1)⟩
          rw [List.nodup_append]
          refine ⟨hnd, by simp, fun a ha b hb => ?_⟩
          rintro rfl
          simp at hb
          subst hb
          rw [((hmem.out a).1 ha).2.2] at hlx
          cases hlx
        case measure => rw [hrg4.left_eq, hrg.left_eq]; exact hlt
      | false =>
        have HS := aside (step_no hD.2.2.2 hmem.out hxK HZ.out)
        go_wp2_with (first
          | (refine wpList_store_new E rfl _ _ rfl _ _ _ rfl x _ rfl rfl rfl rfl ?_; intro w3 bx kx gx sx)
          | (refine (hs _).mono ?_; rintro e w' ⟨rfl, rfl⟩))
        have hrg4 := hrg1.kept gx (by simp) (by simp)
        have hrow4 := hrow1.kept gx (Classical.em _)
        have kb4 := kb2.trans (kx.mono kb2.size)
        clear hs bx kx gx
        go_roundw
        case rel => exact ⟨_, cnt1, acc, hrg4, hrow4, hnd, HS, by omega, kb4⟩
        case measure => rw [hrg4.left_eq, hrg.left_eq]; exact hlt
end Go.Proofs.YtnjdkjkihbgkaaaGreat.PairJ
namespace Go.Proofs
set_option maxRecDepth 100000
open Go.Shelf
def Tryz.compStrs_ren : Go.Shelf.Ren := ⟨fun | 44 => 62 | n => n, fun | 0 => 0 | 3 => 3 | 4 => 4 | 25 => 46 | 26 => 9 | n => n, fun | n => n⟩
theorem Tryz.compStrs : Go.Proofs.SlLaysN.n44 Tryz.prog Tryz.compStrs_ren := {
  mixed := by kernel_rfl
  f44 := ⟨Tryz.f62.name, by decide, Tryz.func62.trans (congrArg some (by kernel_rfl))⟩
  t0 := Tryz.underlying0
  a0 := Tryz.isAgg0
  z0 := Tryz.sizeOf0
  v0 := Tryz.zeroValue0
  t3 := Tryz.underlying3
  a3 := Tryz.isAgg3
  z3 := Tryz.sizeOf3
  v3 := Tryz.zeroValue3
  t4 := Tryz.underlying4
  a4 := Tryz.isAgg4
  z4 := Tryz.sizeOf4
  v4 := Tryz.zeroValue4
  t25 := Tryz.underlying46
  a25 := Tryz.isAgg46
  z25 := Tryz.sizeOf46
  v25 := Tryz.zeroValue46
  t26 := Tryz.underlying9
  a26 := Tryz.isAgg9
  z26 := Tryz.sizeOf9
  v26 := Tryz.zeroValue9
  i26 := by kernel_rfl }
end Go.Proofs
namespace Go.Proofs.YtnjdkjkihbgkaaaGreat.StrC
set_option maxRecDepth 100000
open Go Go.RowKit Go.Sort Go.Shelf Go.Lib Go.Proofs Byt Txt

def raw (l : List ByteArray) : List (List UInt8) := l.map fun x => x.data.toList
def cook (l : List (List UInt8)) : List ByteArray := l.map fun x => ⟨x.toArray⟩
theorem cook_raw (l : List ByteArray) : cook (raw l) = l := by
  unfold cook raw
  rw [List.map_map]
  have : ((fun x : List UInt8 => (⟨x.toArray⟩ : ByteArray)) ∘ fun x : ByteArray => x.data.toList) = id := by
    funext x
    cases x
    simp
  rw [this, List.map_id]
theorem enc_cook (l : List (List UInt8)) : l.map encStr = ts (cook l) := by
  unfold ts cook
  rw [List.map_map]
  rfl
theorem enc_raw (l : List ByteArray) : (raw l).map encStr = ts l := by rw [enc_cook, cook_raw]
theorem raw_inj {a b : ByteArray} (h : a.data.toList = b.data.toList) : a = b := by
  cases a; cases b
  congr 1
  exact Array.ext' h
/-- Each text that is another one than the one ahead of it. -/
def once : Option ByteArray → List ByteArray → List ByteArray
  | _, [] => []
  | o, x :: r => if o = some x then once o r else x :: once (some x) r
theorem once_snoc : ∀ (l : List ByteArray) (o : Option ByteArray) (x : ByteArray), once o (l ++ [x]) = once o l ++ (if (l.getLast?.or o) = some x then [] else [x])
  | [], o, x => by
    show once o [x] = _
    unfold once
    by_cases h : o = some x <;> simp [h, once]
  | y :: r, o, x => by
    rw [List.cons_append]
    unfold once
    have e : ∀ q : Option ByteArray, (y :: r).getLast?.or q = r.getLast?.or (some y) := by
      intro q
      cases hr : r.getLast? with
      | none =>
        have : r = [] := by simpa using hr
        subst this
        simp
      | some z =>
        have : (y :: r).getLast? = some z := by
          rw [List.getLast?_cons, hr]
          rfl
        rw [this]
        rfl
    by_cases h : o = some y
    · rw [if_pos h, if_pos h, once_snoc r o x, e, h]
    · rw [if_neg h, if_neg h, once_snoc r (some y) x, e]
      rfl
theorem at_raw (l : List ByteArray) (i : Nat) (hi : i < l.length) : (raw l).toArray[i]! = l[i].data.toList := by
  have : i < (raw l).length := by simpa [raw] using hi
  rw [Array.getElem!_eq_getD, Array.getD_eq_getD_getElem?, List.getElem?_toArray, List.getElem?_eq_getElem this]
  simp [raw]
theorem up_to (l : List ByteArray) : ∀ m, m ≤ l.length → compactUpTo (raw l).toArray m = raw (once none (l.take m))
  | 0, _ => by simp [compactUpTo, once, raw]
  | m + 1, h => by
    have hm : m < l.length := h
    rw [compactUpTo_succ, up_to l m (by omega), List.take_succ_eq_append_getElem hm, once_snoc]
    have e : (raw l).toArray[m]! = l[m].data.toList := at_raw l m hm
    unfold raw
    rw [List.map_append]
    congr 1
    change (if keeps (raw l).toArray m = true then [(raw l).toArray[m]!] else []) = _
    rw [e]
    by_cases h0 : m = 0
    · subst h0
      simp [keeps]
    · have hp : m - 1 < l.length := by omega
      have e2 : (raw l).toArray[m - 1]! = l[m - 1].data.toList := at_raw l (m - 1) hp
      have hl : (l.take m).getLast? = some l[m - 1] := by
        rw [List.getLast?_eq_getElem?, List.length_take, Nat.min_eq_left (by omega), List.getElem?_take, if_pos (by omega), List.getElem?_eq_getElem hp]
      rw [hl]
      unfold keeps
      rw [e, e2]
      by_cases hq : l[m] = l[m - 1]
      · rw [if_neg (by simp [h0, hq]), if_pos (by simp [hq])]
        rfl
      · rw [if_pos (by simp; exact .inr (fun q => hq (raw_inj (by rw [q])))), if_neg (by simp; exact fun q => hq q.symm)]
        rfl
theorem compact_is (l : List ByteArray) : Lib.compact (raw l) = raw (once none l) := by
  unfold Lib.compact
  have h := up_to l l.length (Nat.le_refl _)
  rw [List.take_length] at h
  rw [show (raw l).length = l.length by simp [raw]]
  exact h
theorem once_le : ∀ (l : List ByteArray) (o : Option ByteArray), (once o l).length ≤ l.length
  | [], _ => by simp [once]
  | x :: r, o => by
    unfold once
    split
    · have := once_le r o
      simp only [List.length_cons]
      omega
    · have := once_le r (some x)
      simp only [List.length_cons]
      omega
theorem raw_len (l : List ByteArray) : (raw l).length = l.length := by simp [raw]
/-- slices.Compact at a row of the call's own. -/
theorem compact_own {w : World} {base : Nat} {v : Value} {l : List ByteArray} (h : w.ownsRow base 9 1 v l.length (ts l)) :
    Calls Tryz.prog 62 #[v] w fun e w' => ∃ A cap, e = .returned (.slice A (once none l).length cap) ∧ SlT w' A cap (once none l) ∧ w.grownBy w' v.ownBlock := by
  by_cases h0 : l.length = 0
  · have e := List.eq_nil_of_length_eq_zero h0
    subst e
    obtain ⟨A, cap, rfl, S⟩ := SlT.own h
    refine (AnyG.slices_Compact_string_empty Tryz.compStrs A cap w).mono ?_
    rintro e w' ⟨rfl, rfl⟩
    exact ⟨A, cap, rfl, S, grown_of_below (Below.refl _ _) _⟩
  · rcases h.2 with ⟨_, e⟩ | ⟨g, cap, cur, rfl, hbg, hg, h1, h2, h3, h4⟩
    · exact absurd e h0
    · have hH : Holds encStr w g 0 (raw l).toArray := holds_of_block hg (by rw [raw_len, enc_raw]; simpa using h4)
      have q := AnyG.slices_Compact_string Tryz.compStrs g 0 cap (raw l) w hH (by rw [raw_len]; unfold maxLen at h2; omega) (by rw [raw_len]; exact h1)
      rw [raw_len, compact_is, raw_len] at q
      refine q.mono ?_
      rintro e w' ⟨rfl, n, rfl⟩
      have hle := once_le l none
      obtain ⟨T, hT⟩ : ∃ T, raw (once none l) ++ List.replicate (l.length - (once none l).length) ([] : List UInt8) = T := ⟨_, rfl⟩
      have hTl : T.length = (raw l).length := by rw [← hT, List.length_append, raw_len, List.length_replicate, raw_len]; omega
      rw [hT]
      have own := ownsRow_sorted (n := n) (os := #[]) (ss := raw l) (ts := T) hTl hbg hg (by rw [raw_len]; exact h1) h2 h3
      rw [grow_empty, raw_len] at own
      have gr := grownBy_sorted (w := w) (g := g) (n := n) (os := #[]) T.toArray
      rw [grow_empty] at gr
      refine ⟨some ⟨g, 0, none⟩, cap, rfl, ⟨by omega, h2, .inr ⟨_, rfl, fun i u hu => own.cells rfl i u ?_⟩⟩, gr⟩
      rw [← hT, List.map_append, enc_raw, List.getElem?_append_left (List.getElem?_eq_some_iff.1 hu).1]
      exact hu
end Go.Proofs.YtnjdkjkihbgkaaaGreat.StrC
