/- Two rows of ids that grow, each in a block of its own; commits' parents, one behind the other. No condition. | Slices of slices of ids in memory: read, made, appended to. No condition. | What slices.Grow of no slice, and slices.Concat, return at ids: contracts. No condition but sizes. -/
import Derived.Test.YteojkfbnenfmkaaDoorIdBJ5
import Derived.Maps.AppendAt
import Derived.Lib.AppendZeros
import Derived.Lib.Walk
namespace Go.Proofs.YteojkfbnenfmkaaDoor.WtO
set_option maxRecDepth 100000
open Go Go.Sort Go.RowKit Byt IdM IdW OpsM OpsW CmM StW CmW CmX CmY DgM DgW

/-- 'append' of ids: the row stays in its block, or goes into a new one. -/
theorem append_ids_at {w : World} {ops : Array Oper} {rest : List Oper} {o : Oper} {a : Act} {Q : Exit → Act → World → Prop} (hgd : o.guard = none) (s x : Operand)
    (ho : o.op = .call { callee := .builtin .append, args := #[s, x], argTypes := #[25, 25] })
    (base : Nat) (v : Value) (n : Nat) (xs : List Idn) (hs : a.eval s = v) (hown : w.ownsRow base 42 32 v n (bv (IdW.flat xs)))
    (A : Option Addr) (m c : Nat) (l : List Idn) (hx : a.eval x = .slice A m c) (hm : l.length = m) (hr : SlI w A c l) (h63 : n + m ≤ 2000000000000) (hbase : base ≤ w.heap.size)
    (h : ∀ v' w', w'.ownsRow base 42 32 v' (n + m) (bv (IdW.flat (xs ++ l))) → w.grownBy w' v.ownBlock → (v'.ownBlock = v.ownBlock ∨ v'.ownBlock = some w.heap.size) → wpList Tryd.prog ops Q rest (a.put o.dst v') w') : wpList Tryd.prog ops Q (o :: rest) a w := by
  obtain ⟨i, hi, z0, z1, z2⟩ := info_parts zero_id
  subst hm
  obtain ⟨h1, h2, h5⟩ := hr
  rcases h5 with ⟨rfl, rfl, rfl⟩ | ⟨ad, rfl, hc⟩
  · refine wpList_append_own_none hgd s x 25 ho base 42 i 32 Tryd.underlying25 hi v n (bv (IdW.flat xs)) hs hown hx (h v w ?_ (grown_of_below (Below.refl _ _) _) (.inl rfl))
    simpa using hown
  · refine wpList_append_own_at w hgd s x 25 ho base 42 i (.agg (cs nought)) 32 32 Tryd.underlying25 hi z0 z1 z2 zs (by decide) v n (bv (IdW.flat xs)) hs hown ad l.length c (bv (IdW.flat l)) hx (by rw [bv_length, flat_length]) (fun j u hu => ?_) (bv_one _) (by unfold maxLen; omega) (by omega) hbase (fun v' w' a1 a2 _ a4 => h v' w' (by rw [IdW.flat_append, bv_append]; exact a1) a2 a4)
    have hj : j < (IdW.flat l).length := by
      have := (List.getElem?_eq_some_iff.1 hu).1
      simpa [bv] using this
    rw [bv_at _ hj] at hu
    rw [hc j hj, ← hu]
/-- Two rows of ids that grow, each in a block of its own. -/
structure Two (B : Nat) (wr : World) (o kn : Value) (a b : List Idn) : Prop where
  ra : wr.ownsRow B 42 32 o a.length (bv (IdW.flat a))
  rb : wr.ownsRow B 42 32 kn b.length (bv (IdW.flat b))
  ne : ∀ g, o.ownBlock = some g → kn.ownBlock ≠ some g
section
variable {B : Nat} {wr w' : World} {o kn v' : Value} {a b c : List Idn}
theorem Two.below (T : Two B wr o kn a b) (hb : Below wr.heap.size wr w') : Two B w' o kn a b := ⟨owns_below T.ra hb, owns_below T.rb hb, T.ne⟩
theorem Two.left (T : Two B wr o kn a b) (r : w'.ownsRow B 42 32 v' (a.length + c.length) (bv (IdW.flat (a ++ c)))) (g : wr.grownBy w' o.ownBlock) (e : v'.ownBlock = o.ownBlock ∨ v'.ownBlock = some wr.heap.size) : Two B w' v' kn (a ++ c) b := by
  refine ⟨by rw [List.length_append]; exact r, T.rb.kept g ?_, fun q hq e2 => ?_⟩
  · cases hk : kn.ownBlock with
    | none => exact .inl rfl
    | some q => exact .inr fun e => T.ne q e.symm hk
  · rcases e with e | e
    · exact T.ne q (e ▸ hq) e2
    · rw [e] at hq
      have := (T.rb.lt q e2).2
      have := Option.some.inj hq
      omega
theorem Two.right (T : Two B wr o kn a b) (r : w'.ownsRow B 42 32 v' (b.length + c.length) (bv (IdW.flat (b ++ c)))) (g : wr.grownBy w' kn.ownBlock) (e : v'.ownBlock = kn.ownBlock ∨ v'.ownBlock = some wr.heap.size) : Two B w' o v' a (b ++ c) := by
  refine ⟨T.ra.kept g ?_, by rw [List.length_append]; exact r, fun q hq e2 => ?_⟩
  · cases hk : o.ownBlock with
    | none => exact .inl rfl
    | some q => exact .inr fun e => T.ne q hk e.symm
  · rcases e with e | e
    · exact T.ne q hq (e ▸ e2)
    · rw [e] at e2
      have := (T.ra.lt q hq).2
      have := Option.some.inj e2
      omega
end
def parsW (l : List Com) : List Idn := l.flatMap (·.ps)
theorem pars_next {l : List Com} {k : Nat} {x : Com} (hx : l[k]? = some x) : parsW (l.take (k + 1)) = parsW (l.take k) ++ x.ps := by
  obtain ⟨hk, rfl⟩ := List.getElem?_eq_some_iff.1 hx
  unfold parsW
  rw [List.take_succ_eq_append_getElem hk, List.flatMap_append]
  simp
theorem pars_le (l : List Com) (k : Nat) : (parsW (l.take k)).length ≤ (parsW l).length := by
  have := congrArg (fun l => (parsW l).length) (List.take_append_drop k l)
  simp only [parsW, List.flatMap_append, List.length_append] at this ⊢
  omega
end Go.Proofs.YteojkfbnenfmkaaDoor.WtO
namespace Go.Proofs.YteojkfbnenfmkaaDoor.FrP
set_option maxRecDepth 100000
open Go Go.Sort Go.RowKit Byt IdM IdW

/-- A slice of ids: where it lies, its room, what it has. -/
structure Pv where
  a : Option Addr
  k : Nat
  ps : List Idn
/-- Its cell. -/
def hd (v : Pv) : Value := .slice v.a v.ps.length v.k
def hds (l : List Pv) : List Value := l.map hd
theorem hds_at {l : List Pv} {i : Nat} {x : Pv} (h : l[i]? = some x) : (hds l)[i]? = some (hd x) := by
  unfold hds
  rw [List.getElem?_map, h]
  rfl
/-- All of their ids, in order. -/
def cat (l : List Pv) : List Idn := l.flatMap (·.ps)
theorem cat_next {l : List Pv} {k : Nat} {x : Pv} (h : l[k]? = some x) : cat (l.take (k + 1)) = cat (l.take k) ++ x.ps := by
  obtain ⟨hk, e⟩ := List.getElem?_eq_some_iff.1 h
  unfold cat
  rw [List.take_succ_eq_append_getElem hk, e, List.flatMap_append]
  simp
theorem cat_short (l : List Pv) : ∀ k, (cat (l.take k)).length ≤ (cat l).length := fun k => by
  have e : cat l = cat (l.take k) ++ cat (l.drop k) := by
    unfold cat
    rw [← List.flatMap_append, List.take_append_drop]
  rw [e, List.length_append]
  omega
/-- The slice holds these slices of ids. -/
structure SlP (w : World) (A : Option Addr) (cap : Nat) (l : List Pv) : Prop where
  room : l.length ≤ cap ∧ cap ≤ maxLen
  lies : (A = none ∧ l = [] ∧ cap = 0) ∨ ∃ x, A = some x ∧ ∀ i v, (hds l)[i]? = some v → w.cell? (x.add i) = some v
  each : ∀ v ∈ l, SlI w v.a v.k v.ps
theorem SlP.below {w w' : World} {A : Option Addr} {cap : Nat} {l : List Pv} (h : SlP w A cap l) (hb : Below w.heap.size w w') : SlP w' A cap l := by
  refine ⟨h.room, ?_, fun v hv => (h.each v hv).below hb⟩
  rcases h.lies with h5 | ⟨x, rfl, hc⟩
  · exact .inl h5
  · refine .inr ⟨x, rfl, fun i v hv => ?_⟩
    have hcell := hc i v hv
    exact (hb.cell (block_lt_of_cell hcell)).trans hcell
theorem SlP.plain {w : World} {A : Option Addr} {cap : Nat} {l : List Pv} (h : SlP w A cap l) (hp : 0 < l.length) :
    ∃ b off, A = some ⟨b, off, none⟩ ∧ ∀ i x, l[i]? = some x → w.cell? ⟨b, off + i, none⟩ = some (hd x) := by
  rcases h.lies with ⟨_, rfl, _⟩ | ⟨x, rfl, hc⟩
  · simp at hp
  · have h0 := hc 0 _ (hds_at (List.getElem?_eq_getElem hp))
    obtain ⟨b, off, spot⟩ := x
    have hspot : spot = none := by simpa [Addr.add] using World.cell?_spot h0
    subst hspot
    refine ⟨b, off, rfl, fun i x hi => ?_⟩
    have := hc i _ (hds_at hi)
    rwa [Addr.add_lit] at this
end Go.Proofs.YteojkfbnenfmkaaDoor.FrP
namespace Go.Proofs.YteojkfbnenfmkaaDoor.FrQ
set_option maxRecDepth 100000
open Go Go.Sort Go.RowKit Byt IdM IdW FrP

set_option maxRecDepth 100000 in
set_option maxHeartbeats 4000000 in
theorem grow_ret (n : Nat) (hn : n ≤ 1000000) (w : World) : Calls Tryd.prog 53 #[.slice none 0 0, .int .i64 n] w fun e w' => ∃ v, e = .returned v ∧ w'.ownsRow w.heap.size 42 32 v 0 (bv (flat [])) ∧ Below w.heap.size w w' := by
  by_cases h0 : n = 0
  · subst h0
    go_enter Tryd.func53, Tryd.ntmps53
    go_wp2_with (first | go_skip)
    go_ret
    exact ⟨_, rfl, ⟨rfl, .inl ⟨rfl, rfl⟩⟩, Below.refl _ _⟩
  · obtain ⟨i, hi, z0, z1, z2⟩ := info_parts zero_id
    have h1 : ¬ ((n : Int) < 0) := by omega
    have h4 : (0 : Int) < n := by omega
    have hw : IntKind.i64.wrap (n : Int) = n := by rw [IntKind.wrap_i64]; omega
    have hrz : ∀ ty, (Builtin.append_ #[25, 3] ty #[.slice none 0 0, .int .i64 n]).run Tryd.prog w =
        .ok (.slice (some ⟨w.heap.size, 0, none⟩) n (grownCap w n 0 42)) (w.drew.alloc (.cells (Builtin.zeroCells (Value.agg (cs nought)).cells n ++ Builtin.zeroCells (Value.agg (cs nought)).cells (grownCap w n 0 42 - n)) 42)) := fun ty =>
      Lib.run_append_nil_zeros w 25 3 ty 42 i (.agg (cs nought)) .i64 .i64 Tryd.underlying25 Tryd.underlying3 hi z0 n (by omega) (by rw [z1]; omega) (by omega) (by rw [z2]; omega)
    have hge := grownCap_ge w n 0 42
    have hle := grownCap_le_maxLen w n 0 42 (by unfold maxLen; omega)
    obtain ⟨G, hG⟩ : ∃ G, grownCap w n 0 42 = G := ⟨_, rfl⟩
    rw [hG] at hrz hge hle
    obtain ⟨Z, hZ⟩ : ∃ Z, Builtin.zeroCells (Value.agg (cs nought)).cells n ++ Builtin.zeroCells (Value.agg (cs nought)).cells (G - n) = Z := ⟨_, rfl⟩
    have hz : Z.size = G * 32 := by
      rw [← hZ]
      simp [Builtin.zeroCells, zs]
      omega
    rw [hZ] at hrz
    have own : (w.drew.alloc (.cells Z 42)).ownsRow w.heap.size 42 32 (.slice (some ⟨w.drew.heap.size, 0, none⟩) 0 G) 0 [] :=
      World.ownsRow_made w.drew _ G (Nat.le_refl _) hle hz
    have kb : Below w.heap.size w (w.drew.alloc (.cells Z 42)) := (below_drew1 (Below.refl _ _)).alloc (Nat.le_refl _) _
    have own' : (w.drew.alloc (.cells Z 42)).ownsRow w.heap.size 42 32 (.slice (some ⟨w.heap.size, 0, none⟩) 0 G) 0 (bv (flat [])) := own
    obtain ⟨W, hW⟩ : ∃ W, w.drew.alloc (.cells Z 42) = W := ⟨_, rfl⟩
    rw [hW] at hrz own' kb
    have hmax : (G : Int) ≤ 9223372036854775807 := by unfold maxLen at hle; omega
    clear hG own hz hW hZ
    go_enter Tryd.func53, Tryd.ntmps53
    go_wp2_with (first | go_skip | (at_builtin; refine Lib.wpList_append_run _ rfl _ _ _ _ rfl _ _ rfl rfl _ _ (hrz _) ?_))
    go_ret
    exact ⟨_, rfl, own', kb⟩
set_option maxRecDepth 100000 in
set_option maxHeartbeats 16000000 in
theorem concat_ret (A : Option Addr) (cap : Nat) (l : List Pv) (w : World) (S : SlP w A cap l) (hl : l.length ≤ 1000000) (hn : (cat l).length ≤ 1000000) :
    Calls Tryd.prog 40 #[.slice A l.length cap] w (NewI (cat l) w) := by
  have hsh := cat_short l
  have cg : ∀ W, Calls Tryd.prog 53 #[.slice none 0 0, .int .i64 ((cat l).length : Int)] W fun e w' => ∃ v, e = .returned v ∧ w'.ownsRow W.heap.size 42 32 v 0 (bv (flat [])) ∧ Below W.heap.size W w' := fun W => grow_ret _ hn W
  have hfull : cat (l.take l.length) = cat l := by rw [List.take_length]
  go_enter Tryd.func40, Tryd.ntmps40
  go_wp2_with (first | go_skip)
  go_loopw [3, 11] (fun s i wr => ∃ k : Nat, k ≤ l.length ∧ s = .int .i64 ((cat (l.take k)).length : Int) ∧ i = .int .i64 k ∧ Below w.heap.size w wr) (fun _ i _ => l.length - (intOf i).toNat)
  case atStart => exact ⟨0, Nat.zero_le _, rfl, rfl, Below.refl _ _⟩
  case round =>
    obtain ⟨k, hk, rfl, rfl, kb⟩ := hrel
    by_cases hlt : k < l.length
    · obtain ⟨b, off, rfl, hcell⟩ := (S.below kb).plain (by omega)
      obtain ⟨x, hx⟩ : ∃ x, l[k]? = some x := ⟨_, List.getElem?_eq_getElem hlt⟩
      have c0 : wr.cell? ⟨b, off + k, none⟩ = some (.slice x.a x.ps.length x.k) := hcell k x hx
      have p0 : (k : Int) < l.length := by omega
      have m0 : ((k : Int)).toNat = k := by omega
      have hn2 := hsh (k + 1)
      have HN := aside (cat_next hx)
      have hln : (cat (l.take (k + 1))).length = (cat (l.take k)).length + x.ps.length := by rw [HN.out, List.length_append]
      obtain ⟨n, hn1⟩ : ∃ n, (cat (l.take k)).length = n := ⟨_, rfl⟩
      rw [hn1] at hln ⊢
      have hw1 : IntKind.i64.wrap ((n : Int) + (x.ps.length : Int)) = (n : Int) + x.ps.length := by rw [IntKind.wrap_i64]; omega
      have hneg : ¬ ((n : Int) + (x.ps.length : Int) < 0) := by omega
      clear hcell hx hn1 cg hsh
      go_wp2_with (first | go_skip)
      go_roundw
      case rel => exact ⟨k + 1, by omega, by rw [hln]; rfl, by go_num, kb⟩
      case measure => simp [intOf]; omega
    · obtain rfl : k = l.length := by omega
      rw [hfull]
      have T := S.below kb
      clear hsh hfull
      go_wp2_with (first | go_skip)
      refine (cg wr).mono ?_
      rintro e w1 ⟨v1, rfl, o1, k1⟩
      have b1 := kb.trans (k1.mono kb.size)
      have T1 := T.below k1
      have O1 := aside (show w1.ownsRow w.heap.size 42 32 v1 0 (bv (flat [])) from owns_less o1 kb.size)
      clear cg T kb k1 o1
      go_wp2_with (first | go_skip)
      go_loopw [6, 27] (fun o i wq => ∃ k : Nat, k ≤ l.length ∧ i = .int .i64 k ∧ Hid (wq.ownsRow w.heap.size 42 32 o (cat (l.take k)).length (bv (flat (cat (l.take k))))) ∧ Below w.heap.size w wq) (fun _ i _ => l.length - (intOf i).toNat)
      case atStart => exact ⟨0, Nat.zero_le _, rfl, O1, b1⟩
      case round =>
        rename World => wq
        clear O1 b1 T1
        obtain ⟨k, hk, rfl, HO, kc⟩ := hrel
        by_cases hlt : k < l.length
        · obtain ⟨b, off, rfl, hcell⟩ := (S.below kc).plain (by omega)
          obtain ⟨x, hx⟩ : ∃ x, l[k]? = some x := ⟨_, List.getElem?_eq_getElem hlt⟩
          have c0 : wq.cell? ⟨b, off + k, none⟩ = some (.slice x.a x.ps.length x.k) := hcell k x hx
          have Sx := (S.below kc).each x (List.mem_of_getElem? hx)
          have p0 : (k : Int) < l.length := by omega
          have m0 : ((k : Int)).toNat = k := by omega
          have hn2 := cat_short l (k + 1)
          have HN := aside (cat_next hx)
          have hln : (cat (l.take (k + 1))).length = (cat (l.take k)).length + x.ps.length := by rw [HN.out, List.length_append]
          obtain ⟨xs, hxs⟩ : ∃ xs, cat (l.take k) = xs := ⟨_, rfl⟩
          rw [hxs] at hln HO HN
          clear hcell hx hxs
          go_wp2_with (first | go_skip | (refine wpList_append_ids rfl (.tmp 31) (.tmp 32) rfl w.heap.size _ xs.length xs rfl HO.out x.a _ x.k x.ps rfl rfl Sx (by omega) kc.size ?_; intro v2 w2 o2 g2))
          have b2 : Below w.heap.size w w2 := below_grown kc kc.size g2 (fun q hq => (HO.out.lt q hq).1)
          have O2 := aside (show w2.ownsRow w.heap.size 42 32 v2 (cat (l.take (k + 1))).length (bv (flat (cat (l.take (k + 1))))) by rw [HN.out, List.length_append]; exact o2)
          clear HO HN o2 g2 Sx hln
          go_roundw
          case rel => exact ⟨k + 1, by omega, by go_num, O2, b2⟩
          case measure => simp [intOf]; omega
        · obtain rfl : k = l.length := by omega
          have O3 := HO.out
          rw [List.take_length] at O3
          clear HO
          go_wp2_with (first | go_skip)
          go_ret
          exact ⟨_, rfl, O3, kc⟩
end Go.Proofs.YteojkfbnenfmkaaDoor.FrQ
