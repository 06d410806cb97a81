/- Two rows of ids that grow, each in a block of its own; commits' parents, one behind the other. No condition. | What the document's Missing of package wait returns: a contract. No condition but sizes. -/
import Derived.Test.YteojkfbnenfmkaaGreatDoorIdBJ5
import Derived.Maps.AppendAt
import Derived.Test.YteojkfbnenfmkaaGreatDoorWtR
import Derived.Test.YteojkfbnenfmkaaGreatDoorWtLJ4
import Derived.Test.YteojkfbnenfmkaaGreatDoorIdOJ5
namespace Go.Proofs.YteojkfbnenfmkaaGreatDoor.WtO
set_option maxRecDepth 100000
open Go Go.Sort Go.RowKit Byt IdM IdW OpsM OpsW CmM StW CmW CmX CmY DgM DgW

/-- 'append' of ids: the row stays in its block, or goes into a new one. -/
theorem append_ids_at {w : World} {ops : Array Oper} {rest : List Oper} {o : Oper} {a : Act} {Q : Exit → Act → World → Prop} (hgd : o.guard = none) (s x : Operand)
    (ho : o.op = .call { callee := .builtin .append, args := #[s, x], argTypes := #[25, 25] })
    (base : Nat) (v : Value) (n : Nat) (xs : List Idn) (hs : a.eval s = v) (hown : w.ownsRow base 43 32 v n (bv (IdW.flat xs)))
    (A : Option Addr) (m c : Nat) (l : List Idn) (hx : a.eval x = .slice A m c) (hm : l.length = m) (hr : SlI w A c l) (h63 : n + m ≤ 2000000000000) (hbase : base ≤ w.heap.size)
    (h : ∀ v' w', w'.ownsRow base 43 32 v' (n + m) (bv (IdW.flat (xs ++ l))) → w.grownBy w' v.ownBlock → (v'.ownBlock = v.ownBlock ∨ v'.ownBlock = some w.heap.size) → wpList Tryz.prog ops Q rest (a.put o.dst v') w') : wpList Tryz.prog ops Q (o :: rest) a w := by
  obtain ⟨i, hi, z0, z1, z2⟩ := info_parts zero_id
  subst hm
  obtain ⟨h1, h2, h5⟩ := hr
  rcases h5 with ⟨rfl, rfl, rfl⟩ | ⟨ad, rfl, hc⟩
  · refine wpList_append_own_none hgd s x 25 ho base 43 i 32 Tryz.underlying25 hi v n (bv (IdW.flat xs)) hs hown hx (h v w ?_ (grown_of_below (Below.refl _ _) _) (.inl rfl))
    simpa using hown
  · refine wpList_append_own_at w hgd s x 25 ho base 43 i (.agg (cs nought)) 32 32 Tryz.underlying25 hi z0 z1 z2 zs (by decide) v n (bv (IdW.flat xs)) hs hown ad l.length c (bv (IdW.flat l)) hx (by rw [bv_length, flat_length]) (fun j u hu => ?_) (bv_one _) (by unfold maxLen; omega) (by omega) hbase (fun v' w' a1 a2 _ a4 => h v' w' (by rw [IdW.flat_append, bv_append]; exact a1) a2 a4)
    have hj : j < (IdW.flat l).length := by
      have := (List.getElem?_eq_some_iff.1 hu).1
      simpa [bv] using this
    rw [bv_at _ hj] at hu
    rw [hc j hj, ← hu]
/-- Two rows of ids that grow, each in a block of its own. -/
structure Two (B : Nat) (wr : World) (o kn : Value) (a b : List Idn) : Prop where
  ra : wr.ownsRow B 43 32 o a.length (bv (IdW.flat a))
  rb : wr.ownsRow B 43 32 kn b.length (bv (IdW.flat b))
  ne : ∀ g, o.ownBlock = some g → kn.ownBlock ≠ some g
section
variable {B : Nat} {wr w' : World} {o kn v' : Value} {a b c : List Idn}
theorem Two.below (T : Two B wr o kn a b) (hb : Below wr.heap.size wr w') : Two B w' o kn a b := ⟨owns_below T.ra hb, owns_below T.rb hb, T.ne⟩
theorem Two.left (T : Two B wr o kn a b) (r : w'.ownsRow B 43 32 v' (a.length + c.length) (bv (IdW.flat (a ++ c)))) (g : wr.grownBy w' o.ownBlock) (e : v'.ownBlock = o.ownBlock ∨ v'.ownBlock = some wr.heap.size) : Two B w' v' kn (a ++ c) b := by
  refine ⟨by rw [List.length_append]; exact r, T.rb.kept g ?_, fun q hq e2 => ?_⟩
  · cases hk : kn.ownBlock with
    | none => exact .inl rfl
    | some q => exact .inr fun e => T.ne q e.symm hk
  · rcases e with e | e
    · exact T.ne q (e ▸ hq) e2
    · rw [e] at hq
      have := (T.rb.lt q e2).2
      have := Option.some.inj hq
      omega
theorem Two.right (T : Two B wr o kn a b) (r : w'.ownsRow B 43 32 v' (b.length + c.length) (bv (IdW.flat (b ++ c)))) (g : wr.grownBy w' kn.ownBlock) (e : v'.ownBlock = kn.ownBlock ∨ v'.ownBlock = some wr.heap.size) : Two B w' o v' a (b ++ c) := by
  refine ⟨T.ra.kept g ?_, by rw [List.length_append]; exact r, fun q hq e2 => ?_⟩
  · cases hk : o.ownBlock with
    | none => exact .inl rfl
    | some q => exact .inr fun e => T.ne q hk e.symm
  · rcases e with e | e
    · exact T.ne q hq (e ▸ e2)
    · rw [e] at e2
      have := (T.ra.lt q hq).2
      have := Option.some.inj e2
      omega
end
def parsW (l : List Com) : List Idn := l.flatMap (·.ps)
theorem pars_next {l : List Com} {k : Nat} {x : Com} (hx : l[k]? = some x) : parsW (l.take (k + 1)) = parsW (l.take k) ++ x.ps := by
  obtain ⟨hk, rfl⟩ := List.getElem?_eq_some_iff.1 hx
  unfold parsW
  rw [List.take_succ_eq_append_getElem hk, List.flatMap_append]
  simp
theorem pars_le (l : List Com) (k : Nat) : (parsW (l.take k)).length ≤ (parsW l).length := by
  have := congrArg (fun l => (parsW l).length) (List.take_append_drop k l)
  simp only [parsW, List.flatMap_append, List.length_append] at this ⊢
  omega
end Go.Proofs.YteojkfbnenfmkaaGreatDoor.WtO
namespace Go.Proofs.YteojkfbnenfmkaaGreatDoor.WtT
set_option maxRecDepth 100000
open Go Go.Sort Go.RowKit Byt IdM IdW OpsM OpsW CmM StW CmW CmX CmY DgM DgW DgR DgF WtM WtF WtR WtO
open Classical

theorem known_next {l : List Com} {h : List Idn} {k : Nat} {x : Com} (hx : l[k]? = some x) : knownW hashK (l.take (k + 1)) h = knownW hashK (l.take k) h ++ (if mayK x = true then [hashK x] else []) := by
  obtain ⟨hk, rfl⟩ := List.getElem?_eq_some_iff.1 hx
  unfold knownW
  rw [List.take_succ_eq_append_getElem hk, List.filter_append, List.map_append, List.append_assoc]
  congr 2
  by_cases hm : mayK l[k] = true
  · rw [if_pos hm]; simp [hm]
  · rw [if_neg hm]; simp [hm]
theorem known_le (l : List Com) (h : List Idn) (k : Nat) : (knownW hashK (l.take k) h).length ≤ h.length + k := by
  unfold knownW
  rw [List.length_append, List.length_map]
  have := List.length_filter_le (fun c => mayK c) (l.take k)
  have := List.length_take_le k l
  omega
set_option maxRecDepth 100000 in
set_option maxHeartbeats 16000000 in
theorem missing_ret (A A' : Option Addr) (cap cap' : Nat) (l : List Cv) (h : List Idn) (w : World) (S : SlK w A cap l) (hl : l.length ≤ 1000) (hs : (parsW (coms l)).length ≤ 500) (ho : ∀ v ∈ l, CmR.Okay v.c) (T : SlI w A' cap' h) (hh : h.length ≤ 100000) :
    Calls Tryz.prog 15 #[.slice A l.length cap, .slice A' h.length cap'] w (NewD (missW hashK (coms l) h) w) := by
  have hmax := S.len
  have hlc := coms_len l
  unfold NewD
  go_enter Tryz.func15, Tryz.ntmps15
  go_wp2_with (first | go_skip | (refine append_ids_at rfl _ _ rfl w.heap.size _ 0 [] rfl ⟨rfl, .inl ⟨rfl, rfl⟩⟩ A' _ cap' h rfl rfl T (by omega) (Nat.le_refl _) ?_; intro v1 w1 o1 g1 e1))
  have k1 : Below w.heap.size w w1 := below_grown (Below.refl _ _) (Nat.le_refl _) g1 (fun q hq => by cases hq)
  have T1 : Two w.heap.size w1 (.slice none 0 0) v1 [] (knownW hashK [] h) := ⟨⟨rfl, .inl ⟨rfl, rfl⟩⟩, by unfold knownW; simpa using o1, fun q hq => by cases hq⟩
  clear o1 g1 e1
  go_loopw [5, 6, 7] (fun o kn i wr => ∃ k : Nat, k ≤ l.length ∧ i = .int .i64 k ∧ Hid (Two w.heap.size wr o kn (parsW ((coms l).take k)) (knownW hashK ((coms l).take k) h)) ∧ Below w.heap.size w wr) (fun _ _ i _ => l.length - (intOf i).toNat)
  case atStart => exact ⟨0, Nat.zero_le _, rfl, aside (by rw [List.take_zero]; exact T1), k1⟩
  case round =>
    clear T1 k1
    obtain ⟨k, hk, rfl, HT, kb⟩ := hrel
    by_cases hlt : k < l.length
    · obtain ⟨b, off, rfl, hbw, hrg⟩ := S.plain (by omega)
      obtain ⟨x, hx⟩ : ∃ x, l[k]? = some x := ⟨_, List.getElem?_eq_getElem hlt⟩
      have hxm := List.mem_of_getElem? hx
      have rx := range_on (hrg k x hx) kb
      have HRX := aside (hrg k x hx)
      have HIX := aside (S.each x hxm).1
      have IX := (S.each x hxm).1.below kb
      have q := hash_doc x wr IX (ho x hxm)
      unfold HashOut at q
      have p0 : (k : Int) < l.length := by omega
      have m0 : ((k : Int)).toNat = k := by omega
      have HPN := aside (pars_next (coms_at hx))
      have HKN := aside (known_next (h := h) (coms_at hx))
      have hpl := pars_le (coms l) (k + 1)
      have hpl2 := pars_le (coms l) k
      have hkl := known_le (coms l) h k
      rw [HPN.out, List.length_append] at hpl
      have HX := aside hx
      have HXM := aside hxm
      obtain ⟨ps, hps⟩ : ∃ ps, parsW ((coms l).take k) = ps := ⟨_, rfl⟩
      obtain ⟨ks, hks⟩ : ∃ ks, knownW hashK ((coms l).take k) h = ks := ⟨_, rfl⟩
      rw [hps] at HT HPN hpl hpl2
      rw [hks] at HT HKN hkl
      clear hrg hx hxm hps hks
      cases hmay : mayK x.c with
      | false =>
        obtain ⟨y1, y2, y3⟩ := putB_no hmay
        rw [y2, y3] at q
        rw [hmay, if_neg (by decide), List.append_nil] at HKN
        clear y1 y2 y3 hmay
        go_wp2_with (first | go_skip | (refine load_at rfl _ rfl _ _ rfl x rx ?_))
        refine q.mono ?_
        rintro e w1 ⟨rfl, k1⟩
        have T1 := aside (HT.out.below k1)
        have rx1 := range_on rx k1
        have IX1 := IX.below k1
        have b1 := kb.trans (k1.mono kb.size)
        clear q rx IX HT kb k1
        go_wp2_with (first | go_skip | (refine IdJ.wpList_alloc_id rfl rfl ?_) | (refine CmG.wpList_store_id rfl _ _ rfl _ nought _ rfl nought _ rfl rfl rfl ?_; intro w2 G2 k2 s2; have T2 := aside (T1.out.below k2); have vx2 := range_on rx1 k2 3 _ rfl; have IX2 := IX1.below k2; have b2 := b1.trans (k2.mono b1.size); clear T1 rx1 IX1 b1 s2) | (refine append_ids_at rfl (.tmp 32) (.tmp 37) rfl w.heap.size u5 ps.length ps rfl T2.out.ra x.a _ x.k x.c.ps rfl rfl IX2 (by omega) b2.size ?_; intro v6 w6 o6 g6 e6))
        have T6 := aside (T2.out.left o6 g6 e6)
        have b6 : Below w.heap.size w w6 := below_grown b2 b2.size g6 (fun q hq => (T2.out.ra.lt q hq).1)
        clear T2 o6 g6 e6 vx2
        go_roundw
        case rel => exact ⟨k + 1, by omega, by go_num, aside (by rw [HPN.out, HKN.out]; exact T6.out), b6⟩
        case measure => simp [intOf]; omega
      | true =>
        obtain ⟨y1, y2, y3⟩ := putB_yes hmay
        rw [y2, y3] at q
        rw [hmay, if_pos rfl] at HKN
        obtain ⟨hi, hhi⟩ : ∃ hi, hashK x.c = hi := ⟨_, rfl⟩
        rw [hhi] at q HKN
        clear y1 y2 y3 hmay hhi
        go_wp2_with (first | go_skip | (refine load_at rfl _ rfl _ _ rfl x rx ?_))
        refine q.mono ?_
        rintro e w1 ⟨rfl, k1⟩
        have T1 := aside (HT.out.below k1)
        have rx1 := range_on rx k1
        have IX1 := IX.below k1
        have b1 := kb.trans (k1.mono kb.size)
        clear q rx IX HT kb k1
        go_wp2_with (first | go_skip | (refine IdJ.wpList_alloc_id rfl rfl ?_) | (refine CmG.wpList_store_id rfl _ _ rfl _ nought _ rfl hi _ rfl rfl rfl ?_; intro w2 G2 k2 s2; have T2 := aside (T1.out.below k2); have b2 := b1.trans (k2.mono b1.size); clear s2) | (refine wpList_load_id rfl _ rfl _ _ rfl hi G2.range ?_) | (refine build_one rfl _ rfl hi rfl ?_; intro w3 S3 k3; have T3 := aside (T2.out.below k3); have b3 := b2.trans (k3.mono b2.size)) | (refine append_ids_at rfl (.tmp 28) (.tmp 30) rfl w.heap.size u6 ks.length ks rfl T3.out.rb _ 1 1 [hi] rfl rfl S3 (by omega) b3.size ?_; intro v4 w4 o4 g4 e4; have T4 := aside (T3.out.right (c := [hi]) o4 g4 e4); have b4 : Below w.heap.size w w4 := below_grown b3 b3.size g4 (fun q hq => (T3.out.rb.lt q hq).1); have vx4 := (b4.cell (p := ⟨b, off + k * 8 + 3, none⟩) hbw).trans (HRX.out 3 _ rfl); have IX4 := HIX.out.below b4; clear T1 T2 T3 b1 b2 b3 G2 S3 k2 k3 o4 g4 e4 rx1 IX1) | (refine append_ids_at rfl (.tmp 32) (.tmp 37) rfl w.heap.size u5 ps.length ps rfl T4.out.ra x.a _ x.k x.c.ps rfl rfl IX4 (by omega) b4.size ?_; intro v6 w6 o6 g6 e6))
        have T6 := aside (T4.out.left o6 g6 e6)
        have b6 : Below w.heap.size w w6 := below_grown b4 b4.size g6 (fun q hq => (T4.out.ra.lt q hq).1)
        clear T4 o6 g6 e6 vx4
        go_roundw
        case rel => exact ⟨k + 1, by omega, by go_num, aside (by rw [HPN.out, HKN.out]; exact T6.out), b6⟩
        case measure => simp [intOf]; omega
    · obtain rfl : k = l.length := by omega
      have T2 := HT.out
      rw [List.take_of_length_le (by omega)] at T2
      obtain ⟨ps, hps⟩ : ∃ ps, parsW (coms l) = ps := ⟨_, rfl⟩
      obtain ⟨ks, hks⟩ : ∃ ks, knownW hashK (coms l) h = ks := ⟨_, rfl⟩
      have HM : Hid (missW hashK (coms l) h = without ps ks) := aside (by unfold missW; rw [hks]; exact congrArg (fun z => without z ks) hps)
      rw [hps] at hs T2
      rw [hks] at T2
      obtain ⟨A5, c5, rfl, S5⟩ := SlI.own T2.ra
      obtain ⟨A6, c6, rfl, S6⟩ := SlI.own T2.rb
      have q := IdY.rwithout_ret A5 A6 c5 c6 ps ks wr S5 S6 hs
      unfold NewI at q
      clear HT T2 S5 S6 hps hks
      go_wp2_with (first | go_skip)
      refine q.mono ?_
      rintro e w2 ⟨v2, rfl, o2, k2⟩
      obtain ⟨A7, c7, rfl, S7⟩ := SlI.own o2
      clear q o2
      go_wp2_with (first | go_skip)
      go_ret
      rw [HM.out]
      exact ⟨A7, c7, rfl, S7, kb.trans (k2.mono kb.size)⟩
end Go.Proofs.YteojkfbnenfmkaaGreatDoor.WtT
