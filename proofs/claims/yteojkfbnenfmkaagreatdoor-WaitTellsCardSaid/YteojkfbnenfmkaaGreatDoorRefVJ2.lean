/- What the document's answer's Pad of package sha returns: a contract. | The contracts of the document's Four and Long once more, with the bytes named. -/
import Derived.Test.YteojkfbnenfmkaaGreatDoorShaFJ2
import Derived.Test.YteojkfbnenfmkaaGreatDoorRefCJ4
import Derived.Laws.AppendOwn
import Derived.Laws.AppendOwnNone
import Derived.OwnWalk
import Derived.Test.YteojkfbnenfmkaaGreatDoorShaMJ5
namespace Go.Proofs.YteojkfbnenfmkaaGreatDoor.RefV
set_option maxRecDepth 100000
open Go.RowKit RotM RotN RotC RotD RotG Small PadM ShaF

theorem grown_of_below {w w' : World} (hb : Below w.heap.size w w') (row : Option Nat) : w.grownBy w' row := ⟨hb.os, hb.tape, hb.output, hb.size, fun i hi _ => hb.block i hi⟩
theorem owns_below {w w' : World} {base : Nat} {e : TypeId} {size : Nat} {v : Value} {n : Nat} {xs : List Value} (h : w.ownsRow base e size v n xs) (hb : Below w.heap.size w w') : w'.ownsRow base e size v n xs :=
  h.kept (grown_of_below hb none) (by cases hv : v.ownBlock <;> simp)
theorem below_grown {B : Nat} {w0 w w' : World} {row : Option Nat} (hb : Below B w0 w) (hB : B ≤ w.heap.size) (hg : w.grownBy w' row) (hr : ∀ k, row = some k → B ≤ k) : Below B w0 w' :=
  hb.trans ⟨hg.os, hg.tape, hg.output, hg.size, fun k hk => hg.block k (by omega) (fun e => by have := hr k e.symm; omega)⟩
theorem owns_out {w : World} {base n : Nat} {e : TypeId} {v : Value} {xs : List Value} (h : w.ownsRow base e 1 v n xs) (hn : 0 < n) : ∃ g cap, v = .slice (some ⟨g, 0, none⟩) n cap ∧ base ≤ g ∧ n ≤ cap ∧ cap ≤ maxLen ∧ g < w.heap.size := by
  have hlt := h.lt
  rcases h.2 with ⟨_, h0⟩ | ⟨g, cap, cur, rfl, hb, hg, h1, h2, _⟩
  · omega
  · exact ⟨g, cap, rfl, hb, h1, h2, (hlt g rfl).2⟩

theorem src_at_of {w : World} {x : Addr} {len cap : Nat} {zs : List Int} (hc : ∀ i, i < zs.length → w.cell? (x.add i) = some (.int .u8 (zs.getD i 0))) (_h1 : len ≤ cap) (_h3 : len ≤ zs.length ∧ zs.length ≤ cap) (j : Nat) (v : Value) (hv : (bv (zs.take len))[j]? = some v) : w.cell? (x.add j) = some v := by
  have hj : j < (zs.take len).length := by
    have := (List.getElem?_eq_some_iff.1 hv).1
    simpa [bv] using this
  have hj2 : j < len ∧ j < zs.length := by simp at hj; omega
  rw [bv_at _ hj] at hv
  rw [hc j hj2.2, ← hv]
  congr 2
  rw [List.getD_eq_getElem?_getD, List.getD_eq_getElem?_getD, List.getElem?_take, if_pos hj2.1]
/-- 'append' of a slice of bytes that came in, nil or not. -/
theorem wpList_append_in {P : Program} {w : World} {ops : Array Oper} {rest : List Oper} {o : Oper} {a : Act} {Q : Exit → Act → World → Prop} (hgd : o.guard = none) (s x : Operand) (t : TypeId)
    (ho : o.op = .call { callee := .builtin .append, args := #[s, x], argTypes := #[t, t] })
    (base : Nat) (e : TypeId) (ht : P.underlying t = some (.slice e)) (hz : (P.info? e).map (fun i => (i.zero, i.size, i.bytes)) = some (some (.int .u8 0), 1, 1))
    (v : Value) (n : Nat) (xs : List Value) (hs : a.eval s = v) (hown : w.ownsRow base e 1 v n xs)
    (A : Option Addr) (m c : Nat) (zs : List Int) (hx : a.eval x = .slice A m c) (hr : RowIn.RowL .u8 w A m c zs)
    (h63 : n + m ≤ 1099511627900) (hbase : base ≤ w.heap.size)
    (h : ∀ v' w', w'.ownsRow base e 1 v' (n + m) (xs ++ bv (zs.take m)) → w.grownBy w' v.ownBlock → wpList P ops Q rest (a.put o.dst v') w') : wpList P ops Q (o :: rest) a w := by
  obtain ⟨i, hi, z0, z1, z2⟩ := info_parts hz
  obtain ⟨h1, h2, h3, h4, h5⟩ := hr
  rcases h5 with ⟨rfl, rfl, rfl⟩ | ⟨ad, rfl, hc⟩
  · refine wpList_append_own_none hgd s x t ho base e i 1 ht hi v n xs hs hown hx (h v w ?_ (grown_of_below (Below.refl _ _) _))
    simpa [bv] using hown
  · refine wpList_append_own w hgd s x t ho base e i (.int .u8 0) 1 1 ht hi z0 z1 z2 rfl (by decide) v n xs hs hown ad m c (bv (zs.take m)) hx (by rw [bv_length]; simp; omega) (src_at_of hc h1 h3) (bv_one _) (by unfold maxLen; omega) (by omega) hbase (fun v' w' a1 a2 _ => h v' w' a1 a2)

/-- 'append' of bytes that lie in a block of their own. -/
theorem wpList_append_at {P : Program} {w : World} {ops : Array Oper} {rest : List Oper} {o : Oper} {a : Act} {Q : Exit → Act → World → Prop} (hgd : o.guard = none) (s x : Operand) (t : TypeId)
    (ho : o.op = .call { callee := .builtin .append, args := #[s, x], argTypes := #[t, t] })
    (base : Nat) (e : TypeId) (ht : P.underlying t = some (.slice e)) (hz : (P.info? e).map (fun i => (i.zero, i.size, i.bytes)) = some (some (.int .u8 0), 1, 1))
    (v : Value) (n : Nat) (xs : List Value) (hs : a.eval s = v) (hown : w.ownsRow base e 1 v n xs)
    (g m c : Nat) (ls : List Int) (hx : a.eval x = .slice (some ⟨g, 0, none⟩) m c) (hm : ls.length = m) (hA : At w g (bv ls).toArray)
    (h63 : n + m ≤ 1099511627900) (hbase : base ≤ w.heap.size)
    (h : ∀ v' w', w'.ownsRow base e 1 v' (n + m) (xs ++ bv ls) → w.grownBy w' v.ownBlock → wpList P ops Q rest (a.put o.dst v') w') : wpList P ops Q (o :: rest) a w := by
  obtain ⟨i, hi, z0, z1, z2⟩ := info_parts hz
  refine wpList_append_own w hgd s x t ho base e i (.int .u8 0) 1 1 ht hi z0 z1 z2 rfl (by decide) v n xs hs hown ⟨g, 0, none⟩ m c (bv ls) hx (by rw [bv_length]; omega) (fun j u hu => ?_) (bv_one _) (by unfold maxLen; omega) (by omega) hbase (fun v' w' a1 a2 _ => h v' w' a1 a2)
  have hadd : (⟨g, 0, none⟩ : Addr).add j = ⟨g, j, none⟩ := by unfold Addr.add; split <;> simp_all
  rw [hadd, hA.cell j, ← hu]
  simp

/-- A new slice whose first cells are the bytes l. -/
def RowOut (l : List Int) (w : World) (e : Ending) (w' : World) : Prop :=
  ∃ g cap, e = .returned (.slice (some ⟨g, 0, none⟩) l.length cap) ∧ l.length ≤ cap ∧ cap ≤ maxLen ∧ w.heap.size ≤ g ∧ (∀ i, i < l.length → w'.cell? ⟨g, i, none⟩ = some (.int .u8 (l.getD i 0))) ∧ Below w.heap.size w w'
/-- How long a slice is. -/
def lenV : Value → Nat
  | .slice _ n _ => n
  | _ => 0

set_option maxHeartbeats 1000000 in
theorem padW {w : World} {A : Option Addr} {len cap : Nat} {zs : List Int} (hr : RowIn.RowL .u8 w A len cap zs) (hl : len ≤ 1099511627776) :
    Calls Tryz.prog 75 #[.slice A len cap] w (RowOut (padL (zs.take len)) w) := by
  obtain ⟨bs, hbs⟩ : ∃ bs, zs.take len = bs := ⟨_, rfl⟩
  have hlen : bs.length = len := by
    have h1 := hr.1
    have h3 := hr.2.2.1
    rw [← hbs]; simp; omega
  rw [hbs]
  have HR := RotF.aside hr
  have HB := RotF.aside hbs
  have HL := RotF.aside hlen
  clear hr hbs hlen
  have hn1 := nPad_lo len
  have hn2 := nPad_hi len
  have hn3 := nPad_mod len
  go_enter Tryz.func75, Tryz.ntmps75
  go_wp2_with (first
    | (refine wpList_append_in rfl (.const (.slice none 0 0)) (.tmp 5) 58 rfl w.heap.size 5 Tryz.underlying58 zero_u8 (.slice none 0 0) 0 [] rfl (World.ownsRow_nil _ _ _ _) A len cap zs rfl HR.out (by omega) (Nat.le_refl _) ?_; intro v1 w1 hown1 hg1; rw [HB.out, Nat.zero_add, List.nil_append] at hown1; have hb1 : Below w.heap.size w w1 := below_grown (Below.refl _ _) (Nat.le_refl _) hg1 (fun k hk => by cases hk); have HO1 := RotF.aside hown1; clear hown1 hg1)
    | (refine wpList_append_at rfl (.tmp 7) (.tmp 8) 58 rfl w.heap.size 5 Tryz.underlying58 zero_u8 v1 len (bv bs) rfl (HO1.out.alloc _) w1.heap.size 1 1 [128] rfl rfl (At.new _ _ _) (by omega) (by have := hb1.size; simp; omega) ?_; intro v2 w2 hown2 hg2; rw [← bv_append] at hown2; have hb2 : Below w.heap.size w w2 := below_grown (hb1.alloc hb1.size _) (by have := hb1.size; simp; omega) hg2 (fun k hk => (HO1.out.lt k hk).1); have HO2 := RotF.aside hown2; clear hown2 hg2 HO1 hb1))
  obtain ⟨g2, c2, rfl, q1, q2, q3, q4⟩ := owns_out HO2.out (by omega)
  go_loopw [3] (fun v wr => ∃ g c K : Nat, v = .slice (some ⟨g, 0, none⟩) K c ∧ len + 1 ≤ K ∧ K + 8 ≤ nPad len ∧ Hid (wr.ownsRow w.heap.size 5 1 (.slice (some ⟨g, 0, none⟩) K c) K (bv (bs ++ (128 :: List.replicate (K - len - 1) 0)))) ∧ Below w.heap.size w wr) (fun v _ => nPad len - lenV v)
  case atStart => exact ⟨g2, c2, len + 1, rfl, Nat.le_refl _, by omega, by simpa using HO2, hb2⟩
  case round =>
    clear q1 q2 q3 q4 HO2 hb2
    obtain ⟨g, c, K, rfl, hK1, hK2, HO, hb⟩ := hrel
    by_cases hlt : K + 8 < nPad len
    · have t1 : ((K : Int) % 64 != 56) = true := by simp; omega
      have t2 : ((K : Int).tmod 64 != 56) = true := by rw [Int.tmod_eq_emod_of_nonneg (by omega)]; simp; omega
      go_wp2_with (refine wpList_append_at rfl (.tmp 14) (.tmp 15) 58 rfl w.heap.size 5 Tryz.underlying58 zero_u8 _ K _ rfl (HO.out.alloc _) wr.heap.size 1 1 [0] rfl rfl (At.new _ _ _) (by omega) (by have := hb.size; simp; omega) ?_; intro v3 w3 hown3 hg3; rw [← bv_append] at hown3; have hb3 : Below w.heap.size w w3 := below_grown (hb.alloc hb.size _) (by have := hb.size; simp; omega) hg3 (fun k hk => (HO.out.lt k hk).1); have HO3 := RotF.aside hown3; clear hown3 hg3)
      obtain ⟨g3, c3, rfl, q1, q2, q3, q4⟩ := owns_out HO3.out (by omega)
      go_roundw
      case rel =>
        refine ⟨g3, c3, K + 1, rfl, by omega, by omega, ?_, hb3⟩
        have e : bs ++ (128 :: List.replicate (K - len - 1) 0) ++ [0] = bs ++ (128 :: List.replicate (K + 1 - len - 1) (0 : Int)) := by
          rw [show K + 1 - len - 1 = (K - len - 1) + 1 by omega, List.replicate_succ']
          simp
        rw [← e]
        exact HO3
      case measure => simp [lenV]; omega
    · have t1 : ((K : Int) % 64 != 56) = false := by simp; omega
      have t2 : ((K : Int).tmod 64 != 56) = false := by rw [Int.tmod_eq_emod_of_nonneg (by omega)]; simp; omega
      have hKe : K = nPad len - 8 := by omega
      have HKe := RotF.aside hKe
      clear hKe
      go_wp2_with fail
      clear t1 t2
      obtain ⟨x0, x1, x2, x3, x4, x5, x6, x7, hx, hx8⟩ : ∃ x0 x1 x2 x3 x4 x5 x6 x7 : Int, longV (8 * (len : Int)) = #[.int .u8 x0, .int .u8 x1, .int .u8 x2, .int .u8 x3, .int .u8 x4, .int .u8 x5, .int .u8 x6, .int .u8 x7] ∧ long8 (8 * (len : Int)) = [x0, x1, x2, x3, x4, x5, x6, x7] := ⟨_, _, _, _, _, _, _, _, rfl, rfl⟩
      have hq := reflong (8 * (len : Int)) (by omega) wr
      rw [hx] at hq
      have HX8 := RotF.aside hx8
      clear hx hx8
      refine hq.mono ?_
      clear hq
      rintro e w3 ⟨rfl, h3⟩
      have HO3 := RotF.aside (owns_below HO.out h3)
      have hb3 := hb.trans (h3.mono hb.size)
      have hs3 := hb3.size
      clear HO hb h3
      go_wp2_with (refine wpList_append_at rfl (.tmp 22) (.tmp 39) 58 rfl w.heap.size 5 Tryz.underlying58 zero_u8 _ K _ rfl ((HO3.out.alloc _).alloc _) (w3.heap.size + 1) 8 8 [x0, x1, x2, x3, x4, x5, x6, x7] rfl rfl (At.new2 _ _ _ _) (by omega) (by simp; omega) ?_; intro v4 w4 hown4 hg4; rw [← bv_append] at hown4; have hb4 : Below w.heap.size w w4 := below_grown ((hb3.alloc hs3 _).alloc (by simp; omega) _) (by simp; omega) hg4 (fun k hk => (HO3.out.lt k hk).1); have HO4 := RotF.aside hown4; clear hown4 hg4)
      obtain ⟨g4, c4, rfl, q1, q2, q3, q4⟩ := owns_out HO4.out (by omega)
      have hown := HO4.out
      have eP : bs ++ (128 :: List.replicate (K - len - 1) 0) ++ [x0, x1, x2, x3, x4, x5, x6, x7] = padL bs := by
        unfold padL
        rw [HL.out, HX8.out, show K - len - 1 = nPad len - len - 9 by have := HKe.out; omega]
        simp
      rw [eP] at hown
      have hPl := padL_length bs
      rw [HL.out] at hPl
      have hK8 : K + 8 = (padL bs).length := by have := HKe.out; omega
      rw [hK8] at hown q2 ⊢
      go_ret
      refine ⟨g4, c4, rfl, q2, q3, q1, fun i hi => ?_, hb4⟩
      rw [hown.cellAt i (by omega), bv_at _ hi]
end Go.Proofs.YteojkfbnenfmkaaGreatDoor.RefV
namespace Go.Proofs.YteojkfbnenfmkaaGreatDoor.RotG
set_option maxRecDepth 100000
open Go.RowKit RotM RotC RotD RotN

end Go.Proofs.YteojkfbnenfmkaaGreatDoor.RotG
