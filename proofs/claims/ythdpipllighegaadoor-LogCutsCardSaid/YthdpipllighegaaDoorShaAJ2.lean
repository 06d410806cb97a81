/- The chapter's own examples: 'awake' returns true. And: what a slice of bytes that the call itself made is told as. | Bytes in regions that draw their order: laws for the walk. No condition. -/
import Derived.Test.YthdpipllighegaaDoorShaH
import Derived.Test.YthdpipllighegaaDoorShaK
import Derived.Lib.SlBytesConst
import Derived.Test.YthdpipllighegaaDoorByt
import Derived.Deep.RegionLaw
namespace Go.Proofs.YthdpipllighegaaDoor.ShaA
set_option maxRecDepth 100000
open Go.RowKit RotM RotN RotC RotD ShaM ShaC ShaD ShaE RotG Small PadM ShaF ShaG SumM ShaH ShaK

theorem idl_0 : idL end0_0 8 = [227, 176, 196, 66, 152, 252, 28, 20, 154, 251, 244, 200, 153, 111, 185, 36, 39, 174, 65, 228, 100, 155, 147, 76, 164, 149, 153, 27, 120, 82, 184, 85] := by kernel_rfl
theorem sumL_0 : sumL [] = [227, 176, 196, 66, 152, 252, 28, 20, 154, 251, 244, 200, 153, 111, 185, 36, 39, 174, 65, 228, 100, 155, 147, 76, 164, 149, 153, 27, 120, 82, 184, 85] := by
  have h : sumL [] = idL (hsum (padL text0) 1) 8 := rfl
  rw [h, sum0, idl_0]
theorem idl_1 : idL end1_0 8 = [186, 120, 22, 191, 143, 1, 207, 234, 65, 65, 64, 222, 93, 174, 34, 35, 176, 3, 97, 163, 150, 23, 122, 156, 180, 16, 255, 97, 242, 0, 21, 173] := by kernel_rfl
theorem sumL_1 : sumL [97, 98, 99] = [186, 120, 22, 191, 143, 1, 207, 234, 65, 65, 64, 222, 93, 174, 34, 35, 176, 3, 97, 163, 150, 23, 122, 156, 180, 16, 255, 97, 242, 0, 21, 173] := by
  have h : sumL [97, 98, 99] = idL (hsum (padL text1) 1) 8 := rfl
  rw [h, sum1, idl_1]

/-- A row known whole is a slice of bytes as a walk is told of one. -/
theorem rowIn_row {w : World} {g : Nat} {l : List Int} {t : TypeId} {fr : Nat × Nat} (h : w.heap[g]? = some (.cells (bv l).toArray t fr)) (hl : l.length ≤ maxLen) (hb : ∀ x ∈ l, B x) : RowIn.RowIn .u8 w (some ⟨g, 0, none⟩) l.length l.length l := by
  refine ⟨Nat.le_refl _, hl, rfl, fun n hn => ?_, .inr ⟨_, rfl, fun i hi => ?_⟩⟩
  · have := hb n hn
    unfold B at this
    simp [Lit.wf, IntKind.min, IntKind.max, IntKind.bits, IntKind.signed]
    omega
  · have hadd : (⟨g, 0, none⟩ : Addr).add i = ⟨g, i, none⟩ := by unfold Addr.add; split <;> simp_all
    rw [hadd, cell_of_row w g i _ t fr h, List.getElem?_toArray, bv_at _ hi]
theorem rowIn_at {w : World} {g : Nat} {l : List Int} (h : At w g (bv l).toArray) (hl : l.length ≤ maxLen) (hb : ∀ x ∈ l, B x) : RowIn.RowIn .u8 w (some ⟨g, 0, none⟩) l.length l.length l := by
  obtain ⟨t, ht⟩ := h
  exact rowIn_row ht hl hb
theorem rowIn_nil (w : World) : RowIn.RowIn .u8 w none 0 0 [] := ⟨Nat.le_refl _, Nat.zero_le _, rfl, by simp, .inl ⟨rfl, rfl, rfl⟩⟩

theorem sum_abc (g : Nat) (w : World) (t : TypeId) (fr : Nat × Nat) (h : w.heap[g]? = some (.cells (bv [97, 98, 99]).toArray t fr)) (hK : KIn w) :
    Calls Tryd.prog 25 #[.slice (some ⟨g, 0, none⟩) 3 3] w fun e w' => e = .returned (.agg (bv (sumL [97, 98, 99])).toArray) ∧ Below w.heap.size w w' :=
  by
  have q := sum (rowIn_row h (by unfold maxLen; simp) (by unfold B; decide)) (by simp) hK
  exact q
theorem sum_nil (w : World) (hK : KIn w) :
    Calls Tryd.prog 25 #[.slice none 0 0] w fun e w' => e = .returned (.agg (bv (sumL [])).toArray) ∧ Below w.heap.size w w' :=
  sum (rowIn_nil w) (by omega) hK
theorem pad_nil (w : World) : Calls Tryd.prog 33 #[.slice none 0 0] w (Fresh (padL []) w) := pad (rowIn_nil w) (by omega)
theorem size_sum (l : List Int) : (bv (sumL l)).toArray.size = 32 := by rw [List.size_toArray, bv_length, sumL_length]
theorem pad_nil_length : (padL []).length = 64 := by kernel_rfl

end Go.Proofs.YthdpipllighegaaDoor.ShaA
namespace Go.Proofs.YthdpipllighegaaDoor.BytR
set_option maxRecDepth 100000
open Go.RowKit Byt

/-- 'append' of a slice of bytes inside a region that draws its order. -/
theorem step_append_sl {P : Program} {w : World} {ops : Array Oper} {o : Oper} {a : Act} {K : Act → World → Prop} {Q : Exit → Act → World → Prop} {E : Prop} (hgd : o.guard = none) (s x : Operand) (t : TypeId)
    (ho : o.op = .call { callee := .builtin .append, args := #[s, x], argTypes := #[t, t] })
    (base : Nat) (e : TypeId) (ht : P.underlying t = some (.slice e)) (hz : (P.info? e).map (fun i => (i.zero, i.size, i.bytes)) = some (some (.int .u8 0), 1, 1))
    (v : Value) (n : Nat) (xs : List Int) (hs : a.eval s = v) (hown : w.ownsRow base e 1 v n (bv xs))
    (A : Option Addr) (m c : Nat) (l : List Int) (hx : a.eval x = .slice A m c) (hm : l.length = m) (hr : Sl w A c l)
    (h63 : n + m ≤ 1099511627900) (hbase : base ≤ w.heap.size)
    (h : ∀ v' w', w'.ownsRow base e 1 v' (n + m) (bv (xs ++ l)) → w.grownBy w' v.ownBlock → K (a.put o.dst v') w') :
    if Region.wanted o (yielded ops a.tmps) = true then Oper.wp P o a w K Q else E := by
  have hw : Region.wanted o (yielded ops a.tmps) = true := by simp [Region.wanted, hgd]
  rw [if_pos hw]
  obtain ⟨i, hi, z0, z1, z2⟩ := info_parts hz
  subst hm
  have key : ∃ v' w', (Builtin.append_ #[t, t] o.type #[v, .slice A l.length c]).run P w = .ok v' w' ∧ w'.ownsRow base e 1 v' (n + l.length) (bv (xs ++ l)) ∧ w.grownBy w' v.ownBlock := by
    obtain ⟨h1, h2, h4, h5⟩ := hr
    rcases h5 with ⟨rfl, rfl, rfl⟩ | ⟨ad, rfl, hc⟩
    · exact ⟨v, w, run_append_owned_none (P := P) (w := w) base t o.type e i 1 ht hi v n (bv xs) hown, by simpa using hown, grown_of_below (Below.refl _ _) _⟩
    · obtain ⟨v', w', q1, q2, q3, _⟩ := run_append_own (P := P) w base t o.type e i (.int .u8 0) 1 1 ht hi z0 z1 z2 rfl (by decide) v n (bv xs) hown ad l.length c (bv l) (by rw [bv_length]; omega) (fun j u hu => by
        have hj : j < l.length := by
          have := (List.getElem?_eq_some_iff.1 hu).1
          simpa [bv] using this
        rw [bv_at _ hj] at hu
        rw [hc j hj, ← hu]) (bv_one _) (by unfold maxLen; omega) (by omega) hbase
      exact ⟨v', w', q1, by rw [bv_append]; exact q2, q3⟩
  obtain ⟨v', w', q1, q2, q3⟩ := key
  unfold Oper.wp execOp
  simp only [ho, resolve, invoke, builtin, Sem.run_bind, Sem.run_pure, Result.andThen_ok, List.map_toArray, List.map_cons, List.map_nil, hs, hx, q1]
  exact h v' w' q2 q3
end Go.Proofs.YthdpipllighegaaDoor.BytR
namespace Go.Proofs.YthdpipllighegaaDoor.Byt
open Go.RowKit
/-- A block known whole, as a slice. -/
theorem Sl.of_cells {w : World} {g : Nat} {l : List Int} {t : TypeId} {fr : Nat × Nat} (h : w.heap[g]? = some (.cells (bv l).toArray t fr)) (hl : l.length ≤ maxLen) (hb : ∀ x ∈ l, B x) : Sl w (some ⟨g, 0, none⟩) l.length l := by
  refine ⟨Nat.le_refl _, hl, hb, .inr ⟨_, rfl, fun i hi => ?_⟩⟩
  rw [Addr.add_lit, Nat.zero_add, cell_of_row w g i _ t fr h, List.getElem?_toArray, bv_at _ hi]
end Go.Proofs.YthdpipllighegaaDoor.Byt
