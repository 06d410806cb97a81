/- Bytes in regions that draw their order: laws for the walk. No condition. -/
import Derived.Test.YtkjhjaeglgoepaaByt
import Derived.Deep.RegionLaw
namespace Go.Proofs.Ytkjhjaeglgoepaa.BytR
open Go.RowKit Byt

/-- 'append' of a slice of bytes inside a region that draws its order. -/
theorem step_append_sl {P : Program} {w : World} {ops : Array Oper} {o : Oper} {a : Act} {K : Act → World → Prop} {Q : Exit → Act → World → Prop} {E : Prop} (hgd : o.guard = none) (s x : Operand) (t : TypeId)
    (ho : o.op = .call { callee := .builtin .append, args := #[s, x], argTypes := #[t, t] })
    (base : Nat) (e : TypeId) (ht : P.underlying t = some (.slice e)) (hz : (P.info? e).map (fun i => (i.zero, i.size, i.bytes)) = some (some (.int .u8 0), 1, 1))
    (v : Value) (n : Nat) (xs : List Int) (hs : a.eval s = v) (hown : w.ownsRow base e 1 v n (bv xs))
    (A : Option Addr) (m c : Nat) (l : List Int) (hx : a.eval x = .slice A m c) (hm : l.length = m) (hr : Sl w A c l)
    (h63 : n + m ≤ 1099511627900) (hbase : base ≤ w.heap.size)
    (h : ∀ v' w', w'.ownsRow base e 1 v' (n + m) (bv (xs ++ l)) → w.grownBy w' v.ownBlock → K (a.put o.dst v') w') :
    if Region.wanted o (yielded ops a.tmps) = true then Oper.wp P o a w K Q else E := by
  have hw : Region.wanted o (yielded ops a.tmps) = true := by simp [Region.wanted, hgd]
  rw [if_pos hw]
  obtain ⟨i, hi, z0, z1, z2⟩ := info_parts hz
  subst hm
  have key : ∃ v' w', (Builtin.append_ #[t, t] o.type #[v, .slice A l.length c]).run P w = .ok v' w' ∧ w'.ownsRow base e 1 v' (n + l.length) (bv (xs ++ l)) ∧ w.grownBy w' v.ownBlock := by
    obtain ⟨h1, h2, h4, h5⟩ := hr
    rcases h5 with ⟨rfl, rfl, rfl⟩ | ⟨ad, rfl, hc⟩
    · exact ⟨v, w, run_append_owned_none (P := P) (w := w) base t o.type e i 1 ht hi v n (bv xs) hown, by simpa using hown, grown_of_below (Below.refl _ _) _⟩
    · obtain ⟨v', w', q1, q2, q3, _⟩ := run_append_own (P := P) w base t o.type e i (.int .u8 0) 1 1 ht hi z0 z1 z2 rfl (by decide) v n (bv xs) hown ad l.length c (bv l) (by rw [bv_length]; omega) (fun j u hu => by
        have hj : j < l.length := by
          have := (List.getElem?_eq_some_iff.1 hu).1
          simpa [bv] using this
        rw [bv_at _ hj] at hu
        rw [hc j hj, ← hu]) (bv_one _) (by unfold maxLen; omega) (by omega) hbase
      exact ⟨v', w', q1, by rw [bv_append]; exact q2, q3⟩
  obtain ⟨v', w', q1, q2, q3⟩ := key
  unfold Oper.wp execOp
  simp only [ho, resolve, invoke, builtin, Sem.run_bind, Sem.run_pure, Result.andThen_ok, List.map_toArray, List.map_cons, List.map_nil, hs, hx, q1]
  exact h v' w' q2 q3
end Go.Proofs.Ytkjhjaeglgoepaa.BytR
namespace Go.Proofs.Ytkjhjaeglgoepaa.Byt
open Go.RowKit
/-- A block known whole, as a slice. -/
theorem Sl.of_cells {w : World} {g : Nat} {l : List Int} {t : TypeId} {fr : Nat × Nat} (h : w.heap[g]? = some (.cells (bv l).toArray t fr)) (hl : l.length ≤ maxLen) (hb : ∀ x ∈ l, B x) : Sl w (some ⟨g, 0, none⟩) l.length l := by
  refine ⟨Nat.le_refl _, hl, hb, .inr ⟨_, rfl, fun i hi => ?_⟩⟩
  rw [Addr.add_lit, Nat.zero_add, cell_of_row w g i _ t fr h, List.getElem?_toArray, bv_at _ hi]
end Go.Proofs.Ytkjhjaeglgoepaa.Byt
