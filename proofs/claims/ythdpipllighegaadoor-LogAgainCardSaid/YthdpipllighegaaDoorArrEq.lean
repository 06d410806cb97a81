/- Plain laws of the model that the walks need: two arrays of integers are the same just if each number is; a slice of four cells as an array's address. -/
import Derived.WalkKit
import Derived.ChangeKeysEq
namespace Go.Proofs.YthdpipllighegaaDoor.ArrEq
set_option maxRecDepth 100000
open Go.RowKit

section
variable {P : Program}

theorem run_part_int {e : TypeId} {k : IntKind} (he : P.underlying e = some (.int k)) (xs : Array Value) (i : Nat) (v : Value) (hv : xs[i]? = some v) (w : World) : (part e xs i).run P w = .ok v w := by
  simp [part, isAgg, run_underlying he, hv]

theorem eqItems_ints (w : World) (d : Nat) {e : TypeId} {k : IntKind} (he : P.underlying e = some (.int k)) (xs ys : Array Value) (f g : Nat → Int) :
    ∀ is : List Nat, (∀ i ∈ is, xs[i]? = some (.int k (f i)) ∧ ys[i]? = some (.int k (g i))) → (Op.eqItems (d + 1) e 1 xs ys is).run P w = .ok (is.all fun i => f i == g i) w
  | [], _ => by simp [Op.eqItems]
  | i :: is, h => by
    have h0 := h i (by simp)
    have hr := eqItems_ints w d he xs ys f g is (fun j hj => h j (by simp [hj]))
    simp only [Op.eqItems, Sem.run_bind, Nat.mul_one, run_part_int he xs i _ h0.1, run_part_int he ys i _ h0.2, Result.andThen_ok, run_equalIn_int w d e k k (f i) (g i) he]
    by_cases hc : f i = g i
    · simpa [hc] using hr
    · simp [hc]

/-- Two arrays of n integers of one kind. -/
theorem equal_ints (w : World) (d : Nat) {t e : TypeId} {n : Nat} {k : IntKind} {inf : TypeInfo} (hu : P.underlying t = some (.array n e)) (he : P.underlying e = some (.int k)) (hi : P.info? e = some inf) (hc : P.cellsOf e = 1)
    (xs ys : Array Value) (f g : Nat → Int) (h : ∀ i, i < n → xs[i]? = some (.int k (f i)) ∧ ys[i]? = some (.int k (g i))) :
    (Op.equalIn (d + 2) t (.agg xs) (.agg ys)).run P w = .ok ((List.range n).all fun i => f i == g i) w := by
  rw [run_equalIn_array w (d + 1) xs ys hu hi, hc]
  exact eqItems_ints w d he xs ys f g _ (fun i hx => h i (by simpa using hx))

/-- An array of integers is the same as itself. -/
theorem equal_self (w : World) (d : Nat) {t e : TypeId} {n : Nat} {k : IntKind} {inf : TypeInfo} (hu : P.underlying t = some (.array n e)) (he : P.underlying e = some (.int k)) (hi : P.info? e = some inf) (hc : P.cellsOf e = 1)
    (xs : Array Value) (f : Nat → Int) (h : ∀ i, i < n → xs[i]? = some (.int k (f i))) : (Op.equalIn (d + 2) t (.agg xs) (.agg xs)).run P w = .ok true w := by
  rw [equal_ints w d hu he hi hc xs xs f f (fun i hx => ⟨h i hx, h i hx⟩)]
  simp
end
end Go.Proofs.YthdpipllighegaaDoor.ArrEq
