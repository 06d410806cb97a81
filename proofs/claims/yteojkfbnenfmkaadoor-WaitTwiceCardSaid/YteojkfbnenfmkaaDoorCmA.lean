/- Contracts of package commit, by the names that the laws' walks call them by; the chapter's own example: 'awake' returns true. -/
import Derived.Test.YteojkfbnenfmkaaDoorCmFJ2
import Derived.Test.YteojkfbnenfmkaaDoorCmT
namespace Go.Proofs.YteojkfbnenfmkaaDoor.CmA
set_option maxRecDepth 100000
open Go Go.Sort Go.RowKit Byt EncM EncC EncT IdM IdW OpsM OpsW CmM StW CmW CmY

theorem may_ret (v : Cv) (w : World) (S : In w v) (hf : Fit v.c) : Calls Tryd.prog 13 #[.agg (cc v)] w fun e w' => e = .returned (.bool (mayK v.c)) ∧ Below w.heap.size w w' := CmV.may_ret v w S hf
theorem merge_ret (v : Cv) (w : World) (S : In w v) (_hf : Fit v.c) : Calls Tryd.prog 14 #[.agg (cc v)] w fun e w' => e = .returned (.bool (isM v.c)) ∧ Below w.heap.size w w' := CmV.merge_ret v w S
theorem same_ret (u v : Cv) (w : World) (S : In w u) (T : In w v) : Calls Tryd.prog 12 #[.agg (cc u), .agg (cc v)] w fun e w' => e = .returned (.bool (CmR.sameK u.c v.c)) ∧ Below w.heap.size w w' := CmV.same_ret u v w S T
theorem hash_ret (v : Cv) (w : World) (S : In w v) (hf : Fit v.c) (hK : ShaE.KIn w) : Calls Tryd.prog 19 #[.agg (cc v)] w (HashOut v.c w) := CmT.hash_ret v w S hf hK
def o1 : Opn := ⟨0, ⟨#[97]⟩, ⟨#[]⟩, 1⟩
def c1 : Com := ⟨0, 1, 1, [], o1⟩
def v1 : Cv := ⟨none, 0, c1⟩
theorem in1 (w : World) : In w v1 := SlI.nil w
theorem fit1 : Fit c1 := ⟨⟨by decide, by decide⟩, ⟨by decide, by decide⟩, ⟨by decide, by decide⟩, ⟨⟨by decide, by decide⟩, ⟨by decide, by decide⟩, of_decide_eq_true (by kernel_rfl), of_decide_eq_true (by kernel_rfl)⟩⟩
theorem may1 : mayK c1 = true := by kernel_rfl
theorem text1 (x : Int) : textL [x] = [1, x] := by
  unfold textL
  rw [show ([x] : List Int).length = 1 from rfl, numL_one (by omega)]
  rfl
theorem op1 : putL o1 = [0, 1, 97, 2] := by
  unfold putL tailL
  rw [show bytesL o1.key = [97] by kernel_rfl, text1, show o1.kind.toNat = 0 from rfl, if_pos (show o1.kind = 0 from rfl), show (foldI o1.n).toNat = 2 by kernel_rfl, numL_one (by omega), numL_one (by omega)]
  rfl
theorem put1 : putK c1 = [0, 1, 1, 0, 0, 1, 97, 2] := by
  unfold putK headL opL
  rw [if_neg (show ¬ c1.node = -1 by decide), show c1.op = o1 from rfl, op1, show (foldI c1.node).toNat = 0 by kernel_rfl, show c1.seq.toNat = 1 from rfl, show c1.gen.toNat = 1 from rfl, show c1.ps.length = 0 from rfl, numL_one (by omega), numL_one (by omega)]
  rfl
set_option maxRecDepth 100000 in
set_option maxHeartbeats 8000000 in
theorem some_ret (w : World) : Calls Tryd.prog 44 #[] w fun e w' => e = .returned (.agg (cc v1)) ∧ Below w.heap.size w w' := by
  go_enter Tryd.func44, Tryd.ntmps44
  go_wp2_with (first | go_skip | (refine Cel.wpList_store_new CE rfl _ _ rfl w _ _ rfl v1 _ rfl rfl rfl rfl ?_; intro w2 B2 k2 g2 s2))
  exact bodyPost_ret (v := .agg (cc v1)) (CmF.results_c Tryd.results44 _ _ w.heap.size v1 rfl B2) rfl ⟨rfl, k2⟩
/-- An id read whole in a region that draws its order. -/
theorem quiet_id {a : Act} {o : Oper} {K : Act → Prop} {w : World} (x : Operand) (ho : o.op = .load 42 x)
    (b off : Nat) (hx : a.eval x = .pointer (some ⟨b, off, none⟩)) (y : Idn) (hc : w.rangeAt b off (bv y.1)) (hk : K (a.put o.dst (.agg (cs y)))) : o.quiet Tryd.prog a (fun w' => ∃ p : Regrown, w' = grow (redrawn w p.d) p.os) K := by
  refine ⟨.agg (cs y), fun u hu => ?_, hk⟩
  obtain ⟨p, rfl⟩ := hu
  have q := IdW.load_mid (IdW.range_below hc (below_regrown w p.d p.os))
  unfold Oper.quietAt execOp
  simp only [ho, hx, Sem.run_bind, q, Result.andThen_ok, Sem.run_pure]
  exact ⟨rfl, rfl⟩
end Go.Proofs.YteojkfbnenfmkaaDoor.CmA
