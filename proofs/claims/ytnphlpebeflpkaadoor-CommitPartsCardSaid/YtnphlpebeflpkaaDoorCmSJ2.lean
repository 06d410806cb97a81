/- Sums of bytes as ids: what the project's Sum, and the document's, return. No condition. | What the document's Hash of package commit returns: a contract. -/
import Derived.Test.YtnphlpebeflpkaaDoorShaH
import Derived.Test.YtnphlpebeflpkaaDoorRefW
import Derived.Test.YtnphlpebeflpkaaDoorArrEqJ2
import Derived.Test.YtnphlpebeflpkaaDoorCmP
import Derived.Test.YtnphlpebeflpkaaDoorIdBJ2
namespace Go.Proofs.YtnphlpebeflpkaaDoor.CmS
set_option maxRecDepth 100000
open Go Go.RowKit IdM IdW Byt

theorem four_B (a : Int) (h : 0 ≤ a ∧ a ≤ 4294967295) : ∀ x ∈ PadM.four8 a, 0 ≤ x ∧ x ≤ 255 := by
  intro x hx
  simp only [PadM.four8, List.mem_cons, List.not_mem_nil, or_false] at hx
  rcases hx with rfl | rfl | rfl | rfl <;> omega
theorem sum_B (l : List Int) : ∀ x ∈ ShaH.sumL l, 0 ≤ x ∧ x ≤ 255 := by
  intro x hx
  unfold ShaH.sumL ShaG.idL at hx
  rw [List.mem_flatMap] at hx
  obtain ⟨i, _, hi⟩ := hx
  exact four_B _ (RotM.u_range _) x hi
/-- The id that bytes have. -/
def sumI (l : List Int) : Idn := ⟨ShaH.sumL l, ShaH.sumL_length l, sum_B l⟩
theorem rowL_of {w : World} {A : Option Addr} {cap : Nat} {l : List Int} (h : Sl w A cap l) : RowIn.RowL .u8 w A l.length cap l := by
  obtain ⟨h1, h2, h3, h4⟩ := h
  refine ⟨h1, h2, ⟨Nat.le_refl _, h1⟩, fun x hx => ?_, ?_⟩
  · have := h3 x hx
    simpa [B, Lit.wf, IntKind.min, IntKind.max, IntKind.bits, IntKind.signed] using this
  · rcases h4 with ⟨r1, r2, r3⟩ | ⟨x, r1, r2⟩
    · exact .inl ⟨r1, by rw [r2]; rfl, r3⟩
    · exact .inr ⟨x, r1, r2⟩
theorem psum {w : World} {A : Option Addr} {cap len : Nat} {l : List Int} (h : Sl w A cap l) (hl : l.length = len) (hm : len ≤ 1099511627776) (hK : ShaE.KIn w) :
    Calls Tryd.prog 24 #[.slice A len cap] w fun e w' => e = .returned (.agg (cs (sumI l))) ∧ Below w.heap.size w w' := by
  subst hl
  have := ShaH.sumW (rowL_of h) hm hK
  rw [List.take_of_length_le (Nat.le_refl _)] at this
  exact this
theorem dsum {w : World} {A : Option Addr} {cap len : Nat} {l : List Int} (h : Sl w A cap l) (hl : l.length = len) (hm : len ≤ 1099511627776) :
    Calls Tryd.prog 32 #[.slice A len cap] w fun e w' => e = .returned (.agg (cs (sumI l))) ∧ Below w.heap.size w w' := by
  subst hl
  have := RefW.sumW (rowL_of h) hm
  rw [List.take_of_length_le (Nat.le_refl _)] at this
  exact this
end Go.Proofs.YtnphlpebeflpkaaDoor.CmS
namespace Go.Proofs.YtnphlpebeflpkaaDoor.CmH
set_option maxRecDepth 100000
open Go Go.RowKit Byt IdM IdW OpsM OpsW CmM StW CmW CmR CmP

/-- A commit's id. -/
def hashK (c : Com) : Idn := CmS.sumI (putK c)
/-- The id, or none, and an error's number, are handed back. -/
def Out (c : Com) (w : World) (e : Ending) (w' : World) : Prop :=
  e = .returned (.tuple #[.agg (cs (if mayK c = true then hashK c else nought)), .int .i64 (if mayK c = true then 0 else 1)]) ∧ Below w.heap.size w w'
set_option maxRecDepth 100000 in
set_option maxHeartbeats 8000000 in
theorem hash_no (v : Cv) (w : World) (S : In w v) (ho : Okay v.c) (hm : mayK v.c = false) : Calls Tryd.prog 14 #[.agg (cc v)] w (Out v.c w) := by
  have R0 : Cel.Box CE ((w.alloc (.cells (cc v) 28)).alloc (.cells (cs nought) 36)) w.heap.size v := (Cel.Box.new (E := CE) w v 28).alloc _
  have G0 : IdW.Box ((w.alloc (.cells (cc v) 28)).alloc (.cells (cs nought) 36)) (w.heap.size + 1) nought := by
    have z : (w.alloc (.cells (cc v) 28)).heap.size = w.heap.size + 1 := by simp
    rw [← z]
    exact IdW.Box.new _ nought _
  have k0 : Below w.heap.size w ((w.alloc (.cells (cc v) 28)).alloc (.cells (cs nought) 36)) := ((Below.refl _ _).alloc (Nat.le_refl _) _).alloc (by simp) _
  have S0 := S.below k0
  have cp := fun W T => CmP.put_no v W T ho hm
  have HQ : Hid (mayK v.c = false) := aside hm
  clear S ho hm
  go_enter Tryd.func14, Tryd.ntmps14
  go_wp2_with (first | go_skip | (refine IdJ.wpList_alloc_id rfl rfl ?_) | (refine Cel.wpList_load_box CE rfl _ rfl _ rfl v R0 ?_))
  refine (cp _ S0).mono ?_
  rintro e w1 ⟨rfl, k1⟩
  have G1 := G0.below k1 G0.lt
  have b1 := k0.trans (k1.mono k0.size)
  clear cp R0 G0 k0 S0 k1
  go_wp2_with (first | go_skip | (refine IdJ.wpList_build0 rfl rfl ?_) | (refine IdJ.wpList_store_box rfl _ _ rfl (w.heap.size + 1) rfl nought nought G1 rfl ?_))
  exact bodyPost_ret (v := .tuple #[.agg (cs nought), .int .i64 1]) (IdJ.results_box Tryd.results14 _ _ (w.heap.size + 1) nought _ rfl rfl (IdJ.Box.row G1 nought)) rfl ⟨by rw [HQ.out]; rfl, IdJ.below_row b1 (by omega) _⟩
set_option maxRecDepth 100000 in
set_option maxHeartbeats 8000000 in
theorem hash_yes (v : Cv) (w : World) (S : In w v) (ho : Okay v.c) (hm : mayK v.c = true) : Calls Tryd.prog 14 #[.agg (cc v)] w (Out v.c w) := by
  have R0 : Cel.Box CE ((w.alloc (.cells (cc v) 28)).alloc (.cells (cs nought) 36)) w.heap.size v := (Cel.Box.new (E := CE) w v 28).alloc _
  have G0 : IdW.Box ((w.alloc (.cells (cc v) 28)).alloc (.cells (cs nought) 36)) (w.heap.size + 1) nought := by
    have z : (w.alloc (.cells (cc v) 28)).heap.size = w.heap.size + 1 := by simp
    rw [← z]
    exact IdW.Box.new _ nought _
  have k0 : Below w.heap.size w ((w.alloc (.cells (cc v) 28)).alloc (.cells (cs nought) 36)) := ((Below.refl _ _).alloc (Nat.le_refl _) _).alloc (by simp) _
  have S0 := S.below k0
  have cp := fun W T => CmP.put_yes v W T ho hm
  have HQ : Hid (mayK v.c = true) := aside hm
  have hl := putK_len hm
  clear S ho hm
  go_enter Tryd.func14, Tryd.ntmps14
  go_wp2_with (first | go_skip | (refine IdJ.wpList_alloc_id rfl rfl ?_) | (refine Cel.wpList_load_box CE rfl _ rfl _ rfl v R0 ?_))
  refine (cp _ S0).mono ?_
  rintro _ w1 ⟨pv, rfl, own, k1⟩
  obtain ⟨A1, c1, rfl, S1⟩ := Sl.own own (putK_B _)
  have G1 := G0.below k1 G0.lt
  have b1 := k0.trans (k1.mono k0.size)
  clear cp R0 G0 k0 S0 k1 own
  obtain ⟨n, hn⟩ : ∃ n, (putK v.c).length = n := ⟨_, rfl⟩
  have cs := CmS.dsum S1 rfl (by omega)
  rw [hn] at cs
  rw [hn]
  clear hl hn
  go_wp2_with (first | go_skip | (refine IdJ.wpList_build0 rfl rfl ?_))
  refine cs.mono ?_
  rintro _ w2 ⟨rfl, k2⟩
  have G2 := G1.below k2 G1.lt
  have b2 := b1.trans (k2.mono b1.size)
  clear cs k2 b1 G1
  go_wp2_with (first | go_skip | (refine IdJ.wpList_store_box rfl _ _ rfl (w.heap.size + 1) rfl nought (hashK v.c) G2 rfl ?_))
  exact bodyPost_ret (v := .tuple #[.agg (IdW.cs (hashK v.c)), .int .i64 0]) (IdJ.results_box Tryd.results14 _ _ (w.heap.size + 1) (hashK v.c) _ rfl rfl (IdJ.Box.row G2 (hashK v.c))) rfl ⟨by rw [HQ.out]; rfl, IdJ.below_row b2 (by omega) _⟩
theorem hash_ret (v : Cv) (w : World) (S : In w v) (ho : Okay v.c) : Calls Tryd.prog 14 #[.agg (cc v)] w (Out v.c w) := by
  cases hm : mayK v.c with
  | false => exact hash_no v w S ho hm
  | true => exact hash_yes v w S ho hm
end Go.Proofs.YtnphlpebeflpkaaDoor.CmH
