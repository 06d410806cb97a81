/- What the project's Frame returns: a contract. No condition but sizes. -/
import Derived.Test.YthdpipllighegaaDoorLogD
namespace Go.Proofs.YthdpipllighegaaDoor.LogE
set_option maxRecDepth 100000
open Go Go.Sort Go.RowKit Byt RotG Small EncM EncC LogM LogC LogD

/-- What Frame answers: the frame, or nothing and an error. -/
def frameO (l : List Int) : List Int × Int := if l.length ≤ 4000 then (frameL l, 0) else ([], 5)
/-- A call gives a slice of these bytes, and this error. -/
def GivesE (r : List Int × Int) (w : World) (e : Ending) (w' : World) : Prop := ∃ A cap, e = .returned (.tuple #[.slice A r.1.length cap, .int .i64 r.2]) ∧ Sl w' A cap r.1 ∧ Below w.heap.size w w'
theorem run_build3 (w : World) (A0 A1 A2 : Option Addr) (n0 n1 n2 k0 k1 k2 : Nat) : (Instr.buildSlice 27 3 #[(0, .slice A0 n0 k0), (1, .slice A1 n1 k1), (2, .slice A2 n2 k2)]).run Tryd.prog w = .ok (.slice (some ⟨w.heap.size, 0, none⟩) 3 3) (w.alloc (.cells #[.slice A0 n0 k0, .slice A1 n1 k1, .slice A2 n2 k2] 22)) := by kernel_rfl
theorem wpList_build3 {w : World} {ops : Array Oper} {rest : List Oper} {o : Oper} {a : Act} {Q : Exit → Act → World → Prop} (hgd : o.guard = none) (x0 x1 x2 : Operand) (ho : o.op = .buildSlice 27 3 #[(0, x0), (1, x1), (2, x2)])
    (A0 A1 A2 : Option Addr) (n0 n1 n2 k0 k1 k2 : Nat) (h0 : a.eval x0 = .slice A0 n0 k0) (h1 : a.eval x1 = .slice A1 n1 k1) (h2 : a.eval x2 = .slice A2 n2 k2)
    (h : wpList Tryd.prog ops Q rest (a.put o.dst (.slice (some ⟨w.heap.size, 0, none⟩) 3 3)) (w.alloc (.cells #[.slice A0 n0 k0, .slice A1 n1 k1, .slice A2 n2 k2] 22))) : wpList Tryd.prog ops Q (o :: rest) a w := by
  refine wpList_plain hgd fun K hK => ?_
  unfold Oper.wp execOp
  simp only [ho, List.map_toArray, List.map_cons, List.map_nil, h0, h1, h2, Sem.run_bind, run_build3, Result.andThen_ok, Sem.run_pure]
  exact hK _ _ h
set_option maxRecDepth 100000 in
set_option maxHeartbeats 8000000 in
theorem frame_yes {w : World} {A : Option Addr} {cap len : Nat} {l : List Int} (S : Sl w A cap l) (hl : l.length = len) (hm : len ≤ 4000) (hK : ShaE.KIn w) :
    Calls Tryd.prog 8 #[.slice A len cap] w (GivesE (frameL l, 0) w) := by
  have q1 := markOf_ret S hl (by omega) hK
  have m4 := bsize (markL l)
  rw [markL_len] at m4
  have o4 := bone (markL l)
  have mB := mark_B l
  have mlen := markL_len l
  have hF : Hid (frameL l = numL len ++ (l ++ markL l)) := aside (by rw [← hl]; rfl)
  have hFl := frameL_len l
  have hten := numL_ten (n := len) (by omega)
  have hnB : ∀ x ∈ numL len, Byt.B x := numL_range len
  have n0 : ¬ (4000 : Int) < (len : Int) := by omega
  have p0 : 0 ≤ (len : Int) := by omega
  have p1 : (len : Int) ≤ 18446744073709551615 := by omega
  have fit : Fits len := by unfold Fits; omega
  have qn := fun W => num len fit W
  obtain ⟨m, hM⟩ : ∃ m, markL l = m := ⟨_, rfl⟩
  rw [hM] at q1 m4 o4 mB mlen hF
  have hsl : ∀ W g, At W g (Byt.bv m).toArray → Sl W (some ⟨g, 0, none⟩) 4 m := fun W g h => by
    have := sl_at h (by rw [mlen]; unfold maxLen; omega) mB
    rwa [mlen] at this
  obtain ⟨N, hN⟩ : ∃ N, numL len = N := ⟨_, rfl⟩
  rw [hN] at qn hF hten hnB
  have hsum : N.length + l.length + m.length ≤ 1000000000 := by omega
  clear hM hK hFl hten fit hN
  go_enter Tryd.func8, Tryd.ntmps8
  go_wp2_with (first | go_skip)
  refine q1.mono ?_
  rintro e w1 ⟨rfl, k1⟩
  clear q1
  have z4 : At (w1.alloc (.cells (Byt.bv m).toArray 38)) w1.heap.size (Byt.bv m).toArray := At.new _ _ _
  have kb := k1.alloc k1.size (.cells (Byt.bv m).toArray 38)
  have S1 := S.below kb
  go_wp2_with (first | go_skip | (refine wpList_store_last rfl 38 _ _ rfl _ _ _ 38 rfl _ rfl ?c1 rfl ?c2 ?c3 ?c4 ?_; (case c1 => simp); (case c2 => rw [m4]; exact info_m); (case c3 => rw [m4]; rfl); (case c4 => exact o4)))
  refine Grow.region [(0, true), (1, true), (2, true), (4, true), (5, true), (3, false), (6, false), (7, false), (8, true), (9, true)] (by kernel_rfl) (by kernel_rfl) rfl (by kernel_rfl) (by intro c a d v w h; cases d <;> exact h) ?_
  change Grow.Seq _ _ _ _ _ (w1.alloc (.cells (Byt.bv m).toArray 38)).drew
  have dr := Small.below_drew1 (Below.refl (w1.alloc (.cells (Byt.bv m).toArray 38)).heap.size (w1.alloc (.cells (Byt.bv m).toArray 38)))
  have z5 := z4.drew
  have S2 := S1.below dr
  have b1 := kb.trans (dr.mono kb.size)
  obtain ⟨G, hG⟩ : ∃ G, w1.heap.size = G := ⟨_, rfl⟩
  rw [hG] at z5 ⊢
  generalize (w1.alloc (.cells (Byt.bv m).toArray 38)).drew = w2 at z5 S2 b1 ⊢
  clear z4 S1 kb dr k1 hG S
  simp only [Act.put]
  repeat (refine Grow.reads rfl rfl ?_; go_big_quiet_step (fail); refine wpQuiet_nil ?_)
  refine Grow.acts rfl ?_
  go_wp2_with fail
  refine (qn _).mono ?_
  rintro _ w3 ⟨v3, rfl, own3, k3⟩
  go_wp2_with fail
  refine ⟨k3, ?_⟩
  obtain ⟨A3, C3, rfl, M3⟩ := Sl.own own3 hnB
  have S3 := S2.below k3
  have z6 := z5.below k3 z5.lt
  have b3 := b1.trans (k3.mono b1.size)
  clear S2 z5 b1 k3 own3 qn
  have O3 := hsl _ _ z6
  clear z6 hsl
  refine Grow.acts rfl ?_
  go_wp2_with (refine wpList_build3 rfl _ _ _ rfl A3 A (some ⟨G, 0, none⟩) _ _ _ C3 cap 4 rfl rfl rfl ?_)
  have k5 : Below w3.heap.size w3 (w3.alloc (.cells #[.slice A3 N.length C3, .slice A len cap, .slice (some ⟨G, 0, none⟩) 4 4] 22)) := (Below.refl _ _).alloc (Nat.le_refl _) _
  refine ⟨k5, ?_⟩
  have hT : (w3.alloc (.cells #[.slice A3 N.length C3, .slice A len cap, .slice (some ⟨G, 0, none⟩) 4 4] 22)).heap[w3.heap.size]? = some (.cells #[.slice A3 N.length C3, .slice A len cap, .slice (some ⟨G, 0, none⟩) 4 4] 22 (0, 0)) := heap_alloc_new _ _
  have M5 := M3.below k5
  have N5 := S3.below k5
  have O5 := O3.below k5
  have b5 := b3.trans (k5.mono b3.size)
  generalize w3.alloc (.cells #[.slice A3 N.length C3, .slice A len cap, .slice (some ⟨G, 0, none⟩) 4 4] 22) = w5 at hT M5 N5 O5 b5 ⊢
  have t0 : w5.cell? ⟨w3.heap.size, 0, none⟩ = some (.slice A3 N.length C3) := by rw [cell_of_row w5 _ 0 _ _ (0, 0) hT]; rfl
  have t1 : w5.cell? ⟨w3.heap.size, 1, none⟩ = some (.slice A l.length cap) := by rw [cell_of_row w5 _ 1 _ _ (0, 0) hT, hl]; rfl
  have t2 : w5.cell? ⟨w3.heap.size, 2, none⟩ = some (.slice (some ⟨G, 0, none⟩) m.length 4) := by rw [cell_of_row w5 _ 2 _ _ (0, 0) hT, mlen]; rfl
  have q3 := StG.concat_ret w3.heap.size A3 C3 N A cap l (some ⟨G, 0, none⟩) 4 m w5 t0 t1 t2 M5 N5 O5 hsum 3
  have hB : ∀ x ∈ N ++ (l ++ m), Byt.B x := fun x hx => (List.mem_append.1 hx).elim (hnB x) fun hx => (List.mem_append.1 hx).elim (N5.bytes x) (mB x)
  clear M3 S3 O3 b3 k5 hT t0 t1 t2 M5 N5 O5
  simp only [Act.put, List.setIfInBounds_toArray, List.set_cons_succ, List.set_cons_zero]
  refine Grow.acts rfl ?_
  go_wp2_with fail
  refine q3.mono ?_
  rintro _ w6 ⟨v6, rfl, own6, k6⟩
  go_wp2_with fail
  refine ⟨k6, ?_⟩
  have b6 := b5.trans (k6.mono b5.size)
  obtain ⟨A6, C6, rfl, M6⟩ := Sl.own own6 hB
  clear own6 k6 b5 q3
  repeat (refine Grow.reads rfl rfl ?_; go_big_quiet_step (fail); refine wpQuiet_nil ?_)
  refine Grow.ends ?_
  go_wp2_with fail
  exact bodyPost_ret (v := .tuple #[.slice A6 (N ++ (l ++ m)).length C6, .int .i64 0]) (by simp [results, Tryd.results8, go_sem]) rfl (by rw [hF.out]; exact ⟨A6, C6, rfl, M6, b6⟩)
set_option maxRecDepth 100000 in
theorem frame_no {w : World} {A : Option Addr} {cap len : Nat} (hm : 4000 < len) :
    Calls Tryd.prog 8 #[.slice A len cap] w (GivesE ([], 5) w) := by
  have n0 : (4000 : Int) < (len : Int) := by omega
  clear hm
  go_enter Tryd.func8, Tryd.ntmps8
  go_wp2_with (first | go_skip)
  exact bodyPost_ret (v := .tuple #[.slice none 0 0, .int .i64 5]) (by simp [results, Tryd.results8, go_sem]) rfl ⟨none, 0, rfl, Sl.nil w, Below.refl _ _⟩
/-- What Frame returns. -/
theorem frame_ret {w : World} {A : Option Addr} {cap len : Nat} {l : List Int} (S : Sl w A cap l) (hl : l.length = len) (hK : ShaE.KIn w) :
    Calls Tryd.prog 8 #[.slice A len cap] w (GivesE (frameO l) w) := by
  unfold frameO
  by_cases h : l.length ≤ 4000
  · rw [if_pos h]
    exact frame_yes S hl (by omega) hK
  · rw [if_neg h]
    exact frame_no (by omega)
end Go.Proofs.YthdpipllighegaaDoor.LogE
