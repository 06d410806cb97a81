/- What ops.puts and its functions, and ops.Put, return: contracts. -/
import Derived.Test.YteojkfbnenfmkaaDoorOpsC
import Derived.Test.YteojkfbnenfmkaaDoorGrowB
import Derived.Test.YteojkfbnenfmkaaDoorEncMJ6
namespace Go.Proofs.YteojkfbnenfmkaaDoor.OpsP
set_option maxRecDepth 100000
open Go Go.RowKit Go.Sort Byt OpsM OpsK OpsW OpsC EncM EncC

theorem num_of {k : Int} (h0 : 0 ≤ k) (h1 : k ≤ 18446744073709551615) (w : World) : Calls Tryd.prog 54 #[.int .u64 k] w (New (numL k.toNat) w) := by
  have := num k.toNat (by unfold Fits; omega) w
  rwa [show ((k.toNat : Nat) : Int) = k by omega] at this
set_option maxHeartbeats 1000000 in
theorem puts1 (g : Nat) (o : Opn) (w : World) (h : OpAt w g o) (hn : I64 o.n) :
    Calls Tryd.prog 82 #[.pointer (some ⟨g, 0, none⟩)] w (New (numL (foldI o.n).toNat) w) := by
  have c3 := h.n
  have c1 := fold o.n hn
  have hb := foldI_bd hn
  have c2 := num_of hb.1 hb.2
  obtain ⟨n, hn'⟩ : ∃ n, o.n = n := ⟨_, rfl⟩
  obtain ⟨k, hk'⟩ : ∃ k, foldI o.n = k := ⟨_, rfl⟩
  rw [hk'] at c1 c2 ⊢
  rw [hn'] at c3 c1
  clear hn' hk' h hb hn
  go_enter Tryd.func82, Tryd.ntmps82
  go_wp2_with fail
  refine (c1 _).mono ?_
  rintro e w' ⟨rfl, rfl⟩
  go_wp2_with fail
  refine (c2 _).mono ?_
  rintro e w' ⟨v, rfl, ho, hb⟩
  have HO := aside ho
  clear ho
  go_wp2_with fail
  go_ret
  exact ⟨v, rfl, HO.out, hb⟩
set_option maxHeartbeats 1000000 in
theorem puts2 (g : Nat) (o : Opn) (w : World) (h : OpAt w g o) (hs : o.elem.size ≤ 1099511627776) :
    Calls Tryd.prog 83 #[.pointer (some ⟨g, 0, none⟩)] w (New (textL (bytesL o.elem)) w) := by
  have c2 := h.elem
  have c1 := text o.elem hs w
  obtain ⟨s, hs'⟩ : ∃ s, o.elem = s := ⟨_, rfl⟩
  rw [hs'] at c1 c2 ⊢
  clear hs' h hs
  go_enter Tryd.func83, Tryd.ntmps83
  go_wp2_with fail
  refine c1.mono ?_
  rintro e w' ⟨v, rfl, ho, hb⟩
  have HO := aside ho
  clear ho
  go_wp2_with fail
  go_ret
  exact ⟨v, rfl, HO.out, hb⟩
set_option maxHeartbeats 1000000 in
theorem puts (o : Opn) (w : World) :
    Calls Tryd.prog 67 #[.agg (opc o)] w (Tab 82 83 o w) := by
  have O1 := OpAt.new w o 27
  have hmm := made 100
  go_enter Tryd.func67, Tryd.ntmps67
  go_wp2_with (refine wpList_entry Tryd.underlying100 rfl rfl _ _ _ rfl _ _ _ rfl _ rfl (by simp) _ (by unfold I64; omega) rfl rfl _ rfl ?_)
  go_ret
  have hz : (w.alloc (.cells (opc o) 27)).heap.size = w.heap.size + 1 := by simp
  have ht := tab_new (w.alloc (.cells (opc o) 27)) (.func (.func 82) #[] #[.pointer (some ⟨w.heap.size, 0, none⟩)]) (.func (.func 83) #[] #[.pointer (some ⟨w.heap.size, 0, none⟩)])
  rw [hz] at ht
  exact ⟨w.heap.size, w.heap.size + 1, rfl, O1.alloc _, ht, ((Below.refl _ _).alloc (Nat.le_refl _) _).alloc (by simp) _⟩

/-- What Put answers of an operation that may be, and of one that may not. -/
def PutYes (o : Opn) (w : World) (e : Ending) (w' : World) : Prop :=
  ∃ v, e = .returned (.tuple #[v, .int .i64 0]) ∧ w'.ownsRow w.heap.size 5 1 v (putL o).length (bv (putL o)) ∧ Below w.heap.size w w'


theorem tail0 {o : Opn} (h : o.kind = 0) : tailL o = numL (foldI o.n).toNat := by unfold tailL; rw [if_pos h]
theorem tail1 {o : Opn} (h : o.kind = 1 ∨ o.kind = 2 ∨ o.kind = 3) : tailL o = textL (bytesL o.elem) := by unfold tailL; rw [if_neg (by omega)]
set_option maxRecDepth 100000 in
set_option maxHeartbeats 8000000 in
theorem put0 (o : Opn) (w : World) (hf : Fit o) (hm : mayO o = true) (hk : o.kind = 0) :
    Calls Tryd.prog 56 #[.agg (opc o)] w (PutYes o w) := by
  have O1 := OpAt.new w o 27
  have cm := fun W => may o W hf
  rw [hm] at cm
  obtain ⟨hkey, hrest⟩ := mayO_kind hm
  have hkl := keyL_len hkey
  have hk0 : 0 ≤ o.kind ∧ o.kind ≤ 3 := by omega
  have cn := num_of hk0.1 (by omega)
  have ct := text o.key (by have := bytesL_length o.key; omega)
  have ln := numL_ten (n := o.kind.toNat) (by omega)
  have lt := EncT.textL_length (bytesL o.key) (by omega)
  have bt : ∀ x ∈ textL (bytesL o.key), B x := EncT.textL_B (bytesL_B _)
  have hn := hf.n
  have cc := fun g W h => puts1 g o W h hn
  have lz := numL_ten (n := (foldI o.n).toNat) (by have := foldI_bd hn; omega)
  have bz : ∀ x ∈ numL (foldI o.n).toNat, B x := numL_range _
  obtain ⟨Z, hZ⟩ : ∃ Z, numL (foldI o.n).toNat = Z := ⟨_, rfl⟩
  rw [hZ] at cc lz bz
  have HZ := aside hZ
  have HZB := aside bz
  clear hZ bz hn
  obtain ⟨X, hX⟩ : ∃ X, numL o.kind.toNat = X := ⟨_, rfl⟩
  obtain ⟨T, hT⟩ : ∃ T, textL (bytesL o.key) = T := ⟨_, rfl⟩
  have hput : putL o = X ++ T ++ tailL o := by unfold putL; rw [hX, hT]
  rw [hX] at cn ln
  rw [hT] at ct lt bt
  have lt' : T.length ≤ 20 := by omega
  have HK := aside hk
  have HB := aside bt
  have HP := aside hput
  obtain ⟨kb0, kb1⟩ := hk0
  clear hX hT hput bt lt hkl hkey hrest hm hk
  go_enter Tryd.func56, Tryd.ntmps56
  go_wp2_with (refine wpList_load_op rfl _ rfl _ rfl o O1 ?_)
  refine (cm _).mono ?_
  rintro e w1 ⟨rfl, h1⟩
  have k1 : Below w.heap.size w w1 := Below.trans ((Below.refl _ _).alloc (Nat.le_refl _) _) (h1.mono (by simp))
  have O2 := O1.below h1
  clear h1 O1 cm
  go_wp2_with fail
  refine GrowB.region (w.heap.size + 1) [(0, true), (1, true), (2, true), (4, true), (5, true), (3, false), (6, false), (7, false), (8, true)] (by kernel_rfl) (by kernel_rfl) rfl (by kernel_rfl) (by intro c a d v w h; cases d <;> exact h) ?_
  have kd := below_drew1 k1
  have O3 : OpAt w1.drew w.heap.size o := O2
  obtain ⟨W1, hW1⟩ : ∃ W, w1.drew = W := ⟨_, rfl⟩
  rw [hW1] at kd O3 ⊢
  clear hW1 k1 O2
  have hs1 : w.heap.size + 1 ≤ W1.heap.size := O3.lt
  have q0 : ∀ p : GrowB.UpTo (w.heap.size + 1) W1, p.u.cell? ⟨w.heap.size, 0, none⟩ = some (.int .i64 o.kind) := fun p => (O3.block p.h (by omega)).kind
  have q1 : ∀ p : GrowB.UpTo (w.heap.size + 1) W1, p.u.cell? ⟨w.heap.size, 1, none⟩ = some (.string o.key) := fun p => (O3.block p.h (by omega)).key
  repeat (refine GrowB.reads_below rfl rfl ?_; go_big_quiet_step (fail); refine wpQuiet_nil ?_)
  clear q0 q1
  refine GrowB.acts rfl ?_
  go_wp2_with fail
  refine (cn _).mono ?_
  rintro e w2 ⟨v2, rfl, own2, h2⟩
  have O4 := O3.below h2
  have k2 := kd.trans (h2.mono kd.size)
  have hs2 := h2.size
  have R2 := aside own2
  clear own2 cn O3
  go_wp2_with fail
  refine ⟨h2.mono hs1, ?_⟩
  clear h2
  refine GrowB.acts rfl ?_
  go_wp2_with fail
  refine (ct _).mono ?_
  rintro e w3 ⟨v3, rfl, own3, h3⟩
  have O5 := O4.below h3
  have k3 := k2.trans (h3.mono k2.size)
  have hs3 := h3.size
  have R3 := aside (owns_below R2.out h3)
  obtain ⟨A3, c3, rfl, S3⟩ := Sl.own own3 HB.out
  clear own3 ct O4 R2
  go_wp2_with fail
  refine ⟨h3.mono (by omega), ?_⟩
  clear h3
  refine GrowB.acts rfl ?_
  refine wpList_append_sl rfl _ _ 66 rfl W1.heap.size 5 Tryd.underlying66 zero_u8 v2 _ X rfl R3.out _ _ _ T rfl rfl S3 (by omega) (by omega) ?_
  intro v4 w4 own4 g4
  have r4 : ∀ k, v2.ownBlock = some k → W1.heap.size ≤ k := fun k hk => (R3.out.lt k hk).1
  have h4 : Below (w.heap.size + 1) w3 w4 := below_grown (Below.refl _ _) (by omega) g4 (fun k hk => by have := r4 k hk; omega)
  have k4 : Below w.heap.size w w4 := k3.trans (h4.mono (by omega))
  have O6 := O5.block h4 (by omega)
  have hs4 := g4.size
  have R4 := aside own4
  clear own4 g4 r4 R3 S3 O5
  simp only [Act.put, List.setIfInBounds_toArray, List.set_cons_succ, List.set_cons_zero]
  refine ⟨h4, ?_⟩
  clear h4
  repeat (refine GrowB.reads rfl rfl ?_; go_big_quiet_step (fail); refine wpQuiet_nil ?_)
  refine GrowB.ends ?_
  go_wp2_with fail
  refine Grow.region [(0, true), (2, true), (3, true), (1, false), (4, true), (5, true)] (by kernel_rfl) (by kernel_rfl) rfl (by kernel_rfl) (by intro c a d v w h; cases d <;> exact h) ?_
  have kd := below_drew1 k4
  have O7 : OpAt w4.drew w.heap.size o := O6
  have R5 := aside (owns_below R4.out (below_drew1 (Below.refl w4.heap.size w4)))
  have hs5 : W1.heap.size ≤ w4.drew.heap.size := by show W1.heap.size ≤ w4.heap.size; omega
  obtain ⟨W4, hW4⟩ : ∃ W, w4.drew = W := ⟨_, rfl⟩
  rw [hW4] at kd O7 R5 hs5 ⊢
  clear hW4 k4 O6 R4
  have q0 := O7.kind_in
  repeat (first | (refine reads_op rfl rfl _ rfl _ rfl o O7 ?_; simp only [Act.put, List.setIfInBounds_toArray, List.set_cons_succ, List.set_cons_zero]) | (refine Grow.reads rfl rfl ?_; go_big_quiet_step (fail); refine wpQuiet_nil ?_))
  clear q0
  refine Grow.acts rfl ?_
  go_wp2_with fail
  refine (puts o W4).mono ?_
  rintro e w5 ⟨g, m, rfl, Og, Tm, h5⟩
  have k5 := kd.trans (h5.mono kd.size)
  have R6 := aside (owns_below R5.out h5)
  have hs6 := h5.size
  clear kd O7 R5
  go_wp2_with fail
  refine ⟨h5, ?_⟩
  clear h5
  have hl := look0_in Tryd.underlying100 false Tm
  rw [← HK.out] at hl
  repeat (refine Grow.reads rfl rfl ?_; go_big_quiet_step (fail); refine wpQuiet_nil ?_)
  clear hl
  refine Grow.ends ?_
  go_wp2_with fail
  refine (cc _ _ Og).mono ?_
  rintro e w6 ⟨v6, rfl, own6, h6⟩
  have k6 := k5.trans (h6.mono k5.size)
  have R7 := aside (owns_below R6.out h6)
  have hs7 := h6.size
  obtain ⟨A6, c6, rfl, S6⟩ := Sl.own own6 HZB.out
  clear own6 R6 h6
  go_wp2_with (refine wpList_append_sl rfl _ _ 66 rfl W1.heap.size 5 Tryd.underlying66 zero_u8 _ _ (X ++ T) rfl R7.out _ _ _ Z rfl rfl S6 (by omega) (by omega) ?_; intro v8 w8 own8 g8; have k8 : Below w.heap.size w w8 := below_grown k6 (by omega) g8 (fun k hk => by have := (R7.out.lt k hk).1; omega); have R8 := aside own8; clear own8 g8)
  go_ret2
  refine ⟨v8, rfl, ?_, k8⟩
  rw [HP.out, tail0 HK.out, HZ.out, List.length_append, List.length_append]
  exact owns_less R8.out (by omega)

set_option maxRecDepth 100000 in
set_option maxHeartbeats 8000000 in
theorem put1 (o : Opn) (w : World) (hf : Fit o) (hm : mayO o = true) (hk : o.kind = 1 ∨ o.kind = 2 ∨ o.kind = 3) :
    Calls Tryd.prog 56 #[.agg (opc o)] w (PutYes o w) := by
  have O1 := OpAt.new w o 27
  have cm := fun W => may o W hf
  rw [hm] at cm
  obtain ⟨hkey, hrest⟩ := mayO_kind hm
  have hkl := keyL_len hkey
  have hk0 : 0 ≤ o.kind ∧ o.kind ≤ 3 := by omega
  have cn := num_of hk0.1 (by omega)
  have ct := text o.key (by have := bytesL_length o.key; omega)
  have ln := numL_ten (n := o.kind.toNat) (by omega)
  have lt := EncT.textL_length (bytesL o.key) (by omega)
  have bt : ∀ x ∈ textL (bytesL o.key), B x := EncT.textL_B (bytesL_B _)
  have hel : elemB o.n o.elem = true := by rcases hrest with ⟨h0, _⟩ | ⟨_, h⟩; (· omega); exact h
  have hkl2 := keyL_len (elemB_iff.1 hel).1
  have cc := fun g W h => puts2 g o W h (by have := bytesL_length o.elem; omega)
  have lz := EncT.textL_length (bytesL o.elem) (by omega)
  have bz : ∀ x ∈ textL (bytesL o.elem), B x := EncT.textL_B (bytesL_B _)
  obtain ⟨Z, hZ⟩ : ∃ Z, textL (bytesL o.elem) = Z := ⟨_, rfl⟩
  rw [hZ] at cc lz bz
  have lz' : Z.length ≤ 20 := by omega
  have HZ := aside hZ
  have HZB := aside bz
  clear hZ bz hel hkl2 lz
  obtain ⟨X, hX⟩ : ∃ X, numL o.kind.toNat = X := ⟨_, rfl⟩
  obtain ⟨T, hT⟩ : ∃ T, textL (bytesL o.key) = T := ⟨_, rfl⟩
  have hput : putL o = X ++ T ++ tailL o := by unfold putL; rw [hX, hT]
  rw [hX] at cn ln
  rw [hT] at ct lt bt
  have lt' : T.length ≤ 20 := by omega
  have HK := aside hk
  have HB := aside bt
  have HP := aside hput
  obtain ⟨kb0, kb1⟩ := hk0
  clear hX hT hput bt lt hkl hkey hrest hm hk
  go_enter Tryd.func56, Tryd.ntmps56
  go_wp2_with (refine wpList_load_op rfl _ rfl _ rfl o O1 ?_)
  refine (cm _).mono ?_
  rintro e w1 ⟨rfl, h1⟩
  have k1 : Below w.heap.size w w1 := Below.trans ((Below.refl _ _).alloc (Nat.le_refl _) _) (h1.mono (by simp))
  have O2 := O1.below h1
  clear h1 O1 cm
  go_wp2_with fail
  refine GrowB.region (w.heap.size + 1) [(0, true), (1, true), (2, true), (4, true), (5, true), (3, false), (6, false), (7, false), (8, true)] (by kernel_rfl) (by kernel_rfl) rfl (by kernel_rfl) (by intro c a d v w h; cases d <;> exact h) ?_
  have kd := below_drew1 k1
  have O3 : OpAt w1.drew w.heap.size o := O2
  obtain ⟨W1, hW1⟩ : ∃ W, w1.drew = W := ⟨_, rfl⟩
  rw [hW1] at kd O3 ⊢
  clear hW1 k1 O2
  have hs1 : w.heap.size + 1 ≤ W1.heap.size := O3.lt
  have q0 : ∀ p : GrowB.UpTo (w.heap.size + 1) W1, p.u.cell? ⟨w.heap.size, 0, none⟩ = some (.int .i64 o.kind) := fun p => (O3.block p.h (by omega)).kind
  have q1 : ∀ p : GrowB.UpTo (w.heap.size + 1) W1, p.u.cell? ⟨w.heap.size, 1, none⟩ = some (.string o.key) := fun p => (O3.block p.h (by omega)).key
  repeat (refine GrowB.reads_below rfl rfl ?_; go_big_quiet_step (fail); refine wpQuiet_nil ?_)
  clear q0 q1
  refine GrowB.acts rfl ?_
  go_wp2_with fail
  refine (cn _).mono ?_
  rintro e w2 ⟨v2, rfl, own2, h2⟩
  have O4 := O3.below h2
  have k2 := kd.trans (h2.mono kd.size)
  have hs2 := h2.size
  have R2 := aside own2
  clear own2 cn O3
  go_wp2_with fail
  refine ⟨h2.mono hs1, ?_⟩
  clear h2
  refine GrowB.acts rfl ?_
  go_wp2_with fail
  refine (ct _).mono ?_
  rintro e w3 ⟨v3, rfl, own3, h3⟩
  have O5 := O4.below h3
  have k3 := k2.trans (h3.mono k2.size)
  have hs3 := h3.size
  have R3 := aside (owns_below R2.out h3)
  obtain ⟨A3, c3, rfl, S3⟩ := Sl.own own3 HB.out
  clear own3 ct O4 R2
  go_wp2_with fail
  refine ⟨h3.mono (by omega), ?_⟩
  clear h3
  refine GrowB.acts rfl ?_
  refine wpList_append_sl rfl _ _ 66 rfl W1.heap.size 5 Tryd.underlying66 zero_u8 v2 _ X rfl R3.out _ _ _ T rfl rfl S3 (by omega) (by omega) ?_
  intro v4 w4 own4 g4
  have r4 : ∀ k, v2.ownBlock = some k → W1.heap.size ≤ k := fun k hk => (R3.out.lt k hk).1
  have h4 : Below (w.heap.size + 1) w3 w4 := below_grown (Below.refl _ _) (by omega) g4 (fun k hk => by have := r4 k hk; omega)
  have k4 : Below w.heap.size w w4 := k3.trans (h4.mono (by omega))
  have O6 := O5.block h4 (by omega)
  have hs4 := g4.size
  have R4 := aside own4
  clear own4 g4 r4 R3 S3 O5
  simp only [Act.put, List.setIfInBounds_toArray, List.set_cons_succ, List.set_cons_zero]
  refine ⟨h4, ?_⟩
  clear h4
  repeat (refine GrowB.reads rfl rfl ?_; go_big_quiet_step (fail); refine wpQuiet_nil ?_)
  refine GrowB.ends ?_
  go_wp2_with fail
  refine Grow.region [(0, true), (2, true), (3, true), (1, false), (4, true), (5, true)] (by kernel_rfl) (by kernel_rfl) rfl (by kernel_rfl) (by intro c a d v w h; cases d <;> exact h) ?_
  have kd := below_drew1 k4
  have O7 : OpAt w4.drew w.heap.size o := O6
  have R5 := aside (owns_below R4.out (below_drew1 (Below.refl w4.heap.size w4)))
  have hs5 : W1.heap.size ≤ w4.drew.heap.size := by show W1.heap.size ≤ w4.heap.size; omega
  obtain ⟨W4, hW4⟩ : ∃ W, w4.drew = W := ⟨_, rfl⟩
  rw [hW4] at kd O7 R5 hs5 ⊢
  clear hW4 k4 O6 R4
  have q0 := O7.kind_in
  repeat (first | (refine reads_op rfl rfl _ rfl _ rfl o O7 ?_; simp only [Act.put, List.setIfInBounds_toArray, List.set_cons_succ, List.set_cons_zero]) | (refine Grow.reads rfl rfl ?_; go_big_quiet_step (fail); refine wpQuiet_nil ?_))
  clear q0
  refine Grow.acts rfl ?_
  go_wp2_with fail
  refine (puts o W4).mono ?_
  rintro e w5 ⟨g, m, rfl, Og, Tm, h5⟩
  have k5 := kd.trans (h5.mono kd.size)
  have R6 := aside (owns_below R5.out h5)
  have hs6 := h5.size
  clear kd O7 R5
  go_wp2_with fail
  refine ⟨h5, ?_⟩
  clear h5
  have hl := look1_in Tryd.underlying100 false HK.out Tm
  repeat (refine Grow.reads rfl rfl ?_; go_big_quiet_step (fail); refine wpQuiet_nil ?_)
  clear hl
  refine Grow.ends ?_
  go_wp2_with fail
  refine (cc _ _ Og).mono ?_
  rintro e w6 ⟨v6, rfl, own6, h6⟩
  have k6 := k5.trans (h6.mono k5.size)
  have R7 := aside (owns_below R6.out h6)
  have hs7 := h6.size
  obtain ⟨A6, c6, rfl, S6⟩ := Sl.own own6 HZB.out
  clear own6 R6 h6
  go_wp2_with (refine wpList_append_sl rfl _ _ 66 rfl W1.heap.size 5 Tryd.underlying66 zero_u8 _ _ (X ++ T) rfl R7.out _ _ _ Z rfl rfl S6 (by omega) (by omega) ?_; intro v8 w8 own8 g8; have k8 : Below w.heap.size w w8 := below_grown k6 (by omega) g8 (fun k hk => by have := (R7.out.lt k hk).1; omega); have R8 := aside own8; clear own8 g8)
  go_ret2
  refine ⟨v8, rfl, ?_, k8⟩
  rw [HP.out, tail1 HK.out, HZ.out, List.length_append, List.length_append]
  exact owns_less R8.out (by omega)

/-- What ops.Put returns. -/
theorem put_yes (o : Opn) (w : World) (hf : Fit o) (hm : mayO o = true) : Calls Tryd.prog 56 #[.agg (opc o)] w (PutYes o w) := by
  obtain ⟨_, h | h⟩ := mayO_kind hm
  · exact put0 o w hf hm h.1
  · exact put1 o w hf hm h.1
end Go.Proofs.YteojkfbnenfmkaaDoor.OpsP
