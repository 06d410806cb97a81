/- What the document's answer's Num, Fold, Unfold and Text of package enc return: contracts. | What the document's Put of package ops returns: contracts. -/
import Derived.Test.YteojkfbnenfmkaaGreatDoorEncMJ6
import Derived.Test.YteojkfbnenfmkaaGreatDoorEvRJ4
import Derived.Test.YteojkfbnenfmkaaGreatDoorOpsP
namespace Go.Proofs.YteojkfbnenfmkaaGreatDoor.RefE
set_option maxRecDepth 100000
open Go.RowKit Byt EncM EncC

set_option maxHeartbeats 1000000 in
set_option maxRecDepth 100000 in
theorem num (n : Nat) (hn : Fits n) (w : World) :
    Calls Tryz.prog 72 #[.int .u64 n] w (New (numL n) w) := by
  have hten := numL_ten hn.lt
  go_enter Tryz.func72, Tryz.ntmps72
  go_wp2_with fail
  go_loopw [0, 3] (fun k v wr => ∃ (m : Nat) (pre : List Int), k = .int .u64 m ∧ Fits m ∧ Hid (numL n = pre ++ numL m) ∧ Hid (wr.ownsRow w.heap.size 5 1 v pre.length (bv pre)) ∧ Below w.heap.size w wr) (fun k _ _ => (intOf k).toNat)
  case atStart => exact ⟨n, [], rfl, hn, rfl, World.ownsRow_nil _ _ _ _, Below.refl _ _⟩
  case round =>
    obtain ⟨m, pre, rfl, hm, HN, HO, hb⟩ := hrel
    have hlen : pre.length + (numL m).length ≤ 10 := by
      have := HN.out
      rw [this, List.length_append] at hten
      exact hten
    have hs := hb.size
    by_cases hlt : m < 128
    · go_wp2_with (refine wpList_append_sl rfl (.tmp 15) (.tmp 18) 58 rfl w.heap.size 5 Tryz.underlying58 zero_u8 _ pre.length pre rfl (HO.out.alloc _) _ 1 1 [(m : Int)] rfl rfl (Sl.new1 _ _ _ ?c1) (by omega) (by simp; omega) ?_; (case c1 => unfold B; omega); intro v1 w1 hown1 hg1; have hb1 : Below w.heap.size w w1 := below_grown (hb.alloc hs _) (by simp; omega) hg1 (fun k hk => (HO.out.lt k hk).1); have HO1 := aside hown1; clear hown1 hg1)
      go_ret
      refine ⟨v1, rfl, ?_, hb1⟩
      rw [HN.out, numL_one hlt]
      simpa using HO1.out
    · have he : [(m : Int) % 128 + 128] = [((m % 128 + 128 : Nat) : Int)] := by congr 1
      have HE := aside he
      clear he
      have hw : IntKind.u64.wrap ((m : Int) / 128) = (m : Int) / 128 := by rw [IntKind.wrap_u64]; have := hm.lt; omega
      go_wp2_with (refine wpList_append_sl rfl (.tmp 6) (.tmp 11) 58 rfl w.heap.size 5 Tryz.underlying58 zero_u8 _ pre.length pre rfl (HO.out.alloc _) _ 1 1 [(m : Int) % 128 + 128] rfl rfl (Sl.new1 _ _ _ ?c1) (by omega) (by simp; omega) ?_; (case c1 => unfold B; omega); intro v1 w1 hown1 hg1; rw [HE.out] at hown1; have hb1 : Below w.heap.size w w1 := below_grown (hb.alloc hs _) (by simp; omega) hg1 (fun k hk => (HO.out.lt k hk).1); have HO1 := aside hown1; clear hown1 hg1)
      go_roundw
      case rel =>
        refine ⟨m / 128, pre ++ [((m % 128 + 128 : Nat) : Int)], by simp, hm.le (by omega), ?_, by simpa using HO1, hb1⟩
        have := HN.out
        rw [numL_more (n := m) (by omega)] at this
        exact aside (by rw [this]; simp)
      case measure => simp [intOf]; omega

set_option maxRecDepth 100000 in
theorem fold (k : Int) (hk : -9223372036854775808 ≤ k ∧ k ≤ 9223372036854775807) (w : World) :
    Calls Tryz.prog 73 #[.int .i64 k] w fun e w' => e = .returned (.int .u64 (foldI k)) ∧ w = w' := by
  obtain ⟨h1, h2⟩ := hk
  by_cases h0 : 0 ≤ k
  · go_enter Tryz.func73, Tryz.ntmps73
    go_wp2
    go_ret
    exact ⟨ret_int (by unfold foldI; rw [if_pos h0]), rfl⟩
  · go_enter Tryz.func73, Tryz.ntmps73
    go_wp2
    go_ret
    exact ⟨ret_int (by unfold foldI; rw [if_neg (by omega)]), rfl⟩

set_option maxRecDepth 100000 in
theorem text (s : ByteArray) (hs : s.size ≤ 1099511627776) (w : World) :
    Calls Tryz.prog 91 #[.string s] w (New (textL (bytesL s)) w) := by
  have hn := num s.size (by unfold Fits; omega) w
  have hl := numL_len 9 s.size (by omega)
  go_enter Tryz.func91, Tryz.ntmps91
  go_wp2_with fail
  refine hn.mono ?_
  clear hn
  rintro e w1 ⟨v, rfl, hown, hb⟩
  have HO := aside hown
  clear hown
  have hs1 := hb.size
  go_wp2_with (refine wpList_append_str rfl (.tmp 6) (.tmp 7) 58 9 rfl w.heap.size 5 Tryz.underlying58 Tryz.underlying9 zero_u8 v _ (numL s.size) rfl HO.out s rfl (by omega) hs1 ?_; intro v2 w2 hown2 hg2; have hb2 : Below w.heap.size w w2 := below_grown hb hs1 hg2 (fun k hk => (HO.out.lt k hk).1); have HO2 := aside hown2; clear hown2 hg2)
  go_ret
  refine ⟨v2, rfl, ?_, hb2⟩
  have h := HO2.out
  unfold textL
  rw [bytesL_length, List.length_append, bytesL_length]
  exact h
end Go.Proofs.YteojkfbnenfmkaaGreatDoor.RefE
namespace Go.Proofs.YteojkfbnenfmkaaGreatDoor.OpsS
set_option maxRecDepth 100000
open Go Go.RowKit Go.Sort Byt OpsM OpsK OpsW OpsC EncM EncC OpsP

theorem num_of {k : Int} (h0 : 0 ≤ k) (h1 : k ≤ 18446744073709551615) (w : World) : Calls Tryz.prog 72 #[.int .u64 k] w (New (numL k.toNat) w) := by
  have := RefE.num k.toNat (by unfold Fits; omega) w
  rwa [show ((k.toNat : Nat) : Int) = k by omega] at this


set_option maxRecDepth 100000 in
set_option maxHeartbeats 8000000 in
theorem put0 (o : Opn) (w : World) (hf : Fit o) (h1 : o.key.size ≤ 1099511627776) (h2 : o.elem.size ≤ 1099511627776) (hm : mayO o = true) (hk : o.kind = 0) :
    Calls Tryz.prog 74 #[.agg (opc o)] w (PutYes o w) := by
  have O1 := OpAt.new w o 27
  have cm := fun W => OpsR.may o W hf h1 h2
  rw [hm] at cm
  obtain ⟨hkey, hrest⟩ := mayO_kind hm
  have hkl := keyL_len hkey
  have hk0 : 0 ≤ o.kind ∧ o.kind ≤ 3 := by omega
  have cn := OpsS.num_of hk0.1 (by omega)
  have ct := RefE.text o.key h1
  have ln := numL_ten (n := o.kind.toNat) (by omega)
  have lt := EncT.textL_length (bytesL o.key) (by omega)
  have bt : ∀ x ∈ textL (bytesL o.key), B x := EncT.textL_B (bytesL_B _)
  have hn := hf.n
  have hbd := foldI_bd hn
  have cf := RefE.fold o.n hn
  have cz := OpsS.num_of hbd.1 hbd.2
  have lz := numL_ten (n := (foldI o.n).toNat) (by omega)
  have bz : ∀ x ∈ numL (foldI o.n).toNat, B x := numL_range _
  obtain ⟨Z, hZ⟩ : ∃ Z, numL (foldI o.n).toNat = Z := ⟨_, rfl⟩
  rw [hZ] at cz lz bz
  have HZ := aside hZ
  have HZB := aside bz
  clear hZ bz hn hbd
  obtain ⟨X, hX⟩ : ∃ X, numL o.kind.toNat = X := ⟨_, rfl⟩
  obtain ⟨T, hT⟩ : ∃ T, textL (bytesL o.key) = T := ⟨_, rfl⟩
  have hput : putL o = X ++ T ++ tailL o := by unfold putL; rw [hX, hT]
  rw [hX] at cn ln
  rw [hT] at ct lt bt
  have lt' : T.length ≤ 20 := by omega
  have HK := aside hk
  have HB := aside bt
  have HP := aside hput
  obtain ⟨kb0, kb1⟩ := hk0
  clear hX hT hput bt lt hkl hkey hrest hm hk h1 h2
  go_enter Tryz.func74, Tryz.ntmps74
  go_wp2_with (refine wpList_load_op rfl _ rfl _ rfl o O1 ?_)
  refine (cm _).mono ?_
  rintro e w1 ⟨rfl, h1⟩
  have k1 : Below w.heap.size w w1 := Below.trans ((Below.refl _ _).alloc (Nat.le_refl _) _) (h1.mono (by simp))
  have O2 := O1.below h1
  clear h1 O1 cm
  go_wp2_with fail
  refine GrowB.region (w.heap.size + 1) [(0, true), (1, true), (2, true), (4, true), (5, true), (3, false), (6, false), (7, false), (8, true)] (by kernel_rfl) (by kernel_rfl) rfl (by kernel_rfl) (by intro c a d v w h; cases d <;> exact h) ?_
  have kd := below_drew1 k1
  have O3 : OpAt w1.drew w.heap.size o := O2
  obtain ⟨W1, hW1⟩ : ∃ W, w1.drew = W := ⟨_, rfl⟩
  rw [hW1] at kd O3 ⊢
  clear hW1 k1 O2
  have hs1 : w.heap.size + 1 ≤ W1.heap.size := O3.lt
  have q0 : ∀ p : GrowB.UpTo (w.heap.size + 1) W1, p.u.cell? ⟨w.heap.size, 0, none⟩ = some (.int .i64 o.kind) := fun p => (O3.block p.h (by omega)).kind
  have q1 : ∀ p : GrowB.UpTo (w.heap.size + 1) W1, p.u.cell? ⟨w.heap.size, 1, none⟩ = some (.string o.key) := fun p => (O3.block p.h (by omega)).key
  repeat (refine GrowB.reads_below rfl rfl ?_; go_big_quiet_step (fail); refine wpQuiet_nil ?_)
  clear q0 q1
  refine GrowB.acts rfl ?_
  go_wp2_with fail
  refine (cn _).mono ?_
  rintro e w2 ⟨v2, rfl, own2, h2⟩
  have O4 := O3.below h2
  have k2 := kd.trans (h2.mono kd.size)
  have hs2 := h2.size
  have R2 := aside own2
  clear own2 cn O3
  go_wp2_with fail
  refine ⟨h2.mono hs1, ?_⟩
  clear h2
  refine GrowB.acts rfl ?_
  go_wp2_with fail
  refine (ct _).mono ?_
  rintro e w3 ⟨v3, rfl, own3, h3⟩
  have O5 := O4.below h3
  have k3 := k2.trans (h3.mono k2.size)
  have hs3 := h3.size
  have R3 := aside (owns_below R2.out h3)
  obtain ⟨A3, c3, rfl, S3⟩ := Sl.own own3 HB.out
  clear own3 ct O4 R2
  go_wp2_with fail
  refine ⟨h3.mono (by omega), ?_⟩
  clear h3
  refine GrowB.acts rfl ?_
  refine wpList_append_sl rfl _ _ 58 rfl W1.heap.size 5 Tryz.underlying58 zero_u8 v2 _ X rfl R3.out _ _ _ T rfl rfl S3 (by omega) (by omega) ?_
  intro v4 w4 own4 g4
  have r4 : ∀ k, v2.ownBlock = some k → W1.heap.size ≤ k := fun k hk => (R3.out.lt k hk).1
  have h4 : Below (w.heap.size + 1) w3 w4 := below_grown (Below.refl _ _) (by omega) g4 (fun k hk => by have := r4 k hk; omega)
  have k4 : Below w.heap.size w w4 := k3.trans (h4.mono (by omega))
  have O6 := O5.block h4 (by omega)
  have hs4 := g4.size
  have R4 := aside own4
  clear own4 g4 r4 R3 S3 O5
  simp only [Act.put, List.setIfInBounds_toArray, List.set_cons_succ, List.set_cons_zero]
  refine ⟨h4, ?_⟩
  clear h4
  repeat (refine GrowB.reads rfl rfl ?_; go_big_quiet_step (fail); refine wpQuiet_nil ?_)
  refine GrowB.ends ?_
  have r0 := O6.kind
  have r3 := O6.n
  rw [HK.out] at r0
  go_wp2_with fail
  refine (cf _).mono ?_
  rintro e w' ⟨rfl, rfl⟩
  go_wp2_with fail
  refine (cz _).mono ?_
  rintro e w6 ⟨v6, rfl, own6, h6⟩
  have k6 := k4.trans (h6.mono k4.size)
  have R7 := aside (owns_below R4.out h6)
  have hs7 := h6.size
  obtain ⟨A6, c6, rfl, S6⟩ := Sl.own own6 HZB.out
  clear own6 R4 h6 O6
  go_wp2_with (refine wpList_append_sl rfl _ _ 58 rfl W1.heap.size 5 Tryz.underlying58 zero_u8 _ _ (X ++ T) rfl R7.out _ _ _ Z rfl rfl S6 (by omega) (by omega) ?_; intro v8 w8 own8 g8; have k8 : Below w.heap.size w w8 := below_grown k6 (by omega) g8 (fun k hk => by have := (R7.out.lt k hk).1; omega); have R8 := aside own8; clear own8 g8)
  go_ret2
  refine ⟨v8, rfl, ?_, k8⟩
  rw [HP.out, tail0 HK.out, HZ.out, List.length_append, List.length_append]
  exact owns_less R8.out (by omega)

set_option maxRecDepth 100000 in
set_option maxHeartbeats 8000000 in
theorem put1 (o : Opn) (w : World) (hf : Fit o) (h1 : o.key.size ≤ 1099511627776) (h2 : o.elem.size ≤ 1099511627776) (hm : mayO o = true) (hk : o.kind = 1 ∨ o.kind = 2 ∨ o.kind = 3) :
    Calls Tryz.prog 74 #[.agg (opc o)] w (PutYes o w) := by
  have O1 := OpAt.new w o 27
  have cm := fun W => OpsR.may o W hf h1 h2
  rw [hm] at cm
  obtain ⟨hkey, hrest⟩ := mayO_kind hm
  have hkl := keyL_len hkey
  have hk0 : 0 ≤ o.kind ∧ o.kind ≤ 3 := by omega
  have cn := OpsS.num_of hk0.1 (by omega)
  have ct := RefE.text o.key h1
  have ln := numL_ten (n := o.kind.toNat) (by omega)
  have lt := EncT.textL_length (bytesL o.key) (by omega)
  have bt : ∀ x ∈ textL (bytesL o.key), B x := EncT.textL_B (bytesL_B _)
  have hel : elemB o.n o.elem = true := by rcases hrest with ⟨h0, _⟩ | ⟨_, h⟩; (· omega); exact h
  have hkl2 := keyL_len (elemB_iff.1 hel).1
  have cz := RefE.text o.elem h2
  have lz := EncT.textL_length (bytesL o.elem) (by omega)
  have bz : ∀ x ∈ textL (bytesL o.elem), B x := EncT.textL_B (bytesL_B _)
  obtain ⟨Z, hZ⟩ : ∃ Z, textL (bytesL o.elem) = Z := ⟨_, rfl⟩
  rw [hZ] at cz lz bz
  have lz' : Z.length ≤ 20 := by omega
  have HZ := aside hZ
  have HZB := aside bz
  clear hZ bz hel hkl2 lz
  obtain ⟨X, hX⟩ : ∃ X, numL o.kind.toNat = X := ⟨_, rfl⟩
  obtain ⟨T, hT⟩ : ∃ T, textL (bytesL o.key) = T := ⟨_, rfl⟩
  have hput : putL o = X ++ T ++ tailL o := by unfold putL; rw [hX, hT]
  rw [hX] at cn ln
  rw [hT] at ct lt bt
  have lt' : T.length ≤ 20 := by omega
  have HK := aside hk
  have HB := aside bt
  have HP := aside hput
  obtain ⟨kb0, kb1⟩ := hk0
  clear hX hT hput bt lt hkl hkey hrest hm hk h1 h2
  go_enter Tryz.func74, Tryz.ntmps74
  go_wp2_with (refine wpList_load_op rfl _ rfl _ rfl o O1 ?_)
  refine (cm _).mono ?_
  rintro e w1 ⟨rfl, h1⟩
  have k1 : Below w.heap.size w w1 := Below.trans ((Below.refl _ _).alloc (Nat.le_refl _) _) (h1.mono (by simp))
  have O2 := O1.below h1
  clear h1 O1 cm
  go_wp2_with fail
  refine GrowB.region (w.heap.size + 1) [(0, true), (1, true), (2, true), (4, true), (5, true), (3, false), (6, false), (7, false), (8, true)] (by kernel_rfl) (by kernel_rfl) rfl (by kernel_rfl) (by intro c a d v w h; cases d <;> exact h) ?_
  have kd := below_drew1 k1
  have O3 : OpAt w1.drew w.heap.size o := O2
  obtain ⟨W1, hW1⟩ : ∃ W, w1.drew = W := ⟨_, rfl⟩
  rw [hW1] at kd O3 ⊢
  clear hW1 k1 O2
  have hs1 : w.heap.size + 1 ≤ W1.heap.size := O3.lt
  have q0 : ∀ p : GrowB.UpTo (w.heap.size + 1) W1, p.u.cell? ⟨w.heap.size, 0, none⟩ = some (.int .i64 o.kind) := fun p => (O3.block p.h (by omega)).kind
  have q1 : ∀ p : GrowB.UpTo (w.heap.size + 1) W1, p.u.cell? ⟨w.heap.size, 1, none⟩ = some (.string o.key) := fun p => (O3.block p.h (by omega)).key
  repeat (refine GrowB.reads_below rfl rfl ?_; go_big_quiet_step (fail); refine wpQuiet_nil ?_)
  clear q0 q1
  refine GrowB.acts rfl ?_
  go_wp2_with fail
  refine (cn _).mono ?_
  rintro e w2 ⟨v2, rfl, own2, h2⟩
  have O4 := O3.below h2
  have k2 := kd.trans (h2.mono kd.size)
  have hs2 := h2.size
  have R2 := aside own2
  clear own2 cn O3
  go_wp2_with fail
  refine ⟨h2.mono hs1, ?_⟩
  clear h2
  refine GrowB.acts rfl ?_
  go_wp2_with fail
  refine (ct _).mono ?_
  rintro e w3 ⟨v3, rfl, own3, h3⟩
  have O5 := O4.below h3
  have k3 := k2.trans (h3.mono k2.size)
  have hs3 := h3.size
  have R3 := aside (owns_below R2.out h3)
  obtain ⟨A3, c3, rfl, S3⟩ := Sl.own own3 HB.out
  clear own3 ct O4 R2
  go_wp2_with fail
  refine ⟨h3.mono (by omega), ?_⟩
  clear h3
  refine GrowB.acts rfl ?_
  refine wpList_append_sl rfl _ _ 58 rfl W1.heap.size 5 Tryz.underlying58 zero_u8 v2 _ X rfl R3.out _ _ _ T rfl rfl S3 (by omega) (by omega) ?_
  intro v4 w4 own4 g4
  have r4 : ∀ k, v2.ownBlock = some k → W1.heap.size ≤ k := fun k hk => (R3.out.lt k hk).1
  have h4 : Below (w.heap.size + 1) w3 w4 := below_grown (Below.refl _ _) (by omega) g4 (fun k hk => by have := r4 k hk; omega)
  have k4 : Below w.heap.size w w4 := k3.trans (h4.mono (by omega))
  have O6 := O5.block h4 (by omega)
  have hs4 := g4.size
  have R4 := aside own4
  clear own4 g4 r4 R3 S3 O5
  simp only [Act.put, List.setIfInBounds_toArray, List.set_cons_succ, List.set_cons_zero]
  refine ⟨h4, ?_⟩
  clear h4
  repeat (refine GrowB.reads rfl rfl ?_; go_big_quiet_step (fail); refine wpQuiet_nil ?_)
  refine GrowB.ends ?_
  have r0 := O6.kind
  have r2 := O6.elem
  have t0 : (o.kind == 0) = false := by simp; have := HK.out; omega
  go_wp2_with fail
  refine (cz _).mono ?_
  rintro e w6 ⟨v6, rfl, own6, h6⟩
  have k6 := k4.trans (h6.mono k4.size)
  have R7 := aside (owns_below R4.out h6)
  have hs7 := h6.size
  obtain ⟨A6, c6, rfl, S6⟩ := Sl.own own6 HZB.out
  clear own6 R4 h6 O6
  go_wp2_with (refine wpList_append_sl rfl _ _ 58 rfl W1.heap.size 5 Tryz.underlying58 zero_u8 _ _ (X ++ T) rfl R7.out _ _ _ Z rfl rfl S6 (by omega) (by omega) ?_; intro v8 w8 own8 g8; have k8 : Below w.heap.size w w8 := below_grown k6 (by omega) g8 (fun k hk => by have := (R7.out.lt k hk).1; omega); have R8 := aside own8; clear own8 g8)
  go_ret2
  refine ⟨v8, rfl, ?_, k8⟩
  rw [HP.out, tail1 HK.out, HZ.out, List.length_append, List.length_append]
  exact owns_less R8.out (by omega)

theorem put_yes (o : Opn) (w : World) (hf : Fit o) (h1 : o.key.size ≤ 1099511627776) (h2 : o.elem.size ≤ 1099511627776) (hm : mayO o = true) : Calls Tryz.prog 74 #[.agg (opc o)] w (PutYes o w) := by
  obtain ⟨_, h | h⟩ := mayO_kind hm
  · exact put0 o w hf h1 h2 hm h.1
  · exact put1 o w hf h1 h2 hm h.1
end Go.Proofs.YteojkfbnenfmkaaGreatDoor.OpsS
