/- What the document's answer's Num, Fold, Unfold and Text of package enc return: contracts. | What the document's Put of package ops returns: contracts. | What the document's Put of package commit returns: a contract. -/
import Derived.Test.YtgoapaanmcmlmaaGreatDoorEncMJ4
import Derived.Test.YtgoapaanmcmlmaaGreatDoorEvRJ5
import Derived.Test.YtgoapaanmcmlmaaGreatDoorGrowBJ2
import Derived.Test.YtgoapaanmcmlmaaGreatDoorCmRJ8
namespace Go.Proofs.YtgoapaanmcmlmaaGreatDoor.RefE
set_option maxRecDepth 100000
open Go.RowKit Byt EncM EncC
set_option maxHeartbeats 1000000 in
set_option maxRecDepth 100000 in
theorem num (n : Nat) (hn : Fits n) (w : World) :
   Calls Tryz.prog 49 #[.int .u64 n] w (New (numL n) w) := by
 have hten := numL_ten hn.lt
 go_enter Tryz.func49, Tryz.ntmps49
 go_wp2_with fail
 go_loopw [0, 3] (fun k v wr => ∃ (m : Nat) (pre : List Int), k = .int .u64 m ∧ Fits m ∧ Hid (numL n = pre ++ numL m) ∧ Hid (wr.ownsRow w.heap.size 5 1 v pre.length (bv pre)) ∧ Below w.heap.size w wr) (fun k _ _ => (intOf k).toNat)
 case atStart => exact ⟨n, [], rfl, hn, rfl, World.ownsRow_nil _ _ _ _, Below.refl _ _⟩
 case round =>
   obtain ⟨m, pre, rfl, hm, HN, HO, hb⟩ := hrel
   have hlen : pre.length + (numL m).length ≤ 10 := by
     have := HN.out
     rw [this, List.length_append] at hten
     exact hten
   have hs := hb.size
   by_cases hlt : m < 128
   · go_wp2_with (refine wpList_append_sl rfl (.tmp 15) (.tmp 18) 22 rfl w.heap.size 5 Tryz.underlying22 zero_u8 _ pre.length pre rfl (HO.out.alloc _) _ 1 1 [(m : Int)] rfl rfl (Sl.new1 _ _ _ ?c1) (by omega) (by simp; omega) ?_; (case c1 => unfold B; omega); intro v1 w1 hown1 hg1; have hb1 : Below w.heap.size w w1 := below_grown (hb.alloc hs _) (by simp; omega) hg1 (fun k hk => (HO.out.lt k hk).1); have HO1 := aside hown1; clear hown1 hg1)
     go_ret
     refine ⟨v1, rfl, ?_, hb1⟩
     rw [HN.out, numL_one hlt]
     simpa using HO1.out
   · have he : [(m : Int) % 128 + 128] = [((m % 128 + 128 : Nat) : Int)] := by congr 1
     have HE := aside he
     clear he
     have hw : IntKind.u64.wrap ((m : Int) / 128) = (m : Int) / 128 := by rw [IntKind.wrap_u64]; have := hm.lt; omega
     go_wp2_with (refine wpList_append_sl rfl (.tmp 6) (.tmp 11) 22 rfl w.heap.size 5 Tryz.underlying22 zero_u8 _ pre.length pre rfl (HO.out.alloc _) _ 1 1 [(m : Int) % 128 + 128] rfl rfl (Sl.new1 _ _ _ ?c1) (by omega) (by simp; omega) ?_; (case c1 => unfold B; omega); intro v1 w1 hown1 hg1; rw [HE.out] at hown1; have hb1 : Below w.heap.size w w1 := below_grown (hb.alloc hs _) (by simp; omega) hg1 (fun k hk => (HO.out.lt k hk).1); have HO1 := aside hown1; clear hown1 hg1)
     go_roundw
     case rel =>
       refine ⟨m / 128, pre ++ [((m % 128 + 128 : Nat) : Int)], by simp, hm.le (by omega), ?_, by simpa using HO1, hb1⟩
       have := HN.out
       rw [numL_more (n := m) (by omega)] at this
       exact aside (by rw [this]; simp)
     case measure => simp [intOf]; omega
set_option maxRecDepth 100000 in
theorem fold (k : Int) (hk : -9223372036854775808 ≤ k ∧ k ≤ 9223372036854775807) (w : World) :
   Calls Tryz.prog 50 #[.int .i64 k] w fun e w' => e = .returned (.int .u64 (foldI k)) ∧ w = w' := by
 obtain ⟨h1, h2⟩ := hk
 by_cases h0 : 0 ≤ k
 · go_enter Tryz.func50, Tryz.ntmps50
   go_wp2
   go_ret
   exact ⟨ret_int (by unfold foldI; rw [if_pos h0]), rfl⟩
 · go_enter Tryz.func50, Tryz.ntmps50
   go_wp2
   go_ret
   exact ⟨ret_int (by unfold foldI; rw [if_neg (by omega)]), rfl⟩
set_option maxRecDepth 100000 in
theorem unfold (n : Int) (hn : 0 ≤ n ∧ n ≤ 18446744073709551615) (w : World) :
   Calls Tryz.prog 60 #[.int .u64 n] w fun e w' => e = .returned (.int .i64 (unfoldI n)) ∧ w = w' := by
 obtain ⟨h1, h2⟩ := hn
 by_cases h0 : n % 2 = 0
 · have t1 : (n % 2 == 0) = true := by simpa using h0
   have HU := aside h0
   clear h0
   go_enter Tryz.func60, Tryz.ntmps60
   go_wp2
   go_ret
   exact ⟨ret_int (by unfold unfoldI; rw [if_pos HU.out]), rfl⟩
 · have t1 : (n % 2 == 0) = false := by simpa using h0
   have HU := aside h0
   clear h0
   go_enter Tryz.func60, Tryz.ntmps60
   go_wp2
   go_ret
   exact ⟨ret_int (by unfold unfoldI; rw [if_neg HU.out]), rfl⟩
set_option maxRecDepth 100000 in
theorem text (s : ByteArray) (hs : s.size ≤ 1099511627776) (w : World) :
   Calls Tryz.prog 90 #[.string s] w (New (textL (bytesL s)) w) := by
 have hn := num s.size (by unfold Fits; omega) w
 have hl := numL_len 9 s.size (by omega)
 go_enter Tryz.func90, Tryz.ntmps90
 go_wp2_with fail
 refine hn.mono ?_
 clear hn
 rintro e w1 ⟨v, rfl, hown, hb⟩
 have HO := aside hown
 clear hown
 have hs1 := hb.size
 go_wp2_with (refine wpList_append_str rfl (.tmp 6) (.tmp 7) 22 9 rfl w.heap.size 5 Tryz.underlying22 Tryz.underlying9 zero_u8 v _ (numL s.size) rfl HO.out s rfl (by omega) hs1 ?_; intro v2 w2 hown2 hg2; have hb2 : Below w.heap.size w w2 := below_grown hb hs1 hg2 (fun k hk => (HO.out.lt k hk).1); have HO2 := aside hown2; clear hown2 hg2)
 go_ret
 refine ⟨v2, rfl, ?_, hb2⟩
 have h := HO2.out
 unfold textL
 rw [bytesL_length, List.length_append, bytesL_length]
 exact h
end Go.Proofs.YtgoapaanmcmlmaaGreatDoor.RefE
namespace Go.Proofs.YtgoapaanmcmlmaaGreatDoor.OpsS
set_option maxRecDepth 100000
open Go Go.RowKit Go.Sort Byt OpsM OpsK OpsW OpsC EncM EncC OpsP
theorem num_of {k : Int} (h0 : 0 ≤ k) (h1 : k ≤ 18446744073709551615) (w : World) : Calls Tryz.prog 49 #[.int .u64 k] w (New (numL k.toNat) w) := by
 have := RefE.num k.toNat (by unfold Fits; omega) w
 rwa [show ((k.toNat : Nat) : Int) = k by omega] at this
set_option maxRecDepth 100000 in
set_option maxHeartbeats 8000000 in
theorem put0 (o : Opn) (w : World) (hf : Fit o) (h1 : o.key.size ≤ 1099511627776) (h2 : o.elem.size ≤ 1099511627776) (hm : mayO o = true) (hk : o.kind = 0) :
   Calls Tryz.prog 51 #[.agg (opc o)] w (PutYes o w) := by
 have O1 := OpAt.new w o 27
 have cm := fun W => OpsR.may o W hf h1 h2
 rw [hm] at cm
 obtain ⟨hkey, hrest⟩ := mayO_kind hm
 have hkl := keyL_len hkey
 have hk0 : 0 ≤ o.kind ∧ o.kind ≤ 3 := by omega
 have cn := OpsS.num_of hk0.1 (by omega)
 have ct := RefE.text o.key h1
 have ln := numL_ten (n := o.kind.toNat) (by omega)
 have lt := EncT.textL_length (bytesL o.key) (by omega)
 have bt : ∀ x ∈ textL (bytesL o.key), B x := EncT.textL_B (bytesL_B _)
 have hn := hf.n
 have hbd := foldI_bd hn
 have cf := RefE.fold o.n hn
 have cz := OpsS.num_of hbd.1 hbd.2
 have lz := numL_ten (n := (foldI o.n).toNat) (by omega)
 have bz : ∀ x ∈ numL (foldI o.n).toNat, B x := numL_range _
 obtain ⟨Z, hZ⟩ : ∃ Z, numL (foldI o.n).toNat = Z := ⟨_, rfl⟩
 rw [hZ] at cz lz bz
 have HZ := aside hZ
 have HZB := aside bz
 clear hZ bz hn hbd
 obtain ⟨X, hX⟩ : ∃ X, numL o.kind.toNat = X := ⟨_, rfl⟩
 obtain ⟨T, hT⟩ : ∃ T, textL (bytesL o.key) = T := ⟨_, rfl⟩
 have hput : putL o = X ++ T ++ tailL o := by unfold putL; rw [hX, hT]
 rw [hX] at cn ln
 rw [hT] at ct lt bt
 have lt' : T.length ≤ 20 := by omega
 have HK := aside hk
 have HB := aside bt
 have HP := aside hput
 obtain ⟨kb0, kb1⟩ := hk0
 clear hX hT hput bt lt hkl hkey hrest hm hk h1 h2
 go_enter Tryz.func51, Tryz.ntmps51
 go_wp2_with (refine wpList_load_op rfl _ rfl _ rfl o O1 ?_)
 refine (cm _).mono ?_
 rintro e w1 ⟨rfl, h1⟩
 have k1 : Below w.heap.size w w1 := Below.trans ((Below.refl _ _).alloc (Nat.le_refl _) _) (h1.mono (by simp))
 have O2 := O1.below h1
 clear h1 O1 cm
 go_wp2_with fail
 refine GrowB.region (w.heap.size + 1) [(0, true), (1, true), (2, true), (4, true), (5, true), (3, false), (6, false), (7, false), (8, true)] (by kernel_rfl) (by kernel_rfl) rfl (by kernel_rfl) (by intro c a d v w h; cases d <;> exact h) ?_
 have kd := below_drew1 k1
 have O3 : OpAt w1.drew w.heap.size o := O2
 obtain ⟨W1, hW1⟩ : ∃ W, w1.drew = W := ⟨_, rfl⟩
 rw [hW1] at kd O3 ⊢
 clear hW1 k1 O2
 have hs1 : w.heap.size + 1 ≤ W1.heap.size := O3.lt
 have q0 : ∀ p : GrowB.UpTo (w.heap.size + 1) W1, p.u.cell? ⟨w.heap.size, 0, none⟩ = some (.int .i64 o.kind) := fun p => (O3.block p.h (by omega)).kind
 have q1 : ∀ p : GrowB.UpTo (w.heap.size + 1) W1, p.u.cell? ⟨w.heap.size, 1, none⟩ = some (.string o.key) := fun p => (O3.block p.h (by omega)).key
 repeat (refine GrowB.reads_below rfl rfl ?_; go_big_quiet_step (fail); refine wpQuiet_nil ?_)
 clear q0 q1
 refine GrowB.acts rfl ?_
 go_wp2_with fail
 refine (cn _).mono ?_
 rintro e w2 ⟨v2, rfl, own2, h2⟩
 have O4 := O3.below h2
 have k2 := kd.trans (h2.mono kd.size)
 have hs2 := h2.size
 have R2 := aside own2
 clear own2 cn O3
 go_wp2_with fail
 refine ⟨h2.mono hs1, ?_⟩
 clear h2
 refine GrowB.acts rfl ?_
 go_wp2_with fail
 refine (ct _).mono ?_
 rintro e w3 ⟨v3, rfl, own3, h3⟩
 have O5 := O4.below h3
 have k3 := k2.trans (h3.mono k2.size)
 have hs3 := h3.size
 have R3 := aside (owns_below R2.out h3)
 obtain ⟨A3, c3, rfl, S3⟩ := Sl.own own3 HB.out
 clear own3 ct O4 R2
 go_wp2_with fail
 refine ⟨h3.mono (by omega), ?_⟩
 clear h3
 refine GrowB.acts rfl ?_
 refine wpList_append_sl rfl _ _ 22 rfl W1.heap.size 5 Tryz.underlying22 zero_u8 v2 _ X rfl R3.out _ _ _ T rfl rfl S3 (by omega) (by omega) ?_
 intro v4 w4 own4 g4
 have r4 : ∀ k, v2.ownBlock = some k → W1.heap.size ≤ k := fun k hk => (R3.out.lt k hk).1
 have h4 : Below (w.heap.size + 1) w3 w4 := below_grown (Below.refl _ _) (by omega) g4 (fun k hk => by have := r4 k hk; omega)
 have k4 : Below w.heap.size w w4 := k3.trans (h4.mono (by omega))
 have O6 := O5.block h4 (by omega)
 have hs4 := g4.size
 have R4 := aside own4
 clear own4 g4 r4 R3 S3 O5
 simp only [Act.put, List.setIfInBounds_toArray, List.set_cons_succ, List.set_cons_zero]
 refine ⟨h4, ?_⟩
 clear h4
 repeat (refine GrowB.reads rfl rfl ?_; go_big_quiet_step (fail); refine wpQuiet_nil ?_)
 refine GrowB.ends ?_
 have r0 := O6.kind
 have r3 := O6.n
 rw [HK.out] at r0
 go_wp2_with fail
 refine (cf _).mono ?_
 rintro e w' ⟨rfl, rfl⟩
 go_wp2_with fail
 refine (cz _).mono ?_
 rintro e w6 ⟨v6, rfl, own6, h6⟩
 have k6 := k4.trans (h6.mono k4.size)
 have R7 := aside (owns_below R4.out h6)
 have hs7 := h6.size
 obtain ⟨A6, c6, rfl, S6⟩ := Sl.own own6 HZB.out
 clear own6 R4 h6 O6
 go_wp2_with (refine wpList_append_sl rfl _ _ 22 rfl W1.heap.size 5 Tryz.underlying22 zero_u8 _ _ (X ++ T) rfl R7.out _ _ _ Z rfl rfl S6 (by omega) (by omega) ?_; intro v8 w8 own8 g8; have k8 : Below w.heap.size w w8 := below_grown k6 (by omega) g8 (fun k hk => by have := (R7.out.lt k hk).1; omega); have R8 := aside own8; clear own8 g8)
 go_ret2
 refine ⟨v8, rfl, ?_, k8⟩
 rw [HP.out, tail0 HK.out, HZ.out, List.length_append, List.length_append]
 exact owns_less R8.out (by omega)
set_option maxRecDepth 100000 in
set_option maxHeartbeats 8000000 in
theorem put1 (o : Opn) (w : World) (hf : Fit o) (h1 : o.key.size ≤ 1099511627776) (h2 : o.elem.size ≤ 1099511627776) (hm : mayO o = true) (hk : o.kind = 1 ∨ o.kind = 2 ∨ o.kind = 3) :
   Calls Tryz.prog 51 #[.agg (opc o)] w (PutYes o w) := by
 have O1 := OpAt.new w o 27
 have cm := fun W => OpsR.may o W hf h1 h2
 rw [hm] at cm
 obtain ⟨hkey, hrest⟩ := mayO_kind hm
 have hkl := keyL_len hkey
 have hk0 : 0 ≤ o.kind ∧ o.kind ≤ 3 := by omega
 have cn := OpsS.num_of hk0.1 (by omega)
 have ct := RefE.text o.key h1
 have ln := numL_ten (n := o.kind.toNat) (by omega)
 have lt := EncT.textL_length (bytesL o.key) (by omega)
 have bt : ∀ x ∈ textL (bytesL o.key), B x := EncT.textL_B (bytesL_B _)
 have hel : elemB o.n o.elem = true := by rcases hrest with ⟨h0, _⟩ | ⟨_, h⟩; (· omega); exact h
 have hkl2 := keyL_len (elemB_iff.1 hel).1
 have cz := RefE.text o.elem h2
 have lz := EncT.textL_length (bytesL o.elem) (by omega)
 have bz : ∀ x ∈ textL (bytesL o.elem), B x := EncT.textL_B (bytesL_B _)
 obtain ⟨Z, hZ⟩ : ∃ Z, textL (bytesL o.elem) = Z := ⟨_, rfl⟩
 rw [hZ] at cz lz bz
 have lz' : Z.length ≤ 20 := by omega
 have HZ := aside hZ
 have HZB := aside bz
 clear hZ bz hel hkl2 lz
 obtain ⟨X, hX⟩ : ∃ X, numL o.kind.toNat = X := ⟨_, rfl⟩
 obtain ⟨T, hT⟩ : ∃ T, textL (bytesL o.key) = T := ⟨_, rfl⟩
 have hput : putL o = X ++ T ++ tailL o := by unfold putL; rw [hX, hT]
 rw [hX] at cn ln
 rw [hT] at ct lt bt
 have lt' : T.length ≤ 20 := by omega
 have HK := aside hk
 have HB := aside bt
 have HP := aside hput
 obtain ⟨kb0, kb1⟩ := hk0
 clear hX hT hput bt lt hkl hkey hrest hm hk h1 h2
 go_enter Tryz.func51, Tryz.ntmps51
 go_wp2_with (refine wpList_load_op rfl _ rfl _ rfl o O1 ?_)
 refine (cm _).mono ?_
 rintro e w1 ⟨rfl, h1⟩
 have k1 : Below w.heap.size w w1 := Below.trans ((Below.refl _ _).alloc (Nat.le_refl _) _) (h1.mono (by simp))
 have O2 := O1.below h1
 clear h1 O1 cm
 go_wp2_with fail
 refine GrowB.region (w.heap.size + 1) [(0, true), (1, true), (2, true), (4, true), (5, true), (3, false), (6, false), (7, false), (8, true)] (by kernel_rfl) (by kernel_rfl) rfl (by kernel_rfl) (by intro c a d v w h; cases d <;> exact h) ?_
 have kd := below_drew1 k1
 have O3 : OpAt w1.drew w.heap.size o := O2
 obtain ⟨W1, hW1⟩ : ∃ W, w1.drew = W := ⟨_, rfl⟩
 rw [hW1] at kd O3 ⊢
 clear hW1 k1 O2
 have hs1 : w.heap.size + 1 ≤ W1.heap.size := O3.lt
 have q0 : ∀ p : GrowB.UpTo (w.heap.size + 1) W1, p.u.cell? ⟨w.heap.size, 0, none⟩ = some (.int .i64 o.kind) := fun p => (O3.block p.h (by omega)).kind
 have q1 : ∀ p : GrowB.UpTo (w.heap.size + 1) W1, p.u.cell? ⟨w.heap.size, 1, none⟩ = some (.string o.key) := fun p => (O3.block p.h (by omega)).key
 repeat (refine GrowB.reads_below rfl rfl ?_; go_big_quiet_step (fail); refine wpQuiet_nil ?_)
 clear q0 q1
 refine GrowB.acts rfl ?_
 go_wp2_with fail
 refine (cn _).mono ?_
 rintro e w2 ⟨v2, rfl, own2, h2⟩
 have O4 := O3.below h2
 have k2 := kd.trans (h2.mono kd.size)
 have hs2 := h2.size
 have R2 := aside own2
 clear own2 cn O3
 go_wp2_with fail
 refine ⟨h2.mono hs1, ?_⟩
 clear h2
 refine GrowB.acts rfl ?_
 go_wp2_with fail
 refine (ct _).mono ?_
 rintro e w3 ⟨v3, rfl, own3, h3⟩
 have O5 := O4.below h3
 have k3 := k2.trans (h3.mono k2.size)
 have hs3 := h3.size
 have R3 := aside (owns_below R2.out h3)
 obtain ⟨A3, c3, rfl, S3⟩ := Sl.own own3 HB.out
 clear own3 ct O4 R2
 go_wp2_with fail
 refine ⟨h3.mono (by omega), ?_⟩
 clear h3
 refine GrowB.acts rfl ?_
 refine wpList_append_sl rfl _ _ 22 rfl W1.heap.size 5 Tryz.underlying22 zero_u8 v2 _ X rfl R3.out _ _ _ T rfl rfl S3 (by omega) (by omega) ?_
 intro v4 w4 own4 g4
 have r4 : ∀ k, v2.ownBlock = some k → W1.heap.size ≤ k := fun k hk => (R3.out.lt k hk).1
 have h4 : Below (w.heap.size + 1) w3 w4 := below_grown (Below.refl _ _) (by omega) g4 (fun k hk => by have := r4 k hk; omega)
 have k4 : Below w.heap.size w w4 := k3.trans (h4.mono (by omega))
 have O6 := O5.block h4 (by omega)
 have hs4 := g4.size
 have R4 := aside own4
 clear own4 g4 r4 R3 S3 O5
 simp only [Act.put, List.setIfInBounds_toArray, List.set_cons_succ, List.set_cons_zero]
 refine ⟨h4, ?_⟩
 clear h4
 repeat (refine GrowB.reads rfl rfl ?_; go_big_quiet_step (fail); refine wpQuiet_nil ?_)
 refine GrowB.ends ?_
 have r0 := O6.kind
 have r2 := O6.elem
 have t0 : (o.kind == 0) = false := by simp; have := HK.out; omega
 go_wp2_with fail
 refine (cz _).mono ?_
 rintro e w6 ⟨v6, rfl, own6, h6⟩
 have k6 := k4.trans (h6.mono k4.size)
 have R7 := aside (owns_below R4.out h6)
 have hs7 := h6.size
 obtain ⟨A6, c6, rfl, S6⟩ := Sl.own own6 HZB.out
 clear own6 R4 h6 O6
 go_wp2_with (refine wpList_append_sl rfl _ _ 22 rfl W1.heap.size 5 Tryz.underlying22 zero_u8 _ _ (X ++ T) rfl R7.out _ _ _ Z rfl rfl S6 (by omega) (by omega) ?_; intro v8 w8 own8 g8; have k8 : Below w.heap.size w w8 := below_grown k6 (by omega) g8 (fun k hk => by have := (R7.out.lt k hk).1; omega); have R8 := aside own8; clear own8 g8)
 go_ret2
 refine ⟨v8, rfl, ?_, k8⟩
 rw [HP.out, tail1 HK.out, HZ.out, List.length_append, List.length_append]
 exact owns_less R8.out (by omega)
theorem put_yes (o : Opn) (w : World) (hf : Fit o) (h1 : o.key.size ≤ 1099511627776) (h2 : o.elem.size ≤ 1099511627776) (hm : mayO o = true) : Calls Tryz.prog 51 #[.agg (opc o)] w (PutYes o w) := by
 obtain ⟨_, h | h⟩ := mayO_kind hm
 · exact put0 o w hf h1 h2 hm h.1
 · exact put1 o w hf h1 h2 hm h.1
end Go.Proofs.YtgoapaanmcmlmaaGreatDoor.OpsS
namespace Go.Proofs.YtgoapaanmcmlmaaGreatDoor.CmP
set_option maxRecDepth 100000
open Go Go.RowKit Byt EncM EncC EncT IdM IdW OpsM OpsW CmM StW CmW CmR
theorem owns_on {w w' : World} {b n : Nat} {v : Value} {l : List Value} (h : w.ownsRow b 5 1 v n l) (k : Below w.heap.size w w') : w'.ownsRow b 5 1 v n l := owns_below h k
theorem num_B (n : Nat) : ∀ x ∈ numL n, B x := numL_range n
theorem one_next {l : List Int} {k : Nat} (h : k < l.length) : l.take (k + 1) = l.take k ++ [l.getD k 0] := by
 rw [List.take_succ_eq_append_getElem h, List.getD_eq_getElem?_getD, List.getElem?_eq_getElem h]
 rfl
theorem ids_next {l : List Idn} {j : Nat} (h : j < l.length) : flatL (l.take (j + 1)) = flatL (l.take j) ++ (l.getD j nought).val := by
 rw [List.take_succ_eq_append_getElem h, flatL_append, List.getD_eq_getElem?_getD, List.getElem?_eq_getElem h]
 simp [flatL]
def Yes (c : Com) (w : World) (e : Ending) (w' : World) : Prop :=
 ∃ v, e = .returned (.tuple #[v, .int .i64 0]) ∧ w'.ownsRow w.heap.size 5 1 v (putK c).length (bv (putK c)) ∧ Below w.heap.size w w'
def No (w : World) (e : Ending) (w' : World) : Prop := e = .returned (.tuple #[.slice none 0 0, .int .i64 1]) ∧ Below w.heap.size w w'
theorem owns_lower {w : World} {b c n : Nat} {e : TypeId} {v : Value} {l : List Value} (h : w.ownsRow b e 1 v n l) (hc : c ≤ b) : w.ownsRow c e 1 v n l := by
 refine ⟨h.1, ?_⟩
 rcases h.2 with h | ⟨q, cap, cur, hv, hb, h⟩
 · exact Or.inl h
 · exact Or.inr ⟨q, cap, cur, hv, Nat.le_trans hc hb, h⟩
set_option maxRecDepth 100000 in
set_option maxHeartbeats 16000000 in
theorem put_no (v : Cv) (w : World) (S : In w v) (ho : Okay v.c) (hm : mayK v.c = false) : Calls Tryz.prog 26 #[.agg (cc v)] w (No w) := by
 have k0 := StW.below_alloc w (.cells (cc v) 29)
 have R0 : Cel.Box CE (w.alloc (.cells (cc v) 29)) w.heap.size v := Cel.Box.new w v _
 have S0 := S.below k0
 have cm := fun W T => CmR.may_ret v W T ho
 simp only [hm] at cm
 clear S hm
 go_enter Tryz.func26, Tryz.ntmps26
 go_wp2_with (first | go_skip | (refine Cel.wpList_load_box CE rfl _ rfl _ rfl v R0 ?_))
 refine (cm _ S0).mono ?_
 rintro e w1 ⟨rfl, k1⟩
 obtain ⟨W0, hW0⟩ : ∃ W, w.alloc (.cells (cc v) 29) = W := ⟨_, rfl⟩
 rw [hW0] at R0 S0 k0 k1
 clear hW0
 have R := R0.below k1
 have S1 := S0.below k1
 have b1 : Below W0.heap.size W0 w1 := k1
 clear cm
 go_wp2_with (first | go_skip)
 go_ret2
 exact ⟨rfl, k0.trans (k1.mono k0.size)⟩
set_option maxRecDepth 100000 in
set_option maxHeartbeats 16000000 in
theorem put_yes (v : Cv) (w : World) (S : In w v) (ho : Okay v.c) (hm : mayK v.c = true) : Calls Tryz.prog 26 #[.agg (cc v)] w (Yes v.c w) := by
 have k0 := StW.below_alloc w (.cells (cc v) 29)
 have R0 : Cel.Box CE (w.alloc (.cells (cc v) 29)) w.heap.size v := Cel.Box.new w v _
 have S0 := S.below k0
 have cm := fun W T => CmR.may_ret v W T ho
 simp only [hm] at cm
 have hn := node_may hm
 have hs := seq_may hm
 have hg := lineB_iff.1 (mayK_iff.1 hm).1
 have hI : I64 v.c.node := by unfold I64; omega
 have hf := foldI_bd hI
 have HH : Hid (headL v.c = ((numL (foldI v.c.node).toNat ++ numL v.c.seq.toNat) ++ numL v.c.gen.toNat) ++ numL v.c.ps.length) := aside (by unfold headL; simp only [List.append_assoc])
 have HO : Hid (opL v.c = if v.c.node = -1 then [] else putL v.c.op) := aside rfl
 have hop := aside (fun hq => op_may hm hq)
 have hok := aside ho
 have q0 := fun W => RefE.fold v.c.node hI W
 have q1 := fun W => OpsS.num_of hf.1 hf.2 W
 have q2 := fun W => OpsS.num_of (k := v.c.seq) hs.1 (by omega) W
 have q3 := fun W => OpsS.num_of (k := v.c.gen) (by omega) (by omega) W
 have q4 := fun W => OpsS.num_of (k := (v.c.ps.length : Int)) (by omega) (by omega) W
 rw [Int.toNat_natCast] at q4
 have u1 : IntKind.u64.wrap v.c.seq = v.c.seq := by rw [IntKind.wrap_u64]; omega
 have u2 : IntKind.u64.wrap v.c.gen = v.c.gen := by rw [IntKind.wrap_u64]; omega
 have u3 : IntKind.u64.wrap (v.c.ps.length : Int) = v.c.ps.length := by rw [IntKind.wrap_u64]; omega
 have t0 : 0 < (numL (foldI v.c.node).toNat).length ∧ (numL (foldI v.c.node).toNat).length ≤ 10 := ⟨numL_pos _, numL_ten (by omega)⟩
 have t1 : (numL v.c.seq.toNat).length ≤ 10 := numL_ten (by omega)
 have t2 : (numL v.c.gen.toNat).length ≤ 10 := numL_ten (by omega)
 have t3 : (numL v.c.ps.length).length ≤ 10 := numL_ten (by omega)
 have hps : v.c.ps.length ≤ 8 := hg.2.2.1
 have hnn := aside hn
 clear S hm hn hs hg hI hf ho
 go_enter Tryz.func26, Tryz.ntmps26
 go_wp2_with (first | go_skip | (refine Cel.wpList_load_box CE rfl _ rfl _ rfl v R0 ?_))
 refine (cm _ S0).mono ?_
 rintro e w1 ⟨rfl, k1⟩
 obtain ⟨W0, hW0⟩ : ∃ W, w.alloc (.cells (cc v) 29) = W := ⟨_, rfl⟩
 rw [hW0] at R0 S0 k0 k1
 clear hW0
 have R := R0.below k1
 have S1 := S0.below k1
 have b1 : Below W0.heap.size W0 w1 := k1
 clear cm
 clear R S1 k1
 have d0 := cell_node (R0.below b1)
 have d1 := cell_seq (R0.below b1)
 have d2 := cell_gen (R0.below b1)
 have d3 := cell_ps (R0.below b1)
 go_wp2_with (first | go_skip)
 refine (q0 _).mono ?_
 rintro _ w' ⟨rfl, rfl⟩
 go_wp2_with (first | go_skip)
 refine (q1 _).mono ?_
 rintro _ w2 ⟨v2, rfl, own2, k2⟩
 have b2 := b1.trans (k2.mono b1.size)
 have O2 := aside (owns_lower own2 b1.size)
 clear own2 k2 b1 d0 d1 d2 d3
 have d0 := cell_node (R0.below b2)
 have d1 := cell_seq (R0.below b2)
 have d2 := cell_gen (R0.below b2)
 have d3 := cell_ps (R0.below b2)
 have a2 := t0
 clear q0 q1
 go_wp2_with (first | go_skip)
 refine (q2 _).mono ?_
 rintro _ w3 ⟨v3, rfl, own3, k3⟩
 have b3 := b2.trans (k3.mono b2.size)
 have O3 := aside (owns_on O2.out k3)
 obtain ⟨A3, c3, rfl, S3⟩ := Sl.own own3 (num_B _)
 clear own3 k3 b2 O2 d0 d1 d2 d3
 have d0 := cell_node (R0.below b3)
 have d1 := cell_seq (R0.below b3)
 have d2 := cell_gen (R0.below b3)
 have d3 := cell_ps (R0.below b3)
 go_wp2_with (first | go_skip | (refine wpList_append_sl rfl (.tmp 19) (.tmp 24) 22 rfl W0.heap.size 5 Tryz.underlying22 zero_u8 _ _ (numL (foldI v.c.node).toNat) rfl O3.out _ _ _ (numL v.c.seq.toNat) rfl rfl S3 (by have := a2; have := t1; omega) b3.size ?_; intro v4 w4 own4 g4; have b4 : Below W0.heap.size W0 w4 := below_grown b3 b3.size g4 (fun q hq => (O3.out.lt q hq).1); have O4 : Hid (w4.ownsRow W0.heap.size 5 1 v4 ((numL (foldI v.c.node).toNat) ++ numL v.c.seq.toNat).length (bv ((numL (foldI v.c.node).toNat) ++ numL v.c.seq.toNat))) := aside (by rw [List.length_append]; exact own4); have a4 : 0 < ((numL (foldI v.c.node).toNat) ++ numL v.c.seq.toNat).length ∧ ((numL (foldI v.c.node).toNat) ++ numL v.c.seq.toNat).length ≤ 20 := (by have := a2; have := t1; rw [List.length_append]; omega); clear own4 g4 b3 O3 S3 d0 d1 d2 d3; have d0 := cell_node (R0.below b4); have d1 := cell_seq (R0.below b4); have d2 := cell_gen (R0.below b4); have d3 := cell_ps (R0.below b4)))
 refine (q3 _).mono ?_
 rintro _ w5 ⟨v5, rfl, own5, k5⟩
 have b5 := b4.trans (k5.mono b4.size)
 have O5 := aside (owns_on O4.out k5)
 obtain ⟨A5, c5, rfl, S5⟩ := Sl.own own5 (num_B _)
 clear own5 k5 b4 O4 d0 d1 d2 d3
 have d0 := cell_node (R0.below b5)
 have d1 := cell_seq (R0.below b5)
 have d2 := cell_gen (R0.below b5)
 have d3 := cell_ps (R0.below b5)
 go_wp2_with (first | go_skip | (refine wpList_append_sl rfl (.tmp 26) (.tmp 30) 22 rfl W0.heap.size 5 Tryz.underlying22 zero_u8 _ _ ((numL (foldI v.c.node).toNat) ++ numL v.c.seq.toNat) rfl O5.out _ _ _ (numL v.c.gen.toNat) rfl rfl S5 (by have := a4; have := t2; omega) b5.size ?_; intro v6 w6 own6 g6; have b6 : Below W0.heap.size W0 w6 := below_grown b5 b5.size g6 (fun q hq => (O5.out.lt q hq).1); have O6 : Hid (w6.ownsRow W0.heap.size 5 1 v6 (((numL (foldI v.c.node).toNat) ++ numL v.c.seq.toNat) ++ numL v.c.gen.toNat).length (bv (((numL (foldI v.c.node).toNat) ++ numL v.c.seq.toNat) ++ numL v.c.gen.toNat))) := aside (by rw [List.length_append]; exact own6); have a6 : 0 < (((numL (foldI v.c.node).toNat) ++ numL v.c.seq.toNat) ++ numL v.c.gen.toNat).length ∧ (((numL (foldI v.c.node).toNat) ++ numL v.c.seq.toNat) ++ numL v.c.gen.toNat).length ≤ 30 := (by have := a4; have := t2; rw [List.length_append]; omega); clear own6 g6 b5 O5 S5 d0 d1 d2 d3; have d0 := cell_node (R0.below b6); have d1 := cell_seq (R0.below b6); have d2 := cell_gen (R0.below b6); have d3 := cell_ps (R0.below b6)))
 refine (q4 _).mono ?_
 rintro _ w7 ⟨v7, rfl, own7, k7⟩
 have b7 := b6.trans (k7.mono b6.size)
 have O7 := aside (owns_on O6.out k7)
 obtain ⟨A7, c7, rfl, S7⟩ := Sl.own own7 (num_B _)
 clear own7 k7 b6 O6 d0 d1 d2 d3
 have d0 := cell_node (R0.below b7)
 have d1 := cell_seq (R0.below b7)
 have d2 := cell_gen (R0.below b7)
 have d3 := cell_ps (R0.below b7)
 go_wp2_with (first | go_skip | (refine wpList_append_sl rfl (.tmp 32) (.tmp 37) 22 rfl W0.heap.size 5 Tryz.underlying22 zero_u8 _ _ (((numL (foldI v.c.node).toNat) ++ numL v.c.seq.toNat) ++ numL v.c.gen.toNat) rfl O7.out _ _ _ (numL v.c.ps.length) rfl rfl S7 (by have := a6; have := t3; omega) b7.size ?_; intro v8 w8 own8 g8; have b8 : Below W0.heap.size W0 w8 := below_grown b7 b7.size g8 (fun q hq => (O7.out.lt q hq).1); have O8 : Hid (w8.ownsRow W0.heap.size 5 1 v8 ((((numL (foldI v.c.node).toNat) ++ numL v.c.seq.toNat) ++ numL v.c.gen.toNat) ++ numL v.c.ps.length).length (bv ((((numL (foldI v.c.node).toNat) ++ numL v.c.seq.toNat) ++ numL v.c.gen.toNat) ++ numL v.c.ps.length))) := aside (by rw [List.length_append]; exact own8); have a8 : 0 < ((((numL (foldI v.c.node).toNat) ++ numL v.c.seq.toNat) ++ numL v.c.gen.toNat) ++ numL v.c.ps.length).length ∧ ((((numL (foldI v.c.node).toNat) ++ numL v.c.seq.toNat) ++ numL v.c.gen.toNat) ++ numL v.c.ps.length).length ≤ 40 := (by have := a6; have := t3; rw [List.length_append]; omega); clear own8 g8 b7 O7 S7 d0 d1 d2 d3; have d0 := cell_node (R0.below b8); have d1 := cell_seq (R0.below b8); have d2 := cell_gen (R0.below b8); have d3 := cell_ps (R0.below b8)))
 clear q2 q3 q4 u1 u2 u3 t0 t1 t2 t3 d0 d1 d2 d3
 obtain ⟨pre, hpre⟩ : ∃ l, ((((numL (foldI v.c.node).toNat) ++ numL v.c.seq.toNat) ++ numL v.c.gen.toNat) ++ numL v.c.ps.length) = l := ⟨_, rfl⟩
 rw [hpre] at O8 a8 HH
 clear hpre
 go_loopw [5, 6] (fun o i wr => ∃ (j : Nat) (acc : List Int), j ≤ v.c.ps.length ∧ i = .int .i64 j ∧ Hid (acc = pre ++ flatL (v.c.ps.take j)) ∧ (0 < acc.length ∧ acc.length ≤ 40 + j * 32) ∧ Hid (wr.ownsRow W0.heap.size 5 1 o acc.length (bv acc)) ∧ Below W0.heap.size W0 wr) (fun _ i _ => v.c.ps.length - (intOf i).toNat)
 case atStart => exact ⟨0, pre, Nat.zero_le _, rfl, aside (by simp [flatL]), by have := a8; omega, O8, b8⟩
 case round =>
   clear O8 b8 a8
   obtain ⟨j, acc, hj, rfl, HA, ha, HB, kb⟩ := hrel
   have d3 := cell_ps (R0.below kb)
   by_cases hlt : j < v.c.ps.length
   · obtain ⟨g, off, hA, hbw, hr⟩ := SlI.plain S0 (by omega)
     have re := hr j hlt
     have HF := aside (ids_next hlt)
     obtain ⟨x, hx⟩ : ∃ x, v.c.ps.getD j nought = x := ⟨_, rfl⟩
     rw [hx] at re HF
     have lx := Idn_len x
     have bx := aside (idB x)
     clear hr hx
     have p0 : (j : Int) < v.c.ps.length := by omega
     have m0 : ((j : Int)).toNat = j := by omega
     go_wp2_with (first | go_skip)
     go_loopw [5, 7] (fun o i wr => ∃ (k : Nat) (ac : List Int), k ≤ 32 ∧ i = .int .i64 k ∧ Hid (ac = acc ++ x.val.take k) ∧ (0 < ac.length ∧ ac.length ≤ 40 + j * 32 + k) ∧ Hid (wr.ownsRow W0.heap.size 5 1 o ac.length (bv ac)) ∧ Below W0.heap.size W0 wr) (fun _ i _ => 32 - (intOf i).toNat)
     case atStart => exact ⟨0, acc, Nat.zero_le _, rfl, aside (by simp), by have := ha; omega, HB, kb⟩
     case round =>
       clear HB kb d3
       obtain ⟨k, ac, hk, rfl, HC, hc, HB, kb⟩ := hrel
       by_cases hkt : k < 32
       · have d3 := (cell_ps (R0.below kb)).trans (by rw [hA])
         have cx := (range_below re kb) k _ (bv_at x.val (i := k) (by omega))
         have HG := aside (one_next (l := x.val) (k := k) (by omega))
         have by0 := bx.out (x.val.getD k 0) (by rw [List.getD_eq_getElem?_getD, List.getElem?_eq_getElem (by omega : k < x.val.length)]; exact List.getElem_mem _)
         obtain ⟨y, hy⟩ : ∃ y, x.val.getD k 0 = y := ⟨_, rfl⟩
         rw [hy] at cx HG by0
         clear hy
         have q0 : (k : Int) < 32 := by omega
         have n0 : ((k : Int)).toNat = k := by omega
         have cx2 : World.cell? _ ⟨g, off + j * 32 + k, none⟩ = _ := cx
         go_wp2_with (first | go_skip | (refine wpList_append_sl rfl (.tmp 50) (.tmp 58) 22 rfl W0.heap.size 5 Tryz.underlying22 zero_u8 _ ac.length ac rfl (HB.out.alloc _) _ 1 1 [y] rfl rfl (Sl.new1 _ _ _ ?c1) (by have := hc; have := hps; omega) (by have := kb.size; simp; omega) ?_; (case c1 => exact by0); intro v1 w1 own1 g1; have hb1 : Below W0.heap.size W0 w1 := below_grown (kb.alloc kb.size _) (by have := kb.size; simp; omega) g1 (fun k hk => (HB.out.lt k hk).1); have HO1 := aside own1; clear own1 g1))
         try rw [hA]
         go_roundw
         case rel => exact ⟨k + 1, ac ++ [y], by omega, by go_num, aside (by rw [HG.out, HC.out, List.append_assoc]), by have := hc; simp; omega, by simpa using HO1, hb1⟩
         case measure => simp [intOf]; omega
       · have e : k = 32 := by omega
         have HD : Hid (ac = pre ++ flatL (v.c.ps.take (j + 1))) := aside (by rw [HC.out, HA.out, HF.out, e, List.take_of_length_le (show x.val.length ≤ 32 by omega), List.append_assoc])
         have hc2 : 0 < ac.length ∧ ac.length ≤ 40 + (j + 1) * 32 := by omega
         clear e hc HC
         go_wp2_with (first | go_skip)
         try rw [hA]
         go_roundw
         case rel => exact ⟨j + 1, ac, by omega, by go_num, HD, hc2, HB, kb⟩
         case measure => simp [intOf]; omega
   · have e : j = v.c.ps.length := by omega
     have HE : Hid (acc = headL v.c ++ flatL v.c.ps) := aside (by rw [HA.out, e, List.take_length, HH.out])
     have hl2 : 0 < acc.length ∧ acc.length ≤ 400 := by omega
     clear HA HH ha e
     have d0 := cell_node (R0.below kb)
     by_cases hq : v.c.node = -1
     · have HP : Hid (putK v.c = acc) := aside (by unfold putK; rw [HO.out, if_pos hq, HE.out, List.append_nil])
       rw [hq] at d0
       clear HO HE hq
       go_wp2_with (first | go_skip)
       go_ret2
       rw [← HP.out] at HB
       exact ⟨_, rfl, owns_lower HB.out k0.size, k0.trans (kb.mono k0.size)⟩
     · have HP : Hid (putK v.c = acc ++ putL v.c.op) := aside (by unfold putK; rw [HO.out, if_neg hq, HE.out, List.append_assoc])
       have hge : 0 ≤ v.c.node := by have := hnn.out; omega
       have cp := fun W => OpsS.put_yes v.c.op W hok.out.fit.op hok.out.key hok.out.elem (hop.out hq)
       have hlo := putL_len (hop.out hq)
       have RK := R0.below kb
       clear HO HE hq
       go_wp2_with (first | go_skip | (refine wpList_load_kop rfl _ rfl _ rfl v RK ?_))
       refine (cp _).mono ?_
       rintro _ w9 ⟨v9, rfl, own9, k9⟩
       have O9 := aside (owns_on HB.out k9)
       have b9 := kb.trans (k9.mono kb.size)
       obtain ⟨A9, c9, rfl, S9⟩ := Sl.own own9 (putL_B _)
       clear own9 k9 kb HB RK d0 d3
       go_wp2_with (first | go_skip | (refine wpList_append_sl rfl (.tmp 70) (.tmp 71) 22 rfl W0.heap.size 5 Tryz.underlying22 zero_u8 _ _ acc rfl O9.out _ _ _ (putL v.c.op) rfl rfl S9 (by have := hl2; have := hlo; omega) b9.size ?_; intro v1 w1 own1 g1; have hb1 : Below W0.heap.size W0 w1 := below_grown b9 b9.size g1 (fun q hq => (O9.out.lt q hq).1); have HO1 : Hid (w1.ownsRow W0.heap.size 5 1 v1 (acc ++ putL v.c.op).length (bv (acc ++ putL v.c.op))) := aside (by rw [List.length_append]; exact own1); clear own1 g1))
       go_ret2
       rw [← HP.out] at HO1
       exact ⟨_, rfl, owns_lower HO1.out k0.size, k0.trans (hb1.mono k0.size)⟩
end Go.Proofs.YtgoapaanmcmlmaaGreatDoor.CmP
