/- What the document's answer's Block of package sha returns: contracts. | What the document's answer's Pad of package sha returns: a contract. | The contracts of the document's Four and Long once more, with the bytes named. -/
import Derived.Test.YtgoapaanmcmlmaaGreatDoorStoMJ5
import Derived.Test.YtgoapaanmcmlmaaGreatDoorShaFJ4
import Derived.Laws.AppendOwn
import Derived.Laws.AppendOwnNone
import Derived.OwnWalk
import Derived.Test.YtgoapaanmcmlmaaGreatDoorRotMJ9
namespace Go.Proofs.YtgoapaanmcmlmaaGreatDoor.RefU
set_option maxRecDepth 100000
open Go.RowKit RotM RotN RotC RotD ShaM ShaD RotG Small RefS RefT
theorem quietS {P : Program} {f : FuncId} {args : Array Value} {w w1 : World} {n : Nat} {v : Value} (h : Calls P f args w1 fun e w' => e = .returned v ∧ w1 = w') (hw : w1 = w.drewN n) :
   Calls P f args w1 fun e w'' => e = .returned v ∧ ∃ m, w'' = w.drewN m :=
 h.mono fun _ _ ⟨he, hm⟩ => ⟨he, n, by rw [← hm, hw]⟩
theorem one8 (h : H8) : h.vals.all (·.oneCell') = true := by kernel_rfl
theorem info8 : (Tryz.prog.info? 135).map (·.size) = some 8 := by kernel_rfl
def z8 : H8 := ⟨0, 0, 0, 0, 0, 0, 0, 0⟩
def inW (m : Nat → BitVec 32) (k : Nat) : BitVec 32 := kc k + wd m k
structure Inv (w : World) (g6 g7 g8 : Nat) (h v : H8) (m : Nat → BitVec 32) (wr : World) : Prop where
 a2 : At wr w.heap.size h.vals
 a4 : At wr (w.heap.size + 1) z8.vals
 a6 : At wr g6 kcells
 a7 : At wr g7 (sp m 64)
 a8 : At wr g8 v.vals
 kb : Below w.heap.size w wr
theorem Inv.drewN {w : World} {g6 g7 g8 : Nat} {h v : H8} {m : Nat → BitVec 32} {wr : World} (i : Inv w g6 g7 g8 h v m wr) (n : Nat) : Inv w g6 g7 g8 h v m (wr.drewN n) :=
 ⟨i.a2, i.a4, i.a6, i.a7, i.a8, below_drew i.kb n⟩
theorem Inv.named {w : World} {g6 g7 g8 : Nat} {h v : H8} {m : Nat → BitVec 32} {wr : World} (i : Inv w g6 g7 g8 h v m wr) (n : Nat) : ∃ W, wr.drewN n = W ∧ Inv w g6 g7 g8 h v m W := ⟨_, rfl, i.drewN n⟩
theorem q6 (x : BitVec 32) (w : World) (n : Nat) : Calls Tryz.prog 125 #[.int .u32 (u x), .int .i64 6] (w.drewN n) fun e w'' => e = .returned (.int .u32 (u (rotr x 6))) ∧ ∃ n, w'' = w.drewN n := quietS (RefS.rightK x 6 6 (by omega) rfl _) rfl
theorem q11 (x : BitVec 32) (w : World) (n : Nat) : Calls Tryz.prog 125 #[.int .u32 (u x), .int .i64 11] (w.drewN n) fun e w'' => e = .returned (.int .u32 (u (rotr x 11))) ∧ ∃ n, w'' = w.drewN n := quietS (RefS.rightK x 11 11 (by omega) rfl _) rfl
theorem q25 (x : BitVec 32) (w : World) (n : Nat) : Calls Tryz.prog 125 #[.int .u32 (u x), .int .i64 25] (w.drewN n) fun e w'' => e = .returned (.int .u32 (u (rotr x 25))) ∧ ∃ n, w'' = w.drewN n := quietS (RefS.rightK x 25 25 (by omega) rfl _) rfl
theorem q2 (x : BitVec 32) (w : World) (n : Nat) : Calls Tryz.prog 125 #[.int .u32 (u x), .int .i64 2] (w.drewN n) fun e w'' => e = .returned (.int .u32 (u (rotr x 2))) ∧ ∃ n, w'' = w.drewN n := quietS (RefS.rightK x 2 2 (by omega) rfl _) rfl
theorem q13 (x : BitVec 32) (w : World) (n : Nat) : Calls Tryz.prog 125 #[.int .u32 (u x), .int .i64 13] (w.drewN n) fun e w'' => e = .returned (.int .u32 (u (rotr x 13))) ∧ ∃ n, w'' = w.drewN n := quietS (RefS.rightK x 13 13 (by omega) rfl _) rfl
theorem q22 (x : BitVec 32) (w : World) (n : Nat) : Calls Tryz.prog 125 #[.int .u32 (u x), .int .i64 22] (w.drewN n) fun e w'' => e = .returned (.int .u32 (u (rotr x 22))) ∧ ∃ n, w'' = w.drewN n := quietS (RefS.rightK x 22 22 (by omega) rfl _) rfl
theorem qt (a b c : BitVec 32) (w : World) (n : Nat) : Calls Tryz.prog 124 #[.int .u32 (u a), .int .u32 (u b), .int .u32 (u c)] (w.drewN n) fun e w'' => e = .returned (.int .u32 (u (a ^^^ b ^^^ c))) ∧ ∃ n, w'' = w.drewN n := quietS (RefS.twist a b c _) rfl
theorem qp (a b c : BitVec 32) (w : World) (n : Nat) : Calls Tryz.prog 126 #[.int .u32 (u a), .int .u32 (u b), .int .u32 (u c)] (w.drewN n) fun e w'' => e = .returned (.int .u32 (u (pickW a b c))) ∧ ∃ n, w'' = w.drewN n := quietS (refpick a b c _) rfl
theorem ref6 (z t p k w s m : BitVec 32) : (u z + u t + u p + u k + u w + (u s + u m)) % 4294967296 = u (z + t + p + (k + w) + (s + m)) := by
 unfold u
 simp only [BitVec.toNat_add]
 omega
theorem ref5 (d z t p k w : BitVec 32) : (u d + (u z + u t + u p + u k + u w)) % 4294967296 = u (d + (z + t + p + (k + w))) := by
 unfold u
 simp only [BitVec.toNat_add]
 omega
set_option maxHeartbeats 1000000 in
set_option maxRecDepth 100000 in
theorem block_v (h v : H8) (b off cap : Nat) (f : Nat → Int) (hf : ∀ i, B (f i)) (w : World) (hc : ∀ i, i < 64 → w.cell? ⟨b, off + i, none⟩ = some (.int .u8 (f i))) (hv : Hid (rnds h (inW (wordsOf f)) 64 = v)) :
   Calls Tryz.prog 100 #[.agg h.vals, .slice (some ⟨b, off, none⟩) 64 cap] w fun e w' => e = .returned (.tuple #[.agg (h.add v).vals, .bool true]) ∧ Below w.heap.size w w' := by
 have hb : b < w.heap.size := block_lt_of_cell (hc 0 (by omega))
 have HC := RotF.aside hc
 have HF := RotF.aside hf
 clear hc hf
 go_enter Tryz.func100, Tryz.ntmps100
 go_wp2_with fail
 refine (constants _).mono ?_
 rintro e w1 ⟨rfl, h1⟩
 have A2 := (At.old2 w h.vals 135 _).below h1 (by simp; omega)
 have A4 := (At.new2 w z8.vals 135 _).below h1 (by simp)
 have kb : Below w.heap.size w w1 := Below.trans (by go_grown) (h1.mono (by simp; omega))
 clear h1
 go_wp2_with (refine wpList_store_last rfl 153 _ _ rfl _ _ _ 153 rfl _ rfl ?c1 rfl ?c2 ?c3 ?c4 ?_; (case c1 => simp); (case c2 => rw [kcells_size]; exact info64); (case c3 => rw [kcells_size]; rfl); (case c4 => exact kcells_one))
 have hs := kb.size
 refine (words b off cap f HF.out _ (fun i hi => (Below.cell (kb.alloc hs _) hb).trans (HC.out i hi))).mono ?_
 rintro e w2 ⟨rfl, h2⟩
 have B2 := (A2.alloc _).below h2 (A2.alloc _).lt
 have B4 := (A4.alloc _).below h2 (A4.alloc _).lt
 have B6 := (At.new w1 kcells 153).below h2 (At.new _ _ _).lt
 have kc2 : Below w.heap.size w w2 := (kb.alloc hs _).trans (h2.mono (by simp; omega))
 have l4 := A4.lt
 have l6 := B6.lt
 clear h2 A2 A4 kb
 go_wp2_with (first | (refine wpList_store_last rfl 153 _ _ rfl _ _ _ 153 rfl _ rfl ?c1 rfl ?c2 ?c3 ?c4 ?_; (case c1 => simp); (case c2 => rw [sp_size]; exact info64); (case c3 => rw [sp_size]; rfl); (case c4 => exact sp_one _ _)) | (refine wpList_load_at rfl 135 _ rfl _ rfl h.vals _ ?c1 Tryz.underlying135 rfl ?c2 ?_; (case c1 => exact (B2.alloc _)); (case c2 => exact info8)) | (refine wpList_store_last rfl 135 _ _ rfl _ _ _ 135 rfl _ rfl ?c1 rfl ?c2 ?c3 ?c4 ?_; (case c1 => simp); (case c2 => exact info8); (case c3 => rfl); (case c4 => exact one8 _)))
 go_loopw [9] (fun i wr => ∃ k : Nat, k ≤ 64 ∧ i = .int .i64 k ∧ Inv w w1.heap.size w2.heap.size (w2.heap.size + 1) h (rnds h (inW (wordsOf f)) k) (wordsOf f) wr) (fun i _ => 64 - (intOf i).toNat)
 case atStart => exact ⟨0, Nat.zero_le _, rfl, (B2.alloc _).alloc _, (B4.alloc _).alloc _, (B6.alloc _).alloc _, At.old2 _ _ _ _, At.new2 _ _ _ _, (kc2.alloc kc2.size _).alloc (by have := kc2.size; simp; omega) _⟩
 case round =>
   clear B2 B4 B6 kc2
   obtain ⟨k, hk, rfl, I⟩ := hrel
   by_cases hlt : k < 64
   · obtain ⟨r, hr⟩ : ∃ r, rnds h (inW (wordsOf f)) k = r := ⟨_, rfl⟩
     rw [hr] at I
     have HR := RotF.aside hr
     clear hr
     have c4 : wr.cell? ⟨w2.heap.size + 1, 4, none⟩ = some (.int .u32 (u r.e)) := I.a8.cell 4
     go_wp2
     go_quiet ((first | (go_at_call 125; with_reducible exact q6 _ _ _) | (go_at_call 125; with_reducible exact q11 _ _ _) | (go_at_call 125; with_reducible exact q25 _ _ _) | (go_at_call 124; with_reducible exact qt _ _ _ _ _) | (go_at_call 126; with_reducible exact qp _ _ _ _ _)))
     obtain ⟨W1, hW1, I1⟩ := I.named nq
     rw [hW1]
     clear c4 hW1 I
     have c0 : W1.cell? ⟨w2.heap.size + 1, 0, none⟩ = some (.int .u32 (u r.a)) := I1.a8.cell 0
     go_wp2
     go_quiet ((first | (go_at_call 125; with_reducible exact q2 _ _ _) | (go_at_call 125; with_reducible exact q13 _ _ _) | (go_at_call 125; with_reducible exact q22 _ _ _) | (go_at_call 124; with_reducible exact qt _ _ _ _ _) | (go_at_call 126; with_reducible exact qp _ _ _ _ _)))
     obtain ⟨W2, hW2, I2⟩ := I1.named nq
     rw [hW2]
     clear c0 hW2 I1
     have c4 : W2.cell? ⟨w2.heap.size + 1, 4, none⟩ = some (.int .u32 (u r.e)) := I2.a8.cell 4
     have c5 : W2.cell? ⟨w2.heap.size + 1, 5, none⟩ = some (.int .u32 (u r.f)) := I2.a8.cell 5
     have c6 : W2.cell? ⟨w2.heap.size + 1, 6, none⟩ = some (.int .u32 (u r.g)) := I2.a8.cell 6
     have c7 : W2.cell? ⟨w2.heap.size + 1, 7, none⟩ = some (.int .u32 (u r.z)) := I2.a8.cell 7
     have cw := (I2.a7.cell k).trans (sp_old _ hlt (by omega))
     have cK := (I2.a6.cell k).trans (kcells_at hlt)
     go_wp2
     go_quiet ((first | (go_at_call 124; with_reducible exact qt _ _ _ _ _) | (go_at_call 126; with_reducible exact qp _ _ _ _ _)))
     obtain ⟨W3, hW3, I3⟩ := I2.named nq
     rw [hW3]
     clear c4 c5 c6 c7 cw cK hW3 I2
     have c0 : W3.cell? ⟨w2.heap.size + 1, 0, none⟩ = some (.int .u32 (u r.a)) := I3.a8.cell 0
     have c1 : W3.cell? ⟨w2.heap.size + 1, 1, none⟩ = some (.int .u32 (u r.b)) := I3.a8.cell 1
     have c2 : W3.cell? ⟨w2.heap.size + 1, 2, none⟩ = some (.int .u32 (u r.c)) := I3.a8.cell 2
     have c3 : W3.cell? ⟨w2.heap.size + 1, 3, none⟩ = some (.int .u32 (u r.d)) := I3.a8.cell 3
     have c4 : W3.cell? ⟨w2.heap.size + 1, 4, none⟩ = some (.int .u32 (u r.e)) := I3.a8.cell 4
     have c5 : W3.cell? ⟨w2.heap.size + 1, 5, none⟩ = some (.int .u32 (u r.f)) := I3.a8.cell 5
     have c6 : W3.cell? ⟨w2.heap.size + 1, 6, none⟩ = some (.int .u32 (u r.g)) := I3.a8.cell 6
     go_wp2_with fail
     refine (refmost r.a r.b r.c _).mono ?_
     rintro e w' ⟨rfl, rfl⟩
     go_wp2_with (refine wpList_store_at rfl 135 _ _ rfl _ (rnd r (inW (wordsOf f) k)).vals rfl ?c5 _ I3.a8 ?c2 ?c3 ?c4 ?_; (case c2 => exact info8); (case c3 => rfl); (case c4 => exact one8 _); (case c5 => show Value.agg #[_, _, _, _, _, _, _, _] = _; rw [ref6, ref5]; rfl))
     go_roundw
     case rel =>
       refine ⟨k + 1, by omega, by go_num, I3.a2.row_other (by omega) _, I3.a4.row_other (by omega) _, I3.a6.row_other (by omega) _, I3.a7.row_other (by omega) _, ?_, below_row I3.kb (by omega) _⟩
       have q := I3.a8.row (rnd r (inW (wordsOf f) k)).vals
       have e : rnds h (inW (wordsOf f)) (k + 1) = rnd r (inW (wordsOf f) k) := by rw [← HR.out]; rfl
       rw [e]
       exact q
     case measure => simp [intOf]; omega
   · have A2 := I.a2
     have A4 := I.a4
     have A8 := I.a8
     have kb := I.kb
     have e64 : k = 64 := by omega
     rw [e64, hv.out] at A8
     clear e64 I
     have d64 : decide ((k : Int) < 64) = false := by simp; omega
     go_wp2
     go_loopw [14] (fun i wr => ∃ k : Nat, k ≤ 8 ∧ i = .int .i64 k ∧ At wr w.heap.size (h.part v k).vals ∧ At wr (w.heap.size + 1) z8.vals ∧ At wr (w2.heap.size + 1) v.vals ∧ Below w.heap.size w wr) (fun i _ => 8 - (intOf i).toNat)
     case atStart => exact ⟨0, Nat.zero_le _, rfl, by rw [H8.part_none]; exact A2, A4, A8, kb⟩
     case round =>
       clear A2 A4 A8 kb hlt hk
       obtain ⟨i, hi, rfl, A2, A4, A7, kb⟩ := hrel
       by_cases hlt : i < 8
       · have c2 := (A2.cell i).trans (H8.vals_at _ hlt)
         rw [H8.part_w _ _ hlt] at c2
         have z2 := A2.frozen i
         have c7 := (A7.cell i).trans (H8.vals_at _ hlt)
         go_wp2
         go_region
         go_wp2
         go_roundw
         case rel =>
           have q := A2.set i (.int .u32 (u (h.w i + v.w i)))
           rw [H8.part_set _ _ hlt, ← add_u] at q
           exact ⟨i + 1, by omega, by go_num, At.drew q, At.drew (A4.set_other (by simp) _), At.drew (A7.set_other (by simp; omega) _), below_drew1 (kb.setCell (by simp) _)⟩
         case measure => simp [intOf]; omega
       · have e8 : i = 8 := by omega
         rw [e8, H8.part_all] at A2
         clear e8
         go_wp2_with (first | (refine wpList_load_at rfl 135 _ rfl _ rfl _ _ A2 Tryz.underlying135 rfl ?c2 ?_; (case c2 => exact info8)) | (refine wpList_store_at rfl 135 _ _ rfl _ _ rfl rfl _ A4 ?c2 ?c3 ?c4 ?_; (case c2 => exact info8); (case c3 => rfl); (case c4 => exact one8 _)))
         exact bodyPost_ret (v := .tuple #[.agg (h.add v).vals, .bool true]) (results_at_tmp Tryz.results100 _ _ (w.heap.size + 1) _ _ _ rfl rfl (A4.row _) Tryz.underlying135 rfl info8) rfl ⟨rfl, below_row kb (by omega) _⟩
theorem block_yes (h : H8) (b off cap : Nat) (f : Nat → Int) (hf : ∀ i, B (f i)) (w : World) (hc : ∀ i, i < 64 → w.cell? ⟨b, off + i, none⟩ = some (.int .u8 (f i))) :
   Calls Tryz.prog 100 #[.agg h.vals, .slice (some ⟨b, off, none⟩) 64 cap] w fun e w' => e = .returned (.tuple #[.agg (blockS h (wordsOf f)).vals, .bool true]) ∧ Below w.heap.size w w' :=
 block_v h _ b off cap f hf w hc (RotF.aside rfl)
end Go.Proofs.YtgoapaanmcmlmaaGreatDoor.RefU
namespace Go.Proofs.YtgoapaanmcmlmaaGreatDoor.RefV
set_option maxRecDepth 100000
open Go.RowKit RotM RotN RotC RotD RotG Small PadM ShaF
theorem grown_of_below {w w' : World} (hb : Below w.heap.size w w') (row : Option Nat) : w.grownBy w' row := ⟨hb.os, hb.tape, hb.output, hb.size, fun i hi _ => hb.block i hi⟩
theorem owns_below {w w' : World} {base : Nat} {e : TypeId} {size : Nat} {v : Value} {n : Nat} {xs : List Value} (h : w.ownsRow base e size v n xs) (hb : Below w.heap.size w w') : w'.ownsRow base e size v n xs :=
 h.kept (grown_of_below hb none) (by cases hv : v.ownBlock <;> simp)
theorem below_grown {B : Nat} {w0 w w' : World} {row : Option Nat} (hb : Below B w0 w) (hB : B ≤ w.heap.size) (hg : w.grownBy w' row) (hr : ∀ k, row = some k → B ≤ k) : Below B w0 w' :=
 hb.trans ⟨hg.os, hg.tape, hg.output, hg.size, fun k hk => hg.block k (by omega) (fun e => by have := hr k e.symm; omega)⟩
theorem owns_out {w : World} {base n : Nat} {e : TypeId} {v : Value} {xs : List Value} (h : w.ownsRow base e 1 v n xs) (hn : 0 < n) : ∃ g cap, v = .slice (some ⟨g, 0, none⟩) n cap ∧ base ≤ g ∧ n ≤ cap ∧ cap ≤ maxLen ∧ g < w.heap.size := by
 have hlt := h.lt
 rcases h.2 with ⟨_, h0⟩ | ⟨g, cap, cur, rfl, hb, hg, h1, h2, _⟩
 · omega
 · exact ⟨g, cap, rfl, hb, h1, h2, (hlt g rfl).2⟩
theorem src_at_of {w : World} {x : Addr} {len cap : Nat} {zs : List Int} (hc : ∀ i, i < zs.length → w.cell? (x.add i) = some (.int .u8 (zs.getD i 0))) (_h1 : len ≤ cap) (_h3 : len ≤ zs.length ∧ zs.length ≤ cap) (j : Nat) (v : Value) (hv : (bv (zs.take len))[j]? = some v) : w.cell? (x.add j) = some v := by
 have hj : j < (zs.take len).length := by
   have := (List.getElem?_eq_some_iff.1 hv).1
   simpa [bv] using this
 have hj2 : j < len ∧ j < zs.length := by simp at hj; omega
 rw [bv_at _ hj] at hv
 rw [hc j hj2.2, ← hv]
 congr 2
 rw [List.getD_eq_getElem?_getD, List.getD_eq_getElem?_getD, List.getElem?_take, if_pos hj2.1]
theorem wpList_append_in {P : Program} {w : World} {ops : Array Oper} {rest : List Oper} {o : Oper} {a : Act} {Q : Exit → Act → World → Prop} (hgd : o.guard = none) (s x : Operand) (t : TypeId)
   (ho : o.op = .call { callee := .builtin .append, args := #[s, x], argTypes := #[t, t] })
   (base : Nat) (e : TypeId) (ht : P.underlying t = some (.slice e)) (hz : (P.info? e).map (fun i => (i.zero, i.size, i.bytes)) = some (some (.int .u8 0), 1, 1))
   (v : Value) (n : Nat) (xs : List Value) (hs : a.eval s = v) (hown : w.ownsRow base e 1 v n xs)
   (A : Option Addr) (m c : Nat) (zs : List Int) (hx : a.eval x = .slice A m c) (hr : RowIn.RowL .u8 w A m c zs)
   (h63 : n + m ≤ 1099511627900) (hbase : base ≤ w.heap.size)
   (h : ∀ v' w', w'.ownsRow base e 1 v' (n + m) (xs ++ bv (zs.take m)) → w.grownBy w' v.ownBlock → wpList P ops Q rest (a.put o.dst v') w') : wpList P ops Q (o :: rest) a w := by
 obtain ⟨i, hi, z0, z1, z2⟩ := info_parts hz
 obtain ⟨h1, h2, h3, h4, h5⟩ := hr
 rcases h5 with ⟨rfl, rfl, rfl⟩ | ⟨ad, rfl, hc⟩
 · refine wpList_append_own_none hgd s x t ho base e i 1 ht hi v n xs hs hown hx (h v w ?_ (grown_of_below (Below.refl _ _) _))
   simpa [bv] using hown
 · refine wpList_append_own w hgd s x t ho base e i (.int .u8 0) 1 1 ht hi z0 z1 z2 rfl (by decide) v n xs hs hown ad m c (bv (zs.take m)) hx (by rw [bv_length]; simp; omega) (src_at_of hc h1 h3) (bv_one _) (by unfold maxLen; omega) (by omega) hbase (fun v' w' a1 a2 _ => h v' w' a1 a2)
theorem wpList_append_at {P : Program} {w : World} {ops : Array Oper} {rest : List Oper} {o : Oper} {a : Act} {Q : Exit → Act → World → Prop} (hgd : o.guard = none) (s x : Operand) (t : TypeId)
   (ho : o.op = .call { callee := .builtin .append, args := #[s, x], argTypes := #[t, t] })
   (base : Nat) (e : TypeId) (ht : P.underlying t = some (.slice e)) (hz : (P.info? e).map (fun i => (i.zero, i.size, i.bytes)) = some (some (.int .u8 0), 1, 1))
   (v : Value) (n : Nat) (xs : List Value) (hs : a.eval s = v) (hown : w.ownsRow base e 1 v n xs)
   (g m c : Nat) (ls : List Int) (hx : a.eval x = .slice (some ⟨g, 0, none⟩) m c) (hm : ls.length = m) (hA : At w g (bv ls).toArray)
   (h63 : n + m ≤ 1099511627900) (hbase : base ≤ w.heap.size)
   (h : ∀ v' w', w'.ownsRow base e 1 v' (n + m) (xs ++ bv ls) → w.grownBy w' v.ownBlock → wpList P ops Q rest (a.put o.dst v') w') : wpList P ops Q (o :: rest) a w := by
 obtain ⟨i, hi, z0, z1, z2⟩ := info_parts hz
 refine wpList_append_own w hgd s x t ho base e i (.int .u8 0) 1 1 ht hi z0 z1 z2 rfl (by decide) v n xs hs hown ⟨g, 0, none⟩ m c (bv ls) hx (by rw [bv_length]; omega) (fun j u hu => ?_) (bv_one _) (by unfold maxLen; omega) (by omega) hbase (fun v' w' a1 a2 _ => h v' w' a1 a2)
 have hadd : (⟨g, 0, none⟩ : Addr).add j = ⟨g, j, none⟩ := by unfold Addr.add; split <;> simp_all
 rw [hadd, hA.cell j, ← hu]
 simp
def RowOut (l : List Int) (w : World) (e : Ending) (w' : World) : Prop :=
 ∃ g cap, e = .returned (.slice (some ⟨g, 0, none⟩) l.length cap) ∧ l.length ≤ cap ∧ cap ≤ maxLen ∧ w.heap.size ≤ g ∧ (∀ i, i < l.length → w'.cell? ⟨g, i, none⟩ = some (.int .u8 (l.getD i 0))) ∧ Below w.heap.size w w'
def lenV : Value → Nat
 | .slice _ n _ => n
 | _ => 0
set_option maxHeartbeats 1000000 in
theorem padW {w : World} {A : Option Addr} {len cap : Nat} {zs : List Int} (hr : RowIn.RowL .u8 w A len cap zs) (hl : len ≤ 1099511627776) :
   Calls Tryz.prog 98 #[.slice A len cap] w (RowOut (padL (zs.take len)) w) := by
 obtain ⟨bs, hbs⟩ : ∃ bs, zs.take len = bs := ⟨_, rfl⟩
 have hlen : bs.length = len := by
   have h1 := hr.1
   have h3 := hr.2.2.1
   rw [← hbs]; simp; omega
 rw [hbs]
 have HR := RotF.aside hr
 have HB := RotF.aside hbs
 have HL := RotF.aside hlen
 clear hr hbs hlen
 have hn1 := nPad_lo len
 have hn2 := nPad_hi len
 have hn3 := nPad_mod len
 go_enter Tryz.func98, Tryz.ntmps98
 go_wp2_with (first
   | (refine wpList_append_in rfl (.const (.slice none 0 0)) (.tmp 5) 22 rfl w.heap.size 5 Tryz.underlying22 zero_u8 (.slice none 0 0) 0 [] rfl (World.ownsRow_nil _ _ _ _) A len cap zs rfl HR.out (by omega) (Nat.le_refl _) ?_; intro v1 w1 hown1 hg1; rw [HB.out, Nat.zero_add, List.nil_append] at hown1; have hb1 : Below w.heap.size w w1 := below_grown (Below.refl _ _) (Nat.le_refl _) hg1 (fun k hk => by cases hk); have HO1 := RotF.aside hown1; clear hown1 hg1)
   | (refine wpList_append_at rfl (.tmp 7) (.tmp 8) 22 rfl w.heap.size 5 Tryz.underlying22 zero_u8 v1 len (bv bs) rfl (HO1.out.alloc _) w1.heap.size 1 1 [128] rfl rfl (At.new _ _ _) (by omega) (by have := hb1.size; simp; omega) ?_; intro v2 w2 hown2 hg2; rw [← bv_append] at hown2; have hb2 : Below w.heap.size w w2 := below_grown (hb1.alloc hb1.size _) (by have := hb1.size; simp; omega) hg2 (fun k hk => (HO1.out.lt k hk).1); have HO2 := RotF.aside hown2; clear hown2 hg2 HO1 hb1))
 obtain ⟨g2, c2, rfl, q1, q2, q3, q4⟩ := owns_out HO2.out (by omega)
 go_loopw [3] (fun v wr => ∃ g c K : Nat, v = .slice (some ⟨g, 0, none⟩) K c ∧ len + 1 ≤ K ∧ K + 8 ≤ nPad len ∧ Hid (wr.ownsRow w.heap.size 5 1 (.slice (some ⟨g, 0, none⟩) K c) K (bv (bs ++ (128 :: List.replicate (K - len - 1) 0)))) ∧ Below w.heap.size w wr) (fun v _ => nPad len - lenV v)
 case atStart => exact ⟨g2, c2, len + 1, rfl, Nat.le_refl _, by omega, by simpa using HO2, hb2⟩
 case round =>
   clear q1 q2 q3 q4 HO2 hb2
   obtain ⟨g, c, K, rfl, hK1, hK2, HO, hb⟩ := hrel
   by_cases hlt : K + 8 < nPad len
   · have t1 : ((K : Int) % 64 != 56) = true := by simp; omega
     have t2 : ((K : Int).tmod 64 != 56) = true := by rw [Int.tmod_eq_emod_of_nonneg (by omega)]; simp; omega
     go_wp2_with (refine wpList_append_at rfl (.tmp 14) (.tmp 15) 22 rfl w.heap.size 5 Tryz.underlying22 zero_u8 _ K _ rfl (HO.out.alloc _) wr.heap.size 1 1 [0] rfl rfl (At.new _ _ _) (by omega) (by have := hb.size; simp; omega) ?_; intro v3 w3 hown3 hg3; rw [← bv_append] at hown3; have hb3 : Below w.heap.size w w3 := below_grown (hb.alloc hb.size _) (by have := hb.size; simp; omega) hg3 (fun k hk => (HO.out.lt k hk).1); have HO3 := RotF.aside hown3; clear hown3 hg3)
     obtain ⟨g3, c3, rfl, q1, q2, q3, q4⟩ := owns_out HO3.out (by omega)
     go_roundw
     case rel =>
       refine ⟨g3, c3, K + 1, rfl, by omega, by omega, ?_, hb3⟩
       have e : bs ++ (128 :: List.replicate (K - len - 1) 0) ++ [0] = bs ++ (128 :: List.replicate (K + 1 - len - 1) (0 : Int)) := by
         rw [show K + 1 - len - 1 = (K - len - 1) + 1 by omega, List.replicate_succ']
         simp
       rw [← e]
       exact HO3
     case measure => simp [lenV]; omega
   · have t1 : ((K : Int) % 64 != 56) = false := by simp; omega
     have t2 : ((K : Int).tmod 64 != 56) = false := by rw [Int.tmod_eq_emod_of_nonneg (by omega)]; simp; omega
     have hKe : K = nPad len - 8 := by omega
     have HKe := RotF.aside hKe
     clear hKe
     go_wp2_with fail
     clear t1 t2
     obtain ⟨x0, x1, x2, x3, x4, x5, x6, x7, hx, hx8⟩ : ∃ x0 x1 x2 x3 x4 x5 x6 x7 : Int, longV (8 * (len : Int)) = #[.int .u8 x0, .int .u8 x1, .int .u8 x2, .int .u8 x3, .int .u8 x4, .int .u8 x5, .int .u8 x6, .int .u8 x7] ∧ long8 (8 * (len : Int)) = [x0, x1, x2, x3, x4, x5, x6, x7] := ⟨_, _, _, _, _, _, _, _, rfl, rfl⟩
     have hq := reflong (8 * (len : Int)) (by omega) wr
     rw [hx] at hq
     have HX8 := RotF.aside hx8
     clear hx hx8
     refine hq.mono ?_
     clear hq
     rintro e w3 ⟨rfl, h3⟩
     have HO3 := RotF.aside (owns_below HO.out h3)
     have hb3 := hb.trans (h3.mono hb.size)
     have hs3 := hb3.size
     clear HO hb h3
     go_wp2_with (refine wpList_append_at rfl (.tmp 22) (.tmp 39) 22 rfl w.heap.size 5 Tryz.underlying22 zero_u8 _ K _ rfl ((HO3.out.alloc _).alloc _) (w3.heap.size + 1) 8 8 [x0, x1, x2, x3, x4, x5, x6, x7] rfl rfl (At.new2 _ _ _ _) (by omega) (by simp; omega) ?_; intro v4 w4 hown4 hg4; rw [← bv_append] at hown4; have hb4 : Below w.heap.size w w4 := below_grown ((hb3.alloc hs3 _).alloc (by simp; omega) _) (by simp; omega) hg4 (fun k hk => (HO3.out.lt k hk).1); have HO4 := RotF.aside hown4; clear hown4 hg4)
     obtain ⟨g4, c4, rfl, q1, q2, q3, q4⟩ := owns_out HO4.out (by omega)
     have hown := HO4.out
     have eP : bs ++ (128 :: List.replicate (K - len - 1) 0) ++ [x0, x1, x2, x3, x4, x5, x6, x7] = padL bs := by
       unfold padL
       rw [HL.out, HX8.out, show K - len - 1 = nPad len - len - 9 by have := HKe.out; omega]
       simp
     rw [eP] at hown
     have hPl := padL_length bs
     rw [HL.out] at hPl
     have hK8 : K + 8 = (padL bs).length := by have := HKe.out; omega
     rw [hK8] at hown q2 ⊢
     go_ret
     refine ⟨g4, c4, rfl, q2, q3, q1, fun i hi => ?_, hb4⟩
     rw [hown.cellAt i (by omega), bv_at _ hi]
end Go.Proofs.YtgoapaanmcmlmaaGreatDoor.RefV
namespace Go.Proofs.YtgoapaanmcmlmaaGreatDoor.RotG
set_option maxRecDepth 100000
open Go.RowKit RotM RotC RotD RotN
end Go.Proofs.YtgoapaanmcmlmaaGreatDoor.RotG
