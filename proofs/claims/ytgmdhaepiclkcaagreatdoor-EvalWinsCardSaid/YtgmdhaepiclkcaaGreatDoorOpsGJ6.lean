/- What ops.gets and its functions, and ops.Get, return: contracts. | What ops.Get returns: contracts. | The project's reader of package commit: in memory, and what its num, id and op return, or panic with: contracts. | What the project's place, merge, event, May, Merge and Same of package commit return: contracts. | What the project's reader of package commit returns, or panics with, as it takes a commit: a contract. | What sha.Block returns: contracts. -/
import Derived.Test.YtgmdhaepiclkcaaGreatDoorCmRJ6
import Derived.Test.YtgmdhaepiclkcaaGreatDoorGrowJ5
import Derived.Test.YtgmdhaepiclkcaaGreatDoorBytJ7
import Derived.WalkLawsBesides
import Derived.Laws.CopyRow
import Derived.Test.YtgmdhaepiclkcaaGreatDoorOpsCJ2
import Derived.Test.YtgmdhaepiclkcaaGreatDoorSmallJ8
import Derived.BigRegion
namespace Go.Proofs.YtgmdhaepiclkcaaGreatDoor.OpsG
set_option maxRecDepth 100000
open Go Go.RowKit Go.Sort Byt OpsM OpsK OpsW OpsC EncM EncC EncG EncE
def GOut (q : Option (Opn × List Int)) (w : World) (e : Ending) (w' : World) : Prop :=
 Below w.heap.size w w' ∧ match q with
   | none => ∃ o A n c, e = .returned (.tuple #[.agg (opc o), .slice A n c, .bool false])
   | some (o, r) => ∃ A c, e = .returned (.tuple #[.agg (opc o), .slice A r.length c, .bool true]) ∧ Sl w' A c r
theorem GOut.some {w w' : World} {e : Ending} {o : Opn} {r : List Int} (A : Option Addr) (c : Nat) (h : e = .returned (.tuple #[.agg (opc o), .slice A r.length c, .bool true])) (hS : Sl w' A c r) (hb : Below w.heap.size w w') : GOut (some (o, r)) w e w' := ⟨hb, A, c, h, hS⟩
end Go.Proofs.YtgmdhaepiclkcaaGreatDoor.OpsG
namespace Go.Proofs.YtgmdhaepiclkcaaGreatDoor.OpsH
set_option maxRecDepth 100000
open Go Go.RowKit Go.Sort Byt OpsM OpsK OpsW OpsC EncM EncC EncG EncE OpsG
def GetOut (q : Option (Opn × List Int)) (w : World) (e : Ending) (w' : World) : Prop :=
 Below w.heap.size w w' ∧ match q with
   | none => e = .returned (.tuple #[.agg (opc noOp), .slice none 0 0, .int .i64 2])
   | some (o, r) => ∃ A c, e = .returned (.tuple #[.agg (opc o), .slice A r.length c, .int .i64 0]) ∧ Sl w' A c r
theorem GetOut.some {q : Option (Opn × List Int)} {w w' : World} {e : Ending} {o : Opn} {r : List Int} (hq : q = some (o, r)) (A : Option Addr) (c : Nat) (h : e = .returned (.tuple #[.agg (opc o), .slice A r.length c, .int .i64 0])) (hS : Sl w' A c r) (hb : Below w.heap.size w w') : GetOut q w e w' := by subst hq; exact ⟨hb, A, c, h, hS⟩
end Go.Proofs.YtgmdhaepiclkcaaGreatDoor.OpsH
namespace Go.Proofs.YtgmdhaepiclkcaaGreatDoor.CmE
set_option maxRecDepth 100000
open Go Go.Sort Go.RowKit Byt EncM EncC IdM IdW IdB OpsM OpsW CmM StW CmW CmD CmG
structure Pd where
 a : Option Addr
 k : Nat
 l : List Int
end Go.Proofs.YtgmdhaepiclkcaaGreatDoor.CmE
namespace Go.Proofs.YtgmdhaepiclkcaaGreatDoor.CmV
set_option maxRecDepth 100000
open Go Go.RowKit Byt IdM IdW OpsM OpsW CmM StW CmW
def Tells (b : Bool) (w : World) (e : Ending) (w' : World) : Prop := e = .returned (.bool b) ∧ Below w.heap.size w w'
set_option maxHeartbeats 4000000 in
theorem event_ret (n s : Int) (w : World) : Calls Tryz.prog 153 #[.agg #[.int .i64 n, .int .i64 s]] w (Tells (StM.eventB n s) w) := by
 have R : Cel.Box EE (w.alloc (.cells (ec ⟨n, s⟩) 43)) w.heap.size (⟨n, s⟩ : Ev) := Cel.Box.new w (⟨n, s⟩ : Ev) _
 have kb := StW.below_alloc w (.cells (ec ⟨n, s⟩) 43)
 obtain ⟨c0, c1⟩ := ev_cells R
 clear R
 obtain ⟨r, hr⟩ : ∃ r, StM.eventB n s = r := ⟨_, rfl⟩
 have hn : r = StM.eventB n s := hr.symm
 rw [hr]
 unfold StM.eventB at hn
 clear hr
 have HN := aside hn
 clear hn
 have hw : ¬ 0 ≤ n ∨ (0 ≤ n ∧ (¬ n < 8 ∨ (n < 8 ∧ (¬ 1 ≤ s ∨ (1 ≤ s ∧ (¬ s ≤ 1048576 ∨ s ≤ 1048576)))))) := by omega
 rcases hw with p2 | ⟨p2, p3 | ⟨p3, p4 | ⟨p4, p5 | p5⟩⟩⟩
 all_goals
   go_enter Tryz.func153, Tryz.ntmps153
   go_wp2
   go_ret
   exact ⟨StW.ret_bool (by rw [HN.out]; simp; omega), kb⟩
set_option maxRecDepth 100000 in
set_option maxHeartbeats 8000000 in
theorem merge_in (v : Cv) (w : World) : Calls Tryz.prog 123 #[.agg (cc v)] w (Tells (mergeB v.c) w) := by
 have R : Cel.Box CE (w.alloc (.cells (cc v) 47)) w.heap.size v := Cel.Box.new w v _
 have kb := StW.below_alloc w (.cells (cc v) 47)
 have qe := fun W => equal_ev 9998 W v.c.node v.c.seq (-1) 0
 have qo := fun W => equal_nought W v.c.op
 have d3 := cell_ps R
 obtain ⟨x, hx⟩ : ∃ x, sameE v.c.node v.c.seq (-1) 0 = x := ⟨_, rfl⟩
 obtain ⟨z, hz⟩ : ∃ z, noughtO v.c.op = z := ⟨_, rfl⟩
 obtain ⟨n, hn⟩ : ∃ n, v.c.ps.length = n := ⟨_, rfl⟩
 have HR : Hid (mergeB v.c = (x && (z && decide (2 ≤ (n : Int))))) := aside (by
   unfold mergeB
   rw [hz, hn, ← hx]
   unfold sameE
   rw [show decide (2 ≤ (n : Int)) = decide (2 ≤ n) by rw [Bool.eq_iff_iff]; simp; omega]
   simp only [Bool.and_assoc])
 rw [hx] at qe
 rw [hz] at qo
 rw [hn] at d3
 clear hx hz hn
 have hxz : x = false ∨ x = true ∧ z = false ∨ x = true ∧ z = true := by cases x <;> cases z <;> simp
 unfold Tells
 rcases hxz with rfl | ⟨rfl, rfl⟩ | ⟨rfl, rfl⟩
 all_goals
   go_enter Tryz.func123, Tryz.ntmps123
   go_wp2_with (first | go_skip | (refine gkev _ rfl _ rfl v R rfl ?_) | (refine gkop _ rfl _ rfl v R rfl ?_))
   go_ret
   exact ⟨StW.ret_bool (by rw [HR.out]; rfl), kb⟩
theorem line_is {c : Com} {n : Nat} {r x y : Bool} (hn : c.ps.length = n) (hr : risesB c.ps = r) (hx : (c.gen == 1) = x) (hy : ((n : Int) == 0) = y) :
   lineB c = (decide (1 ≤ c.gen) && (decide (c.gen ≤ 1048576) && (decide ((n : Int) ≤ 8) && (r && (x == y))))) := by
 subst hn hr hx hy
 unfold lineB
 rw [show decide ((c.ps.length : Int) ≤ 8) = decide (c.ps.length ≤ 8) by rw [Bool.eq_iff_iff]; simp; omega, show ((c.ps.length : Int) == 0) = decide (c.ps.length = 0) by rw [Bool.eq_iff_iff]; simp]
 rfl
set_option maxRecDepth 100000 in
set_option maxHeartbeats 8000000 in
theorem place_ret (v : Cv) (w : World) (S : In w v) : Calls Tryz.prog 135 #[.agg (cc v)] w (Tells (lineB v.c) w) := by
 have R : Cel.Box CE (w.alloc (.cells (cc v) 47)) w.heap.size v := Cel.Box.new w v _
 have kb := StW.below_alloc w (.cells (cc v) 47)
 have S0 := S.below kb
 have q0 := fun W T => IdV.rises_ret v.a v.k v.c.ps W T
 obtain ⟨r, hr⟩ : ∃ r, risesB v.c.ps = r := ⟨_, rfl⟩
 obtain ⟨n, hn⟩ : ∃ n, v.c.ps.length = n := ⟨_, rfl⟩
 obtain ⟨x, hx⟩ : ∃ x, (v.c.gen == 1) = x := ⟨_, rfl⟩
 obtain ⟨y, hy⟩ : ∃ y, ((n : Int) == 0) = y := ⟨_, rfl⟩
 have HR := aside (line_is hn hr hx hy)
 have HN := aside hn
 have d1 := cell_gen R
 have d3 := cell_ps R
 rw [hn] at d3 q0
 rw [hr] at q0
 obtain ⟨g, hg⟩ : ∃ g, v.c.gen = g := ⟨_, rfl⟩
 have HG := aside hg
 rw [hg] at d1 hx HR
 clear hr S hn hg
 unfold Tells
 have hw : g < 1 ∨ (1 ≤ g ∧ (1048576 < g ∨ (g ≤ 1048576 ∧ (8 < (n : Int) ∨ (n : Int) ≤ 8)))) := by omega
 rcases hw with p | ⟨p1, p | ⟨p2, p | p⟩⟩
 case inr.inr.inr =>
   go_enter Tryz.func135, Tryz.ntmps135
   go_wp2_with (first | go_skip)
   refine (q0 _ S0).mono ?_
   rintro e w1 ⟨rfl, k1⟩
   have R1 := R.below k1
   have b1 := kb.trans (k1.mono kb.size)
   clear q0 d1 d3 R S0 k1 kb
   have d1 := cell_gen R1
   have d3 := cell_ps R1
   rw [HN.out] at d3
   rw [HG.out] at d1
   have hw : r = false ∨ r = true ∧ x = false ∧ y = false ∨ r = true ∧ x = false ∧ y = true ∨ r = true ∧ x = true ∧ y = false ∨ r = true ∧ x = true ∧ y = true := by cases r <;> cases x <;> cases y <;> simp
   rcases hw with rfl | ⟨rfl, rfl, rfl⟩ | ⟨rfl, rfl, rfl⟩ | ⟨rfl, rfl, rfl⟩ | ⟨rfl, rfl, rfl⟩
   all_goals
     go_wp2_with (first | go_skip)
     go_ret
     exact ⟨StW.ret_bool (by rw [HR.out]; simp; try omega), b1⟩
 all_goals
   go_enter Tryz.func135, Tryz.ntmps135
   go_wp2_with (first | go_skip)
   go_ret
   exact ⟨StW.ret_bool (by rw [HR.out]; simp; omega), kb⟩
set_option maxRecDepth 100000 in
set_option maxHeartbeats 8000000 in
theorem may_ret (v : Cv) (w : World) (S : In w v) (hf : Fit v.c) : Calls Tryz.prog 120 #[.agg (cc v)] w (Tells (mayK v.c) w) := by
 have R : Cel.Box CE (w.alloc (.cells (cc v) 47)) w.heap.size v := Cel.Box.new w v _
 have kb := StW.below_alloc w (.cells (cc v) 47)
 have S0 := S.below kb
 have q1 := fun W T => place_ret v W T
 have q2 := fun W => merge_in v W
 have q3 := fun W => event_ret v.c.node v.c.seq W
 have q4 := fun W => OpsC.may v.c.op W hf.op
 obtain ⟨z1, h1⟩ : ∃ z, lineB v.c = z := ⟨_, rfl⟩
 obtain ⟨z2, h2⟩ : ∃ z, mergeB v.c = z := ⟨_, rfl⟩
 obtain ⟨z3, h3⟩ : ∃ z, StM.eventB v.c.node v.c.seq = z := ⟨_, rfl⟩
 obtain ⟨z4, h4⟩ : ∃ z, mayO v.c.op = z := ⟨_, rfl⟩
 have HR : Hid (mayK v.c = (z1 && (z2 || (z3 && z4)))) := aside (by unfold mayK; rw [h1, h2, h3, h4])
 rw [h1] at q1
 rw [h2] at q2
 rw [h3] at q3
 rw [h4] at q4
 clear h1 h2 h3 h4 S hf
 unfold Tells at q1 q2 q3 ⊢
 go_enter Tryz.func120, Tryz.ntmps120
 go_wp2_with (first | go_skip | (refine gload _ rfl _ rfl v R rfl ?_))
 refine (q1 _ S0).mono ?_
 rintro e w1 ⟨rfl, k1⟩
 have R1 := R.below k1
 have b1 := kb.trans (k1.mono kb.size)
 clear q1 R S0 k1 kb
 cases z1 with
 | false =>
   go_wp2_with (first | go_skip)
   go_ret
   exact ⟨StW.ret_bool (by rw [HR.out]; rfl), b1⟩
 | true =>
   go_wp2_with (first | go_skip | (refine gload _ rfl _ rfl v R1 rfl ?_))
   refine (q2 _).mono ?_
   rintro e w2 ⟨rfl, k2⟩
   have R2 := R1.below k2
   have b2 := b1.trans (k2.mono b1.size)
   clear q2 R1 k2 b1
   cases z2 with
   | true =>
     go_wp2_with (first | go_skip)
     go_ret
     exact ⟨StW.ret_bool (by rw [HR.out]; rfl), b2⟩
   | false =>
     go_wp2_with (first | go_skip | (refine gkev _ rfl _ rfl v R2 rfl ?_))
     refine (q3 _).mono ?_
     rintro e w3 ⟨rfl, k3⟩
     have R3 := R2.below k3
     have b3 := b2.trans (k3.mono b2.size)
     clear q3 R2 k3 b2
     cases z3 with
     | false =>
       go_wp2_with (first | go_skip)
       go_ret
       exact ⟨StW.ret_bool (by rw [HR.out]; rfl), b3⟩
     | true =>
       go_wp2_with (first | go_skip | (refine gkop _ rfl _ rfl v R3 rfl ?_))
       refine (q4 _).mono ?_
       rintro e w4 ⟨rfl, k4⟩
       have b4 := b3.trans (k4.mono b3.size)
       go_wp2_with (first | go_skip)
       go_ret
       exact ⟨StW.ret_bool (by rw [HR.out]; rfl), b4⟩
set_option maxRecDepth 100000 in
set_option maxHeartbeats 8000000 in
theorem merge_ret (v : Cv) (w : World) (S : In w v) : Calls Tryz.prog 89 #[.agg (cc v)] w (Tells (isM v.c) w) := by
 have R : Cel.Box CE (w.alloc (.cells (cc v) 47)) w.heap.size v := Cel.Box.new w v _
 have kb := StW.below_alloc w (.cells (cc v) 47)
 have S0 := S.below kb
 have q1 := fun W T => place_ret v W T
 have q2 := fun W => merge_in v W
 have hm : isM v.c = (lineB v.c && mergeB v.c) := by rw [Bool.eq_iff_iff, isM_iff, Bool.and_eq_true]
 obtain ⟨z1, h1⟩ : ∃ z, lineB v.c = z := ⟨_, rfl⟩
 obtain ⟨z2, h2⟩ : ∃ z, mergeB v.c = z := ⟨_, rfl⟩
 rw [h1, h2] at hm
 have HR := aside hm
 rw [h1] at q1
 rw [h2] at q2
 clear h1 h2 S hm
 unfold Tells at q1 q2 ⊢
 go_enter Tryz.func89, Tryz.ntmps89
 go_wp2_with (first | go_skip | (refine gload _ rfl _ rfl v R rfl ?_))
 refine (q1 _ S0).mono ?_
 rintro e w1 ⟨rfl, k1⟩
 have R1 := R.below k1
 have b1 := kb.trans (k1.mono kb.size)
 clear q1 R S0 k1 kb
 cases z1 with
 | false =>
   go_wp2_with (first | go_skip)
   go_ret
   exact ⟨StW.ret_bool (by rw [HR.out]; rfl), b1⟩
 | true =>
   go_wp2_with (first | go_skip | (refine gload _ rfl _ rfl v R1 rfl ?_))
   refine (q2 _).mono ?_
   rintro e w2 ⟨rfl, k2⟩
   have b2 := b1.trans (k2.mono b1.size)
   go_wp2_with (first | go_skip)
   go_ret
   exact ⟨StW.ret_bool (by rw [HR.out]; rfl), b2⟩
end Go.Proofs.YtgmdhaepiclkcaaGreatDoor.CmV
namespace Go.Proofs.YtgmdhaepiclkcaaGreatDoor.CmF
set_option maxRecDepth 100000
open Go Go.Sort Go.RowKit Byt EncM EncC IdM IdW IdB OpsM OpsW CmM StW CmW CmD CmG CmQ CmE
theorem results_c {fn : Func} {p : Tmp} (h : fn.results = #[.cell p 47]) (tmps : Array Value) (w : World) (g : Nat) (v : Cv)
   (hp : tmps.getD p undef = .pointer (some ⟨g, 0, none⟩)) (hg : Cel.Box CE w g v) : (results fn tmps).run Tryz.prog w = .ok (.agg (cc v)) w := by
 obtain ⟨t, ht⟩ := hg
 have hp' : tmps[p]?.getD undef = .pointer (some ⟨g, 0, none⟩) := by simpa using hp
 have hl := run_loadVar_row w g t 47 (CE.enc v).toArray (0, 0) _ ht CE.under CE.row (CE.size' v)
 simp [results, h, hp', asAddr, hl]
 rfl
structure Inv (na nb ng : Int) (l4 : List Int) (k : Nat) (rd : Pd) (cv : Cv) : Prop where
 com : cv.c = ⟨na, nb, ng, cv.c.ps, noO⟩
 nil : (Value.slice cv.a cv.c.ps.length cv.k = .slice none 0 0) ∨ 0 < cv.c.ps.length
 ids : idsL k l4 = some (cv.c.ps, rd.l)
theorem Inv.length {na nb ng : Int} {l4 : List Int} {k : Nat} {rd : Pd} {cv : Cv} (h : Inv na nb ng l4 k rd cv) : cv.c.ps.length = k ∧ rd.l.length ≤ l4.length := by
 obtain ⟨l1, l2⟩ := idsL_len k h.ids
 exact ⟨l1, by omega⟩
end Go.Proofs.YtgmdhaepiclkcaaGreatDoor.CmF
namespace Go.Proofs.YtgmdhaepiclkcaaGreatDoor.ShaE
set_option maxRecDepth 100000
open Go.RowKit RotM RotN RotC RotD ShaM ShaC ShaD RotG Small
def KIn (w : World) : Prop := ∀ i, i < 64 → w.cell? ⟨0, i, none⟩ = some (.int .u32 (u (kc i)))
theorem KIn.lt {w : World} (h : KIn w) : 0 < w.heap.size := block_lt_of_cell (h 0 (by omega))
theorem KIn.below {w w' : World} (h : KIn w) (hb : Below w.heap.size w w') : KIn w' := fun i hi => (hb.cell h.lt).trans (h i hi)
theorem one8 (h : H8) : h.vals.all (·.oneCell') = true := by kernel_rfl
theorem info8 : (Tryz.prog.info? 162).map (·.size) = some 8 := by kernel_rfl
theorem info64 : (Tryz.prog.info? 191).map (·.size) = some 64 := by kernel_rfl
def z8 : H8 := ⟨0, 0, 0, 0, 0, 0, 0, 0⟩
theorem stepI (h : H8) (n : Int) (x : BitVec 32) (hn : n = u x) (w : World) :
   Calls Tryz.prog 158 #[.agg h.vals, .int .u32 n] w fun r w' => r = .returned (.agg (rnd h x).vals) ∧ Below w.heap.size w w' := by
 subst hn
 exact ShaC.step h x w
def inW (m : Nat → BitVec 32) (k : Nat) : BitVec 32 := kc k + wd m k
set_option maxHeartbeats 1000000 in
set_option maxRecDepth 100000 in
theorem block_v (h v : H8) (b off cap : Nat) (f : Nat → Int) (hf : ∀ i, B (f i)) (hcap : 64 ≤ cap) (w : World) (hc : ∀ i, i < 64 → w.cell? ⟨b, off + i, none⟩ = some (.int .u8 (f i))) (hK : KIn w) (hv : Hid (rnds h (inW (wordsOf f)) 64 = v)) :
   Calls Tryz.prog 127 #[.agg h.vals, .slice (some ⟨b, off, none⟩) 64 cap] w fun e w' => e = .returned (.tuple #[.agg (h.add v).vals, .bool true]) ∧ Below w.heap.size w w' := by
 have hb : b < w.heap.size := block_lt_of_cell (hc 0 (by omega))
 have HC := RotF.aside hc
 have HF := RotF.aside hf
 clear hc hf
 go_enter Tryz.func127, Tryz.ntmps127
 go_wp2_with fail
 refine (spread b off cap f HF.out hcap _ (fun i hi => (Below.cell (B := w.heap.size) (w := w) (by go_grown) hb).trans (HC.out i hi))).mono ?_
 rintro e w1 ⟨rfl, h1⟩
 have A2 := (At.old2 w h.vals 162 _).below h1 (by simp; omega)
 have A4 := (At.new2 w z8.vals 162 _).below h1 (by simp)
 have kb : Below w.heap.size w w1 := Below.trans (by go_grown) (h1.mono (by simp; omega))
 clear h1
 go_wp2_with (first | (refine wpList_store_last rfl 191 _ _ rfl _ _ _ 191 rfl _ rfl ?c1 rfl ?c2 ?c3 ?c4 ?_; (case c1 => simp); (case c2 => rw [sp_size]; exact info64); (case c3 => rw [sp_size]; rfl); (case c4 => exact sp_one _ _)) | (refine wpList_load_at rfl 162 _ rfl _ rfl h.vals _ ?c1 Tryz.underlying162 rfl ?c2 ?_; (case c1 => exact (A2.alloc _)); (case c2 => exact info8)) | (refine wpList_store_last rfl 162 _ _ rfl _ _ _ 162 rfl _ rfl ?c1 rfl ?c2 ?c3 ?c4 ?_; (case c1 => simp); (case c2 => exact info8); (case c3 => rfl); (case c4 => exact one8 _)))
 have hz := A4.lt
 have n2 : w.heap.size ≠ w1.heap.size := by omega
 go_loopw [17] (fun i wr => ∃ k : Nat, k ≤ 64 ∧ i = .int .i64 k ∧ At wr w.heap.size h.vals ∧ At wr (w.heap.size + 1) z8.vals ∧ At wr w1.heap.size (sp (wordsOf f) 64) ∧ At wr (w1.heap.size + 1) (rnds h (inW (wordsOf f)) k).vals ∧ Below w.heap.size w wr) (fun i _ => 64 - (intOf i).toNat)
 case atStart => exact ⟨0, Nat.zero_le _, rfl, (A2.alloc _).alloc _, (A4.alloc _).alloc _, At.old2 _ _ _ _, At.new2 _ _ _ _, (kb.alloc kb.size _).alloc (by have := kb.size; simp; omega) _⟩
 case round =>
   clear A2 A4 kb
   obtain ⟨k, hk, rfl, A2, A4, A6, A7, kb⟩ := hrel
   by_cases hlt : k < 64
   · go_wp2
     refine wp_region_still_tail 8 (by kernel_rfl) (by kernel_rfl) ?_
     simp only [List.take_succ_cons, List.take_zero, List.drop_succ_cons, List.drop_zero]
     obtain ⟨W, hW⟩ : ∃ W : World, W = wr.drew := ⟨_, rfl⟩
     change wpStill _ _ wr.drew (fun a' => wpList _ _ _ _ a' wr.drew) _ _
     rw [← hW]
     have C2 : At W w.heap.size h.vals := by rw [hW]; exact A2
     have C4 : At W (w.heap.size + 1) z8.vals := by rw [hW]; exact A4
     have C6 : At W w1.heap.size (sp (wordsOf f) 64) := by rw [hW]; exact A6
     have C7 : At W (w1.heap.size + 1) (rnds h (inW (wordsOf f)) k).vals := by rw [hW]; exact A7
     have kc' : Below w.heap.size w W := by rw [hW]; exact below_drew1 kb
     clear hW A2 A4 A6 A7 kb
     have cw := (C6.cell k).trans (sp_old _ hlt (by omega))
     have cK := (kc'.cell (p := ⟨0, k, none⟩) hK.lt).trans (hK k hlt)
     refine wpStill_load_at rfl 162 _ rfl _ rfl _ _ C7 Tryz.underlying162 rfl info8 ?_
     repeat still_step
     refine wpStill_nil ?_
     go_wp2_with fail
     refine (stepI _ _ (inW (wordsOf f) k) (by rw [add_u]; rfl) _).mono ?_
     rintro e w2 ⟨rfl, h2⟩
     have D2 := C2.below h2 C2.lt
     have D4 := C4.below h2 C4.lt
     have D6 := C6.below h2 C6.lt
     have D7 := C7.below h2 C7.lt
     have kd := kc'.trans (h2.mono kc'.size)
     clear C2 C4 C6 C7 kc' h2 cw cK
     go_wp2_with (refine wpList_store_at rfl 162 _ _ rfl _ _ rfl rfl _ D7 ?c2 ?c3 ?c4 ?_; (case c2 => exact info8); (case c3 => rfl); (case c4 => exact one8 _))
     go_roundw
     case rel => exact ⟨k + 1, by omega, by go_num, D2.row_other (by omega) _, D4.row_other (by omega) _, D6.row_other (by omega) _, D7.row _, below_row kd (by omega) _⟩
     case measure => simp [intOf]; omega
   · have e64 : k = 64 := by omega
     rw [e64, hv.out] at A7
     clear e64
     have d64 : decide ((k : Int) < 64) = false := by simp; omega
     go_wp2
     go_loopw [30] (fun i wr => ∃ k : Nat, k ≤ 8 ∧ i = .int .i64 k ∧ At wr w.heap.size (h.part v k).vals ∧ At wr (w.heap.size + 1) z8.vals ∧ At wr (w1.heap.size + 1) v.vals ∧ Below w.heap.size w wr) (fun i _ => 8 - (intOf i).toNat)
     case atStart => exact ⟨0, Nat.zero_le _, rfl, by rw [H8.part_none]; exact A2, A4, A7, kb⟩
     case round =>
       clear A2 A4 A6 A7 kb hlt hk
       obtain ⟨i, hi, rfl, A2, A4, A7, kb⟩ := hrel
       by_cases hlt : i < 8
       · have c2 := (A2.cell i).trans (H8.vals_at _ hlt)
         rw [H8.part_w _ _ hlt] at c2
         have z2 := A2.frozen i
         have c7 := (A7.cell i).trans (H8.vals_at _ hlt)
         go_wp2
         go_region
         go_wp2
         go_roundw
         case rel =>
           have q := A2.set i (.int .u32 (u (h.w i + v.w i)))
           rw [H8.part_set _ _ hlt, ← add_u] at q
           exact ⟨i + 1, by omega, by go_num, At.drew q, At.drew (A4.set_other (by simp) _), At.drew (A7.set_other (by simp; omega) _), below_drew1 (kb.setCell (by simp) _)⟩
         case measure => simp [intOf]; omega
       · have e8 : i = 8 := by omega
         rw [e8, H8.part_all] at A2
         clear e8
         go_wp2_with (first | (refine wpList_load_at rfl 162 _ rfl _ rfl _ _ A2 Tryz.underlying162 rfl ?c2 ?_; (case c2 => exact info8)) | (refine wpList_store_at rfl 162 _ _ rfl _ _ rfl rfl _ A4 ?c2 ?c3 ?c4 ?_; (case c2 => exact info8); (case c3 => rfl); (case c4 => exact one8 _)))
         exact bodyPost_ret (v := .tuple #[.agg (h.add v).vals, .bool true]) (results_at_tmp Tryz.results127 _ _ (w.heap.size + 1) _ _ _ rfl rfl (A4.row _) Tryz.underlying162 rfl info8) rfl ⟨rfl, below_row kb (by omega) _⟩
theorem block_yes (h : H8) (b off cap : Nat) (f : Nat → Int) (hf : ∀ i, B (f i)) (hcap : 64 ≤ cap) (w : World) (hc : ∀ i, i < 64 → w.cell? ⟨b, off + i, none⟩ = some (.int .u8 (f i))) (hK : KIn w) :
   Calls Tryz.prog 127 #[.agg h.vals, .slice (some ⟨b, off, none⟩) 64 cap] w fun e w' => e = .returned (.tuple #[.agg (blockS h (wordsOf f)).vals, .bool true]) ∧ Below w.heap.size w w' :=
 block_v h _ b off cap f hf hcap w hc hK (RotF.aside rfl)
end Go.Proofs.YtgmdhaepiclkcaaGreatDoor.ShaE
