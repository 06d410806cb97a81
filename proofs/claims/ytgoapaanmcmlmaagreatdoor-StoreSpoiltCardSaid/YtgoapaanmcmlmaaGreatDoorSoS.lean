/- StoreSpoilt's walk: where a byte of a record's mark is another one, the commits ahead of it are loaded, and it is not. No condition. -/
import Derived.Test.YtgoapaanmcmlmaaGreatDoorIdXJ10
import Derived.Test.YtgoapaanmcmlmaaGreatDoorIntSJ4
namespace Go.Proofs.YtgoapaanmcmlmaaGreatDoor.SoS
set_option maxRecDepth 100000
open Go Go.Sort Go.RowKit Byt IdM IdW OpsM OpsW CmM StW CmW CmX CmY CmA DgM DgW DgR DgG DgS DgJ DgH DgV DgF StoG StoM StoW StoF StoD StoA LogM LogD LogE LogW EncM IntS
open Classical
def intOf : Value → Int | .int _ q => q | _ => 0
theorem coms_take (l : List Cv) (k : Nat) : coms (l.take k) = (coms l).take k := List.map_take ..
theorem xor_nat (x y : Nat) (hx : x < 256) (hy : y < 256) : bits .xor .u8 (x : Int) (y : Int) = ((x ^^^ y : Nat) : Int) := by
 show IntKind.u8.wrap ((((BitVec.ofInt 8 (x : Int) ^^^ BitVec.ofInt 8 (y : Int)).toNat : Nat)) : Int) = _
 have h1 : x ^^^ y < 2 ^ 8 := Nat.xor_lt_two_pow (by omega) (by omega)
 have e1 : (BitVec.ofInt 8 (x : Int) ^^^ BitVec.ofInt 8 (y : Int)).toNat = x ^^^ y := by
   rw [BitVec.toNat_xor, BitVec.ofInt_natCast, BitVec.ofInt_natCast, BitVec.toNat_ofNat, BitVec.toNat_ofNat, Nat.mod_eq_of_lt (by omega), Nat.mod_eq_of_lt (by omega)]
 rw [e1, IntKind.wrap_u8]
 omega
theorem nat_of {x : Int} (h : Byt.B x) : ∃ n : Nat, x = n ∧ n < 256 := ⟨x.toNat, by unfold Byt.B at h; omega, by unfold Byt.B at h; omega⟩
theorem xor_B {x y : Int} (hx : Byt.B x) (hy : Byt.B y) : Byt.B (bits .xor .u8 x y) := by
 obtain ⟨n, rfl, h1⟩ := nat_of hx
 obtain ⟨k, rfl, h2⟩ := nat_of hy
 rw [xor_nat n k h1 h2]
 have : n ^^^ k < 2 ^ 8 := Nat.xor_lt_two_pow (by omega) (by omega)
 unfold Byt.B
 omega
theorem xor_ne {x y : Int} (hx : Byt.B x) (hy : Byt.B y) (h : y ≠ 0) : bits .xor .u8 x y ≠ x := by
 obtain ⟨n, rfl, h1⟩ := nat_of hx
 obtain ⟨k, rfl, h2⟩ := nat_of hy
 rw [xor_nat n k h1 h2]
 intro e
 have e2 : n ^^^ k = n := by omega
 have e3 := congrArg (fun z => n ^^^ z) e2
 simp only [← Nat.xor_assoc, Nat.xor_self, Nat.zero_xor] at e3
 omega
theorem grown_cell (w : World) {p : Addr} (v : Value) {g : Nat} (h : p.block = g) : w.grownBy (w.setCell p v) (some g) := by
 subst h
 refine ⟨rfl, rfl, rfl, by simp, fun i hi hne => ?_⟩
 exact heap_setCell_other w p i v (fun e => hne (by rw [e]))
theorem sl_own {w : World} {base n : Nat} {A : Option Addr} {cap : Nat} {l : List Int} (h : w.ownsRow base 5 1 (.slice A n cap) l.length (Byt.bv l)) (hb : ∀ x ∈ l, Byt.B x) : Sl w A cap l := by
 obtain ⟨A', cap', e, S⟩ := Sl.own h hb
 cases e
 exact S
theorem sl_ints {w : World} {base k n : Nat} {A : Option Addr} {cap : Nat} {l : List Int} (h : w.ownsRow base 3 1 (.slice A n cap) k (iv l)) : SlN w A cap l := by
 obtain ⟨A', cap', e, S⟩ := SlN.own h
 cases e
 exact S
theorem own_store {w : World} {base n : Nat} {A : Option Addr} {cap : Nat} {l : List Int} {m : Nat} {x : Int} (h : w.ownsRow base 5 1 (.slice A n cap) l.length (Byt.bv l)) (hx : l[m]? = some x) :
   ∃ g, A = some ⟨g, 0, none⟩ ∧ base ≤ g ∧ w.cell? ⟨g, m, none⟩ = some (.int .u8 x) ∧ w.frozen? ⟨g, m, none⟩ = false ∧ ∀ y, (w.setCell ⟨g, m, none⟩ (.int .u8 y)).ownsRow base 5 1 (.slice A n cap) l.length (Byt.bv (l.set m y)) := by
 obtain ⟨hm, ex⟩ := List.getElem?_eq_some_iff.1 hx
 rcases h.2 with ⟨e, h0⟩ | ⟨g, cap', cur, e, hbg, hg, h1, h2, h3, h4⟩
 · omega
 · cases e
   have hc : w.cell? ⟨g, m, none⟩ = some (.int .u8 x) := by
     have := h.cells rfl m (.int .u8 x) (by rw [bv_at _ hm, List.getD_eq_getElem?_getD, hx]; rfl)
     rwa [Addr.add_lit, Nat.zero_add] at this
   refine ⟨g, rfl, hbg, hc, frozen_of_row w g m cur 5 hg, fun y => ⟨by rw [bv_length, List.length_set, Nat.mul_one], .inr ⟨g, cap, cur.setIfInBounds m (.int .u8 y), rfl, hbg, heap_setCell_same w g m cur 5 _ hg, h1, h2, by rw [Array.size_setIfInBounds]; exact h3, ?_⟩⟩⟩
   rw [Array.toList_setIfInBounds, List.take_set, h4]
   unfold Byt.bv
   rw [List.map_set]
set_option maxRecDepth 100000 in
set_option maxHeartbeats 64000000 in
theorem walk (Y : Dag2) (X : Four) (a0 : Option Addr) (cap0 : Nat) (l0 : List Cv) (at_ mk : Int) (w : World) (S : SlK w a0 cap0 l0) (hmk : Byt.B mk) (hK : ShaE.KIn w) :
   Calls Tryz.prog 7 #[.slice a0 l0.length cap0, .int .i64 at_, .int .u8 mk] w fun e w' => e = .returned (.bool true) ∧ RowKit.Below w.heap.size w w' := by
 have hmax := S.len
 have b := Below.refl w.heap.size w
 have hbs := b.size
 go_enter Tryz.func7, Tryz.ntmps7
 go_wp2_with (first | go_skip)
 refine (awake X _ (hK.below b)).mono ?_
 rintro e w1 ⟨rfl, k1⟩
 clear hbs
 replace S := S.below k1; replace b := b.trans (k1.mono b.size); clear k1
 go_wp2_with (first | go_skip)
 obtain ⟨f, hf⟩ : ∃ f, fewD (coms l0) 6 = f := ⟨_, rfl⟩
 have qf := DgR.few_ret a0 cap0 l0 6 _ S
 rw [hf] at qf
 refine qf.mono ?_
 clear qf
 rintro e w2 ⟨rfl, k2⟩
 replace S := S.below k2; replace b := b.trans (k2.mono b.size); clear k2
 cases f with
 | false =>
   go_wp2_with (first | go_skip)
   go_ret
   exact ⟨rfl, b⟩
 | true =>
   obtain ⟨ho, hl⟩ := okay_few (fun v hv => (S.each v hv).2) hf
   have hl2 : l0.length ≤ 6 := by omega
   have HO := aside ho
   clear ho hf hl
   have qc := Y.closed a0 cap0 l0 _ S (by omega) (hK.below b)
   by_cases hC : Closed hashK (coms l0)
   case neg =>
     rw [decide_eq_false hC] at qc
     go_wp2_with (first | go_skip)
     refine qc.mono ?_
     rintro e wx ⟨rfl, kx⟩
     clear qc
     go_wp2_with (first | go_skip)
     go_ret
     exact ⟨rfl, b.trans (kx.mono b.size)⟩
   case pos =>
     rw [decide_eq_true hC] at qc
     have HC0 := aside hC
     clear hC
     go_wp2_with (first | go_skip)
     refine qc.mono ?_
     clear qc
     rintro e wx ⟨rfl, kx⟩
     replace S := S.below kx; replace b := b.trans (kx.mono b.size); clear kx
     by_cases hz : mk = 0
     · subst hz
       go_wp2_with (first | go_skip)
       go_ret
       exact ⟨rfl, b⟩
     go_wp2_with (first | go_skip)
     refine (Y.sorted a0 cap0 l0 _ S (by omega) (hK.below b)).mono ?_
     rintro e wx ⟨s, hm, A7, c7, qs, rfl, U, hqs, kx⟩
     have b' := b.trans (kx.mono b.size)
     clear  b kx S
     have b := b'
     clear  b'
     obtain ⟨hperm, hord⟩ := sorted_perm HC0.out hm
     have hcl : Closed hashK s := closed_perm HC0.out hperm.symm
     have hq8 : qs.length ≤ 8 := by
       have h1 := hperm.length_eq
       rw [← hqs, coms_len, coms_len] at h1
       omega
     have HS := aside hqs
     have HC := aside hcl
     have HI := aside hord
     have qd := disk_ret X A7 c7 qs _ U (by rw [hqs]; exact fun c hc => hcl.may c hc) (by omega) (hK.below b)
     rw [hqs] at qd
     have hdl := diskK_len hcl.may
     have hsl : s.length = qs.length := by rw [← hqs, coms_len]
     have HSL := aside hsl
     have hdl : (diskK s).length ≤ 3300 := by omega
     clear hm hperm hord hqs hcl hsl HO HC0
     go_wp2_with (first | go_skip)
     refine qd.mono ?_
     clear qd
     rintro e wx ⟨vb, ve, rfl, OB, OE, hne, kx⟩
     have hbase := b.size
     have kS := kx
     have b := b.trans (kx.mono b.size)
     obtain ⟨D, hD⟩ : ∃ D, (diskK s).length = D := ⟨_, rfl⟩
     have HD := aside hD
     obtain ⟨A8, c8, hvb, _⟩ := Sl.own OB disk_B
     rw [hD] at hvb
     subst hvb
     obtain ⟨A9, c9, hve, N9⟩ := SlN.own OE
     rw [endsL_len] at hve
     subst hve
     simp only [hD] at hdl
     have HOB := aside OB
     have HOE := aside OE
     have HNE := aside hne
     clear OB OE hne hD
     simp only [HSL.out]
     by_cases hn : at_ < 0
     · clear X Y U N9 HS HC HI
       go_wp2_with (first | go_skip)
       go_ret
       exact ⟨rfl, b⟩
     obtain ⟨m, rfl⟩ : ∃ m : Nat, at_ = m := ⟨at_.toNat, by omega⟩
     have hn2 : ¬ (m : Int) < 0 := by omega
     by_cases hb : D ≤ m
     · have p1 : (D : Int) ≤ (m : Int) := by omega
       clear X Y U N9 HS HC HI
       go_wp2_with (first | go_skip)
       go_ret
       exact ⟨rfl, b⟩
     have p1 : ¬ (D : Int) ≤ (m : Int) := by omega
     have hq0 : 0 < qs.length := by
       rw [← HSL.out]
       rcases Nat.eq_zero_or_pos s.length with h | h
       · have h1 := List.eq_nil_of_length_eq_zero h
         have h2 := HD.out
         rw [h1] at h2
         simp [diskK, catL] at h2
         omega
       · exact h
     have b0 := Below.refl wx.heap.size wx
     go_wp2_with (first | go_skip)
     go_loopw [13] (fun wt wr => ∃ k : Nat, k < qs.length ∧ wt = .int .i64 k ∧ Hid ((diskK (s.take k)).length ≤ m) ∧ RowKit.Below wx.heap.size wx wr) (fun wt _ => qs.length - (intOf wt).toNat)
     case atStart => exact ⟨0, hq0, rfl, aside (by simp [diskK, catL]), b0⟩
     case round =>
       rename World => wr
       clear b0
       obtain ⟨k, hk, rfl, HV, kb⟩ := hrel
       have p2 : (k : Int) < (qs.length : Int) := by omega
       have m0 : ((k : Int)).toNat = k := by omega
       have N10 := N9.below kb
       obtain ⟨bb, off, rfl, hbw, hc⟩ := N10.plain (by rw [endsL_len, HSL.out]; omega)
       have hks : k < s.length := by rw [HSL.out]; exact hk
       have cx := hc k _ (endsL_at hks)
       obtain ⟨E, hE⟩ : ∃ E, (diskK (s.take (k + 1))).length = E := ⟨_, rfl⟩
       rw [hE] at cx
       have hE64 : E ≤ D := by
         rw [← hE, ← HD.out]
         conv => rhs; rw [← List.take_append_drop (k + 1) s]
         unfold diskK
         rw [List.map_append, catL_append, List.length_append]
         omega
       by_cases ha : E ≤ m
       · have p3 : (E : Int) ≤ (m : Int) := by omega
         have HQ : Hid ((diskK (s.take (k + 1))).length ≤ m) := aside (by rw [hE]; exact ha)
         have hk1 : k + 1 < qs.length := by
           rcases Nat.lt_or_ge (k + 1) qs.length with h | h
           · exact h
           · have h1 := hE
             rw [List.take_of_length_le (by rw [HSL.out]; exact h), HD.out] at h1
             omega
         clear HV hc hbw hE U N9 N10 HOB HOE HNE
         go_wp2_with (first | go_skip)
         go_roundw
         case rel => exact ⟨k + 1, hk1, by go_num, HQ, kb⟩
         case measure => simp [intOf]; omega
       · have p3 : ¬ (E : Int) ≤ (m : Int) := by omega
         have m4 : IntKind.i64.wrap ((E : Int) - 4) = (E : Int) - 4 := IntWalk.i64_in _ (by omega)
         by_cases h4 : (m : Int) < (E : Int) - 4
         · clear HV hc hbw hE U N9 N10 HOB HOE HNE
           go_wp2_with (first | go_skip)
           go_ret
           exact ⟨rfl, b.trans (kb.mono b.size)⟩
         · have kS2 := kS.trans (kb.mono kS.size)
           have b2 := b.trans (kb.mono b.size)
           have OB2 := owns_below HOB.out kb
           have OE3 := owns_below HOE.out kb
           obtain ⟨x, hx⟩ : ∃ x, (diskK s)[m]? = some x := ⟨_, List.getElem?_eq_getElem (by rw [HD.out]; omega)⟩
           have hxB : Byt.B x := disk_B x (List.mem_of_getElem? hx)
           obtain ⟨g, hg, hgb, cb, fb, hset⟩ := own_store OB2 hx
           subst hg
           obtain ⟨nx, hnx⟩ : ∃ nx, bits .xor .u8 x mk = nx := ⟨_, rfl⟩
           have hnB : Byt.B nx := by rw [← hnx]; exact xor_B hxB hmk
           have hnn : nx ≠ x := by rw [← hnx]; exact xor_ne hxB hmk hz
           have hp0 : (0 : Int) ≤ (m : Int) := by omega
           have hp1 : (m : Int) < (D : Int) := by omega
           have mm : ((m : Int)).toNat = m := by omega
           have hld := load_spoilt HC.out HI.out (w := k) (p := m) (v := nx) hks (by rw [hE]; omega) (by rw [hE]; omega) (by rw [hx]; intro e; exact hnn (Option.some.inj e).symm)
           have hS := hset nx
           have gW := grown_cell wr (p := ⟨g, m, none⟩) (.int .u8 nx) rfl
           have hE4 := OE3.kept gW (.inr (HNE.out g rfl))
           have kS3 := kS2.setCell (p := ⟨g, m, none⟩) hgb (.int .u8 nx)
           have b3 := b2.setCell (p := ⟨g, m, none⟩) (Nat.le_trans hbase hgb) (.int .u8 nx)
           have hsB : ∀ y ∈ (diskK s).set m nx, Byt.B y := fun y hy => (List.mem_or_eq_of_mem_set hy).elim (disk_B y) fun e => by rw [e]; exact hnB
           have T := sl_own (l := (diskK s).set m nx) (by rw [List.length_set]; exact hS) hsB
           have q := X.load (some ⟨g, 0, none⟩) c8 D ((diskK s).set m nx) _ T (by rw [List.length_set]; exact HD.out) (by omega) (hK.below b3)
           rw [hld] at q
           obtain ⟨V, hV⟩ : ∃ V, (diskK (s.take k)).length = V := ⟨_, rfl⟩
           rw [hV] at q
           have N11 := sl_ints hE4
           have U3 := U.below kS3
           have hz8 : k = 0 → V = 0 := fun e => by rw [← hV, e]; simp [diskK, catL]
           have hce : 0 < k → (endsL s)[k - 1]? = some (V : Int) := fun h => by
             rw [endsL_at (by omega), show k - 1 + 1 = k by omega, hV]
           have HCE := aside hce
           clear hc hbw N9 N10 HOB HOE HNE kS kS2 b2 OB2 OE3 hset hS gW hE4 kS3 hsB T hld hV HV hx hE hxB hgb U kb hce
           go_wp2_with (first | go_skip)
           refine q.mono ?_
           rintro e w3 ⟨A3, c3, us, rfl, hus, S3, k3⟩
           have b4 := b3.trans (k3.mono b3.size)
           have U4 := U3.below k3
           have N12 := N11.below k3
           simp only [] at hus
           obtain ⟨qA, qc, hqs, hqS⟩ := RowP.ahead U4.row k (by omega)
           have hq1 : ∀ W, (Instr.sliceAt 35 (.slice A7 qs.length c7) none (some (.int .i64 (k : Int))) none).run Tryz.prog W = .ok (.slice qA k qc) W := fun W => hqs W .i64
           have hkl : (qs.take k).length = k := by rw [List.length_take]; omega
           have Q : SlK w3 qA qc (qs.take k) := ⟨hqS, fun y hy => U4.each y (List.mem_of_mem_take hy)⟩
           have hqc : coms (qs.take k) = s.take k := by rw [coms_take, HS.out]
           have qe := list_ret A3 qA c3 qc us (qs.take k) _ S3 Q
           rw [hus, hqc, listB_iff.2 rfl, hkl] at qe
           clear q b3 k3 U3 N11 hqs hqS cb fb cx Q S3 U4 hkl hqc hus
           by_cases hk0 : k = 0
           · obtain rfl := hz8 hk0
             have p5 : ¬ (0 : Int) < (k : Int) := by omega
             clear HCE N12 hk0 hz8
             go_wp2_with (first | go_skip)
             refine qe.mono ?_
             rintro e w4 ⟨rfl, k4⟩
             go_wp2_with (first | go_skip)
             go_ret
             exact ⟨rfl, b4.trans (k4.mono b4.size)⟩
           · have hk1 : 0 < k := by omega
             obtain ⟨b9, o9, e9, _, hc9⟩ := N12.plain (by rw [endsL_len, HSL.out]; omega)
             cases e9
             have c9 := hc9 _ _ (HCE.out hk1)
             have p5 : (0 : Int) < (k : Int) := by omega
             have m5 : IntKind.i64.wrap ((k : Int) - 1) = (k : Int) - 1 := IntWalk.i64_in _ (by omega)
             have p6 : 0 ≤ (k : Int) - 1 := by omega
             have p7 : (k : Int) - 1 < (qs.length : Int) := by omega
             have m6 : ((k : Int) - 1).toNat = k - 1 := by omega
             have tV : ((V : Int) == (V : Int)) = true := by simp
             clear HCE N12 hc9 hz8 hk0
             go_wp2_with (first | go_skip)
             refine qe.mono ?_
             rintro e w4 ⟨rfl, k4⟩
             go_wp2_with (first | go_skip)
             go_ret
             exact ⟨rfl, b4.trans (k4.mono b4.size)⟩
end Go.Proofs.YtgoapaanmcmlmaaGreatDoor.SoS
