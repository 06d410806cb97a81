/- What the document's one of package dag returns (is a commit fine, by its parents?): a contract. -/
import Derived.Test.YtgoapaanmcmlmaaGreatDoorDgEJ5
namespace Go.Proofs.YtgoapaanmcmlmaaGreatDoor.DgO
set_option maxRecDepth 100000
open Go Go.Sort Go.RowKit Byt IdM IdW OpsM OpsW CmM StW CmW CmX CmY DgM DgN DgP DgW DgT DgR DgK
open Classical
def Good (all : List Idn) (K : Nat → Nat → Bool) (p : Nat) (b : Idn) : Prop := ∃ q, idx all b = some q ∧ K p q = false
def Fine (all : List Idn) (K : Nat → Nat → Bool) (ps : List Idn) (a : Idn) : Prop := ∃ p, idx all a = some p ∧ ∀ b ∈ ps, Good all K p b
theorem one_iff {l : List Com} {all : List Idn} {K : Nat → Nat → Bool} (hW : Whole l all K) {c : Com} : OneI l all c ↔ (∀ a ∈ c.ps, Fine all K c.ps a) ∧ c.gen = 1 + most (c.ps.map (gI l all)) := by
 have some_of : ∀ {a : Idn}, a ∈ all → ∃ p, idx all a = some p := fun {a} ha => by
   cases hq : idx all a with
   | none => exact absurd ha (idx_none.1 hq)
   | some p => exact ⟨p, rfl⟩
 constructor
 · intro h
   refine ⟨fun a ha => ?_, h.gen⟩
   obtain ⟨p, hp⟩ := some_of (h.found a ha)
   refine ⟨p, hp, fun b hb => ?_⟩
   obtain ⟨q, hq⟩ := some_of (h.found b hb)
   refine ⟨q, hq, ?_⟩
   cases hk : K p q with
   | false => rfl
   | true => exact absurd ((hW p q).1 hk) (h.apart a ha b hb p q hp hq)
 · rintro ⟨h1, h2⟩
   refine ⟨fun a ha => ?_, fun a ha b hb p q hp hq k => ?_, h2⟩
   · obtain ⟨p, hp, _⟩ := h1 a ha
     exact List.mem_of_getElem? (idx_some hp).1
   · obtain ⟨p', hp', hg⟩ := h1 a ha
     obtain ⟨q', hq', hk⟩ := hg b hb
     rw [hp] at hp'
     rw [hq] at hq'
     rw [← Option.some.inj hp', ← Option.some.inj hq', (hW p q).2 k] at hk
     cases hk
theorem most_snoc (l : List Int) (x : Int) : most (l ++ [x]) = max (most l) x := by simp [most, List.foldl_append]
theorem cell_gen_at {w : World} {b off : Nat} {x : Cv} (h : w.rangeAt b off (cc x).toList) : w.cell? ⟨b, off + 2, none⟩ = some (.int .i64 x.c.gen) := h 2 _ rfl
theorem take_gens {l : List Com} {all : List Idn} {ps : List Idn} {t p : Nat} {a : Idn} {y : Com} (ha : ps[t]? = some a) (hq : idx all a = some p) (hy : l[p]? = some y) : most ((ps.take (t + 1)).map (gI l all)) = max (most ((ps.take t).map (gI l all))) y.gen := by
 obtain ⟨ht, e⟩ := List.getElem?_eq_some_iff.1 ha
 rw [List.take_succ_eq_append_getElem ht, List.map_append, List.map_cons, List.map_nil, most_snoc, e]
 congr 1
 unfold gI
 rw [hq]
 simp [hy]
theorem most_le {l : List Com} {all : List Idn} {ps : List Idn} (hm : ∀ c ∈ l, c.gen ≤ 1048576) : 0 ≤ most (ps.map (gI l all)) ∧ most (ps.map (gI l all)) ≤ 1048576 := by
 obtain ⟨h1, _, h3⟩ := foldl_max (ps.map (gI l all)) 0
 refine ⟨h1, ?_⟩
 unfold most
 rcases h3 with h3 | h3
 · rw [h3]; omega
 · obtain ⟨a, _, ha⟩ := List.mem_map.1 h3
   rw [← ha]
   unfold gI
   cases hq : idx all a with
   | none => simp
   | some p =>
     cases hy : l[p]? with
     | none => simp [hy]
     | some y => simpa [hy] using hm y (List.mem_of_getElem? hy)
set_option maxRecDepth 100000 in
set_option maxHeartbeats 32000000 in
theorem one_ret (A A' : Option Addr) (cap cap' : Nat) (l : List Cv) (all : List Idn) (v : Value) (gs : List Nat) (K : Nat → Nat → Bool) (base i : Nat) (x : Cv) (w : World) (S : SlK w A cap l) (T : SlI w A' cap' all) (TB : Tab w base v l.length gs K) (hgl : gs.length = l.length)
   (hW : Whole (coms l) all K) (hall : all.length = l.length) (hm : ∀ c ∈ coms l, c.gen ≤ 1048576) (hi : l[i]? = some x) :
   Calls Tryz.prog 67 #[.slice A l.length cap, .slice A' all.length cap', v, .int .i64 i] w fun e w' => e = .returned (.bool (decide (OneI (coms l) all x.c))) ∧ Below w.heap.size w w' := by
 have hmax := S.len
 have hil := (List.getElem?_eq_some_iff.1 hi).1
 obtain ⟨rb, hrb⟩ : ∃ b, decide (OneI (coms l) all x.c) = b := ⟨_, rfl⟩
 have HR : Hid (rb = decide ((∀ a ∈ x.c.ps, Fine all K x.c.ps a) ∧ x.c.gen = 1 + most (x.c.ps.map (gI (coms l) all)))) := aside (by rw [← hrb]; exact decide_eq_decide.2 (one_iff hW))
 rw [hrb]
 obtain ⟨r, rc, rfl, hbr⟩ := TB.at (by rw [hgl]; omega)
 obtain ⟨b, off, rfl, hbw, hrg⟩ := S.plain (by omega)
 have rx := hrg i x hi
 have HRG := aside hrg
 have HM := aside hm
 have HGL := aside hgl
 have HALL := aside hall
 have HTT := aside T
 have HTB := aside TB
 have hxm := List.mem_of_getElem? hi
 have IX := (S.each x hxm).1
 have hfit := (S.each x hxm).2.gen
 obtain ⟨ad, hA⟩ : ∃ ad, x.a = ad := ⟨_, rfl⟩
 obtain ⟨ps, hps⟩ : ∃ ps, x.c.ps = ps := ⟨_, rfl⟩
 unfold In at IX
 rw [hA, hps] at IX
 rw [hps] at HR
 have HPS := aside hps
 have HA := aside hA
 have hpsl : ps.length ≤ 9223372036854775807 := by have := IX.1; have := IX.2.1; unfold maxLen at this; omega
 have pi0 : (i : Int) < l.length := by omega
 have mi0 : ((i : Int)).toNat = i := by omega
 clear S T TB hrg hm hgl hall hrb hxm hi hps hA
 go_enter Tryz.func67, Tryz.ntmps67
 go_wp2_with (first | go_skip | (refine load_at rfl _ rfl _ _ rfl x rx ?_) | (refine Cel.wpList_store_new CE rfl _ _ rfl _ _ _ rfl x _ rfl rfl rfl rfl ?_; intro w1 C1 k1 g1 s1))
 clear g1 s1 rx
 go_loopw [9, 11] (fun go_ i wr => ∃ (t : Nat) (g : Int), t ≤ ps.length ∧ i = .int .i64 t ∧ go_ = .int .i64 g ∧ Hid (∀ t' a, t' < t → ps[t']? = some a → Fine all K ps a) ∧ Hid (g = most ((ps.take t).map (gI (coms l) all))) ∧ Cel.Box CE wr w.heap.size x ∧ Below w.heap.size w wr) (fun _ i _ => ps.length - (intOf i).toNat)
 case atStart => exact ⟨0, 0, Nat.zero_le _, rfl, rfl, aside (fun t' a ht' => absurd ht' (Nat.not_lt_zero _)), aside rfl, C1, k1⟩
 case round =>
   clear C1 k1
   obtain ⟨t, g, ht, rfl, rfl, HF, HG, C, kb⟩ := hrel
   have d1 := (cell_ps C).trans (by rw [HA.out, HPS.out])
   by_cases htl : t < ps.length
   · obtain ⟨b2, off2, rfl, hb2, hr2⟩ := SlI.plain IX (by omega)
     obtain ⟨a, ha⟩ : ∃ a, ps[t]? = some a := ⟨_, List.getElem?_eq_getElem htl⟩
     have ra := IdW.range_below (hr2 t htl) kb
     rw [show ps.getD t nought = a by rw [List.getD_eq_getElem?_getD, ha]; rfl] at ra
     have HAt := aside ha
     have HR2 := aside hr2
     have pt : (t : Int) < ps.length := by omega
     have mt : ((t : Int)).toNat = t := by omega
     have hat := DgR.at_ret A' cap' all a _ (HTT.out.below kb)
     clear hr2 ha
     cases hq : idx all a with
     | none =>
       have hai : atI all a = -1 := by unfold atI; rw [hq]
       rw [hai] at hat
       have HX : Hid (rb = false) := aside (by
         rw [HR.out]
         refine decide_eq_false fun h => ?_
         obtain ⟨p, hp, _⟩ := h.1 a (List.mem_of_getElem? HAt.out)
         rw [hq] at hp
         cases hp)
       clear hq hai HF HG
       go_wp2_with (first | go_skip | (refine wpList_load_id rfl _ rfl _ _ rfl a ra ?_))
       refine hat.mono ?_
       rintro e w2 ⟨rfl, k2⟩
       have b2 := kb.trans (k2.mono kb.size)
       clear hat k2 kb d1 ra C
       go_wp2_with (first | go_skip)
       go_ret
       exact ⟨StW.ret_bool HX.out.symm, b2⟩
     | some p =>
       have hai : atI all a = (p : Int) := by unfold atI; rw [hq]
       rw [hai] at hat
       have HQ := aside hq
       have hpn : p < l.length := by have := idx_lt hq; rw [HALL.out] at this; exact this
       obtain ⟨y, hy⟩ : ∃ y, l[p]? = some y := ⟨_, List.getElem?_eq_getElem hpn⟩
       have hmax2 := take_gens HAt.out hq (coms_at hy)
       rw [← HG.out] at hmax2
       have ry := HRG.out p y hy
       obtain ⟨yg, hyg⟩ : ∃ z, y.c.gen = z := ⟨_, rfl⟩
       have HYG := aside hyg
       rw [hyg] at hmax2
       have HMX := aside hmax2
       obtain ⟨gp, hgp⟩ : ∃ z, gs[p]? = some z := ⟨_, List.getElem?_eq_getElem (by rw [HGL.out]; exact hpn)⟩
       have HGP := aside hgp
       have hp0 : ¬ (p : Int) < 0 := by omega
       have pp : (p : Int) < l.length := by omega
       have ppg : (p : Int) < gs.length := by rw [HGL.out]; omega
       have mp : ((p : Int)).toNat = p := by omega
       clear hq hai hy hmax2 hyg hgp
       go_wp2_with (first | go_skip | (refine wpList_load_id rfl _ rfl _ _ rfl a ra ?_))
       refine hat.mono ?_
       rintro e w2 ⟨rfl, k2⟩
       have b2 := kb.trans (k2.mono kb.size)
       have C2 := C.below k2
       have e2 := (cell_gen_at (range_on ry b2)).trans (by rw [HYG.out])
       clear hat k2 kb d1 ra C ry
       by_cases hgt : g < yg
       · have HGn : Hid (yg = most ((ps.take (t + 1)).map (gI (coms l) all))) := aside (by rw [HMX.out]; omega)
         clear HG HMX
         · go_wp2_with (first | go_skip)
           clear e2
           go_loopw [13] (fun i wr => ∃ s : Nat, s ≤ ps.length ∧ i = .int .i64 s ∧ Hid (∀ s' c, s' < s → ps[s']? = some c → Good all K p c) ∧ Cel.Box CE wr w.heap.size x ∧ Below w.heap.size w wr) (fun i _ => ps.length - (intOf i).toNat)
           case atStart => exact ⟨0, Nat.zero_le _, rfl, aside (fun s' c hs' => absurd hs' (Nat.not_lt_zero _)), C2, b2⟩
           case round =>
             clear C2 b2
             obtain ⟨s, hs, rfl, HS, C, kb⟩ := hrel
             have d1 := (cell_ps C).trans (by rw [HA.out, HPS.out])
             by_cases hsl : s < ps.length
             · obtain ⟨c, hc⟩ : ∃ c, ps[s]? = some c := ⟨_, List.getElem?_eq_getElem hsl⟩
               have rc2 := IdW.range_below (HR2.out s hsl) kb
               rw [show ps.getD s nought = c by rw [List.getD_eq_getElem?_getD, hc]; rfl] at rc2
               have HCs := aside hc
               have ps1 : (s : Int) < ps.length := by omega
               have ms : ((s : Int)).toNat = s := by omega
               have hat := DgR.at_ret A' cap' all c _ (HTT.out.below kb)
               clear hc
               cases hqc : idx all c with
               | none =>
                 have hai : atI all c = -1 := by unfold atI; rw [hqc]
                 rw [hai] at hat
                 have HX : Hid (rb = false) := aside (by
                   rw [HR.out]
                   refine decide_eq_false fun h => ?_
                   obtain ⟨p', _, hg⟩ := h.1 a (List.mem_of_getElem? HAt.out)
                   obtain ⟨q', hq', _⟩ := hg c (List.mem_of_getElem? HCs.out)
                   rw [hqc] at hq'
                   cases hq')
                 clear hqc hai HS
                 go_wp2_with (first | go_skip | (refine wpList_load_id rfl _ rfl _ _ rfl c rc2 ?_))
                 refine hat.mono ?_
                 rintro e w3 ⟨rfl, k3⟩
                 have b3 := kb.trans (k3.mono kb.size)
                 clear hat k3 kb d1 rc2 C
                 go_wp2_with (first | go_skip)
                 go_ret
                 exact ⟨StW.ret_bool HX.out.symm, b3⟩
               | some q =>
                 have hai : atI all c = (q : Int) := by unfold atI; rw [hqc]
                 rw [hai] at hat
                 have HQC := aside hqc
                 have hqn : q < l.length := by have := idx_lt hqc; rw [HALL.out] at this; exact this
                 have hq0 : ¬ (q : Int) < 0 := by omega
                 have pq : (q : Int) < l.length := by omega
                 have mq : ((q : Int)).toNat = q := by omega
                 clear hqc hai
                 go_wp2_with (first | go_skip | (refine wpList_load_id rfl _ rfl _ _ rfl c rc2 ?_))
                 refine hat.mono ?_
                 rintro e w3 ⟨rfl, k3⟩
                 have b3 := kb.trans (k3.mono kb.size)
                 have C3 := C.below k3
                 have T3 := HTB.out.below b3
                 have cp : w3.cell? ⟨r, p, none⟩ = some (.slice (some ⟨gp, 0, none⟩) l.length l.length) := T3.cell HGP.out
                 have bp := T3.bit HGP.out hqn
                 obtain ⟨u, hu⟩ : ∃ u, K p q = u := ⟨_, rfl⟩
                 rw [hu] at bp
                 have HU := aside hu
                 clear hat k3 kb d1 rc2 C T3 hu
                 cases u with
                 | true =>
                   have HX : Hid (rb = false) := aside (by
                     rw [HR.out]
                     refine decide_eq_false fun h => ?_
                     obtain ⟨p', hp', hg⟩ := h.1 a (List.mem_of_getElem? HAt.out)
                     obtain ⟨q', hq', hk⟩ := hg c (List.mem_of_getElem? HCs.out)
                     rw [HQ.out] at hp'
                     rw [HQC.out] at hq'
                     rw [← Option.some.inj hp', ← Option.some.inj hq', HU.out] at hk
                     cases hk)
                   clear HS
                   go_wp2_with (first | go_skip)
                   go_ret
                   exact ⟨StW.ret_bool HX.out.symm, b3⟩
                 | false =>
                   have HSn : Hid (∀ s' c, s' < s + 1 → ps[s']? = some c → Good all K p c) := aside (fun s' c' hs' hc' => by
                     by_cases e : s' = s
                     · subst e
                       rw [HCs.out] at hc'
                       rw [← Option.some.inj hc']
                       exact ⟨q, HQC.out, HU.out⟩
                     · exact HS.out s' c' (by omega) hc')
                   clear HS
                   go_wp2_with (first | go_skip)
                   go_roundw
                   case rel => exact ⟨s + 1, by omega, by go_num, HSn, C3, b3⟩
                   case measure => simp [intOf]; omega
             · have ps1 : ¬ (s : Int) < ps.length := by omega
               have HFn : Hid (∀ t' a, t' < t + 1 → ps[t']? = some a → Fine all K ps a) := aside (fun t' a' ht' ha' => by
                 by_cases e : t' = t
                 · subst e
                   rw [HAt.out] at ha'
                   rw [← Option.some.inj ha']
                   refine ⟨p, HQ.out, fun c hc => ?_⟩
                   obtain ⟨s', hs'⟩ := List.mem_iff_getElem?.1 hc
                   exact HS.out s' c (by have := (List.getElem?_eq_some_iff.1 hs').1; omega) hs'
                 · exact HF.out t' a' (by omega) ha')
               clear HS
               go_wp2_with (first | go_skip)
               go_roundw
               case rel => exact ⟨t + 1, yg, by omega, by go_num, rfl, HFn, HGn, C, kb⟩
               case measure => simp [intOf]; omega
       · have HGn : Hid (g = most ((ps.take (t + 1)).map (gI (coms l) all))) := aside (by rw [HMX.out]; omega)
         clear HG HMX
         · go_wp2_with (first | go_skip)
           clear e2
           go_loopw [13] (fun i wr => ∃ s : Nat, s ≤ ps.length ∧ i = .int .i64 s ∧ Hid (∀ s' c, s' < s → ps[s']? = some c → Good all K p c) ∧ Cel.Box CE wr w.heap.size x ∧ Below w.heap.size w wr) (fun i _ => ps.length - (intOf i).toNat)
           case atStart => exact ⟨0, Nat.zero_le _, rfl, aside (fun s' c hs' => absurd hs' (Nat.not_lt_zero _)), C2, b2⟩
           case round =>
             clear C2 b2
             obtain ⟨s, hs, rfl, HS, C, kb⟩ := hrel
             have d1 := (cell_ps C).trans (by rw [HA.out, HPS.out])
             by_cases hsl : s < ps.length
             · obtain ⟨c, hc⟩ : ∃ c, ps[s]? = some c := ⟨_, List.getElem?_eq_getElem hsl⟩
               have rc2 := IdW.range_below (HR2.out s hsl) kb
               rw [show ps.getD s nought = c by rw [List.getD_eq_getElem?_getD, hc]; rfl] at rc2
               have HCs := aside hc
               have ps1 : (s : Int) < ps.length := by omega
               have ms : ((s : Int)).toNat = s := by omega
               have hat := DgR.at_ret A' cap' all c _ (HTT.out.below kb)
               clear hc
               cases hqc : idx all c with
               | none =>
                 have hai : atI all c = -1 := by unfold atI; rw [hqc]
                 rw [hai] at hat
                 have HX : Hid (rb = false) := aside (by
                   rw [HR.out]
                   refine decide_eq_false fun h => ?_
                   obtain ⟨p', _, hg⟩ := h.1 a (List.mem_of_getElem? HAt.out)
                   obtain ⟨q', hq', _⟩ := hg c (List.mem_of_getElem? HCs.out)
                   rw [hqc] at hq'
                   cases hq')
                 clear hqc hai HS
                 go_wp2_with (first | go_skip | (refine wpList_load_id rfl _ rfl _ _ rfl c rc2 ?_))
                 refine hat.mono ?_
                 rintro e w3 ⟨rfl, k3⟩
                 have b3 := kb.trans (k3.mono kb.size)
                 clear hat k3 kb d1 rc2 C
                 go_wp2_with (first | go_skip)
                 go_ret
                 exact ⟨StW.ret_bool HX.out.symm, b3⟩
               | some q =>
                 have hai : atI all c = (q : Int) := by unfold atI; rw [hqc]
                 rw [hai] at hat
                 have HQC := aside hqc
                 have hqn : q < l.length := by have := idx_lt hqc; rw [HALL.out] at this; exact this
                 have hq0 : ¬ (q : Int) < 0 := by omega
                 have pq : (q : Int) < l.length := by omega
                 have mq : ((q : Int)).toNat = q := by omega
                 clear hqc hai
                 go_wp2_with (first | go_skip | (refine wpList_load_id rfl _ rfl _ _ rfl c rc2 ?_))
                 refine hat.mono ?_
                 rintro e w3 ⟨rfl, k3⟩
                 have b3 := kb.trans (k3.mono kb.size)
                 have C3 := C.below k3
                 have T3 := HTB.out.below b3
                 have cp : w3.cell? ⟨r, p, none⟩ = some (.slice (some ⟨gp, 0, none⟩) l.length l.length) := T3.cell HGP.out
                 have bp := T3.bit HGP.out hqn
                 obtain ⟨u, hu⟩ : ∃ u, K p q = u := ⟨_, rfl⟩
                 rw [hu] at bp
                 have HU := aside hu
                 clear hat k3 kb d1 rc2 C T3 hu
                 cases u with
                 | true =>
                   have HX : Hid (rb = false) := aside (by
                     rw [HR.out]
                     refine decide_eq_false fun h => ?_
                     obtain ⟨p', hp', hg⟩ := h.1 a (List.mem_of_getElem? HAt.out)
                     obtain ⟨q', hq', hk⟩ := hg c (List.mem_of_getElem? HCs.out)
                     rw [HQ.out] at hp'
                     rw [HQC.out] at hq'
                     rw [← Option.some.inj hp', ← Option.some.inj hq', HU.out] at hk
                     cases hk)
                   clear HS
                   go_wp2_with (first | go_skip)
                   go_ret
                   exact ⟨StW.ret_bool HX.out.symm, b3⟩
                 | false =>
                   have HSn : Hid (∀ s' c, s' < s + 1 → ps[s']? = some c → Good all K p c) := aside (fun s' c' hs' hc' => by
                     by_cases e : s' = s
                     · subst e
                       rw [HCs.out] at hc'
                       rw [← Option.some.inj hc']
                       exact ⟨q, HQC.out, HU.out⟩
                     · exact HS.out s' c' (by omega) hc')
                   clear HS
                   go_wp2_with (first | go_skip)
                   go_roundw
                   case rel => exact ⟨s + 1, by omega, by go_num, HSn, C3, b3⟩
                   case measure => simp [intOf]; omega
             · have ps1 : ¬ (s : Int) < ps.length := by omega
               have HFn : Hid (∀ t' a, t' < t + 1 → ps[t']? = some a → Fine all K ps a) := aside (fun t' a' ht' ha' => by
                 by_cases e : t' = t
                 · subst e
                   rw [HAt.out] at ha'
                   rw [← Option.some.inj ha']
                   refine ⟨p, HQ.out, fun c hc => ?_⟩
                   obtain ⟨s', hs'⟩ := List.mem_iff_getElem?.1 hc
                   exact HS.out s' c (by have := (List.getElem?_eq_some_iff.1 hs').1; omega) hs'
                 · exact HF.out t' a' (by omega) ha')
               clear HS
               go_wp2_with (first | go_skip)
               go_roundw
               case rel => exact ⟨t + 1, g, by omega, by go_num, rfl, HFn, HGn, C, kb⟩
               case measure => simp [intOf]; omega
   · have pt : ¬ (t : Int) < ps.length := by omega
     have hgb := most_le (l := coms l) (all := all) (ps := ps.take t) HM.out
     rw [← HG.out] at hgb
     have wg : IntKind.i64.wrap (g + 1) = g + 1 := by rw [IntKind.wrap_i64]; omega
     have d2 := cell_gen C
     have HX : Hid (rb = (x.c.gen == g + 1)) := aside (by
       rw [HR.out, show (x.c.gen == g + 1) = decide (x.c.gen = g + 1) from rfl]
       refine decide_eq_decide.2 ⟨fun h => ?_, fun h => ⟨fun a ha => ?_, ?_⟩⟩
       · rw [HG.out, List.take_of_length_le (by omega)]
         omega
       · obtain ⟨t', ht'⟩ := List.mem_iff_getElem?.1 ha
         exact HF.out t' a (by have := (List.getElem?_eq_some_iff.1 ht').1; omega) ht'
       · rw [HG.out, List.take_of_length_le (by omega)] at h
         omega)
     clear HF HG hgb
     go_wp2_with (first | go_skip)
     go_ret
     exact ⟨StW.ret_bool HX.out.symm, kb⟩
end Go.Proofs.YtgoapaanmcmlmaaGreatDoor.DgO
