/- What the project's searches of package store return: which of ids are absent, how many commits have their parents ahead of them, how many are closed: contracts. No condition but sizes. -/
import Derived.Test.YtgoapaanmcmlmaaGreatDoorStoBJ4
import Derived.Test.YtgoapaanmcmlmaaGreatDoorStGJ6
import Derived.Test.YtgoapaanmcmlmaaGreatDoorDhCJ10
import Derived.Test.YtgoapaanmcmlmaaGreatDoorIdXJ10
namespace Go.Proofs.YtgoapaanmcmlmaaGreatDoor.StoC
set_option maxRecDepth 100000
open Go Go.Sort Go.RowKit Byt IdM IdW IdK IdS OpsM OpsW CmM StW CmW CmX CmY CmA DgM DgW DgR DgF DhK DhC DhA StoM StoW StoQ
open Classical
set_option maxRecDepth 100000 in
set_option maxHeartbeats 4000000 in
theorem absent_ret (B mb n : Nat) (L : List Idn) (x : Idn) (w : World) (hB : w.cell? ⟨B, 0, none⟩ = some (.map (some mb))) (hl : B < w.heap.size) (M : SetIn w mb n L) :
   Calls Tryz.prog 94 #[.agg (cs x), .pointer (some ⟨B, 0, none⟩)] w fun e w' => e = .returned (.bool (decide (x ∉ L))) ∧ Below w.heap.size w w' := by
 have k0 := StW.below_alloc w (.cells (cs x) 75)
 have I0 : IdW.Box (w.alloc (.cells (cs x) 75)) w.heap.size x := IdW.Box.new w x _
 have M0 := M.below k0
 have c0 := (k0.cell (p := ⟨B, 0, none⟩) hl).trans hB
 by_cases h : x ∈ L
 · have e : decide (x ∉ L) = false := by simp [h]
   have E := aside e
   have E1 : Hid ((if x ∈ L then (1 : Int) else 0) = 1) := aside (if_pos h)
   clear hB M e h
   go_enter Tryz.func94, Tryz.ntmps94
   go_wp2_with (first | go_skip | (refine wpList_load_id rfl _ rfl _ _ rfl x I0.range ?_) | (refine IdK.wpList_find _ rfl _ _ rfl mb n L rfl M0 x rfl ?_; rw [E1.out]))
   go_ret
   exact ⟨by rw [E.out]; rfl, k0⟩
 · have e : decide (x ∉ L) = true := by simp [h]
   have E := aside e
   have E1 : Hid ((if x ∈ L then (1 : Int) else 0) = 0) := aside (if_neg h)
   clear hB M e h
   go_enter Tryz.func94, Tryz.ntmps94
   go_wp2_with (first | go_skip | (refine wpList_load_id rfl _ rfl _ _ rfl x I0.range ?_) | (refine IdK.wpList_find _ rfl _ _ rfl mb n L rfl M0 x rfl ?_; rw [E1.out]))
   go_ret
   exact ⟨by rw [E.out]; rfl, k0⟩
theorem take_next_all {l : List Idn} {L : List Idn} {k : Nat} {x : Idn} (h : ∀ y ∈ l.take k, y ∈ L) (hx : l[k]? = some x) (hL : x ∈ L) : ∀ y ∈ l.take (k + 1), y ∈ L := fun y hy => by
 obtain ⟨hk, rfl⟩ := List.getElem?_eq_some_iff.1 hx
 rw [List.take_succ_eq_append_getElem hk, List.mem_append, List.mem_singleton] at hy
 rcases hy with hy | rfl
 · exact h y hy
 · exact hL
set_option maxRecDepth 100000 in
set_option maxHeartbeats 8000000 in
theorem index_ret (B mb n : Nat) (L : List Idn) (A : Option Addr) (cap : Nat) (l : List Idn) (w : World) (S : SlI w A cap l) (hB : w.cell? ⟨B, 0, none⟩ = some (.map (some mb))) (hl : B < w.heap.size) (M : SetIn w mb n L) :
   Calls Tryz.prog 120 #[.slice A l.length cap, .func (.func 94) #[] #[.pointer (some ⟨B, 0, none⟩)]] w fun e w' => ∃ i : Int, e = .returned (.int .i64 i) ∧ (0 ≤ i ↔ ∃ x ∈ l, x ∉ L) ∧ Below w.heap.size w w' := by
 have hmax : l.length ≤ 9223372036854775807 := by have := S.1; have := S.2.1; unfold maxLen at this; omega
 go_enter Tryz.func120, Tryz.ntmps120
 go_wp2_with (first | go_skip)
 go_loopw [8] (fun i wr => ∃ k : Nat, k ≤ l.length ∧ i = .int .i64 k ∧ Hid (∀ y ∈ l.take k, y ∈ L) ∧ Below w.heap.size w wr) (fun i _ => l.length - (intOf i).toNat)
 case atStart => exact ⟨0, Nat.zero_le _, rfl, aside (by simp), Below.refl _ _⟩
 case round =>
   obtain ⟨k, hk, rfl, HA, kb⟩ := hrel
   by_cases hlt : k < l.length
   · obtain ⟨g, off, rfl, hbw, hr⟩ := S.plain (by omega)
     obtain ⟨x, hx⟩ : ∃ x, l[k]? = some x := ⟨_, List.getElem?_eq_getElem hlt⟩
     have rx := IdW.range_below (hr k hlt) kb
     rw [show l.getD k nought = x by rw [List.getD_eq_getElem?_getD, hx]; rfl] at rx
     have q := absent_ret B mb n L x wr ((kb.cell (p := ⟨B, 0, none⟩) hl).trans hB) (Nat.lt_of_lt_of_le hl kb.size) (M.below kb)
     have p0 : (k : Int) < l.length := by omega
     have m0 : ((k : Int)).toNat = k := by omega
     have HX := aside hx
     clear hr hx hB M S
     by_cases h : x ∈ L
     · rw [show decide (x ∉ L) = false by simp [h]] at q
       have HH := aside h
       clear h
       go_wp2_with (first | go_skip | (refine wpList_load_id rfl _ rfl _ _ rfl x rx ?_))
       refine q.mono ?_
       rintro e w1 ⟨rfl, k1⟩
       clear q
       go_wp2_with (first | go_skip)
       go_roundw
       case rel => exact ⟨k + 1, by omega, by go_num, aside (take_next_all HA.out HX.out HH.out), kb.trans (k1.mono kb.size)⟩
       case measure => simp [intOf]; omega
     · rw [show decide (x ∉ L) = true by simp [h]] at q
       have HH := aside h
       clear h
       go_wp2_with (first | go_skip | (refine wpList_load_id rfl _ rfl _ _ rfl x rx ?_))
       refine q.mono ?_
       rintro e w1 ⟨rfl, k1⟩
       clear q
       go_wp2_with (first | go_skip)
       go_ret
       exact ⟨_, rfl, ⟨fun _ => ⟨x, List.mem_of_getElem? HX.out, HH.out⟩, fun _ => by omega⟩, kb.trans (k1.mono kb.size)⟩
   · obtain rfl : k = l.length := by omega
     rw [List.take_length] at HA
     go_wp2_with (first | go_skip)
     go_ret
     exact ⟨_, rfl, ⟨fun h => absurd h (by omega), fun ⟨x, hx, hn⟩ => absurd (HA.out x hx) hn⟩, kb⟩
set_option maxRecDepth 100000 in
set_option maxHeartbeats 4000000 in
theorem contains_ret (B mb n : Nat) (L : List Idn) (A : Option Addr) (cap : Nat) (l : List Idn) (w : World) (S : SlI w A cap l) (hB : w.cell? ⟨B, 0, none⟩ = some (.map (some mb))) (hl : B < w.heap.size) (M : SetIn w mb n L) :
   Calls Tryz.prog 95 #[.slice A l.length cap, .func (.func 94) #[] #[.pointer (some ⟨B, 0, none⟩)]] w fun e w' => e = .returned (.bool (decide (∃ x ∈ l, x ∉ L))) ∧ Below w.heap.size w w' := by
 have q := index_ret B mb n L A cap l w S hB hl M
 clear S hB M
 go_enter Tryz.func95, Tryz.ntmps95
 go_wp2_with (first | go_skip)
 refine q.mono ?_
 rintro e w1 ⟨i, rfl, hi, k1⟩
 clear q
 have HI := aside hi
 clear hi
 go_wp2_with (first | go_skip)
 go_ret
 exact ⟨congrArg (fun b => Ending.returned (Value.bool b)) (decide_eq_decide.2 HI.out), k1⟩
theorem all_ids {l : List Cv} (hm : ∀ v ∈ l, mayK v.c = true) : idsD (coms l) = (coms l).map hashK := by
 unfold idsD
 rw [if_pos]
 exact List.all_eq_true.2 fun c hc => by
   unfold coms at hc
   obtain ⟨v, hv, rfl⟩ := List.mem_map.1 hc
   exact hm v hv
theorem box_map (w : World) (v : Value) (t : TypeId) : (w.alloc (.cells #[v] t)).cell? ⟨w.heap.size, 0, none⟩ = some v := by
 rw [cell_of_row _ _ _ _ t (0, 0) (heap_alloc_new w _)]
 rfl
theorem no_map {w : World} {g : Nat} {es : Array MapEntry} {n : Nat} (h : w.heap[g]? = some (.map es n)) : CmD.NoU8 w g := fun j v hv => by
 unfold World.cell? at hv
 simp [h] at hv
theorem turn_next {l : List Com} {k : Nat} {c : Com} (h : Turn hashK l k) (hc : l[k]? = some c) (hp : ∀ a ∈ c.ps, a ∈ (l.take k).map hashK) : Turn hashK l (k + 1) := fun i d hi hd a ha => by
 by_cases e : i = k
 · subst e
   rw [hc] at hd
   obtain rfl := Option.some.inj hd
   exact hp a ha
 · exact h i d (by omega) hd a ha
set_option maxRecDepth 100000 in
set_option maxHeartbeats 16000000 in
theorem inTurn_ret (A : Option Addr) (cap : Nat) (l : List Cv) (w : World) (S : SlK w A cap l) (hm : ∀ v ∈ l, mayK v.c = true) (hl : l.length ≤ 900000) (hK : ShaE.KIn w) :
   Calls Tryz.prog 56 #[.slice A l.length cap] w fun e w' => ∃ t : Nat, e = .returned (.int .i64 t) ∧ TurnOf hashK (coms l) t ∧ Below w.heap.size w w' := by
 have hmax := S.len
 have hmm := make_set
 have hid := all_ids hm
 have hil : ((coms l).map hashK).length = l.length := by rw [List.length_map, coms_len]
 obtain ⟨W0, hW0⟩ : ∃ W0, (w.alloc (.map #[] 0)).alloc (.cells #[.map (some w.heap.size)] 129) = W0 := ⟨_, rfl⟩
 have kb0 : Below w.heap.size w W0 := by rw [← hW0]; exact ((Below.refl _ _).alloc (Nat.le_refl _) _).alloc (by simp) _
 have M0 : SetIn W0 w.heap.size 0 [] := by rw [← hW0]; exact (SetIn.made w).alloc _
 have h0 : W0.heap[w.heap.size]? = some (.map #[] 0) := by rw [← hW0]; exact (Below.heap_alloc _ _ _ (by simp)).trans (heap_alloc_new w _)
 have c0 : W0.cell? ⟨w.heap.size + 1, 0, none⟩ = some (.map (some w.heap.size)) := by
   rw [← hW0]
   have := box_map (w.alloc (.map #[] 0)) (.map (some w.heap.size)) 129
   rwa [World.size_alloc] at this
 have z0 : W0.heap.size = w.heap.size + 2 := by rw [← hW0]; simp
 have q := ids_ret A cap l W0 (S.below kb0) (by omega) (hK.below kb0)
 rw [hid] at q
 obtain ⟨own, hown⟩ : ∃ own, (coms l).map hashK = own := ⟨_, rfl⟩
 rw [hown] at q hil
 have HOWN := aside hown
 have HW0 := aside hW0
 clear hid hown hK hm hW0
 unfold NewD at q
 go_enter Tryz.func56, Tryz.ntmps56
 go_wp2_with (first | go_skip)
 rw [HW0.out]
 refine q.mono ?_
 rintro e w1 ⟨A1, c1, rfl, T1, k1⟩
 have b1 := kb0.trans (k1.mono kb0.size)
 have M1 := M0.below k1
 have N1 := aside (no_map ((k1.block w.heap.size (by rw [z0]; omega)).trans h0))
 have d1 := (k1.cell (p := ⟨w.heap.size + 1, 0, none⟩) (by rw [z0]; simp)).trans c0
 have z1 : w.heap.size + 2 ≤ w1.heap.size := by have := k1.size; omega
 have HT1 := aside T1
 have HIL := aside hil
 clear q HW0 kb0 M0 c0 z0 k1 h0 T1
 go_wp2_with (first | go_skip)
 go_loopw [14] (fun i wr => ∃ k : Nat, k ≤ l.length ∧ i = .int .i64 k ∧ Hid (Turn hashK (coms l) k) ∧ Hid (SetIn wr w.heap.size k (own.take k)) ∧ wr.cell? ⟨w.heap.size + 1, 0, none⟩ = some (.map (some w.heap.size)) ∧ Below w.heap.size w wr ∧ Hid (w1.grownBy wr (some w.heap.size))) (fun i _ => l.length - (intOf i).toNat)
 case atStart => exact ⟨0, Nat.zero_le _, rfl, aside (fun i c h => absurd h (by omega)), aside (by rw [List.take_zero]; exact M1), d1, b1, aside (grown_of_below (Below.refl _ _) _)⟩
 case round =>
   clear M1 d1 b1 hil
   obtain ⟨k, hk, rfl, HT, HM, c0, kb, HG⟩ := hrel
   by_cases hlt : k < l.length
   · have T := CmD.sli_far HT1.out N1.out HG.out
     obtain ⟨g, off, rfl, hbw, hr⟩ := SlI.plain T (by rw [HIL.out]; omega)
     have rx := hr k (by rw [HIL.out]; exact hlt)
     obtain ⟨x, hx⟩ : ∃ x, own.getD k nought = x := ⟨_, rfl⟩
     rw [hx] at rx
     have HX := aside hx
     obtain ⟨b, of2, rfl, hb2, hrg⟩ := S.plain (by omega)
     obtain ⟨v, hv⟩ : ∃ v, l[k]? = some v := ⟨_, List.getElem?_eq_getElem hlt⟩
     have IV := (S.each v (List.mem_of_getElem? hv)).1.below kb
     have rv := range_on (hrg k v hv) kb
     have p0 : (k : Int) < l.length := by omega
     have p1 : (k : Int) < own.length := by rw [HIL.out]; exact p0
     have m0 : ((k : Int)).toNat = k := by omega
     have HV := aside hv
     have q := fun W (I : SlI W v.a v.k v.c.ps) hB hl M => contains_ret (w.heap.size + 1) w.heap.size k (own.take k) v.a v.k v.c.ps W I hB hl M
     have hz := kb.size
     clear hr hx hrg hv T
     go_wp2_with (first | go_skip | (refine wpList_load_id rfl _ rfl _ _ rfl x rx ?_) | (refine IdJ.wpList_alloc_id rfl rfl ?_) | (refine CmG.wpList_store_id rfl _ _ rfl wr nought _ rfl x _ rfl rfl rfl ?_; intro w3 I3 k3 s3; have b3 := kb.trans (k3.mono kb.size); have M3 := aside (HM.out.below k3); have c3 := (k3.cell (p := ⟨w.heap.size + 1, 0, none⟩) (by have := SetIn.lt HM.out; have := HG.out.size; simp only; omega)).trans c0; have v3 := range_on rv k3 3 _ rfl; have IV3 := IV.below k3; have G3 := aside (HG.out.trans (grown_of_below k3 _)); clear HM c0 kb HG IV rv))
     have q3 := q w3 IV3 c3 (by have := G3.out.size; omega) M3.out
     clear q
     have hot : ((coms l).take k).map hashK = own.take k := by rw [← HOWN.out, List.map_take]
     have HOT := aside hot
     clear hot
     by_cases h : ∃ y ∈ v.c.ps, y ∉ own.take k
     · rw [decide_eq_true h] at q3
       have HH := aside h
       clear h
       refine q3.mono ?_
       rintro e w4 ⟨rfl, k4⟩
       clear q3 c3 v3
       go_wp2_with (first | go_skip)
       go_ret
       refine ⟨k, rfl, ⟨by rw [coms_len]; omega, HT.out, fun c hc => ?_⟩, b3.trans (k4.mono b3.size)⟩
       rw [coms_at HV.out] at hc
       obtain rfl := Option.some.inj hc
       obtain ⟨y, hy, hn⟩ := HH.out
       exact ⟨y, hy, by rw [HOT.out]; exact hn⟩
     · rw [decide_eq_false h] at q3
       have HH := aside h
       clear h
       refine q3.mono ?_
       rintro e w4 ⟨rfl, k4⟩
       have b4 := b3.trans (k4.mono b3.size)
       have M4 := aside (M3.out.below k4)
       have c4 := (k4.cell (p := ⟨w.heap.size + 1, 0, none⟩) (by have := G3.out.size; simp only; omega)).trans c3
       have I4 := I3.below k4 I3.lt
       have G4 := aside (G3.out.trans (grown_of_below k4 _))
       clear q3 c3 v3 I3 M3 G3 k3
       go_wp2_with (first | go_skip | (refine wpList_load_id rfl _ rfl _ _ rfl x I4.range ?_) | (refine IdK.wpList_put _ rfl _ _ _ rfl w.heap.size k (own.take k) rfl M4.out (by omega) x rfl rfl ?_; intro w5 M5 g5))
       go_roundw
       case rel =>
         refine ⟨k + 1, by omega, by go_num, aside (turn_next HT.out (coms_at HV.out) fun a ha => ?_), aside (M5.congr fun z => ?_), g5.cell c4 (by simp), below_grown b4 b4.size g5 (fun q hq => by cases hq; exact Nat.le_refl _), aside (G4.out.trans g5)⟩
         · rw [HOT.out]
           exact Classical.byContradiction fun hn => HH.out ⟨a, ha, hn⟩
         · rw [← HX.out]
           exact mem_take_succ (by rw [HIL.out]; exact hlt) z
       case measure => simp [intOf]; omega
   · obtain rfl : k = l.length := by omega
     go_wp2_with (first | go_skip)
     go_ret
     exact ⟨_, rfl, ⟨by rw [coms_len]; exact Nat.le_refl _, HT.out, fun c hc => by rw [List.getElem?_eq_none (by rw [coms_len]; exact Nat.le_refl _)] at hc; cases hc⟩, kb⟩
set_option maxRecDepth 100000 in
set_option maxHeartbeats 4000000 in
theorem clo_ret (B : Nat) (A : Option Addr) (cap : Nat) (l : List Cv) (i : Nat) (hi : i < l.length) (w : World) (S : SlK w A cap l) (hB : w.cell? ⟨B, 0, none⟩ = some (.slice A l.length cap)) (hl : l.length ≤ 900000) (hK : ShaE.KIn w) :
   Calls Tryz.prog 58 #[.int .i64 i, .pointer (some ⟨B, 0, none⟩)] w fun e w' => e = .returned (.bool (decide (¬ Closed hashK ((coms l).take (i + 1))))) ∧ Below w.heap.size w w' := by
 obtain ⟨A1, c1, hqs, S1⟩ := RowP.ahead S.row (i + 1) hi
 have hq1 : ∀ V, (Instr.sliceAt 35 (.slice A l.length cap) none (some (.int .i64 ((i : Int) + 1))) none).run Tryz.prog V = .ok (.slice A1 (i + 1) c1) V := fun V => hqs V .i64
 have T : SlK w A1 c1 (l.take (i + 1)) := ⟨S1, fun v hv => S.each v (List.mem_of_mem_take hv)⟩
 have hlen : (l.take (i + 1)).length = i + 1 := by rw [List.length_take]; omega
 have q := DhA.closed_ret DhK.known_ret A1 c1 (l.take (i + 1)) w T (by omega) hK
 rw [hlen, show coms (l.take (i + 1)) = (coms l).take (i + 1) from List.map_take ..] at q
 have m1 : IntKind.i64.wrap ((i : Int) + 1) = (i : Int) + 1 := IntWalk.i64_in _ (by omega)
 clear hqs T S S1 hlen hK
 obtain ⟨P, hP⟩ : ∃ P, Closed hashK ((coms l).take (i + 1)) = P := ⟨_, rfl⟩
 rw [hP] at q ⊢
 clear hP
 obtain ⟨b, hb⟩ : ∃ b, decide P = b := ⟨_, rfl⟩
 have hn : decide (¬ P) = !b := by rw [← hb]; by_cases h : P <;> simp [h]
 rw [hb] at q
 rw [hn]
 clear hb hn
 go_enter Tryz.func58, Tryz.ntmps58
 go_wp2_with (first | go_skip)
 refine q.mono ?_
 rintro e w1 ⟨rfl, k1⟩
 clear q hq1 m1
 go_wp2_with (first | go_skip)
 go_ret
 exact ⟨rfl, k1⟩
set_option maxRecDepth 100000 in
set_option maxHeartbeats 8000000 in
theorem search_ret (B : Nat) (A : Option Addr) (cap : Nat) (l : List Cv) (w : World) (S : SlK w A cap l) (hB : w.cell? ⟨B, 0, none⟩ = some (.slice A l.length cap)) (hBl : B < w.heap.size) (hl : l.length ≤ 900000) (hK : ShaE.KIn w)
   (mono : ∀ a b, a ≤ b → b < l.length → ¬ Closed hashK ((coms l).take (a + 1)) → ¬ Closed hashK ((coms l).take (b + 1))) :
   Calls Tryz.prog 57 #[.int .i64 l.length, .func (.func 58) #[] #[.pointer (some ⟨B, 0, none⟩)]] w fun e w' => ∃ k : Nat, e = .returned (.int .i64 k) ∧ k ≤ l.length ∧ (∀ i, i < k → Closed hashK ((coms l).take (i + 1))) ∧ (k < l.length → ¬ Closed hashK ((coms l).take (k + 1))) ∧ Below w.heap.size w w' := by
 have q := fun W (b : Below w.heap.size w W) i hi => clo_ret B A cap l i hi W (S.below b) ((b.cell (p := ⟨B, 0, none⟩) hBl).trans hB) hl (hK.below b)
 have HMO := aside mono
 clear S hB hK mono
 obtain ⟨C, hC⟩ : ∃ C : Nat → Prop, (fun i => Closed hashK ((coms l).take (i + 1))) = C := ⟨_, rfl⟩
 have hC' : ∀ i, Closed hashK ((coms l).take (i + 1)) = C i := fun i => congrFun hC i
 simp only [hC'] at q HMO ⊢
 clear hC hC'
 go_enter Tryz.func57, Tryz.ntmps57
 go_wp2_with (first | go_skip)
 go_loopw [5, 6] (fun x y wr => ∃ i j : Nat, i ≤ j ∧ j ≤ l.length ∧ x = .int .i64 i ∧ y = .int .i64 j ∧ Hid (∀ a, a < i → C a) ∧ Hid (j < l.length → ¬ C j) ∧ Below w.heap.size w wr) (fun x y _ => (intOf y).toNat - (intOf x).toNat)
 case atStart => exact ⟨0, l.length, Nat.zero_le _, Nat.le_refl _, rfl, rfl, aside (fun a h => absurd h (by omega)), aside (fun h => absurd h (by omega)), Below.refl _ _⟩
 case round =>
   obtain ⟨i, j, hij, hj, rfl, rfl, HI, HJ, kb⟩ := hrel
   by_cases hlt : i < j
   · have hm1 : i ≤ (i + j) / 2 := by omega
     have hm2 : (i + j) / 2 < j := by omega
     obtain ⟨m, hm⟩ : ∃ m, (i + j) / 2 = m := ⟨_, rfl⟩
     have m1 : IntKind.i64.wrap ((i : Int) + j) = (i : Int) + j := IntWalk.i64_in _ (by omega)
     have m2 : IntKind.u64.wrap ((i : Int) + j) = (i : Int) + j := by rw [IntKind.wrap_u64]; omega
     have q1 := q wr kb m (by omega)
     go_wp2_with (first | go_skip)
     rw [show ((i : Int) + (j : Int)) / 2 = (m : Int) by omega]
     by_cases h : C m
     · rw [decide_eq_false (fun n => n h)] at q1
       have HH := aside h
       clear h q
       refine q1.mono ?_
       rintro e w1 ⟨rfl, k1⟩
       have m3 : IntKind.i64.wrap ((m : Int) + 1) = (m : Int) + 1 := IntWalk.i64_in _ (by omega)
       clear q1 m1 m2
       go_wp2_with (first | go_skip)
       go_roundw
       case rel => exact ⟨m + 1, j, by omega, hj, by go_num, rfl, aside (fun a ha => Classical.byContradiction fun hn => HMO.out a m (by omega) (by omega) hn HH.out), HJ, kb.trans (k1.mono kb.size)⟩
       case measure => simp [intOf]; omega
     · rw [decide_eq_true h] at q1
       have HH := aside h
       clear h q
       refine q1.mono ?_
       rintro e w1 ⟨rfl, k1⟩
       clear q1 m1 m2
       go_wp2_with (first | go_skip)
       go_roundw
       case rel => exact ⟨i, m, hm ▸ hm1, by omega, rfl, rfl, HI, aside (fun _ => HH.out), kb.trans (k1.mono kb.size)⟩
       case measure => simp [intOf]; omega
   · obtain rfl : i = j := by omega
     go_wp2_with (first | go_skip)
     go_ret
     exact ⟨i, rfl, hj, HI.out, HJ.out, kb⟩
set_option maxRecDepth 100000 in
set_option maxHeartbeats 4000000 in
theorem clip_ret (A : Option Addr) (cap : Nat) (l : List Cv) (w : World) (S : SlK w A cap l) :
   Calls Tryz.prog 30 #[.slice A l.length cap] w fun e w' => (∃ A' cap', e = .returned (.slice A' l.length cap') ∧ SlK w' A' cap' l) ∧ Below w.heap.size w w' := by
 have hcap := S.row.1
 go_enter Tryz.func30, Tryz.ntmps30
 go_wp2_with (first | go_skip)
 go_ret
 exact ⟨⟨A, l.length, rfl, ⟨⟨Nat.le_refl _, Nat.le_trans S.row.1 S.row.2.1, S.row.2.2.imp (fun ⟨a, b, c⟩ => ⟨a, b, by rw [b]; rfl⟩) id⟩, S.each⟩⟩, Below.refl _ _⟩
theorem info_cs : (Tryz.prog.info? 35).map (·.size) = some 1 := by kernel_rfl
theorem one_new (w : World) (v : Value) (t : TypeId) : One (w.alloc (.cells #[v] t)) w.heap.size v := ⟨t, heap_alloc_new w _⟩
set_option maxRecDepth 100000 in
set_option maxHeartbeats 16000000 in
theorem closed_ret (A : Option Addr) (cap : Nat) (l : List Cv) (w : World) (S : SlK w A cap l) (hm : ∀ v ∈ l, mayK v.c = true) (hl : l.length ≤ 900000) (hK : ShaE.KIn w) :
   Calls Tryz.prog 29 #[.slice A l.length cap] w fun e w' => ∃ n : Nat, e = .returned (.int .i64 n) ∧ Best hashK (coms l) n ∧ Below w.heap.size w w' := by
 have hcap := S.row.1
 obtain ⟨W0, hW0⟩ : ∃ W0, w.alloc (.cells #[.slice A l.length cap] 35) = W0 := ⟨_, rfl⟩
 have kb0 : Below w.heap.size w W0 := by rw [← hW0]; exact StW.below_alloc w _
 have O0 : One W0 w.heap.size (.slice A l.length cap) := by rw [← hW0]; exact one_new w _ _
 have HW0 := aside hW0
 clear hW0
 go_enter Tryz.func29, Tryz.ntmps29
 go_wp2_with (first | go_skip)
 rw [HW0.out]
 refine GrowL.region 4 [(0, true), (1, true), (2, false), (3, true), (4, false)] (by kernel_rfl) (by kernel_rfl) rfl (by kernel_rfl) (by intro c a d v w h; cases d <;> exact h) ?_
 have kd := below_drew1 (Below.refl W0.heap.size W0)
 have kb1 := kb0.trans (kd.mono kb0.size)
 have O1 : One W0.drew w.heap.size (.slice A l.length cap) := O0
 generalize W0.drew = wz at kb1 O1 ⊢
 clear O0 kb0 kd HW0
 have hc := Grow.grown (w := wz) (fun u hu => (hu.cell (p := ⟨w.heap.size, 0, none⟩) O1.lt).trans O1.cell)
 have q := inTurn_ret A cap l wz (S.below kb1) hm hl (hK.below kb1)
 (try simp only [Act.put, List.setIfInBounds_toArray, List.set_cons_succ, List.set_cons_zero])
 repeat (first | (refine GrowL.reads rfl rfl ?_; go_big_quiet_step (fail); refine wpQuiet_nil ?_))
 refine GrowL.acts rfl ?_
 go_wp2_with (first | go_skip)
 refine q.mono ?_
 rintro e w1 ⟨t, rfl, ht, k1⟩
 clear q hc
 have b1 := kb1.trans (k1.mono kb1.size)
 have S1 := S.below b1
 have htl : t ≤ l.length := by have := ht.1; rwa [coms_len] at this
 obtain ⟨A2, c2, hqs, S2⟩ := RowP.ahead S1.row t htl
 have hq1 : ∀ V, (Instr.sliceAt 35 (.slice A l.length cap) none (some (.int .i64 (t : Int))) none).run Tryz.prog V = .ok (.slice A2 t c2) V := fun V => hqs V .i64
 have T : SlK w1 A2 c2 (l.take t) := ⟨S2, fun v hv => S1.each v (List.mem_of_mem_take hv)⟩
 have hlen : (l.take t).length = t := by rw [List.length_take]; omega
 have hct : coms (l.take t) = (coms l).take t := List.map_take ..
 have OO := One.below O1 k1
 clear hqs S2 S1 O1
 go_wp2_with (first | go_skip)
 refine ⟨k1, ?_⟩
 (try simp only [Act.put, List.setIfInBounds_toArray, List.set_cons_succ, List.set_cons_zero])
 repeat (first | (refine GrowL.reads rfl rfl ?_; go_big_quiet_step (fail); refine wpQuiet_nil ?_))
 refine GrowL.last rfl ?_
 go_wp2_with (first | go_skip | (refine CmI.wpList_store_one rfl rfl 35 _ _ rfl info_cs w.heap.size rfl _ OO (.slice A2 t c2) rfl rfl rfl ?_; intro w2 O2 f2 g2))
 refine GrowL.done ?_
 have b2 := b1.trans (f2 w.heap.size (Nat.le_refl _))
 have T2 : SlK w2 A2 c2 (l.take t) := by
   have S3 := S.below b2
   obtain ⟨A3, c3, hq3, S4⟩ := RowP.ahead S3.row t htl
   have e := (hq1 w2).symm.trans (hq3 w2 .i64)
   injection e with e
   injection e with e1 _ e3
   subst e1
   subst e3
   exact ⟨S4, fun v hv => S3.each v (List.mem_of_mem_take hv)⟩
 have c2' := O2.cell
 have q := DhA.closed_ret DhK.known_ret A2 c2 (l.take t) w2 T2 (by omega) (hK.below b2)
 rw [hlen, hct] at q
 have HT := aside ht
 have HL := aside hlen
 have HC := aside hct
 have HK := aside (hK.below b2)
 clear hq1 T OO g2 f2 b1 k1 kb1 hK hm ht hlen hct
 go_wp2_with (first | go_skip)
 refine q.mono ?_
 rintro e w3 ⟨rfl, k3⟩
 have b3 := b2.trans (k3.mono b2.size)
 have O3 := One.below O2 k3
 have c3 := O3.cell
 clear q c2'
 by_cases h : Closed hashK ((coms l).take t)
 · rw [decide_eq_true h]
   have HB := aside (best_all HT.out h)
   clear h
   go_wp2_with (first | go_skip)
   go_ret
   exact ⟨t, rfl, HB.out, b3⟩
 · rw [decide_eq_false h]
   have q := search_ret w.heap.size A2 c2 (l.take t) w3 (T2.below k3) (by rw [HL.out]; exact c3) O3.lt (by rw [HL.out]; omega) (HK.out.below k3) (fun a b hab hb hn => by
     rw [HL.out] at hb
     rw [HC.out] at hn ⊢
     exact search_mono HT.out hab hb hn)
   rw [HL.out, HC.out] at q
   have HH := aside h
   clear h
   go_wp2_with (first | go_skip)
   refine q.mono ?_
   rintro e w4 ⟨k, rfl, hk1, hk2, hk3, k4⟩
   have HB := aside (best_search HT.out HH.out hk1 hk2 hk3)
   clear q hk1 hk2 hk3 c3
   go_wp2_with (first | go_skip)
   go_ret
   exact ⟨k, rfl, HB.out, b3.trans (k4.mono b3.size)⟩
end Go.Proofs.YtgoapaanmcmlmaaGreatDoor.StoC
