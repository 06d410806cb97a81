/- WaitTwice's walk: what waits already does not wait twice, and what is taken out and put in again stands behind the others, where package wait's functions return what Put1 and Ready1 say. No condition. -/
import Derived.Test.YteojkfbnenfmkaaDoorDgKJ8
import Derived.Test.YteojkfbnenfmkaaDoorCmRJ6
namespace Go.Proofs.YteojkfbnenfmkaaDoor.WtX
set_option maxRecDepth 100000
open Go Go.Sort Go.RowKit Byt IdM IdW OpsM OpsW CmM StW CmW CmX CmY DgM DgW DgR DgF WtM WtF WtN
open Classical

/-- The laws' own awake. -/
def Aw : Prop := ∀ w : World, ShaE.KIn w → Calls Tryd.prog 8 #[] w fun e w' => e = .returned (.bool true) ∧ Below w.heap.size w w'
theorem mem_putW {l : List Com} {c d : Com} (h : d ∈ putW l c) : d ∈ l ∨ d = c := by
  unfold putW at h
  split at h
  · have := List.mem_of_mem_drop h
    rcases List.mem_append.1 this with h | h
    · exact .inl h
    · exact .inr (List.mem_singleton.1 h)
  · exact .inl h
theorem mem_fold : ∀ (l w : List Com) {d : Com}, d ∈ l.foldl putW w → d ∈ w ∨ d ∈ l
  | [], _, _, h => .inl h
  | c :: l, w, d, h => by
    rcases mem_fold l (putW w c) h with h | h
    · rcases mem_putW h with h | rfl
      · exact .inl h
      · exact .inr List.mem_cons_self
    · exact .inr (List.mem_cons_of_mem _ h)
theorem mem_allW {l : List Com} {d : Com} (h : d ∈ allW l) : d ∈ l := (mem_fold l [] h).elim (fun h => by cases h) id
/-- What comes of few commits of few parents is so, too. -/
theorem few_of {p : List Cv} {L M : List Com} (h : coms p = M) (hm : ∀ d ∈ M, d ∈ L) (hl : M.length ≤ 20) (hp : ∀ d ∈ L, d.ps.length ≤ 20) : Few20 p := by
  refine ⟨by rw [← coms_len, h]; exact hl, fun v hv => hp _ (hm _ ?_)⟩
  rw [← h]
  unfold coms
  exact List.mem_map_of_mem hv
theorem ready_mem {l : List Com} {h : List Idn} {i : Nat} (e : readyI l h = some i) : readyC l h ∈ l ∧ ∀ d ∈ readyR l h, d ∈ l := by
  obtain ⟨c, hc, _, _, h4, h5⟩ := readyI_some e
  rw [h4, h5]
  exact ⟨List.mem_of_getElem? hc, fun d hd => (List.mem_append.1 hd).elim List.mem_of_mem_take List.mem_of_mem_drop⟩
set_option maxRecDepth 100000 in
set_option maxHeartbeats 32000000 in
theorem within (Z : Aw) (X : Put1) (Y : Ready1) (A A' : Option Addr) (cap cap' : Nat) (l : List Cv) (h : List Idn) (w : World) (S : SlK w A cap l) (T : SlI w A' cap' h) (hl : l.length ≤ 7) (hp : ∀ u ∈ l, fewK u.c = true) (hh : h.length ≤ 20) (hK : ShaE.KIn w) :
    Calls Tryd.prog 6 #[.slice A l.length cap, .slice A' h.length cap'] w fun e w' => e = .returned (.bool true) ∧ Below w.heap.size w w' := by
  have qa := Z _ hK
  have hfl : fewD (coms l) 7 = true := by
    unfold fewD
    rw [Bool.and_eq_true, decide_eq_true_eq, coms_len]
    exact ⟨by omega, List.all_eq_true.2 fun c hc => by unfold coms at hc; obtain ⟨u, hu, rfl⟩ := List.mem_map.1 hc; exact hp u hu⟩
  have q1 := fun W S => DgR.few_ret A cap l 7 W S
  rw [hfl] at q1
  have HPL : Hid (∀ d ∈ coms l, d.ps.length ≤ 20) := aside (fun d hd => by unfold coms at hd; obtain ⟨u, hu, rfl⟩ := List.mem_map.1 hd; exact (fewK_iff.1 (hp u hu)).1)
  have hlc : (coms l).length ≤ 7 := by rw [coms_len]; exact hl
  have HLC := aside hlc
  obtain ⟨i1, i2, i3, i4⟩ := allW_is hlc
  have HN := aside i1
  have HW := aside i2
  have H7 := aside i3
  have HS := aside i4
  have hnh : ¬ (20 : Int) < (h.length : Int) := by omega
  have HH := aside hh
  clear hfl hp hlc i1 i2 i3 i4 hh
  go_enter Tryd.func6, Tryd.ntmps6
  go_wp2_with (first | go_skip)
  refine qa.mono ?_
  rintro e w1 ⟨rfl, b1⟩
  clear qa
  go_wp2_with (first | go_skip)
  refine (q1 _ (S.below b1)).mono ?_
  rintro e w2 ⟨rfl, k2⟩
  have b2 := b1.trans (k2.mono b1.size)
  clear q1 b1 k2
  go_wp2_with (first | go_skip)
  go_loopw [7, 8] (fun o i wr => ∃ (k : Nat) (p : List Cv) (A1 : Option Addr) (c1 : Nat), k ≤ l.length ∧ i = .int .i64 k ∧ o = .slice A1 p.length c1 ∧ Hid (SlK wr A1 c1 p) ∧ Hid (coms p = allW ((coms l).take k)) ∧ Below w.heap.size w wr) (fun _ i _ => l.length - (intOf i).toNat)
  case atStart => exact ⟨0, [], none, 0, Nat.zero_le _, rfl, rfl, aside (SlK.nil _), aside (by rw [List.take_zero]; rfl), b2⟩
  case round =>
    clear b2
    obtain ⟨k, p, A1, c1, hk, rfl, rfl, HP, HC, kb⟩ := hrel
    by_cases hlt : k < l.length
    · obtain ⟨b, off, rfl, hbw, hrg⟩ := S.plain (by omega)
      obtain ⟨x, hx⟩ : ∃ x, l[k]? = some x := ⟨_, List.getElem?_eq_getElem hlt⟩
      have hxm := List.mem_of_getElem? hx
      have rx := range_on (hrg k x hx) kb
      have p0 : (k : Int) < l.length := by omega
      have m0 : ((k : Int)).toNat = k := by omega
      have hxl : x.c ∈ coms l := by unfold coms; exact List.mem_map_of_mem hxm
      have hF : Few20 p := few_of HC.out (fun d hd => List.mem_of_mem_take (mem_allW hd)) (by
        have := (allW_is (l := (coms l).take k) (by rw [List.length_take, coms_len]; omega)).2.2.1
        omega) HPL.out
      have r1 := X.put A1 c1 p x wr HP.out hF ((S.each x hxm).1.below kb) (S.each x hxm).2 (HPL.out _ hxl) (hK.below kb)
      rw [HC.out, ← allW_step (coms_at hx)] at r1
      unfold NewC at r1
      clear hrg hx hxm hxl hF
      go_wp2_with (first | go_skip | (refine load_at rfl _ rfl _ _ rfl x rx ?_))
      refine r1.mono ?_
      rintro e w3 ⟨A3, c3, p3, rfl, S3, h3, k3⟩
      have H3 := aside h3
      have HS3 := aside S3
      have b3 := kb.trans (k3.mono kb.size)
      clear r1 h3 S3 HP HC kb rx
      go_wp2_with (first | go_skip)
      go_roundw
      case rel => exact ⟨k + 1, p3, A3, c3, by omega, by go_num, rfl, HS3, H3, b3⟩
      case measure => simp [intOf]; omega
    · obtain rfl : k = l.length := by omega
      have hC := HC.out
      rw [List.take_of_length_le (by rw [coms_len]; omega)] at hC
      have HCW := aside hC
      have HF : Hid (Few20 p) := aside (few_of hC (fun d hd => mem_allW hd) (by have := H7.out; omega) HPL.out)
      clear HC hC
      go_wp2_with (first | go_skip)
      go_loopw [9] (fun i wq => ∃ k : Nat, k ≤ l.length ∧ i = .int .i64 k ∧ Below wr.heap.size wr wq) (fun i _ => l.length - (intOf i).toNat)
      case atStart => exact ⟨0, Nat.zero_le _, rfl, Below.refl _ _⟩
      case round =>
        rename World => wq
        obtain ⟨k, hk2, rfl, kc⟩ := hrel
        have kb2 := kb.trans (kc.mono kb.size)
        have SP := HP.out.below kc
        by_cases hlt2 : k < l.length
        · obtain ⟨b, off, rfl, hbw, hrg⟩ := S.plain (by omega)
          obtain ⟨x, hx⟩ : ∃ x, l[k]? = some x := ⟨_, List.getElem?_eq_getElem hlt2⟩
          have hxm := List.mem_of_getElem? hx
          have rx := range_on (hrg k x hx) kb2
          have p0 : (k : Int) < l.length := by omega
          have m0 : ((k : Int)).toNat = k := by omega
          have hxl : x.c ∈ coms l := by unfold coms; exact List.mem_map_of_mem hxm
          have r1 := X.put A1 c1 p x wq SP HF.out ((S.each x hxm).1.below kb2) (S.each x hxm).2 (HPL.out _ hxl) (hK.below kb2)
          rw [HCW.out, HS.out _ hxl] at r1
          unfold NewC at r1
          clear hrg hx hxm hxl
          go_wp2_with (first | go_skip | (refine load_at rfl _ rfl _ _ rfl x rx ?_))
          refine r1.mono ?_
          rintro e w3 ⟨A3, c3, p3, rfl, S3, h3, k3⟩
          have ql := DgR.list_ret A3 A1 c3 c1 p3 p w3 S3 (SP.below k3)
          rw [listB_iff.2 (h3.trans HCW.out.symm)] at ql
          clear r1 h3 S3 rx
          go_wp2_with (first | go_skip)
          refine ql.mono ?_
          rintro e w4 ⟨rfl, k4⟩
          have b4 := (kc.trans (k3.mono kc.size)).trans (k4.mono (Nat.le_trans kc.size k3.size))
          clear ql k3 k4
          go_wp2_with (first | go_skip)
          go_roundw
          case rel => exact ⟨k + 1, by omega, by go_num, b4⟩
          case measure => simp [intOf]; omega
        · obtain rfl : k = l.length := by omega
          have r2 := Y.ready A1 A' c1 cap' p h wq SP HF.out (T.below kb2) HH.out (hK.below kb2)
          rw [HCW.out] at r2
          unfold ReadyOut at r2
          go_wp2_with (first | go_skip)
          refine r2.mono ?_
          rintro e w8 ⟨v8, A8, c8, p8, rfl, hv8, I8, F8, hp8, S8, k8⟩
          have HV8 := aside hv8
          have HP8 := aside hp8
          have b8 := kb2.trans (k8.mono kb2.size)
          have SP8 := SP.below k8
          clear r2 hv8 hp8 k8 SP kc
          cases hR : readyI (allW (coms l)) h with
          | none =>
            clear hR
            go_wp2_with (first | go_skip | (refine Cel.wpList_store_new CE rfl _ _ rfl w8 _ _ rfl v8 _ rfl rfl rfl rfl ?_; intro w9 B9 k9 g9 s9; have b9 := b8.trans (k9.mono b8.size); clear g9 s9))
            go_ret
            exact ⟨rfl, b9⟩
          | some i =>
            obtain ⟨e1, e2⟩ := again HN.out HW.out H7.out hR
            obtain ⟨m1, m2⟩ := ready_mem hR
            have hcl := mem_allW m1
            have hF8 : Few20 p8 := few_of HP8.out (fun d hd => mem_allW (m2 d hd)) (by have := H7.out; omega) HPL.out
            have r3 := fun W S I K => X.put A8 c8 p8 v8 W S hF8 I F8 (by rw [HV8.out]; exact HPL.out _ hcl) K
            rw [HP8.out, HV8.out, e1] at r3
            unfold NewC at r3
            have HE2 : Hid (p8.length + 1 = p.length) := aside (by rw [← coms_len p8, ← coms_len p, HP8.out, HCW.out]; exact e2)
            clear hR e1 e2 m1 m2 hcl hF8
            go_wp2_with (first | go_skip | (refine Cel.wpList_store_new CE rfl _ _ rfl w8 _ _ rfl v8 _ rfl rfl rfl rfl ?_; intro w9 B9 k9 g9 s9; have b9 := b8.trans (k9.mono b8.size); have S9 := S8.below k9; have I9 := I8.below k9; clear g9 s9 S8 I8 k9 b8) | (refine Cel.wpList_load_box CE rfl _ rfl _ rfl v8 B9 ?_))
            refine (r3 _ S9 I9 (hK.below b9)).mono ?_
            rintro e wa ⟨Aa, ca, pa, rfl, Sa, ha, ka⟩
            have Sb := S9.below ka
            have ba := b9.trans (ka.mono b9.size)
            have HA := aside ha
            have HPA : Hid (pa.length = p.length) := aside (by
              have := congrArg List.length ha
              rw [coms_len, List.length_append, ← HP8.out, coms_len, List.length_singleton] at this
              rw [this]
              exact HE2.out)
            clear r3 S9 B9 I9 ka b9 ha
            have hd : pa.length - 1 + 1 = pa.length := by have := HPA.out; have := HE2.out; omega
            obtain ⟨d, hd⟩ : ∃ d, pa.length = d + 1 := ⟨_, hd.symm⟩
            have HD := aside hd
            have hdl : d ≤ pa.length := by omega
            obtain ⟨Ab, cb, hq, Sp⟩ := RowP.ahead Sa.row d hdl
            have e1 : ∀ W, (Instr.sliceAt 22 (.slice Aa pa.length ca) none (some (.int .i64 (d : Int))) none).run Tryd.prog W = .ok (.slice Ab d cb) W := fun W => hq W .i64
            have Sp : SlK wa Ab cb (pa.take d) := ⟨Sp, fun v hv => Sa.each v (List.mem_of_mem_take hv)⟩
            have hpl : (pa.take d).length = d := by rw [List.length_take]; omega
            have ql := DgR.list_ret Ab A8 cb c8 (pa.take d) p8 wa Sp Sb
            rw [hpl, listB_iff.2 (by
              unfold coms at *
              rw [List.map_take, HA.out, ← HP8.out]
              have h1 : p8.length = d := by have := HPA.out; have := HE2.out; omega
              rw [List.take_append_of_le_length (by rw [List.length_map]; omega), List.take_of_length_le (by rw [List.length_map]; omega)])] at ql
            have m1 : IntKind.i64.wrap ((pa.length : Int) - 1) = (d : Int) := by
              have := pa.length
              rw [show (pa.length : Int) - 1 = (d : Int) by omega]
              exact IntWalk.i64_in _ (by have := HPA.out; have := HCW.out; have := congrArg List.length HCW.out; rw [coms_len] at this; have := H7.out; omega)
            have n1 : ((pa.length : Int) == (p.length : Int)) = true := by rw [HPA.out]; simp
            have n3 : ((pa.length : Int) != (p.length : Int)) = false := by rw [HPA.out]; simp
            have n4 : decide (pa.length = p.length) = true := decide_eq_true HPA.out
            have n2 : ¬ (pa.length : Int) = 0 := by omega
            clear hq Sa hd hdl hpl
            go_wp2_with (first | go_skip)
            refine ql.mono ?_
            rintro e wb ⟨rfl, kb9⟩
            have bb := ba.trans (kb9.mono ba.size)
            clear ql
            go_wp2_with (first | go_skip)
            go_ret
            exact ⟨rfl, bb⟩
set_option maxRecDepth 100000 in
set_option maxHeartbeats 16000000 in
theorem no_list (Z : Aw) (A A' : Option Addr) (cap cap' : Nat) (l : List Cv) (h : List Idn) (w : World) (S : SlK w A cap l) (hfl : fewD (coms l) 7 = false) (hK : ShaE.KIn w) :
    Calls Tryd.prog 6 #[.slice A l.length cap, .slice A' h.length cap'] w fun e w' => e = .returned (.bool true) ∧ Below w.heap.size w w' := by
  have qa := Z _ hK
  have q1 := fun W S => DgR.few_ret A cap l 7 W S
  rw [hfl] at q1
  go_enter Tryd.func6, Tryd.ntmps6
  go_wp2_with (first | go_skip)
  refine qa.mono ?_
  rintro e w1 ⟨rfl, b1⟩
  clear qa
  go_wp2_with (first | go_skip)
  refine (q1 _ (S.below b1)).mono ?_
  rintro e w2 ⟨rfl, k2⟩
  have b2 := b1.trans (k2.mono b1.size)
  clear q1 b1 k2
  go_wp2_with (first | go_skip)
  go_ret
  exact ⟨rfl, b2⟩
set_option maxRecDepth 100000 in
set_option maxHeartbeats 16000000 in
theorem no_ids (Z : Aw) (A A' : Option Addr) (cap cap' : Nat) (l : List Cv) (h : List Idn) (w : World) (S : SlK w A cap l) (hfl : fewD (coms l) 7 = true) (hh : 20 < h.length) (hK : ShaE.KIn w) :
    Calls Tryd.prog 6 #[.slice A l.length cap, .slice A' h.length cap'] w fun e w' => e = .returned (.bool true) ∧ Below w.heap.size w w' := by
  have qa := Z _ hK
  have q1 := fun W S => DgR.few_ret A cap l 7 W S
  rw [hfl] at q1
  have p0 : (20 : Int) < (h.length : Int) := by omega
  go_enter Tryd.func6, Tryd.ntmps6
  go_wp2_with (first | go_skip)
  refine qa.mono ?_
  rintro e w1 ⟨rfl, b1⟩
  clear qa
  go_wp2_with (first | go_skip)
  refine (q1 _ (S.below b1)).mono ?_
  rintro e w2 ⟨rfl, k2⟩
  have b2 := b1.trans (k2.mono b1.size)
  clear q1 b1 k2
  go_wp2_with (first | go_skip)
  go_ret
  exact ⟨rfl, b2⟩
theorem walk (Z : Aw) (X : Put1) (Y : Ready1) (A : Option Addr) (cap : Nat) (l : List Cv) (A' : Option Addr) (cap' : Nat) (h : List Idn) (w : World) (S : SlK w A cap l) (T : SlI w A' cap' h) (hK : ShaE.KIn w) :
    Calls Tryd.prog 6 #[.slice A l.length cap, .slice A' h.length cap'] w fun e w' => e = .returned (.bool true) ∧ Below w.heap.size w w' := by
  cases hfl : fewD (coms l) 7 with
  | false => exact no_list Z A A' cap cap' l h w S hfl hK
  | true =>
    by_cases hh : h.length ≤ 20
    · have hfl2 := hfl
      unfold fewD at hfl2
      rw [Bool.and_eq_true, decide_eq_true_eq, coms_len] at hfl2
      exact within Z X Y A A' cap cap' l h w S T (by omega) (fun u hu => List.all_eq_true.1 hfl2.2 _ (List.mem_map_of_mem (f := (·.c)) hu)) hh hK
    · exact no_ids Z A A' cap cap' l h w S hfl (by omega) hK
end Go.Proofs.YteojkfbnenfmkaaDoor.WtX
