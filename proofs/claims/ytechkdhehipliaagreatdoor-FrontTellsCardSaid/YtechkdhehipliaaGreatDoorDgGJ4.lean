/- What the document's Find of package dag returns: a contract. | What the five functions of package front return, as the walks need it; what they are on the chapter's two commits. No condition. | What the walks of the laws of package front lean on. No condition. | FrontGen's walk, over contracts: a head that is a commit has the greatest generation, one that is a merge one more, and the last ones as parents. No condition. -/
import Derived.Test.YtechkdhehipliaaGreatDoorDgR
import Derived.Test.YtechkdhehipliaaGreatDoorFrJ
import Derived.Test.YtechkdhehipliaaGreatDoorDgF
namespace Go.Proofs.YtechkdhehipliaaGreatDoor.DgG
set_option maxRecDepth 100000
open Go Go.Sort Go.RowKit Byt IdM IdW OpsM OpsW CmM StW CmW CmX CmY DgM DgN DgW DgR

/-- The first one whose id it is. -/
def findC (l : List Com) (a : Idn) : Option Com := l.find? fun c => mayK c && decide (hashK c = a)
def FoundC (q : Option Com) (w : World) (e : Ending) (w' : World) : Prop := ∃ v, e = .returned (.tuple #[.agg (cc v), .bool q.isSome]) ∧ v.c = q.getD noK ∧ CmW.In w' v ∧ Fit v.c ∧ Below w.heap.size w w'
theorem findC_yes {l : List Cv} {a : Idn} {k : Nat} {x : Cv} (h : l[k]? = some x) (hm : mayK x.c = true) (hh : hashK x.c = a) : findC (coms (l.drop k)) a = some x.c := by
  rw [drop_at h]
  unfold findC coms
  rw [List.map_cons, List.find?_cons_of_pos (by rw [hm, hh]; simp)]
theorem findC_no {l : List Cv} {a : Idn} {k : Nat} {x : Cv} (h : l[k]? = some x) (hm : mayK x.c = true → hashK x.c ≠ a) : findC (coms (l.drop k)) a = findC (coms (l.drop (k + 1))) a := by
  rw [drop_at h]
  unfold findC coms
  rw [List.map_cons, List.find?_cons_of_neg]
  intro hc
  rw [Bool.and_eq_true, decide_eq_true_eq] at hc
  exact hm hc.1 hc.2
theorem results_cb {fn : Func} {p q : Tmp} (h : fn.results = #[.cell p 38, .tmp q]) (tmps : Array Value) (w : World) (g : Nat) (v : Cv) (x : Value)
    (hp : tmps.getD p undef = .pointer (some ⟨g, 0, none⟩)) (hq : tmps.getD q undef = x) (hg : Cel.Box CE w g v) : (results fn tmps).run Tryz.prog w = .ok (.tuple #[.agg (cc v), x]) w := by
  obtain ⟨t, ht⟩ := hg
  have hp' : tmps[p]?.getD undef = .pointer (some ⟨g, 0, none⟩) := by simpa using hp
  have hq' : tmps[q]?.getD undef = x := by simpa using hq
  have hl := run_loadVar_row w g t 38 (CE.enc v).toArray (0, 0) _ ht CE.under CE.row (CE.size' v)
  simp [results, h, hp', hq', asAddr, hl]
  rfl
theorem fit_noK : CmW.Fit noK := ⟨by unfold I64; decide, by unfold I64; decide, by unfold I64; decide, by constructor <;> first | (unfold I64; decide) | decide⟩
set_option maxRecDepth 100000 in
set_option maxHeartbeats 8000000 in
theorem find_ret (A : Option Addr) (cap : Nat) (l : List Cv) (a : Idn) (w : World) (S : SlK w A cap l) (ho : ∀ v ∈ l, CmR.Okay v.c) (hl : l.length ≤ 1000) :
    Calls Tryz.prog 27 #[.slice A l.length cap, .agg (cs a)] w (FoundC (findC (coms l) a) w) := by
  have hmax := S.len
  obtain ⟨r, hr⟩ : ∃ r, findC (coms l) a = r := ⟨_, rfl⟩
  have HR : Hid (r = findC (coms (l.drop 0)) a) := aside hr.symm
  rw [hr]
  clear hr
  unfold FoundC
  have z1 : (w.alloc (.cells (cs a) 42)).heap.size = w.heap.size + 1 := by simp
  have B1 : IdW.Box ((w.alloc (.cells (cs a) 42)).alloc (.cells (cc noV) 38)) w.heap.size a := (IdW.Box.new w a _).alloc _
  have C1 : Cel.Box CE ((w.alloc (.cells (cs a) 42)).alloc (.cells (cc noV) 38)) (w.heap.size + 1) noV := by
    rw [← z1]
    exact Cel.Box.new (E := CE) _ noV _
  have kb : Below w.heap.size w ((w.alloc (.cells (cs a) 42)).alloc (.cells (cc noV) 38)) := ((Below.refl _ _).alloc (Nat.le_refl _) _).alloc (by simp) _
  clear z1
  go_enter Tryz.func27, Tryz.ntmps27
  go_wp2_with (first | go_skip)
  go_loopw [6] (fun i wr => ∃ k : Nat, k ≤ l.length ∧ i = .int .i64 k ∧ Hid (r = findC (coms (l.drop k)) a) ∧ IdW.Box wr w.heap.size a ∧ Cel.Box CE wr (w.heap.size + 1) noV ∧ Below w.heap.size w wr) (fun i _ => l.length - (intOf i).toNat)
  case atStart => exact ⟨0, Nat.zero_le _, rfl, HR, B1, C1, kb⟩
  case round =>
    clear HR B1 C1 kb
    obtain ⟨k, hk, rfl, HR, B1, C1, kb⟩ := hrel
    by_cases hlt : k < l.length
    · obtain ⟨b, off, rfl, hbw, hrg⟩ := S.plain (by omega)
      obtain ⟨x, hx⟩ : ∃ x, l[k]? = some x := ⟨_, List.getElem?_eq_getElem hlt⟩
      have rx0 := hrg k x hx
      have rx := range_on rx0 kb
      have p0 : (k : Int) < l.length := by omega
      have m0 : ((k : Int)).toNat = k := by omega
      have hxm := List.mem_of_getElem? hx
      have IX := (S.each x hxm).1
      have HF := aside (S.each x hxm).2
      have hc := hash_doc x _ (IX.below kb) (ho x hxm)
      unfold HashOut at hc
      have HX := aside hx
      clear hrg hx hxm
      obtain ⟨n, hn⟩ : ∃ n, putN x.c = n := ⟨_, rfl⟩
      obtain ⟨y, hy⟩ : ∃ y, hashI x.c = y := ⟨_, rfl⟩
      have HN : Hid (mayK x.c = true ∧ n = 0 ∧ hashK x.c = y ∨ mayK x.c = false ∧ n = 1) := aside (by
        cases hm : mayK x.c with
        | false => exact .inr ⟨rfl, by rw [← hn, (putB_no hm).2.1]⟩
        | true => exact .inl ⟨rfl, by rw [← hn, (putB_yes hm).2.1], by rw [← hy, (putB_yes hm).2.2]⟩)
      rw [hn, hy] at hc
      clear hn hy
      go_wp2_with (first | go_skip | (refine load_at rfl _ rfl _ _ rfl x rx ?_))
      refine hc.mono ?_
      rintro e w1 ⟨rfl, k1⟩
      have b1 := kb.trans (k1.mono kb.size)
      have B2 := B1.below k1 B1.lt
      have C2 := C1.below k1
      clear hc kb k1 rx B1 C1
      rcases HN.out with ⟨hm, rfl, hh⟩ | ⟨hm, rfl⟩
      · have heq := fun W => IdW.equal W 9998 y a
        by_cases hya : y = a
        · have HE : Hid (r = some x.c) := aside (by rw [HR.out]; exact findC_yes HX.out hm (hh.trans hya))
          simp only [hya, decide_true] at heq
          subst hya
          clear HN HR hm hh
          go_wp2_with (first | go_skip | (refine IdJ.wpList_alloc_id rfl rfl ?_) | (refine CmG.wpList_store_id rfl _ _ rfl _ nought _ rfl y _ rfl rfl rfl ?_; intro w2 G2 k2 s2; have b2 := b1.trans (k2.mono b1.size); have B3 := B2.below k2 B2.lt; have C3 := C2.below k2; have rx2 := range_on rx0 b2) | (refine CmY.gid _ rfl _ _ rfl y G2.range rfl ?_) | (refine CmY.gid _ rfl _ _ rfl y B3.range rfl ?_) | (refine load_at rfl _ rfl _ _ rfl x rx2 ?_) | (refine Cel.wpList_store_box CE rfl _ _ rfl (w.heap.size + 1) rfl noV C3 x rfl ?_; intro w9 R9 f9 g9 s9))
          have b9 := b2.trans (f9 w.heap.size (by omega))
          exact bodyPost_ret (v := .tuple #[.agg (cc x), .bool true]) (results_cb Tryz.results27 _ _ (w.heap.size + 1) x _ rfl rfl R9) rfl ⟨x, by rw [HE.out]; rfl, by rw [HE.out]; rfl, IX.below b9, HF.out, b9⟩
        · have HE : Hid (r = findC (coms (l.drop (k + 1))) a) := aside (by rw [HR.out]; exact findC_no HX.out fun _ h => hya (hh.symm.trans h))
          simp only [hya, decide_false] at heq
          clear HN HR hm hh
          go_wp2_with (first | go_skip | (refine IdJ.wpList_alloc_id rfl rfl ?_) | (refine CmG.wpList_store_id rfl _ _ rfl _ nought _ rfl y _ rfl rfl rfl ?_; intro w2 G2 k2 s2; have b2 := b1.trans (k2.mono b1.size); have B3 := B2.below k2 B2.lt; have C3 := C2.below k2) | (refine CmY.gid _ rfl _ _ rfl y G2.range rfl ?_) | (refine CmY.gid _ rfl _ _ rfl a B3.range rfl ?_))
          go_roundw
          case rel => exact ⟨k + 1, by omega, by go_num, HE, B3, C3, b2⟩
          case measure => simp [intOf]; omega
      · have HE : Hid (r = findC (coms (l.drop (k + 1))) a) := aside (by rw [HR.out]; exact findC_no HX.out fun h => by rw [hm] at h; cases h)
        clear HN HR hm
        go_wp2_with (first | go_skip | (refine IdJ.wpList_alloc_id rfl rfl ?_) | (refine CmG.wpList_store_id rfl _ _ rfl _ nought _ rfl y _ rfl rfl rfl ?_; intro w2 G2 k2 s2; have b2 := b1.trans (k2.mono b1.size); have B3 := B2.below k2 B2.lt; have C3 := C2.below k2))
        go_roundw
        case rel => exact ⟨k + 1, by omega, by go_num, HE, B3, C3, b2⟩
        case measure => simp [intOf]; omega
    · have pn : ¬ (k : Int) < l.length := by omega
      have HE : Hid (r = none) := aside (by rw [HR.out, List.drop_of_length_le (by omega)]; rfl)
      clear HR
      go_wp2_with (first | go_skip | (refine Cel.wpList_store_box CE rfl _ _ rfl (w.heap.size + 1) rfl noV C1 noV rfl ?_; intro w9 R9 f9 g9 s9))
      exact bodyPost_ret (v := .tuple #[.agg (cc noV), .bool false]) (results_cb Tryz.results27 _ _ (w.heap.size + 1) noV _ rfl rfl R9) rfl ⟨noV, by rw [HE.out]; rfl, by rw [HE.out]; rfl, CmW.In.none _, fit_noK, kb.trans (f9 _ (by omega))⟩
end Go.Proofs.YtechkdhehipliaaGreatDoor.DgG
namespace Go.Proofs.YtechkdhehipliaaGreatDoor.FrH
set_option maxRecDepth 100000
open Go Go.Sort Go.RowKit Byt IdM IdW OpsM OpsW CmM StW CmW CmX CmY CmA DgM DgW DgR DgF DgG FrM FrN FrJ
open Classical

noncomputable def frontC (l : List Com) : List Idn := if Closed hashK l then front hashK l else []
noncomputable def joinC (l : List Com) (a : List Idn) : Option Com := join hashK l a
noncomputable def headC (l : List Com) : Option Com := head hashK l
noncomputable def baseC (l : List Com) (a b : List Idn) : List Idn := common (ancC l a) (ancC l b)
noncomputable def nextC (l : List Com) (ev : Ev) (o : Opn) : Option Com := next hashK l ev.node ev.seq o
/-- What those of package dag return that the laws of package front call. -/
structure Three : Prop where
  ids : ∀ (A : Option Addr) (cap : Nat) (l : List Cv) (w : World), SlK w A cap l → (∀ v ∈ l, CmR.Okay v.c) → l.length ≤ 1000 → ShaE.KIn w → Calls Tryz.prog 15 #[.slice A l.length cap] w (NewD (idsD (coms l)) w)
  closed : ∀ (A : Option Addr) (cap : Nat) (l : List Cv) (w : World), SlK w A cap l → (∀ v ∈ l, CmR.Okay v.c) → l.length ≤ 1000 → ShaE.KIn w → Calls Tryz.prog 25 #[.slice A l.length cap] w fun e w' => e = .returned (.bool (decide (Closed hashK (coms l)))) ∧ Below w.heap.size w w'
  anc : ∀ (A A' : Option Addr) (cap cap' : Nat) (l : List Cv) (a : List Idn) (w : World), SlK w A cap l → SlI w A' cap' a → (∀ v ∈ l, CmR.Okay v.c) → l.length ≤ 1000 → a.length ≤ 1000 → ShaE.KIn w → Calls Tryz.prog 18 #[.slice A l.length cap, .slice A' a.length cap'] w (NewD (ancC (coms l) a) w)
/-- What the five functions return, where each of the commits is short and they are few. -/
structure Five : Prop where
  front : ∀ (A : Option Addr) (cap : Nat) (l : List Cv) (w : World), SlK w A cap l → (∀ v ∈ l, CmR.Okay v.c) → l.length ≤ 100 → ShaE.KIn w → Calls Tryz.prog 33 #[.slice A l.length cap] w (NewD (frontC (coms l)) w)
  join : ∀ (A A' : Option Addr) (cap cap' : Nat) (l : List Cv) (a : List Idn) (w : World), SlK w A cap l → SlI w A' cap' a → (∀ v ∈ l, CmR.Okay v.c) → l.length ≤ 100 → a.length ≤ 100 → ShaE.KIn w → Calls Tryz.prog 37 #[.slice A l.length cap, .slice A' a.length cap'] w (FoundC (joinC (coms l) a) w)
  head : ∀ (A : Option Addr) (cap : Nat) (l : List Cv) (w : World), SlK w A cap l → (∀ v ∈ l, CmR.Okay v.c) → l.length ≤ 100 → ShaE.KIn w → Calls Tryz.prog 39 #[.slice A l.length cap] w (FoundC (headC (coms l)) w)
  base : ∀ (A A1 A2 : Option Addr) (cap cap1 cap2 : Nat) (l : List Cv) (a b : List Idn) (w : World), SlK w A cap l → SlI w A1 cap1 a → SlI w A2 cap2 b → (∀ v ∈ l, CmR.Okay v.c) → l.length ≤ 100 → a.length ≤ 100 → b.length ≤ 100 → ShaE.KIn w → Calls Tryz.prog 35 #[.slice A l.length cap, .slice A1 a.length cap1, .slice A2 b.length cap2] w (NewD (baseC (coms l) a b) w)
  next : ∀ (A : Option Addr) (cap : Nat) (l : List Cv) (ev : Ev) (o : Opn) (w : World), SlK w A cap l → (∀ v ∈ l, CmR.Okay v.c) → l.length ≤ 100 → CmR.Okay ⟨ev.node, ev.seq, 0, [], o⟩ → ShaE.KIn w → Calls Tryz.prog 41 #[.slice A l.length cap, .agg (ec ev), .agg (opc o)] w (FoundC (nextC (coms l) ev o) w)
theorem front_two : (frontC pair).length = 2 := by
  unfold frontC
  rw [if_pos closed_pair, front_pair]
  rfl
theorem base_two {a : List Idn} : baseC pair a [] = [] := by
  unfold baseC ancC
  rw [if_pos closed_pair, if_pos closed_pair, anc_nil]
  refine rising_uniq (rising_common _ _) (by simp [Rising]) fun x => ?_
  rw [mem_common]
  simp
end Go.Proofs.YtechkdhehipliaaGreatDoor.FrH
namespace Go.Proofs.YtechkdhehipliaaGreatDoor.FrU
set_option maxRecDepth 100000
open Go Go.Sort Go.RowKit Byt IdM IdW OpsM OpsW CmM StW CmW CmX CmY CmA DgM DgW DgR DgC DgF DgG FrM FrN FrJ FrH
open Classical

abbrev AwakeRet : Prop := ∀ w : World, ShaE.KIn w → Calls Tryz.prog 32 #[] w fun e w' => e = .returned (.bool true) ∧ Below w.heap.size w w'
abbrev SortRet : Prop := ∀ (A : Option Addr) (cap : Nat) (l : List Idn) (w : World), SlI w A cap l → l.length ≤ 1000 → Calls Tryz.prog 46 #[.slice A l.length cap] w (NewI (IdM.sort l) w)
theorem okay_few {l : List Cv} {m : Int} (S : ∀ v ∈ l, Fit v.c) (h : fewD (coms l) m = true) : (∀ v ∈ l, CmR.Okay v.c) ∧ (l.length : Int) ≤ m := by
  unfold fewD at h
  rw [Bool.and_eq_true, decide_eq_true_eq, coms_len, List.all_eq_true] at h
  refine ⟨fun v hv => ?_, h.1⟩
  exact CmX.okay (h.2 v.c (List.mem_map_of_mem hv)) (S v hv)
theorem anc_of {l : List Com} (C : Closed hashK l) (a : List Idn) : ancC l a = anc hashK l a := by rw [ancC, if_pos C]
theorem front_of {l : List Com} (C : Closed hashK l) : frontC l = front hashK l := by rw [frontC, if_pos C]
theorem all_ids {l : List Com} (C : Closed hashK l) : idsD l = l.map hashK := by rw [idsD, if_pos (closed_may C)]
theorem anc_short {l : List Com} (C : Closed hashK l) (a : List Idn) : (anc hashK l a).length ≤ l.length := by
  rw [← part_len C]
  exact List.length_filter_le _ _
end Go.Proofs.YtechkdhehipliaaGreatDoor.FrU
namespace Go.Proofs.YtechkdhehipliaaGreatDoor.FrE
set_option maxRecDepth 100000
open Go Go.Sort Go.RowKit Byt IdM IdW OpsM OpsW CmM StW CmW CmX CmY CmA DgM DgW DgR DgF DgG FrM FrN FrJ FrH FrU 
open Classical

theorem head_cases {l : List Com} (C : Closed hashK l) (hl : l.length ≤ 1000) :
    (l.length = 0 ∧ (frontC l).length < 2 ∧ headC l = none ∧ most (l.map (·.gen)) = 0) ∨ (0 < l.length ∧ (frontC l).length < 2 ∧ ∃ c, headC l = some c ∧ c.gen = most (l.map (·.gen))) ∨
    (2 ≤ (frontC l).length ∧ ∃ c, headC l = some c ∧ isM c = true ∧ c.ps = frontC l ∧ c.gen = most (l.map (·.gen)) + 1 ∧ 0 ≤ most (l.map (·.gen)) ∧ most (l.map (·.gen)) ≤ 1000) := by
  unfold headC
  rw [front_of C]
  match hf : front hashK l with
  | [] =>
    have h := (front_nil C).1 hf
    exact .inl ⟨by rw [h]; rfl, by simp, (head_nil C hf).1, (head_nil C hf).2⟩
  | [x] =>
    obtain ⟨c, hc, _, h1, h2⟩ := head_one C hf
    exact .inr (.inl ⟨List.length_pos_of_mem hc, by simp, c, h1, h2⟩)
  | x :: y :: f =>
    have h2 : 2 ≤ (front hashK l).length := by rw [hf]; simp
    obtain ⟨h3, h4, h5⟩ := head_many C hl h2
    rw [← hf]
    refine .inr (.inr ⟨h2, _, h3, h4, rfl, h5, DgX.most_nonneg _, DgX.most_le (by omega) fun g hg => ?_⟩)
    obtain ⟨c, hc, rfl⟩ := List.mem_map.1 hg
    have := (gen_len C c hc).2
    show c.gen ≤ 1000
    omega
theorem most_more {l : List Com} {k : Nat} {x : Com} (hx : l[k]? = some x) : most ((l.take (k + 1)).map (·.gen)) = max (most ((l.take k).map (·.gen))) x.gen := by
  obtain ⟨hk, e⟩ := List.getElem?_eq_some_iff.1 hx
  rw [List.take_succ_eq_append_getElem hk, e, List.map_append]
  exact DgX.most_snoc _ _
set_option maxRecDepth 100000 in
set_option maxHeartbeats 32000000 in
theorem walk (X : Three) (F : Five) (HA : AwakeRet) (a0 : Option Addr) (cap0 : Nat) (l0 : List Cv) (w : World) (S : SlK w a0 cap0 l0) (K : ShaE.KIn w) :
    Calls Tryz.prog 10 #[.slice a0 l0.length cap0] w fun e w' => e = .returned (.bool true) ∧ Below w.heap.size w w' := by
  have hmax := S.len
  have b := Below.refl w.heap.size w
  go_enter Tryz.func10, Tryz.ntmps10
  have qs := HA _ K
  go_wp2_with (first | go_skip)
  refine qs.mono ?_
  clear qs
  rintro e wx ⟨rfl, kx⟩
  have S' := S.below kx
  have K' := K.below kx
  have b' := b.trans (kx.mono b.size)
  clear S K b kx
  have S := S'
  have K := K'
  have b := b'
  clear S' K' b'
  go_wp2_with (first | go_skip)
  obtain ⟨f, hf⟩ : ∃ f, fewD (coms l0) 10 = f := ⟨_, rfl⟩
  have qs := DgR.few_ret a0 cap0 l0 10 _ S
  rw [hf] at qs
  refine qs.mono ?_
  clear qs
  rintro e w2 ⟨rfl, kx⟩
  have S' := S.below kx
  have K' := K.below kx
  have b' := b.trans (kx.mono b.size)
  clear S K b kx
  have S := S'
  have K := K'
  have b := b'
  clear S' K' b'
  cases f with
  | false =>
    go_wp2_with (first | go_skip)
    go_ret
    exact ⟨rfl, b⟩
  | true =>
    obtain ⟨ho, hl⟩ := okay_few (fun v hv => (S.each v hv).2) hf
    have hl2 : l0.length ≤ 1000 := by omega
    have hl1 : l0.length ≤ 100 := by omega
    have HO := aside ho
    clear ho hf
    have qs0 := X.closed a0 cap0 l0 _ S HO.out hl2 K
    by_cases hC : Closed hashK (coms l0)
    case neg =>
      rw [decide_eq_false hC] at qs0
      go_wp2_with (first | go_skip)
      refine qs0.mono ?_
      rintro e wx ⟨rfl, kx⟩
      clear qs0
      go_wp2_with (first | go_skip)
      go_ret
      exact ⟨rfl, b.trans (kx.mono b.size)⟩
    case pos =>
      rw [decide_eq_true hC] at qs0
      have HC := aside hC
      clear hC
      have qs := qs0
      go_wp2_with (first | go_skip)
      refine qs.mono ?_
      clear qs
      rintro e wx ⟨rfl, kx⟩
      clear qs0
      have S' := S.below kx
      have K' := K.below kx
      have b' := b.trans (kx.mono b.size)
      clear S K b kx
      have S := S'
      have K := K'
      have b := b'
      clear S' K' b'
      have hlc := coms_len l0
      have hcs := head_cases HC.out (by omega)
      obtain ⟨G, hG⟩ : ∃ G, most ((coms l0).map (·.gen)) = G := ⟨_, rfl⟩
      obtain ⟨f, hf⟩ : ∃ f, frontC (coms l0) = f := ⟨_, rfl⟩
      rw [hG, hf, hlc] at hcs
      have q1 := fun W S K => F.head a0 cap0 l0 W S HO.out hl1 K
      have q2 := fun W S K => F.front a0 cap0 l0 W S HO.out hl1 K
      unfold FoundC at q1
      unfold NewD at q2
      rw [hf] at q2
      have HG : Hid (most (((coms l0).take l0.length).map (·.gen)) = G) := aside (by rw [← hlc, List.take_length]; exact hG)
      have HF := aside hf
      clear hG hf hlc
      rcases hcs with ⟨h0, h1, h2, h3⟩ | ⟨h0, h1, c, h2, h3⟩ | ⟨h1, c, h2, h3, h4, h5, h6, h7⟩
      case inl =>
        rw [h2] at q1
        obtain rfl : l0 = [] := List.eq_nil_of_length_eq_zero h0
        have q2 : ∀ W, SlK W a0 cap0 [] → ShaE.KIn W → Calls Tryz.prog 33 #[.slice a0 0 cap0] W (fun e w' => ∃ A cap, e = .returned (.slice A f.length cap) ∧ SlI w' A cap f ∧ Below W.heap.size W w') := q2
        have q1 : ∀ W, SlK W a0 cap0 [] → ShaE.KIn W → Calls Tryz.prog 39 #[.slice a0 0 cap0] W (fun e w' => ∃ v, e = .returned (.tuple #[.agg (cc v), .bool false]) ∧ v.c = noK ∧ CmW.In w' v ∧ Fit v.c ∧ Below W.heap.size W w') := q1
        subst h3
        have p1 : (f.length : Int) < 2 := by omega
        clear h1 h2
        go_wp2_with (first | go_skip)
        refine (q1 _ S K).mono ?_
        clear q1
        rintro e wx ⟨v, rfl, hv, IV, FV, kx⟩
        have HV := aside hv
        clear hv
        have S' := S.below kx
        have K' := K.below kx
        have b' := b.trans (kx.mono b.size)
        clear S K b kx
        have S := S'
        have K := K'
        have b := b'
        clear S' K' b'
        go_wp2_with (first | go_skip | (refine Cel.wpList_store_new CE rfl _ _ rfl wx _ _ rfl v _ rfl rfl rfl rfl ?_; intro w4 B4 k4 g4 s4; have IV4 := CmW.In.below IV k4; clear g4 s4))
        clear IV
        have S' := S.below k4
        have K' := K.below k4
        have b' := b.trans (k4.mono b.size)
        clear S K b k4
        have S := S'
        have K := K'
        have b := b'
        clear S' K' b'
        refine (q2 _ S K).mono ?_
        clear q2
        rintro e wx ⟨A5, c5', rfl, U, kx⟩
        have S' := S.below kx
        have K' := K.below kx
        have B4' := B4.below kx
        have IV4' := IV4.below kx
        have b' := b.trans (kx.mono b.size)
        clear S K B4 IV4 b kx
        have S := S'
        have K := K'
        have B4 := B4'
        have IV4 := IV4'
        have b := b'
        clear S' K' B4' IV4' b'
        go_wp2_with (first | go_skip)
        have b0 := Below.refl wx.heap.size wx
        go_loopw [8, 9] (fun go i wr => i = .int .i64 0 ∧ go = .int .i64 0 ∧ Below wx.heap.size wx wr) (fun _ i _ => 0)
        case atStart => exact ⟨rfl, rfl, b0⟩
        case round =>
          clear b0
          rename World => wq
          obtain ⟨rfl, rfl, kc⟩ := hrel
          have B4' := B4.below kc
          have cg := cell_gen B4'
          rw [HV.out] at cg
          have cg : wq.cell? _ = some (.int .i64 0) := cg
          go_wp2_with (first | go_skip)
          go_ret
          exact ⟨rfl, b.trans (kc.mono b.size)⟩
      case inr.inl =>
        rw [h2] at q1
        have q1 : ∀ W, SlK W a0 cap0 l0 → ShaE.KIn W → Calls Tryz.prog 39 #[.slice a0 l0.length cap0] W (fun e w' => ∃ v, e = .returned (.tuple #[.agg (cc v), .bool true]) ∧ v.c = c ∧ CmW.In w' v ∧ Fit v.c ∧ Below W.heap.size W w') := q1
        have hgen : c.gen = G := h3
        have p1 : (f.length : Int) < 2 := by omega
        have p0 : (0 : Int) < l0.length := by omega
        clear h1 h2 h3
        go_wp2_with (first | go_skip)
        refine (q1 _ S K).mono ?_
        clear q1
        rintro e wx ⟨v, rfl, hv, IV, FV, kx⟩
        have HV := aside hv
        clear hv
        have S' := S.below kx
        have K' := K.below kx
        have b' := b.trans (kx.mono b.size)
        clear S K b kx
        have S := S'
        have K := K'
        have b := b'
        clear S' K' b'
        go_wp2_with (first | go_skip | (refine Cel.wpList_store_new CE rfl _ _ rfl wx _ _ rfl v _ rfl rfl rfl rfl ?_; intro w4 B4 k4 g4 s4; have IV4 := CmW.In.below IV k4; clear g4 s4))
        clear IV
        have S' := S.below k4
        have K' := K.below k4
        have b' := b.trans (k4.mono b.size)
        clear S K b k4
        have S := S'
        have K := K'
        have b := b'
        clear S' K' b'
        refine (q2 _ S K).mono ?_
        clear q2
        rintro e wx ⟨A5, c5', rfl, U, kx⟩
        have S' := S.below kx
        have K' := K.below kx
        have B4' := B4.below kx
        have IV4' := IV4.below kx
        have b' := b.trans (kx.mono b.size)
        clear S K B4 IV4 b kx
        have S := S'
        have K := K'
        have B4 := B4'
        have IV4 := IV4'
        have b := b'
        clear S' K' B4' IV4' b'
        go_wp2_with (first | go_skip)
        have b0 := Below.refl wx.heap.size wx
        go_loopw [8, 9] (fun go i wr => ∃ k : Nat, k ≤ l0.length ∧ i = .int .i64 k ∧ go = .int .i64 (most (((coms l0).take k).map (·.gen))) ∧ Below wx.heap.size wx wr) (fun _ i _ => l0.length - (intOf i).toNat)
        case atStart => exact ⟨0, Nat.zero_le _, rfl, rfl, b0⟩
        case round =>
          clear b0
          rename World => wq
          obtain ⟨k, hk, rfl, rfl, kc⟩ := hrel
          by_cases hlt : k < l0.length
          case pos =>
            obtain ⟨bb, off, rfl, _, hrg⟩ := S.plain (by omega)
            obtain ⟨x, hx⟩ : ∃ x, l0[k]? = some x := ⟨_, List.getElem?_eq_getElem hlt⟩
            have rx := range_on (hrg k x hx) kc
            have cg := rx 2 _ rfl
            have pk : (k : Int) < l0.length := by omega
            have mk : ((k : Int)).toNat = k := by omega
            have hn := most_more (coms_at hx)
            obtain ⟨g, hg⟩ : ∃ g, most (((coms l0).take k).map (·.gen)) = g := ⟨_, rfl⟩
            obtain ⟨n, hxn⟩ : ∃ n, x.c.gen = n := ⟨_, rfl⟩
            rw [hg, hxn] at hn
            rw [hg]
            rw [hxn] at cg
            have HN := aside hn
            clear hn hg hxn hx hrg rx
            by_cases hgt : g < n
            case pos =>
              have HN2 : Hid (most (((coms l0).take (k + 1)).map (·.gen)) = n) := aside (by rw [HN.out]; omega)
              clear HN
              go_wp2_with (first | go_skip)
              go_roundw
              case rel => exact ⟨k + 1, by omega, by go_num, by rw [HN2.out], kc⟩
              case measure => simp [intOf]; omega
            case neg =>
              have HN2 : Hid (most (((coms l0).take (k + 1)).map (·.gen)) = g) := aside (by rw [HN.out]; omega)
              clear HN
              go_wp2_with (first | go_skip)
              go_roundw
              case rel => exact ⟨k + 1, by omega, by go_num, by rw [HN2.out], kc⟩
              case measure => simp [intOf]; omega
          case neg =>
            have pn : ¬ (k : Int) < l0.length := by omega
            have hke : k = l0.length := by omega
            rw [hke, HG.out]
            have B4' := B4.below kc
            have cg := cell_gen B4'
            rw [HV.out, hgen] at cg
            have U' := U.below kc
            have IV' := IV4.below kc
            go_wp2_with (first | go_skip)
            go_ret
            exact ⟨rfl, b.trans (kc.mono b.size)⟩
      case inr.inr =>
        rw [h2] at q1
        have q1 : ∀ W, SlK W a0 cap0 l0 → ShaE.KIn W → Calls Tryz.prog 39 #[.slice a0 l0.length cap0] W (fun e w' => ∃ v, e = .returned (.tuple #[.agg (cc v), .bool true]) ∧ v.c = c ∧ CmW.In w' v ∧ Fit v.c ∧ Below W.heap.size W w') := q1
        have hgen : c.gen = G + 1 := h5
        have p1 : ¬ (f.length : Int) < 2 := by omega
        have hw1 : IntKind.i64.wrap (G + 1) = G + 1 := by rw [IntKind.wrap_i64]; omega
        have H4 := aside h4
        have H3 := aside h3
        clear h1 h2 h3 h4 h5 h6 h7
        go_wp2_with (first | go_skip)
        refine (q1 _ S K).mono ?_
        clear q1
        rintro e wx ⟨v, rfl, hv, IV, FV, kx⟩
        have HV := aside hv
        clear hv
        have S' := S.below kx
        have K' := K.below kx
        have b' := b.trans (kx.mono b.size)
        clear S K b kx
        have S := S'
        have K := K'
        have b := b'
        clear S' K' b'
        go_wp2_with (first | go_skip | (refine Cel.wpList_store_new CE rfl _ _ rfl wx _ _ rfl v _ rfl rfl rfl rfl ?_; intro w4 B4 k4 g4 s4; have IV4 := CmW.In.below IV k4; clear g4 s4))
        clear IV
        have S' := S.below k4
        have K' := K.below k4
        have b' := b.trans (k4.mono b.size)
        clear S K b k4
        have S := S'
        have K := K'
        have b := b'
        clear S' K' b'
        refine (q2 _ S K).mono ?_
        clear q2
        rintro e wx ⟨A5, c5', rfl, U, kx⟩
        have S' := S.below kx
        have K' := K.below kx
        have B4' := B4.below kx
        have IV4' := IV4.below kx
        have b' := b.trans (kx.mono b.size)
        clear S K B4 IV4 b kx
        have S := S'
        have K := K'
        have B4 := B4'
        have IV4 := IV4'
        have b := b'
        clear S' K' B4' IV4' b'
        go_wp2_with (first | go_skip)
        have b0 := Below.refl wx.heap.size wx
        go_loopw [8, 9] (fun go i wr => ∃ k : Nat, k ≤ l0.length ∧ i = .int .i64 k ∧ go = .int .i64 (most (((coms l0).take k).map (·.gen))) ∧ Below wx.heap.size wx wr) (fun _ i _ => l0.length - (intOf i).toNat)
        case atStart => exact ⟨0, Nat.zero_le _, rfl, rfl, b0⟩
        case round =>
          clear b0
          rename World => wq
          obtain ⟨k, hk, rfl, rfl, kc⟩ := hrel
          by_cases hlt : k < l0.length
          case pos =>
            obtain ⟨bb, off, rfl, _, hrg⟩ := S.plain (by omega)
            obtain ⟨x, hx⟩ : ∃ x, l0[k]? = some x := ⟨_, List.getElem?_eq_getElem hlt⟩
            have rx := range_on (hrg k x hx) kc
            have cg := rx 2 _ rfl
            have pk : (k : Int) < l0.length := by omega
            have mk : ((k : Int)).toNat = k := by omega
            have hn := most_more (coms_at hx)
            obtain ⟨g, hg⟩ : ∃ g, most (((coms l0).take k).map (·.gen)) = g := ⟨_, rfl⟩
            obtain ⟨n, hxn⟩ : ∃ n, x.c.gen = n := ⟨_, rfl⟩
            rw [hg, hxn] at hn
            rw [hg]
            rw [hxn] at cg
            have HN := aside hn
            clear hn hg hxn hx hrg rx
            by_cases hgt : g < n
            case pos =>
              have HN2 : Hid (most (((coms l0).take (k + 1)).map (·.gen)) = n) := aside (by rw [HN.out]; omega)
              clear HN
              go_wp2_with (first | go_skip)
              go_roundw
              case rel => exact ⟨k + 1, by omega, by go_num, by rw [HN2.out], kc⟩
              case measure => simp [intOf]; omega
            case neg =>
              have HN2 : Hid (most (((coms l0).take (k + 1)).map (·.gen)) = g) := aside (by rw [HN.out]; omega)
              clear HN
              go_wp2_with (first | go_skip)
              go_roundw
              case rel => exact ⟨k + 1, by omega, by go_num, by rw [HN2.out], kc⟩
              case measure => simp [intOf]; omega
          case neg =>
            have pn : ¬ (k : Int) < l0.length := by omega
            have hke : k = l0.length := by omega
            rw [hke, HG.out]
            have B4' := B4.below kc
            have cg := cell_gen B4'
            rw [HV.out, hgen] at cg
            have U' := U.below kc
            have IV' := IV4.below kc
            have cp := cell_ps B4'
            rw [HV.out, H4.out] at cp
            unfold CmW.In at IV'
            have IW := IV'
            rw [HV.out, H4.out] at IW
            have qs := IdV.same_ret v.a A5 v.k c5' f f _ IW U'
            rw [decide_eq_true rfl] at qs
            go_wp2_with (first | go_skip)
            refine qs.mono ?_
            clear qs
            rintro e w5 ⟨rfl, k5⟩
            have B5 := B4'.below k5
            have cg := cell_gen B5
            rw [HV.out, hgen] at cg
            have b5 := (b.trans (kc.mono b.size)).trans (k5.mono (b.trans (kc.mono b.size)).size)
            have qm := fun W I => CmA.merge_ret v W I FV
            rw [HV.out, H3.out] at qm
            have IV5 : CmW.In w5 v := IV'.below k5
            go_wp2_with (first | go_skip | (refine RowC.unguard rfl (Cel.wpList_load_box CE rfl _ rfl _ rfl v B5 ?_)))
            refine (qm _ IV5).mono ?_
            clear qm
            rintro e w6 ⟨rfl, k6⟩
            have B6 := B5.below k6
            have cg := cell_gen B6
            rw [HV.out, hgen] at cg
            have b6 := b5.trans (k6.mono b5.size)
            go_wp2_with (first | go_skip)
            go_ret
            exact ⟨rfl, b6⟩
end Go.Proofs.YtechkdhehipliaaGreatDoor.FrE
