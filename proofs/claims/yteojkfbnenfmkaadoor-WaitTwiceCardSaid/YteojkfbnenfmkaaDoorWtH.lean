/- What the project's copied and Put of package wait return: contracts. No condition but sizes. -/
import Derived.Test.YteojkfbnenfmkaaDoorWtG
import Derived.Test.YteojkfbnenfmkaaDoorDgKJ8
import Derived.Test.YteojkfbnenfmkaaDoorCmA
namespace Go.Proofs.YteojkfbnenfmkaaDoor.WtH
set_option maxRecDepth 100000
open Go Go.Sort Go.RowKit Byt IdM IdW OpsM OpsW CmM StW CmW CmX CmY CmA DgM DgW DgR RowS DhB WtM WtF WtG
open Classical

theorem nil_eq (w : World) : (binOp BinOp.eql 22 (.slice none 0 0) (.slice none 0 0)).run Tryd.prog w = .ok (.bool true) w := by kernel_rfl
theorem some_eq (p : Addr) (n cap : Nat) (w : World) : (binOp BinOp.eql 22 (.slice (some p) n cap) (.slice none 0 0)).run Tryd.prog w = .ok (.bool false) w := by kernel_rfl
/-- An empty slice that is not nil. -/
theorem build_nil {w : World} {ops : Array Oper} {rest : List Oper} {o : Oper} {a : Act} {Q : Exit → Act → World → Prop} (hgd : o.guard = none) (ho : o.op = .buildSlice 22 0 #[])
    (h : ∀ w1 cap, w1.ownsRow w.heap.size 29 8 (.slice (some ⟨w.heap.size, 0, none⟩) 0 cap) 0 (RowS.flat KE []) → Below w.heap.size w w1 → w.heap.size ≤ w1.heap.size → wpList Tryd.prog ops Q rest (a.put o.dst (.slice (some ⟨w.heap.size, 0, none⟩) 0 cap)) w1) : wpList Tryd.prog ops Q (o :: rest) a w := by
  refine wpList_plain hgd fun K hK => ?_
  have hrun : (Instr.buildSlice 22 0 #[]).run Tryd.prog w = .ok (.slice (some ⟨w.heap.size, 0, none⟩) 0 0) (w.alloc (.cells #[] 29)) := by kernel_rfl
  unfold Oper.wp execOp
  simp only [ho, List.map_toArray, List.map_nil, Sem.run_bind, hrun, Result.andThen_ok, Sem.run_pure]
  refine hK _ _ (h _ 0 ⟨rfl, .inr ⟨w.heap.size, 0, #[], rfl, Nat.le_refl _, heap_alloc_new w _, Nat.le_refl _, Nat.zero_le _, rfl, rfl⟩⟩ ((Below.refl _ _).alloc (Nat.le_refl _) _) (by simp))
/-- A copy of a slice of commits. -/
theorem clone_ret (A : Option Addr) (cap : Nat) (l : List Cv) (w : World) (S : SlR KE w A cap l) (hl : l.length ≤ 1000000) :
    Calls Tryd.prog 45 #[.slice A l.length cap] w fun e w' => ∃ v, e = .returned v ∧ w'.ownsRow w.heap.size 29 8 v l.length (RowS.flat KE l) ∧ Below w.heap.size w w' := by
  rcases S.2.2 with ⟨rfl, rfl, rfl⟩ | ⟨p, rfl, _⟩
  · have he := nil_eq
    go_enter Tryd.func45, Tryd.ntmps45
    go_wp2_with (first | go_skip)
    go_ret
    exact ⟨_, rfl, ⟨rfl, .inl ⟨rfl, rfl⟩⟩, Below.refl _ _⟩
  · have he := some_eq p l.length cap
    go_enter Tryd.func45, Tryd.ntmps45
    go_wp2_with (first | go_skip | (refine build_nil rfl rfl ?_; intro w1 c1 o1 k1 s1; have S1 := S.below k1) | (refine RowS.wpList_append KE rfl (.tmp 5) (.tmp 6) rfl w.heap.size _ 0 [] rfl o1 (some p) _ cap l rfl rfl S1 (by omega) s1 ?_; intro v2 w2 o2 g2))
    go_ret
    refine ⟨v2, rfl, ?_, below_grown k1 s1 g2 (fun q hq => (o1.lt q hq).1)⟩
    rwa [Nat.zero_add, List.nil_append] at o2
/-- Copies of commits in a row of the call's own; their parents lie in memory, and elsewhere. -/
def NewH (l : List Com) (w : World) (e : Ending) (w' : World) : Prop := ∃ v r, e = .returned v ∧ coms r = l ∧ w'.ownsRow w.heap.size 29 8 v (List.length r) (RowS.flat KE r) ∧ Held w' v r ∧ Below w.heap.size w w'
theorem Held.swap {w : World} {v : Value} {pre post : List Cv} {x u : Cv} (h : Held w v (pre ++ x :: post)) (hi : In w u) (hf : Fit u.c) (hr : ∀ b off sp, u.a = some ⟨b, off, sp⟩ → v.ownBlock ≠ some b) : Held w v (pre ++ u :: post) := by
  have hm : ∀ y ∈ pre ++ u :: post, y = u ∨ y ∈ pre ++ x :: post := fun y hy => by
    rcases List.mem_append.1 hy with hy | hy
    · exact .inr (List.mem_append_left _ hy)
    · rcases List.mem_cons.1 hy with hy | hy
      · exact .inl hy
      · exact .inr (List.mem_append_right _ (List.mem_cons_of_mem _ hy))
  refine ⟨fun y hy => ?_, fun y hy hp => ?_⟩
  · rcases hm y hy with rfl | hy
    · exact ⟨hi, hf⟩
    · exact h.each y hy
  · rcases hm y hy with rfl | hy
    · exact hr
    · exact h.far y hy hp
theorem coms_swap (pre post : List Cv) (x : Cv) (A2 : Option Addr) (k2 : Nat) : coms (pre ++ ⟨A2, k2, x.c⟩ :: post) = coms (pre ++ x :: post) := by
  unfold coms
  simp
theorem at_mid {l : List Cv} {k : Nat} (h : k < l.length) : ∃ pre x post, l = pre ++ x :: post ∧ pre.length = k ∧ l[k]? = some x := by
  refine ⟨l.take k, l[k], l.drop (k + 1), ?_, by rw [List.length_take]; omega, List.getElem?_eq_getElem h⟩
  rw [← List.drop_eq_getElem_cons h, List.take_append_drop]
/-- The cell in which a commit of a row holds its parents. -/
theorem own_ps {w : World} {base g n cap : Nat} {pre post : List Cv} {x : Cv} (h : w.ownsRow base 29 8 (.slice (some ⟨g, 0, none⟩) n cap) n (RowS.flat KE (pre ++ x :: post))) {k : Nat} (hk : pre.length = k) : w.cell? ⟨g, k * 8 + 3, none⟩ = some (.slice x.a x.c.ps.length x.k) := by
  have := RowH.own_range (E := KE) h (i := k) (x := x) (by rw [← hk]; simp) 3 (.slice x.a x.c.ps.length x.k) rfl
  exact this
set_option maxRecDepth 100000 in
set_option maxHeartbeats 8000000 in
theorem copied_ret (A : Option Addr) (cap : Nat) (l : List Cv) (w : World) (S : SlK w A cap l) (hl : l.length ≤ 1000000) (hp : ∀ v ∈ l, v.c.ps.length ≤ 1000000) :
    Calls Tryd.prog 25 #[.slice A l.length cap] w (NewH (coms l) w) := by
  have q := clone_ret A cap l w S.row hl
  have HE := aside S.each
  have HP := aside hp
  unfold NewH
  go_enter Tryd.func25, Tryd.ntmps25
  go_wp2_with (first | go_skip)
  refine q.mono ?_
  rintro e w1 ⟨v, rfl, o1, k1⟩
  clear q S hp
  rcases o1.2 with ⟨rfl, h0⟩ | ⟨g, c1, cur, rfl, hbg, _⟩
  · obtain rfl := List.eq_nil_of_length_eq_zero h0
    clear h0 HE HP
    go_wp2_with (first | go_skip)
    go_loopw [8] (fun i wr => i = .int .i64 0 ∧ wr = w1) (fun i _ => 0)
    case atStart => exact ⟨rfl, rfl⟩
    case round =>
      obtain ⟨rfl, rfl⟩ := hrel
      go_wp2_with (first | go_skip)
      go_ret
      exact ⟨_, [], rfl, rfl, o1, Held.nil _ _, k1⟩
  · have hlt : g < w1.heap.size := (o1.lt g rfl).2
    have HH : Held w1 (.slice (some ⟨g, 0, none⟩) l.length c1) l := ⟨fun u hu => ⟨(HE.out u hu).1.below k1, (HE.out u hu).2⟩, fun u hu hps b off sp e => by
      have hlt2 := (ids_other (HE.out u hu).1 (g := none) (w' := w) (grown_of_below (Below.refl _ _) _) (fun _ _ _ _ _ h => by cases h)).2 hps b off sp e
      intro h2
      have : g = b := by injection h2
      omega⟩
    clear HE
    have HO := aside o1
    have HHH := aside HH
    clear o1 HH
    go_wp2_with (first | go_skip)
    go_loopw [8] (fun i wr => ∃ (k : Nat) (r : List Cv), k ≤ l.length ∧ i = .int .i64 k ∧ Hid (coms r = coms l) ∧ Hid (wr.ownsRow w.heap.size 29 8 (.slice (some ⟨g, 0, none⟩) l.length c1) l.length (RowS.flat KE r)) ∧ Hid (Held wr (.slice (some ⟨g, 0, none⟩) l.length c1) r) ∧ Below w.heap.size w wr) (fun i _ => l.length - (intOf i).toNat)
    case atStart => exact ⟨0, l, Nat.zero_le _, rfl, aside rfl, HO, HHH, k1⟩
    case round =>
      clear HO HHH k1
      obtain ⟨k, r, hk, rfl, HC, HO, HH, kb⟩ := hrel
      by_cases hkl : k < l.length
      · obtain ⟨pre, x, post, rfl, hpre, hx⟩ := at_mid (l := r) (k := k) (by rw [own_len HO.out]; exact hkl)
        have hxl : (coms l)[k]? = some x.c := by rw [← HC.out]; exact coms_at hx
        obtain ⟨y, hy, hyc⟩ : ∃ y ∈ l, y.c = x.c := by
          have := List.mem_of_getElem? hxl
          unfold coms at this
          obtain ⟨y, hy, e⟩ := List.mem_map.1 this
          exact ⟨y, hy, e⟩
        have hps : x.c.ps.length ≤ 1500000000000 := by have := HP.out y hy; rw [hyc] at this; omega
        have c0 := own_ps HO.out hpre
        have IX := HH.out.each x (by simp)
        have q := DhC.clone_ret x.a x.k x.c.ps wr IX.1 hps
        have HF := aside IX.2
        have hgw := (HO.out.lt g rfl).2
        have p0 : (k : Int) < l.length := by omega
        have m0 : ((k : Int)).toNat = k := by omega
        have HPRE := aside hpre
        clear hx hxl hy hyc hps IX hpre
        go_wp2_with (first | go_skip)
        refine q.mono ?_
        rintro e w2 ⟨A2, c2, rfl, S2, k2, hfar⟩
        have O2 := aside (owns_below HO.out k2)
        have H2 := aside (Held.swap (u := ⟨A2, c2, x.c⟩) (HH.out.below k2) S2 HF.out (fun b off sp e h2 => by
          have h1 := hfar b off sp e
          have h3 : g = b := by injection h2
          omega))
        have b2 := kb.trans (k2.mono kb.size)
        clear q c0 HO HH kb k2 S2 hfar hgw
        go_wp2_with (first | go_skip | (refine wpList_store_ps rfl rfl _ _ rfl pre post x O2.out (k * 8 + 3) (by rw [HPRE.out]) rfl A2 c2 rfl ?_; intro w3 o3 g3))
        have b3 : Below w.heap.size w w3 := below_grown b2 b2.size g3 (fun q hq => by cases hq; exact hbg)
        have H3 := aside (H2.out.grown g3 (.inl rfl))
        have HC3 := aside ((coms_swap pre post x A2 c2).trans HC.out)
        have O3 := aside o3
        clear O2 H2 HC o3 g3
        go_roundw
        case rel => exact ⟨k + 1, _, by omega, by go_num, HC3, O3, H3, b3⟩
        case measure => simp [intOf]; omega
      · obtain rfl : k = l.length := by omega
        have HL := aside (own_len HO.out)
        go_wp2_with (first | go_skip)
        go_ret
        exact ⟨_, r, rfl, HC.out, by rw [HL.out]; exact HO.out, HH.out, kb⟩
/-- Where the first of commits is of which something holds. -/
def idxW (l : List Com) (p : Com → Bool) : Int := match l.findIdx? p with
  | some i => i
  | none => -1
theorem idx_some {l : List Com} {p : Com → Bool} {k : Nat} {x : Com} (hx : l[k]? = some x) (hp : p x = true) (hn : ∀ c ∈ l.take k, p c = false) : idxW l p = k := by
  obtain ⟨hk, rfl⟩ := List.getElem?_eq_some_iff.1 hx
  have : l.findIdx? p = some k := by
    rw [List.findIdx?_eq_some_iff_getElem]
    refine ⟨hk, hp, fun j hj => ?_⟩
    have := hn l[j] (List.mem_of_getElem? (i := j) (by rw [List.getElem?_take, if_pos hj]; exact List.getElem?_eq_getElem (by omega)))
    simpa using this
  unfold idxW
  rw [this]
theorem idx_none {l : List Com} {p : Com → Bool} (hn : ∀ c ∈ l, p c = false) : idxW l p = -1 := by
  have : l.findIdx? p = none := by
    rw [List.findIdx?_eq_none_iff]
    exact fun c hc => by simpa using hn c hc
  unfold idxW
  rw [this]
theorem idx_any (l : List Com) (p : Com → Bool) : decide (0 ≤ idxW l p) = l.any p := by
  unfold idxW
  cases h : l.findIdx? p with
  | some i =>
    rw [List.findIdx?_eq_some_iff_getElem] at h
    obtain ⟨h1, h2, _⟩ := h
    rw [List.any_eq_true.2 ⟨_, List.getElem_mem h1, h2⟩]
    exact decide_eq_true (by show (0 : Int) ≤ (i : Int); omega)
  | none =>
    rw [List.findIdx?_eq_none_iff] at h
    have : l.any p = false := by
      rw [Bool.eq_false_iff]
      intro h2
      obtain ⟨x, hx, hp⟩ := List.any_eq_true.1 h2
      have := h x hx
      rw [hp] at this
      simp at this
    rw [this]
    rfl
theorem skip_next {l : List Com} {p : Com → Bool} {k : Nat} {x : Com} (hn : ∀ c ∈ l.take k, p c = false) (hx : l[k]? = some x) (hf : p x = false) : ∀ c ∈ l.take (k + 1), p c = false := fun d hd => by
  obtain ⟨hk, rfl⟩ := List.getElem?_eq_some_iff.1 hx
  rw [List.take_succ_eq_append_getElem hk, List.mem_append, List.mem_singleton] at hd
  rcases hd with hd | rfl
  · exact hn d hd
  · exact hf
set_option maxRecDepth 100000 in
set_option maxHeartbeats 8000000 in
/-- Where the first of commits is of which a function says yes. -/
theorem index_ret (G B : Nat) (p : Com → Bool) (A : Option Addr) (cap : Nat) (l : List Cv) (w : World) (S : SlR KE w A cap l) (hG : ∀ args W, (callFunc G args).run Tryd.prog W = .ok (.enter G args) W)
    (hF : ∀ W x, Below w.heap.size w W → x ∈ l → Calls Tryd.prog G #[.agg (cc x), .pointer (some ⟨B, 0, none⟩)] W fun e w' => e = .returned (.bool (p x.c)) ∧ Below W.heap.size W w') :
    Calls Tryd.prog 35 #[.slice A l.length cap, .func (.func G) #[] #[.pointer (some ⟨B, 0, none⟩)]] w fun e w' => e = .returned (.int .i64 (idxW (coms l) p)) ∧ Below w.heap.size w w' := by
  have hmax : l.length ≤ 9223372036854775807 := by have := S.1; have := S.2.1; unfold maxLen at this; omega
  have hlc := coms_len l
  obtain ⟨z, hz⟩ : ∃ z, idxW (coms l) p = z := ⟨_, rfl⟩
  have HZ := aside hz
  rw [hz]
  clear hz
  go_enter Tryd.func35, Tryd.ntmps35
  go_wp2_with (first | go_skip)
  go_loopw [8] (fun i wr => ∃ k : Nat, k ≤ l.length ∧ i = .int .i64 k ∧ Hid (∀ c ∈ (coms l).take k, p c = false) ∧ Below w.heap.size w wr) (fun i _ => l.length - (intOf i).toNat)
  case atStart => exact ⟨0, Nat.zero_le _, rfl, aside (by simp), Below.refl _ _⟩
  case round =>
    obtain ⟨k, hk, rfl, HN, kb⟩ := hrel
    by_cases hlt : k < l.length
    · obtain ⟨b, off, rfl, hbw, hrg⟩ := S.plain (by omega)
      obtain ⟨x, hx⟩ : ∃ x, l[k]? = some x := ⟨_, List.getElem?_eq_getElem hlt⟩
      have rx := range_on (hrg k x hx) kb
      have q := hF wr x kb (List.mem_of_getElem? hx)
      have HX := aside (coms_at hx)
      have p0 : (k : Int) < l.length := by omega
      have m0 : ((k : Int)).toNat = k := by omega
      obtain ⟨y, hy⟩ : ∃ y, p x.c = y := ⟨_, rfl⟩
      rw [hy] at q
      have HY := aside hy
      clear hrg hx hy hF S
      go_wp2_with (first | go_skip | (refine load_at rfl _ rfl _ _ rfl x rx ?_))
      refine q.mono ?_
      rintro e w1 ⟨rfl, k1⟩
      have b1 := kb.trans (k1.mono kb.size)
      clear q rx
      cases y with
      | true =>
        have HI := aside (HZ.out.symm.trans (idx_some HX.out HY.out HN.out))
        clear HZ HN HX HY
        go_wp2_with (first | go_skip)
        go_ret
        exact ⟨by rw [HI.out]; rfl, b1⟩
      | false =>
        have HN2 := aside (skip_next HN.out HX.out HY.out)
        clear HN HX HY
        go_wp2_with (first | go_skip)
        go_roundw
        case rel => exact ⟨k + 1, by omega, by go_num, HN2, b1⟩
        case measure => simp [intOf]; omega
    · obtain rfl : k = l.length := by omega
      have HI := aside (HZ.out.symm.trans (idx_none (fun c hc => HN.out c (by rw [List.take_of_length_le (by omega)]; exact hc))))
      clear HZ HN
      go_wp2_with (first | go_skip)
      go_ret
      exact ⟨by rw [HI.out]; rfl, kb⟩
set_option maxRecDepth 100000 in
set_option maxHeartbeats 4000000 in
/-- Does a commit wait? -/
theorem waits_ret (B : Nat) (x v : Cv) (w : World) (hB : Cel.Box CE w B v) (hx : In w x) (hv : In w v) :
    Calls Tryd.prog 23 #[.agg (cc x), .pointer (some ⟨B, 0, none⟩)] w fun e w' => e = .returned (.bool (CmR.sameK x.c v.c)) ∧ Below w.heap.size w w' := by
  have kb := StW.below_alloc w (.cells (cc x) 29)
  have X0 : Cel.Box CE (w.alloc (.cells (cc x) 29)) w.heap.size x := Cel.Box.new (E := CE) w x _
  have V0 := hB.below kb
  have q := CmA.same_ret x v _ (hx.below kb) (hv.below kb)
  clear hB hx hv
  go_enter Tryd.func23, Tryd.ntmps23
  go_wp2_with (first | go_skip | (refine Cel.wpList_load_box CE rfl _ rfl _ rfl x X0 ?_) | (refine Cel.wpList_load_box CE rfl _ rfl _ rfl v V0 ?_))
  refine q.mono ?_
  rintro e w1 ⟨rfl, k1⟩
  have b1 := kb.trans (k1.mono kb.size)
  clear q
  go_wp2_with (first | go_skip)
  go_ret
  exact ⟨rfl, b1⟩
set_option maxRecDepth 100000 in
set_option maxHeartbeats 4000000 in
/-- Is one of commits the same? -/
theorem contains_ret (B : Nat) (v : Cv) (A : Option Addr) (cap : Nat) (l : List Cv) (w : World) (S : SlK w A cap l) (hB : Cel.Box CE w B v) (hv : In w v) :
    Calls Tryd.prog 24 #[.slice A l.length cap, .func (.func 23) #[] #[.pointer (some ⟨B, 0, none⟩)]] w fun e w' => e = .returned (.bool (decide (v.c ∈ coms l))) ∧ Below w.heap.size w w' := by
  have q := index_ret 23 B (fun d => CmR.sameK d v.c) A cap l w S.row (fun args W => by kernel_rfl) (fun W x b hx => waits_ret B x v W (hB.block b hB.lt) ((S.each x hx).1.below b) (hv.below b))
  obtain ⟨i, hi⟩ : ∃ i, idxW (coms l) (fun d => CmR.sameK d v.c) = i := ⟨_, rfl⟩
  have HI : Hid (decide (0 ≤ i) = decide (v.c ∈ coms l)) := aside (by rw [← hi, idx_any, WtN.any_same])
  rw [hi] at q
  clear hi S hB hv
  go_enter Tryd.func24, Tryd.ntmps24
  go_wp2_with (first | go_skip)
  refine q.mono ?_
  rintro e w1 ⟨rfl, k1⟩
  clear q
  go_wp2_with (first | go_skip)
  go_ret
  exact ⟨congrArg (fun b => Ending.returned (Value.bool b)) HI.out, k1⟩
end Go.Proofs.YteojkfbnenfmkaaDoor.WtH
