/- What the document's Merge of package reg returns: a contract. -/
import Derived.Test.YtffefbhpndjdlaaRegQ
namespace Go.Proofs.Ytffefbhpndjdlaa.RegU
open Go Go.RowKit Byt OpsM OpsK Rise RegM RegL RowS RowB RegW RegR RegG RegQ

theorem ins_sub {c : Rg} : ∀ (d : Bool) (l : List Rg) {x : Rg}, x ∈ ins c d l → x = c ∨ x ∈ l
  | d, [], x, h => by
    rw [ins_end] at h
    split at h
    · simp at h
    · simp at h; exact .inl h
  | d, y :: l, x, h => by
    rw [ins_step] at h
    rcases List.mem_append.1 h with h | h
    · split at h
      · simp at h; exact .inl h
      · simp at h
    · split at h
      · rcases List.mem_cons.1 h with h | h
        · exact .inr (by simp [h])
        · exact (ins_sub _ l h).imp id (fun h => by simp [h])
      · rcases List.mem_cons.1 h with h | h
        · rcases best_or c y with e | e
          · exact .inl (h.trans e)
          · exact .inr (by simp [h.trans e])
        · exact (ins_sub _ l h).imp id (fun h => by simp [h])
theorem put_sub {l : List Rg} {c x : Rg} (h : x ∈ putR l c) : x = c ∨ x ∈ l := by
  unfold putR at h
  split at h
  · exact ins_sub _ _ h
  · simp at h
theorem put_fits {l : List Rg} {c : Rg} (hl : Fits l) (hc : Fit c) : Fits (putR l c) := fun x hx => (put_sub hx).elim (fun e => by rw [e]; exact hc) (fun h => hl x h)
theorem fold_fits : ∀ (m l : List Rg), Fits l → Fits m → Fits (m.foldl putR l)
  | [], _, hl, _ => hl
  | c :: m, l, hl, hm => fold_fits m (putR l c) (put_fits hl (hm c (by simp))) (fun x hx => hm x (by simp [hx]))
theorem fold_take {l m : List Rg} {j : Nat} {x : Rg} (h : m[j]? = some x) : (m.take (j + 1)).foldl putR l = putR ((m.take j).foldl putR l) x := by
  obtain ⟨hj, rfl⟩ := List.getElem?_eq_some_iff.1 h
  rw [List.take_succ_eq_append_getElem hj, List.foldl_append]
  rfl

set_option maxRecDepth 100000 in
set_option maxHeartbeats 8000000 in
theorem merge_none (A : Option Addr) (cap : Nat) (l : List Rg) (B : Option Addr) (dap : Nat) (m : List Rg) (w : World) (S : SlR E w A cap l) (T : SlR E w B dap m) (hf : Fits l) (hg : Fits m) (hno : mayR l = false ∨ (mayR l = true ∧ mayR m = false)) :
    Calls Try.prog 15 #[.slice A l.length cap, .slice B m.length dap] w (NewS E [] w) := by
  have ca := may_ret A cap l w S hf
  have cb := fun W T => may_ret B dap m W T hg
  obtain ⟨bm, hbm⟩ : ∃ b, mayR m = b := ⟨_, rfl⟩
  rw [hbm] at cb hno
  clear hbm
  rcases hno with h | ⟨h, rfl⟩
  all_goals
    rw [h] at ca
    clear h
    go_enter Try.func15, Try.ntmps15
    go_wp2_with fail
    refine ca.mono ?_
    rintro e w1 ⟨rfl, h1⟩
    have T1 := T.below h1
    go_wp2_with fail
    refine (cb _ T1).mono ?_
    rintro e w2 ⟨rfl, h2⟩
    have k2 := h1.trans (h2.mono h1.size)
    clear T1 h1 h2 ca cb S T hf hg
    go_wp2_with fail
    go_ret
    exact ⟨none, 0, rfl, SlR.nil E _, k2⟩

set_option maxRecDepth 100000 in
set_option maxHeartbeats 8000000 in
theorem merge_yes (A : Option Addr) (cap : Nat) (l : List Rg) (B : Option Addr) (dap : Nat) (m : List Rg) (w : World) (S : SlR E w A cap l) (T : SlR E w B dap m) (hf : Fits l) (hg : Fits m) (hl : l.length ≤ 100000) (hm : m.length ≤ 100000) (ml : mayR l = true) (mm : mayR m = true) :
    Calls Try.prog 15 #[.slice A l.length cap, .slice B m.length dap] w (NewS E (m.foldl putR l) w) := by
  have ca := may_ret A cap l w S hf
  have cb := fun W T => may_ret B dap m W T hg
  rw [ml] at ca
  rw [mm] at cb
  obtain ⟨R, hR⟩ : ∃ R, m.foldl putR l = R := ⟨_, rfl⟩
  rw [hR]
  have HR := aside hR
  clear hR ml mm
  go_enter Try.func15, Try.ntmps15
  go_wp2_with fail
  refine ca.mono ?_
  rintro e w1 ⟨rfl, h1⟩
  have T1 := T.below h1
  have S1 := S.below h1
  go_wp2_with fail
  refine (cb _ T1).mono ?_
  rintro e w2 ⟨rfl, h2⟩
  have k2 := h1.trans (h2.mono h1.size)
  have S2 := S1.below h2
  have T2 := T1.below h2
  have hz2 := k2.size
  clear T1 S1 h1 h2 ca cb S T
  go_wp2_with (first | (refine wpList_append E rfl (.const (.slice none 0 0)) (.tmp 19) rfl w2.heap.size (.slice none 0 0) 0 [] rfl (World.ownsRow_nil _ _ _ _) A l.length cap l rfl rfl S2 (by omega) (Nat.le_refl _) ?_; intro v3 w3 own3 g3))
  have k3 : Below w2.heap.size w2 w3 := below_grown (Below.refl _ _) (Nat.le_refl _) g3 (fun q hq => by cases hq)
  have T3 := T2.below k3
  rw [Nat.zero_add, List.nil_append] at own3
  obtain ⟨A3, c3, rfl, S3⟩ := SlR.own own3
  clear own3 g3 S2 T2
  have hTc := T3.1
  go_loopw [7, 8] (fun v i wr => ∃ (j : Nat) (pre : List Rg) (A : Option Addr) (c : Nat), j ≤ m.length ∧ i = .int .i64 j ∧ v = .slice A pre.length c ∧ pre.length ≤ l.length + j ∧ Hid ((m.take j).foldl putR l = pre) ∧ Hid (Fits pre) ∧ SlR E wr A c pre ∧ Below w3.heap.size w3 wr) (fun _ i _ => m.length - (intOf i).toNat)
  case atStart => exact ⟨0, l, A3, c3, Nat.zero_le _, rfl, rfl, by omega, aside rfl, aside hf, S3, Below.refl _ _⟩
  case round =>
    obtain ⟨j, pre, A4, c4, hj, rfl, rfl, hpl, HP, HF, SP, kb⟩ := hrel
    by_cases hlt : j < m.length
    · obtain ⟨g, off, rfl, hbw, hr⟩ := RegW.plain T3 (by omega)
      obtain ⟨x, hx⟩ : ∃ x, m[j]? = some x := ⟨_, List.getElem?_eq_getElem hlt⟩
      have hr1 := range_below (hr j x hx) kb
      have HX := aside (hg x (List.mem_of_getElem? hx))
      have HS := aside (fold_take (l := l) hx)
      have p0 : (j : Int) < m.length := by omega
      have m0 : ((j : Int)).toNat = j := by omega
      have cp := put_ret A4 c4 pre x wr SP HF.out HX.out (by omega)
      have hle := put_length pre x
      obtain ⟨P, hP⟩ : ∃ P, putR pre x = P := ⟨_, rfl⟩
      rw [hP] at cp hle
      have HP2 : Hid ((m.take (j + 1)).foldl putR l = P) := aside (by rw [HS.out, HP.out, hP])
      have HF2 : Hid (Fits P) := aside (by rw [← hP]; exact put_fits HF.out HX.out)
      clear hr T3 hx hP HS HX HF HP SP S3 hf hg
      go_wp2_with (first | (refine wpList_load_reg rfl _ rfl _ _ rfl x hr1 ?_))
      refine cp.mono ?_
      rintro e w5 ⟨A5, c5, rfl, S5, h5⟩
      have k5 := kb.trans (h5.mono kb.size)
      clear h5 cp hr1
      go_wp2_with fail
      go_roundw
      case rel => exact ⟨j + 1, P, A5, c5, by omega, by go_num, rfl, by omega, HP2, HF2, S5, k5⟩
      case measure => simp [intOf]; omega
    · have e : j = m.length := by omega
      have HR2 : Hid (R = pre) := aside (by rw [← HR.out, ← HP.out, e, List.take_length])
      have k9 := k2.trans ((k3.trans (kb.mono k3.size)).mono k2.size)
      clear HP HR T3 S3 hf hg
      go_wp2
      go_ret
      rw [HR2.out]
      exact ⟨A4, c4, rfl, SP, k9⟩
theorem merge_ret (A : Option Addr) (cap : Nat) (l : List Rg) (B : Option Addr) (dap : Nat) (m : List Rg) (w : World) (S : SlR E w A cap l) (T : SlR E w B dap m) (hf : Fits l) (hg : Fits m) (hl : l.length ≤ 100000) (hm : m.length ≤ 100000) :
    Calls Try.prog 15 #[.slice A l.length cap, .slice B m.length dap] w (NewS E (mergeR l m) w) := by
  cases h1 : mayR l with
  | false => rw [merge_no (.inl h1)]; exact merge_none A cap l B dap m w S T hf hg (.inl h1)
  | true =>
    cases h2 : mayR m with
    | false => rw [merge_no (.inr h2)]; exact merge_none A cap l B dap m w S T hf hg (.inr ⟨h1, h2⟩)
    | true =>
      have e : mergeR l m = m.foldl putR l := if_pos ⟨h1, h2⟩
      rw [e]
      exact merge_yes A cap l B dap m w S T hf hg hl hm h1 h2
end Go.Proofs.Ytffefbhpndjdlaa.RegU
