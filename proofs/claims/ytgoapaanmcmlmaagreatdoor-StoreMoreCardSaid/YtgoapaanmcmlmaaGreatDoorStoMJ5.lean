/- Plain facts on disks: which commits are loaded of one, what of it is opened, and what is left where it is cut or spoilt. No condition. | What the document's answers to Pick, Most, Right and Four of package rot return: contracts. | What the document's answers to Long and Word of package rot return: contracts. | What the document's answers' twist, Constants, Start and words of package sha return: contracts. | What the document's answer's words of package sha returns: a contract. -/
import Derived.Test.YtgoapaanmcmlmaaGreatDoorDgMJ2
import Derived.Test.YtgoapaanmcmlmaaGreatDoorShaFJ4
import Derived.Test.YtgoapaanmcmlmaaGreatDoorRotMJ9
import Derived.Test.YtgoapaanmcmlmaaGreatDoorShaDJ4
import Derived.BigRegion
namespace Go.Proofs.YtgoapaanmcmlmaaGreatDoor.StoM
set_option maxRecDepth 100000
open IdM CmM DgM LogM EncM
open Classical
theorem catL_five : ∀ l : List (List Int), 5 * l.length ≤ (catL l).length
 | [] => by simp
 | x :: l => by
   have := frameL_pos x
   have := catL_five l
   rw [catL_cons, List.length_append, List.length_cons]
   omega
theorem readL_five {b : List Int} (hb : ∀ y ∈ b, 0 ≤ y ∧ y ≤ 255) : 5 * (readL b).1.length ≤ b.length := by
 obtain ⟨r, h1, h2, _, _⟩ := readL_lies b.length (Nat.le_refl _) hb
 have e := congrArg List.length h1
 rw [List.length_append] at e
 have := catL_five (readL b).1
 omega
section
variable {H : Com → Idn}
noncomputable def nextK (H : Com → Idn) (acc : List Com) (r : List Int) : Option Com :=
 match getK r with
 | some (c, []) => if Closed H (acc ++ [c]) then some c else none
 | _ => none
theorem nextK_some {acc : List Com} {r : List Int} {c : Com} (hb : ∀ x ∈ r, 0 ≤ x ∧ x ≤ 255) (h : nextK H acc r = some c) : mayK c = true ∧ r = putK c ∧ Closed H (acc ++ [c]) := by
 unfold nextK at h
 split at h
 · rename_i d hg
   split at h
   · rename_i hc
     obtain rfl := Option.some.inj h
     obtain ⟨h1, h2⟩ := put_getK hb hg
     exact ⟨h1, by rw [h2, List.append_nil], hc⟩
   · cases h
 · cases h
theorem nextK_put {acc : List Com} {c : Com} (h : mayK c = true) : nextK H acc (putK c) = if Closed H (acc ++ [c]) then some c else none := by
 unfold nextK
 rw [get_putK0 h]
noncomputable def loadR (H : Com → Idn) : List (List Int) → List Com → List Com × Nat
 | [], _ => ([], 0)
 | r :: rs, acc => match nextK H acc r with
   | some c => (c :: (loadR H rs (acc ++ [c])).1, (frameL r).length + (loadR H rs (acc ++ [c])).2)
   | none => ([], 0)
theorem loadR_nil (acc : List Com) : loadR H [] acc = ([], 0) := rfl
theorem loadR_some {r : List Int} {rs : List (List Int)} {acc : List Com} {c : Com} (h : nextK H acc r = some c) : loadR H (r :: rs) acc = (c :: (loadR H rs (acc ++ [c])).1, (frameL r).length + (loadR H rs (acc ++ [c])).2) := by
 rw [loadR, h]
theorem loadR_none {r : List Int} {rs : List (List Int)} {acc : List Com} (h : nextK H acc r = none) : loadR H (r :: rs) acc = ([], 0) := by
 rw [loadR, h]
theorem loadR_closed : ∀ (rs : List (List Int)) (acc : List Com), (∀ r ∈ rs, ∀ x ∈ r, 0 ≤ x ∧ x ≤ 255) → Closed H acc → Closed H (acc ++ (loadR H rs acc).1)
 | [], acc, _, h => by rw [loadR_nil, List.append_nil]; exact h
 | r :: rs, acc, hb, h => by
   cases hn : nextK H acc r with
   | none => rw [loadR_none hn, List.append_nil]; exact h
   | some c =>
     rw [loadR_some hn]
     have h1 := (nextK_some (hb r (by simp)) hn).2.2
     have := loadR_closed rs (acc ++ [c]) (fun r hr => hb r (by simp [hr])) h1
     rwa [List.append_assoc, List.singleton_append] at this
theorem loadR_lies : ∀ (rs : List (List Int)) (acc : List Com), (∀ r ∈ rs, ∀ x ∈ r, 0 ≤ x ∧ x ≤ 255) → ∃ k, k ≤ rs.length ∧ (loadR H rs acc).1.length = k ∧ rs.take k = (loadR H rs acc).1.map putK ∧ (loadR H rs acc).2 = (catL (rs.take k)).length ∧ loadR H (rs.take k) acc = loadR H rs acc
 | [], acc, _ => ⟨0, Nat.le_refl _, rfl, rfl, rfl, rfl⟩
 | r :: rs, acc, hb => by
   cases hn : nextK H acc r with
   | none =>
     rw [loadR_none hn]
     exact ⟨0, Nat.zero_le _, rfl, rfl, rfl, rfl⟩
   | some c =>
     rw [loadR_some hn]
     have h1 := (nextK_some (hb r (by simp)) hn).2.1
     obtain ⟨k, q1, q2, q3, q4, q5⟩ := loadR_lies rs (acc ++ [c]) (fun r hr => hb r (by simp [hr]))
     refine ⟨k + 1, by simp; omega, by simp [q2], ?_, ?_, ?_⟩
     · rw [List.take_succ_cons, q3, List.map_cons, ← h1]
     · rw [List.take_succ_cons, catL_cons, List.length_append, q4]
     · rw [List.take_succ_cons, loadR_some hn, q5]
theorem loadR_puts : ∀ (l acc : List Com) (rs : List (List Int)), (∀ i, i ≤ l.length → Closed H (acc ++ l.take i)) → loadR H (l.map putK ++ rs) acc = (l ++ (loadR H rs (acc ++ l)).1, (catL (l.map putK)).length + (loadR H rs (acc ++ l)).2)
 | [], acc, rs, _ => by simp [catL]
 | c :: l, acc, rs, h => by
   have h1 : Closed H (acc ++ [c]) := h 1 (by simp)
   have hm : mayK c = true := h1.may c (by simp)
   have hn : nextK H acc (putK c) = some c := by rw [nextK_put hm, if_pos h1]
   have ih := loadR_puts l (acc ++ [c]) rs (fun i hi => by
     have := h (i + 1) (by simp; omega)
     rwa [List.take_succ_cons, ← List.singleton_append, ← List.append_assoc] at this)
   rw [List.map_cons, List.cons_append, loadR_some hn, ih, catL_cons, List.length_append]
   simp [Nat.add_assoc]
noncomputable def loadD (H : Com → Idn) (b : List Int) : List Com × Nat := loadR H (readL b).1 []
noncomputable def openD (H : Com → Idn) (b : List Int) : List Int := b.take (loadD H b).2
theorem loadD_closed {b : List Int} (hb : ∀ y ∈ b, 0 ≤ y ∧ y ≤ 255) : Closed H (loadD H b).1 := by
 have := loadR_closed (H := H) (readL b).1 [] (fun r hr => (readL_B hb r hr).2) closed_nil
 rwa [List.nil_append] at this
theorem openD_is {b : List Int} (hb : ∀ y ∈ b, 0 ≤ y ∧ y ≤ 255) : ∃ k, k ≤ (readL b).1.length ∧ (loadD H b).1.length = k ∧ (readL b).1.take k = (loadD H b).1.map putK ∧ (loadD H b).2 = (catL ((readL b).1.take k)).length ∧ (loadD H b).2 ≤ b.length ∧ openD H b = catL ((readL b).1.take k) ∧ readL (openD H b) = ((readL b).1.take k, (loadD H b).2) ∧ loadD H (openD H b) = loadD H b := by
 obtain ⟨r, h1, h2, h3, _⟩ := readL_lies b.length (Nat.le_refl _) hb
 obtain ⟨k, q1, q2, q3, q4, q5⟩ := loadR_lies (H := H) (readL b).1 [] (fun r hr => (readL_B hb r hr).2)
 have e : catL (readL b).1 = catL ((readL b).1.take k) ++ catL ((readL b).1.drop k) := by rw [← catL_append, List.take_append_drop]
 have hle : (loadD H b).2 ≤ b.length := by
   have := congrArg List.length h1
   rw [List.length_append, e, List.length_append] at this
   have q : (loadD H b).2 = (catL ((readL b).1.take k)).length := q4
   omega
 have ho : openD H b = catL ((readL b).1.take k) := by
   unfold openD
   have q : (loadD H b).2 = (catL ((readL b).1.take k)).length := q4
   rw [q]
   conv => lhs; arg 2; rw [h1, e, List.append_assoc]
   exact List.take_left
 have hr : readL (openD H b) = ((readL b).1.take k, (loadD H b).2) := by
   have := readL_cat (l := (readL b).1.take k) (fun x hx => h3 x (List.mem_of_mem_take hx)) []
   rw [List.append_nil, readL_none firstL_nil, List.append_nil, Nat.add_zero] at this
   rw [ho, this]
   have q : (loadD H b).2 = (catL ((readL b).1.take k)).length := q4
   rw [q]
 refine ⟨k, q1, q2, q3, q4, hle, ho, hr, ?_⟩
 unfold loadD at *
 rw [hr]
 exact q5
theorem loadD_few {b : List Int} (hb : ∀ y ∈ b, 0 ≤ y ∧ y ≤ 255) : 5 * (loadD H b).1.length ≤ b.length := by
 obtain ⟨k, q1, q2, _⟩ := openD_is (H := H) hb
 have := readL_five hb
 omega
theorem openD_twice {b : List Int} (hb : ∀ y ∈ b, 0 ≤ y ∧ y ≤ 255) : openD H (openD H b) = openD H b := by
 obtain ⟨k, q1, q2, q3, q4, q5, q6, q7, q8⟩ := openD_is (H := H) hb
 have e : openD H (openD H b) = (openD H b).take (loadD H (openD H b)).2 := rfl
 rw [e, q8]
 unfold openD
 rw [List.take_take, Nat.min_self]
theorem openD_len {b : List Int} (hb : ∀ y ∈ b, 0 ≤ y ∧ y ≤ 255) : (openD H b).length = (loadD H b).2 := by
 obtain ⟨k, q1, q2, q3, q4, q5, q6, q7, q8⟩ := openD_is (H := H) hb
 rw [q6, q4]
def diskK (l : List Com) : List Int := catL (l.map putK)
theorem put_short {l : List Com} (h : ∀ c ∈ l, mayK c = true) : ∀ x ∈ l.map putK, x.length ≤ 400 := fun x hx => by
 obtain ⟨c, hc, rfl⟩ := List.mem_map.1 hx
 exact putK_len (h c hc)
theorem diskK_len {l : List Com} (h : ∀ c ∈ l, mayK c = true) : (diskK l).length ≤ 406 * l.length := by
 induction l with
 | nil => simp [diskK, catL]
 | cons c l ih =>
   have h1 := putK_len (h c (by simp))
   have h2 := frameL_len (putK c)
   have h3 := numL_len 1 (putK c).length (by omega)
   have h4 := ih (fun d hd => h d (by simp [hd]))
   unfold diskK at h4 ⊢
   rw [List.map_cons, catL_cons, List.length_append, List.length_cons]
   omega
theorem load_cut {s : List Com} (C : Closed H s) (ho : InOrder H s) {want m : Nat} (hw : want ≤ s.length) (h1 : (diskK (s.take want)).length ≤ m) (h2 : want < s.length → m < (diskK (s.take (want + 1))).length) :
   loadD H ((diskK s).take m) = (s.take want, (diskK (s.take want)).length) := by
 unfold diskK at *
 rw [List.map_take] at h1 h2
 have hr := readL_cut (l := s.map putK) (fun x hx => Nat.le_trans (put_short C.may x hx) (by omega)) (want := want) (at_ := m) (by rw [List.length_map]; exact hw) h1 (fun h => h2 (by rw [List.length_map] at h; exact h))
 have hp := loadR_puts (H := H) (s.take want) [] [] (fun i hi => by
   rw [List.nil_append, List.take_take]
   exact closed_take C ho _)
 rw [List.append_nil, loadR_nil, List.append_nil, Nat.add_zero, List.map_take] at hp
 unfold loadD
 rw [hr, List.map_take]
 exact hp
theorem load_all {s : List Com} (C : Closed H s) (ho : InOrder H s) : loadD H (diskK s) = (s, (diskK s).length) := by
 have := load_cut (H := H) C ho (want := s.length) (m := (diskK s).length) (Nat.le_refl _) (by rw [List.take_length]; exact Nat.le_refl _) (fun h => absurd h (by omega))
 rwa [List.take_length, List.take_length] at this
theorem load_more {s : List Com} (C : Closed H s) (ho : InOrder H s) {c : Com} (hc : mayK c = true) :
   loadD H (diskK s ++ frameL (putK c)) = if Closed H (s ++ [c]) then (s ++ [c], (diskK s).length + (frameL (putK c)).length) else (s, (diskK s).length) := by
 have e : diskK s ++ frameL (putK c) = catL (s.map putK ++ [putK c]) := by
   unfold diskK
   rw [catL_append, catL_cons, catL_nil, List.append_nil]
 have hr := readL_cat (l := s.map putK ++ [putK c]) (fun x hx => by
   rcases List.mem_append.1 hx with hx | hx
   · exact Nat.le_trans (put_short C.may x hx) (by omega)
   · rw [List.mem_singleton.1 hx]
     exact Nat.le_trans (putK_len hc) (by omega)) []
 rw [List.append_nil, readL_none firstL_nil, List.append_nil] at hr
 have hp := loadR_puts (H := H) s [] [putK c] (fun i _ => by rw [List.nil_append]; exact closed_take C ho i)
 unfold loadD
 rw [e, hr, hp, List.nil_append]
 by_cases h : Closed H (s ++ [c])
 · rw [if_pos h, loadR_some (c := c) (by rw [nextK_put hc, if_pos h]), loadR_nil]
   rfl
 · rw [if_neg h, loadR_none (by rw [nextK_put hc, if_neg h]), List.append_nil]
   rfl
theorem firstL_spoilt {x m r : List Int} (hx : x.length ≤ 4000) (hm : m.length = 4) (hne : m ≠ markL x) : firstL (numL x.length ++ (x ++ (m ++ r))) = none := by
 have hg : getL (numL x.length ++ (x ++ (m ++ r))) = (x.length, (numL x.length).length) := getL_num _ _ (by omega)
 have hp := numL_pos x.length
 unfold firstL
 rw [hg, if_neg (by simp only []; omega), if_neg (by simp only [List.length_append]; omega)]
 simp only []
 rw [List.drop_left, List.drop_left, List.take_left, if_neg]
 rw [show m ++ r = m ++ r from rfl, ← hm, List.take_left]
 exact hne
theorem readL_spoilt {l : List (List Int)} (h : ∀ x ∈ l, x.length ≤ 4000) {w p : Nat} {v : Int} (hw : w < l.length) (h1 : (catL (l.take (w + 1))).length ≤ p + 4) (h2 : p < (catL (l.take (w + 1))).length) (hv : (catL l)[p]? ≠ some v) :
   readL ((catL l).set p v) = (l.take w, (catL (l.take w)).length) := by
 obtain ⟨x, hx⟩ : ∃ x, l[w] = x := ⟨_, rfl⟩
 have hxl : x.length ≤ 4000 := h x (by rw [← hx]; exact List.getElem_mem _)
 have e : l = l.take w ++ (x :: l.drop (w + 1)) := by
   rw [← hx, ← List.drop_eq_getElem_cons hw, List.take_append_drop]
 have e2 : catL l = catL (l.take w) ++ (frameL x ++ catL (l.drop (w + 1))) := by
   conv => lhs; rw [e]
   rw [catL_append, catL_cons]
 have e3 : (catL (l.take (w + 1))).length = (catL (l.take w)).length + (frameL x).length := by
   rw [List.take_succ_eq_append_getElem hw, hx, catL_append, catL_cons, catL_nil, List.append_nil, List.length_append]
 have hfl := frameL_len x
 rw [e3] at h1 h2
 obtain ⟨q, hq⟩ : ∃ q, p = (catL (l.take w)).length + ((numL x.length).length + (x.length + q)) := ⟨p - (catL (l.take w)).length - (numL x.length).length - x.length, by omega⟩
 have hq4 : q < 4 := by omega
 have hml := markL_len x
 obtain ⟨R, hR⟩ : ∃ R, catL (l.drop (w + 1)) = R := ⟨_, rfl⟩
 rw [hR] at e2
 have e4 : catL l = catL (l.take w) ++ (numL x.length ++ (x ++ (markL x ++ R))) := by
   rw [e2]
   unfold frameL
   simp
 have es : (catL l).set p v = catL (l.take w) ++ (numL x.length ++ (x ++ ((markL x).set q v ++ R))) := by
   rw [e4, hq, List.set_append_right _ _ (by omega), Nat.add_sub_cancel_left, List.set_append_right _ _ (by omega), Nat.add_sub_cancel_left, List.set_append_right _ _ (by omega), Nat.add_sub_cancel_left, List.set_append_left _ _ (by omega)]
 have hmne : (markL x).set q v ≠ markL x := fun eq => by
   apply hv
   rw [e4, hq, List.getElem?_append_right (by omega), Nat.add_sub_cancel_left, List.getElem?_append_right (by omega), Nat.add_sub_cancel_left, List.getElem?_append_right (by omega), Nat.add_sub_cancel_left, List.getElem?_append_left (by omega), ← eq, List.getElem?_set_self (by omega)]
 have hn : firstL (numL x.length ++ (x ++ ((markL x).set q v ++ R))) = none := firstL_spoilt hxl (by rw [List.length_set]; exact hml) hmne
 rw [es, readL_cat (fun y hy => h y (List.mem_of_mem_take hy)), readL_none hn, List.append_nil, Nat.add_zero]
theorem load_spoilt {s : List Com} (C : Closed H s) (ho : InOrder H s) {w p : Nat} {v : Int} (hw : w < s.length) (h1 : (diskK (s.take (w + 1))).length ≤ p + 4) (h2 : p < (diskK (s.take (w + 1))).length) (hv : (diskK s)[p]? ≠ some v) :
   loadD H ((diskK s).set p v) = (s.take w, (diskK (s.take w)).length) := by
 unfold diskK at *
 rw [List.map_take] at h1 h2
 have hr := readL_spoilt (l := s.map putK) (fun x hx => Nat.le_trans (put_short C.may x hx) (by omega)) (w := w) (p := p) (v := v) (by rw [List.length_map]; exact hw) h1 h2 hv
 have hp := loadR_puts (H := H) (s.take w) [] [] (fun i hi => by
   rw [List.nil_append, List.take_take]
   exact closed_take C ho _)
 rw [List.append_nil, loadR_nil, List.append_nil, Nat.add_zero, List.map_take] at hp
 unfold loadD
 rw [hr, List.map_take]
 exact hp
end
def lastL (l : List Com) (node : Int) : Int := l.foldl (fun n c => if c.node = node ∧ n < c.seq then c.seq else n) 0
theorem lastL_snoc (l : List Com) (c : Com) (node : Int) : lastL (l ++ [c]) node = if c.node = node ∧ lastL l node < c.seq then c.seq else lastL l node := by
 unfold lastL
 rw [List.foldl_append]
 rfl
end Go.Proofs.YtgoapaanmcmlmaaGreatDoor.StoM
namespace Go.Proofs.YtgoapaanmcmlmaaGreatDoor.RotC
set_option maxRecDepth 100000
open Go.RowKit RotM
theorem refpick (p a b : BitVec 32) (w : World) :
   Calls Tryz.prog 126 #[.int .u32 (u p), .int .u32 (u a), .int .u32 (u b)] w fun e w' => e = .returned (.int .u32 (u (pickW p a b))) ∧ w = w' := by
 have h1 := bits_and p a
 have h2 := bits_and p b
 have h3 := sub_and p b
 have h4 := u_range (~~~p &&& b)
 go_enter Tryz.func126, Tryz.ntmps126
 go_wp2
 go_ret
 exact ⟨ret_u (by rw [bits_or]; rfl), rfl⟩
theorem refmost (a b c : BitVec 32) (w : World) :
   Calls Tryz.prog 127 #[.int .u32 (u a), .int .u32 (u b), .int .u32 (u c)] w fun e w' => e = .returned (.int .u32 (u (mostW a b c))) ∧ w = w' := by
 go_enter Tryz.func127, Tryz.ntmps127
 go_wp2
 go_ret
 exact ⟨ret_u (by rw [bits_and, bits_and, bits_and, bits_or, bits_or]; rfl), rfl⟩
set_option maxHeartbeats 400000 in
theorem refright (x : BitVec 32) (n : Int) (hn : -9223372036854775808 ≤ n ∧ n ≤ 9223372036854775807) (w : World) :
   Calls Tryz.prog 125 #[.int .u32 (u x), .int .i64 n] w fun e w' => e = .returned (.int .u32 (u (rotr x (n % 32).toNat))) ∧ w = w' := by
 have hx := u_range x
 have hr : n.tmod 32 = if n % 32 = 0 ∨ 0 ≤ n then n % 32 else n % 32 - 32 := by rw [Int.tmod_eq_emod]; split <;> split <;> omega
 by_cases hc : n % 32 = 0 ∨ 0 ≤ n
 · rw [if_pos hc] at hr
   go_enter Tryz.func125, Tryz.ntmps125
   go_wp2
   go_ret
   exact ⟨ret_u (by rw [shr_u, shl_u, bits_or, show (32 - n % 32).toNat = 32 - (n % 32).toNat from by omega]; rfl), rfl⟩
 · rw [if_neg hc] at hr
   go_enter Tryz.func125, Tryz.ntmps125
   go_wp2
   go_ret
   exact ⟨ret_u (by rw [shr_u, shl_u, bits_or, show (32 - n % 32).toNat = 32 - (n % 32).toNat from by omega]; rfl), rfl⟩
theorem reffour (a : Int) (ha : 0 ≤ a ∧ a ≤ 4294967295) (w : World) :
   Calls Tryz.prog 101 #[.int .u32 a] w fun e w' => e = .returned (.agg (fourV a)) ∧ w' = w.alloc (.cells (fourV a) 119) := by
 go_enter Tryz.func101, Tryz.ntmps101
 go_wp2
 exact bodyPost_ret (v := .agg (fourV a)) (by simp [results, Tryz.results101, go_sem, fourV]) rfl ⟨rfl, rfl⟩
end Go.Proofs.YtgoapaanmcmlmaaGreatDoor.RotC
namespace Go.Proofs.YtgoapaanmcmlmaaGreatDoor.RotD
set_option maxRecDepth 100000
open Go.RowKit RotM RotC
set_option maxHeartbeats 1000000 in
theorem reflong (a : Int) (ha : 0 ≤ a ∧ a ≤ 18446744073709551615) (w : World) :
   Calls Tryz.prog 121 #[.int .u64 a] w fun e w' => e = .returned (.agg (longV a)) ∧ Below w.heap.size w w' := by
 go_enter Tryz.func121, Tryz.ntmps121
 go_wp2
 go_rounds 9
 go_returns
 refine ⟨agg8 ?_ ?_ ?_ ?_ ?_ ?_ ?_ ?_, ?_⟩
 all_goals first | omega | go_grown
set_option maxHeartbeats 1000000 in
theorem refword_yes (b off len cap k : Nat) (b0 b1 b2 b3 : Int) (hl : len ≤ 100) (hk : k + 4 ≤ len) (w : World)
   (c0 : w.cell? ⟨b, off + k, none⟩ = some (.int .u8 b0)) (c1 : w.cell? ⟨b, off + (k + 1), none⟩ = some (.int .u8 b1)) (c2 : w.cell? ⟨b, off + (k + 2), none⟩ = some (.int .u8 b2)) (c3 : w.cell? ⟨b, off + (k + 3), none⟩ = some (.int .u8 b3))
   (r0 : 0 ≤ b0 ∧ b0 ≤ 255) (r1 : 0 ≤ b1 ∧ b1 ≤ 255) (r2 : 0 ≤ b2 ∧ b2 ≤ 255) (r3 : 0 ≤ b3 ∧ b3 ≤ 255) :
   Calls Tryz.prog 147 #[.slice (some ⟨b, off, none⟩) len cap, .int .i64 (k : Int)] w fun e w' => e = .returned (.tuple #[.int .u32 (four4 b0 b1 b2 b3), .bool true]) ∧ Below w.heap.size w w' := by
 go_enter Tryz.func147, Tryz.ntmps147
 go_wp2
 go_quiet (fail)
 go_wp2
 go_ret2
 exact ⟨rfl, below_drewN _ _⟩
end Go.Proofs.YtgoapaanmcmlmaaGreatDoor.RotD
namespace Go.Proofs.YtgoapaanmcmlmaaGreatDoor.RefS
set_option maxRecDepth 100000
open Go.RowKit RotM RotN RotC RotD ShaM ShaC ShaD RotG Small
theorem twist (a b c : BitVec 32) (w : World) :
   Calls Tryz.prog 124 #[.int .u32 (u a), .int .u32 (u b), .int .u32 (u c)] w fun e w' => e = .returned (.int .u32 (u (a ^^^ b ^^^ c))) ∧ w = w' := by
 go_enter Tryz.func124, Tryz.ntmps124
 go_wp2
 go_ret
 exact ⟨ret_u (by rw [bits_xor, bits_xor]), rfl⟩
theorem start (w : World) :
   Calls Tryz.prog 99 #[] w fun e w' => e = .returned (.agg startS.vals) ∧ Below w.heap.size w w' := by
 go_enter Tryz.func99, Tryz.ntmps99
 go_wp2
 exact bodyPost_ret (v := .agg startS.vals) (by simp [results, Tryz.results99, go_sem]; rfl) rfl ⟨rfl, by go_grown⟩
theorem rightK (x : BitVec 32) (n : Int) (j : Nat) (hn : -9223372036854775808 ≤ n ∧ n ≤ 9223372036854775807) (h : (n % 32).toNat = j) (w : World) :
   Calls Tryz.prog 125 #[.int .u32 (u x), .int .i64 n] w fun e w' => e = .returned (.int .u32 (u (rotr x j))) ∧ w = w' := by
 subst h
 exact refright x n hn w
def kcells : Array Value := Array.ofFn (n := 64) fun j => Value.int .u32 (u (kc j.val))
theorem kcells_size : kcells.size = 64 := by simp [kcells]
theorem kcells_at {j : Nat} (hj : j < 64) : kcells[j]? = some (.int .u32 (u (kc j))) := by simp [kcells, hj]
theorem kcells_one : kcells.all (·.oneCell') = true := by
 rw [Array.all_eq_true_iff_forall_mem]
 intro v hv
 obtain ⟨i, rfl⟩ := Array.mem_ofFn.1 hv
 rfl
theorem info64 : (Tryz.prog.info? 153).map (·.size) = some 64 := by kernel_rfl
set_option maxHeartbeats 1000000 in
set_option maxRecDepth 100000 in
theorem constants (w : World) :
   Calls Tryz.prog 122 #[] w fun e w' => e = .returned (.agg kcells) ∧ Below w.heap.size w w' := by
 go_enter Tryz.func122, Tryz.ntmps122
 go_wp2_with (first | (refine wpList_build rfl 153 _ rfl ?c1 ?_; (case c1 => kernel_rfl)) | (refine wpList_store_last rfl 153 _ _ rfl _ _ kcells 153 rfl _ rfl ?c1 ?c5 ?c2 ?c3 ?c4 ?_; (case c1 => simp); (case c5 => kernel_rfl); (case c2 => rw [kcells_size]; exact info64); (case c3 => rw [kcells_size]; rfl); (case c4 => exact kcells_one)))
 exact bodyPost_ret (v := .agg kcells) (results_at Tryz.results122 _ _ w.heap.size _ _ rfl (At.new _ _ _) Tryz.underlying153 rfl (by rw [kcells_size]; exact info64)) rfl ⟨rfl, by go_grown⟩
end Go.Proofs.YtgoapaanmcmlmaaGreatDoor.RefS
namespace Go.Proofs.YtgoapaanmcmlmaaGreatDoor.RefT
set_option maxRecDepth 100000
open Go.RowKit RotM RotN RotC RotD ShaM ShaD RotG Small RefS
theorem word4 (b off cap k : Nat) (f : Nat → Int) (hf : ∀ i, B (f i)) (hk : k < 16) (p : Int) (hp : p = 4 * (k : Int)) (w : World) (hc : ∀ i, i < 64 → w.cell? ⟨b, off + i, none⟩ = some (.int .u8 (f i))) :
   Calls Tryz.prog 147 #[.slice (some ⟨b, off, none⟩) 64 cap, .int .i64 p] w fun e w' => e = .returned (.tuple #[.int .u32 (u (wordsOf f k)), .bool true]) ∧ Below w.heap.size w w' := by
 obtain rfl : p = ((4 * k : Nat) : Int) := by omega
 rw [u_words hf]
 exact refword_yes b off 64 cap (4 * k) _ _ _ _ (by omega) (by omega) w (hc _ (by omega)) (hc _ (by omega)) (hc _ (by omega)) (hc _ (by omega)) (hf _) (hf _) (hf _) (hf _)
theorem twistI (a b : BitVec 32) (n : Int) (c : BitVec 32) (hn : n = u c) (w : World) :
   Calls Tryz.prog 124 #[.int .u32 (u a), .int .u32 (u b), .int .u32 n] w fun e w' => e = .returned (.int .u32 (u (a ^^^ b ^^^ c))) ∧ w = w' := by
 subst hn
 exact RefS.twist a b c w
theorem wd_sum' (a b x y : BitVec 32) : (u a + u b + u (rotr x 7 ^^^ rotr x 18 ^^^ x >>> 3) + u (rotr y 17 ^^^ rotr y 19 ^^^ y >>> 10)) % 4294967296 = u (a + b + s0 x + s1 y) := by
 rw [sum4]
 rfl
set_option maxHeartbeats 1000000 in
set_option maxRecDepth 100000 in
theorem words (b off cap : Nat) (f : Nat → Int) (hf : ∀ i, B (f i)) (w : World) (hc : ∀ i, i < 64 → w.cell? ⟨b, off + i, none⟩ = some (.int .u8 (f i))) :
   Calls Tryz.prog 123 #[.slice (some ⟨b, off, none⟩) 64 cap] w fun e w' => e = .returned (.agg (sp (wordsOf f) 64)) ∧ Below w.heap.size w w' := by
 have hb : b < w.heap.size := block_lt_of_cell (hc 0 (by omega))
 have HC := RotF.aside hc
 have HF := RotF.aside hf
 clear hc hf
 go_enter Tryz.func123, Tryz.ntmps123
 go_wp2_with (first | (refine wpList_build rfl 153 _ rfl ?c1 ?_; (case c1 => kernel_rfl)) | (refine wpList_store_last rfl 153 _ _ rfl _ _ (sp (wordsOf f) 0) 153 rfl _ rfl ?c1 ?c5 ?c2 ?c3 ?c4 ?_; (case c1 => simp); (case c5 => kernel_rfl); (case c2 => rw [sp_size]; exact info64); (case c3 => rw [sp_size]; rfl); (case c4 => exact sp_one _ _)))
 go_loopw [4] (fun i wr => ∃ k : Nat, k ≤ 64 ∧ i = .int .i64 k ∧ At wr w.heap.size (sp (wordsOf f) 0) ∧ At wr (w.heap.size + 1) (sp (wordsOf f) k) ∧ Below w.heap.size w wr) (fun i _ => 64 - (intOf i).toNat)
 case atStart => exact ⟨0, Nat.zero_le _, rfl, by rw [sp_zero]; exact ⟨_, heap_alloc2_old _ _ _⟩, ⟨_, heap_alloc2_new _ _ _⟩, by go_grown⟩
 case round =>
   obtain ⟨k, hk, rfl, A0, A1, kb⟩ := hrel
   by_cases hlt : k < 64
   · by_cases h16 : k < 16
     · go_wp2_with fail
       refine (word4 b off cap k f HF.out h16 _ rfl _ (fun i hi => (kb.cell hb).trans (HC.out i hi))).mono ?_
       rintro e w1 ⟨rfl, h1⟩
       have B0 := A0.below h1 A0.lt
       have B1 := A1.below h1 A1.lt
       have kc := kb.trans (h1.mono kb.size)
       clear A0 A1 kb h1
       have c1 := B1.cell k
       rw [sp_at _ _ (by omega), if_neg (by omega)] at c1
       have z1 := B1.frozen k
       go_wp2
       go_roundw
       case rel =>
         have q := B1.set k (.int .u32 (u (wordsOf f k)))
         rw [← wd_low (wordsOf f) h16, sp_set _ (by omega)] at q
         rw [← wd_low (wordsOf f) h16]
         exact ⟨k + 1, by omega, by go_num, B0.set_other (by simp) _, q, kc.setCell (by simp) _⟩
       case measure => simp [intOf]; omega
     · have hk1 : 16 ≤ k := by omega
       have c15 := (A1.cell (k - 15)).trans (sp_old _ (by omega) (by omega))
       have c2 := (A1.cell (k - 2)).trans (sp_old _ (by omega) (by omega))
       have c16 := (A1.cell (k - 16)).trans (sp_old _ (by omega) (by omega))
       have c7 := (A1.cell (k - 7)).trans (sp_old _ (by omega) (by omega))
       have t15 : ((k : Int) - 15).toNat = k - 15 := by omega
       have t2 : ((k : Int) - 2).toNat = k - 2 := by omega
       have t16 : ((k : Int) - 16).toNat = k - 16 := by omega
       have t7 : ((k : Int) - 7).toNat = k - 7 := by omega
       have o15 : 0 ≤ (k : Int) - 15 := by omega
       have o2 : 0 ≤ (k : Int) - 2 := by omega
       have o16 : 0 ≤ (k : Int) - 16 := by omega
       have o7 : 0 ≤ (k : Int) - 7 := by omega
       have p15 : (k : Int) - 15 < 64 := by omega
       have p2 : (k : Int) - 2 < 64 := by omega
       have p16 : (k : Int) - 16 < 64 := by omega
       have p7 : (k : Int) - 7 < 64 := by omega
       have ck := A1.cell k
       rw [sp_at _ _ hlt, if_neg (by omega)] at ck
       have zk := A1.frozen k
       have r15 := u_range (wd (wordsOf f) (k - 15))
       have r2 := u_range (wd (wordsOf f) (k - 2))
       go_wp2_with fail
       refine (RefS.rightK _ 7 7 (by omega) rfl _).mono ?_
       rintro e w' ⟨rfl, rfl⟩
       go_wp2_with fail
       refine (RefS.rightK _ 18 18 (by omega) rfl _).mono ?_
       rintro e w' ⟨rfl, rfl⟩
       go_wp2_with fail
       refine (twistI _ _ (u (wd (wordsOf f) (k - 15)) / 8) _ (shr3 (wd (wordsOf f) (k - 15))) _).mono ?_
       rintro e w' ⟨rfl, rfl⟩
       go_wp2_with fail
       refine (RefS.rightK _ 17 17 (by omega) rfl _).mono ?_
       rintro e w' ⟨rfl, rfl⟩
       go_wp2_with fail
       refine (RefS.rightK _ 19 19 (by omega) rfl _).mono ?_
       rintro e w' ⟨rfl, rfl⟩
       go_wp2_with fail
       refine (twistI _ _ (u (wd (wordsOf f) (k - 2)) / 1024) _ (shr10 (wd (wordsOf f) (k - 2))) _).mono ?_
       rintro e w' ⟨rfl, rfl⟩
       go_wp2_with fail
       go_region
       go_wp2
       go_roundw
       case rel =>
         have q := A1.set k (.int .u32 (u (wd (wordsOf f) k)))
         rw [sp_set _ hlt, wd_high _ hk1, ← wd_sum'] at q
         exact ⟨k + 1, by omega, by go_num, At.drew (A0.set_other (by simp) _), At.drew q, below_drew1 (kb.setCell (by simp) _)⟩
       case measure => simp [intOf]; omega
   · have e64 : k = 64 := by omega
     rw [e64] at A1
     clear e64
     go_wp2_with (first | (refine wpList_load_at rfl 153 _ rfl _ rfl _ _ A1 Tryz.underlying153 rfl ?c2 ?_; (case c2 => rw [sp_size]; exact info64)) | (refine wpList_store_at rfl 153 _ _ rfl _ _ rfl rfl _ A0 ?c2 ?c3 ?c4 ?_; (case c2 => rw [sp_size]; exact info64); (case c3 => rw [sp_size, sp_size]); (case c4 => exact sp_one _ _)))
     exact bodyPost_ret (v := .agg (sp (wordsOf f) 64)) (results_at Tryz.results123 _ _ w.heap.size _ _ rfl (A0.row _) Tryz.underlying153 rfl (by rw [sp_size]; exact info64)) rfl ⟨rfl, below_row kb (Nat.le_refl _) _⟩
end Go.Proofs.YtgoapaanmcmlmaaGreatDoor.RefT
