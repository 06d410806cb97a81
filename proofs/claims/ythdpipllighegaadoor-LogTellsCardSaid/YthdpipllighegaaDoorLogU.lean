/- What the document's Mend, Write and Same return: contracts. No condition but sizes. -/
import Derived.Test.YthdpipllighegaaDoorLogT
import Derived.Test.YthdpipllighegaaDoorLogW
namespace Go.Proofs.YthdpipllighegaaDoor.LogU
set_option maxRecDepth 100000
open Go Go.Sort Go.RowKit Byt RotG Small EncM EncC LogM LogC LogD LogE LogB LogW

set_option maxHeartbeats 4000000 in
theorem mend_ret {w : World} {A : Option Addr} {cap len : Nat} {l : List Int} (S : Sl w A cap l) (hl : l.length = len) (hm : len ≤ 1099511627776) :
    Calls Tryd.prog 16 #[.slice A len cap] w (Gives (mendL l) w) := by
  have q := LogT.read_ret S hl hm
  have hle := readL_le S.bytes
  have hml : mendL l = l.take (readL l).2 := rfl
  obtain ⟨n, hn⟩ : ∃ n, (readL l).2 = n := ⟨_, rfl⟩
  obtain ⟨rs, hrs⟩ : ∃ rs, (readL l).1 = rs := ⟨_, rfl⟩
  rw [hn, hrs] at q
  rw [hn] at hml hle
  rw [hml]
  obtain ⟨A1, c1, hs1, S1, hl1⟩ := S.part 0 n (by omega) hle
  rw [List.drop_zero, Nat.sub_zero] at S1 hl1
  have hr1 := fun W => run_part_h W A len cap .i64 n (by have := S.1; omega)
  rw [hs1, Nat.sub_zero] at hr1
  have p2 : 0 ≤ (n : Int) := by omega
  have p3 : (n : Int) ≤ (cap : Int) := by have := S.1; omega
  have hn40 : n ≤ 1099511627776 := by omega
  obtain ⟨t, ht⟩ : ∃ t, l.take n = t := ⟨_, rfl⟩
  rw [ht] at S1 hl1 ⊢
  have tB := S1.bytes
  clear hs1 hle hml hn hrs S hl hm ht
  go_enter Tryd.func16, Tryd.ntmps16
  go_wp2_with (first | go_skip)
  refine q.mono ?_
  rintro e w1 ⟨A2, c2, ps, rfl, _, _, k1⟩
  have T1 := S1.below k1
  have bs1 := k1.size
  have nil1 : w1.ownsRow w.heap.size 5 1 (.slice none 0 0) 0 (Byt.bv []) := World.ownsRow_nil _ _ _ _
  clear q S1
  go_wp2_with (first | go_skip | (refine wpList_append_sl rfl (.const (.slice none 0 0)) (.tmp 12) 22 rfl w.heap.size 5 Tryd.underlying22 zero_u8 _ 0 [] rfl nil1 A1 n c1 t rfl hl1 T1 (by omega) bs1 ?_; intro v2 w2 own2 g2; have k2 := below_grown k1 k1.size g2 (fun q hq => by cases hq)))
  go_ret
  refine New.gives ⟨_, rfl, ?_, k2⟩ tB
  rw [hl1]
  simpa using own2
set_option maxRecDepth 100000 in
set_option maxHeartbeats 8000000 in
theorem write_ret {w : World} {A A' : Option Addr} {cap cap' len len' : Nat} {b x : List Int} {room : Int} (S : Sl w A cap b) (T : Sl w A' cap' x) (hl : b.length = len) (hl' : x.length = len') (hm : len ≤ 900000000) :
    Calls Tryd.prog 14 #[.slice A len cap, .int .i64 room, .slice A' len' cap'] w (GivesE (writeO b x room) w) := by
  by_cases h4 : 4000 < len'
  · have q := LogS.frame_no (w := w) (A := A') (cap := cap') h4
    have HO : Hid (writeO b x room = ([], 5)) := aside (by unfold writeO; rw [if_pos (by omega)])
    clear S T hl hl' hm h4
    go_enter Tryd.func14, Tryd.ntmps14
    go_wp2_with (first | go_skip)
    refine q.mono ?_
    rintro e w1 ⟨A2, c2, rfl, S2, k1⟩
    clear q
    go_wp2_with (first | go_skip)
    exact bodyPost_ret (v := .tuple #[.slice none 0 0, .int .i64 5]) (by simp [results, Tryd.results14, go_sem]) rfl (by rw [HO.out]; exact ⟨none, 0, rfl, Sl.nil _, k1⟩)
  · have q := LogS.frame_yes T hl' (by omega)
    have hlen := frameL_len x
    have hten := numL_ten (n := x.length) (by omega)
    have hx4 : ¬ 4000 < x.length := by omega
    obtain ⟨F, hF⟩ : ∃ F, frameL x = F := ⟨_, rfl⟩
    rw [hF] at q hlen
    have m1 : IntKind.i64.wrap ((len : Int) + (F.length : Int)) = (len : Int) + (F.length : Int) := IntWalk.i64_in _ (by omega)
    by_cases hr : room < (len : Int) + (F.length : Int)
    · have HO : Hid (writeO b x room = ([], 4)) := aside (by unfold writeO; rw [if_neg hx4, hF, if_pos (by omega)])
      clear S T hl hl' hm h4 hlen hten hF hx4
      go_enter Tryd.func14, Tryd.ntmps14
      go_wp2_with (first | go_skip)
      refine q.mono ?_
      rintro e w1 ⟨A2, c2, rfl, S2, k1⟩
      clear q
      go_wp2_with (first | go_skip)
      exact bodyPost_ret (v := .tuple #[.slice none 0 0, .int .i64 4]) (by simp [results, Tryd.results14, go_sem]) rfl (by rw [HO.out]; exact ⟨none, 0, rfl, Sl.nil _, k1⟩)
    · have HO : Hid (writeO b x room = (b ++ F, 0)) := aside (by unfold writeO; rw [if_neg hx4, hF, if_neg (by omega)])
      have hsum : len + F.length ≤ 1000000000 := by omega
      have bB := S.bytes
      clear T hl' h4 hlen hten hF hm hx4
      go_enter Tryd.func14, Tryd.ntmps14
      go_wp2_with (first | go_skip)
      refine q.mono ?_
      rintro e w1 ⟨A2, c2, rfl, S2, k1⟩
      clear q
      have S1 := S.below k1
      simp only [] at S2
      have FB := S2.bytes
      have bs1 := k1.size
      have nil1 : w1.ownsRow w.heap.size 5 1 (.slice none 0 0) 0 (Byt.bv []) := World.ownsRow_nil _ _ _ _
      clear S
      go_wp2_with (first | go_skip | (refine wpList_append_sl rfl (.const (.slice none 0 0)) (.tmp 25) 22 rfl w.heap.size 5 Tryd.underlying22 zero_u8 _ 0 [] rfl nil1 A len cap b rfl hl S1 (by omega) bs1 ?_; intro v2 w2 own2 g2; have b2 := below_grown k1 k1.size g2 (fun q hq => by cases hq); have k2 : Below w1.heap.size w1 w2 := below_grown (Below.refl _ _) (Nat.le_refl _) g2 (fun q hq => by cases hq); have S3 := S2.below k2; have bs2 := b2.size) | (refine wpList_append_sl rfl (.tmp 26) (.tmp 27) 22 rfl w.heap.size 5 Tryd.underlying22 zero_u8 v2 (0 + len) ([] ++ b) rfl own2 A2 F.length c2 F rfl rfl S3 (by omega) bs2 ?_; intro v3 w3 own3 g3; have b3 := below_grown b2 bs2 g3 (fun q hq => (own2.lt q hq).1)))
      have own4 : w3.ownsRow w.heap.size 5 1 v3 (b ++ F).length (Byt.bv (b ++ F)) := by
        rw [List.length_append, hl]
        simpa using own3
      obtain ⟨A6, c6, rfl, S6⟩ := Sl.own own4 (fun y hy => (List.mem_append.1 hy).elim (bB y) (FB y))
      exact bodyPost_ret (v := .tuple #[.slice A6 (b ++ F).length c6, .int .i64 0]) (by simp [results, Tryd.results14, go_sem]) rfl (by rw [HO.out]; exact ⟨A6, c6, rfl, S6, b3⟩)
def intOf : Value → Int | .int _ q => q | _ => 0
set_option maxRecDepth 100000 in
set_option maxHeartbeats 8000000 in
theorem same_ret {w : World} {A A' : Option Addr} {cap cap' n n' : Nat} {ps qs : List Pb} (S : SlB w A cap ps) (T : SlB w A' cap' qs) (hn : ps.length = n) (hn' : qs.length = n') :
    Calls Tryd.prog 12 #[.slice A n cap, .slice A' n' cap'] w fun e w' => e = .returned (.bool (decide (tx ps = tx qs))) ∧ Below w.heap.size w w' := by
  have hmax : n ≤ 9223372036854775807 := by have := S.room; unfold maxLen at this; omega
  by_cases hne : n = n'
  · subst hne
    have HN := aside hn
    have HN' := aside hn'
    clear hn hn'
    go_enter Tryd.func12, Tryd.ntmps12
    go_wp2_with (first | go_skip)
    go_loopw [5] (fun i wr => ∃ k : Nat, k ≤ n ∧ i = .int .i64 k ∧ Hid ((tx ps).take k = (tx qs).take k) ∧ Below w.heap.size w wr) (fun i _ => n - (intOf i).toNat)
    case atStart => exact ⟨0, Nat.zero_le _, rfl, aside rfl, Below.refl _ _⟩
    case round =>
      rename World => wr
      obtain ⟨k, hk, rfl, HT, kb⟩ := hrel
      by_cases hlt : k < n
      · obtain ⟨x, hx⟩ : ∃ x, ps[k]? = some x := ⟨_, List.getElem?_eq_getElem (by have := HN.out; omega)⟩
        obtain ⟨y, hy⟩ : ∃ y, qs[k]? = some y := ⟨_, List.getElem?_eq_getElem (by have := HN'.out; omega)⟩
        obtain ⟨b, off, rfl, hbw, hc⟩ := S.plain (by have := HN.out; omega)
        obtain ⟨b', off', rfl, hbw', hc'⟩ := T.plain (by have := HN'.out; omega)
        have cx := (kb.cell (p := ⟨b, off + k, none⟩) hbw).trans (hc k x hx)
        have cy := (kb.cell (p := ⟨b', off' + k, none⟩) hbw').trans (hc' k y hy)
        have Sx := (S.each x (List.mem_of_getElem? hx)).below kb
        have Sy := (T.each y (List.mem_of_getElem? hy)).below kb
        unfold hd at cx cy
        have cv1 := fun n => Sx.conv_quiet rfl n
        have cv2 := fun n => Sy.conv_quiet rfl n
        have hbe := strOf_beq Sx.bytes Sy.bytes
        have p0 : (k : Int) < (n : Int) := by omega
        have m0 : ((k : Int)).toNat = k := by omega
        have ex := tx_at hx
        have ey := tx_at hy
        clear hc hc' hbw hbw' S T Sx Sy hx hy
        by_cases he : x.bs = y.bs
        · have teq : ((strOf x.bs).toList == (strOf y.bs).toList) = true := by rw [hbe]; simp [he]
          have HT2 : Hid ((tx ps).take (k + 1) = (tx qs).take (k + 1)) := aside (by rw [List.take_add_one, List.take_add_one, HT.out, ex, ey, he])
          clear hbe he ex ey HT
          go_wp2_with (first | go_skip)
          go_quiet (fail)
          go_wp2_with (first | go_skip)
          go_roundw
          case rel => exact ⟨k + 1, by omega, by go_num, HT2, Byt.below_drew kb nq⟩
          case measure => simp [intOf]; omega
        · have teq : ((strOf x.bs).toList == (strOf y.bs).toList) = false := by rw [hbe]; simp [he]
          have hf : Hid (decide (tx ps = tx qs) = false) := aside (by
            rw [decide_eq_false_iff_not]
            intro e
            rw [e, ey] at ex
            exact he (Option.some.inj ex).symm)
          clear hbe he ex ey HT
          go_wp2_with (first | go_skip)
          go_quiet (fail)
          go_wp2_with (first | go_skip)
          go_ret
          exact ⟨by rw [hf.out]; rfl, Byt.below_drew kb nq⟩
      · have hf : Hid (decide (tx ps = tx qs) = true) := aside (by
          have h := HT.out
          rw [List.take_of_length_le (by rw [tx_len]; have := HN.out; omega), List.take_of_length_le (by rw [tx_len]; have := HN'.out; omega)] at h
          simp [h])
        have p0 : ¬ (k : Int) < (n : Int) := by omega
        clear HT S T
        go_wp2_with (first | go_skip)
        go_ret
        exact ⟨by rw [hf.out]; rfl, kb⟩
  · have hf : Hid (decide (tx ps = tx qs) = false) := aside (by
      rw [decide_eq_false_iff_not]
      intro e
      have := congrArg List.length e
      rw [tx_len, tx_len] at this
      omega)
    have p0 : ¬ (n : Int) = (n' : Int) := by omega
    clear S T hn hn' hne
    go_enter Tryd.func12, Tryd.ntmps12
    go_wp2_with (first | go_skip)
    go_ret
    exact ⟨by rw [hf.out]; rfl, Below.refl _ _⟩
end Go.Proofs.YthdpipllighegaaDoor.LogU
