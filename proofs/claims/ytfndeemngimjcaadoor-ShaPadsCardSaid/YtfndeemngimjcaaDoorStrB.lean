/- A slice of bytes as a string, and when two such strings are the same. -/
import Derived.Test.YtfndeemngimjcaaDoorShaA
import Derived.Laws.IdiomStrings
namespace Go.Proofs.YtfndeemngimjcaaDoor.StrB
open Go.RowKit RotM RotN RotC RotD RotG Small PadM RowIn

/-- The string of some bytes. -/
def strOf (l : List Int) : ByteArray := ⟨(l.map fun n => UInt8.ofNat n.toNat).toArray⟩
theorem strOf_toList (l : List Int) : (strOf l).toList = l.map fun n => UInt8.ofNat n.toNat := by
  rw [ByteArray.toList_eq]
  rfl
theorem strOf_eq {a b : List Int} (ha : ∀ x ∈ a, B x) (hb : ∀ x ∈ b, B x) : ((strOf a).toList == (strOf b).toList) = decide (a = b) := by
  rw [strOf_toList, strOf_toList, Bool.eq_iff_iff, beq_iff_eq, decide_eq_true_eq]
  constructor
  · intro h
    induction a generalizing b with
    | nil => cases b with
      | nil => rfl
      | cons y b => simp at h
    | cons x a ih => cases b with
      | nil => simp at h
      | cons y b =>
        simp only [List.map_cons, List.cons.injEq] at h
        obtain ⟨h1, h2⟩ := h
        have hx := ha x (by simp)
        have hy := hb y (by simp)
        unfold B at hx hy
        have h3 := congrArg UInt8.toNat h1
        rw [UInt8.toNat_ofNat', UInt8.toNat_ofNat'] at h3
        rw [ih (fun z hz => ha z (by simp [hz])) (fun z hz => hb z (by simp [hz])) h2, show x = y by omega]
  · intro h
    rw [h]

theorem conv_row {w : World} {A : Option Addr} {len cap : Nat} {zs : List Int} (h : RowIn .u8 w A len cap zs) :
    (convert 22 9 (.slice A len cap)).run Tryd.prog w = .ok (.string (strOf (zs.take len))) w := by
  obtain ⟨h1, h2, h3, h4, h5⟩ := h
  rcases h5 with ⟨rfl, rfl, rfl⟩ | ⟨x, rfl, hc⟩
  · rw [run_convert_bytes_string w _ _ 5 none 0 0 Tryd.underlying22 Tryd.underlying5 Tryd.underlying9]
    kernel_rfl
  · have hl : (zs.take len).length = len := by simp; omega
    have q := run_convert_bytes_back (P := Tryd.prog) w 22 9 5 x cap ((zs.take len).map fun n => UInt8.ofNat n.toNat) Tryd.underlying22 Tryd.underlying5 Tryd.underlying9 (fun j hj => by
      have hj1 : j < len := by simp at hj; omega
      rw [hc j (by omega)]
      simp only [List.getElem_map, List.getElem_take, UInt8.toNat_ofNat']
      have hb := h4 (zs[j]'(by omega)) (List.getElem_mem _)
      have hb' : 0 ≤ zs[j]'(by omega) ∧ zs[j]'(by omega) ≤ 255 := by simpa [Lit.wf, IntKind.min, IntKind.max, IntKind.bits, IntKind.signed] using hb
      rw [List.getD_eq_getElem?_getD, List.getElem?_eq_getElem (by omega), Option.getD_some]
      congr 2
      omega)
    rw [List.length_map, hl] at q
    exact q
theorem conv_quiet {w : World} {A : Option Addr} {len cap : Nat} {zs : List Int} (h : RowIn .u8 w A len cap zs) (n : Nat) :
    (convert 22 9 (.slice A len cap)).run Tryd.prog (w.drewN n) = .ok (.string (strOf (zs.take len))) (w.drewN n) := conv_row (h.below (below_drewN w n))

theorem conv_cells {w : World} {g cap : Nat} {l : List Int} (hc : ∀ i, i < l.length → w.cell? ⟨g, i, none⟩ = some (.int .u8 (l.getD i 0))) (hb : ∀ x ∈ l, B x) :
    (convert 22 9 (.slice (some ⟨g, 0, none⟩) l.length cap)).run Tryd.prog w = .ok (.string (strOf l)) w := by
  have q := run_convert_bytes_back (P := Tryd.prog) w 22 9 5 ⟨g, 0, none⟩ cap (l.map fun n => UInt8.ofNat n.toNat) Tryd.underlying22 Tryd.underlying5 Tryd.underlying9 (fun j hj => by
    have hj1 : j < l.length := by simpa using hj
    have hadd : (⟨g, 0, none⟩ : Addr).add j = ⟨g, j, none⟩ := by unfold Addr.add; split <;> simp_all
    rw [hadd, hc j hj1]
    simp only [List.getElem_map, UInt8.toNat_ofNat']
    have hb' := hb (l[j]'hj1) (List.getElem_mem _)
    unfold B at hb'
    rw [List.getD_eq_getElem?_getD, List.getElem?_eq_getElem hj1, Option.getD_some]
    congr 2
    omega)
  rw [List.length_map] at q
  exact q

/-- The last two bytes say how many bits there are; two that are padded alike are the same. -/
theorem pad_last (bs : List Int) (h : bs.length ≤ 300) : (padL bs).getD (nPad bs.length - 2) 0 = 8 * (bs.length : Int) / 256 ∧ (padL bs).getD (nPad bs.length - 1) 0 = 8 * (bs.length : Int) % 256 := by
  have hn := nPad_lo bs.length
  unfold padL
  have key : ∀ j, j < 8 → (bs ++ (128 :: (List.replicate (nPad bs.length - bs.length - 9) 0 ++ long8 (8 * bs.length)))).getD (nPad bs.length - 8 + j) 0 = (long8 (8 * bs.length)).getD j 0 := by
    intro j hj
    rw [List.getD_eq_getElem?_getD, List.getElem?_append_right (by omega), show nPad bs.length - 8 + j - bs.length = (nPad bs.length - bs.length - 9 + j) + 1 by omega, List.getElem?_cons_succ, List.getElem?_append_right (by simp), List.length_replicate, show nPad bs.length - bs.length - 9 + j - (nPad bs.length - bs.length - 9) = j by omega, ← List.getD_eq_getElem?_getD]
  have k6 := key 6 (by omega)
  have k7 := key 7 (by omega)
  rw [show nPad bs.length - 8 + 6 = nPad bs.length - 2 by omega] at k6
  rw [show nPad bs.length - 8 + 7 = nPad bs.length - 1 by omega] at k7
  rw [k6, k7]
  have hm : 0 ≤ 8 * (bs.length : Int) ∧ 8 * (bs.length : Int) ≤ 2400 := by omega
  generalize 8 * (bs.length : Int) = a at *
  simp [long8]
  omega
theorem pad_take (bs : List Int) : (padL bs).take bs.length = bs := by
  unfold padL
  rw [List.take_left]
theorem pad_mark (bs : List Int) : (padL bs).getD bs.length 0 = 128 := by
  unfold padL
  rw [List.getD_eq_getElem?_getD, List.getElem?_append_right (by omega)]
  simp
theorem pad_inj {a b : List Int} (ha : a.length ≤ 300) (hb : b.length ≤ 300) (h : padL a = padL b) : a = b := by
  have hl := congrArg List.length h
  rw [padL_length, padL_length] at hl
  have h1 := pad_last a ha
  have h2 := pad_last b hb
  rw [h, hl] at h1
  have e : a.length = b.length := by
    have := h1.1.symm.trans h2.1
    have := h1.2.symm.trans h2.2
    omega
  rw [← pad_take a, ← pad_take b, h, e]
end Go.Proofs.YtfndeemngimjcaaDoor.StrB
