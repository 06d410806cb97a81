/- Plain facts on texts in bytes: what is put is cut off again. No condition. -/
import Derived.Test.YtkjhjaeglgoepaaEncE
namespace Go.Proofs.Ytkjhjaeglgoepaa.EncT
open Byt EncM EncC EncE

theorem textL_length (a : List Int) (h : a.length ≤ 1099511627776) : (textL a).length ≤ a.length + 10 := by
  unfold textL
  have := numL_ten (n := a.length) (by omega)
  rw [List.length_append]
  omega
theorem textL_B {a : List Int} (h : ∀ x ∈ a, B x) : ∀ x ∈ textL a, B x := by
  intro x hx
  rcases List.mem_append.1 hx with hx | hx
  · exact numL_range _ x hx
  · exact h x hx
/-- A text is cut off, whatever stands behind, unless it is longer than what is asked for. -/
theorem cut_text (a r : List Int) (most : Int) (h : a.length ≤ 1099511627776) : cutL (textL a ++ r) most = if (a.length : Int) ≤ most then some (a, r) else none := by
  have g := getL_num a.length (a ++ r) (by omega)
  have e : textL a ++ r = numL a.length ++ (a ++ r) := by unfold textL; rw [List.append_assoc]
  have hp := numL_pos a.length
  unfold cutL
  rw [e, g]
  have hd : (numL a.length ++ (a ++ r)).drop (numL a.length).length = a ++ r := List.drop_left
  simp only [hd, List.length_append]
  by_cases hm : (a.length : Int) ≤ most
  · rw [if_pos hm, if_neg (by omega), List.take_left, List.drop_left]
  · rw [if_neg hm, if_pos (by omega)]
theorem cut_text0 (a : List Int) (most : Int) (h : a.length ≤ 1099511627776) : cutL (textL a) most = if (a.length : Int) ≤ most then some (a, []) else none := by
  have := cut_text a [] most h
  rwa [List.append_nil] at this
theorem textL_inj {a b : List Int} (ha : a.length ≤ 1099511627776) (hb : b.length ≤ 1099511627776) (h : textL a = textL b) : a = b := by
  have h1 := cut_text0 a 1099511627776 ha
  have h2 := cut_text0 b 1099511627776 hb
  rw [if_pos (by omega)] at h1 h2
  rw [h, h2] at h1
  have := Option.some.inj h1
  exact (Prod.mk.inj this).1.symm
end Go.Proofs.Ytkjhjaeglgoepaa.EncT
