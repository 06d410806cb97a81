/- What the document's Put of package reg returns where it returns nothing: a contract. -/
import Derived.Test.YtffefbhpndjdlaaRegS
namespace Go.Proofs.Ytffefbhpndjdlaa.RegP
open Go Go.RowKit Byt OpsM OpsK Rise RegM RegL RowS RegW RegR RegG

set_option maxRecDepth 100000 in
set_option maxHeartbeats 8000000 in
theorem put_none (A : Option Addr) (cap : Nat) (l : List Rg) (c : Rg) (w : World) (S : SlR E w A cap l) (hf : Fits l) (hc : Fit c) (hno : mayR l = false ∨ oneR c = false) :
    Calls Try.prog 13 #[.slice A l.length cap, .agg (rc c)] w (NewS E [] w) := by
  have Z : Below w.heap.size w (w.alloc (.cells (rc c) 26)) := below_alloc _ _
  have N : RgAt (w.alloc (.cells (rc c) 26)) w.heap.size c := RgAt.new w c _
  have S0 := S.below Z
  have cm := fun W S => may_ret A cap l W S hf
  have co := fun W => one_ret c W hc
  obtain ⟨bm, hbm⟩ : ∃ b, mayR l = b := ⟨_, rfl⟩
  obtain ⟨bo, hbo⟩ : ∃ b, oneR c = b := ⟨_, rfl⟩
  rw [hbm] at cm hno
  rw [hbo] at co hno
  clear hbm hbo hf hc S
  have hsz := Z.size
  cases bm with
  | false =>
    clear hno
    go_enter Try.func13, Try.ntmps13
    go_wp2_with fail
    refine (cm _ S0).mono ?_
    rintro e w1 ⟨rfl, h1⟩
    have N1 := N.below h1
    have k1 := Z.trans (h1.mono hsz)
    go_wp2_with (first | (refine wpList_load_reg rfl _ rfl _ _ rfl c N1.range ?_))
    refine (co _).mono ?_
    rintro e w2 ⟨rfl, h2⟩
    have k2 := k1.trans (h2.mono k1.size)
    go_wp2_with fail
    go_ret
    exact ⟨none, 0, rfl, SlR.nil E _, k2⟩
  | true =>
    obtain rfl : bo = false := hno.resolve_left (by simp)
    clear hno
    go_enter Try.func13, Try.ntmps13
    go_wp2_with fail
    refine (cm _ S0).mono ?_
    rintro e w1 ⟨rfl, h1⟩
    have N1 := N.below h1
    have k1 := Z.trans (h1.mono hsz)
    go_wp2_with (first | (refine wpList_load_reg rfl _ rfl _ _ rfl c N1.range ?_))
    refine (co _).mono ?_
    rintro e w2 ⟨rfl, h2⟩
    have k2 := k1.trans (h2.mono k1.size)
    go_wp2_with fail
    go_ret
    exact ⟨none, 0, rfl, SlR.nil E _, k2⟩
end Go.Proofs.Ytffefbhpndjdlaa.RegP
