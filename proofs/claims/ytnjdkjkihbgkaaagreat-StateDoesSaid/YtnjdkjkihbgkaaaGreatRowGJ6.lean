/- One struct read whole inside a region that draws its order, whatever its fields. No condition. | Pairs in memory. No condition. | States, and events, in memory. No condition. | What the document's Event of package state returns: a contract. | What ops.sign and ops.Key return: contracts. | What the document's Key of package ops returns: a contract. -/
import Derived.Test.YtnjdkjkihbgkaaaGreatRowBJ2
import Derived.Test.YtnjdkjkihbgkaaaGreatGrow
import Derived.Test.YtnjdkjkihbgkaaaGreatPairNJ2
import Derived.Laws.Cover1
import Derived.Test.YtnjdkjkihbgkaaaGreatStNJ2
import Derived.Test.YtnjdkjkihbgkaaaGreatRowFJ4
import Derived.Test.YtnjdkjkihbgkaaaGreatEvWJ3
import Derived.Test.YtnjdkjkihbgkaaaGreatEncEJ5
import Derived.Test.YtnjdkjkihbgkaaaGreatKeyMJ4
namespace Go.Proofs.YtnjdkjkihbgkaaaGreat.RowG
set_option maxRecDepth 100000
open Go Go.RowKit Byt RowS RowB

variable {α : Type}
theorem range_load (E : Enc α) {w : World} {b off : Nat} {y : α} (h : w.rangeAt b off (E.enc y)) : (Instr.loadAt E.T (.pointer (some ⟨b, off, none⟩))).run Tryz.prog w = .ok (.agg (E.enc y).toArray) w :=
  run_loadAt_mid w b off E.T (E.enc y) _ h E.under E.row (E.size y)
theorem wpQuiet_load_row (E : Enc α) {ops : Array Oper} {C : World → Prop} {Q : Act → Prop} {a : Act} {o : Oper} {rest : List Oper} (hgd : o.guard = none) (x : Operand) (ho : o.op = .load E.T x)
    (b off : Nat) (hx : a.eval x = .pointer (some ⟨b, off, none⟩)) (y : α) (hc : ∀ w, C w → w.rangeAt b off (E.enc y)) (h : wpQuiet Tryz.prog ops C Q rest (a.put o.dst (.agg (E.enc y).toArray))) : wpQuiet Tryz.prog ops C Q (o :: rest) a := by
  refine BigFrame.wpQuiet_want (by simp [Region.wanted, hgd]) (fun K hK => ⟨.agg (E.enc y).toArray, fun w hw => ?_, hK _ h⟩)
  have q := range_load E (hc w hw)
  unfold Oper.quietAt execOp
  simp only [ho, hx, Sem.run_bind, q, Result.andThen_ok, Sem.run_pure]
  exact ⟨rfl, rfl⟩
theorem reads_row (E : Enc α) {l : List Oper} {i : Nat} {o : Oper} {r : List (Nat × Bool)} {a : Act} {w : World} {Q : Exit → Act → World → Prop} (hn : Grow.nth l i = some o) (hgd : o.guard = none) (x : Operand) (ho : o.op = .load E.T x)
    (b off : Nat) (hx : a.eval x = .pointer (some ⟨b, off, none⟩)) (y : α) (hc : w.rangeAt b off (E.enc y)) (h : Grow.Seq Tryz.prog l.toArray Q r (a.put o.dst (.agg (E.enc y).toArray)) w) : Grow.Seq Tryz.prog l.toArray Q ((i, true) :: r) a w :=
  Grow.reads hn (by unfold Grow.plain; rw [ho]) (wpQuiet_load_row E hgd x ho b off hx y (fun _ ⟨p, e⟩ => by rw [e]; exact range_below hc (below_regrown w p.d p.os)) (wpQuiet_nil h))
end Go.Proofs.YtnjdkjkihbgkaaaGreat.RowG
namespace Go.Proofs.YtnjdkjkihbgkaaaGreat.PairW
set_option maxRecDepth 100000
open Go Go.RowKit Byt OpsM Rise PairM RowS RowB

def E : Enc Pr where
  T := 63
  S := 24
  k := 4
  bytes := 48
  d := _
  enc c := [.string c.key, .string c.elem, .int .i64 c.node, .int .i64 c.seq]
  zero := ⟨⟨#[]⟩, ⟨#[]⟩, 0, 0⟩
  len _ := rfl
  one c v hv := by
    simp only [List.mem_cons, List.not_mem_nil, or_false] at hv
    rcases hv with rfl | rfl | rfl | rfl <;> rfl
  pos := by omega
  small := by omega
  info := by kernel_rfl
  slice := Tryz.underlying24
  under := Tryz.underlying63
  row := rfl
/-- A pair's cells. -/
def pc (c : Pr) : Array Value := #[.string c.key, .string c.elem, .int .i64 c.node, .int .i64 c.seq]
theorem box_cells {w : World} {g : Nat} {c : Pr} (h : Box E w g c) : w.cell? ⟨g, 0, none⟩ = some (.string c.key) ∧ w.cell? ⟨g, 1, none⟩ = some (.string c.elem) ∧ w.cell? ⟨g, 2, none⟩ = some (.int .i64 c.node) ∧ w.cell? ⟨g, 3, none⟩ = some (.int .i64 c.seq) :=
  ⟨h.cell (j := 0) rfl, h.cell (j := 1) rfl, h.cell (j := 2) rfl, h.cell (j := 3) rfl⟩
theorem cells {w : World} {b o : Nat} {c : Pr} (h : w.rangeAt b o (E.enc c)) : w.cell? ⟨b, o, none⟩ = some (.string c.key) ∧ w.cell? ⟨b, o + 1, none⟩ = some (.string c.elem) ∧ w.cell? ⟨b, o + 2, none⟩ = some (.int .i64 c.node) ∧ w.cell? ⟨b, o + 3, none⟩ = some (.int .i64 c.seq) :=
  ⟨h 0 _ rfl, h 1 _ rfl, h 2 _ rfl, h 3 _ rfl⟩
theorem plain {w : World} {A : Option Addr} {cap : Nat} {l : List Pr} (h : SlR E w A cap l) (hp : 0 < l.length) :
    ∃ b off, A = some ⟨b, off, none⟩ ∧ b < w.heap.size ∧ ∀ i x, l[i]? = some x → w.rangeAt b (off + i * 4) (E.enc x) := h.plain hp
def In64 (x : Int) : Prop := -9223372036854775808 ≤ x ∧ x ≤ 9223372036854775807
/-- What may be in memory. -/
structure Fit (c : Pr) : Prop where
  key : c.key.size ≤ 1099511627776
  elem : c.elem.size ≤ 1099511627776
  node : In64 c.node
  seq : In64 c.seq
def Fits (l : List Pr) : Prop := ∀ c ∈ l, Fit c
theorem getD_drop {l : List Pr} {i : Nat} {x : Pr} (h : l[i]? = some x) : l.drop i = x :: l.drop (i + 1) := by
  obtain ⟨hi, rfl⟩ := List.getElem?_eq_some_iff.1 h
  exact List.drop_eq_getElem_cons hi
theorem str_yes {a b : ByteArray} (h : a = b) : (a.toList == b.toList) = true := by rw [h]; simp
theorem str_no {a b : ByteArray} (h : a ≠ b) : (a.toList == b.toList) = false := by
  rw [beq_eq_false_iff_ne]
  exact fun e => h (Rise.toList_inj e)
theorem bne_yes {a b : ByteArray} (h : a = b) : (a.toList != b.toList) = false := by rw [bne, str_yes h]; rfl
theorem bne_no {a b : ByteArray} (h : a ≠ b) : (a.toList != b.toList) = true := by rw [bne, str_no h]; rfl
theorem below_alloc (w : World) (o : Obj) : Below w.heap.size w (w.alloc o) := (Below.refl _ _).alloc (Nat.le_refl _) _
end Go.Proofs.YtnjdkjkihbgkaaaGreat.PairW
namespace Go.Proofs.YtnjdkjkihbgkaaaGreat.StW
set_option maxRecDepth 100000
open Go Go.RowKit Byt OpsM Rise RowS StM

/-- A state that lies in three slices. -/
structure Sv where
  a0 : Option Addr
  k0 : Nat
  a1 : Option Addr
  k1 : Nat
  a2 : Option Addr
  k2 : Nat
  s : St
def noV : Sv := ⟨none, 0, none, 0, none, 0, noS⟩
/-- A state's cells. -/
def sc (v : Sv) : Array Value := #[.slice v.a0 v.s.c.length v.k0, .slice v.a1 v.s.r.length v.k1, .slice v.a2 v.s.p.length v.k2]
def SE : Cel.Cel Sv where
  T := 26
  k := 3
  bytes := 72
  d := _
  enc v := [.slice v.a0 v.s.c.length v.k0, .slice v.a1 v.s.r.length v.k1, .slice v.a2 v.s.p.length v.k2]
  zero := noV
  len _ := rfl
  one c v hv := by
    simp only [List.mem_cons, List.not_mem_nil, or_false] at hv
    rcases hv with rfl | rfl | rfl <;> rfl
  pos := by omega
  info := by kernel_rfl
  under := Tryz.underlying26
  row := rfl
/-- The three slices hold the state. -/
structure In (w : World) (v : Sv) : Prop where
  c : SlR CtrW.E w v.a0 v.k0 v.s.c
  r : SlR RegW.E w v.a1 v.k1 v.s.r
  p : SlR PairW.E w v.a2 v.k2 v.s.p
theorem In.below {w w' : World} {v : Sv} (h : In w v) (hb : Below w.heap.size w w') : In w' v := ⟨h.c.below hb, h.r.below hb, h.p.below hb⟩
theorem In.none (w : World) : In w noV := ⟨SlR.nil _ w, SlR.nil _ w, SlR.nil _ w⟩
structure Fits (s : St) : Prop where
  c : CtrW.Fits s.c
  r : RegW.Fits s.r
  p : PairW.Fits s.p
/-- Lists that are no longer than this. -/
structure Len (n : Nat) (s : St) : Prop where
  c : s.c.length ≤ n
  r : s.r.length ≤ n
  p : s.p.length ≤ n
theorem Len.le {n m : Nat} {s : St} (h : Len n s) (hm : n ≤ m) : Len m s := ⟨by have := h.c; omega, by have := h.r; omega, by have := h.p; omega⟩
theorem box_cells {w : World} {g : Nat} {v : Sv} (h : Cel.Box SE w g v) : w.cell? ⟨g, 0, none⟩ = some (.slice v.a0 v.s.c.length v.k0) ∧ w.cell? ⟨g, 1, none⟩ = some (.slice v.a1 v.s.r.length v.k1) ∧ w.cell? ⟨g, 2, none⟩ = some (.slice v.a2 v.s.p.length v.k2) :=
  ⟨h.cell (j := 0) rfl, h.cell (j := 1) rfl, h.cell (j := 2) rfl⟩
/-- A state, and an error's number, are handed back, and all that was there is as it was. -/
def New (o : Option St) (w : World) (e : Ending) (w' : World) : Prop := ∃ v, e = .returned (.tuple #[.agg (sc v), .int .i64 (if o.isSome then 0 else 1)]) ∧ v.s = o.getD noS ∧ In w' v ∧ Below w.heap.size w w'

/-- A value that is no slice. -/
def noSl : Value → Bool
  | .slice _ _ _ => false
  | _ => true
theorem box_sl {w : World} {g j : Nat} {v : Sv} {x : Value} (h : Cel.Box SE w g v) (hc : w.cell? ⟨g, j, none⟩ = some x) : noSl x = false := by
  obtain ⟨t, ht⟩ := h
  rw [cell_of_row w g j _ t (0, 0) ht, List.getElem?_toArray] at hc
  match j, hc with
  | 0, hc => simp [SE] at hc; rw [← hc]; rfl
  | 1, hc => simp [SE] at hc; rw [← hc]; rfl
  | 2, hc => simp [SE] at hc; rw [← hc]; rfl
  | j + 3, hc => simp [SE] at hc
/-- A slice lies in another block than a state's box, by what the cells hold: it stays while the box is written. -/
theorem kept_box {α : Type} {E : Enc α} (hE : ∀ x, ∀ v ∈ E.enc x, noSl v = true) {w w' : World} {A : Option Addr} {cap g : Nat} {l : List α} {v : Sv} (h : SlR E w A cap l) (hb : Cel.Box SE w g v) (hg : w.grownBy w' (some g)) : SlR E w' A cap l := by
  obtain ⟨h1, h2, h5⟩ := h
  refine ⟨h1, h2, ?_⟩
  rcases h5 with h5 | ⟨x, rfl, hc⟩
  · exact .inl h5
  · refine .inr ⟨x, rfl, fun i u hu => ?_⟩
    have hcell := hc i u hu
    have hlt := block_lt_of_cell hcell
    have hne : some (x.add i).block ≠ some g := by
      intro e
      injection e with e
      have hsp := World.cell?_spot hcell
      have hu2 : noSl u = true := by
        have hm := List.mem_of_getElem? hu
        unfold flat at hm
        rw [List.mem_flatMap] at hm
        obtain ⟨y, _, hy⟩ := hm
        exact hE y u hy
      have hb2 : noSl u = false := by
        have : (x.add i) = ⟨g, (x.add i).off, none⟩ := by
          cases hx : x.add i with
          | mk b o s =>
            rw [hx] at e hsp
            simp only at e hsp
            rw [e, hsp]
        rw [this] at hcell
        exact box_sl hb hcell
      rw [hu2] at hb2
      cases hb2
    unfold World.cell? at hcell ⊢
    rw [hg.block _ hlt hne]
    exact hcell
theorem noC (x : CtrM.Cn) : ∀ v ∈ CtrW.E.enc x, noSl v = true := by
  intro v hv
  simp only [CtrW.E, List.mem_cons, List.not_mem_nil, or_false] at hv
  rcases hv with rfl | rfl <;> rfl
theorem noR (x : RegM.Rg) : ∀ v ∈ RegW.E.enc x, noSl v = true := by
  intro v hv
  simp only [RegW.E, List.mem_cons, List.not_mem_nil, or_false] at hv
  rcases hv with rfl | rfl | rfl | rfl | rfl <;> rfl
theorem noP (x : PairM.Pr) : ∀ v ∈ PairW.E.enc x, noSl v = true := by
  intro v hv
  simp only [PairW.E, List.mem_cons, List.not_mem_nil, or_false] at hv
  rcases hv with rfl | rfl | rfl | rfl <;> rfl
theorem In.kept {w w' : World} {g : Nat} {u v : Sv} (h : In w u) (hb : Cel.Box SE w g v) (hg : w.grownBy w' (some g)) : In w' u := ⟨kept_box noC h.c hb hg, kept_box noR h.r hb hg, kept_box noP h.p hb hg⟩
end Go.Proofs.YtnjdkjkihbgkaaaGreat.StW
namespace Go.Proofs.YtnjdkjkihbgkaaaGreat.StR
set_option maxRecDepth 100000
open Go Go.RowKit Byt StM StW

set_option maxHeartbeats 4000000 in
theorem event_ret (v : Ev) (w : World) : Calls Tryz.prog 29 #[.agg (ec v)] w fun e w' => e = .returned (.bool (eventB v.node v.seq)) ∧ Below w.heap.size w w' := by
  have R : Cel.Box EE (w.alloc (.cells (ec v) 30)) w.heap.size v := Cel.Box.new w v _
  have kb := below_alloc w (.cells (ec v) 30)
  obtain ⟨c0, c1⟩ := ev_cells R
  clear R
  obtain ⟨r, hr⟩ : ∃ r, eventB v.node v.seq = r := ⟨_, rfl⟩
  have hn : r = eventB v.node v.seq := hr.symm
  rw [hr]
  unfold eventB at hn
  clear hr
  obtain ⟨n, hnn⟩ : ∃ n, v.node = n := ⟨_, rfl⟩
  obtain ⟨s, hs⟩ : ∃ s, v.seq = s := ⟨_, rfl⟩
  rw [hnn] at c0 hn
  rw [hs] at c1 hn
  clear hnn hs
  have HN := aside hn
  clear hn
  have hw : ¬ 0 ≤ n ∨ (0 ≤ n ∧ (¬ n < 8 ∨ (n < 8 ∧ (¬ 1 ≤ s ∨ 1 ≤ s)))) := by omega
  rcases hw with p2 | ⟨p2, p3 | ⟨p3, p4 | p4⟩⟩
  · have HR : Hid (r = false) := aside (by rw [HN.out]; simp; omega)
    clear HN
    go_enter Tryz.func29, Tryz.ntmps29
    go_wp2
    go_ret
    exact ⟨StW.ret_bool HR.out.symm, kb⟩
  · have HR : Hid (r = false) := aside (by rw [HN.out]; simp; omega)
    clear HN
    go_enter Tryz.func29, Tryz.ntmps29
    go_wp2
    go_ret
    exact ⟨StW.ret_bool HR.out.symm, kb⟩
  · have HR : Hid (r = false) := aside (by rw [HN.out]; simp; omega)
    clear HN
    go_enter Tryz.func29, Tryz.ntmps29
    go_wp2
    go_ret
    exact ⟨StW.ret_bool HR.out.symm, kb⟩
  · have HR : Hid (r = decide (s ≤ 1048576)) := aside (by rw [HN.out]; simp [p2, p3, p4])
    clear HN
    go_enter Tryz.func29, Tryz.ntmps29
    go_wp2
    go_ret
    exact ⟨StW.ret_bool HR.out.symm, kb⟩
end Go.Proofs.YtnjdkjkihbgkaaaGreat.StR
namespace Go.Proofs.YtnjdkjkihbgkaaaGreat.OpsK
set_option maxRecDepth 100000
open Go.RowKit Byt OpsM

theorem ret_bool {a b : Bool} (h : a = b) : Ending.returned (.bool a) = .returned (.bool b) := by rw [h]
theorem parts {x : Int} (_h : B x) : (x ≤ 47 ∧ signB x = false) ∨ (48 ≤ x ∧ x ≤ 57 ∧ signB x = true) ∨ (58 ≤ x ∧ x ≤ 96 ∧ signB x = false) ∨ (97 ≤ x ∧ x ≤ 122 ∧ signB x = true) ∨ (123 ≤ x ∧ signB x = false) := by
  have hb : signB x = true ↔ (97 ≤ x ∧ x ≤ 122) ∨ (48 ≤ x ∧ x ≤ 57) := by
    unfold signB
    simp only [Bool.or_eq_true, Bool.and_eq_true, decide_eq_true_eq]
  have hf : signB x = false ↔ ¬ ((97 ≤ x ∧ x ≤ 122) ∨ (48 ≤ x ∧ x ≤ 57)) := by
    rw [← hb]
    simp
  rw [hb, hf]
  omega
theorem sign (x : Int) (hx : B x) (w : World) :
    Calls Tryz.prog 100 #[.int .u8 x] w fun e w' => e = .returned (.bool (signB x)) ∧ w = w' := by
  have hB := hx
  unfold B at hB
  obtain ⟨b0, b1⟩ := hB
  rcases parts hx with ⟨h1, hs⟩ | ⟨h1, h2, hs⟩ | ⟨h1, h2, hs⟩ | ⟨h1, h2, hs⟩ | ⟨h1, hs⟩
  all_goals
    have HS := aside hs
    clear hs
    go_enter Tryz.func100, Tryz.ntmps100
    go_wp2
    go_ret
    refine ⟨ret_bool ?_, rfl⟩
    rw [HS.out]
    try (simp; try omega)

theorem all_take (l : List Int) (k : Nat) (h : k < l.length) : (l.take (k + 1)).all signB = ((l.take k).all signB && signB (l.getD k 0)) := by
  rw [List.take_add_one, List.all_append, List.getElem?_eq_getElem h, List.getD_eq_getElem?_getD, List.getElem?_eq_getElem h]
  simp
theorem keyL_all {l : List Int} (h : 1 ≤ l.length ∧ l.length ≤ 8) (ha : l.all signB = true) : keyL l = true := by
  unfold keyL
  simp [h.1, h.2, ha]
theorem all_false {l : List Int} {k : Nat} (h : k < l.length) (hs : signB (l.getD k 0) = false) : l.all signB = false := by
  rw [List.all_eq_false]
  refine ⟨l[k], List.getElem_mem h, ?_⟩
  rw [List.getD_eq_getElem?_getD, List.getElem?_eq_getElem h] at hs
  simpa using hs
theorem keyL_no {l : List Int} {k : Nat} (h : k < l.length) (hs : signB (l.getD k 0) = false) : keyL l = false := by
  unfold keyL
  rw [all_false h hs]
  simp
theorem keyL_out {l : List Int} (h : ¬ (1 ≤ l.length ∧ l.length ≤ 8)) : keyL l = false := by
  unfold keyL
  rw [Bool.and_eq_false_iff]
  left
  rw [Bool.and_eq_false_iff, decide_eq_false_iff_not, decide_eq_false_iff_not]
  omega
theorem byte_at (s : ByteArray) (k : Nat) (h : k < s.size) : (bytesL s).getD k 0 = (s[k].toNat : Int) := by
  unfold bytesL
  have h1 : k < s.data.toList.length := by simpa using h
  rw [List.getD_eq_getElem?_getD, List.getElem?_map, List.getElem?_eq_getElem h1]
  rfl

set_option maxHeartbeats 1000000 in
theorem key (s : ByteArray) (hs : s.size ≤ maxLen) (w : World) :
    Calls Tryz.prog 64 #[.string s] w fun e w' => e = .returned (.bool (keyL (bytesL s))) ∧ w = w' := by
  unfold maxLen at hs
  have hl := bytesL_length s
  by_cases h1 : s.size < 1
  · have HR := aside (keyL_out (l := bytesL s) (by omega))
    clear hl
    go_enter Tryz.func64, Tryz.ntmps64
    go_wp2
    go_ret
    exact ⟨ret_bool HR.out.symm, rfl⟩
  · by_cases h8 : 8 < s.size
    · have HR := aside (keyL_out (l := bytesL s) (by omega))
      clear hl
      go_enter Tryz.func64, Tryz.ntmps64
      go_wp2
      go_ret
      exact ⟨ret_bool HR.out.symm, rfl⟩
    · have HL := aside hl
      clear hl
      go_enter Tryz.func64, Tryz.ntmps64
      go_wp2
      go_loop [14] (fun i => ∃ k : Nat, k ≤ s.size ∧ i = .int .i64 k ∧ Hid (((bytesL s).take k).all signB = true)) (fun i => s.size - (intOf i).toNat)
      case atStart => exact ⟨0, Nat.zero_le _, rfl, aside (by simp)⟩
      case round =>
        obtain ⟨k, hk, rfl, HA⟩ := hrel
        by_cases hlt : k < s.size
        · have hb := byte_at s k hlt
          have hB : B (s[k].toNat : Int) := by have := s[k].toNat_lt; unfold B; omega
          have hsg := sign (s[k].toNat : Int) hB
          cases hs : signB (s[k].toNat : Int) with
          | true =>
            rw [hs] at hsg
            have HS : Hid (signB ((bytesL s).getD k 0) = true) := aside (by rw [hb, hs])
            clear hb hs hB
            go_wp2_with (first | (refine (hsg _).mono ?_; rintro e w' ⟨rfl, rfl⟩))
            go_round
            case rel => exact ⟨k + 1, by omega, by go_num, aside (by rw [all_take _ _ (by rw [HL.out]; exact hlt), HA.out, HS.out]; rfl)⟩
            case measure => simp [intOf]; omega
          | false =>
            rw [hs] at hsg
            have HS : Hid (signB ((bytesL s).getD k 0) = false) := aside (by rw [hb, hs])
            clear hb hs hB
            go_wp2_with (first | (refine (hsg _).mono ?_; rintro e w' ⟨rfl, rfl⟩))
            go_ret
            exact ⟨ret_bool (keyL_no (by rw [HL.out]; exact hlt) HS.out).symm, rfl⟩
        · go_wp2
          go_ret
          refine ⟨ret_bool (keyL_all (by rw [HL.out]; omega) ?_).symm, rfl⟩
          have := HA.out
          rwa [List.take_of_length_le (by rw [HL.out]; omega)] at this
end Go.Proofs.YtnjdkjkihbgkaaaGreat.OpsK
namespace Go.Proofs.YtnjdkjkihbgkaaaGreat.OpsR
set_option maxRecDepth 100000
open Go Go.RowKit Byt OpsM OpsK

set_option maxHeartbeats 2000000 in
theorem key_any (s : ByteArray) (hs : s.size ≤ maxLen) (w : World) :
    Calls Tryz.prog 73 #[.string s] w fun e w' => e = .returned (.bool (keyL (bytesL s))) ∧ w = w' := by
  unfold maxLen at hs
  have hl := bytesL_length s
  have HL := aside hl
  clear hl
  go_enter Tryz.func73, Tryz.ntmps73
  go_wp2
  go_loop [3] (fun i => ∃ k : Nat, k ≤ s.size ∧ i = .int .i64 k ∧ Hid (((bytesL s).take k).all signB = true)) (fun i => s.size - (intOf i).toNat)
  case atStart => exact ⟨0, Nat.zero_le _, rfl, aside (by simp)⟩
  case round =>
    obtain ⟨k, hk, rfl, HA⟩ := hrel
    by_cases hlt : k < s.size
    · have hb := byte_at s k hlt
      have hB : B (s[k].toNat : Int) := by have := s[k].toNat_lt; unfold B; omega
      have hp := parts hB
      have hB0 : 0 ≤ (s[k].toNat : Int) := by omega
      rcases hp with ⟨h1, hs⟩ | ⟨h1, h2, hs⟩ | ⟨h1, h2, hs⟩ | ⟨h1, h2, hs⟩ | ⟨h1, hs⟩
      · rw [← hb] at hs
        have HS := aside hs
        clear hs hb hB
        go_wp2
        go_ret
        exact ⟨ret_bool (keyL_no (by rw [HL.out]; exact hlt) HS.out).symm, rfl⟩
      · rw [← hb] at hs
        have HS := aside hs
        clear hs hb hB
        have d57 : decide ((s[k].toNat : Int) ≤ 57) = true := by simp; omega
        go_wp2
        go_round
        case rel => exact ⟨k + 1, by omega, by go_num, aside (by rw [all_take _ _ (by rw [HL.out]; exact hlt), HA.out, HS.out]; rfl)⟩
        case measure => simp [intOf]; omega
      · rw [← hb] at hs
        have HS := aside hs
        clear hs hb hB
        have d57 : decide ((s[k].toNat : Int) ≤ 57) = false := by simp; omega
        go_wp2
        go_ret
        exact ⟨ret_bool (keyL_no (by rw [HL.out]; exact hlt) HS.out).symm, rfl⟩
      · rw [← hb] at hs
        have HS := aside hs
        clear hs hb hB
        have d122 : decide ((s[k].toNat : Int) ≤ 122) = true := by simp; omega
        go_wp2
        go_round
        case rel => exact ⟨k + 1, by omega, by go_num, aside (by rw [all_take _ _ (by rw [HL.out]; exact hlt), HA.out, HS.out]; rfl)⟩
        case measure => simp [intOf]; omega
      · rw [← hb] at hs
        have HS := aside hs
        clear hs hb hB
        have d122 : decide ((s[k].toNat : Int) ≤ 122) = false := by simp; omega
        have d57 : decide ((s[k].toNat : Int) ≤ 57) = false := by simp; omega
        go_wp2
        go_ret
        exact ⟨ret_bool (keyL_no (by rw [HL.out]; exact hlt) HS.out).symm, rfl⟩
    · have hall := HA.out
      rw [List.take_of_length_le (by rw [HL.out]; omega)] at hall
      by_cases h1 : s.size < 1
      · have HR := aside (keyL_out (l := bytesL s) (by rw [HL.out]; omega))
        clear hall
        go_wp2
        go_ret
        exact ⟨ret_bool HR.out.symm, rfl⟩
      · by_cases h8 : 8 < s.size
        · have HR := aside (keyL_out (l := bytesL s) (by rw [HL.out]; omega))
          clear hall
          go_wp2
          go_ret
          refine ⟨ret_bool ?_, rfl⟩
          rw [HR.out]
          simp
          omega
        · have HR := aside (keyL_all (l := bytesL s) (by rw [HL.out]; omega) hall)
          clear hall
          go_wp2
          go_ret
          refine ⟨ret_bool ?_, rfl⟩
          rw [HR.out]
          simp
          omega
theorem key (s : ByteArray) (hs : s.size ≤ 1099511627776) (w : World) :
    Calls Tryz.prog 73 #[.string s] w fun e w' => e = .returned (.bool (keyL (bytesL s))) ∧ w = w' := key_any s (by unfold maxLen; omega) w
end Go.Proofs.YtnjdkjkihbgkaaaGreat.OpsR
