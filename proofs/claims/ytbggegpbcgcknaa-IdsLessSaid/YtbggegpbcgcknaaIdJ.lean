/- What Read (of ids, and of the document's answers) returns: contracts. -/
import Derived.Test.YtbggegpbcgcknaaIdI
import Derived.Shelf.Small.Strs
import Derived.Test.YtbggegpbcgcknaaLayIdx
namespace Go.Proofs.Ytbggegpbcgcknaa.IdJ
open Go Go.RowKit IdM Byt IdW IdB IdH IdI

theorem Box.frozen {w : World} {g : Nat} {x : Idn} (h : Box w g x) (i : Nat) : w.frozen? ⟨g, i, none⟩ = false := by
  obtain ⟨t, ht⟩ := h
  exact frozen_of_row w g i (cs x) t ht
theorem Box.put {w : World} {g : Nat} {x y : Idn} (h : Box w g x) (i : Nat) (v : Value) (e : (cs x).setIfInBounds i v = cs y) : Box (w.setCell ⟨g, i, none⟩ v) g y := by
  obtain ⟨t, ht⟩ := h
  exact ⟨t, by rw [heap_setCell_same w g i (cs x) t v ht, e]⟩
theorem Box.other {w : World} {g : Nat} {x : Idn} (h : Box w g x) {a : Addr} (ha : g ≠ a.block) (v : Value) : Box (w.setCell a v) g x := by
  obtain ⟨t, ht⟩ := h
  exact ⟨t, (heap_setCell_other w a g v ha).trans ht⟩
theorem Box.row {w : World} {g : Nat} {x : Idn} (h : Box w g x) (y : Idn) : Box (w.setRow g (cs y)) g y := by
  obtain ⟨t, ht⟩ := h
  exact ⟨t, setRow_heap w g (cs x) (cs y) t (0, 0) ht⟩
theorem below_row {B g : Nat} {w0 w : World} (hb : Below B w0 w) (hg : B ≤ g) (c : Array Value) : Below B w0 (w.setRow g c) :=
  hb.trans ⟨rfl, rfl, rfl, by simp [World.setRow], fun k hk => setRow_other w g k c (by omega)⟩
theorem below_cell {B g i : Nat} {w0 w : World} (hb : Below B w0 w) (hg : B ≤ g) (v : Value) : Below B w0 (w.setCell ⟨g, i, none⟩ v) :=
  hb.trans ⟨rfl, rfl, rfl, by simp [World.setCell], fun k hk => heap_setCell_other w ⟨g, i, none⟩ k v (by simp; omega)⟩
/-- An id stored into a box. -/
theorem wpList_store_box {ops : Array Oper} {rest : List Oper} {o : Oper} {a : Act} {w : World} {Q : Exit → Act → World → Prop} (hgd : o.guard = none) (x y : Operand) (ho : o.op = .store 24 x y)
    (g : Nat) (hx : a.eval x = .pointer (some ⟨g, 0, none⟩)) (old z : Idn) (hb : Box w g old) (hy : a.eval y = .agg (cs z))
    (h : wpList Try.prog ops Q rest (a.put o.dst undef) (w.setRow g (cs z))) : wpList Try.prog ops Q (o :: rest) a w := by
  obtain ⟨t, ht⟩ := hb
  exact wpList_store_row hgd 24 x y ho g (cs z) hx hy t (cs old) ht (info_cs z) (by rw [cs_size, cs_size]) (cs_one z) h
theorem build0 (w : World) : (Instr.build 24 #[]).run Try.prog w = .ok (.agg (cs nought)) w := Go.run_build w 24 _ _ (by kernel_rfl)
theorem wpList_build0 {ops : Array Oper} {rest : List Oper} {o : Oper} {a : Act} {w : World} {Q : Exit → Act → World → Prop} (hgd : o.guard = none) (ho : o.op = .build 24 #[])
    (h : wpList Try.prog ops Q rest (a.put o.dst (.agg (cs nought))) w) : wpList Try.prog ops Q (o :: rest) a w := by
  refine wpList_plain hgd fun K hK => ?_
  unfold Oper.wp execOp
  simp only [ho, List.map_toArray, List.map_nil, Sem.run_bind, build0, Result.andThen_ok, Sem.run_pure]
  exact hK _ _ h
theorem wpList_alloc_id {ops : Array Oper} {rest : List Oper} {o : Oper} {a : Act} {w : World} {Q : Exit → Act → World → Prop} (hgd : o.guard = none) (ho : o.op = .alloc 24)
    (h : wpList Try.prog ops Q rest (a.put o.dst (.pointer (some ⟨w.heap.size, 0, none⟩))) (w.alloc (.cells (cs nought) 24))) : wpList Try.prog ops Q (o :: rest) a w := by
  refine wpList_plain hgd fun K hK => ?_
  have zv := zero_v w
  unfold Oper.wp execOp
  simp only [ho, Instr.alloc, newVar, newRow, Sem.run_bind, zv, Result.andThen_ok, Sem.run_pure, Value.cells]
  exact hK _ _ h
theorem results_box {fn : Func} {p q : Tmp} (h : fn.results = #[.cell p 24, .tmp q]) (tmps : Array Value) (w : World) (g : Nat) (x : Idn) (v : Value)
    (hp : tmps.getD p undef = .pointer (some ⟨g, 0, none⟩)) (hq : tmps.getD q undef = v) (hg : Box w g x) : (results fn tmps).run Try.prog w = .ok (.tuple #[.agg (cs x), v]) w := by
  obtain ⟨t, ht⟩ := hg
  have hp' : tmps[p]?.getD undef = .pointer (some ⟨g, 0, none⟩) := by simpa using hp
  have hq' : tmps[q]?.getD undef = v := by simpa using hq
  simp [results, h, hp', hq', asAddr, run_loadVar_row w g t 24 (cs x) (0, 0) _ ht Try.underlying24 rfl (info_cs x)]

/-- The id that a text is. -/
def dg (s : List Int) (i : Nat) : Int := dig (s.getD i 0)
def val (s : List Int) (i : Nat) : Int := if 0 ≤ dg s (2 * i) ∧ 0 ≤ dg s (2 * i + 1) then 16 * dg s (2 * i) + dg s (2 * i + 1) else 0
theorem dig_le (c : Int) : dig c ≤ 15 := by
  unfold dig
  split
  · omega
  · split <;> omega
theorem dig_ge (c : Int) : -1 ≤ dig c := by
  unfold dig
  split
  · omega
  · split <;> omega
theorem val_range (s : List Int) (i : Nat) : 0 ≤ val s i ∧ val s i ≤ 255 := by
  unfold val
  have h1 : dg s (2 * i) ≤ 15 := dig_le _
  have h2 : dg s (2 * i + 1) ≤ 15 := dig_le _
  split
  · omega
  · omega
def pre (s : List Int) (k : Nat) : Idn := ⟨(List.range 32).map fun i => if i < k then val s i else 0, by simp, by
  intro x hx
  simp only [List.mem_map] at hx
  obtain ⟨i, _, rfl⟩ := hx
  have := val_range s i
  split <;> omega⟩
theorem pre_at (s : List Int) (k i : Nat) (hi : i < 32) : (pre s k).1.getD i 0 = if i < k then val s i else 0 := by
  simp [pre, List.getD_eq_getElem?_getD, hi]
theorem pre_zero (s : List Int) : pre s 0 = nought := Idn_ext_at fun i hi => by
  rw [pre_at s 0 i hi, if_neg (by omega)]
  have e : nought.1 = List.replicate 32 0 := rfl
  rw [e, List.getD_eq_getElem?_getD, List.getElem?_replicate, if_pos hi]
  rfl
theorem pre_step (s : List Int) (k : Nat) (hk : k < 32) : (cs (pre s k)).setIfInBounds k (.int .u8 (val s k)) = cs (pre s (k + 1)) := by
  apply Array.ext_getElem?
  intro i
  rw [Array.getElem?_setIfInBounds]
  by_cases hi : i < 32
  · have q := cs_at (pre s (k + 1)) i hi
    rw [pre_at _ _ i hi] at q
    rw [q]
    by_cases hik : k = i
    · subst hik
      rw [if_pos rfl, if_pos (by rw [cs_size]; exact hi), if_pos (by omega)]
    · rw [if_neg hik, cs_at _ i hi, pre_at _ _ i hi]
      by_cases h2 : i < k
      · rw [if_pos h2, if_pos (by omega)]
      · rw [if_neg h2, if_neg (by omega)]
  · have e1 : (cs (pre s k))[i]? = none := Array.getElem?_eq_none (by rw [cs_size]; omega)
    have e2 : (cs (pre s (k + 1)))[i]? = none := Array.getElem?_eq_none (by rw [cs_size]; omega)
    rw [e1, e2]
    by_cases hik : k = i
    · omega
    · rw [if_neg hik]
def okB (s : List Int) : Bool := decide (s.length = 64) && (List.range 32).all fun i => decide (0 ≤ dg s (2 * i)) && decide (0 ≤ dg s (2 * i + 1))
def readI (s : List Int) : Idn := if okB s then pre s 32 else nought
theorem okB_true {s : List Int} (hl : s.length = 64) (h : ∀ i, i < 32 → 0 ≤ dg s (2 * i) ∧ 0 ≤ dg s (2 * i + 1)) : okB s = true := by
  unfold okB
  rw [Bool.and_eq_true, decide_eq_true_eq, List.all_eq_true]
  exact ⟨hl, fun i hi => by have := h i (by simpa using hi); simp [this]⟩
theorem okB_len {s : List Int} (hl : s.length ≠ 64) : okB s = false := by simp [okB, hl]
theorem okB_bad {s : List Int} {k : Nat} (hk : k < 32) (h : dg s (2 * k) < 0 ∨ dg s (2 * k + 1) < 0) : okB s = false := by
  cases hq : okB s with
  | false => rfl
  | true =>
    unfold okB at hq
    rw [Bool.and_eq_true, List.all_eq_true] at hq
    have := hq.2 k (by simpa using hk)
    simp at this
    omega
theorem index_nat : ∀ c : Fin 256, Lib.indexByte [48, 49, 50, 51, 52, 53, 54, 55, 56, 57, 97, 98, 99, 100, 101, 102] (UInt8.ofNat c.1) = dig c.1 := by decide +kernel
theorem index_ret (c : Int) (hc : B c) (w : World) : Calls Try.prog 32 #[.string ⟨#[48, 49, 50, 51, 52, 53, 54, 55, 56, 57, 97, 98, 99, 100, 101, 102]⟩, .int .u8 c] w fun e w' => e = .returned (.int .i64 (dig c)) ∧ w' = w := by
  unfold B at hc
  have e : ((c.toNat : Nat) : Int) = c := by omega
  have q := index_nat ⟨c.toNat, by omega⟩
  simp only [e] at q
  refine (Any.strings_IndexByte Try.idxByte _ c w).mono ?_
  rintro e' w' ⟨rfl, rfl⟩
  exact ⟨by rw [← q], rfl⟩
theorem or_fin : ∀ h l : Fin 16, bits .or .i64 ((h.1 : Int) * 16) (l.1 : Int) % 256 = 16 * (h.1 : Int) + l.1 := by decide +kernel
theorem or_at {h l : Int} (h0 : 0 ≤ h) (h1 : h ≤ 15) (l0 : 0 ≤ l) (l1 : l ≤ 15) : bits .or .i64 (h * 16) l % 256 = 16 * h + l := by
  have := or_fin ⟨h.toNat, by omega⟩ ⟨l.toNat, by omega⟩
  simp only [Int.toNat_of_nonneg h0, Int.toNat_of_nonneg l0] at this
  exact this

set_option maxHeartbeats 2000000 in
theorem read_ret (s : ByteArray) (w : World) : Calls Try.prog 25 #[.string s] w fun e w' => e = .returned (.tuple #[.agg (cs (readI (bytesL s))), .bool (okB (bytesL s))]) ∧ Below w.heap.size w w' := by
  have hl := bytesL_length s
  have hBs := bytesL_B s
  obtain ⟨r, hr0⟩ : ∃ r, readI (bytesL s) = r := ⟨_, rfl⟩
  obtain ⟨q, hq0⟩ : ∃ q, okB (bytesL s) = q := ⟨_, rfl⟩
  rw [hr0, hq0]
  have HR := aside hr0
  have HQ := aside hq0
  clear hr0 hq0
  have G0 : Box ((w.alloc (.cells (cs nought) 24)).alloc (.cells (cs nought) 24)) w.heap.size nought := (Box.new w nought _).alloc _
  have G1 : Box ((w.alloc (.cells (cs nought) 24)).alloc (.cells (cs nought) 24)) (w.heap.size + 1) nought := by
    have := Box.new (w.alloc (.cells (cs nought) 24)) nought 24
    simpa using this
  have kb0 : Below w.heap.size w ((w.alloc (.cells (cs nought) 24)).alloc (.cells (cs nought) 24)) := ((Below.refl _ _).alloc (Nat.le_refl _) _).alloc (by simp) _
  by_cases h64 : s.size = 64
  · have n64 : ((s.size : Int) != 64) = false := by simp; omega
    have HS := aside h64
    have HL : Hid ((bytesL s).length = 64) := aside (by rw [hl]; exact h64)
    have hlt64 : ∀ i, i < 64 → i < s.size := fun i hi => by omega
    have hget := fun i (h : i < s.size) => str_get s i h
    clear hl
    go_enter Try.func25, Try.ntmps25
    go_wp2_with (first | (refine wpList_alloc_id rfl rfl ?_) | (refine wpList_build0 rfl rfl ?_) | (refine wpList_store_new rfl _ _ rfl _ _ nought _ rfl _ rfl (by simp) rfl (cs_size nought) ?_))
    go_loopw [12] (fun i wr => ∃ k : Nat, k ≤ 32 ∧ i = .int .i64 k ∧ Hid (∀ j, j < k → 0 ≤ dg (bytesL s) (2 * j) ∧ 0 ≤ dg (bytesL s) (2 * j + 1)) ∧ Box wr w.heap.size nought ∧ Box wr (w.heap.size + 1) (pre (bytesL s) k) ∧ Below w.heap.size w wr) (fun i _ => 32 - (intOf i).toNat)
    case atStart => exact ⟨0, Nat.zero_le _, rfl, aside (fun j hj => absurd hj (Nat.not_lt_zero j)), G0, by rw [pre_zero]; exact G1, kb0⟩
    case round =>
      clear G0 G1 kb0
      obtain ⟨k, hk, rfl, he, G0, G1, kb⟩ := hrel
      by_cases hlt : k < 32
      · have hg1 := fun h => hget (2 * k) h
        have hg2 := fun h => hget (2 * k + 1) h
        have hB1 : B ((bytesL s).getD (2 * k) 0) := by
          rw [List.getD_eq_getElem?_getD, List.getElem?_eq_getElem (by rw [HL.out]; omega)]
          exact hBs _ (List.getElem_mem _)
        have hB2 : B ((bytesL s).getD (2 * k + 1) 0) := by
          rw [List.getD_eq_getElem?_getD, List.getElem?_eq_getElem (by rw [HL.out]; omega)]
          exact hBs _ (List.getElem_mem _)
        obtain ⟨c1, hc1⟩ : ∃ c, (bytesL s).getD (2 * k) 0 = c := ⟨_, rfl⟩
        obtain ⟨c2, hc2⟩ : ∃ c, (bytesL s).getD (2 * k + 1) 0 = c := ⟨_, rfl⟩
        rw [hc1] at hg1 hB1
        rw [hc2] at hg2 hB2
        have HC1 := aside hc1
        have HC2 := aside hc2
        clear hc1 hc2 hget hBs
        have m1 : (2 * (k : Int)).toNat = 2 * k := by omega
        have m2 : (2 * (k : Int) + 1).toNat = 2 * k + 1 := by omega
        have o1 : 0 ≤ 2 * (k : Int) := by omega
        have o2 : 0 ≤ 2 * (k : Int) + 1 := by omega
        have p1 : 2 * (k : Int) < 64 := by omega
        have p2 : 2 * (k : Int) + 1 < 64 := by omega
        have p0 : (k : Int) < 32 := by omega
        have m0 : ((k : Int)).toNat = k := by omega
        have d1 := dig_le c1
        have d2 := dig_le c2
        have e1 := dig_ge c1
        have e2 := dig_ge c2
        go_wp2_with fail
        refine (index_ret _ hB1 _).mono ?_
        rintro e w1 ⟨rfl, rfl⟩
        go_wp2_with fail
        refine (index_ret _ hB2 _).mono ?_
        rintro e w1 ⟨rfl, rfl⟩
        have D1 : dg (bytesL s) (2 * k) = dig c1 := by unfold dg; rw [HC1.out]
        have D2 : dg (bytesL s) (2 * k + 1) = dig c2 := by unfold dg; rw [HC2.out]
        have HD := aside (And.intro D1 D2)
        clear D1 D2
        generalize dig c1 = x1 at *
        generalize dig c2 = x2 at *
        have cK := G1.cell k hlt
        have fK := Box.frozen G1 k
        by_cases hx1 : x1 < 0
        · have hqf : q = false := by rw [← HQ.out]; exact okB_bad hlt (.inl (by rw [HD.out.1]; exact hx1))
          have hrn : r = nought := by
            rw [← HR.out]
            unfold readI
            rw [HQ.out, hqf]
            rfl
          go_wp2_with (first | (refine wpList_build0 rfl rfl ?_) | (refine wpList_store_box rfl _ _ rfl _ rfl nought nought G0 rfl ?_))
          exact bodyPost_ret (v := .tuple #[.agg (cs nought), .bool false]) (results_box Try.results25 _ _ w.heap.size nought _ rfl rfl (Box.row G0 nought)) rfl ⟨by rw [hqf, hrn], below_row kb (Nat.le_refl _) _⟩
        · by_cases hx2 : x2 < 0
          · have hqf : q = false := by rw [← HQ.out]; exact okB_bad hlt (.inr (by rw [HD.out.2]; exact hx2))
            have hrn : r = nought := by
              rw [← HR.out]
              unfold readI
              rw [HQ.out, hqf]
              rfl
            go_wp2_with (first | (refine wpList_build0 rfl rfl ?_) | (refine wpList_store_box rfl _ _ rfl _ rfl nought nought G0 rfl ?_))
            exact bodyPost_ret (v := .tuple #[.agg (cs nought), .bool false]) (results_box Try.results25 _ _ w.heap.size nought _ rfl rfl (Box.row G0 nought)) rfl ⟨by rw [hqf, hrn], below_row kb (Nat.le_refl _) _⟩
          · have hv : val (bytesL s) k = 16 * x1 + x2 := by
              unfold val
              rw [HD.out.1, HD.out.2, if_pos (by omega)]
            have HV := aside hv
            clear hv
            have hor := or_at (Int.not_lt.1 hx1) d1 (Int.not_lt.1 hx2) d2
            go_wp2_with fail
            go_roundw
            case rel =>
              refine ⟨k + 1, by omega, by go_num, aside (fun j hj => ?_), Box.other G0 (by simp) _, Box.put G1 k _ ?_, below_cell kb (by omega) _⟩
              · by_cases hjk : j = k
                · subst hjk
                  rw [HD.out.1, HD.out.2]
                  omega
                · exact he.out j (by omega)
              · rw [← pre_step _ k hlt, HV.out]
            case measure => simp [intOf]; omega
      · have e : k = 32 := by omega
        have hqt : q = true := by rw [← HQ.out]; exact okB_true HL.out (fun i hi => he.out i (by omega))
        have hrp : r = pre (bytesL s) k := by
          rw [← HR.out]
          unfold readI
          rw [HQ.out, hqt, e]
          rfl
        generalize pre (bytesL s) k = z at *
        go_wp2_with (first | (refine wpList_load_box rfl _ rfl _ rfl z G1 ?_) | (refine wpList_store_box rfl _ _ rfl _ rfl nought z G0 rfl ?_))
        exact bodyPost_ret (v := .tuple #[.agg (cs z), .bool true]) (results_box Try.results25 _ _ w.heap.size z _ rfl rfl (Box.row G0 z)) rfl ⟨by rw [hqt, hrp], below_row kb (Nat.le_refl _) _⟩
  · have n64 : ((s.size : Int) != 64) = true := by simp; omega
    have hqf : q = false := by rw [← HQ.out]; exact okB_len (by rw [hl]; exact h64)
    have hrn : r = nought := by
      rw [← HR.out]
      unfold readI
      rw [HQ.out, hqf]
      rfl
    go_enter Try.func25, Try.ntmps25
    go_wp2_with (first | (refine wpList_alloc_id rfl rfl ?_) | (refine wpList_build0 rfl rfl ?_) | (refine wpList_store_box rfl _ _ rfl _ rfl nought nought G0 rfl ?_) | (refine wpList_store_new rfl _ _ rfl _ _ nought _ rfl _ rfl (by simp) rfl (cs_size nought) ?_) | (refine wpList_load_box rfl _ rfl _ rfl nought G1 ?_))
    exact bodyPost_ret (v := .tuple #[.agg (cs nought), .bool false]) (results_box Try.results25 _ _ w.heap.size nought _ rfl rfl (Box.row G0 nought)) rfl ⟨by rw [hqf, hrn], below_row kb0 (Nat.le_refl _) _⟩

set_option maxHeartbeats 2000000 in
theorem rread_ret (s : ByteArray) (w : World) : Calls Try.prog 26 #[.string s] w fun e w' => e = .returned (.tuple #[.agg (cs (readI (bytesL s))), .bool (okB (bytesL s))]) ∧ Below w.heap.size w w' := by
  have hl := bytesL_length s
  have hBs := bytesL_B s
  obtain ⟨r, hr0⟩ : ∃ r, readI (bytesL s) = r := ⟨_, rfl⟩
  obtain ⟨q, hq0⟩ : ∃ q, okB (bytesL s) = q := ⟨_, rfl⟩
  rw [hr0, hq0]
  have HR := aside hr0
  have HQ := aside hq0
  clear hr0 hq0
  have G0 : Box ((w.alloc (.cells (cs nought) 24)).alloc (.cells (cs nought) 24)) w.heap.size nought := (Box.new w nought _).alloc _
  have G1 : Box ((w.alloc (.cells (cs nought) 24)).alloc (.cells (cs nought) 24)) (w.heap.size + 1) nought := by
    have := Box.new (w.alloc (.cells (cs nought) 24)) nought 24
    simpa using this
  have kb0 : Below w.heap.size w ((w.alloc (.cells (cs nought) 24)).alloc (.cells (cs nought) 24)) := ((Below.refl _ _).alloc (Nat.le_refl _) _).alloc (by simp) _
  by_cases h64 : s.size = 64
  · have n64 : ((s.size : Int) != 64) = false := by simp; omega
    have HS := aside h64
    have HL : Hid ((bytesL s).length = 64) := aside (by rw [hl]; exact h64)
    have hlt64 : ∀ i, i < 64 → i < s.size := fun i hi => by omega
    have hget := fun i (h : i < s.size) => str_get s i h
    clear hl
    go_enter Try.func26, Try.ntmps26
    go_wp2_with (first | (refine wpList_alloc_id rfl rfl ?_) | (refine wpList_build0 rfl rfl ?_) | (refine wpList_store_new rfl _ _ rfl _ _ nought _ rfl _ rfl (by simp) rfl (cs_size nought) ?_))
    go_loopw [5] (fun i wr => ∃ k : Nat, k ≤ 32 ∧ i = .int .i64 k ∧ Hid (∀ j, j < k → 0 ≤ dg (bytesL s) (2 * j) ∧ 0 ≤ dg (bytesL s) (2 * j + 1)) ∧ Box wr w.heap.size nought ∧ Box wr (w.heap.size + 1) (pre (bytesL s) k) ∧ Below w.heap.size w wr) (fun i _ => 32 - (intOf i).toNat)
    case atStart => exact ⟨0, Nat.zero_le _, rfl, aside (fun j hj => absurd hj (Nat.not_lt_zero j)), G0, by rw [pre_zero]; exact G1, kb0⟩
    case round =>
      clear G0 G1 kb0
      obtain ⟨k, hk, rfl, he, G0, G1, kb⟩ := hrel
      by_cases hlt : k < 32
      · have hg1 := fun h => hget (2 * k) h
        have hg2 := fun h => hget (2 * k + 1) h
        have hB1 : B ((bytesL s).getD (2 * k) 0) := by
          rw [List.getD_eq_getElem?_getD, List.getElem?_eq_getElem (by rw [HL.out]; omega)]
          exact hBs _ (List.getElem_mem _)
        have hB2 : B ((bytesL s).getD (2 * k + 1) 0) := by
          rw [List.getD_eq_getElem?_getD, List.getElem?_eq_getElem (by rw [HL.out]; omega)]
          exact hBs _ (List.getElem_mem _)
        obtain ⟨c1, hc1⟩ : ∃ c, (bytesL s).getD (2 * k) 0 = c := ⟨_, rfl⟩
        obtain ⟨c2, hc2⟩ : ∃ c, (bytesL s).getD (2 * k + 1) 0 = c := ⟨_, rfl⟩
        rw [hc1] at hg1 hB1
        rw [hc2] at hg2 hB2
        have HC1 := aside hc1
        have HC2 := aside hc2
        clear hc1 hc2 hget hBs
        have m1 : (2 * (k : Int)).toNat = 2 * k := by omega
        have m2 : (2 * (k : Int) + 1).toNat = 2 * k + 1 := by omega
        have o1 : 0 ≤ 2 * (k : Int) := by omega
        have o2 : 0 ≤ 2 * (k : Int) + 1 := by omega
        have p1 : 2 * (k : Int) < 64 := by omega
        have p2 : 2 * (k : Int) + 1 < 64 := by omega
        have p0 : (k : Int) < 32 := by omega
        have m0 : ((k : Int)).toNat = k := by omega
        have d1 := dig_le c1
        have d2 := dig_le c2
        have e1 := dig_ge c1
        have e2 := dig_ge c2
        go_wp2_with fail
        refine (digit_ret _ hB1 _).mono ?_
        rintro e w1 ⟨rfl, rfl⟩
        go_wp2_with fail
        refine (digit_ret _ hB2 _).mono ?_
        rintro e w1 ⟨rfl, rfl⟩
        have D1 : dg (bytesL s) (2 * k) = dig c1 := by unfold dg; rw [HC1.out]
        have D2 : dg (bytesL s) (2 * k + 1) = dig c2 := by unfold dg; rw [HC2.out]
        have HD := aside (And.intro D1 D2)
        clear D1 D2
        generalize dig c1 = x1 at *
        generalize dig c2 = x2 at *
        have cK := G1.cell k hlt
        have fK := Box.frozen G1 k
        by_cases hx1 : x1 < 0
        · have hqf : q = false := by rw [← HQ.out]; exact okB_bad hlt (.inl (by rw [HD.out.1]; exact hx1))
          have hrn : r = nought := by
            rw [← HR.out]
            unfold readI
            rw [HQ.out, hqf]
            rfl
          go_wp2_with (first | (refine wpList_build0 rfl rfl ?_) | (refine wpList_store_box rfl _ _ rfl _ rfl nought nought G0 rfl ?_))
          exact bodyPost_ret (v := .tuple #[.agg (cs nought), .bool false]) (results_box Try.results26 _ _ w.heap.size nought _ rfl rfl (Box.row G0 nought)) rfl ⟨by rw [hqf, hrn], below_row kb (Nat.le_refl _) _⟩
        · by_cases hx2 : x2 < 0
          · have hqf : q = false := by rw [← HQ.out]; exact okB_bad hlt (.inr (by rw [HD.out.2]; exact hx2))
            have hrn : r = nought := by
              rw [← HR.out]
              unfold readI
              rw [HQ.out, hqf]
              rfl
            go_wp2_with (first | (refine wpList_build0 rfl rfl ?_) | (refine wpList_store_box rfl _ _ rfl _ rfl nought nought G0 rfl ?_))
            exact bodyPost_ret (v := .tuple #[.agg (cs nought), .bool false]) (results_box Try.results26 _ _ w.heap.size nought _ rfl rfl (Box.row G0 nought)) rfl ⟨by rw [hqf, hrn], below_row kb (Nat.le_refl _) _⟩
          · have hv : val (bytesL s) k = 16 * x1 + x2 := by
              unfold val
              rw [HD.out.1, HD.out.2, if_pos (by omega)]
            have HV := aside hv
            clear hv
            skip
            go_wp2_with fail
            go_roundw
            case rel =>
              refine ⟨k + 1, by omega, by go_num, aside (fun j hj => ?_), Box.other G0 (by simp) _, Box.put G1 k _ ?_, below_cell kb (by omega) _⟩
              · by_cases hjk : j = k
                · subst hjk
                  rw [HD.out.1, HD.out.2]
                  omega
                · exact he.out j (by omega)
              · rw [← pre_step _ k hlt, HV.out]
            case measure => simp [intOf]; omega
      · have e : k = 32 := by omega
        have hqt : q = true := by rw [← HQ.out]; exact okB_true HL.out (fun i hi => he.out i (by omega))
        have hrp : r = pre (bytesL s) k := by
          rw [← HR.out]
          unfold readI
          rw [HQ.out, hqt, e]
          rfl
        generalize pre (bytesL s) k = z at *
        go_wp2_with (first | (refine wpList_load_box rfl _ rfl _ rfl z G1 ?_) | (refine wpList_store_box rfl _ _ rfl _ rfl nought z G0 rfl ?_))
        exact bodyPost_ret (v := .tuple #[.agg (cs z), .bool true]) (results_box Try.results26 _ _ w.heap.size z _ rfl rfl (Box.row G0 z)) rfl ⟨by rw [hqt, hrp], below_row kb (Nat.le_refl _) _⟩
  · have n64 : ((s.size : Int) != 64) = true := by simp; omega
    have hqf : q = false := by rw [← HQ.out]; exact okB_len (by rw [hl]; exact h64)
    have hrn : r = nought := by
      rw [← HR.out]
      unfold readI
      rw [HQ.out, hqf]
      rfl
    go_enter Try.func26, Try.ntmps26
    go_wp2_with (first | (refine wpList_alloc_id rfl rfl ?_) | (refine wpList_build0 rfl rfl ?_) | (refine wpList_store_box rfl _ _ rfl _ rfl nought nought G0 rfl ?_) | (refine wpList_store_new rfl _ _ rfl _ _ nought _ rfl _ rfl (by simp) rfl (cs_size nought) ?_) | (refine wpList_load_box rfl _ rfl _ rfl nought G1 ?_))
    exact bodyPost_ret (v := .tuple #[.agg (cs nought), .bool false]) (results_box Try.results26 _ _ w.heap.size nought _ rfl rfl (Box.row G0 nought)) rfl ⟨by rw [hqf, hrn], below_row kb0 (Nat.le_refl _) _⟩
end Go.Proofs.Ytbggegpbcgcknaa.IdJ
