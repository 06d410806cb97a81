/- OpsBack returns true for every input: what is put is got, whatever stands behind; what is got is put as the same bytes. No condition. -/
import Derived.Test.YtkjhjaeglgoepaaOpsA
import Derived.Test.YtkjhjaeglgoepaaOpsS
import Derived.Test.YtkjhjaeglgoepaaOpsT
import Derived.Test.YtkjhjaeglgoepaaOpenO
import Derived.ShutString
import Derived.ChangeOld
namespace Go.Proofs.Ytkjhjaeglgoepaa.opsBack
open Go Go.ChangeShapes Go.WideShapes Go.ChangeAt Go.RowKit Go.Sort Byt OpsM OpsK OpsW OpsC OpsP OpsH OpsE OpsA

set_option maxRecDepth 100000 in
set_option maxHeartbeats 8000000 in
theorem out (o : Opn) (A : Option Addr) (len cap : Nat) (w : World) (hf : Fit o) (hm : len ≤ 9223372036854775807) (h : shortB o = false ∨ (shortB o = true ∧ 200 < len)) :
    Calls Try.prog 5 #[.agg (opc o), .slice A len cap] w fun e w' => e = .returned (.bool true) ∧ Below w.heap.size w w' := by
  have cs := fun W => short o W hf
  rcases h with h | ⟨h, h2⟩
  all_goals
    rw [h] at cs
    clear h
    go_enter Try.func5, Try.ntmps5
    go_wp2_with fail
    refine (awake _).mono ?_
    rintro e w1 ⟨rfl, h1⟩
    have k1 : Below w.heap.size w w1 := (below_alloc w _).trans (h1.mono (by simp))
    have O1 := (OpAt.new w o 23).below h1
    clear h1
    go_wp2_with (refine wpList_load_op rfl _ rfl _ rfl o O1 ?_)
    refine (cs _).mono ?_
    clear cs
    rintro e w2 ⟨rfl, h2⟩
    have k2 := k1.trans (h2.mono k1.size)
    have O2 := O1.below h2
    clear k1 O1 h2
    go_wp2_with fail
    go_ret
    exact ⟨rfl, k2⟩

theorem add_str {a b : List Int} : Byt.strOf a ++ Byt.strOf b = Byt.strOf (a ++ b) := by
  unfold Byt.strOf
  rw [List.map_append, ByteArray.mk_append_mk]
set_option maxRecDepth 100000 in
set_option maxHeartbeats 8000000 in
theorem put_none (o : Opn) (A : Option Addr) (len cap : Nat) (bs : List Int) (w : World) (hf : Fit o) (hsh : shortB o = true) (hm : mayO o = true) (hS : Sl w A cap bs) (hl : bs.length = len) (hlen : len ≤ 200) (hq : getO bs = none) :
    Calls Try.prog 5 #[.agg (opc o), .slice A len cap] w fun e w' => e = .returned (.bool true) ∧ Below w.heap.size w w' := by
  have cs := fun W => short o W hf
  rw [hsh] at cs
  have c1 := fun W => put_yes o W hf hm
  unfold PutYes at c1
  have hX := putL_len hm
  have hg := get_put hm bs
  have hB := putL_B o
  obtain ⟨X, hXe⟩ : ∃ X, putL o = X := ⟨_, rfl⟩
  rw [hXe] at c1 hX hg hB
  have c2 := fun {A2 : Option Addr} {l c : Nat} {W : World} (S : Sl W A2 c (X ++ bs)) (e : (X ++ bs).length = l) (hl : l ≤ 1099511627776) => get A2 l c (X ++ bs) W S e hl
  unfold GetOut at c2
  rw [hg] at c2
  simp only at c2
  have heq := equal_yes o
  have HB := aside hB
  have HL := aside hl
  clear hm hXe hg hB hl hsh
  have c3 := fun W S => get A len cap bs W S HL.out (by omega)
  unfold GetOut at c3
  rw [hq] at c3
  simp only at c3
  have heqn : ∀ W : World, (Op.equalIn 10000 23 (.agg (opc noOp)) (.agg #[.int .i64 0, .string ⟨#[]⟩, .string ⟨#[]⟩, .int .i64 0])).run Try.prog W = .ok true W := equal_yes noOp
  clear hq
  go_enter Try.func5, Try.ntmps5
  go_wp2_with fail
  refine (awake _).mono ?_
  rintro e w1 ⟨rfl, h1⟩
  have k1 : Below w.heap.size w w1 := (below_alloc w _).trans (h1.mono (by simp))
  have O1 := (OpAt.new w o 23).below h1
  clear h1
  go_wp2_with (refine wpList_load_op rfl _ rfl _ rfl o O1 ?_)
  refine (cs _).mono ?_
  clear cs
  rintro e w2 ⟨rfl, h2⟩
  have k2 := k1.trans (h2.mono k1.size)
  have O2 := O1.below h2
  clear k1 O1 h2
  go_wp2_with (refine wpList_load_op rfl _ rfl _ rfl o O2 ?_)
  refine (c1 _).mono ?_
  clear c1
  rintro e w3 ⟨v3, rfl, own3, h3⟩
  obtain ⟨A3, l3, rfl, S3⟩ := Sl.own own3 HB.out
  have k3 := k2.trans (h3.mono k2.size)
  have O3 := O2.below h3
  have s3 := k3.size
  clear k2 O2 h3 own3
  go_wp2_with (first
    | (refine wpList_append_sl rfl (.const (.slice none 0 0)) (.tmp 40) 26 rfl w3.heap.size 5 Try.underlying26 zero_u8 (.slice none 0 0) 0 [] rfl (World.ownsRow_nil _ _ _ _) A3 X.length l3 X rfl rfl S3 (by omega) (Nat.le_refl _) ?_; intro v4 w4 hown4 hg4; have k4 : Below w3.heap.size w3 w4 := below_grown (Below.refl _ _) (Nat.le_refl _) hg4 (fun k hk => by cases hk); have s4 := k4.size; have SB4 := hS.below (k3.trans (k4.mono s3)); rw [Nat.zero_add, List.nil_append] at hown4; have HO4 := aside hown4; clear hown4 hg4)
    | (refine wpList_append_sl rfl (.tmp 41) (.tmp 42) 26 rfl w3.heap.size 5 Try.underlying26 zero_u8 v4 X.length X rfl HO4.out A len cap bs rfl HL.out SB4 (by omega) s4 ?_; intro v5 w5 hown5 hg5; have k5 : Below w3.heap.size w3 w5 := below_grown k4 s4 hg5 (fun k hk => (HO4.out.lt k hk).1); have HO5 := aside hown5; clear hown5 hg5))
  have h5 := HO5.out
  rw [← HL.out, ← List.length_append] at h5
  obtain ⟨A5, c5', rfl, S5⟩ := Sl.own h5 (fun x hx => (List.mem_append.1 hx).elim (HB.out x) (hS.bytes x))
  have k6 := k3.trans (k5.mono s3)
  have O5 := O3.below k5
  clear h5 HO4 HO5 SB4 k3 k4 k5 s3 s4 S3 O3
  refine (c2 S5 rfl (by rw [List.length_append, HL.out]; omega)).mono ?_
  clear c2
  rintro e w6 ⟨h6, A6, c6', rfl, S6⟩
  rw [HL.out]
  have k7 : Below w.heap.size w w6 := k6.trans (h6.mono k6.size)
  have O6 := (O5.below h6).alloc (.cells (opc noOp) 23)
  have hlt := (O5.below h6).lt
  have R6 := OpAt.new w6 noOp 23
  have T6 := S6.below (below_alloc w6 (.cells (opc noOp) 23))
  have s7 := k7.size
  clear k6 O5 h6 S5 S6
  go_wp2_with (first | (refine wpList_store_op rfl rfl _ _ rfl _ rfl noOp R6 o rfl ?_; intro w7 R7 b7 g7; have O7 := O6.kept g7 (by omega); have k8 : Below w.heap.size w w7 := (k7.alloc s7 _).trans (b7 _ s7); have q1 := (Sl.kept T6 R6 g7).conv HL.out; have q2 := (hS.below k8).conv HL.out) | (refine unguard (by kernel_rfl) (wpList_load_op rfl _ rfl _ rfl o O7 ?_)) | (refine unguard (by kernel_rfl) (wpList_load_op rfl _ rfl _ rfl o R7 ?_)))
  clear q1 q2 k7 R6 T6 O6 b7 g7 R7 O7
  refine (c3 _ (hS.below k8)).mono ?_
  clear c3
  rintro e w8 ⟨h8, rfl⟩
  have k9 : Below w.heap.size w w8 := k8.trans (h8.mono k8.size)
  have R8 := OpAt.new w8 noOp 23
  have s9 := k9.size
  go_wp2_with (first | (refine wpList_store_op rfl rfl _ _ rfl _ rfl noOp R8 noOp rfl ?_; intro w9 R9 b9 g9; have k10 : Below w.heap.size w w9 := (k9.alloc s9 _).trans (b9 _ s9)) | (refine wpList_load_op rfl _ rfl _ rfl noOp R9 ?_))
  go_ret
  exact ⟨rfl, k10⟩

set_option maxRecDepth 100000 in
set_option maxHeartbeats 8000000 in
theorem put_some (o : Opn) (A : Option Addr) (len cap : Nat) (bs : List Int) (w : World) (hf : Fit o) (hsh : shortB o = true) (hm : mayO o = true) (hS : Sl w A cap bs) (hl : bs.length = len) (hlen : len ≤ 200) (p : Opn) (r : List Int) (hq : getO bs = some (p, r)) :
    Calls Try.prog 5 #[.agg (opc o), .slice A len cap] w fun e w' => e = .returned (.bool true) ∧ Below w.heap.size w w' := by
  have cs := fun W => short o W hf
  rw [hsh] at cs
  have c1 := fun W => put_yes o W hf hm
  unfold PutYes at c1
  have hX := putL_len hm
  have hg := get_put hm bs
  have hB := putL_B o
  obtain ⟨X, hXe⟩ : ∃ X, putL o = X := ⟨_, rfl⟩
  rw [hXe] at c1 hX hg hB
  have c2 := fun {A2 : Option Addr} {l c : Nat} {W : World} (S : Sl W A2 c (X ++ bs)) (e : (X ++ bs).length = l) (hl : l ≤ 1099511627776) => get A2 l c (X ++ bs) W S e hl
  unfold GetOut at c2
  rw [hg] at c2
  simp only at c2
  have heq := equal_yes o
  have HB := aside hB
  have HL := aside hl
  clear hm hXe hg hB hl hsh
  have c3 := fun W S => get A len cap bs W S HL.out (by omega)
  unfold GetOut at c3
  rw [hq] at c3
  simp only at c3
  obtain ⟨hmp, hbs⟩ := put_get hS.bytes hq
  have hfp := mayO_fit hmp
  have c4 := fun W => put_yes p W hfp hmp
  have c5 := fun W => may p W hfp
  unfold PutYes at c4
  rw [hmp] at c5
  have hY := putL_B p
  have hYl := putL_len hmp
  obtain ⟨Y, hYe⟩ : ∃ Y, putL p = Y := ⟨_, rfl⟩
  rw [hYe] at c4 hY hbs hYl
  have hrl : r.length ≤ 200 := by
    have := congrArg List.length hbs
    rw [List.length_append, HL.out] at this
    omega
  have hs1 : (Byt.strOf Y).size ≤ 60 := by rw [strOf_size]; exact hYl
  have hs2 : (Byt.strOf r).size ≤ 200 := by rw [strOf_size]; exact hrl
  have hadd : Byt.strOf Y ++ Byt.strOf r = Byt.strOf bs := by rw [add_str, ← hbs]
  have HY := aside hY
  have HBS := aside hbs
  clear hq hmp hbs hY hYe hfp
  go_enter Try.func5, Try.ntmps5
  go_wp2_with fail
  refine (awake _).mono ?_
  rintro e w1 ⟨rfl, h1⟩
  have k1 : Below w.heap.size w w1 := (below_alloc w _).trans (h1.mono (by simp))
  have O1 := (OpAt.new w o 23).below h1
  clear h1
  go_wp2_with (refine wpList_load_op rfl _ rfl _ rfl o O1 ?_)
  refine (cs _).mono ?_
  clear cs
  rintro e w2 ⟨rfl, h2⟩
  have k2 := k1.trans (h2.mono k1.size)
  have O2 := O1.below h2
  clear k1 O1 h2
  go_wp2_with (refine wpList_load_op rfl _ rfl _ rfl o O2 ?_)
  refine (c1 _).mono ?_
  clear c1
  rintro e w3 ⟨v3, rfl, own3, h3⟩
  obtain ⟨A3, l3, rfl, S3⟩ := Sl.own own3 HB.out
  have k3 := k2.trans (h3.mono k2.size)
  have O3 := O2.below h3
  have s3 := k3.size
  clear k2 O2 h3 own3
  go_wp2_with (first
    | (refine wpList_append_sl rfl (.const (.slice none 0 0)) (.tmp 40) 26 rfl w3.heap.size 5 Try.underlying26 zero_u8 (.slice none 0 0) 0 [] rfl (World.ownsRow_nil _ _ _ _) A3 X.length l3 X rfl rfl S3 (by omega) (Nat.le_refl _) ?_; intro v4 w4 hown4 hg4; have k4 : Below w3.heap.size w3 w4 := below_grown (Below.refl _ _) (Nat.le_refl _) hg4 (fun k hk => by cases hk); have s4 := k4.size; have SB4 := hS.below (k3.trans (k4.mono s3)); rw [Nat.zero_add, List.nil_append] at hown4; have HO4 := aside hown4; clear hown4 hg4)
    | (refine wpList_append_sl rfl (.tmp 41) (.tmp 42) 26 rfl w3.heap.size 5 Try.underlying26 zero_u8 v4 X.length X rfl HO4.out A len cap bs rfl HL.out SB4 (by omega) s4 ?_; intro v5 w5 hown5 hg5; have k5 : Below w3.heap.size w3 w5 := below_grown k4 s4 hg5 (fun k hk => (HO4.out.lt k hk).1); have HO5 := aside hown5; clear hown5 hg5))
  have h5 := HO5.out
  rw [← HL.out, ← List.length_append] at h5
  obtain ⟨A5, c5', rfl, S5⟩ := Sl.own h5 (fun x hx => (List.mem_append.1 hx).elim (HB.out x) (hS.bytes x))
  have k6 := k3.trans (k5.mono s3)
  have O5 := O3.below k5
  clear h5 HO4 HO5 SB4 k3 k4 k5 s3 s4 S3 O3
  refine (c2 S5 rfl (by rw [List.length_append, HL.out]; omega)).mono ?_
  clear c2
  rintro e w6 ⟨h6, A6, c6', rfl, S6⟩
  rw [HL.out]
  have k7 : Below w.heap.size w w6 := k6.trans (h6.mono k6.size)
  have O6 := (O5.below h6).alloc (.cells (opc noOp) 23)
  have hlt := (O5.below h6).lt
  have R6 := OpAt.new w6 noOp 23
  have T6 := S6.below (below_alloc w6 (.cells (opc noOp) 23))
  have s7 := k7.size
  clear k6 O5 h6 S5 S6
  go_wp2_with (first | (refine wpList_store_op rfl rfl _ _ rfl _ rfl noOp R6 o rfl ?_; intro w7 R7 b7 g7; have O7 := O6.kept g7 (by omega); have k8 : Below w.heap.size w w7 := (k7.alloc s7 _).trans (b7 _ s7); have q1 := (Sl.kept T6 R6 g7).conv HL.out; have q2 := (hS.below k8).conv HL.out) | (refine unguard (by kernel_rfl) (wpList_load_op rfl _ rfl _ rfl o O7 ?_)) | (refine unguard (by kernel_rfl) (wpList_load_op rfl _ rfl _ rfl o R7 ?_)))
  clear q1 q2 k7 R6 T6 O6 b7 g7 R7 O7
  refine (c3 _ (hS.below k8)).mono ?_
  clear c3
  rintro e w8 ⟨h8, A8, c8', rfl, S8⟩
  have k9 : Below w.heap.size w w8 := k8.trans (h8.mono k8.size)
  have R8 := OpAt.new w8 noOp 23
  have T8 := S8.below (below_alloc w8 (.cells (opc noOp) 23))
  have s9 := k9.size
  clear S8 h8 k8
  go_wp2_with (first | (refine wpList_store_op rfl rfl _ _ rfl _ rfl noOp R8 p rfl ?_; intro w9 R9 b9 g9; have k10 : Below w.heap.size w w9 := (k9.alloc s9 _).trans (b9 _ s9); have T9 := Sl.kept T8 R8 g9) | (refine wpList_load_op rfl _ rfl _ rfl p R9 ?_))
  refine (c4 _).mono ?_
  clear c4 b9 g9 k9 R8 T8
  rintro e w10 ⟨v10, rfl, own10, h10⟩
  obtain ⟨A10, l10, rfl, S10⟩ := Sl.own own10 HY.out
  have k11 := k10.trans (h10.mono k10.size)
  have R10 := R9.below h10
  have T10 := T9.below h10
  have r0 := R10.kind
  have r1 := R10.key
  have r2 := R10.elem
  have r3 := R10.n
  clear own10 k10 R9 T9 h10
  go_wp2_with fail
  refine (c5 _).mono ?_
  clear c5 r0 r1 r2 r3
  rintro e w11 ⟨rfl, h11⟩
  have k12 := k11.trans (h11.mono k11.size)
  have q1 := (S10.below h11).conv rfl
  have q2 := (T10.below h11).conv rfl
  have q3 := (hS.below k12).conv HL.out
  clear k11 h11 S10 T10 R10
  go_wp2_with fail
  go_ret
  exact ⟨by first | rfl | (rw [hadd]; simp) | simp, k12⟩

set_option maxRecDepth 100000 in
set_option maxHeartbeats 8000000 in
theorem not_none (o : Opn) (A : Option Addr) (len cap : Nat) (bs : List Int) (w : World) (hf : Fit o) (hsh : shortB o = true) (hm : mayO o = false) (hS : Sl w A cap bs) (hl : bs.length = len) (hlen : len ≤ 200) (hq : getO bs = none) :
    Calls Try.prog 5 #[.agg (opc o), .slice A len cap] w fun e w' => e = .returned (.bool true) ∧ Below w.heap.size w w' := by
  have cs := fun W => short o W hf
  rw [hsh] at cs
  have c1 := fun W => put_no o W hf hm
  unfold PutNo at c1
  have HL := aside hl
  clear hm hl hsh
  have c3 := fun W S => get A len cap bs W S HL.out (by omega)
  unfold GetOut at c3
  rw [hq] at c3
  simp only at c3
  have heqn : ∀ W : World, (Op.equalIn 10000 23 (.agg (opc noOp)) (.agg #[.int .i64 0, .string ⟨#[]⟩, .string ⟨#[]⟩, .int .i64 0])).run Try.prog W = .ok true W := equal_yes noOp
  clear hq
  go_enter Try.func5, Try.ntmps5
  go_wp2_with fail
  refine (awake _).mono ?_
  rintro e w1 ⟨rfl, h1⟩
  have k1 : Below w.heap.size w w1 := (below_alloc w _).trans (h1.mono (by simp))
  have O1 := (OpAt.new w o 23).below h1
  clear h1
  go_wp2_with (refine wpList_load_op rfl _ rfl _ rfl o O1 ?_)
  refine (cs _).mono ?_
  clear cs
  rintro e w2 ⟨rfl, h2⟩
  have k2 := k1.trans (h2.mono k1.size)
  have O2 := O1.below h2
  clear k1 O1 h2
  go_wp2_with (refine wpList_load_op rfl _ rfl _ rfl o O2 ?_)
  refine (c1 _).mono ?_
  clear c1
  rintro e w7 ⟨rfl, h7⟩
  have k8 := k2.trans (h7.mono k2.size)
  clear k2 O2 h7
  go_wp2_with fail
  refine (c3 _ (hS.below k8)).mono ?_
  clear c3
  rintro e w8 ⟨h8, rfl⟩
  have k9 : Below w.heap.size w w8 := k8.trans (h8.mono k8.size)
  have R8 := OpAt.new w8 noOp 23
  have s9 := k9.size
  go_wp2_with (first | (refine wpList_store_op rfl rfl _ _ rfl _ rfl noOp R8 noOp rfl ?_; intro w9 R9 b9 g9; have k10 : Below w.heap.size w w9 := (k9.alloc s9 _).trans (b9 _ s9)) | (refine wpList_load_op rfl _ rfl _ rfl noOp R9 ?_))
  go_ret
  exact ⟨rfl, k10⟩

set_option maxRecDepth 100000 in
set_option maxHeartbeats 8000000 in
theorem not_some (o : Opn) (A : Option Addr) (len cap : Nat) (bs : List Int) (w : World) (hf : Fit o) (hsh : shortB o = true) (hm : mayO o = false) (hS : Sl w A cap bs) (hl : bs.length = len) (hlen : len ≤ 200) (p : Opn) (r : List Int) (hq : getO bs = some (p, r)) :
    Calls Try.prog 5 #[.agg (opc o), .slice A len cap] w fun e w' => e = .returned (.bool true) ∧ Below w.heap.size w w' := by
  have cs := fun W => short o W hf
  rw [hsh] at cs
  have c1 := fun W => put_no o W hf hm
  unfold PutNo at c1
  have HL := aside hl
  clear hm hl hsh
  have c3 := fun W S => get A len cap bs W S HL.out (by omega)
  unfold GetOut at c3
  rw [hq] at c3
  simp only at c3
  obtain ⟨hmp, hbs⟩ := put_get hS.bytes hq
  have hfp := mayO_fit hmp
  have c4 := fun W => put_yes p W hfp hmp
  have c5 := fun W => may p W hfp
  unfold PutYes at c4
  rw [hmp] at c5
  have hY := putL_B p
  have hYl := putL_len hmp
  obtain ⟨Y, hYe⟩ : ∃ Y, putL p = Y := ⟨_, rfl⟩
  rw [hYe] at c4 hY hbs hYl
  have hrl : r.length ≤ 200 := by
    have := congrArg List.length hbs
    rw [List.length_append, HL.out] at this
    omega
  have hs1 : (Byt.strOf Y).size ≤ 60 := by rw [strOf_size]; exact hYl
  have hs2 : (Byt.strOf r).size ≤ 200 := by rw [strOf_size]; exact hrl
  have hadd : Byt.strOf Y ++ Byt.strOf r = Byt.strOf bs := by rw [add_str, ← hbs]
  have HY := aside hY
  have HBS := aside hbs
  clear hq hmp hbs hY hYe hfp
  go_enter Try.func5, Try.ntmps5
  go_wp2_with fail
  refine (awake _).mono ?_
  rintro e w1 ⟨rfl, h1⟩
  have k1 : Below w.heap.size w w1 := (below_alloc w _).trans (h1.mono (by simp))
  have O1 := (OpAt.new w o 23).below h1
  clear h1
  go_wp2_with (refine wpList_load_op rfl _ rfl _ rfl o O1 ?_)
  refine (cs _).mono ?_
  clear cs
  rintro e w2 ⟨rfl, h2⟩
  have k2 := k1.trans (h2.mono k1.size)
  have O2 := O1.below h2
  clear k1 O1 h2
  go_wp2_with (refine wpList_load_op rfl _ rfl _ rfl o O2 ?_)
  refine (c1 _).mono ?_
  clear c1
  rintro e w7 ⟨rfl, h7⟩
  have k8 := k2.trans (h7.mono k2.size)
  clear k2 O2 h7
  go_wp2_with fail
  refine (c3 _ (hS.below k8)).mono ?_
  clear c3
  rintro e w8 ⟨h8, A8, c8', rfl, S8⟩
  have k9 : Below w.heap.size w w8 := k8.trans (h8.mono k8.size)
  have R8 := OpAt.new w8 noOp 23
  have T8 := S8.below (below_alloc w8 (.cells (opc noOp) 23))
  have s9 := k9.size
  clear S8 h8 k8
  go_wp2_with (first | (refine wpList_store_op rfl rfl _ _ rfl _ rfl noOp R8 p rfl ?_; intro w9 R9 b9 g9; have k10 : Below w.heap.size w w9 := (k9.alloc s9 _).trans (b9 _ s9); have T9 := Sl.kept T8 R8 g9) | (refine wpList_load_op rfl _ rfl _ rfl p R9 ?_))
  refine (c4 _).mono ?_
  clear c4 b9 g9 k9 R8 T8
  rintro e w10 ⟨v10, rfl, own10, h10⟩
  obtain ⟨A10, l10, rfl, S10⟩ := Sl.own own10 HY.out
  have k11 := k10.trans (h10.mono k10.size)
  have R10 := R9.below h10
  have T10 := T9.below h10
  have r0 := R10.kind
  have r1 := R10.key
  have r2 := R10.elem
  have r3 := R10.n
  clear own10 k10 R9 T9 h10
  go_wp2_with fail
  refine (c5 _).mono ?_
  clear c5 r0 r1 r2 r3
  rintro e w11 ⟨rfl, h11⟩
  have k12 := k11.trans (h11.mono k11.size)
  have q1 := (S10.below h11).conv rfl
  have q2 := (T10.below h11).conv rfl
  have q3 := (hS.below k12).conv HL.out
  clear k11 h11 S10 T10 R10
  go_wp2_with fail
  go_ret
  exact ⟨by first | rfl | (rw [hadd]; simp) | simp, k12⟩

theorem walk (a0 : Opn) (a1 : Option Addr) (len1 cap1 : Nat) (z1 : List Int) (w : World) (w0 : Fit a0) (w1 : RowIn.RowIn .u8 w a1 len1 cap1 z1) :
    Calls Try.prog 5 #[.agg (opc a0), .slice a1 len1 cap1] w fun e w' => e = .returned (.bool true) ∧ Below w.heap.size w w' := by
  have h2 := w1.1
  have h3 := w1.2.1
  unfold maxLen at h3
  obtain ⟨hS, hl⟩ := Sl.of_row w1
  cases hsh : shortB a0 with
  | false => exact out a0 a1 len1 cap1 w w0 (by omega) (.inl hsh)
  | true =>
    by_cases h : 200 < len1
    · exact out a0 a1 len1 cap1 w w0 (by omega) (.inr ⟨hsh, h⟩)
    · cases hm : mayO a0 with
      | true =>
        cases hq : getO (z1.take len1) with
        | none => exact put_none a0 a1 len1 cap1 _ w w0 hsh hm hS hl (by omega) hq
        | some q => exact put_some a0 a1 len1 cap1 _ w w0 hsh hm hS hl (by omega) q.1 q.2 hq
      | false =>
        cases hq : getO (z1.take len1) with
        | none => exact not_none a0 a1 len1 cap1 _ w w0 hsh hm hS hl (by omega) hq
        | some q => exact not_some a0 a1 len1 cap1 _ w w0 hsh hm hS hl (by omega) q.1 q.2 hq

theorem own : ownKnob Try.prog.godebug = none := by kernel_rfl
theorem laidOut : laidOutB Try.prog = true := by kernel_rfl
set_option linter.unusedVariables false in
set_option maxRecDepth 100000 in
theorem lifted (os : Os) (started : os.Started) (H : Type) (enc : TypeId × Value → H) :
    ReturnsInHanded {} Try.checked os 5 .any (Rows.opsBackSpec.pre6 enc Try.prog Try.f5 Rows.opsBackRow.domain false) (Rows.opsBackSpec.post enc Try.prog Try.f5 false true false false) := by
  refine returnsInHanded_of_change (C := Try.checked) own started (by kernel_rfl) Try.func5
    (ChangeSpec.witness6 (enc := enc) (C := Try.checked) false ⟨#[], #[.agg #[.int .i64 0, .string ByteArray.empty, .string ByteArray.empty, .int .i64 0], .slice none 0 0], []⟩ 8 (by kernel_rfl) (by kernel_rfl) (by kernel_rfl) (by kernel_rfl)) ?_
  intro W base args ds gs before hval0 hW hcnd _
  have hval : ∀ (j : Nat) t v, Try.f5.params[j]? = some t → args[j]? = some v → Value.okWide Try.prog W .any base t v := hval0
  have hW' := hW
  obtain ⟨p, q, hA0, hV, rfl, hfz, hnd⟩ := hW
  have hA : DataW.TrodAll enc Try.prog W 0 (fun _ => true) true Try.f5.params.toList args.toList ds p := hA0
  rw [Try.params5] at hA hval
  obtain ⟨v0, vs0, d0, ds0, p0, q0, hargs, rfl, rfl, h0, r0⟩ := trodAll_cons hA
  obtain ⟨v1, vs1, d1, ds1, p1, q1, rfl, rfl, rfl, h1, r1⟩ := trodAll_cons r0
  obtain ⟨rfl, rfl, rfl⟩ := trodAll_nil r1
  obtain rfl : args = #[v0, v1] := by cases args; simp_all
  obtain ⟨rfl, rfl⟩ := trodVars_none hV
  have k0 := h0
  have lt0 : ∀ x ∈ p0, x.block < W.heap.size := by obtain ⟨m, hm⟩ := k0; exact DataW.trod_lt m _ _ _ hm
  obtain ⟨a0, rfl, w0⟩ := OpenO.open_op Try.underlying23 (by kernel_rfl) (by kernel_rfl) Try.underlying3 Try.underlying9 Try.underlying9 Try.underlying3 (hval 0 23 v0 rfl rfl) h0
  have k1 := h1
  have lt1 : ∀ x ∈ p1, x.block < W.heap.size := by obtain ⟨m, hm⟩ := k1; exact DataW.trod_lt m _ _ _ hm
  obtain ⟨a1, len1, cap1, z1, rfl, w1⟩ := RowIn.open_row Try.underlying26 Try.underlying5 (by kernel_rfl) (hval 1 26 v1 rfl rfl) h1
  clear hA0 hval0
  refine (walk a0 a1 len1 cap1 z1 W w0 w1).mono fun e W' ⟨he, bel⟩ => ?_
  subst he
  exact ⟨_, rfl, _, _, _, [], _, [], hW', trodAll_mk1 (shut_bool Try.underlying4 _), (trodAll_cons_mk (Below.trod laidOut (by kernel_rfl) (of_decide_eq_true (by kernel_rfl)) k0 bel lt0) (trodAll_cons_mk (Below.trod laidOut (by kernel_rfl) (of_decide_eq_true (by kernel_rfl)) k1 bel lt1) trodAll_mk0)), rfl, bel.frame _, fun h => by cases h⟩

theorem over : Rows.opsBackRow.holds Try.pinned (OpenSpec.ofChange Rows.opsBackSpec) :=
  OpenClaim.holds_of_wide 5 Try.f5 rfl rfl rfl rfl rfl rfl rfl ⟨rfl, rfl, rfl, rfl, rfl⟩ rfl rfl rfl rfl rfl (by kernel_rfl) Try.func5 (by kernel_rfl)
    (of_decide_eq_true (by kernel_rfl)) (by unfold Func.isWrapper; first | (rw [if_pos (by decide +kernel)]; kernel_rfl) | (rw [if_neg (by decide +kernel)]; exact ⟨rfl, rfl⟩))
    (fun os started H enc _ => lifted os started H enc)

theorem proved : Rows.OpsBackSaid := over
end Go.Proofs.Ytkjhjaeglgoepaa.opsBack
