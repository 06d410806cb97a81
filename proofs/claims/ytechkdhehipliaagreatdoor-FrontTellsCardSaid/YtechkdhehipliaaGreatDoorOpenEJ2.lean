/- How a reading gives an event that came in. No condition. | FrontTells' walk, over contracts: all five functions answer as the document does. No condition. -/
import Derived.Test.YtechkdhehipliaaGreatDoorRowGJ8
import Derived.Test.YtechkdhehipliaaGreatDoorDgGJ4
import Derived.Test.YtechkdhehipliaaGreatDoorIdYJ3
import Derived.Test.YtechkdhehipliaaGreatDoorFrO
import Derived.Test.YtechkdhehipliaaGreatDoorFrCJ5
import Derived.Test.YtechkdhehipliaaGreatDoorCmAJ2
namespace Go.Proofs.YtechkdhehipliaaGreatDoor.OpenE
set_option maxRecDepth 100000
open Go Go.Deep Go.ChangeShapes Go.WideShapes Go.ChangeAt Go.RowKit IdM Byt IdW OpsM OpsW CmM StW CmW

/-- An event that came in: two numbers of 64 bits. -/
structure GoodE (e : Ev) : Prop where
 node : I64 e.node
 seq : I64 e.seq
section
variable {H : Type} {enc : TypeId × Value → H} {W : World}
theorem open_event {base : Nat} {v : Value} {d : DataW H} {p : List MemPlace}
  (hval : Value.okWide Tryz.prog W .any base 34 v) (h : DataW.Trod enc Tryz.prog W 0 (fun _ => true) true 34 v d p) : ∃ e : Ev, v = .agg (ec e) ∧ GoodE e := by
 obtain ⟨cs, rfl, hsz⟩ := okWide_struct Tryz.underlying34 hval
 obtain ⟨fuel, hf⟩ := h
 obtain ⟨m, k, hx, h0, h1⟩ := OpenK.read_ev Tryz.underlying34 (by kernel_rfl) rfl rfl (by kernel_rfl) (by kernel_rfl) Tryz.underlying3 Tryz.underlying3 fuel _ _ hf
 refine ⟨⟨m, k⟩, ?_, ⟨h0, h1⟩⟩
 have hx2 : cs.toList = [.int .i64 m, .int .i64 k] := by simpa [Value.cells] using hx
 have : cs.toList = (ec ⟨m, k⟩).toList := hx2
 rw [show cs = ec ⟨m, k⟩ from Array.toList_inj.1 this]
end
end Go.Proofs.YtechkdhehipliaaGreatDoor.OpenE
namespace Go.Proofs.YtechkdhehipliaaGreatDoor.FrW
set_option maxRecDepth 100000
open Go Go.Sort Go.RowKit Byt IdM IdW OpsM OpsW CmM StW CmW CmX CmY CmA DgM DgW DgR DgF DgG FrM FrN FrJ FrH FrU FrY OpenE
open Classical

set_option maxRecDepth 100000 in
set_option maxHeartbeats 32000000 in
theorem walk (F : Five) (HA : AwakeRet) (a0 : Option Addr) (cap0 : Nat) (l0 : List Cv) (a1 : Option Addr) (cap1 : Nat) (l1 : List Idn) (a2 : Option Addr) (cap2 : Nat) (l2 : List Idn) (ev : Ev) (o : Opn) (w : World) (S : SlK w a0 cap0 l0) (T : SlI w a1 cap1 l1) (R : SlI w a2 cap2 l2) (ge : GoodE ev) (go : OpsC.Fit o) (K : ShaE.KIn w) :
  Calls Tryz.prog 5 #[.slice a0 l0.length cap0, .slice a1 l1.length cap1, .slice a2 l2.length cap2, .agg (ec ev), .agg (opc o)] w fun e w' => e = .returned (.bool true) ∧ Below w.heap.size w w' := by
 have hmax := S.len
 have hmaxa : l1.length ≤ 9223372036854775807 := by have := T.1; have := T.2.1; unfold maxLen at this; omega
 have hmaxb : l2.length ≤ 9223372036854775807 := by have := R.1; have := R.2.1; unfold maxLen at this; omega
 have hfk : (o.key.size : Int) ≤ 9223372036854775807 := by have := go.key; unfold maxLen at this; omega
 have hfe : (o.elem.size : Int) ≤ 9223372036854775807 := by have := go.elem; unfold maxLen at this; omega
 obtain ⟨E, O⟩ := W2_boxes w ev o
 have b := W2_below w ev o
 have S' := S.below b
 have T' := T.below b
 have R' := R.below b
 have K' := K.below b
 have GE := aside ge
 have GO := aside go
 clear S T R K ge go
 have S := S'
 have T := T'
 have R := R'
 have K := K'
 clear S' T' R' K'
 go_enter Tryz.func5, Tryz.ntmps5
 go_wp2_with (first | go_skip)
 refine (HA _ K).mono ?_
 rintro e wx ⟨rfl, kx⟩
 have S' := S.below kx
 have T' := T.below kx
 have R' := R.below kx
 have K' := K.below kx
 have E' := E.below kx
 have O' := O.below kx
 have b' := b.trans (kx.mono b.size)
 clear S T R K E O b kx
 have S := S'
 have T := T'
 have R := R'
 have K := K'
 have E := E'
 have O := O'
 have b := b'
 clear S' T' R' K' E' O' b'
 go_wp2_with (first | go_skip)
 obtain ⟨f, hf⟩ : ∃ f, fewD (coms l0) 10 = f := ⟨_, rfl⟩
 have qs := DgR.few_ret a0 cap0 l0 10 _ S
 rw [hf] at qs
 refine qs.mono ?_
 clear qs
 rintro e w2 ⟨rfl, kx⟩
 have S' := S.below kx
 have T' := T.below kx
 have R' := R.below kx
 have K' := K.below kx
 have E' := E.below kx
 have O' := O.below kx
 have b' := b.trans (kx.mono b.size)
 clear S T R K E O b kx
 have S := S'
 have T := T'
 have R := R'
 have K := K'
 have E := E'
 have O := O'
 have b := b'
 clear S' T' R' K' E' O' b'
 have ck : w2.cell? ⟨w.heap.size + 1, 1, none⟩ = some (.string o.key) := O.cell (j := 1) rfl
 have ce : w2.cell? ⟨w.heap.size + 1, 2, none⟩ = some (.string o.elem) := O.cell (j := 2) rfl
 cases f with
 | false =>
  go_wp2_with (first | go_skip)
  go_ret
  exact ⟨rfl, b⟩
 | true =>
  have hw : (20 : Int) < l1.length ∨ (¬ (20 : Int) < l1.length ∧ (20 : Int) < l2.length) ∨ (¬ (20 : Int) < l1.length ∧ ¬ (20 : Int) < l2.length ∧ (100 : Int) < o.key.size) ∨ (¬ (20 : Int) < l1.length ∧ ¬ (20 : Int) < l2.length ∧ ¬ (100 : Int) < o.key.size ∧ (100 : Int) < o.elem.size) ∨ (¬ (20 : Int) < l1.length ∧ ¬ (20 : Int) < l2.length ∧ ¬ (100 : Int) < o.key.size ∧ ¬ (100 : Int) < o.elem.size) := by omega
  rcases hw with p1 | ⟨p1, p2⟩ | ⟨p1, p2, p3⟩ | ⟨p1, p2, p3, p4⟩ | ⟨p1, p2, p3, p4⟩
  case inl =>
   go_wp2_with (first | go_skip)
   go_ret
   exact ⟨rfl, b⟩
  case inr.inl =>
   go_wp2_with (first | go_skip)
   go_ret
   exact ⟨rfl, b⟩
  case inr.inr.inl =>
   go_wp2_with (first | go_skip)
   go_ret
   exact ⟨rfl, b⟩
  case inr.inr.inr.inl =>
   go_wp2_with (first | go_skip)
   go_ret
   exact ⟨rfl, b⟩
  case inr.inr.inr.inr =>
   obtain ⟨ho, hl⟩ := okay_few (fun v hv => (S.each v hv).2) hf
   have hl2 : l0.length ≤ 1000 := by omega
   have hl1 : l0.length ≤ 100 := by omega
   have HO := aside ho
   clear ho hf
   have hk : CmR.Okay ⟨ev.node, ev.seq, 0, [], o⟩ := ⟨⟨GE.out.node, GE.out.seq, by show I64 0; unfold I64; decide, GO.out⟩, by show o.key.size ≤ _; omega, by show o.elem.size ≤ _; omega⟩
   have HK := aside hk
   have ha1 : l1.length ≤ 100 := by omega
   have ha2 : l2.length ≤ 100 := by omega
   clear hk hmaxa hmaxb hfk hfe
   have q1 := fun W S K => F.front a0 cap0 l0 W S HO.out hl1 K
   have q2 := fun W S => FrR.front_ret a0 cap0 l0 W S HO.out hl2
   unfold NewD at q1 q2
   have q3 := fun W S T R K => F.base a0 a1 a2 cap0 cap1 cap2 l0 l1 l2 W S T R HO.out hl1 ha1 ha2 K
   have q4 := fun W S T R => FrR.base_ret a0 a1 a2 cap0 cap1 cap2 l0 l1 l2 W S T R HO.out hl1
   unfold NewD at q3 q4
   have q5 := fun W S T K => F.join a0 a1 cap0 cap1 l0 l1 W S T HO.out hl1 ha1 K
   have q6 := fun W S T => FrG.join_ret a0 a1 cap0 cap1 l0 l1 W S T HO.out hl1
   unfold FoundC at q5 q6
   have q7 := fun W S K => F.head a0 cap0 l0 W S HO.out hl1 K
   have q8 := fun W S => FrG.head_ret a0 cap0 l0 W S HO.out hl1
   unfold FoundC at q7 q8
   have q9 := fun W S K => F.next a0 cap0 l0 ev o W S HO.out hl1 HK.out K
   have qa := fun W S => FrO.next_ret a0 cap0 l0 ev o W S HO.out hl1 HK.out
   unfold FoundC at q9 qa
   generalize frontC (coms l0) = f1 at q1 q2
   generalize baseC (coms l0) l1 l2 = f2 at q3 q4
   generalize joinC (coms l0) l1 = r1 at q5 q6
   generalize headC (coms l0) = r2 at q7 q8
   generalize nextC (coms l0) ev o = r3 at q9 qa
   generalize r1.isSome = s1 at q5 q6
   generalize r2.isSome = s2 at q7 q8
   generalize r3.isSome = s3 at q9 qa
   generalize r1.getD noK = c1 at q5 q6
   generalize r2.getD noK = c2 at q7 q8
   generalize r3.getD noK = c3 at q9 qa
   go_wp2_with (first | go_skip)
   clear ck ce p1 p2 p3 p4 hl
   refine (q1 _ S K).mono ?_
   rintro e wx ⟨A1, c1', rfl, U, kx⟩
   have S' := S.below kx
   have T' := T.below kx
   have R' := R.below kx
   have K' := K.below kx
   have E' := E.below kx
   have O' := O.below kx
   have b' := b.trans (kx.mono b.size)
   clear S T R K E O b kx
   have S := S'
   have T := T'
   have R := R'
   have K := K'
   have E := E'
   have O := O'
   have b := b'
   clear S' T' R' K' E' O' b'
   go_wp2_with (first | go_skip)
   refine (q2 _ S).mono ?_
   rintro e wx ⟨A2, c2', rfl, V, kx⟩
   have S' := S.below kx
   have T' := T.below kx
   have R' := R.below kx
   have K' := K.below kx
   have E' := E.below kx
   have O' := O.below kx
   have U' := U.below kx
   have b' := b.trans (kx.mono b.size)
   clear S T R K E O U b kx
   have S := S'
   have T := T'
   have R := R'
   have K := K'
   have E := E'
   have O := O'
   have U := U'
   have b := b'
   clear S' T' R' K' E' O' U' b'
   have qs := IdV.same_ret A1 A2 c1' c2' _ _ _ U V
   rw [decide_eq_true rfl] at qs
   clear U V
   go_wp2_with (first | go_skip)
   refine qs.mono ?_
   clear qs
   rintro e wx ⟨rfl, kx⟩
   have S' := S.below kx
   have T' := T.below kx
   have R' := R.below kx
   have K' := K.below kx
   have E' := E.below kx
   have O' := O.below kx
   have b' := b.trans (kx.mono b.size)
   clear S T R K E O b kx
   have S := S'
   have T := T'
   have R := R'
   have K := K'
   have E := E'
   have O := O'
   have b := b'
   clear S' T' R' K' E' O' b'
   clear q1 q2
   go_wp2_with (first | go_skip)
   refine (q3 _ S T R K).mono ?_
   rintro e wx ⟨A1, c1', rfl, U, kx⟩
   have S' := S.below kx
   have T' := T.below kx
   have R' := R.below kx
   have K' := K.below kx
   have E' := E.below kx
   have O' := O.below kx
   have b' := b.trans (kx.mono b.size)
   clear S T R K E O b kx
   have S := S'
   have T := T'
   have R := R'
   have K := K'
   have E := E'
   have O := O'
   have b := b'
   clear S' T' R' K' E' O' b'
   go_wp2_with (first | go_skip)
   refine (q4 _ S T R).mono ?_
   rintro e wx ⟨A2, c2', rfl, V, kx⟩
   have S' := S.below kx
   have T' := T.below kx
   have R' := R.below kx
   have K' := K.below kx
   have E' := E.below kx
   have O' := O.below kx
   have U' := U.below kx
   have b' := b.trans (kx.mono b.size)
   clear S T R K E O U b kx
   have S := S'
   have T := T'
   have R := R'
   have K := K'
   have E := E'
   have O := O'
   have U := U'
   have b := b'
   clear S' T' R' K' E' O' U' b'
   have qs := IdV.same_ret A1 A2 c1' c2' _ _ _ U V
   rw [decide_eq_true rfl] at qs
   clear U V
   go_wp2_with (first | go_skip)
   refine qs.mono ?_
   clear qs
   rintro e wx ⟨rfl, kx⟩
   have S' := S.below kx
   have T' := T.below kx
   have R' := R.below kx
   have K' := K.below kx
   have E' := E.below kx
   have O' := O.below kx
   have b' := b.trans (kx.mono b.size)
   clear S T R K E O b kx
   have S := S'
   have T := T'
   have R := R'
   have K := K'
   have E := E'
   have O := O'
   have b := b'
   clear S' T' R' K' E' O' b'
   clear q3 q4
   go_wp2_with (first | go_skip)
   refine (q5 _ S T K).mono ?_
   rintro e wx ⟨v1, rfl, hv1, I1, _, kx⟩
   clear q5
   have S' := S.below kx
   have T' := T.below kx
   have R' := R.below kx
   have K' := K.below kx
   have E' := E.below kx
   have O' := O.below kx
   have b' := b.trans (kx.mono b.size)
   clear S T R K E O b kx
   have S := S'
   have T := T'
   have R := R'
   have K := K'
   have E := E'
   have O := O'
   have b := b'
   clear S' T' R' K' E' O' b'
   go_wp2_with (first | go_skip | (refine Cel.wpList_store_new CE rfl _ _ rfl wx _ _ rfl v1 _ rfl rfl rfl rfl ?_; intro wy CB1 ky g4 s4; have EY := E.below ky; have OY := O.below ky; clear g4 s4))
   clear EY OY
   have S' := S.below ky
   have T' := T.below ky
   have R' := R.below ky
   have K' := K.below ky
   have E' := E.below ky
   have O' := O.below ky
   have I1' := I1.below ky
   have b' := b.trans (ky.mono b.size)
   clear S T R K E O I1 b ky
   have S := S'
   have T := T'
   have R := R'
   have K := K'
   have E := E'
   have O := O'
   have I1 := I1'
   have b := b'
   clear S' T' R' K' E' O' I1' b'
   refine (q6 _ S T).mono ?_
   rintro e wx ⟨v2, rfl, hv2, I2, _, kx⟩
   clear q6
   have S' := S.below kx
   have T' := T.below kx
   have R' := R.below kx
   have K' := K.below kx
   have E' := E.below kx
   have O' := O.below kx
   have I1' := I1.below kx
   have CB1' := CB1.below kx
   have b' := b.trans (kx.mono b.size)
   clear S T R K E O I1 CB1 b kx
   have S := S'
   have T := T'
   have R := R'
   have K := K'
   have E := E'
   have O := O'
   have I1 := I1'
   have CB1 := CB1'
   have b := b'
   clear S' T' R' K' E' O' I1' CB1' b'
   go_wp2_with (first | go_skip | (refine Cel.wpList_store_new CE rfl _ _ rfl wx _ _ rfl v2 _ rfl rfl rfl rfl ?_; intro wy CB2 ky g4 s4; have EY := E.below ky; have OY := O.below ky; clear g4 s4))
   clear EY OY
   have S' := S.below ky
   have T' := T.below ky
   have R' := R.below ky
   have K' := K.below ky
   have E' := E.below ky
   have O' := O.below ky
   have I1' := I1.below ky
   have CB1' := CB1.below ky
   have I2' := I2.below ky
   have b' := b.trans (ky.mono b.size)
   clear S T R K E O I1 CB1 I2 b ky
   have S := S'
   have T := T'
   have R := R'
   have K := K'
   have E := E'
   have O := O'
   have I1 := I1'
   have CB1 := CB1'
   have I2 := I2'
   have b := b'
   clear S' T' R' K' E' O' I1' CB1' I2' b'
   refine (q7 _ S K).mono ?_
   rintro e wx ⟨v3, rfl, hv3, I3, _, kx⟩
   clear q7
   have S' := S.below kx
   have T' := T.below kx
   have R' := R.below kx
   have K' := K.below kx
   have E' := E.below kx
   have O' := O.below kx
   have I1' := I1.below kx
   have CB1' := CB1.below kx
   have I2' := I2.below kx
   have CB2' := CB2.below kx
   have b' := b.trans (kx.mono b.size)
   clear S T R K E O I1 CB1 I2 CB2 b kx
   have S := S'
   have T := T'
   have R := R'
   have K := K'
   have E := E'
   have O := O'
   have I1 := I1'
   have CB1 := CB1'
   have I2 := I2'
   have CB2 := CB2'
   have b := b'
   clear S' T' R' K' E' O' I1' CB1' I2' CB2' b'
   go_wp2_with (first | go_skip | (refine Cel.wpList_store_new CE rfl _ _ rfl wx _ _ rfl v3 _ rfl rfl rfl rfl ?_; intro wy CB3 ky g4 s4; have EY := E.below ky; have OY := O.below ky; clear g4 s4))
   clear EY OY
   have S' := S.below ky
   have T' := T.below ky
   have R' := R.below ky
   have K' := K.below ky
   have E' := E.below ky
   have O' := O.below ky
   have I1' := I1.below ky
   have CB1' := CB1.below ky
   have I2' := I2.below ky
   have CB2' := CB2.below ky
   have I3' := I3.below ky
   have b' := b.trans (ky.mono b.size)
   clear S T R K E O I1 CB1 I2 CB2 I3 b ky
   have S := S'
   have T := T'
   have R := R'
   have K := K'
   have E := E'
   have O := O'
   have I1 := I1'
   have CB1 := CB1'
   have I2 := I2'
   have CB2 := CB2'
   have I3 := I3'
   have b := b'
   clear S' T' R' K' E' O' I1' CB1' I2' CB2' I3' b'
   refine (q8 _ S).mono ?_
   rintro e wx ⟨v4, rfl, hv4, I4, _, kx⟩
   clear q8
   have S' := S.below kx
   have T' := T.below kx
   have R' := R.below kx
   have K' := K.below kx
   have E' := E.below kx
   have O' := O.below kx
   have I1' := I1.below kx
   have CB1' := CB1.below kx
   have I2' := I2.below kx
   have CB2' := CB2.below kx
   have I3' := I3.below kx
   have CB3' := CB3.below kx
   have b' := b.trans (kx.mono b.size)
   clear S T R K E O I1 CB1 I2 CB2 I3 CB3 b kx
   have S := S'
   have T := T'
   have R := R'
   have K := K'
   have E := E'
   have O := O'
   have I1 := I1'
   have CB1 := CB1'
   have I2 := I2'
   have CB2 := CB2'
   have I3 := I3'
   have CB3 := CB3'
   have b := b'
   clear S' T' R' K' E' O' I1' CB1' I2' CB2' I3' CB3' b'
   go_wp2_with (first | go_skip | (refine Cel.wpList_store_new CE rfl _ _ rfl wx _ _ rfl v4 _ rfl rfl rfl rfl ?_; intro wy CB4 ky g4 s4; have EY := E.below ky; have OY := O.below ky; clear g4 s4) | (refine Cel.wpList_load_box EE rfl _ rfl _ rfl ev EY ?_) | (refine Cel.wpList_load_box OE rfl _ rfl _ rfl o OY ?_))
   clear EY OY
   have S' := S.below ky
   have T' := T.below ky
   have R' := R.below ky
   have K' := K.below ky
   have E' := E.below ky
   have O' := O.below ky
   have I1' := I1.below ky
   have CB1' := CB1.below ky
   have I2' := I2.below ky
   have CB2' := CB2.below ky
   have I3' := I3.below ky
   have CB3' := CB3.below ky
   have I4' := I4.below ky
   have b' := b.trans (ky.mono b.size)
   clear S T R K E O I1 CB1 I2 CB2 I3 CB3 I4 b ky
   have S := S'
   have T := T'
   have R := R'
   have K := K'
   have E := E'
   have O := O'
   have I1 := I1'
   have CB1 := CB1'
   have I2 := I2'
   have CB2 := CB2'
   have I3 := I3'
   have CB3 := CB3'
   have I4 := I4'
   have b := b'
   clear S' T' R' K' E' O' I1' CB1' I2' CB2' I3' CB3' I4' b'
   refine (q9 _ S K).mono ?_
   rintro e wx ⟨v5, rfl, hv5, I5, _, kx⟩
   clear q9
   have S' := S.below kx
   have T' := T.below kx
   have R' := R.below kx
   have K' := K.below kx
   have E' := E.below kx
   have O' := O.below kx
   have I1' := I1.below kx
   have CB1' := CB1.below kx
   have I2' := I2.below kx
   have CB2' := CB2.below kx
   have I3' := I3.below kx
   have CB3' := CB3.below kx
   have I4' := I4.below kx
   have CB4' := CB4.below kx
   have b' := b.trans (kx.mono b.size)
   clear S T R K E O I1 CB1 I2 CB2 I3 CB3 I4 CB4 b kx
   have S := S'
   have T := T'
   have R := R'
   have K := K'
   have E := E'
   have O := O'
   have I1 := I1'
   have CB1 := CB1'
   have I2 := I2'
   have CB2 := CB2'
   have I3 := I3'
   have CB3 := CB3'
   have I4 := I4'
   have CB4 := CB4'
   have b := b'
   clear S' T' R' K' E' O' I1' CB1' I2' CB2' I3' CB3' I4' CB4' b'
   go_wp2_with (first | go_skip | (refine Cel.wpList_store_new CE rfl _ _ rfl wx _ _ rfl v5 _ rfl rfl rfl rfl ?_; intro wy CB5 ky g4 s4; have EY := E.below ky; have OY := O.below ky; clear g4 s4) | (refine Cel.wpList_load_box EE rfl _ rfl _ rfl ev EY ?_) | (refine Cel.wpList_load_box OE rfl _ rfl _ rfl o OY ?_))
   clear EY OY
   have S' := S.below ky
   have T' := T.below ky
   have R' := R.below ky
   have K' := K.below ky
   have E' := E.below ky
   have O' := O.below ky
   have I1' := I1.below ky
   have CB1' := CB1.below ky
   have I2' := I2.below ky
   have CB2' := CB2.below ky
   have I3' := I3.below ky
   have CB3' := CB3.below ky
   have I4' := I4.below ky
   have CB4' := CB4.below ky
   have I5' := I5.below ky
   have b' := b.trans (ky.mono b.size)
   clear S T R K E O I1 CB1 I2 CB2 I3 CB3 I4 CB4 I5 b ky
   have S := S'
   have T := T'
   have R := R'
   have K := K'
   have E := E'
   have O := O'
   have I1 := I1'
   have CB1 := CB1'
   have I2 := I2'
   have CB2 := CB2'
   have I3 := I3'
   have CB3 := CB3'
   have I4 := I4'
   have CB4 := CB4'
   have I5 := I5'
   have b := b'
   clear S' T' R' K' E' O' I1' CB1' I2' CB2' I3' CB3' I4' CB4' I5' b'
   refine (qa _ S).mono ?_
   rintro e wx ⟨v6, rfl, hv6, I6, _, kx⟩
   clear qa
   have S' := S.below kx
   have T' := T.below kx
   have R' := R.below kx
   have K' := K.below kx
   have E' := E.below kx
   have O' := O.below kx
   have I1' := I1.below kx
   have CB1' := CB1.below kx
   have I2' := I2.below kx
   have CB2' := CB2.below kx
   have I3' := I3.below kx
   have CB3' := CB3.below kx
   have I4' := I4.below kx
   have CB4' := CB4.below kx
   have I5' := I5.below kx
   have CB5' := CB5.below kx
   have b' := b.trans (kx.mono b.size)
   clear S T R K E O I1 CB1 I2 CB2 I3 CB3 I4 CB4 I5 CB5 b kx
   have S := S'
   have T := T'
   have R := R'
   have K := K'
   have E := E'
   have O := O'
   have I1 := I1'
   have CB1 := CB1'
   have I2 := I2'
   have CB2 := CB2'
   have I3 := I3'
   have CB3 := CB3'
   have I4 := I4'
   have CB4 := CB4'
   have I5 := I5'
   have CB5 := CB5'
   have b := b'
   clear S' T' R' K' E' O' I1' CB1' I2' CB2' I3' CB3' I4' CB4' I5' CB5' b'
   have sm1 : CmR.sameK v1.c v2.c = true := CmR.sameK_iff.2 (hv1.trans hv2.symm)
   have sm2 : CmR.sameK v3.c v4.c = true := CmR.sameK_iff.2 (hv3.trans hv4.symm)
   have sm3 : CmR.sameK v5.c v6.c = true := CmR.sameK_iff.2 (hv5.trans hv6.symm)
   have SM1 := aside sm1
   have SM2 := aside sm2
   have SM3 := aside sm3
   clear sm1 sm2 sm3 hv1 hv2 hv3 hv4 hv5 hv6
   go_wp2_with (first | go_skip | (refine Cel.wpList_store_new CE rfl _ _ rfl wx _ _ rfl v6 _ rfl rfl rfl rfl ?_; intro wy CB6 ky g4 s4; have CY1 := CB1.below ky; have CY2 := CB2.below ky; clear g4 s4) | (refine Cel.wpList_load_box CE rfl _ rfl _ rfl v1 CY1 ?_) | (refine Cel.wpList_load_box CE rfl _ rfl _ rfl v2 CY2 ?_))
   clear CY1 CY2
   have S' := S.below ky
   have T' := T.below ky
   have R' := R.below ky
   have K' := K.below ky
   have E' := E.below ky
   have O' := O.below ky
   have I1' := I1.below ky
   have CB1' := CB1.below ky
   have I2' := I2.below ky
   have CB2' := CB2.below ky
   have I3' := I3.below ky
   have CB3' := CB3.below ky
   have I4' := I4.below ky
   have CB4' := CB4.below ky
   have I5' := I5.below ky
   have CB5' := CB5.below ky
   have I6' := I6.below ky
   have b' := b.trans (ky.mono b.size)
   clear S T R K E O I1 CB1 I2 CB2 I3 CB3 I4 CB4 I5 CB5 I6 b ky
   have S := S'
   have T := T'
   have R := R'
   have K := K'
   have E := E'
   have O := O'
   have I1 := I1'
   have CB1 := CB1'
   have I2 := I2'
   have CB2 := CB2'
   have I3 := I3'
   have CB3 := CB3'
   have I4 := I4'
   have CB4 := CB4'
   have I5 := I5'
   have CB5 := CB5'
   have I6 := I6'
   have b := b'
   clear S' T' R' K' E' O' I1' CB1' I2' CB2' I3' CB3' I4' CB4' I5' CB5' I6' b'
   have qs := CmR.same_ret v1 v2 _ I1 I2
   rw [SM1.out] at qs
   refine qs.mono ?_
   clear qs
   rintro e wx ⟨rfl, kx⟩
   have S' := S.below kx
   have T' := T.below kx
   have R' := R.below kx
   have K' := K.below kx
   have E' := E.below kx
   have O' := O.below kx
   have I1' := I1.below kx
   have CB1' := CB1.below kx
   have I2' := I2.below kx
   have CB2' := CB2.below kx
   have I3' := I3.below kx
   have CB3' := CB3.below kx
   have I4' := I4.below kx
   have CB4' := CB4.below kx
   have I5' := I5.below kx
   have CB5' := CB5.below kx
   have I6' := I6.below kx
   have CB6' := CB6.below kx
   have b' := b.trans (kx.mono b.size)
   clear S T R K E O I1 CB1 I2 CB2 I3 CB3 I4 CB4 I5 CB5 I6 CB6 b kx
   have S := S'
   have T := T'
   have R := R'
   have K := K'
   have E := E'
   have O := O'
   have I1 := I1'
   have CB1 := CB1'
   have I2 := I2'
   have CB2 := CB2'
   have I3 := I3'
   have CB3 := CB3'
   have I4 := I4'
   have CB4 := CB4'
   have I5 := I5'
   have CB5 := CB5'
   have I6 := I6'
   have CB6 := CB6'
   have b := b'
   clear S' T' R' K' E' O' I1' CB1' I2' CB2' I3' CB3' I4' CB4' I5' CB5' I6' CB6' b'
   go_wp2_with (first | go_skip | (refine Cel.wpList_load_box CE rfl _ rfl _ rfl v3 CB3 ?_) | (refine Cel.wpList_load_box CE rfl _ rfl _ rfl v4 CB4 ?_))
   have qs := CmR.same_ret v3 v4 _ I3 I4
   rw [SM2.out] at qs
   refine qs.mono ?_
   clear qs
   rintro e wx ⟨rfl, kx⟩
   have S' := S.below kx
   have T' := T.below kx
   have R' := R.below kx
   have K' := K.below kx
   have E' := E.below kx
   have O' := O.below kx
   have I1' := I1.below kx
   have CB1' := CB1.below kx
   have I2' := I2.below kx
   have CB2' := CB2.below kx
   have I3' := I3.below kx
   have CB3' := CB3.below kx
   have I4' := I4.below kx
   have CB4' := CB4.below kx
   have I5' := I5.below kx
   have CB5' := CB5.below kx
   have I6' := I6.below kx
   have CB6' := CB6.below kx
   have b' := b.trans (kx.mono b.size)
   clear S T R K E O I1 CB1 I2 CB2 I3 CB3 I4 CB4 I5 CB5 I6 CB6 b kx
   have S := S'
   have T := T'
   have R := R'
   have K := K'
   have E := E'
   have O := O'
   have I1 := I1'
   have CB1 := CB1'
   have I2 := I2'
   have CB2 := CB2'
   have I3 := I3'
   have CB3 := CB3'
   have I4 := I4'
   have CB4 := CB4'
   have I5 := I5'
   have CB5 := CB5'
   have I6 := I6'
   have CB6 := CB6'
   have b := b'
   clear S' T' R' K' E' O' I1' CB1' I2' CB2' I3' CB3' I4' CB4' I5' CB5' I6' CB6' b'
   go_wp2_with (first | go_skip | (refine Cel.wpList_load_box CE rfl _ rfl _ rfl v5 CB5 ?_) | (refine Cel.wpList_load_box CE rfl _ rfl _ rfl v6 CB6 ?_))
   have qs := CmR.same_ret v5 v6 _ I5 I6
   rw [SM3.out] at qs
   refine qs.mono ?_
   clear qs
   rintro e wx ⟨rfl, kx⟩
   have S' := S.below kx
   have T' := T.below kx
   have R' := R.below kx
   have K' := K.below kx
   have E' := E.below kx
   have O' := O.below kx
   have I1' := I1.below kx
   have CB1' := CB1.below kx
   have I2' := I2.below kx
   have CB2' := CB2.below kx
   have I3' := I3.below kx
   have CB3' := CB3.below kx
   have I4' := I4.below kx
   have CB4' := CB4.below kx
   have I5' := I5.below kx
   have CB5' := CB5.below kx
   have I6' := I6.below kx
   have CB6' := CB6.below kx
   have b' := b.trans (kx.mono b.size)
   clear S T R K E O I1 CB1 I2 CB2 I3 CB3 I4 CB4 I5 CB5 I6 CB6 b kx
   have S := S'
   have T := T'
   have R := R'
   have K := K'
   have E := E'
   have O := O'
   have I1 := I1'
   have CB1 := CB1'
   have I2 := I2'
   have CB2 := CB2'
   have I3 := I3'
   have CB3 := CB3'
   have I4 := I4'
   have CB4 := CB4'
   have I5 := I5'
   have CB5 := CB5'
   have I6 := I6'
   have CB6 := CB6'
   have b := b'
   clear S' T' R' K' E' O' I1' CB1' I2' CB2' I3' CB3' I4' CB4' I5' CB5' I6' CB6' b'
   clear S T R K E O I1 CB1 I2 CB2 I3 CB3 I4 CB4 I5 CB5 I6 CB6
   cases s1 <;> cases s2 <;> cases s3
   all_goals (go_wp2_with (first | go_skip))
   all_goals go_ret
   all_goals exact ⟨rfl, b⟩
end Go.Proofs.YtechkdhehipliaaGreatDoor.FrW
