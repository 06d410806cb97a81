/- What the document's Sorted of package dag returns: a contract. -/
import Derived.Test.YtechkdhehipliaaGreatDoorDgFJ2
namespace Go.Proofs.YtechkdhehipliaaGreatDoor.DgS
set_option maxRecDepth 100000
open Go Go.Sort Go.RowKit Byt IdM IdC IdV IdW OpsM OpsW CmM StW CmW CmX CmY DgM DgN DgP DgW DgT DgR DgK DgO DgC DgF DgI
open Classical

def IsSorted (l m : List Com) : Prop := if Closed hashK l then InOrder hashK m ∧ ∀ z, z ∈ m ↔ z ∈ l else m = []
theorem isSorted_uniq {l r s : List Com} (h : IsSorted l r) (k : IsSorted l s) : r = s := by
  unfold IsSorted at h k
  by_cases C : Closed hashK l
  · rw [if_pos C] at h k
    exact order_uniq h.1 k.1 fun x => (h.2 x).trans (k.2 x).symm
  · rw [if_neg C] at h k
    rw [h, k]
theorem ahead_trans {H : Com → Idn} {a b c : Com} (h : Ahead H a b) (k : Ahead H b c) : Ahead H a c := by
  rcases h with h | ⟨h, h'⟩ <;> rcases k with k | ⟨k, k'⟩
  · exact .inl (by omega)
  · exact .inl (by omega)
  · exact .inl (by omega)
  · exact .inr ⟨by omega, less_trans h' k'⟩
def atN (l : List Cv) (j : Nat) : Cv := l.getD j noV
def Rn (l : List Cv) (i j : Nat) : Prop := Ahead hashK (atN l i).c (atN l j).c
theorem atN_of {l : List Cv} {j : Nat} {x : Cv} (h : l[j]? = some x) : atN l j = x := by
  unfold atN
  rw [List.getD_eq_getElem?_getD, h]
  rfl
theorem rn_trans (l : List Cv) : ∀ a b c, Rn l a b → Rn l b c → Rn l a c := fun _ _ _ h k => ahead_trans h k
theorem sorted_of {l : List Cv} {ord : List Nat} (C : Closed hashK (coms l)) (h1 : ord.Pairwise (Rn l)) (h2 : ∀ z, z ∈ ord ↔ z < l.length) : IsSorted (coms l) (coms (ord.map (atN l))) := by
  unfold IsSorted
  rw [if_pos C]
  constructor
  · unfold InOrder coms
    rw [List.map_map, List.pairwise_map]
    exact h1
  · intro z
    unfold coms
    rw [List.map_map, List.mem_map, List.mem_map]
    constructor
    · rintro ⟨j, hj, rfl⟩
      have hlt := (h2 j).1 hj
      exact ⟨l[j], List.getElem_mem hlt, by rw [Function.comp_apply, atN_of (List.getElem?_eq_getElem hlt)]⟩
    · rintro ⟨x, hx, rfl⟩
      obtain ⟨j, hj⟩ := List.mem_iff_getElem?.1 hx
      exact ⟨j, (h2 j).2 (List.getElem?_eq_some_iff.1 hj).1, by rw [Function.comp_apply, atN_of hj]⟩
set_option maxRecDepth 100000 in
set_option maxHeartbeats 32000000 in
theorem sorted_ret (A : Option Addr) (cap : Nat) (l : List Cv) (w : World) (S : SlK w A cap l) (ho : ∀ v ∈ l, CmR.Okay v.c) (hl : l.length ≤ 1000) :
    Calls Tryz.prog 24 #[.slice A l.length cap] w fun e w' => ∃ m, IsSorted (coms l) m ∧ NewC m w e w' := by
  have hmax := S.len
  have hcl := closed_ret A cap l w S ho hl
  unfold NewC
  by_cases hC : Closed hashK (coms l)
  · rw [decide_eq_true hC] at hcl
    have hall := closed_may hC
    have hids := fun W (T : SlK W A cap l) => ids_ret A cap l W T ho hl
    unfold NewD at hids
    rw [idsD_all hall] at hids
    obtain ⟨all, hal⟩ : ∃ all, (coms l).map hashK = all := ⟨_, rfl⟩
    have hallen : all.length = l.length := by rw [← hal, List.length_map, coms_len]
    have HAT : Hid (∀ (i : Nat) (x : Cv), l[i]? = some x → all[i]? = some (hashK x.c)) := aside (fun i x hx => by rw [← hal, List.getElem?_map, coms_at hx]; rfl)
    have HND : Hid all.Nodup := aside (by rw [← hal]; exact hC.nodup)
    have HF := aside (fun ord => sorted_of (l := l) (ord := ord) hC)
    rw [hal, hallen] at hids
    have HALL := aside hallen
    clear hC hall hal ho hallen
    go_enter Tryz.func24, Tryz.ntmps24
    go_wp2_with (first | go_skip)
    refine hcl.mono ?_
    rintro e w1 ⟨rfl, k1⟩
    clear hcl
    go_wp2_with (first | go_skip)
    refine (hids _ (S.below k1)).mono ?_
    rintro e w2 ⟨A1, c1, rfl, T1, k2⟩
    have b2 := k1.trans (k2.mono k1.size)
    have HS0 := aside (S.below b2)
    have HT1 := aside T1
    clear hids S T1 k1 k2
    go_wp2_with (first | go_skip)
    go_loopw [5, 6] (fun o i wr => ∃ (ord : List Nat), ord.length ≤ l.length ∧ i = .int .i64 ord.length ∧ Hid (wr.ownsRow w2.heap.size 3 1 o ord.length (nv ord)) ∧ Hid (ord.Pairwise (Rn l)) ∧ Hid (∀ z, z ∈ ord ↔ z < ord.length) ∧ Below w2.heap.size w2 wr) (fun _ i _ => l.length - (intOf i).toNat)
    case atStart => exact ⟨[], Nat.zero_le _, rfl, aside (DgI.nil_own _ _), aside List.Pairwise.nil, aside (fun z => by simp), Below.refl _ _⟩
    case round =>
      obtain ⟨ord, hk, rfl, HO, HPW, HMM, kb⟩ := hrel
      rename World => wo
      obtain ⟨A3, c3, rfl, S3'⟩ := SlN.own HO.out
      have S3 := aside S3'
      clear HO S3'
      by_cases hlt : ord.length < l.length
      · obtain ⟨b, off, rfl, hbw, hrg⟩ := HS0.out.plain (by omega)
        have HRG := aside hrg
        obtain ⟨a1, o1, rfl, hb1, hr1⟩ := SlI.plain HT1.out (by rw [HALL.out]; omega)
        have HR1 := aside hr1
        obtain ⟨x, hx⟩ : ∃ x, l[ord.length]? = some x := ⟨_, List.getElem?_eq_getElem hlt⟩
        have HX := aside hx
        obtain ⟨hi, hhi⟩ : ∃ h, hashK x.c = h := ⟨_, rfl⟩
        have HHI := aside hhi
        have p0 : (ord.length : Int) < l.length := by omega
        have m0 : ((ord.length : Int)).toNat = ord.length := by omega
        clear hrg hr1 hx hhi
        go_wp2_with (first | go_skip)
        go_loopw [7] (fun a W => ∃ m : Nat, m ≤ ord.length ∧ a = .int .i64 m ∧ Hid (∀ j y, m ≤ j → ord[j]? = some y → Rn l ord.length y) ∧ Below wo.heap.size wo W) (fun a _ => (intOf a).toNat)
        case atStart => exact ⟨ord.length, Nat.le_refl _, rfl, aside (fun j y h1 h2 => absurd (List.getElem?_eq_some_iff.1 h2).1 (by omega)), Below.refl _ _⟩
        case round =>
          obtain ⟨m, hm, rfl, HGE, hwW⟩ := hrel
          by_cases hm0 : m = 0
          · have g0 : ¬ (0 < (m : Int)) := by omega
            have HP2 := aside (put_pw (rn_trans l) HPW.out hm HGE.out (.inl hm0))
            clear hm0
            have kW := kb.trans (hwW.mono kb.size)
            have Sw := S3.out.below hwW
            obtain ⟨pA, pc, ep, Sp, lp⟩ := SlN.part Sw 0 m (Nat.zero_le _) hm
            obtain ⟨qA, qc, eq', Sq, lq⟩ := SlN.part Sw m ord.length hm (Nat.le_refl _)
            have hp1 : ∀ V, (Instr.sliceAt 81 (.slice A3 ord.length c3) none (some (.int .i64 m)) none).run Tryz.prog V = .ok (.slice pA m pc) V := fun V => by rw [DgI.run_part_h V _ ord.length c3 .i64 m (by have := S3.out.1; omega), ep, Nat.sub_zero]
            have hq1 : ∀ V, (Instr.sliceAt 81 (.slice A3 ord.length c3) (some (.int .i64 m)) none none).run Tryz.prog V = .ok (.slice qA (ord.length - m) qc) V := fun V => by rw [DgI.run_part_l V _ ord.length c3 .i64 m hm, eq']
            rw [Nat.sub_zero, List.drop_zero] at Sp lp
            have HS := aside (And.intro Sp Sq)
            clear ep eq' Sp Sq Sw
            go_wp2_with (first | go_skip | (refine append_ints rfl (.const (.slice none 0 0)) (.tmp 75) rfl wr.heap.size _ 0 [] rfl (DgI.nil_own _ _) _ _ _ (ord.take m) rfl lp HS.out.1 (by omega) (Nat.le_refl _) ?_; intro v5 w5 o5 g5; have k5 : Below wr.heap.size wr w5 := below_grown (Below.refl _ _) (Nat.le_refl _) g5 (fun k hk => by cases hk)) | (refine append_ints rfl (.tmp 77) (.tmp 79) rfl wr.heap.size _ _ _ rfl (o5.alloc _) _ 1 1 [ord.length] rfl rfl (SlN.new1 _ _ _) (by omega) (by have := k5.size; simp; omega) ?_; intro v6 w6 o6 g6; have k6 : Below wr.heap.size wr w6 := below_grown (k5.alloc k5.size _) (by have := k5.size; simp; omega) g6 (fun k hk => (o5.lt k hk).1)) | (refine append_ints rfl (.tmp 81) (.tmp 84) rfl wr.heap.size _ _ _ rfl o6 _ _ _ _ rfl lq (HS.out.2.below k6) (by omega) k6.size ?_; intro v7 w7 o7 g7; have k7 : Below wr.heap.size wr w7 := below_grown k6 k6.size g7 (fun k hk => (o6.lt k hk).1)))
            go_roundw
            case rel =>
              have elen : 0 + m + 1 + (ord.length - m) = (ord.take m ++ [ord.length] ++ ord.drop m).length := by rw [put_len hm]; omega
              have edrop : (ord.drop m).take (ord.length - m) = ord.drop m := List.take_of_length_le (by simp)
              rw [elen, edrop, List.nil_append] at o7
              exact ⟨ord.take m ++ [ord.length] ++ ord.drop m, by rw [put_len hm]; omega, by rw [put_len hm]; go_num, aside (owns_less o7 kW.size), HP2, aside (fun z => by rw [put_mem, HMM.out z, put_len hm]; omega), kW.trans (k7.mono kW.size)⟩
            case measure => simp [intOf]; omega
          · have kc := kb.trans (hwW.mono kb.size)
            obtain ⟨b3, off3, rfl, hb3, hr3⟩ := (S3.out.below hwW).plain (by omega)
            obtain ⟨y, hy⟩ : ∃ y, ord[m - 1]? = some y := ⟨_, List.getElem?_eq_getElem (by omega)⟩
            have cy := hr3 (m - 1) y hy
            have hyl : y < ord.length := (HMM.out y).1 (List.mem_of_getElem? hy)
            obtain ⟨yv, hyv⟩ : ∃ v, l[y]? = some v := ⟨_, List.getElem?_eq_getElem (by omega)⟩
            obtain ⟨hj, hhj⟩ : ∃ h, hashK yv.c = h := ⟨_, rfl⟩
            have ra := IdW.range_below (HR1.out ord.length (by rw [HALL.out]; exact hlt)) kc
            rw [show all.getD ord.length nought = hi by rw [List.getD_eq_getElem?_getD, HAT.out _ _ HX.out, HHI.out]; rfl] at ra
            have rb := IdW.range_below (HR1.out y (by rw [HALL.out]; omega)) kc
            rw [show all.getD y nought = hj by rw [List.getD_eq_getElem?_getD, HAT.out _ _ hyv, hhj]; rfl] at rb
            have dx := cell_gen_at (range_on (HRG.out ord.length x HX.out) kc)
            have dy := cell_gen_at (range_on (HRG.out y yv hyv) kc)
            obtain ⟨gx, hgx⟩ : ∃ g, x.c.gen = g := ⟨_, rfl⟩
            obtain ⟨gy, hgy⟩ : ∃ g, yv.c.gen = g := ⟨_, rfl⟩
            rw [hgx] at dx
            rw [hgy] at dy
            obtain ⟨u, hu⟩ : ∃ u, less hi hj = u := ⟨_, rfl⟩
            have HBF : Hid (gy < gx ∨ gy = gx ∧ u = false → Rn l y ord.length) := aside (by
              unfold Rn Ahead
              rw [atN_of hyv, atN_of HX.out, HHI.out, hhj, hgx, hgy]
              rintro (h | ⟨h, h'⟩)
              · exact .inl h
              · refine .inr ⟨h, less_of_ne (hu.trans h') fun e => ?_⟩
                have e1 := HAT.out _ _ HX.out
                have e2 := HAT.out _ _ hyv
                rw [HHI.out, e] at e1
                rw [hhj] at e2
                obtain ⟨i1, q1⟩ := List.getElem?_eq_some_iff.1 e1
                obtain ⟨i2, q2⟩ := List.getElem?_eq_some_iff.1 e2
                have := (List.getElem_inj HND.out).1 (q1.trans q2.symm)
                omega)
            have HAF : Hid (gx < gy ∨ gx = gy ∧ u = true → Rn l ord.length y) := aside (by
              unfold Rn Ahead
              rw [atN_of hyv, atN_of HX.out, HHI.out, hhj, hgx, hgy]
              rintro (h | ⟨h, h'⟩)
              · exact .inl h
              · exact .inr ⟨h, hu.trans h'⟩)
            have HY := aside hy
            have HU := aside hu
            have g0 : 0 < (m : Int) := by omega
            have q0 : 0 ≤ (m : Int) - 1 := by omega
            have p1 : (m : Int) - 1 < ord.length := by omega
            have m1 : ((m : Int) - 1).toNat = m - 1 := by omega
            have py : (y : Int) < l.length := by omega
            have my : ((y : Int)).toNat = y := by omega
            clear hr3 hy hyv hhj hgx hgy hu kc hm0
            go_wp2_with (first | go_skip)
            refine Grow.region [(0, true), (1, true), (2, true), (3, true), (4, true), (5, true), (6, true), (7, true), (8, false), (9, true)] (by kernel_rfl) (by kernel_rfl) rfl (by kernel_rfl) (by intro c a d v w h; cases d <;> exact h) ?_
            have ra' : wr.drew.rangeAt a1 (o1 + ord.length * 32) (bv hi.1) := ra
            have rb' : wr.drew.rangeAt a1 (o1 + y * 32) (bv hj.1) := rb
            have dx' : wr.drew.cell? ⟨b, off + ord.length * 8 + 2, none⟩ = some (.int .i64 gx) := dx
            have dy' : wr.drew.cell? ⟨b, off + y * 8 + 2, none⟩ = some (.int .i64 gy) := dy
            have hwd := below_drew1 hwW
            clear ra rb dx dy hwW cy
            generalize wr.drew = V at ra' rb' dx' dy' hwd ⊢
            repeat (first | (refine reads_id rfl rfl _ rfl _ _ rfl hi ra' ?_; simp only [Act.put, List.setIfInBounds_toArray, List.set_cons_succ, List.set_cons_zero]) | (refine reads_id rfl rfl _ rfl _ _ rfl hj rb' ?_; simp only [Act.put, List.setIfInBounds_toArray, List.set_cons_succ, List.set_cons_zero]) | (refine Grow.reads rfl rfl ?_; go_big_quiet_step (fail); refine wpQuiet_nil ?_))
            refine Grow.acts rfl ?_
            go_wp2_with fail
            refine (rless_ret hi hj V).mono ?_
            rintro e w3 ⟨rfl, g2⟩
            rw [HU.out]
            go_wp2_with fail
            refine ⟨g2.below, ?_⟩
            have hw3 := hwd.trans (g2.below.mono hwd.size)
            have dx := (g2.below.cell (block_lt_of_cell dx')).trans dx'
            have dy := (g2.below.cell (block_lt_of_cell dy')).trans dy'
            clear ra' rb' dx' dy' hwd g2
            refine Grow.reads rfl rfl ?_
            go_big_quiet_step (fail)
            refine wpQuiet_nil ?_
            refine Grow.ends ?_
            have hw : gy < gx ∨ (gy = gx ∧ u = false) ∨ (gy = gx ∧ u = true) ∨ gx < gy := by
              rcases Int.lt_trichotomy gy gx with h | h | h
              · exact .inl h
              · cases u
                · exact .inr (.inl ⟨h, rfl⟩)
                · exact .inr (.inr (.inl ⟨h, rfl⟩))
              · exact .inr (.inr (.inr h))
            rcases hw with h | ⟨rfl, rfl⟩ | ⟨rfl, rfl⟩ | h
            · have hd1 : decide (gy < gx) = true := decide_eq_true h
              have HP2 := aside (put_pw (rn_trans l) HPW.out hm HGE.out (.inr ⟨y, HY.out, HBF.out (.inl h)⟩))
              clear HBF HAF h
              go_wp2_with (first | go_skip)
              go_quiet (fail)
              generalize hW5 : World.drewN w3 _ = W5
              have hwW : Below wo.heap.size wo W5 := by rw [← hW5]; exact below_drew hw3 _
              clear hW5 hw3 dx dy
              have kW := kb.trans (hwW.mono kb.size)
              have Sw := S3.out.below hwW
              obtain ⟨pA, pc, ep, Sp, lp⟩ := SlN.part Sw 0 m (Nat.zero_le _) hm
              obtain ⟨qA, qc, eq', Sq, lq⟩ := SlN.part Sw m ord.length hm (Nat.le_refl _)
              have hp1 : ∀ V, (Instr.sliceAt 81 (.slice (some ⟨b3, off3, none⟩) ord.length c3) none (some (.int .i64 m)) none).run Tryz.prog V = .ok (.slice pA m pc) V := fun V => by rw [DgI.run_part_h V _ ord.length c3 .i64 m (by have := S3.out.1; omega), ep, Nat.sub_zero]
              have hq1 : ∀ V, (Instr.sliceAt 81 (.slice (some ⟨b3, off3, none⟩) ord.length c3) (some (.int .i64 m)) none none).run Tryz.prog V = .ok (.slice qA (ord.length - m) qc) V := fun V => by rw [DgI.run_part_l V _ ord.length c3 .i64 m hm, eq']
              rw [Nat.sub_zero, List.drop_zero] at Sp lp
              have HS := aside (And.intro Sp Sq)
              clear ep eq' Sp Sq Sw
              go_wp2_with (first | go_skip | (refine append_ints rfl (.const (.slice none 0 0)) (.tmp 75) rfl W5.heap.size _ 0 [] rfl (DgI.nil_own _ _) _ _ _ (ord.take m) rfl lp HS.out.1 (by omega) (Nat.le_refl _) ?_; intro v5 w5 o5 g5; have k5 : Below W5.heap.size W5 w5 := below_grown (Below.refl _ _) (Nat.le_refl _) g5 (fun k hk => by cases hk)) | (refine append_ints rfl (.tmp 77) (.tmp 79) rfl W5.heap.size _ _ _ rfl (o5.alloc _) _ 1 1 [ord.length] rfl rfl (SlN.new1 _ _ _) (by omega) (by have := k5.size; simp; omega) ?_; intro v6 w6 o6 g6; have k6 : Below W5.heap.size W5 w6 := below_grown (k5.alloc k5.size _) (by have := k5.size; simp; omega) g6 (fun k hk => (o5.lt k hk).1)) | (refine append_ints rfl (.tmp 81) (.tmp 84) rfl W5.heap.size _ _ _ rfl o6 _ _ _ _ rfl lq (HS.out.2.below k6) (by omega) k6.size ?_; intro v7 w7 o7 g7; have k7 : Below W5.heap.size W5 w7 := below_grown k6 k6.size g7 (fun k hk => (o6.lt k hk).1)))
              go_roundw
              case rel =>
                have elen : 0 + m + 1 + (ord.length - m) = (ord.take m ++ [ord.length] ++ ord.drop m).length := by rw [put_len hm]; omega
                have edrop : (ord.drop m).take (ord.length - m) = ord.drop m := List.take_of_length_le (by simp)
                rw [elen, edrop, List.nil_append] at o7
                exact ⟨ord.take m ++ [ord.length] ++ ord.drop m, by rw [put_len hm]; omega, by rw [put_len hm]; go_num, aside (owns_less o7 kW.size), HP2, aside (fun z => by rw [put_mem, HMM.out z, put_len hm]; omega), kW.trans (k7.mono kW.size)⟩
              case measure => simp [intOf]; omega
            · have hd1 : decide (gy < gy) = false := decide_eq_false (by omega)
              have HP2 := aside (put_pw (rn_trans l) HPW.out hm HGE.out (.inr ⟨y, HY.out, HBF.out (.inr ⟨rfl, rfl⟩)⟩))
              clear HBF HAF
              have hs : (gy == gy) = true := by simp
              go_wp2_with (first | go_skip)
              go_quiet (fail)
              generalize hW5 : World.drewN w3 _ = W5
              have hwW : Below wo.heap.size wo W5 := by rw [← hW5]; exact below_drew hw3 _
              clear hW5 hw3 dx dy
              have kW := kb.trans (hwW.mono kb.size)
              have Sw := S3.out.below hwW
              obtain ⟨pA, pc, ep, Sp, lp⟩ := SlN.part Sw 0 m (Nat.zero_le _) hm
              obtain ⟨qA, qc, eq', Sq, lq⟩ := SlN.part Sw m ord.length hm (Nat.le_refl _)
              have hp1 : ∀ V, (Instr.sliceAt 81 (.slice (some ⟨b3, off3, none⟩) ord.length c3) none (some (.int .i64 m)) none).run Tryz.prog V = .ok (.slice pA m pc) V := fun V => by rw [DgI.run_part_h V _ ord.length c3 .i64 m (by have := S3.out.1; omega), ep, Nat.sub_zero]
              have hq1 : ∀ V, (Instr.sliceAt 81 (.slice (some ⟨b3, off3, none⟩) ord.length c3) (some (.int .i64 m)) none none).run Tryz.prog V = .ok (.slice qA (ord.length - m) qc) V := fun V => by rw [DgI.run_part_l V _ ord.length c3 .i64 m hm, eq']
              rw [Nat.sub_zero, List.drop_zero] at Sp lp
              have HS := aside (And.intro Sp Sq)
              clear ep eq' Sp Sq Sw
              go_wp2_with (first | go_skip | (refine append_ints rfl (.const (.slice none 0 0)) (.tmp 75) rfl W5.heap.size _ 0 [] rfl (DgI.nil_own _ _) _ _ _ (ord.take m) rfl lp HS.out.1 (by omega) (Nat.le_refl _) ?_; intro v5 w5 o5 g5; have k5 : Below W5.heap.size W5 w5 := below_grown (Below.refl _ _) (Nat.le_refl _) g5 (fun k hk => by cases hk)) | (refine append_ints rfl (.tmp 77) (.tmp 79) rfl W5.heap.size _ _ _ rfl (o5.alloc _) _ 1 1 [ord.length] rfl rfl (SlN.new1 _ _ _) (by omega) (by have := k5.size; simp; omega) ?_; intro v6 w6 o6 g6; have k6 : Below W5.heap.size W5 w6 := below_grown (k5.alloc k5.size _) (by have := k5.size; simp; omega) g6 (fun k hk => (o5.lt k hk).1)) | (refine append_ints rfl (.tmp 81) (.tmp 84) rfl W5.heap.size _ _ _ rfl o6 _ _ _ _ rfl lq (HS.out.2.below k6) (by omega) k6.size ?_; intro v7 w7 o7 g7; have k7 : Below W5.heap.size W5 w7 := below_grown k6 k6.size g7 (fun k hk => (o6.lt k hk).1)))
              go_roundw
              case rel =>
                have elen : 0 + m + 1 + (ord.length - m) = (ord.take m ++ [ord.length] ++ ord.drop m).length := by rw [put_len hm]; omega
                have edrop : (ord.drop m).take (ord.length - m) = ord.drop m := List.take_of_length_le (by simp)
                rw [elen, edrop, List.nil_append] at o7
                exact ⟨ord.take m ++ [ord.length] ++ ord.drop m, by rw [put_len hm]; omega, by rw [put_len hm]; go_num, aside (owns_less o7 kW.size), HP2, aside (fun z => by rw [put_mem, HMM.out z, put_len hm]; omega), kW.trans (k7.mono kW.size)⟩
              case measure => simp [intOf]; omega
            · have hd1 : decide (gy < gy) = false := decide_eq_false (by omega)
              have hs : (gy == gy) = true := by simp
              have HA := aside (HAF.out (.inr ⟨rfl, rfl⟩))
              clear HBF HAF
              go_wp2_with (first | go_skip)
              go_quiet (fail)
              go_wp2_with (first | go_skip)
              go_roundw
              case rel =>
                refine ⟨m - 1, by omega, by go_num, aside (fun j z h1 h2 => ?_), by first | exact hw3 | exact below_drew hw3 _⟩
                by_cases e : j = m - 1
                · rw [e, HY.out] at h2
                  rw [← Option.some.inj h2]
                  exact HA.out
                · exact HGE.out j z (by omega) h2
              case measure => simp [intOf]; omega
            · have hd1 : decide (gy < gx) = false := decide_eq_false (by omega)
              have hs : (gy == gx) = false := by simp; omega
              have HA := aside (HAF.out (.inl h))
              clear HBF HAF h
              go_wp2_with (first | go_skip)
              go_quiet (fail)
              go_wp2_with (first | go_skip)
              go_roundw
              case rel =>
                refine ⟨m - 1, by omega, by go_num, aside (fun j z h1 h2 => ?_), by first | exact hw3 | exact below_drew hw3 _⟩
                by_cases e : j = m - 1
                · rw [e, HY.out] at h2
                  rw [← Option.some.inj h2]
                  exact HA.out
                · exact HGE.out j z (by omega) h2
              case measure => simp [intOf]; omega
      · have pn : ¬ (ord.length : Int) < l.length := by omega
        have HF2 := aside (HF.out ord HPW.out (fun z => by rw [HMM.out z, show ord.length = l.length by omega]))
        have HOL := aside (fun z (hz : z ∈ ord) => show z < l.length by have := (HMM.out z).1 hz; omega)
        have hol : ord.length ≤ 1000 := by omega
        have b4 := b2.trans (kb.mono b2.size)
        clear HPW HMM HF hk
        go_wp2_with (first | go_skip)
        clear pn
        go_loopw [11, 12] (fun o i wr => ∃ t : Nat, t ≤ ord.length ∧ i = .int .i64 t ∧ Hid (wr.ownsRow wo.heap.size 38 8 o t (RowS.flat KE ((ord.take t).map (atN l)))) ∧ Below wo.heap.size wo wr) (fun _ i _ => ord.length - (intOf i).toNat)
        case atStart => exact ⟨0, Nat.zero_le _, rfl, aside ⟨rfl, .inl ⟨rfl, rfl⟩⟩, Below.refl _ _⟩
        case round =>
          obtain ⟨t, ht, rfl, HO, kc⟩ := hrel
          by_cases htl : t < ord.length
          · obtain ⟨b3, off3, rfl, hb3, hr3⟩ := (S3.out.below kc).plain (by omega)
            obtain ⟨y, hy⟩ : ∃ y, ord[t]? = some y := ⟨_, List.getElem?_eq_getElem htl⟩
            have cy := hr3 t y hy
            have hyl := HOL.out y (List.mem_of_getElem? hy)
            obtain ⟨b, off, rfl, hbw, hrg⟩ := HS0.out.plain (by omega)
            obtain ⟨x, hx⟩ : ∃ x, l[y]? = some x := ⟨_, List.getElem?_eq_getElem hyl⟩
            have rx := range_on (hrg y x hx) (kb.trans (kc.mono kb.size))
            have pt : (t : Int) < ord.length := by omega
            have mt : ((t : Int)).toNat = t := by omega
            have py : (y : Int) < l.length := by omega
            have my : ((y : Int)).toNat = y := by omega
            have HN : Hid ((ord.take (t + 1)).map (atN l) = (ord.take t).map (atN l) ++ [x]) := aside (by
              obtain ⟨h1, h2⟩ := List.getElem?_eq_some_iff.1 hy
              rw [List.take_succ_eq_append_getElem h1, List.map_append, h2, List.map_cons, List.map_nil, atN_of hx])
            obtain ⟨ms, hms⟩ : ∃ ms, (ord.take t).map (atN l) = ms := ⟨_, rfl⟩
            rw [hms] at HO HN
            clear hr3 hy hrg hx hms
            go_wp2_with (first | go_skip | (refine load_at rfl _ rfl _ _ rfl x rx ?_) | (refine RowC.wpList_lit1 KE (of_decide_eq_true rfl) rfl _ rfl x rfl ?_; intro w4 S4 k4; have b5 := kc.trans (k4.mono kc.size); have O4 := aside (owns_below HO.out k4)) | (refine RowS.wpList_append KE rfl (.tmp 93) (.tmp 101) rfl wo.heap.size _ t ms rfl O4.out _ 1 1 [x] rfl rfl S4 (by omega) b5.size ?_; intro v6 w6 o6 g6))
            have b6 : Below wo.heap.size wo w6 := below_grown b5 b5.size g6 (fun q hq => (O4.out.lt q hq).1)
            go_roundw
            case rel => exact ⟨t + 1, by omega, by go_num, aside (by rw [HN.out]; exact o6), b6⟩
            case measure => simp [intOf]; omega
          · have HO2 := HO.out
            rw [List.take_of_length_le (by omega)] at HO2
            have pt : ¬ (t : Int) < ord.length := by omega
            obtain ⟨A6, c6, rfl, S6⟩ := own_in HO2 (fun x hx => by
              obtain ⟨j, hj, rfl⟩ := List.mem_map.1 hx
              have hjl := HOL.out j hj
              have hm : atN l j ∈ l := by rw [atN_of (List.getElem?_eq_getElem hjl)]; exact List.getElem_mem _
              exact ⟨(HS0.out.each _ hm).1.below (kb.trans (kc.mono kb.size)), (HS0.out.each _ hm).2⟩)
            have HS6 := aside S6
            clear HO HO2 S6
            go_wp2_with (first | go_skip)
            go_ret
            exact ⟨coms (ord.map (atN l)), HF2.out, A6, c6, ord.map (atN l), by rw [List.length_map]; rfl, HS6.out, rfl, b4.trans (kc.mono b4.size)⟩
  · rw [decide_eq_false hC] at hcl
    have HM : Hid (IsSorted (coms l) []) := aside (by unfold IsSorted; rw [if_neg hC])
    clear hC ho S
    go_enter Tryz.func24, Tryz.ntmps24
    go_wp2_with (first | go_skip)
    refine hcl.mono ?_
    rintro e w1 ⟨rfl, k1⟩
    clear hcl
    go_wp2_with (first | go_skip)
    go_ret
    exact ⟨[], HM.out, none, 0, [], rfl, SlK.nil _, rfl, k1⟩
end Go.Proofs.YtechkdhehipliaaGreatDoor.DgS
