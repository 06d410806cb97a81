/- EvalOrder's walk, over contracts: commits told in another order come to the same state. No condition. -/
import Derived.Test.YtgmdhaepiclkcaaGreatDoorEaAJ12
import Derived.Test.YtgmdhaepiclkcaaGreatDoorEaWJ8
import Derived.Test.YtgmdhaepiclkcaaGreatDoorOpenSJ17
import Derived.Test.YtgmdhaepiclkcaaGreatDoorCmRJ6
import Derived.Test.YtgmdhaepiclkcaaGreatDoorDhBJ3
import Derived.Test.YtgmdhaepiclkcaaGreatDoorEaG
import Derived.Test.YtgmdhaepiclkcaaGreatDoorLayCompSJ7
namespace Go.Proofs.YtgmdhaepiclkcaaGreatDoor.EbO
set_option maxRecDepth 100000
open Go Go.Sort Go.RowKit Byt IdM IdW OpsM OpsW CmM StW CmW CmX CmY CmA DgM DgW DgR DgF DgG FrM FrN FrJ FrH FrU EaM EaN EaH EaW DgS
open Classical

theorem turn_perm {l : List Com} (i : Nat) : l.Perm (l.drop i ++ l.take i) := by
  have h := List.perm_append_comm (l₁ := l.take i) (l₂ := l.drop i)
  rwa [List.take_append_drop] at h
theorem coms_turn (l : List Cv) (i : Nat) : coms (l.drop i ++ l.take i) = (coms l).drop i ++ (coms l).take i := by
  unfold coms
  rw [List.map_append, List.map_drop, List.map_take]
theorem eval_turn {l m : List Com} (C : Closed hashK l) (h : l.Perm m) : evalC m = some (evalK hashK l) := by
  rw [eval_of (closed_perm C h), ← eval_perm h (fine_all C)]
def order : Forks.Tree := .free 0 (.free 1 (.free 2 (.free 4 (.free 5 (.free 6 (.two 3 (.two 7 (.two 8 (.free 9 (.free 10 (.free 11 (.act 12 (.act 13 (.free 14 .ends)))))) 12 (.act 8 (.free 9 (.free 10 (.free 11 (.act 13 (.free 14 .ends))))))) 12 (.act 7 (.act 8 (.free 9 (.free 10 (.free 11 (.act 13 (.free 14 .ends)))))))) 12 (.act 3 (.act 7 (.act 8 (.free 9 (.free 10 (.free 11 (.act 13 (.free 14 .ends))))))))))))))
set_option maxRecDepth 100000 in
set_option maxHeartbeats 32000000 in
theorem walk (E : Two) (X : DhA.KnownRet) (HA : EaA.AwakeRet) (a0 : Option Addr) (cap0 : Nat) (l0 : List Cv) (i0 : Int) (w : World) (S : SlK w a0 cap0 l0) (K : ShaE.KIn w) :
    Calls Tryz.prog 6 #[.slice a0 l0.length cap0, .int .i64 i0] w fun e w' => e = .returned (.bool true) ∧ Below w.heap.size w w' := by
  have hmax := S.len
  have b := Below.refl w.heap.size w
  go_enter Tryz.func6, Tryz.ntmps6
  have qs := HA _ K
  go_wp2_with (first | go_skip)
  refine qs.mono ?_
  clear qs
  rintro e wx ⟨rfl, kx⟩
  have S' := S.below kx
  have K' := K.below kx
  have b' := b.trans (kx.mono b.size)
  clear S K b kx
  have S := S'
  have K := K'
  have b := b'
  clear S' K' b'
  go_wp2_with (first | go_skip)
  obtain ⟨f, hf⟩ : ∃ f, fewD (coms l0) 10 = f := ⟨_, rfl⟩
  have qs := DgR.few_ret a0 cap0 l0 10 _ S
  rw [hf] at qs
  refine qs.mono ?_
  clear qs
  rintro e w2 ⟨rfl, kx⟩
  have S' := S.below kx
  have K' := K.below kx
  have b' := b.trans (kx.mono b.size)
  clear S K b kx
  have S := S'
  have K := K'
  have b := b'
  clear S' K' b'
  cases f with
  | false =>
    go_wp2_with (first | go_skip)
    go_ret
    exact ⟨rfl, b⟩
  | true =>
    obtain ⟨ho, hl⟩ := okay_few (fun v hv => (S.each v hv).2) hf
    have hl2 : l0.length ≤ 1000 := by omega
    have hl1 : l0.length ≤ 100 := by omega
    have HO := aside ho
    clear ho hf
    have qs0 := DhA.closed_ret X a0 cap0 l0 _ S (by omega) K
    by_cases hC : Closed hashK (coms l0)
    case neg =>
      rw [decide_eq_false hC] at qs0
      go_wp2_with (first | go_skip)
      refine qs0.mono ?_
      rintro e wx ⟨rfl, kx⟩
      clear qs0
      go_wp2_with (first | go_skip)
      go_ret
      exact ⟨rfl, b.trans (kx.mono b.size)⟩
    case pos =>
      rw [decide_eq_true hC] at qs0
      have HC := aside hC
      clear hC
      have qs := qs0
      go_wp2_with (first | go_skip)
      refine qs.mono ?_
      clear qs
      rintro e wx ⟨rfl, kx⟩
      clear qs0
      have S' := S.below kx
      have K' := K.below kx
      have b' := b.trans (kx.mono b.size)
      clear S K b kx
      have S := S'
      have K := K'
      have b := b'
      clear S' K' b'
      have hi : i0 < 0 ∨ (¬ i0 < 0 ∧ (l0.length : Int) < i0) ∨ (¬ i0 < 0 ∧ ¬ (l0.length : Int) < i0) := by omega
      rcases hi with p0 | ⟨p0, p1⟩ | ⟨p0, p1⟩
      case inl =>
        go_wp2_with (first | go_skip)
        go_ret
        exact ⟨rfl, b⟩
      case inr.inl =>
        go_wp2_with (first | go_skip)
        go_ret
        exact ⟨rfl, b⟩
      case inr.inr =>
        obtain ⟨i, rfl⟩ : ∃ i : Nat, i0 = i := ⟨i0.toNat, by omega⟩
        have hle : i ≤ l0.length := by omega
        obtain ⟨m, hm⟩ : ∃ m, l0.drop i ++ l0.take i = m := ⟨_, rfl⟩
        have hmo : ∀ v ∈ m, v ∈ l0 := fun v hv => by
          rw [← hm] at hv
          rcases List.mem_append.1 hv with h | h
          · exact List.mem_of_mem_drop h
          · exact List.mem_of_mem_take h
        have hmn : m.length = l0.length := by rw [← hm, List.length_append, List.length_drop, List.length_take]; omega
        have hme : evalC (coms m) = some (evalK hashK (coms l0)) := by rw [← hm, coms_turn]; exact eval_turn HC.out (turn_perm i)
        have HM := aside hm
        have HMO := aside hmo
        have HMN := aside hmn
        have HME := aside hme
        clear hm hmo hmn hme
        have qs := E.eval a0 cap0 l0 _ S (by omega) K
        rw [eval_of HC.out] at qs
        unfold StW.New at qs
        simp only [Option.isSome_some, if_true, Option.getD_some] at qs
        go_wp2_with (first | go_skip)
        refine qs.mono ?_
        clear qs
        rintro e wx ⟨v0, rfl, h0, I0, kx⟩
        have H0 := aside h0
        clear h0
        have S' := S.below kx
        have K' := K.below kx
        have b' := b.trans (kx.mono b.size)
        clear S K b kx
        have S := S'
        have K := K'
        have b := b'
        clear S' K' b'
        obtain ⟨qA, qc, hqs, hqS⟩ := RowP.behind S.row i hle
        obtain ⟨rA, rc, hrs, hrS⟩ := RowP.ahead S.row i hle
        have hq1 : ∀ V, (Instr.sliceAt 22 (.slice a0 l0.length cap0) (some (.int .i64 i)) none none).run Tryz.prog V = .ok (.slice qA (l0.length - i) qc) V := fun V => hqs V .i64
        have hq2 : ∀ V, (Instr.sliceAt 22 (.slice a0 l0.length cap0) none (some (.int .i64 i)) none).run Tryz.prog V = .ok (.slice rA i rc) V := fun V => hrs V .i64
        have Q : SlK wx qA qc (l0.drop i) := ⟨hqS, fun v hv => S.each v (List.mem_of_mem_drop hv)⟩
        have R : SlK wx rA rc (l0.take i) := ⟨hrS, fun v hv => S.each v (List.mem_of_mem_take hv)⟩
        clear hqs hqS hrs hrS
        go_wp2_with (first | go_skip | (refine Cel.wpList_store_new SE rfl _ _ rfl wx _ _ rfl v0 _ rfl rfl rfl rfl ?_; intro wy B0 ky g4 s4; clear g4 s4))
        have S' := S.below ky
        have K' := K.below ky
        have I0' := I0.below ky
        have Q' := Q.below ky
        have R' := R.below ky
        have b' := b.trans (ky.mono b.size)
        clear S K I0 Q R b ky
        have S := S'
        have K := K'
        have I0 := I0'
        have Q := Q'
        have R := R'
        have b := b'
        clear S' K' I0' Q' R' b'
        refine Forks.region order (by kernel_rfl) (by kernel_rfl) rfl (by kernel_rfl) (by intro c a d v w h; cases d <;> exact h) ?_
        unfold order
        have kx := below_drew1 (Below.refl wy.heap.size wy)
        have S' := S.below kx
        have K' := K.below kx
        have I0' := I0.below kx
        have Q' := Q.below kx
        have R' := R.below kx
        have B0' := B0.below kx
        have b' := b.trans (kx.mono b.size)
        clear S K I0 Q R B0 b kx
        have S := S'
        have K := K'
        have I0 := I0'
        have Q := Q'
        have R := R'
        have B0 := B0'
        have b := b'
        clear S' K' I0' Q' R' B0' b'
        generalize wy.drew = wz at S K I0 Q R B0 b ⊢
        repeat (refine Forks.reads rfl rfl ?_; go_big_quiet_step (fail); refine wpQuiet_nil ?_)
        clear hq1 hq2
        have kz := Below.refl wz.heap.size wz
        refine Forks.forks rfl rfl ?_ ?_
        · skip
          go_wp2_with (first | (refine RowS.wpList_append KE rfl (.const (.slice none 0 0)) (.tmp 46) rfl wz.heap.size _ 0 [] rfl ⟨rfl, .inl ⟨rfl, rfl⟩⟩ qA (l0.length - i) qc (l0.drop i) rfl (by rw [List.length_drop]) (Q.below kz).row (by omega) (Nat.le_refl _) ?_; intro v8 w8 o8 g8))
          refine Forks.on ?_
          (try simp only [Act.put, List.setIfInBounds_toArray, List.set_cons_succ, List.set_cons_zero])
          have kA := below_grown (Below.refl wz.heap.size wz) (Nat.le_refl _) g8 (fun q hq => by cases hq)
          have kz' := kz.trans (kA.mono kz.size)
          clear kz
          have kz := kz'
          clear kz' g8
          refine Forks.forks rfl rfl ?_ ?_
          · skip
            go_wp2_with (first | (refine RowS.wpList_append KE rfl (.tmp 47) (.tmp 50) rfl wz.heap.size _ (0 + (l0.length - i)) ([] ++ l0.drop i) rfl o8 rA i rc (l0.take i) rfl (by rw [List.length_take]; omega) (R.below kz).row (by omega) kA.size ?_; intro v9 w9 o9 g9))
            refine Forks.on ?_
            (try simp only [Act.put, List.setIfInBounds_toArray, List.set_cons_succ, List.set_cons_zero])
            have kA' := below_grown kA kA.size g9 (fun q hq => (o8.lt q hq).1)
            have kz' : Below wz.heap.size wz w9 := kA'
            clear kz kA o8 g9
            have kz := kz'
            clear kz' kA'
            rw [List.nil_append, HM.out] at o9
            obtain ⟨A9, c9, rfl, Y⟩ := DgF.own_in o9 (fun v hv => ⟨((S.below kz).each v (HMO.out v hv)).1, ((S.below kz).each v (HMO.out v hv)).2⟩)
            clear o9
            refine Forks.forks rfl rfl ?_ ?_
            · skip
              have qs := E.eval A9 c9 m _ Y (by rw [HMN.out]; omega) (K.below kz)
              rw [HME.out] at qs
              unfold StW.New at qs
              simp only [Option.isSome_some, if_true, Option.getD_some] at qs
              go_wp2_with fail
              refine qs.mono ?_
              clear qs
              rintro e w10 ⟨v1, rfl, h1, I1, kx⟩
              have H1 := aside h1
              clear h1
              have kz' := kz.trans (kx.mono kz.size)
              clear kz kx Y
              have kz := kz'
              clear kz'
              go_wp2_with fail
              refine Forks.on ?_
              (try simp only [Act.put, List.setIfInBounds_toArray, List.set_cons_succ, List.set_cons_zero])
              repeat (refine Forks.reads rfl rfl ?_; go_big_quiet_step (fail); refine wpQuiet_nil ?_)
              refine Forks.acts rfl ?_
              go_wp2_with fail
              refine Forks.on ?_
              (try simp only [Act.put, List.setIfInBounds_toArray, List.set_cons_succ, List.set_cons_zero])
              have B9 : Cel.Box SE (w10.alloc (.cells #[.slice none 0 0, .slice none 0 0, .slice none 0 0] 30)) w10.heap.size noV := Cel.Box.new (E := SE) w10 noV _
              have k1 := StW.below_alloc w10 (.cells #[.slice none 0 0, .slice none 0 0, .slice none 0 0] 30)
              have I1' := I1.below k1
              clear I1
              have I1 := I1'
              clear I1'
              have hg9 := kz.size
              have kz' := kz.trans (k1.mono kz.size)
              clear kz
              have kz := kz'
              clear kz'
              generalize hwa : w10.alloc (.cells #[.slice none 0 0, .slice none 0 0, .slice none 0 0] 30) = wa at *
              clear hwa k1
              refine Forks.acts rfl ?_
              go_wp2_with (first | (refine Cel.wpList_store_box SE rfl _ _ rfl w10.heap.size rfl noV B9 v1 rfl ?_; intro wy B9' kb gb sb))
              refine Forks.on ?_
              (try simp only [Act.put])
              have I1' := I1.kept B9 gb
              have kx := kz.trans (kb wz.heap.size hg9)
              clear I1 B9 gb sb kb kz hg9
              have I1 := I1'
              have B9 := B9'
              clear I1' B9'
              repeat (refine Forks.reads rfl rfl ?_; go_big_quiet_step (fail); refine wpQuiet_nil ?_)
              refine Forks.ends ?_
              have S' := S.below kx
              have K' := K.below kx
              have I0' := I0.below kx
              have B0' := B0.below kx
              have b' := b.trans (kx.mono b.size)
              clear S K I0 B0 b kx
              have S := S'
              have K := K'
              have I0 := I0'
              have B0 := B0'
              have b := b'
              clear S' K' I0' B0' b'
              go_wp2_with (first | go_skip)
              refine (DhD.sorted_ret X a0 cap0 l0 _ S (by omega) K).mono ?_
              rintro e wx ⟨m2, hs, A2, c2, l2, rfl, Y2, hl2', kx⟩
              unfold DgS.IsSorted at hs
              rw [if_pos HC.out] at hs
              have hp := EaG.sorted_perm HC.out hs.1 hs.2
              rw [← hl2'] at hp
              have hln : l2.length = l0.length := by have := hp.length_eq; rwa [coms_len, coms_len] at this
              have hev := eval_turn HC.out hp.symm
              have HLN := aside hln
              have hl3 : l2.length ≤ 1500000000000 := by omega
              clear hs hp hl2' hln
              have S' := S.below kx
              have K' := K.below kx
              have I0' := I0.below kx
              have B0' := B0.below kx
              have I1' := I1.below kx
              have B9' := B9.below kx
              have b' := b.trans (kx.mono b.size)
              clear S K I0 B0 I1 B9 b kx
              have S := S'
              have K := K'
              have I0 := I0'
              have B0 := B0'
              have I1 := I1'
              have B9 := B9'
              have b := b'
              clear S' K' I0' B0' I1' B9' b'
              have qs := E.eval A2 c2 l2 _ Y2 hl3 K
              rw [hev] at qs
              unfold StW.New at qs
              simp only [Option.isSome_some, if_true, Option.getD_some] at qs
              go_wp2_with (first | go_skip)
              refine qs.mono ?_
              clear qs
              rintro e wx ⟨v2, rfl, h2, I2, kx⟩
              have H2 := aside h2
              clear h2 hev hl3
              have S' := S.below kx
              have K' := K.below kx
              have I0' := I0.below kx
              have B0' := B0.below kx
              have I1' := I1.below kx
              have B9' := B9.below kx
              have Y2' := Y2.below kx
              have b' := b.trans (kx.mono b.size)
              clear S K I0 B0 I1 B9 Y2 b kx
              have S := S'
              have K := K'
              have I0 := I0'
              have B0 := B0'
              have I1 := I1'
              have B9 := B9'
              have Y2 := Y2'
              have b := b'
              clear S' K' I0' B0' I1' B9' Y2' b'
              clear Y2
              go_wp2_with (first | go_skip | (refine Cel.wpList_store_new SE rfl _ _ rfl wx _ _ rfl v2 _ rfl rfl rfl rfl ?_; intro wy B2 ky g4 s4; clear g4 s4; have B0' := B0.below ky; have B9' := B9.below ky) | (refine CelG.gload SE _ rfl _ rfl v0 B0' rfl ?_) | (refine CelG.gload SE _ rfl _ rfl v1 B9' rfl ?_))
              clear B0' B9'
              have S' := S.below ky
              have K' := K.below ky
              have I0' := I0.below ky
              have B0' := B0.below ky
              have I1' := I1.below ky
              have B9' := B9.below ky
              have I2' := I2.below ky
              have b' := b.trans (ky.mono b.size)
              clear S K I0 B0 I1 B9 I2 b ky
              have S := S'
              have K := K'
              have I0 := I0'
              have B0 := B0'
              have I1 := I1'
              have B9 := B9'
              have I2 := I2'
              have b := b'
              clear S' K' I0' B0' I1' B9' I2' b'
              have qs := StE.same_ret v0 v1 _ I0 I1
              rw [H0.out, H1.out, same_self] at qs
              refine qs.mono ?_
              clear qs
              rintro e wx ⟨rfl, kx⟩
              have S' := S.below kx
              have K' := K.below kx
              have I0' := I0.below kx
              have B0' := B0.below kx
              have I1' := I1.below kx
              have B9' := B9.below kx
              have I2' := I2.below kx
              have B2' := B2.below kx
              have b' := b.trans (kx.mono b.size)
              clear S K I0 B0 I1 B9 I2 B2 b kx
              have S := S'
              have K := K'
              have I0 := I0'
              have B0 := B0'
              have I1 := I1'
              have B9 := B9'
              have I2 := I2'
              have B2 := B2'
              have b := b'
              clear S' K' I0' B0' I1' B9' I2' B2' b'
              go_wp2_with (first | go_skip | (refine CelG.gload SE _ rfl _ rfl v0 B0 rfl ?_) | (refine CelG.gload SE _ rfl _ rfl v2 B2 rfl ?_))
              have qs := StE.same_ret v0 v2 _ I0 I2
              rw [H0.out, H2.out, same_self] at qs
              refine qs.mono ?_
              clear qs
              rintro e wx ⟨rfl, kx⟩
              have S' := S.below kx
              have K' := K.below kx
              have I0' := I0.below kx
              have B0' := B0.below kx
              have I1' := I1.below kx
              have B9' := B9.below kx
              have I2' := I2.below kx
              have B2' := B2.below kx
              have b' := b.trans (kx.mono b.size)
              clear S K I0 B0 I1 B9 I2 B2 b kx
              have S := S'
              have K := K'
              have I0 := I0'
              have B0 := B0'
              have I1 := I1'
              have B9 := B9'
              have I2 := I2'
              have B2 := B2'
              have b := b'
              clear S' K' I0' B0' I1' B9' I2' B2' b'
              go_wp2_with (first | go_skip)
              go_ret
              exact ⟨rfl, b⟩
            · skip
              go_wp2_with fail
              refine Forks.on ?_
              (try simp only [Act.put, List.setIfInBounds_toArray, List.set_cons_succ, List.set_cons_zero])
              have B9 : Cel.Box SE (w9.alloc (.cells #[.slice none 0 0, .slice none 0 0, .slice none 0 0] 30)) w9.heap.size noV := Cel.Box.new (E := SE) w9 noV _
              have k1 := StW.below_alloc w9 (.cells #[.slice none 0 0, .slice none 0 0, .slice none 0 0] 30)
              have Y' := Y.below k1
              clear Y
              have Y := Y'
              clear Y'
              have hg9 := kz.size
              have kz' := kz.trans (k1.mono kz.size)
              clear kz
              have kz := kz'
              clear kz'
              generalize hwa : w9.alloc (.cells #[.slice none 0 0, .slice none 0 0, .slice none 0 0] 30) = wa at *
              clear hwa k1
              refine Forks.acts rfl ?_
              have qs := E.eval A9 c9 m _ Y (by rw [HMN.out]; omega) (K.below kz)
              rw [HME.out] at qs
              unfold StW.New at qs
              simp only [Option.isSome_some, if_true, Option.getD_some] at qs
              go_wp2_with fail
              refine qs.mono ?_
              clear qs
              rintro e w10 ⟨v1, rfl, h1, I1, kx⟩
              have H1 := aside h1
              clear h1
              have B9' := B9.below kx
              clear B9
              have B9 := B9'
              clear B9'
              have kz' := kz.trans (kx.mono kz.size)
              clear kz kx Y
              have kz := kz'
              clear kz'
              go_wp2_with fail
              refine Forks.on ?_
              (try simp only [Act.put, List.setIfInBounds_toArray, List.set_cons_succ, List.set_cons_zero])
              repeat (refine Forks.reads rfl rfl ?_; go_big_quiet_step (fail); refine wpQuiet_nil ?_)
              refine Forks.acts rfl ?_
              go_wp2_with (first | (refine Cel.wpList_store_box SE rfl _ _ rfl w9.heap.size rfl noV B9 v1 rfl ?_; intro wy B9' kb gb sb))
              refine Forks.on ?_
              (try simp only [Act.put])
              have I1' := I1.kept B9 gb
              have kx := kz.trans (kb wz.heap.size hg9)
              clear I1 B9 gb sb kb kz hg9
              have I1 := I1'
              have B9 := B9'
              clear I1' B9'
              repeat (refine Forks.reads rfl rfl ?_; go_big_quiet_step (fail); refine wpQuiet_nil ?_)
              refine Forks.ends ?_
              have S' := S.below kx
              have K' := K.below kx
              have I0' := I0.below kx
              have B0' := B0.below kx
              have b' := b.trans (kx.mono b.size)
              clear S K I0 B0 b kx
              have S := S'
              have K := K'
              have I0 := I0'
              have B0 := B0'
              have b := b'
              clear S' K' I0' B0' b'
              go_wp2_with (first | go_skip)
              refine (DhD.sorted_ret X a0 cap0 l0 _ S (by omega) K).mono ?_
              rintro e wx ⟨m2, hs, A2, c2, l2, rfl, Y2, hl2', kx⟩
              unfold DgS.IsSorted at hs
              rw [if_pos HC.out] at hs
              have hp := EaG.sorted_perm HC.out hs.1 hs.2
              rw [← hl2'] at hp
              have hln : l2.length = l0.length := by have := hp.length_eq; rwa [coms_len, coms_len] at this
              have hev := eval_turn HC.out hp.symm
              have HLN := aside hln
              have hl3 : l2.length ≤ 1500000000000 := by omega
              clear hs hp hl2' hln
              have S' := S.below kx
              have K' := K.below kx
              have I0' := I0.below kx
              have B0' := B0.below kx
              have I1' := I1.below kx
              have B9' := B9.below kx
              have b' := b.trans (kx.mono b.size)
              clear S K I0 B0 I1 B9 b kx
              have S := S'
              have K := K'
              have I0 := I0'
              have B0 := B0'
              have I1 := I1'
              have B9 := B9'
              have b := b'
              clear S' K' I0' B0' I1' B9' b'
              have qs := E.eval A2 c2 l2 _ Y2 hl3 K
              rw [hev] at qs
              unfold StW.New at qs
              simp only [Option.isSome_some, if_true, Option.getD_some] at qs
              go_wp2_with (first | go_skip)
              refine qs.mono ?_
              clear qs
              rintro e wx ⟨v2, rfl, h2, I2, kx⟩
              have H2 := aside h2
              clear h2 hev hl3
              have S' := S.below kx
              have K' := K.below kx
              have I0' := I0.below kx
              have B0' := B0.below kx
              have I1' := I1.below kx
              have B9' := B9.below kx
              have Y2' := Y2.below kx
              have b' := b.trans (kx.mono b.size)
              clear S K I0 B0 I1 B9 Y2 b kx
              have S := S'
              have K := K'
              have I0 := I0'
              have B0 := B0'
              have I1 := I1'
              have B9 := B9'
              have Y2 := Y2'
              have b := b'
              clear S' K' I0' B0' I1' B9' Y2' b'
              clear Y2
              go_wp2_with (first | go_skip | (refine Cel.wpList_store_new SE rfl _ _ rfl wx _ _ rfl v2 _ rfl rfl rfl rfl ?_; intro wy B2 ky g4 s4; clear g4 s4; have B0' := B0.below ky; have B9' := B9.below ky) | (refine CelG.gload SE _ rfl _ rfl v0 B0' rfl ?_) | (refine CelG.gload SE _ rfl _ rfl v1 B9' rfl ?_))
              clear B0' B9'
              have S' := S.below ky
              have K' := K.below ky
              have I0' := I0.below ky
              have B0' := B0.below ky
              have I1' := I1.below ky
              have B9' := B9.below ky
              have I2' := I2.below ky
              have b' := b.trans (ky.mono b.size)
              clear S K I0 B0 I1 B9 I2 b ky
              have S := S'
              have K := K'
              have I0 := I0'
              have B0 := B0'
              have I1 := I1'
              have B9 := B9'
              have I2 := I2'
              have b := b'
              clear S' K' I0' B0' I1' B9' I2' b'
              have qs := StE.same_ret v0 v1 _ I0 I1
              rw [H0.out, H1.out, same_self] at qs
              refine qs.mono ?_
              clear qs
              rintro e wx ⟨rfl, kx⟩
              have S' := S.below kx
              have K' := K.below kx
              have I0' := I0.below kx
              have B0' := B0.below kx
              have I1' := I1.below kx
              have B9' := B9.below kx
              have I2' := I2.below kx
              have B2' := B2.below kx
              have b' := b.trans (kx.mono b.size)
              clear S K I0 B0 I1 B9 I2 B2 b kx
              have S := S'
              have K := K'
              have I0 := I0'
              have B0 := B0'
              have I1 := I1'
              have B9 := B9'
              have I2 := I2'
              have B2 := B2'
              have b := b'
              clear S' K' I0' B0' I1' B9' I2' B2' b'
              go_wp2_with (first | go_skip | (refine CelG.gload SE _ rfl _ rfl v0 B0 rfl ?_) | (refine CelG.gload SE _ rfl _ rfl v2 B2 rfl ?_))
              have qs := StE.same_ret v0 v2 _ I0 I2
              rw [H0.out, H2.out, same_self] at qs
              refine qs.mono ?_
              clear qs
              rintro e wx ⟨rfl, kx⟩
              have S' := S.below kx
              have K' := K.below kx
              have I0' := I0.below kx
              have B0' := B0.below kx
              have I1' := I1.below kx
              have B9' := B9.below kx
              have I2' := I2.below kx
              have B2' := B2.below kx
              have b' := b.trans (kx.mono b.size)
              clear S K I0 B0 I1 B9 I2 B2 b kx
              have S := S'
              have K := K'
              have I0 := I0'
              have B0 := B0'
              have I1 := I1'
              have B9 := B9'
              have I2 := I2'
              have B2 := B2'
              have b := b'
              clear S' K' I0' B0' I1' B9' I2' B2' b'
              go_wp2_with (first | go_skip)
              go_ret
              exact ⟨rfl, b⟩
          · skip
            go_wp2_with fail
            refine Forks.on ?_
            (try simp only [Act.put, List.setIfInBounds_toArray, List.set_cons_succ, List.set_cons_zero])
            have B9 : Cel.Box SE (w8.alloc (.cells #[.slice none 0 0, .slice none 0 0, .slice none 0 0] 30)) w8.heap.size noV := Cel.Box.new (E := SE) w8 noV _
            have k1 := StW.below_alloc w8 (.cells #[.slice none 0 0, .slice none 0 0, .slice none 0 0] 30)
            have o8' := o8.alloc (.cells #[.slice none 0 0, .slice none 0 0, .slice none 0 0] 30)
            have hlt8 := fun q hq => (o8.lt q hq).2
            clear o8
            have o8 := o8'
            clear o8'
            have kA' := kA.trans (k1.mono kA.size)
            clear kA
            have kA := kA'
            clear kA'
            have hg9 := kz.size
            have kz' := kz.trans (k1.mono kz.size)
            clear kz
            have kz := kz'
            clear kz'
            generalize hwa : w8.alloc (.cells #[.slice none 0 0, .slice none 0 0, .slice none 0 0] 30) = wa at *
            clear hwa k1
            refine Forks.acts rfl ?_
            go_wp2_with (first | (refine RowS.wpList_append KE rfl (.tmp 47) (.tmp 50) rfl wz.heap.size _ (0 + (l0.length - i)) ([] ++ l0.drop i) rfl o8 rA i rc (l0.take i) rfl (by rw [List.length_take]; omega) (R.below kz).row (by omega) kA.size ?_; intro v9 w9 o9 g9))
            refine Forks.on ?_
            (try simp only [Act.put, List.setIfInBounds_toArray, List.set_cons_succ, List.set_cons_zero])
            have B9' := Cel.Box.kept B9 g9 (fun e => by have h1 := o8.lt _ e.symm; have h2 := hlt8 _ e.symm; omega)
            clear B9
            have B9 := B9'
            clear B9'
            have kA' := below_grown kA kA.size g9 (fun q hq => (o8.lt q hq).1)
            have kz' : Below wz.heap.size wz w9 := kA'
            clear kz kA o8 g9
            have kz := kz'
            clear kz' kA'
            rw [List.nil_append, HM.out] at o9
            obtain ⟨A9, c9, rfl, Y⟩ := DgF.own_in o9 (fun v hv => ⟨((S.below kz).each v (HMO.out v hv)).1, ((S.below kz).each v (HMO.out v hv)).2⟩)
            clear o9
            refine Forks.acts rfl ?_
            have qs := E.eval A9 c9 m _ Y (by rw [HMN.out]; omega) (K.below kz)
            rw [HME.out] at qs
            unfold StW.New at qs
            simp only [Option.isSome_some, if_true, Option.getD_some] at qs
            go_wp2_with fail
            refine qs.mono ?_
            clear qs
            rintro e w10 ⟨v1, rfl, h1, I1, kx⟩
            have H1 := aside h1
            clear h1
            have B9' := B9.below kx
            clear B9
            have B9 := B9'
            clear B9'
            have kz' := kz.trans (kx.mono kz.size)
            clear kz kx Y
            have kz := kz'
            clear kz'
            go_wp2_with fail
            refine Forks.on ?_
            (try simp only [Act.put, List.setIfInBounds_toArray, List.set_cons_succ, List.set_cons_zero])
            repeat (refine Forks.reads rfl rfl ?_; go_big_quiet_step (fail); refine wpQuiet_nil ?_)
            refine Forks.acts rfl ?_
            go_wp2_with (first | (refine Cel.wpList_store_box SE rfl _ _ rfl w8.heap.size rfl noV B9 v1 rfl ?_; intro wy B9' kb gb sb))
            refine Forks.on ?_
            (try simp only [Act.put])
            have I1' := I1.kept B9 gb
            have kx := kz.trans (kb wz.heap.size hg9)
            clear I1 B9 gb sb kb kz hg9
            have I1 := I1'
            have B9 := B9'
            clear I1' B9'
            repeat (refine Forks.reads rfl rfl ?_; go_big_quiet_step (fail); refine wpQuiet_nil ?_)
            refine Forks.ends ?_
            have S' := S.below kx
            have K' := K.below kx
            have I0' := I0.below kx
            have B0' := B0.below kx
            have b' := b.trans (kx.mono b.size)
            clear S K I0 B0 b kx
            have S := S'
            have K := K'
            have I0 := I0'
            have B0 := B0'
            have b := b'
            clear S' K' I0' B0' b'
            go_wp2_with (first | go_skip)
            refine (DhD.sorted_ret X a0 cap0 l0 _ S (by omega) K).mono ?_
            rintro e wx ⟨m2, hs, A2, c2, l2, rfl, Y2, hl2', kx⟩
            unfold DgS.IsSorted at hs
            rw [if_pos HC.out] at hs
            have hp := EaG.sorted_perm HC.out hs.1 hs.2
            rw [← hl2'] at hp
            have hln : l2.length = l0.length := by have := hp.length_eq; rwa [coms_len, coms_len] at this
            have hev := eval_turn HC.out hp.symm
            have HLN := aside hln
            have hl3 : l2.length ≤ 1500000000000 := by omega
            clear hs hp hl2' hln
            have S' := S.below kx
            have K' := K.below kx
            have I0' := I0.below kx
            have B0' := B0.below kx
            have I1' := I1.below kx
            have B9' := B9.below kx
            have b' := b.trans (kx.mono b.size)
            clear S K I0 B0 I1 B9 b kx
            have S := S'
            have K := K'
            have I0 := I0'
            have B0 := B0'
            have I1 := I1'
            have B9 := B9'
            have b := b'
            clear S' K' I0' B0' I1' B9' b'
            have qs := E.eval A2 c2 l2 _ Y2 hl3 K
            rw [hev] at qs
            unfold StW.New at qs
            simp only [Option.isSome_some, if_true, Option.getD_some] at qs
            go_wp2_with (first | go_skip)
            refine qs.mono ?_
            clear qs
            rintro e wx ⟨v2, rfl, h2, I2, kx⟩
            have H2 := aside h2
            clear h2 hev hl3
            have S' := S.below kx
            have K' := K.below kx
            have I0' := I0.below kx
            have B0' := B0.below kx
            have I1' := I1.below kx
            have B9' := B9.below kx
            have Y2' := Y2.below kx
            have b' := b.trans (kx.mono b.size)
            clear S K I0 B0 I1 B9 Y2 b kx
            have S := S'
            have K := K'
            have I0 := I0'
            have B0 := B0'
            have I1 := I1'
            have B9 := B9'
            have Y2 := Y2'
            have b := b'
            clear S' K' I0' B0' I1' B9' Y2' b'
            clear Y2
            go_wp2_with (first | go_skip | (refine Cel.wpList_store_new SE rfl _ _ rfl wx _ _ rfl v2 _ rfl rfl rfl rfl ?_; intro wy B2 ky g4 s4; clear g4 s4; have B0' := B0.below ky; have B9' := B9.below ky) | (refine CelG.gload SE _ rfl _ rfl v0 B0' rfl ?_) | (refine CelG.gload SE _ rfl _ rfl v1 B9' rfl ?_))
            clear B0' B9'
            have S' := S.below ky
            have K' := K.below ky
            have I0' := I0.below ky
            have B0' := B0.below ky
            have I1' := I1.below ky
            have B9' := B9.below ky
            have I2' := I2.below ky
            have b' := b.trans (ky.mono b.size)
            clear S K I0 B0 I1 B9 I2 b ky
            have S := S'
            have K := K'
            have I0 := I0'
            have B0 := B0'
            have I1 := I1'
            have B9 := B9'
            have I2 := I2'
            have b := b'
            clear S' K' I0' B0' I1' B9' I2' b'
            have qs := StE.same_ret v0 v1 _ I0 I1
            rw [H0.out, H1.out, same_self] at qs
            refine qs.mono ?_
            clear qs
            rintro e wx ⟨rfl, kx⟩
            have S' := S.below kx
            have K' := K.below kx
            have I0' := I0.below kx
            have B0' := B0.below kx
            have I1' := I1.below kx
            have B9' := B9.below kx
            have I2' := I2.below kx
            have B2' := B2.below kx
            have b' := b.trans (kx.mono b.size)
            clear S K I0 B0 I1 B9 I2 B2 b kx
            have S := S'
            have K := K'
            have I0 := I0'
            have B0 := B0'
            have I1 := I1'
            have B9 := B9'
            have I2 := I2'
            have B2 := B2'
            have b := b'
            clear S' K' I0' B0' I1' B9' I2' B2' b'
            go_wp2_with (first | go_skip | (refine CelG.gload SE _ rfl _ rfl v0 B0 rfl ?_) | (refine CelG.gload SE _ rfl _ rfl v2 B2 rfl ?_))
            have qs := StE.same_ret v0 v2 _ I0 I2
            rw [H0.out, H2.out, same_self] at qs
            refine qs.mono ?_
            clear qs
            rintro e wx ⟨rfl, kx⟩
            have S' := S.below kx
            have K' := K.below kx
            have I0' := I0.below kx
            have B0' := B0.below kx
            have I1' := I1.below kx
            have B9' := B9.below kx
            have I2' := I2.below kx
            have B2' := B2.below kx
            have b' := b.trans (kx.mono b.size)
            clear S K I0 B0 I1 B9 I2 B2 b kx
            have S := S'
            have K := K'
            have I0 := I0'
            have B0 := B0'
            have I1 := I1'
            have B9 := B9'
            have I2 := I2'
            have B2 := B2'
            have b := b'
            clear S' K' I0' B0' I1' B9' I2' B2' b'
            go_wp2_with (first | go_skip)
            go_ret
            exact ⟨rfl, b⟩
        · skip
          go_wp2_with fail
          refine Forks.on ?_
          (try simp only [Act.put, List.setIfInBounds_toArray, List.set_cons_succ, List.set_cons_zero])
          have B9 : Cel.Box SE (wz.alloc (.cells #[.slice none 0 0, .slice none 0 0, .slice none 0 0] 30)) wz.heap.size noV := Cel.Box.new (E := SE) wz noV _
          have k1 := StW.below_alloc wz (.cells #[.slice none 0 0, .slice none 0 0, .slice none 0 0] 30)
          have hg9 := kz.size
          have kz' := kz.trans (k1.mono kz.size)
          clear kz
          have kz := kz'
          clear kz'
          generalize hwa : wz.alloc (.cells #[.slice none 0 0, .slice none 0 0, .slice none 0 0] 30) = wa at *
          clear hwa k1
          have ka := kz
          have hza : wz.heap.size < wa.heap.size := B9.lt
          refine Forks.acts rfl ?_
          go_wp2_with (first | (refine RowS.wpList_append KE rfl (.const (.slice none 0 0)) (.tmp 46) rfl wa.heap.size _ 0 [] rfl ⟨rfl, .inl ⟨rfl, rfl⟩⟩ qA (l0.length - i) qc (l0.drop i) rfl (by rw [List.length_drop]) (Q.below kz).row (by omega) (Nat.le_refl _) ?_; intro v8 w8 o8 g8))
          refine Forks.on ?_
          (try simp only [Act.put, List.setIfInBounds_toArray, List.set_cons_succ, List.set_cons_zero])
          have kA := below_grown (Below.refl wa.heap.size wa) (Nat.le_refl _) g8 (fun q hq => by cases hq)
          have B9' := Cel.Box.kept B9 g8 (fun e => by cases e)
          clear B9
          have B9 := B9'
          clear B9'
          have kz' := kz.trans (kA.mono kz.size)
          clear kz
          have kz := kz'
          clear kz' g8
          refine Forks.acts rfl ?_
          go_wp2_with (first | (refine RowS.wpList_append KE rfl (.tmp 47) (.tmp 50) rfl wa.heap.size _ (0 + (l0.length - i)) ([] ++ l0.drop i) rfl o8 rA i rc (l0.take i) rfl (by rw [List.length_take]; omega) (R.below kz).row (by omega) kA.size ?_; intro v9 w9 o9 g9))
          refine Forks.on ?_
          (try simp only [Act.put, List.setIfInBounds_toArray, List.set_cons_succ, List.set_cons_zero])
          have B9' := Cel.Box.kept B9 g9 (fun e => by have h1 := o8.lt _ e.symm; omega)
          clear B9
          have B9 := B9'
          clear B9'
          have kA' := below_grown kA kA.size g9 (fun q hq => (o8.lt q hq).1)
          have kz' : Below wz.heap.size wz w9 := (ka.trans (kA'.mono ka.size))
          clear kz kA o8 g9
          have kz := kz'
          clear kz' kA'
          rw [List.nil_append, HM.out] at o9
          obtain ⟨A9, c9, rfl, Y⟩ := DgF.own_in o9 (fun v hv => ⟨((S.below kz).each v (HMO.out v hv)).1, ((S.below kz).each v (HMO.out v hv)).2⟩)
          clear o9
          refine Forks.acts rfl ?_
          have qs := E.eval A9 c9 m _ Y (by rw [HMN.out]; omega) (K.below kz)
          rw [HME.out] at qs
          unfold StW.New at qs
          simp only [Option.isSome_some, if_true, Option.getD_some] at qs
          go_wp2_with fail
          refine qs.mono ?_
          clear qs
          rintro e w10 ⟨v1, rfl, h1, I1, kx⟩
          have H1 := aside h1
          clear h1
          have B9' := B9.below kx
          clear B9
          have B9 := B9'
          clear B9'
          have kz' := kz.trans (kx.mono kz.size)
          clear kz kx Y
          have kz := kz'
          clear kz'
          go_wp2_with fail
          refine Forks.on ?_
          (try simp only [Act.put, List.setIfInBounds_toArray, List.set_cons_succ, List.set_cons_zero])
          repeat (refine Forks.reads rfl rfl ?_; go_big_quiet_step (fail); refine wpQuiet_nil ?_)
          refine Forks.acts rfl ?_
          go_wp2_with (first | (refine Cel.wpList_store_box SE rfl _ _ rfl wz.heap.size rfl noV B9 v1 rfl ?_; intro wy B9' kb gb sb))
          refine Forks.on ?_
          (try simp only [Act.put])
          have I1' := I1.kept B9 gb
          have kx := kz.trans (kb wz.heap.size hg9)
          clear I1 B9 gb sb kb kz hg9
          have I1 := I1'
          have B9 := B9'
          clear I1' B9'
          repeat (refine Forks.reads rfl rfl ?_; go_big_quiet_step (fail); refine wpQuiet_nil ?_)
          refine Forks.ends ?_
          have S' := S.below kx
          have K' := K.below kx
          have I0' := I0.below kx
          have B0' := B0.below kx
          have b' := b.trans (kx.mono b.size)
          clear S K I0 B0 b kx
          have S := S'
          have K := K'
          have I0 := I0'
          have B0 := B0'
          have b := b'
          clear S' K' I0' B0' b'
          go_wp2_with (first | go_skip)
          refine (DhD.sorted_ret X a0 cap0 l0 _ S (by omega) K).mono ?_
          rintro e wx ⟨m2, hs, A2, c2, l2, rfl, Y2, hl2', kx⟩
          unfold DgS.IsSorted at hs
          rw [if_pos HC.out] at hs
          have hp := EaG.sorted_perm HC.out hs.1 hs.2
          rw [← hl2'] at hp
          have hln : l2.length = l0.length := by have := hp.length_eq; rwa [coms_len, coms_len] at this
          have hev := eval_turn HC.out hp.symm
          have HLN := aside hln
          have hl3 : l2.length ≤ 1500000000000 := by omega
          clear hs hp hl2' hln
          have S' := S.below kx
          have K' := K.below kx
          have I0' := I0.below kx
          have B0' := B0.below kx
          have I1' := I1.below kx
          have B9' := B9.below kx
          have b' := b.trans (kx.mono b.size)
          clear S K I0 B0 I1 B9 b kx
          have S := S'
          have K := K'
          have I0 := I0'
          have B0 := B0'
          have I1 := I1'
          have B9 := B9'
          have b := b'
          clear S' K' I0' B0' I1' B9' b'
          have qs := E.eval A2 c2 l2 _ Y2 hl3 K
          rw [hev] at qs
          unfold StW.New at qs
          simp only [Option.isSome_some, if_true, Option.getD_some] at qs
          go_wp2_with (first | go_skip)
          refine qs.mono ?_
          clear qs
          rintro e wx ⟨v2, rfl, h2, I2, kx⟩
          have H2 := aside h2
          clear h2 hev hl3
          have S' := S.below kx
          have K' := K.below kx
          have I0' := I0.below kx
          have B0' := B0.below kx
          have I1' := I1.below kx
          have B9' := B9.below kx
          have Y2' := Y2.below kx
          have b' := b.trans (kx.mono b.size)
          clear S K I0 B0 I1 B9 Y2 b kx
          have S := S'
          have K := K'
          have I0 := I0'
          have B0 := B0'
          have I1 := I1'
          have B9 := B9'
          have Y2 := Y2'
          have b := b'
          clear S' K' I0' B0' I1' B9' Y2' b'
          clear Y2
          go_wp2_with (first | go_skip | (refine Cel.wpList_store_new SE rfl _ _ rfl wx _ _ rfl v2 _ rfl rfl rfl rfl ?_; intro wy B2 ky g4 s4; clear g4 s4; have B0' := B0.below ky; have B9' := B9.below ky) | (refine CelG.gload SE _ rfl _ rfl v0 B0' rfl ?_) | (refine CelG.gload SE _ rfl _ rfl v1 B9' rfl ?_))
          clear B0' B9'
          have S' := S.below ky
          have K' := K.below ky
          have I0' := I0.below ky
          have B0' := B0.below ky
          have I1' := I1.below ky
          have B9' := B9.below ky
          have I2' := I2.below ky
          have b' := b.trans (ky.mono b.size)
          clear S K I0 B0 I1 B9 I2 b ky
          have S := S'
          have K := K'
          have I0 := I0'
          have B0 := B0'
          have I1 := I1'
          have B9 := B9'
          have I2 := I2'
          have b := b'
          clear S' K' I0' B0' I1' B9' I2' b'
          have qs := StE.same_ret v0 v1 _ I0 I1
          rw [H0.out, H1.out, same_self] at qs
          refine qs.mono ?_
          clear qs
          rintro e wx ⟨rfl, kx⟩
          have S' := S.below kx
          have K' := K.below kx
          have I0' := I0.below kx
          have B0' := B0.below kx
          have I1' := I1.below kx
          have B9' := B9.below kx
          have I2' := I2.below kx
          have B2' := B2.below kx
          have b' := b.trans (kx.mono b.size)
          clear S K I0 B0 I1 B9 I2 B2 b kx
          have S := S'
          have K := K'
          have I0 := I0'
          have B0 := B0'
          have I1 := I1'
          have B9 := B9'
          have I2 := I2'
          have B2 := B2'
          have b := b'
          clear S' K' I0' B0' I1' B9' I2' B2' b'
          go_wp2_with (first | go_skip | (refine CelG.gload SE _ rfl _ rfl v0 B0 rfl ?_) | (refine CelG.gload SE _ rfl _ rfl v2 B2 rfl ?_))
          have qs := StE.same_ret v0 v2 _ I0 I2
          rw [H0.out, H2.out, same_self] at qs
          refine qs.mono ?_
          clear qs
          rintro e wx ⟨rfl, kx⟩
          have S' := S.below kx
          have K' := K.below kx
          have I0' := I0.below kx
          have B0' := B0.below kx
          have I1' := I1.below kx
          have B9' := B9.below kx
          have I2' := I2.below kx
          have B2' := B2.below kx
          have b' := b.trans (kx.mono b.size)
          clear S K I0 B0 I1 B9 I2 B2 b kx
          have S := S'
          have K := K'
          have I0 := I0'
          have B0 := B0'
          have I1 := I1'
          have B9 := B9'
          have I2 := I2'
          have B2 := B2'
          have b := b'
          clear S' K' I0' B0' I1' B9' I2' B2' b'
          go_wp2_with (first | go_skip)
          go_ret
          exact ⟨rfl, b⟩
end Go.Proofs.YtgmdhaepiclkcaaGreatDoor.EbO
