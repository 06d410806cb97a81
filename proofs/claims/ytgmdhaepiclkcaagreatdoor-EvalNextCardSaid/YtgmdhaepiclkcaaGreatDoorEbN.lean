/- EvalNext's walk, over contracts: the state behind what comes next is what the operation makes of the state. No condition. -/
import Derived.Test.YtgmdhaepiclkcaaGreatDoorEaAJ11
import Derived.Test.YtgmdhaepiclkcaaGreatDoorStLJ9
import Derived.Test.YtgmdhaepiclkcaaGreatDoorDhBJ4
import Derived.Test.YtgmdhaepiclkcaaGreatDoorOpenEJ4
import Derived.Test.YtgmdhaepiclkcaaGreatDoorRowFJ10
import Derived.Test.YtgmdhaepiclkcaaGreatDoorStK
import Derived.Test.YtgmdhaepiclkcaaGreatDoorLayCompSJ7
import Derived.Test.YtgmdhaepiclkcaaGreatDoorRowBJ2
namespace Go.Proofs.YtgmdhaepiclkcaaGreatDoor.EbN
set_option maxRecDepth 100000
open Go Go.Sort Go.RowKit Byt IdM IdW OpsM OpsW CmM StW CmW CmX CmY CmA DgM DgW DgR DgF DgG FrM FrN FrJ FrH FrU EaM EaN EaH EaW FrY FrZ OpenE RowS
open Classical
def tree : GrowU.Tree := .free 0 (.free 2 (.three 1 (.two 3 (.two 4 (.two 5 (.free 6 (.free 7 (.free 8 (.act 9 (.act 10 (.free 11 .ends)))))) 9 (.act 5 (.free 6 (.free 7 (.free 8 (.act 10 (.free 11 .ends))))))) 9 (.act 4 (.act 5 (.free 6 (.free 7 (.free 8 (.act 10 (.free 11 .ends)))))))) 9 (.act 3 (.act 4 (.act 5 (.free 6 (.free 7 (.free 8 (.act 10 (.free 11 .ends))))))))) 3 (.two 1 (.two 4 (.two 5 (.free 6 (.free 7 (.free 8 (.act 9 (.act 10 (.free 11 .ends)))))) 9 (.act 5 (.free 6 (.free 7 (.free 8 (.act 10 (.free 11 .ends))))))) 9 (.act 4 (.act 5 (.free 6 (.free 7 (.free 8 (.act 10 (.free 11 .ends)))))))) 9 (.act 1 (.act 4 (.act 5 (.free 6 (.free 7 (.free 8 (.act 10 (.free 11 .ends))))))))) 9 (.two 1 (.act 3 (.act 4 (.act 5 (.free 6 (.free 7 (.free 8 (.act 10 (.free 11 .ends)))))))) 3 (.act 1 (.act 4 (.act 5 (.free 6 (.free 7 (.free 8 (.act 10 (.free 11 .ends)))))))))))
section
variable {P : Program} {Q : Exit → Act → World → Prop} {B : Nat} {α : Type}
theorem given_box (E : Cel.Cel α) {l : List Oper} {i : Nat} {o : Oper} {t : GrowU.Tree} {a : Act} {w : World} (hn : Grow.nth l i = some o) (hgd : o.guard = none) (x : Operand) (ho : o.op = .load E.T x)
   (g : Nat) (hx : a.eval x = .pointer (some ⟨g, 0, none⟩)) (y : α) (hb : Cel.Box E w g y) (hg : g < B) (h : GrowU.Seq B Tryz.prog l.toArray Q t (a.put o.dst (.agg (E.enc y).toArray)) w) : GrowU.Seq B Tryz.prog l.toArray Q (.free i t) a w :=
 GrowU.given hn hgd _ (fun u hu => by
   have q := Cel.range_load E (hb.block hu hg).range
   unfold execOp
   simp only [ho, hx, Sem.run_bind, q, Result.andThen_ok, Sem.run_pure]) h
end
set_option maxRecDepth 100000 in
set_option maxHeartbeats 32000000 in
theorem walk (E : Two) (X : DhA.KnownRet) (HA : EaA.AwakeRet) (a0 : Option Addr) (cap0 : Nat) (l0 : List Cv) (ev : Ev) (o : Opn) (w : World) (S : SlK w a0 cap0 l0) (ge : GoodE ev) (go : OpsC.Fit o) (K : ShaE.KIn w) :
   Calls Tryz.prog 5 #[.slice a0 l0.length cap0, .agg (ec ev), .agg (opc o)] w fun e w' => e = .returned (.bool true) ∧ Below w.heap.size w w' := by
 have hmax := S.len
 have hfk : (o.key.size : Int) ≤ 9223372036854775807 := by have := go.key; unfold maxLen at this; omega
 have hfe : (o.elem.size : Int) ≤ 9223372036854775807 := by have := go.elem; unfold maxLen at this; omega
 have HW := aside (wide_all fun v hv => (S.each v hv).2)
 obtain ⟨BE, BO⟩ := W2_boxes w ev o
 have b := W2_below w ev o
 have S' := S.below b
 have K' := K.below b
 have GE := aside ge
 have GO := aside go
 clear S K ge go
 have S := S'
 have K := K'
 clear S' K'
 go_enter Tryz.func5, Tryz.ntmps5
 go_wp2_with (first | go_skip)
 refine (HA _ K).mono ?_
 rintro e wx ⟨rfl, kx⟩
 replace S := S.below kx; replace K := K.below kx; replace BE := BE.below kx; replace BO := BO.below kx; replace b := b.trans (kx.mono b.size); clear kx
 go_wp2_with (first | go_skip)
 obtain ⟨f, hf⟩ : ∃ f, fewD (coms l0) 10 = f := ⟨_, rfl⟩
 have qs := DgR.few_ret a0 cap0 l0 10 _ S
 rw [hf] at qs
 refine qs.mono ?_
 clear qs
 rintro e w2 ⟨rfl, kx⟩
 replace S := S.below kx; replace K := K.below kx; replace BE := BE.below kx; replace BO := BO.below kx; replace b := b.trans (kx.mono b.size); clear kx
 have ck : w2.cell? ⟨w.heap.size + 1, 1, none⟩ = some (.string o.key) := BO.cell (j := 1) rfl
 have ce : w2.cell? ⟨w.heap.size + 1, 2, none⟩ = some (.string o.elem) := BO.cell (j := 2) rfl
 cases f with
 | false =>
   go_wp2_with (first | go_skip)
   go_ret
   exact ⟨rfl, b⟩
 | true =>
   have hw : (100 : Int) < o.key.size ∨ (¬ (100 : Int) < o.key.size ∧ (100 : Int) < o.elem.size) ∨ (¬ (100 : Int) < o.key.size ∧ ¬ (100 : Int) < o.elem.size) := by omega
   rcases hw with p3 | ⟨p3, p4⟩ | ⟨p3, p4⟩
   case inl =>
     go_wp2_with (first | go_skip)
     go_ret
     exact ⟨rfl, b⟩
   case inr.inl =>
     go_wp2_with (first | go_skip)
     go_ret
     exact ⟨rfl, b⟩
   case inr.inr =>
     obtain ⟨ho, hl⟩ := okay_few (fun v hv => (S.each v hv).2) hf
     have hl2 : l0.length ≤ 1000 := by omega
     have hl1 : l0.length ≤ 100 := by omega
     have HO := aside ho
     clear ho hf
     have hk : CmR.Okay ⟨ev.node, ev.seq, 0, [], o⟩ := ⟨⟨GE.out.node, GE.out.seq, by show I64 0; unfold I64; decide, GO.out⟩, by show o.key.size ≤ _; omega, by show o.elem.size ≤ _; omega⟩
     have HKY := aside hk
     clear hk hfk hfe
     have q := FrD.next_ret X a0 cap0 l0 ev o _ S hl1 HKY.out K
     unfold FoundC at q
     obtain ⟨r, hr⟩ : ∃ r, nextC (coms l0) ev o = r := ⟨_, rfl⟩
     rw [hr] at q
     have HR := aside hr
     clear hr
     go_wp2_with (first | go_skip | (refine Cel.wpList_load_box EE rfl _ rfl _ rfl ev BE ?_) | (refine Cel.wpList_load_box OE rfl _ rfl _ rfl o BO ?_))
     clear ck ce p3 p4
     refine q.mono ?_
     clear q
     rintro e wx ⟨v, rfl, hv, IV, FV, kx⟩
     replace S := S.below kx; replace K := K.below kx; replace BE := BE.below kx; replace BO := BO.below kx; replace b := b.trans (kx.mono b.size); clear kx
     cases r with
     | none =>
       clear hv
       go_wp2_with (first | go_skip | (refine Cel.wpList_store_new CE rfl _ _ rfl wx _ _ rfl v _ rfl rfl rfl rfl ?_; intro wy CB ky g4 s4; clear g4 s4))
       go_ret
       exact ⟨rfl, b.trans (ky.mono b.size)⟩
     | some c =>
       have hv2 : v.c = c := hv
       clear hv
       obtain ⟨C, D, hp, hnode, hseq, hop⟩ := next_some HR.out
       subst hv2
       have hdo : StM.doS (evalK hashK (coms l0)) o ev.node ev.seq v.c.gen = some (evalK hashK (coms l0 ++ [v.c])) := by have := do_next C D hp; rwa [hop, hnode, hseq] at this
       have HC := aside C
       have HD := aside D
       have HDO := aside hdo
       clear C D hp hnode hseq hop hdo HR
       simp only [Option.isSome_some]
       go_wp2_with (first | go_skip | (refine Cel.wpList_store_new CE rfl _ _ rfl wx _ _ rfl v _ rfl rfl rfl rfl ?_; intro wy CB ky g4 s4; clear g4 s4))
       replace S := S.below ky; replace K := K.below ky; replace BE := BE.below ky; replace BO := BO.below ky; replace IV := IV.below ky; replace b := b.trans (ky.mono b.size); clear ky
       have qs := E.eval a0 cap0 l0 _ S (by omega) K
       rw [eval_of HC.out] at qs
       unfold StW.New at qs
       simp only [Option.isSome_some, if_true, Option.getD_some] at qs
       go_wp2_with (first | go_skip)
       refine qs.mono ?_
       clear qs
       rintro e wx ⟨v0, rfl, h0, I0, kx⟩
       have H0 := aside h0
       clear h0
       replace S := S.below kx; replace K := K.below kx; replace BE := BE.below kx; replace BO := BO.below kx; replace IV := IV.below kx; replace CB := CB.below kx; replace b := b.trans (kx.mono b.size); clear kx
       go_wp2_with (first | go_skip | (refine Cel.wpList_store_new SE rfl _ _ rfl wx _ _ rfl v0 _ rfl rfl rfl rfl ?_; intro wy B0 ky g4 s4; clear g4 s4))
       replace S := S.below ky; replace K := K.below ky; replace BE := BE.below ky; replace BO := BO.below ky; replace IV := IV.below ky; replace CB := CB.below ky; replace I0 := I0.below ky; replace b := b.trans (ky.mono b.size); clear ky
       refine GrowU.region_to wy.drew.heap.size tree (by kernel_rfl) (by kernel_rfl) rfl (by kernel_rfl) (by intro c a d v w h; cases d <;> exact h) (fun a0 a' w' => ∃ (v1 : Sv) (g : Nat) (x0 x1 x2 x3 x4 x5 x6 x7 x8 : Value), StW.In w' v1 ∧ v1.s = evalK hashK (coms l0 ++ [v.c]) ∧ Cel.Box SE w' g v1 ∧ Below wy.drew.heap.size wy.drew w' ∧ a' = (((((((((((a0.put (some 54) x0).put (some 55) x1).put (some 56) x2).put (some 57) x3).put (some 58) x4).put (some 59) x5).put (some 53) x6).put (some 60) x7).put (some 61) x8).put (some 13) (.pointer (some ⟨g, 0, none⟩))).put (some 14) (.int .i64 0))) ?_ ?_
       case refine_2 =>
         rintro a' w' ⟨v1, g, x0, x1, x2, x3, x4, x5, x6, x7, x8, I1, h1, B9, kz, rfl⟩
         have H1 := aside h1
         clear h1
         have kx := (below_drew1 (Below.refl wy.heap.size wy)).trans kz
         clear kz
         (try simp only [Act.put, List.setIfInBounds_toArray, List.set_cons_succ, List.set_cons_zero])
         replace S := S.below kx; replace K := K.below kx; replace BE := BE.below kx; replace BO := BO.below kx; replace IV := IV.below kx; replace CB := CB.below kx; replace I0 := I0.below kx; replace B0 := B0.below kx; replace b := b.trans (kx.mono b.size); clear kx
         have cg := CmW.cell_gen CB
         go_wp2_with (first | go_skip | (refine Cel.wpList_load_box SE rfl _ rfl _ rfl v0 B0 ?_) | (refine Cel.wpList_load_box EE rfl _ rfl _ rfl ev BE ?_) | (refine Cel.wpList_load_box OE rfl _ rfl _ rfl o BO ?_))
         clear cg
         have qs := StK.do_ret v0 o ev v.c.gen _ I0 (by rw [H0.out]; exact (eval_all HC.out HW.out).2.1) (by rw [H0.out]; exact (eval_all HC.out HW.out).2.2.le (by rw [coms_len]; omega)) GO.out FV.gen GE.out.node GE.out.seq
         rw [H0.out, HDO.out] at qs
         unfold StW.New at qs
         simp only [Option.isSome_some, if_true, Option.getD_some] at qs
         refine qs.mono ?_
         clear qs
         rintro e wx ⟨v3, rfl, h3, I3, kx⟩
         have H3 := aside h3
         clear h3
         replace S := S.below kx; replace K := K.below kx; replace BE := BE.below kx; replace BO := BO.below kx; replace IV := IV.below kx; replace CB := CB.below kx; replace I0 := I0.below kx; replace B0 := B0.below kx; replace I1 := I1.below kx; replace B9 := B9.below kx; replace b := b.trans (kx.mono b.size); clear kx
         go_wp2_with (first | go_skip | (refine Cel.wpList_store_new SE rfl _ _ rfl wx _ _ rfl v3 _ rfl rfl rfl rfl ?_; intro wy B3 ky g4 s4; clear g4 s4; have B9' := B9.below ky) | (refine CelG.gload SE _ rfl _ rfl v3 B3 rfl ?_) | (refine CelG.gload SE _ rfl _ rfl v1 B9' rfl ?_))
         clear B9'
         replace S := S.below ky; replace K := K.below ky; replace BE := BE.below ky; replace BO := BO.below ky; replace IV := IV.below ky; replace CB := CB.below ky; replace I0 := I0.below ky; replace B0 := B0.below ky; replace I1 := I1.below ky; replace B9 := B9.below ky; replace I3 := I3.below ky; replace b := b.trans (ky.mono b.size); clear ky
         have qs := StE.same_ret v1 v3 _ I1 I3
         rw [H1.out, H3.out, same_self] at qs
         refine qs.mono ?_
         clear qs
         rintro e wx ⟨rfl, kx⟩
         replace S := S.below kx; replace K := K.below kx; replace BE := BE.below kx; replace BO := BO.below kx; replace IV := IV.below kx; replace CB := CB.below kx; replace I0 := I0.below kx; replace B0 := B0.below kx; replace I1 := I1.below kx; replace B9 := B9.below kx; replace I3 := I3.below kx; replace B3 := B3.below kx; replace b := b.trans (kx.mono b.size); clear kx
         go_wp2_with (first | go_skip)
         go_ret
         exact ⟨rfl, b⟩
       unfold tree
       have kx := below_drew1 (Below.refl wy.heap.size wy)
       replace S := S.below kx; replace K := K.below kx; replace BE := BE.below kx; replace BO := BO.below kx; replace IV := IV.below kx; replace CB := CB.below kx; replace I0 := I0.below kx; replace B0 := B0.below kx; replace b := b.trans (kx.mono b.size); clear kx
       generalize wy.drew = wz at S K BE BO IV CB I0 B0 b ⊢
       (try simp only [Act.put, List.setIfInBounds_toArray, List.set_cons_succ, List.set_cons_zero])
       repeat (refine GrowU.reads rfl rfl ?_; go_big_quiet_step (fail); refine wpQuiet_nil ?_)
       refine given_box CE rfl rfl _ rfl _ rfl v CB CB.lt ?_
       (try simp only [Act.put, List.setIfInBounds_toArray, List.set_cons_succ, List.set_cons_zero])
       have kz := Below.refl wz.heap.size wz
       refine GrowU.forks3 rfl rfl rfl ?_ ?_ ?_
       · skip
         go_wp2_with (first | (refine RowS.wpList_append KE rfl _ _ rfl wz.heap.size _ 0 [] rfl ⟨rfl, .inl ⟨rfl, rfl⟩⟩ a0 _ cap0 l0 rfl rfl (S.below kz).row (by omega) (Nat.le_refl _) ?_; intro v8 w8 o8 g8))
         have k8 : Below wz.heap.size wz w8 := below_grown (Below.refl _ _) kz.size g8 (fun q hq => by cases hq)
         have kA := below_grown (Below.refl wz.heap.size wz) (Nat.le_refl _) g8 (fun q hq => by cases hq)
         have hzA := kz.size
         clear g8
         refine ⟨k8, ?_⟩
         (try simp only [Act.put, List.setIfInBounds_toArray, List.set_cons_succ, List.set_cons_zero])
         replace kz := kz.trans k8
         clear k8
         refine GrowU.forks rfl rfl ?_ ?_
         · skip
           go_wp2_with (first | go_skip | (refine RowC.wpList_lit1 KE (of_decide_eq_true rfl) rfl _ rfl v rfl ?_; intro w3 Sy k3))
           have k3' : Below wz.heap.size w8 w3 := k3.mono kz.size
           replace o8 := owns_below o8 k3
           replace kA := kA.trans (k3.mono kA.size)
           clear k3
           refine ⟨k3', ?_⟩
           (try simp only [Act.put, List.setIfInBounds_toArray, List.set_cons_succ, List.set_cons_zero])
           replace kz := kz.trans k3'
           clear k3'
           refine GrowU.forks rfl rfl ?_ ?_
           · skip
             go_wp2_with (first | go_skip | (refine RowS.wpList_append KE rfl _ _ rfl wz.heap.size _ _ _ rfl o8 _ _ 1 [v] rfl rfl Sy (by omega) kA.size ?_; intro v9 w9 o9 g9))
             have k9 : Below wz.heap.size w3 w9 := below_grown (Below.refl _ _) kz.size g9 (fun q hq => Nat.le_trans hzA (o8.lt q hq).1)
             clear g9 o8 Sy kA hzA
             refine ⟨k9, ?_⟩
             (try simp only [Act.put, List.setIfInBounds_toArray, List.set_cons_succ, List.set_cons_zero])
             replace kz := kz.trans k9
             clear k9
             rw [List.nil_append] at o9
             obtain ⟨A9, c9, rfl, Y⟩ := sl_both (l := l0) o9 (S.below kz).each (fun x hx => by rw [List.mem_singleton.1 hx]; exact ⟨CmW.In.below IV kz, FV⟩)
             clear o9
             refine GrowU.forks rfl rfl ?_ ?_
             · skip
               have qs := E.eval A9 c9 (l0 ++ [v]) _ Y (by rw [List.length_append, List.length_singleton]; omega) (K.below kz)
               rw [coms_one, eval_of HD.out] at qs
               unfold StW.New at qs
               simp only [Option.isSome_some, if_true, Option.getD_some, List.length_append, List.length_singleton] at qs
               go_wp2_with fail
               refine qs.mono ?_
               clear qs
               rintro e w10 ⟨v1, rfl, h1, I1, kx⟩
               have H1 := aside h1
               clear h1
               have k10 := kx.mono kz.size
               clear kx Y
               go_wp2_with fail
               refine ⟨k10, ?_⟩
               (try simp only [Act.put, List.setIfInBounds_toArray, List.set_cons_succ, List.set_cons_zero])
               replace kz := kz.trans k10
               clear k10
               repeat (refine GrowU.reads rfl rfl ?_; go_big_quiet_step (fail); refine wpQuiet_nil ?_)
               refine GrowU.acts rfl ?_
               go_wp2_with fail
               have k1 := StW.below_alloc w10 (.cells #[.slice none 0 0, .slice none 0 0, .slice none 0 0] 30)
               have hg9 := kz.size
               have B9 : Cel.Box SE (w10.alloc (.cells #[.slice none 0 0, .slice none 0 0, .slice none 0 0] 30)) w10.heap.size noV := Cel.Box.new (E := SE) w10 noV _
               replace I1 := I1.below k1
               have k1' : Below wz.heap.size w10 (w10.alloc (.cells #[.slice none 0 0, .slice none 0 0, .slice none 0 0] 30)) := k1.mono kz.size
               refine ⟨k1', ?_⟩
               (try simp only [Act.put, List.setIfInBounds_toArray, List.set_cons_succ, List.set_cons_zero])
               replace kz := kz.trans k1'
               clear k1 k1'
               generalize hwa : w10.alloc (.cells #[.slice none 0 0, .slice none 0 0, .slice none 0 0] 30) = wa at *
               clear hwa
               refine GrowU.acts rfl ?_
               go_wp2_with (first | (refine Cel.wpList_store_box SE rfl _ _ rfl w10.heap.size rfl noV B9 v1 rfl ?_; intro wy B9' kb gb sb))
               have I1' := I1.kept B9 gb
               have kb' := kb wz.heap.size hg9
               refine ⟨kb', ?_⟩
               (try simp only [Act.put])
               have kx := kz.trans kb'
               clear I1 B9 gb sb kb kb' kz hg9
               have I1 := I1'
               have B9 := B9'
               clear I1' B9'
               repeat (refine GrowU.reads rfl rfl ?_; go_big_quiet_step (fail); refine wpQuiet_nil ?_)
               refine GrowU.ends ?_
               refine ⟨v1, w10.heap.size, ?_⟩
               iterate 9 apply Exists.intro
               refine ⟨I1, H1.out, B9, kx, ?z⟩
               case z => rfl
             · skip
               go_wp2_with fail
               have k1 := StW.below_alloc w9 (.cells #[.slice none 0 0, .slice none 0 0, .slice none 0 0] 30)
               have hg9 := kz.size
               have B9 : Cel.Box SE (w9.alloc (.cells #[.slice none 0 0, .slice none 0 0, .slice none 0 0] 30)) w9.heap.size noV := Cel.Box.new (E := SE) w9 noV _
               replace Y := Y.below k1
               have k1' : Below wz.heap.size w9 (w9.alloc (.cells #[.slice none 0 0, .slice none 0 0, .slice none 0 0] 30)) := k1.mono kz.size
               refine ⟨k1', ?_⟩
               (try simp only [Act.put, List.setIfInBounds_toArray, List.set_cons_succ, List.set_cons_zero])
               replace kz := kz.trans k1'
               clear k1 k1'
               generalize hwa : w9.alloc (.cells #[.slice none 0 0, .slice none 0 0, .slice none 0 0] 30) = wa at *
               clear hwa
               refine GrowU.acts rfl ?_
               have qs := E.eval A9 c9 (l0 ++ [v]) _ Y (by rw [List.length_append, List.length_singleton]; omega) (K.below kz)
               rw [coms_one, eval_of HD.out] at qs
               unfold StW.New at qs
               simp only [Option.isSome_some, if_true, Option.getD_some, List.length_append, List.length_singleton] at qs
               go_wp2_with fail
               refine qs.mono ?_
               clear qs
               rintro e w10 ⟨v1, rfl, h1, I1, kx⟩
               have H1 := aside h1
               clear h1
               replace B9 := B9.below kx
               have k10 := kx.mono kz.size
               clear kx Y
               go_wp2_with fail
               refine ⟨k10, ?_⟩
               (try simp only [Act.put, List.setIfInBounds_toArray, List.set_cons_succ, List.set_cons_zero])
               replace kz := kz.trans k10
               clear k10
               repeat (refine GrowU.reads rfl rfl ?_; go_big_quiet_step (fail); refine wpQuiet_nil ?_)
               refine GrowU.acts rfl ?_
               go_wp2_with (first | (refine Cel.wpList_store_box SE rfl _ _ rfl w9.heap.size rfl noV B9 v1 rfl ?_; intro wy B9' kb gb sb))
               have I1' := I1.kept B9 gb
               have kb' := kb wz.heap.size hg9
               refine ⟨kb', ?_⟩
               (try simp only [Act.put])
               have kx := kz.trans kb'
               clear I1 B9 gb sb kb kb' kz hg9
               have I1 := I1'
               have B9 := B9'
               clear I1' B9'
               repeat (refine GrowU.reads rfl rfl ?_; go_big_quiet_step (fail); refine wpQuiet_nil ?_)
               refine GrowU.ends ?_
               refine ⟨v1, w9.heap.size, ?_⟩
               iterate 9 apply Exists.intro
               refine ⟨I1, H1.out, B9, kx, ?z⟩
               case z => rfl
           · skip
             go_wp2_with fail
             have k1 := StW.below_alloc w3 (.cells #[.slice none 0 0, .slice none 0 0, .slice none 0 0] 30)
             have hg9 := kz.size
             have B9 : Cel.Box SE (w3.alloc (.cells #[.slice none 0 0, .slice none 0 0, .slice none 0 0] 30)) w3.heap.size noV := Cel.Box.new (E := SE) w3 noV _
             have hlt8 := fun q hq => (o8.lt q hq).2
             replace o8 := o8.alloc (.cells #[.slice none 0 0, .slice none 0 0, .slice none 0 0] 30)
             replace kA := kA.trans (k1.mono kA.size)
             replace Sy := Sy.below k1
             have k1' : Below wz.heap.size w3 (w3.alloc (.cells #[.slice none 0 0, .slice none 0 0, .slice none 0 0] 30)) := k1.mono kz.size
             refine ⟨k1', ?_⟩
             (try simp only [Act.put, List.setIfInBounds_toArray, List.set_cons_succ, List.set_cons_zero])
             replace kz := kz.trans k1'
             clear k1 k1'
             generalize hwa : w3.alloc (.cells #[.slice none 0 0, .slice none 0 0, .slice none 0 0] 30) = wa at *
             clear hwa
             refine GrowU.acts rfl ?_
             go_wp2_with (first | go_skip | (refine RowS.wpList_append KE rfl _ _ rfl wz.heap.size _ _ _ rfl o8 _ _ 1 [v] rfl rfl Sy (by omega) kA.size ?_; intro v9 w9 o9 g9))
             have k9 : Below wz.heap.size wa w9 := below_grown (Below.refl _ _) kz.size g9 (fun q hq => Nat.le_trans hzA (o8.lt q hq).1)
             replace B9 := Cel.Box.kept B9 g9 (fun e => by have h1 := o8.lt _ e.symm; have h2 := hlt8 _ e.symm; omega)
             clear g9 o8 Sy kA hzA
             refine ⟨k9, ?_⟩
             (try simp only [Act.put, List.setIfInBounds_toArray, List.set_cons_succ, List.set_cons_zero])
             replace kz := kz.trans k9
             clear k9
             rw [List.nil_append] at o9
             obtain ⟨A9, c9, rfl, Y⟩ := sl_both (l := l0) o9 (S.below kz).each (fun x hx => by rw [List.mem_singleton.1 hx]; exact ⟨CmW.In.below IV kz, FV⟩)
             clear o9
             refine GrowU.acts rfl ?_
             have qs := E.eval A9 c9 (l0 ++ [v]) _ Y (by rw [List.length_append, List.length_singleton]; omega) (K.below kz)
             rw [coms_one, eval_of HD.out] at qs
             unfold StW.New at qs
             simp only [Option.isSome_some, if_true, Option.getD_some, List.length_append, List.length_singleton] at qs
             go_wp2_with fail
             refine qs.mono ?_
             clear qs
             rintro e w10 ⟨v1, rfl, h1, I1, kx⟩
             have H1 := aside h1
             clear h1
             replace B9 := B9.below kx
             have k10 := kx.mono kz.size
             clear kx Y
             go_wp2_with fail
             refine ⟨k10, ?_⟩
             (try simp only [Act.put, List.setIfInBounds_toArray, List.set_cons_succ, List.set_cons_zero])
             replace kz := kz.trans k10
             clear k10
             repeat (refine GrowU.reads rfl rfl ?_; go_big_quiet_step (fail); refine wpQuiet_nil ?_)
             refine GrowU.acts rfl ?_
             go_wp2_with (first | (refine Cel.wpList_store_box SE rfl _ _ rfl w3.heap.size rfl noV B9 v1 rfl ?_; intro wy B9' kb gb sb))
             have I1' := I1.kept B9 gb
             have kb' := kb wz.heap.size hg9
             refine ⟨kb', ?_⟩
             (try simp only [Act.put])
             have kx := kz.trans kb'
             clear I1 B9 gb sb kb kb' kz hg9
             have I1 := I1'
             have B9 := B9'
             clear I1' B9'
             repeat (refine GrowU.reads rfl rfl ?_; go_big_quiet_step (fail); refine wpQuiet_nil ?_)
             refine GrowU.ends ?_
             refine ⟨v1, w3.heap.size, ?_⟩
             iterate 9 apply Exists.intro
             refine ⟨I1, H1.out, B9, kx, ?z⟩
             case z => rfl
         · skip
           go_wp2_with fail
           have k1 := StW.below_alloc w8 (.cells #[.slice none 0 0, .slice none 0 0, .slice none 0 0] 30)
           have hg9 := kz.size
           have B9 : Cel.Box SE (w8.alloc (.cells #[.slice none 0 0, .slice none 0 0, .slice none 0 0] 30)) w8.heap.size noV := Cel.Box.new (E := SE) w8 noV _
           have hlt8 := fun q hq => (o8.lt q hq).2
           replace o8 := o8.alloc (.cells #[.slice none 0 0, .slice none 0 0, .slice none 0 0] 30)
           replace kA := kA.trans (k1.mono kA.size)
           have k1' : Below wz.heap.size w8 (w8.alloc (.cells #[.slice none 0 0, .slice none 0 0, .slice none 0 0] 30)) := k1.mono kz.size
           refine ⟨k1', ?_⟩
           (try simp only [Act.put, List.setIfInBounds_toArray, List.set_cons_succ, List.set_cons_zero])
           replace kz := kz.trans k1'
           clear k1 k1'
           generalize hwa : w8.alloc (.cells #[.slice none 0 0, .slice none 0 0, .slice none 0 0] 30) = wa at *
           clear hwa
           refine GrowU.acts rfl ?_
           go_wp2_with (first | go_skip | (refine RowC.wpList_lit1 KE (of_decide_eq_true rfl) rfl _ rfl v rfl ?_; intro w3 Sy k3))
           have k3' : Below wz.heap.size wa w3 := k3.mono kz.size
           replace o8 := owns_below o8 k3
           replace kA := kA.trans (k3.mono kA.size)
           replace B9 := B9.below k3
           clear k3
           refine ⟨k3', ?_⟩
           (try simp only [Act.put, List.setIfInBounds_toArray, List.set_cons_succ, List.set_cons_zero])
           replace kz := kz.trans k3'
           clear k3'
           refine GrowU.acts rfl ?_
           go_wp2_with (first | go_skip | (refine RowS.wpList_append KE rfl _ _ rfl wz.heap.size _ _ _ rfl o8 _ _ 1 [v] rfl rfl Sy (by omega) kA.size ?_; intro v9 w9 o9 g9))
           have k9 : Below wz.heap.size w3 w9 := below_grown (Below.refl _ _) kz.size g9 (fun q hq => Nat.le_trans hzA (o8.lt q hq).1)
           replace B9 := Cel.Box.kept B9 g9 (fun e => by have h1 := o8.lt _ e.symm; have h2 := hlt8 _ e.symm; omega)
           clear g9 o8 Sy kA hzA
           refine ⟨k9, ?_⟩
           (try simp only [Act.put, List.setIfInBounds_toArray, List.set_cons_succ, List.set_cons_zero])
           replace kz := kz.trans k9
           clear k9
           rw [List.nil_append] at o9
           obtain ⟨A9, c9, rfl, Y⟩ := sl_both (l := l0) o9 (S.below kz).each (fun x hx => by rw [List.mem_singleton.1 hx]; exact ⟨CmW.In.below IV kz, FV⟩)
           clear o9
           refine GrowU.acts rfl ?_
           have qs := E.eval A9 c9 (l0 ++ [v]) _ Y (by rw [List.length_append, List.length_singleton]; omega) (K.below kz)
           rw [coms_one, eval_of HD.out] at qs
           unfold StW.New at qs
           simp only [Option.isSome_some, if_true, Option.getD_some, List.length_append, List.length_singleton] at qs
           go_wp2_with fail
           refine qs.mono ?_
           clear qs
           rintro e w10 ⟨v1, rfl, h1, I1, kx⟩
           have H1 := aside h1
           clear h1
           replace B9 := B9.below kx
           have k10 := kx.mono kz.size
           clear kx Y
           go_wp2_with fail
           refine ⟨k10, ?_⟩
           (try simp only [Act.put, List.setIfInBounds_toArray, List.set_cons_succ, List.set_cons_zero])
           replace kz := kz.trans k10
           clear k10
           repeat (refine GrowU.reads rfl rfl ?_; go_big_quiet_step (fail); refine wpQuiet_nil ?_)
           refine GrowU.acts rfl ?_
           go_wp2_with (first | (refine Cel.wpList_store_box SE rfl _ _ rfl w8.heap.size rfl noV B9 v1 rfl ?_; intro wy B9' kb gb sb))
           have I1' := I1.kept B9 gb
           have kb' := kb wz.heap.size hg9
           refine ⟨kb', ?_⟩
           (try simp only [Act.put])
           have kx := kz.trans kb'
           clear I1 B9 gb sb kb kb' kz hg9
           have I1 := I1'
           have B9 := B9'
           clear I1' B9'
           repeat (refine GrowU.reads rfl rfl ?_; go_big_quiet_step (fail); refine wpQuiet_nil ?_)
           refine GrowU.ends ?_
           refine ⟨v1, w8.heap.size, ?_⟩
           iterate 9 apply Exists.intro
           refine ⟨I1, H1.out, B9, kx, ?z⟩
           case z => rfl
       · skip
         go_wp2_with (first | go_skip | (refine RowC.wpList_lit1 KE (of_decide_eq_true rfl) rfl _ rfl v rfl ?_; intro w3 Sy k3))
         have k3' : Below wz.heap.size wz w3 := k3.mono kz.size
         clear k3
         refine ⟨k3', ?_⟩
         (try simp only [Act.put, List.setIfInBounds_toArray, List.set_cons_succ, List.set_cons_zero])
         replace kz := kz.trans k3'
         clear k3'
         refine GrowU.forks rfl rfl ?_ ?_
         · skip
           go_wp2_with (first | (refine RowS.wpList_append KE rfl _ _ rfl w3.heap.size _ 0 [] rfl ⟨rfl, .inl ⟨rfl, rfl⟩⟩ a0 _ cap0 l0 rfl rfl (S.below kz).row (by omega) (Nat.le_refl _) ?_; intro v8 w8 o8 g8))
           have k8 : Below wz.heap.size w3 w8 := below_grown (Below.refl _ _) kz.size g8 (fun q hq => by cases hq)
           have kA := below_grown (Below.refl w3.heap.size w3) (Nat.le_refl _) g8 (fun q hq => by cases hq)
           have hzA := kz.size
           replace Sy := Sy.below (below_grown (Below.refl w3.heap.size w3) (Nat.le_refl _) g8 (fun q hq => by cases hq))
           clear g8
           refine ⟨k8, ?_⟩
           (try simp only [Act.put, List.setIfInBounds_toArray, List.set_cons_succ, List.set_cons_zero])
           replace kz := kz.trans k8
           clear k8
           refine GrowU.forks rfl rfl ?_ ?_
           · skip
             go_wp2_with (first | go_skip | (refine RowS.wpList_append KE rfl _ _ rfl w3.heap.size _ _ _ rfl o8 _ _ 1 [v] rfl rfl Sy (by omega) kA.size ?_; intro v9 w9 o9 g9))
             have k9 : Below wz.heap.size w8 w9 := below_grown (Below.refl _ _) kz.size g9 (fun q hq => Nat.le_trans hzA (o8.lt q hq).1)
             clear g9 o8 Sy kA hzA
             refine ⟨k9, ?_⟩
             (try simp only [Act.put, List.setIfInBounds_toArray, List.set_cons_succ, List.set_cons_zero])
             replace kz := kz.trans k9
             clear k9
             rw [List.nil_append] at o9
             obtain ⟨A9, c9, rfl, Y⟩ := sl_both (l := l0) o9 (S.below kz).each (fun x hx => by rw [List.mem_singleton.1 hx]; exact ⟨CmW.In.below IV kz, FV⟩)
             clear o9
             refine GrowU.forks rfl rfl ?_ ?_
             · skip
               have qs := E.eval A9 c9 (l0 ++ [v]) _ Y (by rw [List.length_append, List.length_singleton]; omega) (K.below kz)
               rw [coms_one, eval_of HD.out] at qs
               unfold StW.New at qs
               simp only [Option.isSome_some, if_true, Option.getD_some, List.length_append, List.length_singleton] at qs
               go_wp2_with fail
               refine qs.mono ?_
               clear qs
               rintro e w10 ⟨v1, rfl, h1, I1, kx⟩
               have H1 := aside h1
               clear h1
               have k10 := kx.mono kz.size
               clear kx Y
               go_wp2_with fail
               refine ⟨k10, ?_⟩
               (try simp only [Act.put, List.setIfInBounds_toArray, List.set_cons_succ, List.set_cons_zero])
               replace kz := kz.trans k10
               clear k10
               repeat (refine GrowU.reads rfl rfl ?_; go_big_quiet_step (fail); refine wpQuiet_nil ?_)
               refine GrowU.acts rfl ?_
               go_wp2_with fail
               have k1 := StW.below_alloc w10 (.cells #[.slice none 0 0, .slice none 0 0, .slice none 0 0] 30)
               have hg9 := kz.size
               have B9 : Cel.Box SE (w10.alloc (.cells #[.slice none 0 0, .slice none 0 0, .slice none 0 0] 30)) w10.heap.size noV := Cel.Box.new (E := SE) w10 noV _
               replace I1 := I1.below k1
               have k1' : Below wz.heap.size w10 (w10.alloc (.cells #[.slice none 0 0, .slice none 0 0, .slice none 0 0] 30)) := k1.mono kz.size
               refine ⟨k1', ?_⟩
               (try simp only [Act.put, List.setIfInBounds_toArray, List.set_cons_succ, List.set_cons_zero])
               replace kz := kz.trans k1'
               clear k1 k1'
               generalize hwa : w10.alloc (.cells #[.slice none 0 0, .slice none 0 0, .slice none 0 0] 30) = wa at *
               clear hwa
               refine GrowU.acts rfl ?_
               go_wp2_with (first | (refine Cel.wpList_store_box SE rfl _ _ rfl w10.heap.size rfl noV B9 v1 rfl ?_; intro wy B9' kb gb sb))
               have I1' := I1.kept B9 gb
               have kb' := kb wz.heap.size hg9
               refine ⟨kb', ?_⟩
               (try simp only [Act.put])
               have kx := kz.trans kb'
               clear I1 B9 gb sb kb kb' kz hg9
               have I1 := I1'
               have B9 := B9'
               clear I1' B9'
               repeat (refine GrowU.reads rfl rfl ?_; go_big_quiet_step (fail); refine wpQuiet_nil ?_)
               refine GrowU.ends ?_
               refine ⟨v1, w10.heap.size, ?_⟩
               iterate 9 apply Exists.intro
               refine ⟨I1, H1.out, B9, kx, ?z⟩
               case z => rfl
             · skip
               go_wp2_with fail
               have k1 := StW.below_alloc w9 (.cells #[.slice none 0 0, .slice none 0 0, .slice none 0 0] 30)
               have hg9 := kz.size
               have B9 : Cel.Box SE (w9.alloc (.cells #[.slice none 0 0, .slice none 0 0, .slice none 0 0] 30)) w9.heap.size noV := Cel.Box.new (E := SE) w9 noV _
               replace Y := Y.below k1
               have k1' : Below wz.heap.size w9 (w9.alloc (.cells #[.slice none 0 0, .slice none 0 0, .slice none 0 0] 30)) := k1.mono kz.size
               refine ⟨k1', ?_⟩
               (try simp only [Act.put, List.setIfInBounds_toArray, List.set_cons_succ, List.set_cons_zero])
               replace kz := kz.trans k1'
               clear k1 k1'
               generalize hwa : w9.alloc (.cells #[.slice none 0 0, .slice none 0 0, .slice none 0 0] 30) = wa at *
               clear hwa
               refine GrowU.acts rfl ?_
               have qs := E.eval A9 c9 (l0 ++ [v]) _ Y (by rw [List.length_append, List.length_singleton]; omega) (K.below kz)
               rw [coms_one, eval_of HD.out] at qs
               unfold StW.New at qs
               simp only [Option.isSome_some, if_true, Option.getD_some, List.length_append, List.length_singleton] at qs
               go_wp2_with fail
               refine qs.mono ?_
               clear qs
               rintro e w10 ⟨v1, rfl, h1, I1, kx⟩
               have H1 := aside h1
               clear h1
               replace B9 := B9.below kx
               have k10 := kx.mono kz.size
               clear kx Y
               go_wp2_with fail
               refine ⟨k10, ?_⟩
               (try simp only [Act.put, List.setIfInBounds_toArray, List.set_cons_succ, List.set_cons_zero])
               replace kz := kz.trans k10
               clear k10
               repeat (refine GrowU.reads rfl rfl ?_; go_big_quiet_step (fail); refine wpQuiet_nil ?_)
               refine GrowU.acts rfl ?_
               go_wp2_with (first | (refine Cel.wpList_store_box SE rfl _ _ rfl w9.heap.size rfl noV B9 v1 rfl ?_; intro wy B9' kb gb sb))
               have I1' := I1.kept B9 gb
               have kb' := kb wz.heap.size hg9
               refine ⟨kb', ?_⟩
               (try simp only [Act.put])
               have kx := kz.trans kb'
               clear I1 B9 gb sb kb kb' kz hg9
               have I1 := I1'
               have B9 := B9'
               clear I1' B9'
               repeat (refine GrowU.reads rfl rfl ?_; go_big_quiet_step (fail); refine wpQuiet_nil ?_)
               refine GrowU.ends ?_
               refine ⟨v1, w9.heap.size, ?_⟩
               iterate 9 apply Exists.intro
               refine ⟨I1, H1.out, B9, kx, ?z⟩
               case z => rfl
           · skip
             go_wp2_with fail
             have k1 := StW.below_alloc w8 (.cells #[.slice none 0 0, .slice none 0 0, .slice none 0 0] 30)
             have hg9 := kz.size
             have B9 : Cel.Box SE (w8.alloc (.cells #[.slice none 0 0, .slice none 0 0, .slice none 0 0] 30)) w8.heap.size noV := Cel.Box.new (E := SE) w8 noV _
             have hlt8 := fun q hq => (o8.lt q hq).2
             replace o8 := o8.alloc (.cells #[.slice none 0 0, .slice none 0 0, .slice none 0 0] 30)
             replace kA := kA.trans (k1.mono kA.size)
             replace Sy := Sy.below k1
             have k1' : Below wz.heap.size w8 (w8.alloc (.cells #[.slice none 0 0, .slice none 0 0, .slice none 0 0] 30)) := k1.mono kz.size
             refine ⟨k1', ?_⟩
             (try simp only [Act.put, List.setIfInBounds_toArray, List.set_cons_succ, List.set_cons_zero])
             replace kz := kz.trans k1'
             clear k1 k1'
             generalize hwa : w8.alloc (.cells #[.slice none 0 0, .slice none 0 0, .slice none 0 0] 30) = wa at *
             clear hwa
             refine GrowU.acts rfl ?_
             go_wp2_with (first | go_skip | (refine RowS.wpList_append KE rfl _ _ rfl w3.heap.size _ _ _ rfl o8 _ _ 1 [v] rfl rfl Sy (by omega) kA.size ?_; intro v9 w9 o9 g9))
             have k9 : Below wz.heap.size wa w9 := below_grown (Below.refl _ _) kz.size g9 (fun q hq => Nat.le_trans hzA (o8.lt q hq).1)
             replace B9 := Cel.Box.kept B9 g9 (fun e => by have h1 := o8.lt _ e.symm; have h2 := hlt8 _ e.symm; omega)
             clear g9 o8 Sy kA hzA
             refine ⟨k9, ?_⟩
             (try simp only [Act.put, List.setIfInBounds_toArray, List.set_cons_succ, List.set_cons_zero])
             replace kz := kz.trans k9
             clear k9
             rw [List.nil_append] at o9
             obtain ⟨A9, c9, rfl, Y⟩ := sl_both (l := l0) o9 (S.below kz).each (fun x hx => by rw [List.mem_singleton.1 hx]; exact ⟨CmW.In.below IV kz, FV⟩)
             clear o9
             refine GrowU.acts rfl ?_
             have qs := E.eval A9 c9 (l0 ++ [v]) _ Y (by rw [List.length_append, List.length_singleton]; omega) (K.below kz)
             rw [coms_one, eval_of HD.out] at qs
             unfold StW.New at qs
             simp only [Option.isSome_some, if_true, Option.getD_some, List.length_append, List.length_singleton] at qs
             go_wp2_with fail
             refine qs.mono ?_
             clear qs
             rintro e w10 ⟨v1, rfl, h1, I1, kx⟩
             have H1 := aside h1
             clear h1
             replace B9 := B9.below kx
             have k10 := kx.mono kz.size
             clear kx Y
             go_wp2_with fail
             refine ⟨k10, ?_⟩
             (try simp only [Act.put, List.setIfInBounds_toArray, List.set_cons_succ, List.set_cons_zero])
             replace kz := kz.trans k10
             clear k10
             repeat (refine GrowU.reads rfl rfl ?_; go_big_quiet_step (fail); refine wpQuiet_nil ?_)
             refine GrowU.acts rfl ?_
             go_wp2_with (first | (refine Cel.wpList_store_box SE rfl _ _ rfl w8.heap.size rfl noV B9 v1 rfl ?_; intro wy B9' kb gb sb))
             have I1' := I1.kept B9 gb
             have kb' := kb wz.heap.size hg9
             refine ⟨kb', ?_⟩
             (try simp only [Act.put])
             have kx := kz.trans kb'
             clear I1 B9 gb sb kb kb' kz hg9
             have I1 := I1'
             have B9 := B9'
             clear I1' B9'
             repeat (refine GrowU.reads rfl rfl ?_; go_big_quiet_step (fail); refine wpQuiet_nil ?_)
             refine GrowU.ends ?_
             refine ⟨v1, w8.heap.size, ?_⟩
             iterate 9 apply Exists.intro
             refine ⟨I1, H1.out, B9, kx, ?z⟩
             case z => rfl
         · skip
           go_wp2_with fail
           have k1 := StW.below_alloc w3 (.cells #[.slice none 0 0, .slice none 0 0, .slice none 0 0] 30)
           have hg9 := kz.size
           have B9 : Cel.Box SE (w3.alloc (.cells #[.slice none 0 0, .slice none 0 0, .slice none 0 0] 30)) w3.heap.size noV := Cel.Box.new (E := SE) w3 noV _
           replace Sy := Sy.below k1
           have k1' : Below wz.heap.size w3 (w3.alloc (.cells #[.slice none 0 0, .slice none 0 0, .slice none 0 0] 30)) := k1.mono kz.size
           refine ⟨k1', ?_⟩
           (try simp only [Act.put, List.setIfInBounds_toArray, List.set_cons_succ, List.set_cons_zero])
           replace kz := kz.trans k1'
           clear k1 k1'
           generalize hwa : w3.alloc (.cells #[.slice none 0 0, .slice none 0 0, .slice none 0 0] 30) = wa at *
           clear hwa
           refine GrowU.acts rfl ?_
           have hza : w3.heap.size < wa.heap.size := B9.lt
           go_wp2_with (first | (refine RowS.wpList_append KE rfl _ _ rfl wa.heap.size _ 0 [] rfl ⟨rfl, .inl ⟨rfl, rfl⟩⟩ a0 _ cap0 l0 rfl rfl (S.below kz).row (by omega) (Nat.le_refl _) ?_; intro v8 w8 o8 g8))
           have k8 : Below wz.heap.size wa w8 := below_grown (Below.refl _ _) kz.size g8 (fun q hq => by cases hq)
           have kA := below_grown (Below.refl wa.heap.size wa) (Nat.le_refl _) g8 (fun q hq => by cases hq)
           have hzA := kz.size
           replace B9 := Cel.Box.kept B9 g8 (fun e => by cases e)
           replace Sy := Sy.below (below_grown (Below.refl wa.heap.size wa) (Nat.le_refl _) g8 (fun q hq => by cases hq))
           clear g8
           refine ⟨k8, ?_⟩
           (try simp only [Act.put, List.setIfInBounds_toArray, List.set_cons_succ, List.set_cons_zero])
           replace kz := kz.trans k8
           clear k8
           refine GrowU.acts rfl ?_
           go_wp2_with (first | go_skip | (refine RowS.wpList_append KE rfl _ _ rfl wa.heap.size _ _ _ rfl o8 _ _ 1 [v] rfl rfl Sy (by omega) kA.size ?_; intro v9 w9 o9 g9))
           have k9 : Below wz.heap.size w8 w9 := below_grown (Below.refl _ _) kz.size g9 (fun q hq => Nat.le_trans hzA (o8.lt q hq).1)
           replace B9 := Cel.Box.kept B9 g9 (fun e => by have h1 := o8.lt _ e.symm; omega)
           clear g9 o8 Sy kA hzA
           refine ⟨k9, ?_⟩
           (try simp only [Act.put, List.setIfInBounds_toArray, List.set_cons_succ, List.set_cons_zero])
           replace kz := kz.trans k9
           clear k9
           rw [List.nil_append] at o9
           obtain ⟨A9, c9, rfl, Y⟩ := sl_both (l := l0) o9 (S.below kz).each (fun x hx => by rw [List.mem_singleton.1 hx]; exact ⟨CmW.In.below IV kz, FV⟩)
           clear o9
           refine GrowU.acts rfl ?_
           have qs := E.eval A9 c9 (l0 ++ [v]) _ Y (by rw [List.length_append, List.length_singleton]; omega) (K.below kz)
           rw [coms_one, eval_of HD.out] at qs
           unfold StW.New at qs
           simp only [Option.isSome_some, if_true, Option.getD_some, List.length_append, List.length_singleton] at qs
           go_wp2_with fail
           refine qs.mono ?_
           clear qs
           rintro e w10 ⟨v1, rfl, h1, I1, kx⟩
           have H1 := aside h1
           clear h1
           replace B9 := B9.below kx
           have k10 := kx.mono kz.size
           clear kx Y
           go_wp2_with fail
           refine ⟨k10, ?_⟩
           (try simp only [Act.put, List.setIfInBounds_toArray, List.set_cons_succ, List.set_cons_zero])
           replace kz := kz.trans k10
           clear k10
           repeat (refine GrowU.reads rfl rfl ?_; go_big_quiet_step (fail); refine wpQuiet_nil ?_)
           refine GrowU.acts rfl ?_
           go_wp2_with (first | (refine Cel.wpList_store_box SE rfl _ _ rfl w3.heap.size rfl noV B9 v1 rfl ?_; intro wy B9' kb gb sb))
           have I1' := I1.kept B9 gb
           have kb' := kb wz.heap.size hg9
           refine ⟨kb', ?_⟩
           (try simp only [Act.put])
           have kx := kz.trans kb'
           clear I1 B9 gb sb kb kb' kz hg9
           have I1 := I1'
           have B9 := B9'
           clear I1' B9'
           repeat (refine GrowU.reads rfl rfl ?_; go_big_quiet_step (fail); refine wpQuiet_nil ?_)
           refine GrowU.ends ?_
           refine ⟨v1, w3.heap.size, ?_⟩
           iterate 9 apply Exists.intro
           refine ⟨I1, H1.out, B9, kx, ?z⟩
           case z => rfl
       · skip
         go_wp2_with fail
         have k1 := StW.below_alloc wz (.cells #[.slice none 0 0, .slice none 0 0, .slice none 0 0] 30)
         have hg9 := kz.size
         have B9 : Cel.Box SE (wz.alloc (.cells #[.slice none 0 0, .slice none 0 0, .slice none 0 0] 30)) wz.heap.size noV := Cel.Box.new (E := SE) wz noV _
         have k1' : Below wz.heap.size wz (wz.alloc (.cells #[.slice none 0 0, .slice none 0 0, .slice none 0 0] 30)) := k1.mono kz.size
         refine ⟨k1', ?_⟩
         (try simp only [Act.put, List.setIfInBounds_toArray, List.set_cons_succ, List.set_cons_zero])
         replace kz := kz.trans k1'
         clear k1 k1'
         generalize hwa : wz.alloc (.cells #[.slice none 0 0, .slice none 0 0, .slice none 0 0] 30) = wa at *
         clear hwa
         refine GrowU.forks rfl rfl ?_ ?_
         · skip
           have hza : wz.heap.size < wa.heap.size := B9.lt
           go_wp2_with (first | (refine RowS.wpList_append KE rfl _ _ rfl wa.heap.size _ 0 [] rfl ⟨rfl, .inl ⟨rfl, rfl⟩⟩ a0 _ cap0 l0 rfl rfl (S.below kz).row (by omega) (Nat.le_refl _) ?_; intro v8 w8 o8 g8))
           have k8 : Below wz.heap.size wa w8 := below_grown (Below.refl _ _) kz.size g8 (fun q hq => by cases hq)
           have kA := below_grown (Below.refl wa.heap.size wa) (Nat.le_refl _) g8 (fun q hq => by cases hq)
           have hzA := kz.size
           replace B9 := Cel.Box.kept B9 g8 (fun e => by cases e)
           clear g8
           refine ⟨k8, ?_⟩
           (try simp only [Act.put, List.setIfInBounds_toArray, List.set_cons_succ, List.set_cons_zero])
           replace kz := kz.trans k8
           clear k8
           refine GrowU.acts rfl ?_
           go_wp2_with (first | go_skip | (refine RowC.wpList_lit1 KE (of_decide_eq_true rfl) rfl _ rfl v rfl ?_; intro w3 Sy k3))
           have k3' : Below wz.heap.size w8 w3 := k3.mono kz.size
           replace o8 := owns_below o8 k3
           replace kA := kA.trans (k3.mono kA.size)
           replace B9 := B9.below k3
           clear k3
           refine ⟨k3', ?_⟩
           (try simp only [Act.put, List.setIfInBounds_toArray, List.set_cons_succ, List.set_cons_zero])
           replace kz := kz.trans k3'
           clear k3'
           refine GrowU.acts rfl ?_
           go_wp2_with (first | go_skip | (refine RowS.wpList_append KE rfl _ _ rfl wa.heap.size _ _ _ rfl o8 _ _ 1 [v] rfl rfl Sy (by omega) kA.size ?_; intro v9 w9 o9 g9))
           have k9 : Below wz.heap.size w3 w9 := below_grown (Below.refl _ _) kz.size g9 (fun q hq => Nat.le_trans hzA (o8.lt q hq).1)
           replace B9 := Cel.Box.kept B9 g9 (fun e => by have h1 := o8.lt _ e.symm; omega)
           clear g9 o8 Sy kA hzA
           refine ⟨k9, ?_⟩
           (try simp only [Act.put, List.setIfInBounds_toArray, List.set_cons_succ, List.set_cons_zero])
           replace kz := kz.trans k9
           clear k9
           rw [List.nil_append] at o9
           obtain ⟨A9, c9, rfl, Y⟩ := sl_both (l := l0) o9 (S.below kz).each (fun x hx => by rw [List.mem_singleton.1 hx]; exact ⟨CmW.In.below IV kz, FV⟩)
           clear o9
           refine GrowU.acts rfl ?_
           have qs := E.eval A9 c9 (l0 ++ [v]) _ Y (by rw [List.length_append, List.length_singleton]; omega) (K.below kz)
           rw [coms_one, eval_of HD.out] at qs
           unfold StW.New at qs
           simp only [Option.isSome_some, if_true, Option.getD_some, List.length_append, List.length_singleton] at qs
           go_wp2_with fail
           refine qs.mono ?_
           clear qs
           rintro e w10 ⟨v1, rfl, h1, I1, kx⟩
           have H1 := aside h1
           clear h1
           replace B9 := B9.below kx
           have k10 := kx.mono kz.size
           clear kx Y
           go_wp2_with fail
           refine ⟨k10, ?_⟩
           (try simp only [Act.put, List.setIfInBounds_toArray, List.set_cons_succ, List.set_cons_zero])
           replace kz := kz.trans k10
           clear k10
           repeat (refine GrowU.reads rfl rfl ?_; go_big_quiet_step (fail); refine wpQuiet_nil ?_)
           refine GrowU.acts rfl ?_
           go_wp2_with (first | (refine Cel.wpList_store_box SE rfl _ _ rfl wz.heap.size rfl noV B9 v1 rfl ?_; intro wy B9' kb gb sb))
           have I1' := I1.kept B9 gb
           have kb' := kb wz.heap.size hg9
           refine ⟨kb', ?_⟩
           (try simp only [Act.put])
           have kx := kz.trans kb'
           clear I1 B9 gb sb kb kb' kz hg9
           have I1 := I1'
           have B9 := B9'
           clear I1' B9'
           repeat (refine GrowU.reads rfl rfl ?_; go_big_quiet_step (fail); refine wpQuiet_nil ?_)
           refine GrowU.ends ?_
           refine ⟨v1, wz.heap.size, ?_⟩
           iterate 9 apply Exists.intro
           refine ⟨I1, H1.out, B9, kx, ?z⟩
           case z => rfl
         · skip
           go_wp2_with (first | go_skip | (refine RowC.wpList_lit1 KE (of_decide_eq_true rfl) rfl _ rfl v rfl ?_; intro w3 Sy k3))
           have k3' : Below wz.heap.size wa w3 := k3.mono kz.size
           replace B9 := B9.below k3
           clear k3
           refine ⟨k3', ?_⟩
           (try simp only [Act.put, List.setIfInBounds_toArray, List.set_cons_succ, List.set_cons_zero])
           replace kz := kz.trans k3'
           clear k3'
           refine GrowU.acts rfl ?_
           have hza : wz.heap.size < w3.heap.size := B9.lt
           go_wp2_with (first | (refine RowS.wpList_append KE rfl _ _ rfl w3.heap.size _ 0 [] rfl ⟨rfl, .inl ⟨rfl, rfl⟩⟩ a0 _ cap0 l0 rfl rfl (S.below kz).row (by omega) (Nat.le_refl _) ?_; intro v8 w8 o8 g8))
           have k8 : Below wz.heap.size w3 w8 := below_grown (Below.refl _ _) kz.size g8 (fun q hq => by cases hq)
           have kA := below_grown (Below.refl w3.heap.size w3) (Nat.le_refl _) g8 (fun q hq => by cases hq)
           have hzA := kz.size
           replace B9 := Cel.Box.kept B9 g8 (fun e => by cases e)
           replace Sy := Sy.below (below_grown (Below.refl w3.heap.size w3) (Nat.le_refl _) g8 (fun q hq => by cases hq))
           clear g8
           refine ⟨k8, ?_⟩
           (try simp only [Act.put, List.setIfInBounds_toArray, List.set_cons_succ, List.set_cons_zero])
           replace kz := kz.trans k8
           clear k8
           refine GrowU.acts rfl ?_
           go_wp2_with (first | go_skip | (refine RowS.wpList_append KE rfl _ _ rfl w3.heap.size _ _ _ rfl o8 _ _ 1 [v] rfl rfl Sy (by omega) kA.size ?_; intro v9 w9 o9 g9))
           have k9 : Below wz.heap.size w8 w9 := below_grown (Below.refl _ _) kz.size g9 (fun q hq => Nat.le_trans hzA (o8.lt q hq).1)
           replace B9 := Cel.Box.kept B9 g9 (fun e => by have h1 := o8.lt _ e.symm; omega)
           clear g9 o8 Sy kA hzA
           refine ⟨k9, ?_⟩
           (try simp only [Act.put, List.setIfInBounds_toArray, List.set_cons_succ, List.set_cons_zero])
           replace kz := kz.trans k9
           clear k9
           rw [List.nil_append] at o9
           obtain ⟨A9, c9, rfl, Y⟩ := sl_both (l := l0) o9 (S.below kz).each (fun x hx => by rw [List.mem_singleton.1 hx]; exact ⟨CmW.In.below IV kz, FV⟩)
           clear o9
           refine GrowU.acts rfl ?_
           have qs := E.eval A9 c9 (l0 ++ [v]) _ Y (by rw [List.length_append, List.length_singleton]; omega) (K.below kz)
           rw [coms_one, eval_of HD.out] at qs
           unfold StW.New at qs
           simp only [Option.isSome_some, if_true, Option.getD_some, List.length_append, List.length_singleton] at qs
           go_wp2_with fail
           refine qs.mono ?_
           clear qs
           rintro e w10 ⟨v1, rfl, h1, I1, kx⟩
           have H1 := aside h1
           clear h1
           replace B9 := B9.below kx
           have k10 := kx.mono kz.size
           clear kx Y
           go_wp2_with fail
           refine ⟨k10, ?_⟩
           (try simp only [Act.put, List.setIfInBounds_toArray, List.set_cons_succ, List.set_cons_zero])
           replace kz := kz.trans k10
           clear k10
           repeat (refine GrowU.reads rfl rfl ?_; go_big_quiet_step (fail); refine wpQuiet_nil ?_)
           refine GrowU.acts rfl ?_
           go_wp2_with (first | (refine Cel.wpList_store_box SE rfl _ _ rfl wz.heap.size rfl noV B9 v1 rfl ?_; intro wy B9' kb gb sb))
           have I1' := I1.kept B9 gb
           have kb' := kb wz.heap.size hg9
           refine ⟨kb', ?_⟩
           (try simp only [Act.put])
           have kx := kz.trans kb'
           clear I1 B9 gb sb kb kb' kz hg9
           have I1 := I1'
           have B9 := B9'
           clear I1' B9'
           repeat (refine GrowU.reads rfl rfl ?_; go_big_quiet_step (fail); refine wpQuiet_nil ?_)
           refine GrowU.ends ?_
           refine ⟨v1, wz.heap.size, ?_⟩
           iterate 9 apply Exists.intro
           refine ⟨I1, H1.out, B9, kx, ?z⟩
           case z => rfl
end Go.Proofs.YtgmdhaepiclkcaaGreatDoor.EbN
