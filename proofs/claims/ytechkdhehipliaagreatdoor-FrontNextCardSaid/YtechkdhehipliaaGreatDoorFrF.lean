/- FrontNext's walk, over contracts: what comes next knows all, and is the head then. No condition. -/
import Derived.Test.YtechkdhehipliaaGreatDoorDgGJ4
import Derived.Test.YtechkdhehipliaaGreatDoorFrXJ4
import Derived.Test.YtechkdhehipliaaGreatDoorFrTJ2
import Derived.Test.YtechkdhehipliaaGreatDoorCmAJ2
import Derived.Test.YtechkdhehipliaaGreatDoorRowFJ7
import Derived.Test.YtechkdhehipliaaGreatDoorCmRJ3
namespace Go.Proofs.YtechkdhehipliaaGreatDoor.FrF
set_option maxRecDepth 100000
open Go Go.Sort Go.RowKit Byt IdM IdW OpsM OpsW CmM StW CmW CmX CmY CmA DgM DgW DgR DgF DgG FrM FrN FrJ FrH FrU FrY FrZ OpenE RowS
open Classical

def tree : Forks.Tree := .free 0 (.free 2 (.two 1 (.act 3 (.act 4 (.act 5 .ends))) 3 (.act 1 (.act 4 (.act 5 .ends)))))
section
variable {ops : Array Oper} {rest : List Oper} {o : Oper} {a : Act} {w : World} {Q : Exit → Act → World → Prop}
theorem gev (x : Operand) (ho : o.op = .load 34 x)
    (g : Nat) (hx : a.eval x = .pointer (some ⟨g, 0, none⟩)) (y : Ev) (hb : Cel.Box EE w g y) (hw : Region.wanted o (yielded ops a.tmps) = true) (h : wpList Tryz.prog ops Q rest (a.put o.dst (.agg #[.int .i64 y.node, .int .i64 y.seq])) w) : wpList Tryz.prog ops Q (o :: rest) a w :=
  RowC.unguard hw (Cel.wpList_load_box EE rfl x ho g hx y hb h)
theorem gop (x : Operand) (ho : o.op = .load 36 x)
    (g : Nat) (hx : a.eval x = .pointer (some ⟨g, 0, none⟩)) (y : Opn) (hb : Cel.Box OE w g y) (hw : Region.wanted o (yielded ops a.tmps) = true) (h : wpList Tryz.prog ops Q rest (a.put o.dst (.agg (opc y))) w) : wpList Tryz.prog ops Q (o :: rest) a w :=
  RowC.unguard hw (Cel.wpList_load_box OE rfl x ho g hx y hb h)
end
theorem anc_of_next {l : List Com} {c : Com} (C : Closed hashK l) (D : Closed hashK (l ++ [c])) (hp : c.ps = front hashK l) : (ancC (l ++ [c]) [hashK c]).length = l.length + 1 := by
  rw [ancC, if_pos D, anc_next C D hp, List.length_append, List.length_singleton]
set_option maxRecDepth 100000 in
set_option maxHeartbeats 32000000 in
theorem walk (X : Three) (F : Five) (HA : AwakeRet) (a0 : Option Addr) (cap0 : Nat) (l0 : List Cv) (ev : Ev) (o : Opn) (w : World) (S : SlK w a0 cap0 l0) (ge : GoodE ev) (go : OpsC.Fit o) (K : ShaE.KIn w) :
    Calls Tryz.prog 9 #[.slice a0 l0.length cap0, .agg (ec ev), .agg (opc o)] w fun e w' => e = .returned (.bool true) ∧ Below w.heap.size w w' := by
  have hmax := S.len
  have hfk : (o.key.size : Int) ≤ 9223372036854775807 := by have := go.key; unfold maxLen at this; omega
  have hfe : (o.elem.size : Int) ≤ 9223372036854775807 := by have := go.elem; unfold maxLen at this; omega
  obtain ⟨E, O⟩ := W2_boxes w ev o
  have b := W2_below w ev o
  have S' := S.below b
  have K' := K.below b
  have GE := aside ge
  have GO := aside go
  clear S K ge go
  have S := S'
  have K := K'
  clear S' K'
  go_enter Tryz.func9, Tryz.ntmps9
  go_wp2_with (first | go_skip)
  refine (HA _ K).mono ?_
  rintro e wx ⟨rfl, kx⟩
  have S' := S.below kx
  have K' := K.below kx
  have E' := E.below kx
  have O' := O.below kx
  have b' := b.trans (kx.mono b.size)
  clear S K E O b kx
  have S := S'
  have K := K'
  have E := E'
  have O := O'
  have b := b'
  clear S' K' E' O' b'
  go_wp2_with (first | go_skip)
  obtain ⟨f, hf⟩ : ∃ f, fewD (coms l0) 10 = f := ⟨_, rfl⟩
  have qs := DgR.few_ret a0 cap0 l0 10 _ S
  rw [hf] at qs
  refine qs.mono ?_
  clear qs
  rintro e w2 ⟨rfl, kx⟩
  have S' := S.below kx
  have K' := K.below kx
  have E' := E.below kx
  have O' := O.below kx
  have b' := b.trans (kx.mono b.size)
  clear S K E O b kx
  have S := S'
  have K := K'
  have E := E'
  have O := O'
  have b := b'
  clear S' K' E' O' b'
  have ck : w2.cell? ⟨w.heap.size + 1, 1, none⟩ = some (.string o.key) := O.cell (j := 1) rfl
  have ce : w2.cell? ⟨w.heap.size + 1, 2, none⟩ = some (.string o.elem) := O.cell (j := 2) rfl
  cases f with
  | false =>
    go_wp2_with (first | go_skip)
    go_ret
    exact ⟨rfl, b⟩
  | true =>
    have hw : (100 : Int) < o.key.size ∨ (¬ (100 : Int) < o.key.size ∧ (100 : Int) < o.elem.size) ∨ (¬ (100 : Int) < o.key.size ∧ ¬ (100 : Int) < o.elem.size) := by omega
    rcases hw with p3 | ⟨p3, p4⟩ | ⟨p3, p4⟩
    case inl =>
      go_wp2_with (first | go_skip)
      go_ret
      exact ⟨rfl, b⟩
    case inr.inl =>
      go_wp2_with (first | go_skip)
      go_ret
      exact ⟨rfl, b⟩
    case inr.inr =>
      obtain ⟨ho, hl⟩ := okay_few (fun v hv => (S.each v hv).2) hf
      have hl2 : l0.length ≤ 1000 := by omega
      have hl1 : l0.length ≤ 100 := by omega
      have HO := aside ho
      clear ho hf
      have hk : CmR.Okay ⟨ev.node, ev.seq, 0, [], o⟩ := ⟨⟨GE.out.node, GE.out.seq, by show I64 0; unfold I64; decide, GO.out⟩, by show o.key.size ≤ _; omega, by show o.elem.size ≤ _; omega⟩
      have HKY := aside hk
      have hkz : o.key.size ≤ 1099511627776 := by omega
      have hez : o.elem.size ≤ 1099511627776 := by omega
      have HKZ := aside hkz
      have HEZ := aside hez
      clear hk hfk hfe hkz hez
      have q := F.next a0 cap0 l0 ev o _ S HO.out hl1 HKY.out K
      unfold FoundC at q
      obtain ⟨r, hr⟩ : ∃ r, nextC (coms l0) ev o = r := ⟨_, rfl⟩
      rw [hr] at q
      have HR := aside hr
      clear hr
      go_wp2_with (first | go_skip | (refine Cel.wpList_load_box EE rfl _ rfl _ rfl ev E ?_) | (refine Cel.wpList_load_box OE rfl _ rfl _ rfl o O ?_))
      clear ck ce p3 p4
      refine q.mono ?_
      clear q
      rintro e wx ⟨v, rfl, hv, IV, FV, kx⟩
      have S' := S.below kx
      have K' := K.below kx
      have E' := E.below kx
      have O' := O.below kx
      have b' := b.trans (kx.mono b.size)
      clear S K E O b kx
      have S := S'
      have K := K'
      have E := E'
      have O := O'
      have b := b'
      clear S' K' E' O' b'
      cases r with
      | none =>
        have hv : v.c = noK := hv
        have HV := aside hv
        clear hv
        go_wp2_with (first | go_skip | (refine Cel.wpList_store_new CE rfl _ _ rfl wx _ _ rfl v _ rfl rfl rfl rfl ?_; intro wy CB ky g4 s4; have cg : wy.cell? ⟨wx.heap.size, 2, none⟩ = some (.int .i64 0) := (cell_gen CB).trans (by rw [HV.out]; rfl); have cp : wy.cell? ⟨wx.heap.size, 3, none⟩ = some (.slice v.a 0 v.k) := (cell_ps CB).trans (by rw [HV.out]; rfl); clear g4 s4))
        go_ret
        exact ⟨rfl, b.trans (ky.mono b.size)⟩
      | some c =>
        have hv2 : v.c = c := hv
        clear hv
        obtain ⟨C, D, hp, hnode, hseq, hop⟩ := next_some HR.out
        subst hv2
        have hokv : CmR.Okay v.c := ⟨FV, by rw [hop]; exact HKZ.out, by rw [hop]; exact HEZ.out⟩
        have hhd : headC (coms l0 ++ [v.c]) = some v.c := head_next C D hp
        have han := anc_of_next C D hp
        rw [coms_len] at han
        obtain ⟨y1, y2, y3⟩ := putB_yes (D.may v.c (by simp))
        have qh := fun W I K => CmA.hash_ret v W I FV K
        unfold HashOut at qh
        rw [y2, y3] at qh
        have hcl : decide (Closed hashK (coms l0 ++ [v.c])) = true := decide_eq_true D
        have HOKV := aside hokv
        have HHD := aside hhd
        have HAN := aside han
        have HCL := aside hcl
        have HND := aside hnode
        have HSQ := aside hseq
        have HOP := aside hop
        clear C D hp hnode hseq hop hokv hhd han y1 y2 y3 hcl HR
        obtain ⟨h, hh⟩ : ∃ h, hashK v.c = h := ⟨_, rfl⟩
        rw [hh] at qh HAN
        clear hh
        simp only [Option.isSome_some]
        go_wp2_with (first | go_skip | (refine Cel.wpList_store_new CE rfl _ _ rfl wx _ _ rfl v _ rfl rfl rfl rfl ?_; intro wy CB ky g4 s4; clear g4 s4))
        have S' := S.below ky
        have K' := K.below ky
        have E' := E.below ky
        have O' := O.below ky
        have IV' := IV.below ky
        have b' := b.trans (ky.mono b.size)
        clear S K E O IV b ky
        have S := S'
        have K := K'
        have E := E'
        have O := O'
        have IV := IV'
        have b := b'
        clear S' K' E' O' IV' b'
        refine GrowT.region 4 tree (by kernel_rfl) (by kernel_rfl) rfl (by kernel_rfl) (by intro c a d v w h; cases d <;> exact h) ?_
        have kx := below_drew1 (Below.refl wy.heap.size wy)
        have S' := S.below kx
        have K' := K.below kx
        have E' := E.below kx
        have O' := O.below kx
        have IV' := IV.below kx
        have CB' := CB.below kx
        have b' := b.trans (kx.mono b.size)
        clear S K E O IV CB b kx
        have S := S'
        have K := K'
        have E := E'
        have O := O'
        have IV := IV'
        have CB := CB'
        have b := b'
        clear S' K' E' O' IV' CB' b'
        generalize wy.drew = wz at S K E O IV CB b ⊢
        (try simp only [Act.put, List.setIfInBounds_toArray, List.set_cons_succ, List.set_cons_zero])
        repeat (first | (refine GrowT.reads rfl rfl ?_; go_big_quiet_want; refine Cel.quiet_row CE _ rfl _ _ rfl v CB.range ?_; go_big_quiet_on; refine wpQuiet_nil ?_; (try simp only [Act.put, List.setIfInBounds_toArray, List.set_cons_succ, List.set_cons_zero])) | (refine GrowT.reads rfl rfl ?_; go_big_quiet_step (fail); refine wpQuiet_nil ?_))
        refine GrowT.forks rfl rfl ?_ ?_
        · skip
          go_wp2_with (first | go_skip | (refine RowS.wpList_append KE rfl _ _ rfl wz.heap.size _ 0 [] rfl ⟨rfl, .inl ⟨rfl, rfl⟩⟩ a0 _ cap0 l0 rfl rfl S.row (by omega) (Nat.le_refl _) ?_; intro vx wx ox gx))
          have kx : Below wz.heap.size wz wx := below_grown (Below.refl _ _) (Nat.le_refl _) gx (fun q hq => by cases hq)
          clear gx
          refine ⟨kx, ?_⟩
          (try simp only [Act.put, List.setIfInBounds_toArray, List.set_cons_succ, List.set_cons_zero])
          refine GrowT.acts rfl ?_
          go_wp2_with (first | go_skip | (refine RowC.wpList_lit1 KE (of_decide_eq_true rfl) rfl _ rfl v rfl ?_; intro wy Sy ky))
          refine ⟨ky, ?_⟩
          (try simp only [Act.put, List.setIfInBounds_toArray, List.set_cons_succ, List.set_cons_zero])
          have oy := owns_below ox ky
          have kz := kx.trans (ky.mono kx.size)
          clear ox kx ky
          refine GrowT.mid rfl ?_
          go_wp2_with (first | go_skip | (refine RowS.wpList_append KE rfl _ _ rfl wz.heap.size _ _ _ rfl oy _ _ 1 [v] rfl rfl Sy (by omega) kz.size ?_; intro vq wq oq gq))
          have kq : Below wz.heap.size wz wq := below_grown kz kz.size gq (fun q hq => (oy.lt q hq).1)
          clear gq oy Sy kz
          refine GrowT.on_mid ?_
          (try simp only [Act.put, List.setIfInBounds_toArray, List.set_cons_succ, List.set_cons_zero])
          have kx := kq
          clear kq
          have S' := S.below kx
          have K' := K.below kx
          have E' := E.below kx
          have O' := O.below kx
          have IV' := IV.below kx
          have CB' := CB.below kx
          have b' := b.trans (kx.mono b.size)
          clear S K E O IV CB b kx
          have S := S'
          have K := K'
          have E := E'
          have O := O'
          have IV := IV'
          have CB := CB'
          have b := b'
          clear S' K' E' O' IV' CB' b'
          rw [List.nil_append] at oq
          obtain ⟨AC, cC, rfl, SC⟩ := sl_both (l := l0) oq S.each (fun x hx => by rw [List.mem_singleton.1 hx]; exact ⟨IV, FV⟩)
          clear oq
          have hokc : ∀ x ∈ l0 ++ [v], CmR.Okay x.c := fun x hx => by
            rcases List.mem_append.1 hx with hx | hx
            · exact HO.out x hx
            · rw [List.mem_singleton.1 hx]; exact HOKV.out
          have HOKC := aside hokc
          clear hokc
          refine GrowT.acts rfl ?_
          go_wp2_with (first | go_skip)
          refine ⟨Below.refl _ _, ?_⟩
          (try simp only [Act.put, List.setIfInBounds_toArray, List.set_cons_succ, List.set_cons_zero])
          refine GrowT.ends ?_
          go_wp2_with (first | go_skip | (refine Cel.wpList_load_box CE rfl _ rfl _ rfl v CB ?_))
          refine (qh _ IV K).mono ?_
          clear qh
          rintro e wx ⟨rfl, kx⟩
          have S' := S.below kx
          have K' := K.below kx
          have E' := E.below kx
          have O' := O.below kx
          have IV' := IV.below kx
          have CB' := CB.below kx
          have SC' := SC.below kx
          have b' := b.trans (kx.mono b.size)
          clear S K E O IV CB SC b kx
          have S := S'
          have K := K'
          have E := E'
          have O := O'
          have IV := IV'
          have CB := CB'
          have SC := SC'
          have b := b'
          clear S' K' E' O' IV' CB' SC' b'
          go_wp2_with (first | go_skip | (refine IdJ.wpList_alloc_id rfl rfl ?_) | (refine CmG.wpList_store_id rfl _ _ rfl wx nought _ rfl h _ rfl rfl rfl ?_; intro wy BX ky s4; clear s4))
          have S' := S.below ky
          have K' := K.below ky
          have E' := E.below ky
          have O' := O.below ky
          have IV' := IV.below ky
          have CB' := CB.below ky
          have SC' := SC.below ky
          have b' := b.trans (ky.mono b.size)
          clear S K E O IV CB SC b ky
          have S := S'
          have K := K'
          have E := E'
          have O := O'
          have IV := IV'
          have CB := CB'
          have SC := SC'
          have b := b'
          clear S' K' E' O' IV' CB' SC' b'
          have qs := F.head AC cC (l0 ++ [v]) _ SC HOKC.out (by simp; omega) K
          unfold FoundC at qs
          rw [coms_one, HHD.out, List.length_append, List.length_singleton] at qs
          simp only [Option.isSome_some, Option.getD_some] at qs
          refine qs.mono ?_
          clear qs
          rintro e wx ⟨u, rfl, hu, IU, FU, kx⟩
          have S' := S.below kx
          have K' := K.below kx
          have E' := E.below kx
          have O' := O.below kx
          have IV' := IV.below kx
          have CB' := CB.below kx
          have SC' := SC.below kx
          have BX' := BX.below kx BX.lt
          have b' := b.trans (kx.mono b.size)
          clear S K E O IV CB SC BX b kx
          have S := S'
          have K := K'
          have E := E'
          have O := O'
          have IV := IV'
          have CB := CB'
          have SC := SC'
          have BX := BX'
          have b := b'
          clear S' K' E' O' IV' CB' SC' BX' b'
          have qc := fun W S K => X.closed AC cC (l0 ++ [v]) W S HOKC.out (by simp; omega) K
          simp only [coms_one, HCL.out, List.length_append, List.length_singleton] at qc
          have qm := fun W I J => CmA.same_ret v u W I J
          have hsm : CmR.sameK v.c u.c = true := CmR.sameK_iff.2 hu.symm
          simp only [hsm] at qm
          clear hsm hu
          have qn := fun A' c' W S T K => X.anc AC A' cC c' (l0 ++ [v]) [h] W S T HOKC.out (by simp; omega) (by simp) K
          unfold NewD at qn
          simp only [coms_one, HAN.out, List.length_append, List.length_singleton] at qn
          have he : ∀ W : World, (Op.equalIn 10000 34 (.agg #[.int .i64 v.c.node, .int .i64 v.c.seq]) (.agg #[.int .i64 ev.node, .int .i64 ev.seq])).run Tryz.prog W = .ok true W := fun W => (equal_ev 9998 W v.c.node v.c.seq ev.node ev.seq).trans (by rw [sameE_iff.2 ⟨HND.out, HSQ.out⟩])
          have hq : ∀ W : World, (Op.equalIn 10000 36 (.agg (opc v.c.op)) (.agg (opc o))).run Tryz.prog W = .ok true W := fun W => by rw [HOP.out]; exact OpsE.equal_yes o W
          go_wp2_with (first | go_skip | (refine Cel.wpList_store_new CE rfl _ _ rfl wx _ _ rfl u _ rfl rfl rfl rfl ?_; intro wy CU ky g4 s4; clear g4 s4))
          have S' := S.below ky
          have K' := K.below ky
          have E' := E.below ky
          have O' := O.below ky
          have IV' := IV.below ky
          have CB' := CB.below ky
          have SC' := SC.below ky
          have BX' := BX.below ky BX.lt
          have IU' := IU.below ky
          have b' := b.trans (ky.mono b.size)
          clear S K E O IV CB SC BX IU b ky
          have S := S'
          have K := K'
          have E := E'
          have O := O'
          have IV := IV'
          have CB := CB'
          have SC := SC'
          have BX := BX'
          have IU := IU'
          have b := b'
          clear S' K' E' O' IV' CB' SC' BX' IU' b'
          refine (qc _ SC K).mono ?_
          clear qc
          rintro e wx ⟨rfl, kx⟩
          have S' := S.below kx
          have K' := K.below kx
          have E' := E.below kx
          have O' := O.below kx
          have IV' := IV.below kx
          have CB' := CB.below kx
          have SC' := SC.below kx
          have BX' := BX.below kx BX.lt
          have IU' := IU.below kx
          have CU' := CU.below kx
          have b' := b.trans (kx.mono b.size)
          clear S K E O IV CB SC BX IU CU b kx
          have S := S'
          have K := K'
          have E := E'
          have O := O'
          have IV := IV'
          have CB := CB'
          have SC := SC'
          have BX := BX'
          have IU := IU'
          have CU := CU'
          have b := b'
          clear S' K' E' O' IV' CB' SC' BX' IU' CU' b'
          go_wp2_with (first | go_skip | (refine CmW.gload _ rfl _ rfl v CB rfl ?_) | (refine CmW.gload _ rfl _ rfl u CU rfl ?_))
          refine (qm _ IV IU).mono ?_
          clear qm
          rintro e wx ⟨rfl, kx⟩
          have S' := S.below kx
          have K' := K.below kx
          have E' := E.below kx
          have O' := O.below kx
          have IV' := IV.below kx
          have CB' := CB.below kx
          have SC' := SC.below kx
          have BX' := BX.below kx BX.lt
          have IU' := IU.below kx
          have CU' := CU.below kx
          have b' := b.trans (kx.mono b.size)
          clear S K E O IV CB SC BX IU CU b kx
          have S := S'
          have K := K'
          have E := E'
          have O := O'
          have IV := IV'
          have CB := CB'
          have SC := SC'
          have BX := BX'
          have IU := IU'
          have CU := CU'
          have b := b'
          clear S' K' E' O' IV' CB' SC' BX' IU' CU' b'
          go_wp2_with (first | go_skip | (refine RowC.unguard rfl (wpList_load_id rfl _ rfl _ _ rfl h BX.range ?_)) | (refine RowC.unguard rfl (build_one rfl _ rfl h rfl ?_); intro wy SH ky))
          have S' := S.below ky
          have K' := K.below ky
          have E' := E.below ky
          have O' := O.below ky
          have IV' := IV.below ky
          have CB' := CB.below ky
          have SC' := SC.below ky
          have BX' := BX.below ky BX.lt
          have IU' := IU.below ky
          have CU' := CU.below ky
          have b' := b.trans (ky.mono b.size)
          clear S K E O IV CB SC BX IU CU b ky
          have S := S'
          have K := K'
          have E := E'
          have O := O'
          have IV := IV'
          have CB := CB'
          have SC := SC'
          have BX := BX'
          have IU := IU'
          have CU := CU'
          have b := b'
          clear S' K' E' O' IV' CB' SC' BX' IU' CU' b'
          refine (qn _ _ _ SC SH K).mono ?_
          clear qn SH
          rintro e wx ⟨A9, c9, rfl, _, kx⟩
          have S' := S.below kx
          have K' := K.below kx
          have E' := E.below kx
          have O' := O.below kx
          have IV' := IV.below kx
          have CB' := CB.below kx
          have SC' := SC.below kx
          have BX' := BX.below kx BX.lt
          have IU' := IU.below kx
          have CU' := CU.below kx
          have b' := b.trans (kx.mono b.size)
          clear S K E O IV CB SC BX IU CU b kx
          have S := S'
          have K := K'
          have E := E'
          have O := O'
          have IV := IV'
          have CB := CB'
          have SC := SC'
          have BX := BX'
          have IU := IU'
          have CU := CU'
          have b := b'
          clear S' K' E' O' IV' CB' SC' BX' IU' CU' b'
          go_wp2_with (first | go_skip | (refine CmW.gkev _ rfl _ rfl v CB rfl ?_) | (refine CmW.gkop _ rfl _ rfl v CB rfl ?_) | (refine gev _ rfl _ rfl ev E rfl ?_) | (refine gop _ rfl _ rfl o O rfl ?_))
          go_ret
          exact ⟨rfl, b⟩
        · skip
          go_wp2_with (first | go_skip | (refine RowC.wpList_lit1 KE (of_decide_eq_true rfl) rfl _ rfl v rfl ?_; intro wx Sx kx))
          refine ⟨kx, ?_⟩
          (try simp only [Act.put, List.setIfInBounds_toArray, List.set_cons_succ, List.set_cons_zero])
          refine GrowT.acts rfl ?_
          go_wp2_with (first | go_skip | (refine RowS.wpList_append KE rfl _ _ rfl wx.heap.size _ 0 [] rfl ⟨rfl, .inl ⟨rfl, rfl⟩⟩ a0 _ cap0 l0 rfl rfl (S.below kx).row (by omega) (Nat.le_refl _) ?_; intro vx wy ox gx))
          have ky : Below wx.heap.size wx wy := below_grown (Below.refl _ _) (Nat.le_refl _) gx (fun q hq => by cases hq)
          clear gx
          refine ⟨ky, ?_⟩
          (try simp only [Act.put, List.setIfInBounds_toArray, List.set_cons_succ, List.set_cons_zero])
          have Sy := Sx.below ky
          have oy := owns_less ox kx.size
          have kz := kx.trans (ky.mono kx.size)
          clear ox kx ky Sx
          refine GrowT.mid rfl ?_
          go_wp2_with (first | go_skip | (refine RowS.wpList_append KE rfl _ _ rfl wz.heap.size _ _ _ rfl oy _ _ 1 [v] rfl rfl Sy (by omega) kz.size ?_; intro vq wq oq gq))
          have kq : Below wz.heap.size wz wq := below_grown kz kz.size gq (fun q hq => (oy.lt q hq).1)
          clear gq oy Sy kz
          refine GrowT.on_mid ?_
          (try simp only [Act.put, List.setIfInBounds_toArray, List.set_cons_succ, List.set_cons_zero])
          have kx := kq
          clear kq
          have S' := S.below kx
          have K' := K.below kx
          have E' := E.below kx
          have O' := O.below kx
          have IV' := IV.below kx
          have CB' := CB.below kx
          have b' := b.trans (kx.mono b.size)
          clear S K E O IV CB b kx
          have S := S'
          have K := K'
          have E := E'
          have O := O'
          have IV := IV'
          have CB := CB'
          have b := b'
          clear S' K' E' O' IV' CB' b'
          rw [List.nil_append] at oq
          obtain ⟨AC, cC, rfl, SC⟩ := sl_both (l := l0) oq S.each (fun x hx => by rw [List.mem_singleton.1 hx]; exact ⟨IV, FV⟩)
          clear oq
          have hokc : ∀ x ∈ l0 ++ [v], CmR.Okay x.c := fun x hx => by
            rcases List.mem_append.1 hx with hx | hx
            · exact HO.out x hx
            · rw [List.mem_singleton.1 hx]; exact HOKV.out
          have HOKC := aside hokc
          clear hokc
          refine GrowT.acts rfl ?_
          go_wp2_with (first | go_skip)
          refine ⟨Below.refl _ _, ?_⟩
          (try simp only [Act.put, List.setIfInBounds_toArray, List.set_cons_succ, List.set_cons_zero])
          refine GrowT.ends ?_
          go_wp2_with (first | go_skip | (refine Cel.wpList_load_box CE rfl _ rfl _ rfl v CB ?_))
          refine (qh _ IV K).mono ?_
          clear qh
          rintro e wx ⟨rfl, kx⟩
          have S' := S.below kx
          have K' := K.below kx
          have E' := E.below kx
          have O' := O.below kx
          have IV' := IV.below kx
          have CB' := CB.below kx
          have SC' := SC.below kx
          have b' := b.trans (kx.mono b.size)
          clear S K E O IV CB SC b kx
          have S := S'
          have K := K'
          have E := E'
          have O := O'
          have IV := IV'
          have CB := CB'
          have SC := SC'
          have b := b'
          clear S' K' E' O' IV' CB' SC' b'
          go_wp2_with (first | go_skip | (refine IdJ.wpList_alloc_id rfl rfl ?_) | (refine CmG.wpList_store_id rfl _ _ rfl wx nought _ rfl h _ rfl rfl rfl ?_; intro wy BX ky s4; clear s4))
          have S' := S.below ky
          have K' := K.below ky
          have E' := E.below ky
          have O' := O.below ky
          have IV' := IV.below ky
          have CB' := CB.below ky
          have SC' := SC.below ky
          have b' := b.trans (ky.mono b.size)
          clear S K E O IV CB SC b ky
          have S := S'
          have K := K'
          have E := E'
          have O := O'
          have IV := IV'
          have CB := CB'
          have SC := SC'
          have b := b'
          clear S' K' E' O' IV' CB' SC' b'
          have qs := F.head AC cC (l0 ++ [v]) _ SC HOKC.out (by simp; omega) K
          unfold FoundC at qs
          rw [coms_one, HHD.out, List.length_append, List.length_singleton] at qs
          simp only [Option.isSome_some, Option.getD_some] at qs
          refine qs.mono ?_
          clear qs
          rintro e wx ⟨u, rfl, hu, IU, FU, kx⟩
          have S' := S.below kx
          have K' := K.below kx
          have E' := E.below kx
          have O' := O.below kx
          have IV' := IV.below kx
          have CB' := CB.below kx
          have SC' := SC.below kx
          have BX' := BX.below kx BX.lt
          have b' := b.trans (kx.mono b.size)
          clear S K E O IV CB SC BX b kx
          have S := S'
          have K := K'
          have E := E'
          have O := O'
          have IV := IV'
          have CB := CB'
          have SC := SC'
          have BX := BX'
          have b := b'
          clear S' K' E' O' IV' CB' SC' BX' b'
          have qc := fun W S K => X.closed AC cC (l0 ++ [v]) W S HOKC.out (by simp; omega) K
          simp only [coms_one, HCL.out, List.length_append, List.length_singleton] at qc
          have qm := fun W I J => CmA.same_ret v u W I J
          have hsm : CmR.sameK v.c u.c = true := CmR.sameK_iff.2 hu.symm
          simp only [hsm] at qm
          clear hsm hu
          have qn := fun A' c' W S T K => X.anc AC A' cC c' (l0 ++ [v]) [h] W S T HOKC.out (by simp; omega) (by simp) K
          unfold NewD at qn
          simp only [coms_one, HAN.out, List.length_append, List.length_singleton] at qn
          have he : ∀ W : World, (Op.equalIn 10000 34 (.agg #[.int .i64 v.c.node, .int .i64 v.c.seq]) (.agg #[.int .i64 ev.node, .int .i64 ev.seq])).run Tryz.prog W = .ok true W := fun W => (equal_ev 9998 W v.c.node v.c.seq ev.node ev.seq).trans (by rw [sameE_iff.2 ⟨HND.out, HSQ.out⟩])
          have hq : ∀ W : World, (Op.equalIn 10000 36 (.agg (opc v.c.op)) (.agg (opc o))).run Tryz.prog W = .ok true W := fun W => by rw [HOP.out]; exact OpsE.equal_yes o W
          go_wp2_with (first | go_skip | (refine Cel.wpList_store_new CE rfl _ _ rfl wx _ _ rfl u _ rfl rfl rfl rfl ?_; intro wy CU ky g4 s4; clear g4 s4))
          have S' := S.below ky
          have K' := K.below ky
          have E' := E.below ky
          have O' := O.below ky
          have IV' := IV.below ky
          have CB' := CB.below ky
          have SC' := SC.below ky
          have BX' := BX.below ky BX.lt
          have IU' := IU.below ky
          have b' := b.trans (ky.mono b.size)
          clear S K E O IV CB SC BX IU b ky
          have S := S'
          have K := K'
          have E := E'
          have O := O'
          have IV := IV'
          have CB := CB'
          have SC := SC'
          have BX := BX'
          have IU := IU'
          have b := b'
          clear S' K' E' O' IV' CB' SC' BX' IU' b'
          refine (qc _ SC K).mono ?_
          clear qc
          rintro e wx ⟨rfl, kx⟩
          have S' := S.below kx
          have K' := K.below kx
          have E' := E.below kx
          have O' := O.below kx
          have IV' := IV.below kx
          have CB' := CB.below kx
          have SC' := SC.below kx
          have BX' := BX.below kx BX.lt
          have IU' := IU.below kx
          have CU' := CU.below kx
          have b' := b.trans (kx.mono b.size)
          clear S K E O IV CB SC BX IU CU b kx
          have S := S'
          have K := K'
          have E := E'
          have O := O'
          have IV := IV'
          have CB := CB'
          have SC := SC'
          have BX := BX'
          have IU := IU'
          have CU := CU'
          have b := b'
          clear S' K' E' O' IV' CB' SC' BX' IU' CU' b'
          go_wp2_with (first | go_skip | (refine CmW.gload _ rfl _ rfl v CB rfl ?_) | (refine CmW.gload _ rfl _ rfl u CU rfl ?_))
          refine (qm _ IV IU).mono ?_
          clear qm
          rintro e wx ⟨rfl, kx⟩
          have S' := S.below kx
          have K' := K.below kx
          have E' := E.below kx
          have O' := O.below kx
          have IV' := IV.below kx
          have CB' := CB.below kx
          have SC' := SC.below kx
          have BX' := BX.below kx BX.lt
          have IU' := IU.below kx
          have CU' := CU.below kx
          have b' := b.trans (kx.mono b.size)
          clear S K E O IV CB SC BX IU CU b kx
          have S := S'
          have K := K'
          have E := E'
          have O := O'
          have IV := IV'
          have CB := CB'
          have SC := SC'
          have BX := BX'
          have IU := IU'
          have CU := CU'
          have b := b'
          clear S' K' E' O' IV' CB' SC' BX' IU' CU' b'
          go_wp2_with (first | go_skip | (refine RowC.unguard rfl (wpList_load_id rfl _ rfl _ _ rfl h BX.range ?_)) | (refine RowC.unguard rfl (build_one rfl _ rfl h rfl ?_); intro wy SH ky))
          have S' := S.below ky
          have K' := K.below ky
          have E' := E.below ky
          have O' := O.below ky
          have IV' := IV.below ky
          have CB' := CB.below ky
          have SC' := SC.below ky
          have BX' := BX.below ky BX.lt
          have IU' := IU.below ky
          have CU' := CU.below ky
          have b' := b.trans (ky.mono b.size)
          clear S K E O IV CB SC BX IU CU b ky
          have S := S'
          have K := K'
          have E := E'
          have O := O'
          have IV := IV'
          have CB := CB'
          have SC := SC'
          have BX := BX'
          have IU := IU'
          have CU := CU'
          have b := b'
          clear S' K' E' O' IV' CB' SC' BX' IU' CU' b'
          refine (qn _ _ _ SC SH K).mono ?_
          clear qn SH
          rintro e wx ⟨A9, c9, rfl, _, kx⟩
          have S' := S.below kx
          have K' := K.below kx
          have E' := E.below kx
          have O' := O.below kx
          have IV' := IV.below kx
          have CB' := CB.below kx
          have SC' := SC.below kx
          have BX' := BX.below kx BX.lt
          have IU' := IU.below kx
          have CU' := CU.below kx
          have b' := b.trans (kx.mono b.size)
          clear S K E O IV CB SC BX IU CU b kx
          have S := S'
          have K := K'
          have E := E'
          have O := O'
          have IV := IV'
          have CB := CB'
          have SC := SC'
          have BX := BX'
          have IU := IU'
          have CU := CU'
          have b := b'
          clear S' K' E' O' IV' CB' SC' BX' IU' CU' b'
          go_wp2_with (first | go_skip | (refine CmW.gkev _ rfl _ rfl v CB rfl ?_) | (refine CmW.gkop _ rfl _ rfl v CB rfl ?_) | (refine gev _ rfl _ rfl ev E rfl ?_) | (refine gop _ rfl _ rfl o O rfl ?_))
          go_ret
          exact ⟨rfl, b⟩
end Go.Proofs.YtechkdhehipliaaGreatDoor.FrF
