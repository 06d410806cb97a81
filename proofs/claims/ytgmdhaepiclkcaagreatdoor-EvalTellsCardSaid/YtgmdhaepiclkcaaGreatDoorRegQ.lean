/- What the document's Put of package reg returns -/
import Derived.Test.YtgmdhaepiclkcaaGreatDoorPairGJ12
import Derived.Test.YtgmdhaepiclkcaaGreatDoorRowGJ7
namespace Go.Proofs.YtgmdhaepiclkcaaGreatDoor.RegQ
set_option maxHeartbeats 40000000
set_option maxRecDepth 100000
open Go Go.RowKit Byt OpsM OpsK Rise RegM RegL RowS RowB RegW RegR RegG RegP
theorem zl0 (c:Rg) (d:Bool) (x:Rg) (l:List Rg):ins c d (x::l)=(if d=false∧ltS c.key x.key=true then[c]else[])++(if x.key≠c.key then x::ins c (d||ltS c.key x.key) l else best c x::ins c true l):=rfl
theorem zoo (c:Rg) (d:Bool):ins c d []=if d=true then[]else[c]:=by simp[ins]
theorem zbY {a b:ByteArray} (h:a=b):(a.toList != b.toList)=false:=by rw[bne,zbf h];rfl
theorem zdr {a b:ByteArray} (h:a≠b):(a.toList != b.toList)=true:=by rw[bne,zby h];rfl
theorem zbi {w:World} {base n k:Nat} {T:TypeId} {v:Value} {xs:List Value} (h:w.ownsRow base T k v n xs) (m:Nat):(w.drewN m).ownsRow base T k v n xs:=h
theorem zeU {w:World} {base n k:Nat} {T:TypeId} {v:Value} {xs:List Value} (h:w.ownsRow base T k v n xs):w.drew.ownsRow base T k v n xs:=h
theorem zdX (A:Option Addr) (cap:Nat) (l:List Rg) (c:Rg) (w:World) (S:SlR E w A cap l) (hf:Fits l) (hc:Fit c) (hm:zbd l=true) (ho:zeg c=true) (hl:l.length≤1000000):
  Calls Tryz.prog 39 #[.slice A l.length cap,.agg (rc c)] w (zie E (ins c false l) w):=by
 have Z:Below w.heap.size w (w.alloc (.cells (rc c) 62)):=zah _ _
 have N:zeN (w.alloc (.cells (rc c) 62)) w.heap.size c:=zeN.new w c _
 have S0:=S.below Z
 have cm:=fun W S=>zaz A cap l W S hf
 have co:=fun W=>zhE c W hc
 have cn:=fun x W=>zfB c x W
 rw[hm]at cm
 rw[ho]at co
 clear hm ho hf hc S
 have hsz:=Z.size
 obtain⟨R,hR⟩:∃R,ins c false l=R:=⟨_,rfl⟩
 rw[hR]
 have HR:=aside hR
 clear hR
 go_enter Tryz.func39,Tryz.ntmps39
 go_wp2_with fail
 refine(cm _ S0).mono ?_
 rintro e w1 ⟨rfl,h1⟩
 have N1:=N.below h1
 have S1:=S0.below h1
 have k1:=Z.trans (h1.mono hsz)
 go_wp2_with (first|(refine zas rfl _ rfl _ _ rfl c N1.range ?_))
 refine(co _).mono ?_
 rintro e w2 ⟨rfl,h2⟩
 have k2:=k1.trans (h2.mono k1.size)
 have N2:=N1.below h2
 have S2:=S1.below h2
 clear cm co S0 S1 N N1 Z k1 h1 h2 hsz
 have hcap:=S2.1
 have hz2:=k2.size
 have hN:=N2.lt
 go_wp2
 go_loopw [7,8,9] (fun v d i wr=>∃(j:Nat) (b:Bool) (pre:List Rg),j≤l.length∧i=.int .i64 j∧d=.bool b∧pre.length≤2 * j∧Hid (R=pre++ins c b (l.drop j))∧Hid (wr.ownsRow w2.heap.size E.T E.k v pre.length (flat E pre))∧Below w2.heap.size w2 wr) (fun _ _ i _=>l.length - (intOf i).toNat)
 case atStart=>exact⟨0,false,[],Nat.zero_le _,rfl,rfl,Nat.zero_le _,aside HR.out.symm,aside (World.ownsRow_nil _ _ _ _),Below.refl _ _⟩
 case round=>
  obtain⟨j,b,pre,hj,rfl,rfl,hpl,HP,HO,kb⟩:=hrel
  have hsz:=kb.size
  by_cases hlt:j<l.length
  ·obtain⟨g,off,rfl,hbw,hr⟩:=RegW.plain S2 (by omega)
   obtain⟨x,hx⟩:∃x,l[j]?=some x:=⟨_,List.getElem?_eq_getElem hlt⟩
   have hr0:=aside (hr j x hx)
   obtain⟨d0,d1,d2,d3,d4⟩:=(N2.below kb).cells
   obtain⟨c0,c1,c2,c3,c4⟩:=cells (zab hr0.out kb)
   have p0:(j:Int)<l.length:=by omega
   have m0:((j:Int)).toNat=j:=by omega
   have hP:=HP.out
   rw[getD_drop hx,zl0]at hP
   clear hr S2 hx HP HR
   by_cases hk:x.key=c.key
   ·cases hnw:zaV c x with
    |true=>
     cases b with
     |true=>
      have e0:=zbf hk
      have e1:=zbY hk
      have hb:best c x=c:=by unfold best;rw[hnw];rfl
      have HP2:Hid (R=(pre++[c])++ins c true (l.drop (j+1))):=aside (by
       rw[hP,if_neg (fun q=>by have q2:=q.2;rw[hk,zaA.irrefl]at q2;cases q2),if_neg (fun q=>q hk),hb]
       simp)
      have cn1:=cn x
      rw[hnw]at cn1
      clear hP hk hnw hb
      go_wp2
      go_quiet (fail)
      have ka:=zai kb nq
      have Oa:=aside (zbi HO.out nq)
      generalize wr.drewN nq=wa at ka Oa ⊢
      clear c0 c1 c2 c3 c4 d0 d1 d2 d3 d4
      obtain⟨d0,d1,d2,d3,d4⟩:=(N2.below ka).cells
      obtain⟨c0,c1,c2,c3,c4⟩:=cells (zab hr0.out ka)
      go_wp2
      go_quiet (fail)
      have kc:=zai ka nq
      have Oc:=aside (zbi Oa.out nq)
      generalize wa.drewN nq=wc at kc Oc ⊢
      clear c0 c1 c2 c3 c4 d0 d1 d2 d3 d4
      obtain⟨d0,d1,d2,d3,d4⟩:=(N2.below kc).cells
      obtain⟨c0,c1,c2,c3,c4⟩:=cells (zab hr0.out kc)
      go_wp2
      refine Grow.region [(0,true),(1,true),(2,true),(3,true),(4,true),(5,false),(6,true)] (by kernel_rfl) (by kernel_rfl) rfl (by kernel_rfl) (by intro c a d v w h;cases d <;> exact h) ?_
      have kd:=zaf kc
      have Od:=aside (zeU Oc.out)
      generalize wc.drew=wd at kd Od ⊢
      clear c0 c1 c2 c3 c4 d0 d1 d2 d3 d4
      have rc1:=(N2.below kd).range
      have rx1:=zab hr0.out kd
      repeat (first|(refine RowG.zaJ E rfl rfl _ rfl _ _ rfl c rc1 ?_;simp only[Act.put,List.setIfInBounds_toArray,List.set_cons_succ,List.set_cons_zero])|(refine RowG.zaJ E rfl rfl _ rfl _ _ rfl x rx1 ?_;simp only[Act.put,List.setIfInBounds_toArray,List.set_cons_succ,List.set_cons_zero])|(refine Grow.reads rfl rfl ?_;go_big_quiet_step (fail);refine wpQuiet_nil ?_))
      refine Grow.acts rfl ?_
      go_wp2_with fail
      refine(cn1 _).mono ?_
      rintro e we ⟨rfl,he⟩
      have ke:=kd.trans (he.mono kd.size)
      have Oe:=aside (zao Od.out he)
      go_wp2_with fail
      refine⟨he,?_⟩
      clear he
      repeat (refine Grow.reads rfl rfl ?_;go_big_quiet_step (fail);refine wpQuiet_nil ?_)
      refine Grow.ends ?_
      go_wp2_with (first|(refine zas rfl _ rfl _ _ rfl c (N2.below ke).range ?_)|(refine zas rfl _ rfl _ _ rfl x (zab hr0.out ke) ?_)|(refine RowC.zat E (of_decide_eq_true rfl) rfl _ rfl c rfl ?_)|(refine zaD E rfl (.tmp 65) (.tmp 67) rfl w2.heap.size _ _ (pre) rfl we c _ rfl rfl Oe.out (by omega) ke.size ?_;intro vwf wf zhB hwf;have kf:=ke.trans hwf;have Of:=aside zhB;clear zhB hwf))
      go_roundw
      case rel=>exact⟨j+1,true,pre++[c],by omega,by go_num,rfl,by simp;omega,HP2,aside (by have:=Of.out;simpa using this),kf⟩
      case measure=>simp[intOf];omega
     |false=>
      have e0:=zbf hk
      have e1:=zbY hk
      have hb:best c x=c:=by unfold best;rw[hnw];rfl
      have h2:Op.bytesLess x.key.toList c.key.toList=false:=by rw[hk];exact zaA.irrefl c.key
      have HP2:Hid (R=(pre++[c])++ins c true (l.drop (j+1))):=aside (by
       rw[hP,if_neg (fun q=>by have q2:=q.2;rw[hk,zaA.irrefl]at q2;cases q2),if_neg (fun q=>q hk),hb]
       simp)
      have cn1:=cn x
      rw[hnw]at cn1
      clear hP hk hnw hb
      go_wp2
      go_quiet (fail)
      have ka:=zai kb nq
      have Oa:=aside (zbi HO.out nq)
      generalize wr.drewN nq=wa at ka Oa ⊢
      clear c0 c1 c2 c3 c4 d0 d1 d2 d3 d4
      obtain⟨d0,d1,d2,d3,d4⟩:=(N2.below ka).cells
      obtain⟨c0,c1,c2,c3,c4⟩:=cells (zab hr0.out ka)
      go_wp2
      go_quiet (fail)
      have kc:=zai ka nq
      have Oc:=aside (zbi Oa.out nq)
      generalize wa.drewN nq=wc at kc Oc ⊢
      clear c0 c1 c2 c3 c4 d0 d1 d2 d3 d4
      obtain⟨d0,d1,d2,d3,d4⟩:=(N2.below kc).cells
      obtain⟨c0,c1,c2,c3,c4⟩:=cells (zab hr0.out kc)
      go_wp2
      refine Grow.region [(0,true),(1,true),(2,true),(3,true),(4,true),(5,false),(6,true)] (by kernel_rfl) (by kernel_rfl) rfl (by kernel_rfl) (by intro c a d v w h;cases d <;> exact h) ?_
      have kd:=zaf kc
      have Od:=aside (zeU Oc.out)
      generalize wc.drew=wd at kd Od ⊢
      clear c0 c1 c2 c3 c4 d0 d1 d2 d3 d4
      have rc1:=(N2.below kd).range
      have rx1:=zab hr0.out kd
      repeat (first|(refine RowG.zaJ E rfl rfl _ rfl _ _ rfl c rc1 ?_;simp only[Act.put,List.setIfInBounds_toArray,List.set_cons_succ,List.set_cons_zero])|(refine RowG.zaJ E rfl rfl _ rfl _ _ rfl x rx1 ?_;simp only[Act.put,List.setIfInBounds_toArray,List.set_cons_succ,List.set_cons_zero])|(refine Grow.reads rfl rfl ?_;go_big_quiet_step (fail);refine wpQuiet_nil ?_))
      refine Grow.acts rfl ?_
      go_wp2_with fail
      refine(cn1 _).mono ?_
      rintro e we ⟨rfl,he⟩
      have ke:=kd.trans (he.mono kd.size)
      have Oe:=aside (zao Od.out he)
      go_wp2_with fail
      refine⟨he,?_⟩
      clear he
      repeat (refine Grow.reads rfl rfl ?_;go_big_quiet_step (fail);refine wpQuiet_nil ?_)
      refine Grow.ends ?_
      go_wp2_with (first|(refine zas rfl _ rfl _ _ rfl c (N2.below ke).range ?_)|(refine zas rfl _ rfl _ _ rfl x (zab hr0.out ke) ?_)|(refine RowC.zat E (of_decide_eq_true rfl) rfl _ rfl c rfl ?_)|(refine zaD E rfl (.tmp 65) (.tmp 67) rfl w2.heap.size _ _ (pre) rfl we c _ rfl rfl Oe.out (by omega) ke.size ?_;intro vwf wf zhB hwf;have kf:=ke.trans hwf;have Of:=aside zhB;clear zhB hwf))
      go_roundw
      case rel=>exact⟨j+1,true,pre++[c],by omega,by go_num,rfl,by simp;omega,HP2,aside (by have:=Of.out;simpa using this),kf⟩
      case measure=>simp[intOf];omega
    |false=>
     cases b with
     |true=>
      have e0:=zbf hk
      have e1:=zbY hk
      have hb:best c x=x:=by unfold best;rw[hnw];rfl
      have HP2:Hid (R=(pre++[x])++ins c true (l.drop (j+1))):=aside (by
       rw[hP,if_neg (fun q=>by have q2:=q.2;rw[hk,zaA.irrefl]at q2;cases q2),if_neg (fun q=>q hk),hb]
       simp)
      have cn1:=cn x
      rw[hnw]at cn1
      clear hP hk hnw hb
      go_wp2
      go_quiet (fail)
      have ka:=zai kb nq
      have Oa:=aside (zbi HO.out nq)
      generalize wr.drewN nq=wa at ka Oa ⊢
      clear c0 c1 c2 c3 c4 d0 d1 d2 d3 d4
      obtain⟨d0,d1,d2,d3,d4⟩:=(N2.below ka).cells
      obtain⟨c0,c1,c2,c3,c4⟩:=cells (zab hr0.out ka)
      go_wp2
      go_quiet (fail)
      have kc:=zai ka nq
      have Oc:=aside (zbi Oa.out nq)
      generalize wa.drewN nq=wc at kc Oc ⊢
      clear c0 c1 c2 c3 c4 d0 d1 d2 d3 d4
      obtain⟨d0,d1,d2,d3,d4⟩:=(N2.below kc).cells
      obtain⟨c0,c1,c2,c3,c4⟩:=cells (zab hr0.out kc)
      go_wp2
      refine Grow.region [(0,true),(1,true),(2,true),(3,true),(4,true),(5,false),(6,true)] (by kernel_rfl) (by kernel_rfl) rfl (by kernel_rfl) (by intro c a d v w h;cases d <;> exact h) ?_
      have kd:=zaf kc
      have Od:=aside (zeU Oc.out)
      generalize wc.drew=wd at kd Od ⊢
      clear c0 c1 c2 c3 c4 d0 d1 d2 d3 d4
      have rc1:=(N2.below kd).range
      have rx1:=zab hr0.out kd
      repeat (first|(refine RowG.zaJ E rfl rfl _ rfl _ _ rfl c rc1 ?_;simp only[Act.put,List.setIfInBounds_toArray,List.set_cons_succ,List.set_cons_zero])|(refine RowG.zaJ E rfl rfl _ rfl _ _ rfl x rx1 ?_;simp only[Act.put,List.setIfInBounds_toArray,List.set_cons_succ,List.set_cons_zero])|(refine Grow.reads rfl rfl ?_;go_big_quiet_step (fail);refine wpQuiet_nil ?_))
      refine Grow.acts rfl ?_
      go_wp2_with fail
      refine(cn1 _).mono ?_
      rintro e we ⟨rfl,he⟩
      have ke:=kd.trans (he.mono kd.size)
      have Oe:=aside (zao Od.out he)
      go_wp2_with fail
      refine⟨he,?_⟩
      clear he
      repeat (refine Grow.reads rfl rfl ?_;go_big_quiet_step (fail);refine wpQuiet_nil ?_)
      refine Grow.ends ?_
      go_wp2_with (first|(refine zas rfl _ rfl _ _ rfl c (N2.below ke).range ?_)|(refine zas rfl _ rfl _ _ rfl x (zab hr0.out ke) ?_)|(refine RowC.zat E (of_decide_eq_true rfl) rfl _ rfl x rfl ?_)|(refine zaD E rfl (.tmp 69) (.tmp 74) rfl w2.heap.size _ _ (pre) rfl we x _ rfl rfl Oe.out (by omega) ke.size ?_;intro vwf wf zhB hwf;have kf:=ke.trans hwf;have Of:=aside zhB;clear zhB hwf))
      go_roundw
      case rel=>exact⟨j+1,true,pre++[x],by omega,by go_num,rfl,by simp;omega,HP2,aside (by have:=Of.out;simpa using this),kf⟩
      case measure=>simp[intOf];omega
     |false=>
      have e0:=zbf hk
      have e1:=zbY hk
      have hb:best c x=x:=by unfold best;rw[hnw];rfl
      have h2:Op.bytesLess x.key.toList c.key.toList=false:=by rw[hk];exact zaA.irrefl c.key
      have HP2:Hid (R=(pre++[x])++ins c true (l.drop (j+1))):=aside (by
       rw[hP,if_neg (fun q=>by have q2:=q.2;rw[hk,zaA.irrefl]at q2;cases q2),if_neg (fun q=>q hk),hb]
       simp)
      have cn1:=cn x
      rw[hnw]at cn1
      clear hP hk hnw hb
      go_wp2
      go_quiet (fail)
      have ka:=zai kb nq
      have Oa:=aside (zbi HO.out nq)
      generalize wr.drewN nq=wa at ka Oa ⊢
      clear c0 c1 c2 c3 c4 d0 d1 d2 d3 d4
      obtain⟨d0,d1,d2,d3,d4⟩:=(N2.below ka).cells
      obtain⟨c0,c1,c2,c3,c4⟩:=cells (zab hr0.out ka)
      go_wp2
      go_quiet (fail)
      have kc:=zai ka nq
      have Oc:=aside (zbi Oa.out nq)
      generalize wa.drewN nq=wc at kc Oc ⊢
      clear c0 c1 c2 c3 c4 d0 d1 d2 d3 d4
      obtain⟨d0,d1,d2,d3,d4⟩:=(N2.below kc).cells
      obtain⟨c0,c1,c2,c3,c4⟩:=cells (zab hr0.out kc)
      go_wp2
      refine Grow.region [(0,true),(1,true),(2,true),(3,true),(4,true),(5,false),(6,true)] (by kernel_rfl) (by kernel_rfl) rfl (by kernel_rfl) (by intro c a d v w h;cases d <;> exact h) ?_
      have kd:=zaf kc
      have Od:=aside (zeU Oc.out)
      generalize wc.drew=wd at kd Od ⊢
      clear c0 c1 c2 c3 c4 d0 d1 d2 d3 d4
      have rc1:=(N2.below kd).range
      have rx1:=zab hr0.out kd
      repeat (first|(refine RowG.zaJ E rfl rfl _ rfl _ _ rfl c rc1 ?_;simp only[Act.put,List.setIfInBounds_toArray,List.set_cons_succ,List.set_cons_zero])|(refine RowG.zaJ E rfl rfl _ rfl _ _ rfl x rx1 ?_;simp only[Act.put,List.setIfInBounds_toArray,List.set_cons_succ,List.set_cons_zero])|(refine Grow.reads rfl rfl ?_;go_big_quiet_step (fail);refine wpQuiet_nil ?_))
      refine Grow.acts rfl ?_
      go_wp2_with fail
      refine(cn1 _).mono ?_
      rintro e we ⟨rfl,he⟩
      have ke:=kd.trans (he.mono kd.size)
      have Oe:=aside (zao Od.out he)
      go_wp2_with fail
      refine⟨he,?_⟩
      clear he
      repeat (refine Grow.reads rfl rfl ?_;go_big_quiet_step (fail);refine wpQuiet_nil ?_)
      refine Grow.ends ?_
      go_wp2_with (first|(refine zas rfl _ rfl _ _ rfl c (N2.below ke).range ?_)|(refine zas rfl _ rfl _ _ rfl x (zab hr0.out ke) ?_)|(refine RowC.zat E (of_decide_eq_true rfl) rfl _ rfl x rfl ?_)|(refine zaD E rfl (.tmp 69) (.tmp 74) rfl w2.heap.size _ _ (pre) rfl we x _ rfl rfl Oe.out (by omega) ke.size ?_;intro vwf wf zhB hwf;have kf:=ke.trans hwf;have Of:=aside zhB;clear zhB hwf))
      go_roundw
      case rel=>exact⟨j+1,true,pre++[x],by omega,by go_num,rfl,by simp;omega,HP2,aside (by have:=Of.out;simpa using this),kf⟩
      case measure=>simp[intOf];omega
   ·cases b with
    |true=>
     have e0:=zby hk
     have e1:=zdr hk
     have HP2:Hid (R=(pre++[x])++ins c true (l.drop (j+1))):=aside (by rw[hP,if_neg (fun q=>by cases q.1),if_pos hk];simp)
     clear hP hk
     go_wp2
     go_quiet (fail)
     have ka:=zai kb nq
     have Oa:=aside (zbi HO.out nq)
     generalize wr.drewN nq=wa at ka Oa ⊢
     clear c0 c1 c2 c3 c4 d0 d1 d2 d3 d4
     obtain⟨d0,d1,d2,d3,d4⟩:=(N2.below ka).cells
     obtain⟨c0,c1,c2,c3,c4⟩:=cells (zab hr0.out ka)
     go_wp2
     go_quiet (fail)
     have kc:=zai ka nq
     have Oc:=aside (zbi Oa.out nq)
     generalize wa.drewN nq=wc at kc Oc ⊢
     clear c0 c1 c2 c3 c4 d0 d1 d2 d3 d4
     obtain⟨d0,d1,d2,d3,d4⟩:=(N2.below kc).cells
     obtain⟨c0,c1,c2,c3,c4⟩:=cells (zab hr0.out kc)
     go_wp2_with (first|(refine zas rfl _ rfl _ _ rfl c (N2.below kc).range ?_)|(refine zas rfl _ rfl _ _ rfl x (zab hr0.out kc) ?_)|(refine RowC.zat E (of_decide_eq_true rfl) rfl _ rfl x rfl ?_)|(refine zaD E rfl (.tmp 51) (.tmp 56) rfl w2.heap.size _ _ (pre) rfl wc x _ rfl rfl Oc.out (by omega) kc.size ?_;intro vwd wd zhC hwd;have kd:=kc.trans hwd;have Od:=aside zhC;clear zhC hwd))
     go_roundw
     case rel=>exact⟨j+1,true,pre++[x],by omega,by go_num,rfl,by simp;omega,HP2,aside (by have:=Od.out;simpa using this),kd⟩
     case measure=>simp[intOf];omega
    |false=>
     cases hlt2:ltS c.key x.key with
     |true=>
      have e0:=zby hk
      have e1:=zdr hk
      have h2:Op.bytesLess x.key.toList c.key.toList=false:=zaA.asymm hlt2
      have HP2:Hid (R=(pre++[c]++[x])++ins c true (l.drop (j+1))):=aside (by rw[hP,if_pos ⟨rfl,hlt2⟩,if_pos hk,hlt2];simp)
      clear hP hk hlt2
      go_wp2
      go_quiet (fail)
      have ka:=zai kb nq
      have Oa:=aside (zbi HO.out nq)
      generalize wr.drewN nq=wa at ka Oa ⊢
      clear c0 c1 c2 c3 c4 d0 d1 d2 d3 d4
      obtain⟨d0,d1,d2,d3,d4⟩:=(N2.below ka).cells
      obtain⟨c0,c1,c2,c3,c4⟩:=cells (zab hr0.out ka)
      go_wp2_with (first|(refine zas rfl _ rfl _ _ rfl c (N2.below ka).range ?_)|(refine zas rfl _ rfl _ _ rfl x (zab hr0.out ka) ?_)|(refine RowC.zat E (of_decide_eq_true rfl) rfl _ rfl c rfl ?_)|(refine zaD E rfl (.tmp 39) (.tmp 41) rfl w2.heap.size _ _ (pre) rfl wa c _ rfl rfl Oa.out (by omega) ka.size ?_;intro vwb wb ownwb hwb;have kb1:=ka.trans hwb;have Ob:=aside ownwb;clear ownwb hwb))
      clear c0 c1 c2 c3 c4 d0 d1 d2 d3 d4
      obtain⟨d0,d1,d2,d3,d4⟩:=(N2.below kb1).cells
      obtain⟨c0,c1,c2,c3,c4⟩:=cells (zab hr0.out kb1)
      go_quiet (fail)
      have kc:=zai kb1 nq
      have Oc:=aside (zbi Ob.out nq)
      generalize wb.drewN nq=wc at kc Oc ⊢
      clear c0 c1 c2 c3 c4 d0 d1 d2 d3 d4
      obtain⟨d0,d1,d2,d3,d4⟩:=(N2.below kc).cells
      obtain⟨c0,c1,c2,c3,c4⟩:=cells (zab hr0.out kc)
      go_wp2_with (first|(refine zas rfl _ rfl _ _ rfl c (N2.below kc).range ?_)|(refine zas rfl _ rfl _ _ rfl x (zab hr0.out kc) ?_)|(refine RowC.zat E (of_decide_eq_true rfl) rfl _ rfl x rfl ?_)|(refine zaD E rfl (.tmp 51) (.tmp 56) rfl w2.heap.size _ _ (pre++[c]) rfl wc x _ rfl rfl Oc.out (by omega) kc.size ?_;intro vwd wd zhC hwd;have kd:=kc.trans hwd;have Od:=aside zhC;clear zhC hwd))
      go_roundw
      case rel=>exact⟨j+1,true,pre++[c]++[x],by omega,by go_num,rfl,by simp;omega,HP2,aside (by have:=Od.out;simpa using this),kd⟩
      case measure=>simp[intOf];omega
     |false=>
      have e0:=zby hk
      have e1:=zdr hk
      have h2:Op.bytesLess x.key.toList c.key.toList=true:=by
       cases q:Op.bytesLess x.key.toList c.key.toList with
       |true=>rfl
       |false=>exact absurd (zaA.tri _ _ q hlt2) hk
      have HP2:Hid (R=(pre++[x])++ins c false (l.drop (j+1))):=aside (by rw[hP,if_neg (fun q=>by have q2:=q.2;rw[hlt2]at q2;cases q2),if_pos hk,hlt2];simp)
      clear hP hk hlt2
      go_wp2
      go_quiet (fail)
      have ka:=zai kb nq
      have Oa:=aside (zbi HO.out nq)
      generalize wr.drewN nq=wa at ka Oa ⊢
      clear c0 c1 c2 c3 c4 d0 d1 d2 d3 d4
      obtain⟨d0,d1,d2,d3,d4⟩:=(N2.below ka).cells
      obtain⟨c0,c1,c2,c3,c4⟩:=cells (zab hr0.out ka)
      go_wp2
      go_quiet (fail)
      have kc:=zai ka nq
      have Oc:=aside (zbi Oa.out nq)
      generalize wa.drewN nq=wc at kc Oc ⊢
      clear c0 c1 c2 c3 c4 d0 d1 d2 d3 d4
      obtain⟨d0,d1,d2,d3,d4⟩:=(N2.below kc).cells
      obtain⟨c0,c1,c2,c3,c4⟩:=cells (zab hr0.out kc)
      go_wp2_with (first|(refine zas rfl _ rfl _ _ rfl c (N2.below kc).range ?_)|(refine zas rfl _ rfl _ _ rfl x (zab hr0.out kc) ?_)|(refine RowC.zat E (of_decide_eq_true rfl) rfl _ rfl x rfl ?_)|(refine zaD E rfl (.tmp 51) (.tmp 56) rfl w2.heap.size _ _ (pre) rfl wc x _ rfl rfl Oc.out (by omega) kc.size ?_;intro vwd wd zhC hwd;have kd:=kc.trans hwd;have Od:=aside zhC;clear zhC hwd))
      go_roundw
      case rel=>exact⟨j+1,false,pre++[x],by omega,by go_num,rfl,by simp;omega,HP2,aside (by have:=Od.out;simpa using this),kd⟩
      case measure=>simp[intOf];omega
  ·have e:j=l.length:=by omega
   have hP:=HP.out
   rw[e,List.drop_length,zoo]at hP
   obtain⟨d0,d1,d2,d3,d4⟩:=(N2.below kb).cells
   have k9:=k2.trans (kb.mono k2.size)
   cases b with
   |true=>
    rw[if_pos rfl,List.append_nil]at hP
    have HR2:=aside hP
    clear hP HP HR S2
    go_wp2
    go_ret
    rw[HR2.out]
    exact NewR.s ⟨_,rfl,zb8 HO.out k2.size,k9⟩
   |false=>
    rw[if_neg (by simp)]at hP
    have HR2:=aside hP
    clear hP HP HR S2
    go_wp2_with (first|(refine zas rfl _ rfl _ _ rfl c (N2.below kb).range ?_)|(refine RowC.zat E (of_decide_eq_true rfl) rfl _ rfl c rfl ?_)|(refine zaD E rfl (.tmp 78) (.tmp 80) rfl w2.heap.size _ _ (pre) rfl wr c _ rfl rfl HO.out (by omega) kb.size ?_;intro vwd wd zhC hwd;have kd:=kb.trans hwd;have Od:=aside zhC;clear zhC hwd))
    go_ret
    rw[HR2.out]
    exact NewR.s ⟨_,rfl,by have:=Od.out;simpa using zb8 this k2.size,k2.trans (kd.mono k2.size)⟩
theorem zcE (A:Option Addr) (cap:Nat) (l:List Rg) (c:Rg) (w:World) (S:SlR E w A cap l) (hf:Fits l) (hc:Fit c) (hl:l.length≤1000000):
  Calls Tryz.prog 39 #[.slice A l.length cap,.agg (rc c)] w (zie E (zen l c) w):=by
 unfold zen
 cases hm:zbd l with
 |false=>
  rw[if_neg (by simp)]
  exact zlB A cap l c w S hf hc (.inl hm)
 |true=>
  cases ho:zeg c with
  |false=>
   rw[if_neg (by simp)]
   exact zlB A cap l c w S hf hc (.inr ho)
  |true=>
   rw[if_pos ⟨rfl,rfl⟩]
   exact zdX A cap l c w S hf hc hm ho hl
end Go.Proofs.YtgmdhaepiclkcaaGreatDoor.RegQ
