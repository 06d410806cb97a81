/- What package state's own returns | What package state's does, and the functions that it answers, return -/
import Derived.Test.YtgmdhaepiclkcaaGreatDoorStNJ8
import Derived.Test.YtgmdhaepiclkcaaGreatDoorRegUJ10
import Derived.Test.YtgmdhaepiclkcaaGreatDoorIdWJ3
import Derived.Test.YtgmdhaepiclkcaaGreatDoorStrTJ4
import Derived.Test.YtgmdhaepiclkcaaGreatDoorRegHJ2
import Derived.Test.YtgmdhaepiclkcaaGreatDoorLayCompSJ7
namespace Go.Proofs.YtgmdhaepiclkcaaGreatDoor.StO
set_option maxHeartbeats 8000000
set_option maxRecDepth 100000
open Go Go.RowKit Byt OpsM Rise RowS StM StW
def Own (s:St) (w:World) (e:Ending) (w':World):Prop:=∃u:Sv,e=.returned (.agg (sc u))∧u.s=s∧In w' u∧Below w.heap.size w w'
def W2 (w:World) (v:Sv):World:=(w.alloc (.cells (sc v) 30)).alloc (.cells (sc noV) 30)
theorem W2_below (w:World) (v:Sv):Below w.heap.size w (W2 w v):=((Below.refl _ _).alloc (Nat.le_refl _) _).alloc (by simp) _
theorem W2_size (w:World) (v:Sv):(W2 w v).heap.size=w.heap.size+2:=by simp[W2]
theorem W2_boxes (w:World) (v:Sv):Cel.Box SE (W2 w v) w.heap.size v∧Cel.Box SE (W2 w v) (w.heap.size+1) noV:=by
 have z1:(w.alloc (.cells (sc v) 30)).heap.size=w.heap.size+1:=by simp
 refine⟨(Cel.Box.new (E:=SE) w v 30).alloc _,?_⟩
 rw[←z1]
 exact Cel.Box.new (E:=SE) _ noV 30
theorem zfi {α:Type} (E:Enc α) (w:World) (base:Nat):w.ownsRow base E.T E.k (.slice none 0 0) 0 (flat E []):=⟨by simp[flat],.inl ⟨rfl,rfl⟩⟩
theorem zgo {w w':World} (g:w.grownBy w' (Value.slice none 0 0).ownBlock):Below w.heap.size w w':=below_grown (Below.refl _ _) (Nat.le_refl _) g (fun q hq=>by cases hq)
theorem znW {α:Type} {E:Enc α} {w:World} {base n:Nat} {v:Value} {l:List α} (h:w.ownsRow base E.T E.k v n (flat E ([]++l))):∃A cap,v=.slice A l.length cap∧SlR E w A cap l:=SlR.own h
theorem zi6 (v:Sv) (w:World) (S:In w v) (hl:Len 100000000 v.s):Calls Tryz.prog 64 #[.agg (sc v)] w (Own v.s w):=by
 have kb:=W2_below w v
 have hz:=W2_size w v
 obtain⟨R0,X0⟩:=W2_boxes w v
 have S0:=S.below kb
 have l0:=hl.c
 have l1:=hl.r
 have l2:=hl.p
 clear S hl
 go_enter Tryz.func64,Tryz.ntmps64
 go_wp2_with fail
 refine GrowL.region 10 [(0,true),(1,true),(3,true),(4,true),(6,true),(7,true),(2,false),(5,false),(8,false),(9,true),(10,false)] (by kernel_rfl) (by kernel_rfl) rfl (by kernel_rfl) (by intro c a d v w h;cases d <;> exact h) ?_
 change GrowL.Seq _ _ _ _ _ _ (W2 w v).drew
 have k0:=zaf (Below.refl (W2 w v).heap.size (W2 w v))
 have R1:=R0.below k0
 have X1:=X0.below k0
 have S1:=S0.below k0
 have b1:=kb.trans (k0.mono kb.size)
 have z1:w.heap.size+2≤(W2 w v).drew.heap.size:=by rw[←hz];exact k0.size
 generalize (W2 w v).drew=W1 at R1 X1 S1 b1 z1 ⊢
 clear R0 X0 S0 k0 kb hz
 have c0:=Grow.grown (w:=W1) (fun u hu=>(zam (R1.below hu)).1)
 have c1:=Grow.grown (w:=W1) (fun u hu=>(zam (R1.below hu)).2.1)
 have c2:=Grow.grown (w:=W1) (fun u hu=>(zam (R1.below hu)).2.2)
 repeat (refine GrowL.reads rfl rfl ?_;go_big_quiet_step (fail);refine wpQuiet_nil ?_)
 clear c0 c1 c2
 refine GrowL.acts rfl ?_
 go_wp2_with (refine RowS.zaH CtrW.E rfl _ _ rfl W1.heap.size (.slice none 0 0) 0 [] rfl (zfi _ _ _) v.a0 _ _ v.s.c rfl rfl S1.c (by omega) (Nat.le_refl _) ?_;intro q2 W2 zdg g2)
 have k2:=zgo g2
 refine⟨k2,?_⟩
 obtain⟨A2,C2,rfl,N2⟩:=znW zdg
 have X2:=X1.below k2
 have S2:=S1.below k2
 have b2:=b1.trans (k2.mono b1.size)
 have z2:=Nat.le_trans z1 k2.size
 clear zdg g2 k2 R1 X1 S1 b1 z1
 refine GrowL.acts rfl ?_
 go_wp2_with (refine RowS.zaH RegW.E rfl _ _ rfl W2.heap.size (.slice none 0 0) 0 [] rfl (zfi _ _ _) v.a1 _ _ v.s.r rfl rfl S2.r (by omega) (Nat.le_refl _) ?_;intro q3 W3 zbL g3)
 have k3:=zgo g3
 refine⟨k3,?_⟩
 obtain⟨A3,C3,rfl,N3⟩:=znW zbL
 have X3:=X2.below k3
 have S3:=S2.below k3
 have M2:=N2.below k3
 have b3:=b2.trans (k3.mono b2.size)
 have z3:=Nat.le_trans z2 k3.size
 clear zbL g3 k3 X2 S2 b2 z2 N2
 refine GrowL.acts rfl ?_
 go_wp2_with (refine RowS.zaH PairW.E rfl _ _ rfl W3.heap.size (.slice none 0 0) 0 [] rfl (zfi _ _ _) v.a2 _ _ v.s.p rfl rfl S3.p (by omega) (Nat.le_refl _) ?_;intro q4 W4 own4 g4)
 have k4:=zgo g4
 refine⟨k4,?_⟩
 obtain⟨A4,C4,rfl,N4⟩:=znW own4
 have X4:=X3.below k4
 have L2:=M2.below k4
 have L3:=N3.below k4
 have b4:=b3.trans (k4.mono b3.size)
 have z4:=Nat.le_trans z3 k4.size
 clear own4 g4 k4 X3 S3 b3 z3 N3 M2
 simp only[Act.put,List.setIfInBounds_toArray,List.set_cons_succ,List.set_cons_zero]
 repeat (refine GrowL.reads rfl rfl ?_;go_big_quiet_step (fail);refine wpQuiet_nil ?_)
 refine GrowL.last rfl ?_
 go_wp2_with (refine Cel.zad SE rfl _ _ rfl (w.heap.size+1) rfl noV X4 ⟨A2,C2,A3,C3,A4,C4,v.s⟩ rfl ?_;intro W5 X5 b5 g5 s5)
 refine GrowL.done ?_
 have I5:In W5 ⟨A2,C2,A3,C3,A4,C4,v.s⟩:=In.kept ⟨L2,L3,N4⟩ X4 g5
 have k5:=b4.trans (b5 _ (by omega))
 go_wp2_with fail
 obtain⟨r0,r1,r2⟩:=zam X5
 refine bodyPost_ret (v:=.agg (sc ⟨A2,C2,A3,C3,A4,C4,v.s⟩)) (by simp[results,Tryz.results64,go_sem,r0,r1,r2,sc]) rfl ⟨_,rfl,rfl,I5,k5⟩
end Go.Proofs.YtgmdhaepiclkcaaGreatDoor.StO
namespace Go.Proofs.YtgmdhaepiclkcaaGreatDoor.StC
set_option maxHeartbeats 8000000
set_option maxRecDepth 100000
open Go Go.Sort Go.RowKit Byt OpsM OpsW Rise RowS StM StW StO
theorem zor:(Tryz.prog.info? 26).map (·.size)=some 1:=by kernel_rfl
theorem zop:(Tryz.prog.info? 27).map (·.size)=some 1:=by kernel_rfl
theorem zl1:(Tryz.prog.info? 28).map (·.size)=some 1:=by kernel_rfl
def Step (b:Nat) (s:St) (w:World) (e:Ending) (w':World):Prop:=∃u:Sv,e=.returned (.tuple #[])∧u.s=s∧Cel.Box SE w' b u∧In w' u∧Below b w w'
theorem zdk {a:Act} {o:Oper} {K:Act→Prop} {w:World} (x:Operand) (ho:o.op=.load 43 x)
  (b off:Nat) (hx:a.eval x=.pointer (some ⟨b,off,none⟩)) (y:Ev) (hc:w.rangeAt b off (EE.enc y)) (hk:K (a.put o.dst (.agg #[.int .i64 y.node,.int .i64 y.seq]))):o.quiet Tryz.prog a (fun w'=>∃p:Regrown,w'=grow (redrawn w p.d) p.os) K:=
 Cel.zaB EE x ho b off hx y hc hk
theorem zoS (ps po b:Nat) (v:Sv) (o:Opn) (w:World) (P:One w ps (.pointer (some ⟨b,0,none⟩))) (O:zbP w po o) (R:Cel.Box SE w b v) (S:In w v) (fv:Fits v.s) (lv:Len 10000000 v.s) (h1:o.key.size≤1099511627776) (hn:CtrL.In64 o.n):
  Calls Tryz.prog 107 #[.pointer (some ⟨ps,0,none⟩),.pointer (some ⟨po,0,none⟩)] w (Step b ⟨CtrM.zf3 v.s.c o.key o.n,v.s.r,v.s.p⟩ w):=by
 have q:=fun W S=>CtrD.zk0 v.a0 v.k0 v.s.c o.key o.n W S fv.c lv.c h1 hn
 clear fv lv h1 hn
 go_enter Tryz.func107,Tryz.ntmps107
 go_wp2_with fail
 refine GrowL.region 12 [(0,true),(1,true),(2,true),(3,true),(4,true),(5,true),(6,true),(7,true),(8,true),(9,false),(10,true),(11,true),(12,false)] (by kernel_rfl) (by kernel_rfl) rfl (by kernel_rfl) (by intro c a d v w h;cases d <;> exact h) ?_
 have k0:=zaf (Below.refl w.heap.size w)
 have P1:=P.below k0
 have O1:=O.below k0
 have R1:=R.below k0
 have S1:=S.below k0
 have lt:=R.lt
 generalize w.drew=W1 at k0 P1 O1 R1 S1 ⊢
 clear P O R S
 have p0:=Grow.grown (w:=W1) (fun u hu=>(P1.below hu).cell)
 have o1:=Grow.grown (w:=W1) (fun u hu=>(O1.below hu).key)
 have o2:=Grow.grown (w:=W1) (fun u hu=>(O1.below hu).elem)
 have o3:=Grow.grown (w:=W1) (fun u hu=>(O1.below hu).n)
 have c0:=Grow.grown (w:=W1) (fun u hu=>(zam (R1.below hu)).1)
 repeat (first|(refine GrowL.checks rfl rfl _ rfl _ rfl ?_;simp only[Act.put,List.setIfInBounds_toArray,List.set_cons_succ,List.set_cons_zero])|(refine GrowL.reads rfl rfl ?_;go_big_quiet_step (fail);refine wpQuiet_nil ?_))
 clear p0 o1 o2 o3 c0
 refine GrowL.acts rfl ?_
 go_wp2_with fail
 refine(q _ S1.c).mono ?_
 rintro _ W2 ⟨A2,C2,rfl,N2,k2⟩
 go_wp2_with fail
 refine⟨k2,?_⟩
 have R2:=R1.below k2
 have S2:=S1.below k2
 have b2:=k0.trans (k2.mono k0.size)
 clear q P1 O1 R1 S1 k0 k2
 repeat (first|(refine GrowL.checks rfl rfl _ rfl _ rfl ?_;simp only[Act.put,List.setIfInBounds_toArray,List.set_cons_succ,List.set_cons_zero])|(refine GrowL.reads rfl rfl ?_;go_big_quiet_step (fail);refine wpQuiet_nil ?_))
 refine GrowL.last rfl ?_
 go_wp2_with (refine Cel.zaI SE rfl rfl 26 _ _ rfl zor b 0 rfl (of_decide_eq_true rfl) v R2 ⟨A2,C2,v.a1,v.k1,v.a2,v.k2,⟨CtrM.zf3 v.s.c o.key o.n,v.s.r,v.s.p⟩⟩ _ rfl rfl rfl rfl ?_;intro W3 R3 b3 g3 s3)
 refine GrowL.done ?_
 have N3:=zcu noC N2 R2 g3
 have S3:=S2.kept R2 g3
 go_wp2_with fail
 refine bodyPost_ret (v:=.tuple #[]) (by simp[results,Tryz.results107,go_sem]) rfl ⟨_,rfl,rfl,R3,⟨N3,S3.r,S3.p⟩,(b2.mono (Nat.le_of_lt lt)).trans (b3 _ (Nat.le_refl _))⟩
theorem zoR (ps po pg pe b:Nat) (v:Sv) (o:Opn) (g:Int) (e:Ev) (w:World) (P:One w ps (.pointer (some ⟨b,0,none⟩))) (O:zbP w po o) (G:One w pg (.int .i64 g)) (V:Cel.Box EE w pe e) (R:Cel.Box SE w b v) (S:In w v) (fv:Fits v.s) (lv:Len 10000000 v.s) (hr:RegW.Fit (zpo o e.node e.seq g)):
  Calls Tryz.prog 109 #[.pointer (some ⟨ps,0,none⟩),.pointer (some ⟨po,0,none⟩),.pointer (some ⟨pg,0,none⟩),.pointer (some ⟨pe,0,none⟩)] w (Step b ⟨v.s.c,RegL.zen v.s.r (zpo o e.node e.seq g),v.s.p⟩ w):=by
 have q:=fun W S=>RegD.zcE v.a1 v.k1 v.s.r (zpo o e.node e.seq g) W S fv.r hr lv.r
 clear fv lv hr
 go_enter Tryz.func109,Tryz.ntmps109
 go_wp2_with fail
 refine GrowL.region 15 [(0,true),(1,true),(2,true),(3,true),(4,true),(5,true),(6,true),(7,true),(8,true),(9,true),(10,true),(11,true),(12,false),(13,true),(14,true),(15,false)] (by kernel_rfl) (by kernel_rfl) rfl (by kernel_rfl) (by intro c a d v w h;cases d <;> exact h) ?_
 have k0:=zaf (Below.refl w.heap.size w)
 have P1:=P.below k0
 have O1:=O.below k0
 have G1:=G.below k0
 have V1:=V.below k0
 have R1:=R.below k0
 have S1:=S.below k0
 have lt:=R.lt
 generalize w.drew=W1 at k0 P1 O1 G1 V1 R1 S1 ⊢
 clear P O R S G V
 have p0:=Grow.grown (w:=W1) (fun u hu=>(P1.below hu).cell)
 have o1:=Grow.grown (w:=W1) (fun u hu=>(O1.below hu).key)
 have o2:=Grow.grown (w:=W1) (fun u hu=>(O1.below hu).elem)
 have o3:=Grow.grown (w:=W1) (fun u hu=>(O1.below hu).n)
 have g0:=Grow.grown (w:=W1) (fun u hu=>(G1.below hu).cell)
 have c0:=Grow.grown (w:=W1) (fun u hu=>(zam (R1.below hu)).2.1)
 repeat (first|(refine GrowL.checks rfl rfl _ rfl _ rfl ?_;simp only[Act.put,List.setIfInBounds_toArray,List.set_cons_succ,List.set_cons_zero])|(refine GrowL.reads rfl rfl ?_;go_big_quiet_want;refine zdk _ rfl _ _ rfl e V1.range ?_;go_big_quiet_on;refine wpQuiet_nil ?_;simp only[Act.put,List.setIfInBounds_toArray,List.set_cons_succ,List.set_cons_zero])|(refine GrowL.reads rfl rfl ?_;go_big_quiet_step (fail);refine wpQuiet_nil ?_))
 clear p0 o1 o2 o3 c0 g0
 refine GrowL.acts rfl ?_
 go_wp2_with fail
 refine(q _ S1.r).mono ?_
 rintro _ W2 ⟨A2,C2,rfl,N2,k2⟩
 go_wp2_with fail
 refine⟨k2,?_⟩
 have R2:=R1.below k2
 have S2:=S1.below k2
 have b2:=k0.trans (k2.mono k0.size)
 clear q P1 O1 R1 S1 k0 k2 G1 V1
 repeat (first|(refine GrowL.checks rfl rfl _ rfl _ rfl ?_;simp only[Act.put,List.setIfInBounds_toArray,List.set_cons_succ,List.set_cons_zero])|(refine GrowL.reads rfl rfl ?_;go_big_quiet_want;refine zdk _ rfl _ _ rfl e V1.range ?_;go_big_quiet_on;refine wpQuiet_nil ?_;simp only[Act.put,List.setIfInBounds_toArray,List.set_cons_succ,List.set_cons_zero])|(refine GrowL.reads rfl rfl ?_;go_big_quiet_step (fail);refine wpQuiet_nil ?_))
 refine GrowL.last rfl ?_
 go_wp2_with (refine Cel.zaI SE rfl rfl 27 _ _ rfl zop b 1 rfl (of_decide_eq_true rfl) v R2 ⟨v.a0,v.k0,A2,C2,v.a2,v.k2,⟨v.s.c,RegL.zen v.s.r (zpo o e.node e.seq g),v.s.p⟩⟩ _ rfl rfl rfl rfl ?_;intro W3 R3 b3 g3 s3)
 refine GrowL.done ?_
 have N3:=zcu noR N2 R2 g3
 have S3:=S2.kept R2 g3
 go_wp2_with fail
 refine bodyPost_ret (v:=.tuple #[]) (by simp[results,Tryz.results109,go_sem]) rfl ⟨_,rfl,rfl,R3,⟨S3.c,N3,S3.p⟩,(b2.mono (Nat.le_of_lt lt)).trans (b3 _ (Nat.le_refl _))⟩
theorem zoU (ps po pe b:Nat) (v:Sv) (o:Opn) (e:Ev) (w:World) (P:One w ps (.pointer (some ⟨b,0,none⟩))) (O:zbP w po o) (V:Cel.Box EE w pe e) (R:Cel.Box SE w b v) (S:In w v) (fv:Fits v.s) (lv:Len 10000000 v.s) (hp:PairW.Fit (zik o e.node e.seq)):
  Calls Tryz.prog 111 #[.pointer (some ⟨ps,0,none⟩),.pointer (some ⟨po,0,none⟩),.pointer (some ⟨pe,0,none⟩)] w (Step b ⟨v.s.c,v.s.r,PairM.zgq v.s.p (zik o e.node e.seq)⟩ w):=by
 have q:=fun W S=>PairD.zlh v.a2 v.k2 v.s.p (zik o e.node e.seq) W S fv.p hp (by have:=lv.p;omega)
 clear fv lv hp
 go_enter Tryz.func111,Tryz.ntmps111
 go_wp2_with fail
 refine GrowL.region 14 [(0,true),(1,true),(2,true),(3,true),(4,true),(5,true),(6,true),(7,true),(8,true),(9,true),(10,true),(11,false),(12,true),(13,true),(14,false)] (by kernel_rfl) (by kernel_rfl) rfl (by kernel_rfl) (by intro c a d v w h;cases d <;> exact h) ?_
 have k0:=zaf (Below.refl w.heap.size w)
 have P1:=P.below k0
 have O1:=O.below k0
 have V1:=V.below k0
 have R1:=R.below k0
 have S1:=S.below k0
 have lt:=R.lt
 generalize w.drew=W1 at k0 P1 O1 V1 R1 S1 ⊢
 clear P O R S V
 have p0:=Grow.grown (w:=W1) (fun u hu=>(P1.below hu).cell)
 have o1:=Grow.grown (w:=W1) (fun u hu=>(O1.below hu).key)
 have o2:=Grow.grown (w:=W1) (fun u hu=>(O1.below hu).elem)
 have o3:=Grow.grown (w:=W1) (fun u hu=>(O1.below hu).n)
 have c0:=Grow.grown (w:=W1) (fun u hu=>(zam (R1.below hu)).2.2)
 repeat (first|(refine GrowL.checks rfl rfl _ rfl _ rfl ?_;simp only[Act.put,List.setIfInBounds_toArray,List.set_cons_succ,List.set_cons_zero])|(refine GrowL.reads rfl rfl ?_;go_big_quiet_want;refine zdk _ rfl _ _ rfl e V1.range ?_;go_big_quiet_on;refine wpQuiet_nil ?_;simp only[Act.put,List.setIfInBounds_toArray,List.set_cons_succ,List.set_cons_zero])|(refine GrowL.reads rfl rfl ?_;go_big_quiet_step (fail);refine wpQuiet_nil ?_))
 clear p0 o1 o2 o3 c0
 refine GrowL.acts rfl ?_
 go_wp2_with fail
 refine(q _ S1.p).mono ?_
 rintro _ W2 ⟨A2,C2,rfl,N2,k2⟩
 go_wp2_with fail
 refine⟨k2,?_⟩
 have R2:=R1.below k2
 have S2:=S1.below k2
 have b2:=k0.trans (k2.mono k0.size)
 clear q P1 O1 R1 S1 k0 k2 V1
 repeat (first|(refine GrowL.checks rfl rfl _ rfl _ rfl ?_;simp only[Act.put,List.setIfInBounds_toArray,List.set_cons_succ,List.set_cons_zero])|(refine GrowL.reads rfl rfl ?_;go_big_quiet_want;refine zdk _ rfl _ _ rfl e V1.range ?_;go_big_quiet_on;refine wpQuiet_nil ?_;simp only[Act.put,List.setIfInBounds_toArray,List.set_cons_succ,List.set_cons_zero])|(refine GrowL.reads rfl rfl ?_;go_big_quiet_step (fail);refine wpQuiet_nil ?_))
 refine GrowL.last rfl ?_
 go_wp2_with (refine Cel.zaI SE rfl rfl 28 _ _ rfl zl1 b 2 rfl (of_decide_eq_true rfl) v R2 ⟨v.a0,v.k0,v.a1,v.k1,A2,C2,⟨v.s.c,v.s.r,PairM.zgq v.s.p (zik o e.node e.seq)⟩⟩ _ rfl rfl rfl rfl ?_;intro W3 R3 b3 g3 s3)
 refine GrowL.done ?_
 have N3:=zcu noP N2 R2 g3
 have S3:=S2.kept R2 g3
 go_wp2_with fail
 refine bodyPost_ret (v:=.tuple #[]) (by simp[results,Tryz.results111,go_sem]) rfl ⟨_,rfl,rfl,R3,⟨S3.c,S3.r,N3⟩,(b2.mono (Nat.le_of_lt lt)).trans (b3 _ (Nat.le_refl _))⟩
theorem zoT (ps po b:Nat) (v:Sv) (o:Opn) (w:World) (P:One w ps (.pointer (some ⟨b,0,none⟩))) (O:zbP w po o) (R:Cel.Box SE w b v) (S:In w v) (fv:Fits v.s) (lv:Len 10000000 v.s) (h1:o.key.size≤100) (h2:o.elem.size≤100):
  Calls Tryz.prog 113 #[.pointer (some ⟨ps,0,none⟩),.pointer (some ⟨po,0,none⟩)] w (Step b ⟨v.s.c,v.s.r,PairM.zki v.s.p o.key o.elem⟩ w):=by
 have q:=fun W S=>PairD.zk9 v.a2 v.k2 v.s.p o.key o.elem W S fv.p h1 h2 (by have:=lv.p;omega)
 clear fv lv h1 h2
 go_enter Tryz.func113,Tryz.ntmps113
 go_wp2_with fail
 refine GrowL.region 12 [(0,true),(1,true),(2,true),(3,true),(4,true),(5,true),(6,true),(7,true),(8,true),(9,false),(10,true),(11,true),(12,false)] (by kernel_rfl) (by kernel_rfl) rfl (by kernel_rfl) (by intro c a d v w h;cases d <;> exact h) ?_
 have k0:=zaf (Below.refl w.heap.size w)
 have P1:=P.below k0
 have O1:=O.below k0
 have R1:=R.below k0
 have S1:=S.below k0
 have lt:=R.lt
 generalize w.drew=W1 at k0 P1 O1 R1 S1 ⊢
 clear P O R S
 have p0:=Grow.grown (w:=W1) (fun u hu=>(P1.below hu).cell)
 have o1:=Grow.grown (w:=W1) (fun u hu=>(O1.below hu).key)
 have o2:=Grow.grown (w:=W1) (fun u hu=>(O1.below hu).elem)
 have o3:=Grow.grown (w:=W1) (fun u hu=>(O1.below hu).n)
 have c0:=Grow.grown (w:=W1) (fun u hu=>(zam (R1.below hu)).2.2)
 repeat (first|(refine GrowL.checks rfl rfl _ rfl _ rfl ?_;simp only[Act.put,List.setIfInBounds_toArray,List.set_cons_succ,List.set_cons_zero])|(refine GrowL.reads rfl rfl ?_;go_big_quiet_step (fail);refine wpQuiet_nil ?_))
 clear p0 o1 o2 o3 c0
 refine GrowL.acts rfl ?_
 go_wp2_with fail
 refine(q _ S1.p).mono ?_
 rintro _ W2 ⟨A2,C2,rfl,N2,k2⟩
 go_wp2_with fail
 refine⟨k2,?_⟩
 have R2:=R1.below k2
 have S2:=S1.below k2
 have b2:=k0.trans (k2.mono k0.size)
 clear q P1 O1 R1 S1 k0 k2
 repeat (first|(refine GrowL.checks rfl rfl _ rfl _ rfl ?_;simp only[Act.put,List.setIfInBounds_toArray,List.set_cons_succ,List.set_cons_zero])|(refine GrowL.reads rfl rfl ?_;go_big_quiet_step (fail);refine wpQuiet_nil ?_))
 refine GrowL.last rfl ?_
 go_wp2_with (refine Cel.zaI SE rfl rfl 28 _ _ rfl zl1 b 2 rfl (of_decide_eq_true rfl) v R2 ⟨v.a0,v.k0,v.a1,v.k1,A2,C2,⟨v.s.c,v.s.r,PairM.zki v.s.p o.key o.elem⟩⟩ _ rfl rfl rfl rfl ?_;intro W3 R3 b3 g3 s3)
 refine GrowL.done ?_
 have N3:=zcu noP N2 R2 g3
 have S3:=S2.kept R2 g3
 go_wp2_with fail
 refine bodyPost_ret (v:=.tuple #[]) (by simp[results,Tryz.results113,go_sem]) rfl ⟨_,rfl,rfl,R3,⟨S3.c,S3.r,N3⟩,(b2.mono (Nat.le_of_lt lt)).trans (b3 _ (Nat.le_refl _))⟩
structure Tb where
 ps:Nat
 po:Nat
 pe:Nat
 pg:Nat
def tb (x:Tb):Array Value:=#[.func (.func 107) #[] #[.pointer (some ⟨x.ps,0,none⟩),.pointer (some ⟨x.po,0,none⟩)],.func (.func 109) #[] #[.pointer (some ⟨x.ps,0,none⟩),.pointer (some ⟨x.po,0,none⟩),.pointer (some ⟨x.pg,0,none⟩),.pointer (some ⟨x.pe,0,none⟩)],.func (.func 111) #[] #[.pointer (some ⟨x.ps,0,none⟩),.pointer (some ⟨x.po,0,none⟩),.pointer (some ⟨x.pe,0,none⟩)],.func (.func 113) #[] #[.pointer (some ⟨x.ps,0,none⟩),.pointer (some ⟨x.po,0,none⟩)]]
def tbL:Option Tb→List Value
 |none=>[.nilFunc,.nilFunc,.nilFunc,.nilFunc]
 |some x=>[.func (.func 107) #[] #[.pointer (some ⟨x.ps,0,none⟩),.pointer (some ⟨x.po,0,none⟩)],.func (.func 109) #[] #[.pointer (some ⟨x.ps,0,none⟩),.pointer (some ⟨x.po,0,none⟩),.pointer (some ⟨x.pg,0,none⟩),.pointer (some ⟨x.pe,0,none⟩)],.func (.func 111) #[] #[.pointer (some ⟨x.ps,0,none⟩),.pointer (some ⟨x.po,0,none⟩),.pointer (some ⟨x.pe,0,none⟩)],.func (.func 113) #[] #[.pointer (some ⟨x.ps,0,none⟩),.pointer (some ⟨x.po,0,none⟩)]]
def FE:Cel.Cel (Option Tb) where
 T:=103
 k:=4
 bytes:=32
 d:=_
 enc:=tbL
 zero:=none
 len x:=by cases x <;> rfl
 one c v hv:=by
  cases c <;> simp only[tbL,List.mem_cons,List.not_mem_nil,or_false]at hv <;> rcases hv with rfl|rfl|rfl|rfl <;> rfl
 pos:=by omega
 info:=by kernel_rfl
 under:=Tryz.underlying103
 row:=rfl
theorem zpK {w:World} {g:Nat} {x:Tb} (h:Cel.Box FE w g (some x)):w.cell? ⟨g,0,none⟩=some (.func (.func 107) #[] #[.pointer (some ⟨x.ps,0,none⟩),.pointer (some ⟨x.po,0,none⟩)])∧w.cell? ⟨g,1,none⟩=some (.func (.func 109) #[] #[.pointer (some ⟨x.ps,0,none⟩),.pointer (some ⟨x.po,0,none⟩),.pointer (some ⟨x.pg,0,none⟩),.pointer (some ⟨x.pe,0,none⟩)])∧w.cell? ⟨g,2,none⟩=some (.func (.func 111) #[] #[.pointer (some ⟨x.ps,0,none⟩),.pointer (some ⟨x.po,0,none⟩),.pointer (some ⟨x.pe,0,none⟩)])∧w.cell? ⟨g,3,none⟩=some (.func (.func 113) #[] #[.pointer (some ⟨x.ps,0,none⟩),.pointer (some ⟨x.po,0,none⟩)]):=
 ⟨h.cell (j:=0) rfl,h.cell (j:=1) rfl,h.cell (j:=2) rfl,h.cell (j:=3) rfl⟩
structure Has (w:World) (x:Tb) (b:Nat) (o:Opn) (e:Ev) (g:Int):Prop where
 s:One w x.ps (.pointer (some ⟨b,0,none⟩))
 o:zbP w x.po o
 e:Cel.Box EE w x.pe e
 g:One w x.pg (.int .i64 g)
def W5 (w:World) (b:Nat) (o:Opn) (e:Ev) (g:Int):World:=((((w.alloc (.cells #[.pointer (some ⟨b,0,none⟩)] 105)).alloc (.cells (opc o) 45)).alloc (.cells (ec e) 43)).alloc (.cells #[.int .i64 g] 3)).alloc (.cells (tbL none).toArray 103)
theorem W5_has (w:World) (b:Nat) (o:Opn) (e:Ev) (g:Int):Below w.heap.size w (W5 w b o e g)∧(W5 w b o e g).heap.size=w.heap.size+5∧Has (W5 w b o e g) ⟨w.heap.size,w.heap.size+1,w.heap.size+2,w.heap.size+3⟩ b o e g∧Cel.Box FE (W5 w b o e g) (w.heap.size+4) none:=by
 unfold W5
 obtain⟨V0,h0⟩:∃V,w.alloc (.cells #[.pointer (some ⟨b,0,none⟩)] 105)=V:=⟨_,rfl⟩
 have z0:V0.heap.size=w.heap.size+1:=by rw[←h0];simp
 have k0:Below w.heap.size w V0:=by rw[←h0];exact(Below.refl _ _).alloc (Nat.le_refl _) _
 have P0:One V0 w.heap.size (.pointer (some ⟨b,0,none⟩)):=by rw[←h0];exact One.new w _ _
 rw[h0]
 obtain⟨V1,h1⟩:∃V,V0.alloc (.cells (opc o) 45)=V:=⟨_,rfl⟩
 have z1:V1.heap.size=w.heap.size+2:=by rw[←h1];simp;omega
 have k1:Below V0.heap.size V0 V1:=by rw[←h1];exact(Below.refl _ _).alloc (Nat.le_refl _) _
 have O1:zbP V1 (w.heap.size+1) o:=by rw[←h1,←z0];exact zbP.new V0 _ _
 rw[h1]
 obtain⟨V2,h2⟩:∃V,V1.alloc (.cells (ec e) 43)=V:=⟨_,rfl⟩
 have z2:V2.heap.size=w.heap.size+3:=by rw[←h2];simp;omega
 have k2:Below V1.heap.size V1 V2:=by rw[←h2];exact(Below.refl _ _).alloc (Nat.le_refl _) _
 have E2:Cel.Box EE V2 (w.heap.size+2) e:=by rw[←h2,←z1];exact Cel.Box.new (E:=EE) V1 e _
 rw[h2]
 obtain⟨V3,h3⟩:∃V,V2.alloc (.cells #[.int .i64 g] 3)=V:=⟨_,rfl⟩
 have z3:V3.heap.size=w.heap.size+4:=by rw[←h3];simp;omega
 have k3:Below V2.heap.size V2 V3:=by rw[←h3];exact(Below.refl _ _).alloc (Nat.le_refl _) _
 have G3:One V3 (w.heap.size+3) (.int .i64 g):=by rw[←h3,←z2];exact One.new V2 _ _
 rw[h3]
 have k4:Below V3.heap.size V3 (V3.alloc (.cells (tbL none).toArray 103)):=(Below.refl _ _).alloc (Nat.le_refl _) _
 refine⟨(((k0.trans (k1.mono k0.size)).trans (k2.mono (by omega))).trans (k3.mono (by omega))).trans (k4.mono (by omega)),by simp;omega,⟨?_,?_,?_,?_⟩,?_⟩
 ·exact(((P0.below k1).below k2).below k3).below k4
 ·exact((O1.below k2).below k3).below k4
 ·exact(E2.below k3).below k4
 ·exact G3.below k4
 ·rw[←z3]
  exact Cel.Box.new (E:=FE) V3 none _
theorem zhd (b:Nat) (o:Opn) (e:Ev) (g:Int) (w:World):
  Calls Tryz.prog 65 #[.pointer (some ⟨b,0,none⟩),.agg (opc o),.agg (ec e),.int .i64 g] w fun en w'=>∃x:Tb,en=.returned (.agg (tb x))∧Has w' x b o e g∧Below w.heap.size w w':=by
 obtain⟨kb,hz,H0,X0⟩:=W5_has w b o e g
 go_enter Tryz.func65,Tryz.ntmps65
 go_wp2_with (first|(refine Cel.zad FE rfl _ _ rfl (w.heap.size+4) rfl none X0 (some ⟨w.heap.size,w.heap.size+1,w.heap.size+2,w.heap.size+3⟩) rfl ?_;intro W1 X1 b1 g1 s1))
 obtain⟨r0,r1,r2,r3⟩:=zpK X1
 have H1:Has W1 ⟨w.heap.size,w.heap.size+1,w.heap.size+2,w.heap.size+3⟩ b o e g:=⟨H0.s.block (b1 (w.heap.size+4) (Nat.le_refl _)) (by simp),H0.o.block (b1 (w.heap.size+4) (Nat.le_refl _)) (by simp),H0.e.block (b1 (w.heap.size+4) (Nat.le_refl _)) (by simp),H0.g.block (b1 (w.heap.size+4) (Nat.le_refl _)) (by simp)⟩
 have k1:=kb.trans (b1 w.heap.size (by omega))
 refine bodyPost_ret (v:=.agg (tb ⟨w.heap.size,w.heap.size+1,w.heap.size+2,w.heap.size+3⟩)) (by simp[results,Tryz.results65,go_sem,r0,r1,r2,r3,tb]) rfl ⟨_,rfl,H1,k1⟩
end Go.Proofs.YtgmdhaepiclkcaaGreatDoor.StC
