/- What package state's Do returns -/
import Derived.Test.YtgmdhaepiclkcaaGreatDoorLayCompSJ7
import Derived.Test.YtgmdhaepiclkcaaGreatDoorStOJ2
import Derived.Test.YtgmdhaepiclkcaaGreatDoorRegUJ10
import Derived.Test.YtgmdhaepiclkcaaGreatDoorOpsCJ2
namespace Go.Proofs.YtgmdhaepiclkcaaGreatDoor.StK
set_option maxHeartbeats 16000000
set_option maxRecDepth 100000
open Go Go.Sort Go.RowKit Byt OpsM OpsW Rise RowS StM StW StO StC StE
def W4 (w:World) (v:Sv) (o:Opn) (e:Ev):World:=(((w.alloc (.cells (sc v) 30)).alloc (.cells (opc o) 45)).alloc (.cells (ec e) 43)).alloc (.cells (sc noV) 30)
theorem zec (w:World) (v:Sv) (o:Opn) (e:Ev):Below w.heap.size w (W4 w v o e):=((((Below.refl _ _).alloc (Nat.le_refl _) _).alloc (by simp) _).alloc (by simp;omega) _).alloc (by simp;omega) _
theorem zfo (w:World) (v:Sv) (o:Opn) (e:Ev):(W4 w v o e).heap.size=w.heap.size+4:=by simp[W4]
theorem zeb (w:World) (v:Sv) (o:Opn) (e:Ev):Cel.Box SE (W4 w v o e) w.heap.size v∧zbP (W4 w v o e) (w.heap.size+1) o∧Cel.Box EE (W4 w v o e) (w.heap.size+2) e∧Cel.Box SE (W4 w v o e) (w.heap.size+3) noV:=by
 have z1:(w.alloc (.cells (sc v) 30)).heap.size=w.heap.size+1:=by simp
 have z2:((w.alloc (.cells (sc v) 30)).alloc (.cells (opc o) 45)).heap.size=w.heap.size+2:=by simp
 have z3:(((w.alloc (.cells (sc v) 30)).alloc (.cells (opc o) 45)).alloc (.cells (ec e) 43)).heap.size=w.heap.size+3:=by simp
 refine⟨(((Cel.Box.new (E:=SE) w v 30).alloc _).alloc _).alloc _,?_,?_,?_⟩
 ·rw[←z1]
  exact((zbP.new _ o 45).alloc _).alloc _
 ·rw[←z2]
  exact(Cel.Box.new (E:=EE) _ e 43).alloc _
 ·rw[←z3]
  exact Cel.Box.new (E:=SE) _ noV 30
theorem do_none (v:Sv) (o:Opn) (e:Ev) (g:Int) (w:World) (S:In w v) (fv:Fits v.s) (lv:Len 10000000 v.s) (fo:OpsC.Fit o) (hN:okD v.s o e.node e.seq g=false):
  Calls Tryz.prog 23 #[.agg (sc v),.agg (opc o),.agg (ec e),.int .i64 g] w (StW.New (doS v.s o e.node e.seq g) w):=by
 have kb:=zec w v o e
 have hz:=zfo w v o e
 obtain⟨R0,O0,V0,X0⟩:=zeb w v o e
 have S0:=S.below kb
 have q0:=fun W S=>zaz v W S fv lv
 have q1:=fun W=>OpsC.may o W fo
 have q2:=fun W=>zce e W
 have HR:Hid (doS v.s o e.node e.seq g=none):=aside (StY.do_nil hN)
 unfold okD at hN
 obtain⟨x,hx⟩:∃x,zcI v.s=x:=⟨_,rfl⟩
 obtain⟨y,hy⟩:∃y,zda o=y:=⟨_,rfl⟩
 obtain⟨t,ht⟩:∃t,zbs e.node e.seq=t:=⟨_,rfl⟩
 rw[hx,hy,ht]at hN
 rw[hx]at q0
 rw[hy]at q1
 rw[ht]at q2
 clear S fv lv fo hx hy ht
 have hw:x=false∨(x=true∧y=false)∨(x=true∧y=true∧t=false)∨(x=true∧y=true∧t=true∧g<1):=by
  cases x <;> cases y <;> cases t <;> simp at hN ⊢
  omega
 have HW:=aside hw
 clear hN hw
 go_enter Tryz.func23,Tryz.ntmps23
 go_wp2_with (first|go_skip|(refine CelG.zbW SE _ rfl _ rfl v R0 rfl ?_))
 refine(q0 _ S0).mono ?_
 rintro _ w1 ⟨rfl,k1⟩
 have R1:=R0.below k1
 have O1:=O0.below k1
 have V1:=V0.below k1
 have X1:=X0.below k1
 have S1:=S0.below k1
 have b1:=kb.trans (k1.mono kb.size)
 have h1:w.heap.size+4≤w1.heap.size:=by rw[←hz];exact k1.size
 clear q0 R0 O0 V0 X0 S0 k1 kb hz
 rcases HW.out with rfl|⟨rfl,rfl⟩|⟨rfl,rfl,rfl⟩|⟨rfl,rfl,rfl,hg⟩ <;> clear HW
 ·skip
  go_wp2_with (first|go_skip|(refine Cel.zad SE rfl _ _ rfl (w.heap.size+3) rfl noV X1 noV rfl ?_;intro u X' b' g' s'))
  have k':=b1.trans (b' _ (by omega))
  obtain⟨r0,r1,r2⟩:=zam X'
  refine bodyPost_ret (v:=.tuple #[.agg (sc noV),.int .i64 1]) (by simp[results,Tryz.results23,go_sem,r0,r1,r2,sc]) rfl ⟨noV,by rw[HR.out];rfl,by rw[HR.out];rfl,In.none _,k'⟩
 ·skip
  go_wp2_with (first|go_skip|(refine CelG.gop _ rfl _ rfl o O1 rfl ?_))
  refine(q1 _).mono ?_
  rintro _ w2 ⟨rfl,k2⟩
  have R2:=R1.below k2
  have O2:=O1.below k2
  have V2:=V1.below k2
  have X2:=X1.below k2
  have S2:=S1.below k2
  have b2:=b1.trans (k2.mono b1.size)
  have h2:=Nat.le_trans h1 k2.size
  clear q1 R1 O1 V1 X1 S1 k2 b1 h1
  go_wp2_with (first|go_skip|(refine Cel.zad SE rfl _ _ rfl (w.heap.size+3) rfl noV X2 noV rfl ?_;intro u X' b' g' s'))
  have k':=b2.trans (b' _ (by omega))
  obtain⟨r0,r1,r2⟩:=zam X'
  refine bodyPost_ret (v:=.tuple #[.agg (sc noV),.int .i64 1]) (by simp[results,Tryz.results23,go_sem,r0,r1,r2,sc]) rfl ⟨noV,by rw[HR.out];rfl,by rw[HR.out];rfl,In.none _,k'⟩
 ·skip
  go_wp2_with (first|go_skip|(refine CelG.gop _ rfl _ rfl o O1 rfl ?_))
  refine(q1 _).mono ?_
  rintro _ w2 ⟨rfl,k2⟩
  have R2:=R1.below k2
  have O2:=O1.below k2
  have V2:=V1.below k2
  have X2:=X1.below k2
  have S2:=S1.below k2
  have b2:=b1.trans (k2.mono b1.size)
  have h2:=Nat.le_trans h1 k2.size
  clear q1 R1 O1 V1 X1 S1 k2 b1 h1
  go_wp2_with (first|go_skip|(refine CelG.zbW EE _ rfl _ rfl e V2 rfl ?_))
  refine(q2 _).mono ?_
  rintro _ w3 ⟨rfl,k3⟩
  have R3:=R2.below k3
  have O3:=O2.below k3
  have V3:=V2.below k3
  have X3:=X2.below k3
  have S3:=S2.below k3
  have b3:=b2.trans (k3.mono b2.size)
  have h3:=Nat.le_trans h2 k3.size
  clear q2 R2 O2 V2 X2 S2 k3 b2 h2
  go_wp2_with (first|go_skip|(refine Cel.zad SE rfl _ _ rfl (w.heap.size+3) rfl noV X3 noV rfl ?_;intro u X' b' g' s'))
  have k':=b3.trans (b' _ (by omega))
  obtain⟨r0,r1,r2⟩:=zam X'
  refine bodyPost_ret (v:=.tuple #[.agg (sc noV),.int .i64 1]) (by simp[results,Tryz.results23,go_sem,r0,r1,r2,sc]) rfl ⟨noV,by rw[HR.out];rfl,by rw[HR.out];rfl,In.none _,k'⟩
 ·skip
  go_wp2_with (first|go_skip|(refine CelG.gop _ rfl _ rfl o O1 rfl ?_))
  refine(q1 _).mono ?_
  rintro _ w2 ⟨rfl,k2⟩
  have R2:=R1.below k2
  have O2:=O1.below k2
  have V2:=V1.below k2
  have X2:=X1.below k2
  have S2:=S1.below k2
  have b2:=b1.trans (k2.mono b1.size)
  have h2:=Nat.le_trans h1 k2.size
  clear q1 R1 O1 V1 X1 S1 k2 b1 h1
  go_wp2_with (first|go_skip|(refine CelG.zbW EE _ rfl _ rfl e V2 rfl ?_))
  refine(q2 _).mono ?_
  rintro _ w3 ⟨rfl,k3⟩
  have R3:=R2.below k3
  have O3:=O2.below k3
  have V3:=V2.below k3
  have X3:=X2.below k3
  have S3:=S2.below k3
  have b3:=b2.trans (k3.mono b2.size)
  have h3:=Nat.le_trans h2 k3.size
  clear q2 R2 O2 V2 X2 S2 k3 b2 h2
  go_wp2_with (first|go_skip|(refine Cel.zad SE rfl _ _ rfl (w.heap.size+3) rfl noV X3 noV rfl ?_;intro u X' b' g' s'))
  have k':=b3.trans (b' _ (by omega))
  obtain⟨r0,r1,r2⟩:=zam X'
  refine bodyPost_ret (v:=.tuple #[.agg (sc noV),.int .i64 1]) (by simp[results,Tryz.results23,go_sem,r0,r1,r2,sc]) rfl ⟨noV,by rw[HR.out];rfl,by rw[HR.out];rfl,In.none _,k'⟩
theorem zoS (v:Sv) (o:Opn) (e:Ev) (g:Int) (w:World) (S:In w v) (fv:Fits v.s) (lv:Len 10000000 v.s) (fo:OpsC.Fit o) (hN:okD v.s o e.node e.seq g=true) (hk:o.kind=0):
  Calls Tryz.prog 23 #[.agg (sc v),.agg (opc o),.agg (ec e),.int .i64 g] w (StW.New (doS v.s o e.node e.seq g) w):=by
 have kb:=zec w v o e
 have hz:=zfo w v o e
 obtain⟨R0,O0,V0,X0⟩:=zeb w v o e
 have S0:=S.below kb
 have q0:=fun W S=>zaz v W S fv lv
 have q1:=fun W=>OpsC.may o W fo
 have q2:=fun W=>zce e W
 have HR:Hid (doS v.s o e.node e.seq g=some ⟨CtrM.zf3 v.s.c o.key o.n,v.s.r,v.s.p⟩):=aside (by unfold doS stepS;rw[hN,hk];rfl)
 have q3:=fun W S=>zi6 v W S (lv.le (by omega))
 obtain⟨m1,m2,m3,m4⟩:=zc6.1 hN
 have s1:=StY.zcb (zdx m2)
 rw[m1]at q0
 rw[m2]at q1
 rw[m3]at q2
 have p0:¬(g<1):=by omega
 clear S hN m1 m2 m3 m4
 go_enter Tryz.func23,Tryz.ntmps23
 go_wp2_with (first|go_skip|(refine CelG.zbW SE _ rfl _ rfl v R0 rfl ?_))
 refine(q0 _ S0).mono ?_
 rintro _ w1 ⟨rfl,k1⟩
 have R1:=R0.below k1
 have O1:=O0.below k1
 have V1:=V0.below k1
 have X1:=X0.below k1
 have S1:=S0.below k1
 have b1:=kb.trans (k1.mono kb.size)
 have h1:w.heap.size+4≤w1.heap.size:=by rw[←hz];exact k1.size
 clear q0 R0 O0 V0 X0 S0 k1 kb hz
 go_wp2_with (first|go_skip|(refine CelG.gop _ rfl _ rfl o O1 rfl ?_))
 refine(q1 _).mono ?_
 rintro _ w2 ⟨rfl,k2⟩
 have R2:=R1.below k2
 have O2:=O1.below k2
 have V2:=V1.below k2
 have X2:=X1.below k2
 have S2:=S1.below k2
 have b2:=b1.trans (k2.mono b1.size)
 have h2:=Nat.le_trans h1 k2.size
 clear q1 R1 O1 V1 X1 S1 k2 b1 h1
 go_wp2_with (first|go_skip|(refine CelG.zbW EE _ rfl _ rfl e V2 rfl ?_))
 refine(q2 _).mono ?_
 rintro _ w3 ⟨rfl,k3⟩
 have R3:=R2.below k3
 have O3:=O2.below k3
 have V3:=V2.below k3
 have X3:=X2.below k3
 have S3:=S2.below k3
 have b3:=b2.trans (k3.mono b2.size)
 have h3:=Nat.le_trans h2 k3.size
 clear q2 R2 O2 V2 X2 S2 k3 b2 h2
 go_wp2_with (first|go_skip|(refine CelG.zbW SE _ rfl _ rfl v R3 rfl ?_))
 refine(q3 _ S3).mono ?_
 rintro _ w4 ⟨u,rfl,hu,N4,k4⟩
 have O4:=O3.below k4
 have V4:=V3.below k4
 have X4:=X3.below k4
 have b4:=b3.trans (k4.mono b3.size)
 have h4:=Nat.le_trans h3 k4.size
 clear q3 R3 O3 V3 X3 S3 k4 b3 h3
 go_wp2_with (first|go_skip|(refine Cel.zac SE rfl _ _ rfl _ _ _ rfl u _ rfl rfl rfl rfl ?_;intro w5 R5 k5 g5 s5))
 refine Grow.region [(0,true),(1,true),(2,true),(4,true),(5,true),(3,false),(6,true),(7,true)] (by kernel_rfl) (by kernel_rfl) rfl (by kernel_rfl) (by intro c a d v w h;cases d <;> exact h) ?_
 have dr:=zaf (Below.refl w5.heap.size w5)
 have kd:=k5.trans (dr.mono k5.size)
 have O6:=O4.below kd
 have V6:=V4.below kd
 have X6:=X4.below kd
 have N6:=N4.below kd
 have R6:=R5.below dr
 have b6:=b4.trans (kd.mono b4.size)
 have s6:w4.heap.size+1≤w5.drew.heap.size:=by rw[←s5];exact dr.size
 generalize w5.drew=w6 at O6 V6 X6 N6 R6 b6 s6 ⊢
 clear O4 V4 X4 N4 k5 g5 s5 dr kd b4 R5
 have o0:=Grow.grown (w:=w6) (fun y hy=>(O6.below hy).kind)
 rw[hk]at o0
 repeat (first|(refine zcL rfl rfl _ rfl _ rfl o O6 ?_;simp only[Act.put,List.setIfInBounds_toArray,List.set_cons_succ,List.set_cons_zero])|(refine Grow.reads rfl rfl ?_;go_big_quiet_want;refine zdk _ rfl _ _ rfl e V6.range ?_;go_big_quiet_on;refine wpQuiet_nil ?_;simp only[Act.put,List.setIfInBounds_toArray,List.set_cons_succ,List.set_cons_zero])|(refine Grow.reads rfl rfl ?_;go_big_quiet_step (fail);refine wpQuiet_nil ?_))
 clear o0
 refine Grow.acts rfl ?_
 go_wp2_with fail
 refine(zhd w4.heap.size o e g w6).mono ?_
 rintro _ w7 ⟨x,rfl,H7,k7⟩
 go_wp2_with fail
 refine⟨k7,?_⟩
 have hi:∀W:World,(Instr.index 103 (.agg (tb x)) (.int .i64 0)).run Tryz.prog W=.ok (.func (.func 107) #[] #[.pointer (some ⟨x.ps,0,none⟩),.pointer (some ⟨x.po,0,none⟩)]) W:=fun _=>by kernel_rfl
 simp only[tb]at hi ⊢
 have X7:=X6.below k7
 have N7:=N6.below k7
 have R7:=R6.below k7
 have b7:=b6.trans (k7.mono b6.size)
 clear O6 V6 X6 N6 R6 b6
 repeat (refine Grow.reads rfl rfl ?_;go_big_quiet_step (fail);refine wpQuiet_nil ?_)
 refine Grow.ends ?_
 go_wp2_with fail
 have q4:=StC.zoS x.ps x.po w4.heap.size u o w7 H7.s H7.o R7 N7 (by rw[hu];exact fv) (by rw[hu];exact lv) (by omega) fo.n
 rw[hu]at q4
 refine q4.mono ?_
 clear q4
 rintro _ w8 ⟨z,rfl,hz,R8,N8,k8⟩
 have X8:=X7.block k8 (by omega)
 have b8:=b7.trans (k8.mono (by omega))
 clear X7 N7 R7 b7 k8 H7 k7
 go_wp2_with (first|go_skip|(refine CelG.zbW SE _ rfl _ rfl z R8 rfl ?_)|(refine Cel.zad SE rfl _ _ rfl (w.heap.size+3) rfl noV X8 z rfl ?_;intro w9 X9 b9 g9 s9))
 have N9:=N8.kept X8 g9
 have k9:=b8.trans (b9 _ (by omega))
 obtain⟨r0,r1,r2⟩:=zam X9
 refine bodyPost_ret (v:=.tuple #[.agg (sc z),.int .i64 0]) (by simp[results,Tryz.results23,go_sem,r0,r1,r2,sc]) rfl ⟨z,by rw[HR.out];rfl,by rw[HR.out,hz];rfl,N9,k9⟩
theorem zoR (v:Sv) (o:Opn) (e:Ev) (g:Int) (w:World) (S:In w v) (fv:Fits v.s) (lv:Len 10000000 v.s) (fo:OpsC.Fit o) (hG:CtrL.In64 g) (hE:CtrL.In64 e.node) (hQ:CtrL.In64 e.seq) (hN:okD v.s o e.node e.seq g=true) (hk:o.kind=1):
  Calls Tryz.prog 23 #[.agg (sc v),.agg (opc o),.agg (ec e),.int .i64 g] w (StW.New (doS v.s o e.node e.seq g) w):=by
 have kb:=zec w v o e
 have hz:=zfo w v o e
 obtain⟨R0,O0,V0,X0⟩:=zeb w v o e
 have S0:=S.below kb
 have q0:=fun W S=>zaz v W S fv lv
 have q1:=fun W=>OpsC.may o W fo
 have q2:=fun W=>zce e W
 have HR:Hid (doS v.s o e.node e.seq g=some ⟨v.s.c,RegL.zen v.s.r (zpo o e.node e.seq g),v.s.p⟩):=aside (by unfold doS stepS;rw[hN,hk];rfl)
 have q3:=fun W S=>zi6 v W S (lv.le (by omega))
 obtain⟨m1,m2,m3,m4⟩:=zc6.1 hN
 have s1:=StY.zcb (zdx m2)
 rw[m1]at q0
 rw[m2]at q1
 rw[m3]at q2
 have s2:=StY.zcb (ze3 m2 (by omega))
 have p0:¬(g<1):=by omega
 clear S hN m1 m2 m3 m4
 go_enter Tryz.func23,Tryz.ntmps23
 go_wp2_with (first|go_skip|(refine CelG.zbW SE _ rfl _ rfl v R0 rfl ?_))
 refine(q0 _ S0).mono ?_
 rintro _ w1 ⟨rfl,k1⟩
 have R1:=R0.below k1
 have O1:=O0.below k1
 have V1:=V0.below k1
 have X1:=X0.below k1
 have S1:=S0.below k1
 have b1:=kb.trans (k1.mono kb.size)
 have h1:w.heap.size+4≤w1.heap.size:=by rw[←hz];exact k1.size
 clear q0 R0 O0 V0 X0 S0 k1 kb hz
 go_wp2_with (first|go_skip|(refine CelG.gop _ rfl _ rfl o O1 rfl ?_))
 refine(q1 _).mono ?_
 rintro _ w2 ⟨rfl,k2⟩
 have R2:=R1.below k2
 have O2:=O1.below k2
 have V2:=V1.below k2
 have X2:=X1.below k2
 have S2:=S1.below k2
 have b2:=b1.trans (k2.mono b1.size)
 have h2:=Nat.le_trans h1 k2.size
 clear q1 R1 O1 V1 X1 S1 k2 b1 h1
 go_wp2_with (first|go_skip|(refine CelG.zbW EE _ rfl _ rfl e V2 rfl ?_))
 refine(q2 _).mono ?_
 rintro _ w3 ⟨rfl,k3⟩
 have R3:=R2.below k3
 have O3:=O2.below k3
 have V3:=V2.below k3
 have X3:=X2.below k3
 have S3:=S2.below k3
 have b3:=b2.trans (k3.mono b2.size)
 have h3:=Nat.le_trans h2 k3.size
 clear q2 R2 O2 V2 X2 S2 k3 b2 h2
 go_wp2_with (first|go_skip|(refine CelG.zbW SE _ rfl _ rfl v R3 rfl ?_))
 refine(q3 _ S3).mono ?_
 rintro _ w4 ⟨u,rfl,hu,N4,k4⟩
 have O4:=O3.below k4
 have V4:=V3.below k4
 have X4:=X3.below k4
 have b4:=b3.trans (k4.mono b3.size)
 have h4:=Nat.le_trans h3 k4.size
 clear q3 R3 O3 V3 X3 S3 k4 b3 h3
 go_wp2_with (first|go_skip|(refine Cel.zac SE rfl _ _ rfl _ _ _ rfl u _ rfl rfl rfl rfl ?_;intro w5 R5 k5 g5 s5))
 refine Grow.region [(0,true),(1,true),(2,true),(4,true),(5,true),(3,false),(6,true),(7,true)] (by kernel_rfl) (by kernel_rfl) rfl (by kernel_rfl) (by intro c a d v w h;cases d <;> exact h) ?_
 have dr:=zaf (Below.refl w5.heap.size w5)
 have kd:=k5.trans (dr.mono k5.size)
 have O6:=O4.below kd
 have V6:=V4.below kd
 have X6:=X4.below kd
 have N6:=N4.below kd
 have R6:=R5.below dr
 have b6:=b4.trans (kd.mono b4.size)
 have s6:w4.heap.size+1≤w5.drew.heap.size:=by rw[←s5];exact dr.size
 generalize w5.drew=w6 at O6 V6 X6 N6 R6 b6 s6 ⊢
 clear O4 V4 X4 N4 k5 g5 s5 dr kd b4 R5
 have o0:=Grow.grown (w:=w6) (fun y hy=>(O6.below hy).kind)
 rw[hk]at o0
 repeat (first|(refine zcL rfl rfl _ rfl _ rfl o O6 ?_;simp only[Act.put,List.setIfInBounds_toArray,List.set_cons_succ,List.set_cons_zero])|(refine Grow.reads rfl rfl ?_;go_big_quiet_want;refine zdk _ rfl _ _ rfl e V6.range ?_;go_big_quiet_on;refine wpQuiet_nil ?_;simp only[Act.put,List.setIfInBounds_toArray,List.set_cons_succ,List.set_cons_zero])|(refine Grow.reads rfl rfl ?_;go_big_quiet_step (fail);refine wpQuiet_nil ?_))
 clear o0
 refine Grow.acts rfl ?_
 go_wp2_with fail
 refine(zhd w4.heap.size o e g w6).mono ?_
 rintro _ w7 ⟨x,rfl,H7,k7⟩
 go_wp2_with fail
 refine⟨k7,?_⟩
 have hi:∀W:World,(Instr.index 103 (.agg (tb x)) (.int .i64 1)).run Tryz.prog W=.ok (.func (.func 109) #[] #[.pointer (some ⟨x.ps,0,none⟩),.pointer (some ⟨x.po,0,none⟩),.pointer (some ⟨x.pg,0,none⟩),.pointer (some ⟨x.pe,0,none⟩)]) W:=fun _=>by kernel_rfl
 simp only[tb]at hi ⊢
 have X7:=X6.below k7
 have N7:=N6.below k7
 have R7:=R6.below k7
 have b7:=b6.trans (k7.mono b6.size)
 clear O6 V6 X6 N6 R6 b6
 repeat (refine Grow.reads rfl rfl ?_;go_big_quiet_step (fail);refine wpQuiet_nil ?_)
 refine Grow.ends ?_
 go_wp2_with fail
 have q4:=StC.zoR x.ps x.po x.pg x.pe w4.heap.size u o g e w7 H7.s H7.o H7.g H7.e R7 N7 (by rw[hu];exact fv) (by rw[hu];exact lv) ⟨by show o.key.size≤_;omega,by show o.elem.size≤_;omega,hG,hE,hQ⟩
 rw[hu]at q4
 refine q4.mono ?_
 clear q4
 rintro _ w8 ⟨z,rfl,hz,R8,N8,k8⟩
 have X8:=X7.block k8 (by omega)
 have b8:=b7.trans (k8.mono (by omega))
 clear X7 N7 R7 b7 k8 H7 k7
 go_wp2_with (first|go_skip|(refine CelG.zbW SE _ rfl _ rfl z R8 rfl ?_)|(refine Cel.zad SE rfl _ _ rfl (w.heap.size+3) rfl noV X8 z rfl ?_;intro w9 X9 b9 g9 s9))
 have N9:=N8.kept X8 g9
 have k9:=b8.trans (b9 _ (by omega))
 obtain⟨r0,r1,r2⟩:=zam X9
 refine bodyPost_ret (v:=.tuple #[.agg (sc z),.int .i64 0]) (by simp[results,Tryz.results23,go_sem,r0,r1,r2,sc]) rfl ⟨z,by rw[HR.out];rfl,by rw[HR.out,hz];rfl,N9,k9⟩
theorem zoU (v:Sv) (o:Opn) (e:Ev) (g:Int) (w:World) (S:In w v) (fv:Fits v.s) (lv:Len 10000000 v.s) (fo:OpsC.Fit o) (hE:CtrL.In64 e.node) (hQ:CtrL.In64 e.seq) (hN:okD v.s o e.node e.seq g=true) (hk:o.kind=2):
  Calls Tryz.prog 23 #[.agg (sc v),.agg (opc o),.agg (ec e),.int .i64 g] w (StW.New (doS v.s o e.node e.seq g) w):=by
 have kb:=zec w v o e
 have hz:=zfo w v o e
 obtain⟨R0,O0,V0,X0⟩:=zeb w v o e
 have S0:=S.below kb
 have q0:=fun W S=>zaz v W S fv lv
 have q1:=fun W=>OpsC.may o W fo
 have q2:=fun W=>zce e W
 have HR:Hid (doS v.s o e.node e.seq g=some ⟨v.s.c,v.s.r,PairM.zgq v.s.p (zik o e.node e.seq)⟩):=aside (by unfold doS stepS;rw[hN,hk];rfl)
 have q3:=fun W S=>zi6 v W S (lv.le (by omega))
 obtain⟨m1,m2,m3,m4⟩:=zc6.1 hN
 have s1:=StY.zcb (zdx m2)
 rw[m1]at q0
 rw[m2]at q1
 rw[m3]at q2
 have s2:=StY.zcb (ze3 m2 (by omega))
 have p0:¬(g<1):=by omega
 clear S hN m1 m2 m3 m4
 go_enter Tryz.func23,Tryz.ntmps23
 go_wp2_with (first|go_skip|(refine CelG.zbW SE _ rfl _ rfl v R0 rfl ?_))
 refine(q0 _ S0).mono ?_
 rintro _ w1 ⟨rfl,k1⟩
 have R1:=R0.below k1
 have O1:=O0.below k1
 have V1:=V0.below k1
 have X1:=X0.below k1
 have S1:=S0.below k1
 have b1:=kb.trans (k1.mono kb.size)
 have h1:w.heap.size+4≤w1.heap.size:=by rw[←hz];exact k1.size
 clear q0 R0 O0 V0 X0 S0 k1 kb hz
 go_wp2_with (first|go_skip|(refine CelG.gop _ rfl _ rfl o O1 rfl ?_))
 refine(q1 _).mono ?_
 rintro _ w2 ⟨rfl,k2⟩
 have R2:=R1.below k2
 have O2:=O1.below k2
 have V2:=V1.below k2
 have X2:=X1.below k2
 have S2:=S1.below k2
 have b2:=b1.trans (k2.mono b1.size)
 have h2:=Nat.le_trans h1 k2.size
 clear q1 R1 O1 V1 X1 S1 k2 b1 h1
 go_wp2_with (first|go_skip|(refine CelG.zbW EE _ rfl _ rfl e V2 rfl ?_))
 refine(q2 _).mono ?_
 rintro _ w3 ⟨rfl,k3⟩
 have R3:=R2.below k3
 have O3:=O2.below k3
 have V3:=V2.below k3
 have X3:=X2.below k3
 have S3:=S2.below k3
 have b3:=b2.trans (k3.mono b2.size)
 have h3:=Nat.le_trans h2 k3.size
 clear q2 R2 O2 V2 X2 S2 k3 b2 h2
 go_wp2_with (first|go_skip|(refine CelG.zbW SE _ rfl _ rfl v R3 rfl ?_))
 refine(q3 _ S3).mono ?_
 rintro _ w4 ⟨u,rfl,hu,N4,k4⟩
 have O4:=O3.below k4
 have V4:=V3.below k4
 have X4:=X3.below k4
 have b4:=b3.trans (k4.mono b3.size)
 have h4:=Nat.le_trans h3 k4.size
 clear q3 R3 O3 V3 X3 S3 k4 b3 h3
 go_wp2_with (first|go_skip|(refine Cel.zac SE rfl _ _ rfl _ _ _ rfl u _ rfl rfl rfl rfl ?_;intro w5 R5 k5 g5 s5))
 refine Grow.region [(0,true),(1,true),(2,true),(4,true),(5,true),(3,false),(6,true),(7,true)] (by kernel_rfl) (by kernel_rfl) rfl (by kernel_rfl) (by intro c a d v w h;cases d <;> exact h) ?_
 have dr:=zaf (Below.refl w5.heap.size w5)
 have kd:=k5.trans (dr.mono k5.size)
 have O6:=O4.below kd
 have V6:=V4.below kd
 have X6:=X4.below kd
 have N6:=N4.below kd
 have R6:=R5.below dr
 have b6:=b4.trans (kd.mono b4.size)
 have s6:w4.heap.size+1≤w5.drew.heap.size:=by rw[←s5];exact dr.size
 generalize w5.drew=w6 at O6 V6 X6 N6 R6 b6 s6 ⊢
 clear O4 V4 X4 N4 k5 g5 s5 dr kd b4 R5
 have o0:=Grow.grown (w:=w6) (fun y hy=>(O6.below hy).kind)
 rw[hk]at o0
 repeat (first|(refine zcL rfl rfl _ rfl _ rfl o O6 ?_;simp only[Act.put,List.setIfInBounds_toArray,List.set_cons_succ,List.set_cons_zero])|(refine Grow.reads rfl rfl ?_;go_big_quiet_want;refine zdk _ rfl _ _ rfl e V6.range ?_;go_big_quiet_on;refine wpQuiet_nil ?_;simp only[Act.put,List.setIfInBounds_toArray,List.set_cons_succ,List.set_cons_zero])|(refine Grow.reads rfl rfl ?_;go_big_quiet_step (fail);refine wpQuiet_nil ?_))
 clear o0
 refine Grow.acts rfl ?_
 go_wp2_with fail
 refine(zhd w4.heap.size o e g w6).mono ?_
 rintro _ w7 ⟨x,rfl,H7,k7⟩
 go_wp2_with fail
 refine⟨k7,?_⟩
 have hi:∀W:World,(Instr.index 103 (.agg (tb x)) (.int .i64 2)).run Tryz.prog W=.ok (.func (.func 111) #[] #[.pointer (some ⟨x.ps,0,none⟩),.pointer (some ⟨x.po,0,none⟩),.pointer (some ⟨x.pe,0,none⟩)]) W:=fun _=>by kernel_rfl
 simp only[tb]at hi ⊢
 have X7:=X6.below k7
 have N7:=N6.below k7
 have R7:=R6.below k7
 have b7:=b6.trans (k7.mono b6.size)
 clear O6 V6 X6 N6 R6 b6
 repeat (refine Grow.reads rfl rfl ?_;go_big_quiet_step (fail);refine wpQuiet_nil ?_)
 refine Grow.ends ?_
 go_wp2_with fail
 have q4:=StC.zoU x.ps x.po x.pe w4.heap.size u o e w7 H7.s H7.o H7.e R7 N7 (by rw[hu];exact fv) (by rw[hu];exact lv) ⟨by show o.key.size≤_;omega,by show o.elem.size≤_;omega,hE,hQ⟩
 rw[hu]at q4
 refine q4.mono ?_
 clear q4
 rintro _ w8 ⟨z,rfl,hz,R8,N8,k8⟩
 have X8:=X7.block k8 (by omega)
 have b8:=b7.trans (k8.mono (by omega))
 clear X7 N7 R7 b7 k8 H7 k7
 go_wp2_with (first|go_skip|(refine CelG.zbW SE _ rfl _ rfl z R8 rfl ?_)|(refine Cel.zad SE rfl _ _ rfl (w.heap.size+3) rfl noV X8 z rfl ?_;intro w9 X9 b9 g9 s9))
 have N9:=N8.kept X8 g9
 have k9:=b8.trans (b9 _ (by omega))
 obtain⟨r0,r1,r2⟩:=zam X9
 refine bodyPost_ret (v:=.tuple #[.agg (sc z),.int .i64 0]) (by simp[results,Tryz.results23,go_sem,r0,r1,r2,sc]) rfl ⟨z,by rw[HR.out];rfl,by rw[HR.out,hz];rfl,N9,k9⟩
theorem zoT (v:Sv) (o:Opn) (e:Ev) (g:Int) (w:World) (S:In w v) (fv:Fits v.s) (lv:Len 10000000 v.s) (fo:OpsC.Fit o) (hN:okD v.s o e.node e.seq g=true) (hk:o.kind=3):
  Calls Tryz.prog 23 #[.agg (sc v),.agg (opc o),.agg (ec e),.int .i64 g] w (StW.New (doS v.s o e.node e.seq g) w):=by
 have kb:=zec w v o e
 have hz:=zfo w v o e
 obtain⟨R0,O0,V0,X0⟩:=zeb w v o e
 have S0:=S.below kb
 have q0:=fun W S=>zaz v W S fv lv
 have q1:=fun W=>OpsC.may o W fo
 have q2:=fun W=>zce e W
 have HR:Hid (doS v.s o e.node e.seq g=some ⟨v.s.c,v.s.r,PairM.zki v.s.p o.key o.elem⟩):=aside (by unfold doS stepS;rw[hN,hk];rfl)
 have q3:=fun W S=>zi6 v W S (lv.le (by omega))
 obtain⟨m1,m2,m3,m4⟩:=zc6.1 hN
 have s1:=StY.zcb (zdx m2)
 rw[m1]at q0
 rw[m2]at q1
 rw[m3]at q2
 have s2:=StY.zcb (ze3 m2 (by omega))
 have p0:¬(g<1):=by omega
 clear S hN m1 m2 m3 m4
 go_enter Tryz.func23,Tryz.ntmps23
 go_wp2_with (first|go_skip|(refine CelG.zbW SE _ rfl _ rfl v R0 rfl ?_))
 refine(q0 _ S0).mono ?_
 rintro _ w1 ⟨rfl,k1⟩
 have R1:=R0.below k1
 have O1:=O0.below k1
 have V1:=V0.below k1
 have X1:=X0.below k1
 have S1:=S0.below k1
 have b1:=kb.trans (k1.mono kb.size)
 have h1:w.heap.size+4≤w1.heap.size:=by rw[←hz];exact k1.size
 clear q0 R0 O0 V0 X0 S0 k1 kb hz
 go_wp2_with (first|go_skip|(refine CelG.gop _ rfl _ rfl o O1 rfl ?_))
 refine(q1 _).mono ?_
 rintro _ w2 ⟨rfl,k2⟩
 have R2:=R1.below k2
 have O2:=O1.below k2
 have V2:=V1.below k2
 have X2:=X1.below k2
 have S2:=S1.below k2
 have b2:=b1.trans (k2.mono b1.size)
 have h2:=Nat.le_trans h1 k2.size
 clear q1 R1 O1 V1 X1 S1 k2 b1 h1
 go_wp2_with (first|go_skip|(refine CelG.zbW EE _ rfl _ rfl e V2 rfl ?_))
 refine(q2 _).mono ?_
 rintro _ w3 ⟨rfl,k3⟩
 have R3:=R2.below k3
 have O3:=O2.below k3
 have V3:=V2.below k3
 have X3:=X2.below k3
 have S3:=S2.below k3
 have b3:=b2.trans (k3.mono b2.size)
 have h3:=Nat.le_trans h2 k3.size
 clear q2 R2 O2 V2 X2 S2 k3 b2 h2
 go_wp2_with (first|go_skip|(refine CelG.zbW SE _ rfl _ rfl v R3 rfl ?_))
 refine(q3 _ S3).mono ?_
 rintro _ w4 ⟨u,rfl,hu,N4,k4⟩
 have O4:=O3.below k4
 have V4:=V3.below k4
 have X4:=X3.below k4
 have b4:=b3.trans (k4.mono b3.size)
 have h4:=Nat.le_trans h3 k4.size
 clear q3 R3 O3 V3 X3 S3 k4 b3 h3
 go_wp2_with (first|go_skip|(refine Cel.zac SE rfl _ _ rfl _ _ _ rfl u _ rfl rfl rfl rfl ?_;intro w5 R5 k5 g5 s5))
 refine Grow.region [(0,true),(1,true),(2,true),(4,true),(5,true),(3,false),(6,true),(7,true)] (by kernel_rfl) (by kernel_rfl) rfl (by kernel_rfl) (by intro c a d v w h;cases d <;> exact h) ?_
 have dr:=zaf (Below.refl w5.heap.size w5)
 have kd:=k5.trans (dr.mono k5.size)
 have O6:=O4.below kd
 have V6:=V4.below kd
 have X6:=X4.below kd
 have N6:=N4.below kd
 have R6:=R5.below dr
 have b6:=b4.trans (kd.mono b4.size)
 have s6:w4.heap.size+1≤w5.drew.heap.size:=by rw[←s5];exact dr.size
 generalize w5.drew=w6 at O6 V6 X6 N6 R6 b6 s6 ⊢
 clear O4 V4 X4 N4 k5 g5 s5 dr kd b4 R5
 have o0:=Grow.grown (w:=w6) (fun y hy=>(O6.below hy).kind)
 rw[hk]at o0
 repeat (first|(refine zcL rfl rfl _ rfl _ rfl o O6 ?_;simp only[Act.put,List.setIfInBounds_toArray,List.set_cons_succ,List.set_cons_zero])|(refine Grow.reads rfl rfl ?_;go_big_quiet_want;refine zdk _ rfl _ _ rfl e V6.range ?_;go_big_quiet_on;refine wpQuiet_nil ?_;simp only[Act.put,List.setIfInBounds_toArray,List.set_cons_succ,List.set_cons_zero])|(refine Grow.reads rfl rfl ?_;go_big_quiet_step (fail);refine wpQuiet_nil ?_))
 clear o0
 refine Grow.acts rfl ?_
 go_wp2_with fail
 refine(zhd w4.heap.size o e g w6).mono ?_
 rintro _ w7 ⟨x,rfl,H7,k7⟩
 go_wp2_with fail
 refine⟨k7,?_⟩
 have hi:∀W:World,(Instr.index 103 (.agg (tb x)) (.int .i64 3)).run Tryz.prog W=.ok (.func (.func 113) #[] #[.pointer (some ⟨x.ps,0,none⟩),.pointer (some ⟨x.po,0,none⟩)]) W:=fun _=>by kernel_rfl
 simp only[tb]at hi ⊢
 have X7:=X6.below k7
 have N7:=N6.below k7
 have R7:=R6.below k7
 have b7:=b6.trans (k7.mono b6.size)
 clear O6 V6 X6 N6 R6 b6
 repeat (refine Grow.reads rfl rfl ?_;go_big_quiet_step (fail);refine wpQuiet_nil ?_)
 refine Grow.ends ?_
 go_wp2_with fail
 have q4:=StC.zoT x.ps x.po w4.heap.size u o w7 H7.s H7.o R7 N7 (by rw[hu];exact fv) (by rw[hu];exact lv) (by omega) (by omega)
 rw[hu]at q4
 refine q4.mono ?_
 clear q4
 rintro _ w8 ⟨z,rfl,hz,R8,N8,k8⟩
 have X8:=X7.block k8 (by omega)
 have b8:=b7.trans (k8.mono (by omega))
 clear X7 N7 R7 b7 k8 H7 k7
 go_wp2_with (first|go_skip|(refine CelG.zbW SE _ rfl _ rfl z R8 rfl ?_)|(refine Cel.zad SE rfl _ _ rfl (w.heap.size+3) rfl noV X8 z rfl ?_;intro w9 X9 b9 g9 s9))
 have N9:=N8.kept X8 g9
 have k9:=b8.trans (b9 _ (by omega))
 obtain⟨r0,r1,r2⟩:=zam X9
 refine bodyPost_ret (v:=.tuple #[.agg (sc z),.int .i64 0]) (by simp[results,Tryz.results23,go_sem,r0,r1,r2,sc]) rfl ⟨z,by rw[HR.out];rfl,by rw[HR.out,hz];rfl,N9,k9⟩
theorem do_ret (v:Sv) (o:Opn) (e:Ev) (g:Int) (w:World) (S:In w v) (fv:Fits v.s) (lv:Len 10000000 v.s) (fo:OpsC.Fit o) (hG:CtrL.In64 g) (hE:CtrL.In64 e.node) (hQ:CtrL.In64 e.seq):
  Calls Tryz.prog 23 #[.agg (sc v),.agg (opc o),.agg (ec e),.int .i64 g] w (StW.New (doS v.s o e.node e.seq g) w):=by
 cases hN:okD v.s o e.node e.seq g with
 |false=>exact do_none v o e g w S fv lv fo hN
 |true=>
  rcases zji (zc6.1 hN).2.1 with hk|hk|hk|hk
  ·exact zoS v o e g w S fv lv fo hN hk
  ·exact zoR v o e g w S fv lv fo hG hE hQ hN hk
  ·exact zoU v o e g w S fv lv fo hE hQ hN hk
  ·exact zoT v o e g w S fv lv fo hN hk
end Go.Proofs.YtgmdhaepiclkcaaGreatDoor.StK
