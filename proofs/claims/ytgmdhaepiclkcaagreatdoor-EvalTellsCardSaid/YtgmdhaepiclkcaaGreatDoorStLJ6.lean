/- What package state's Merge returns | What the walks of the laws of package eval lean on | The commits of chapter 12's example | What the document's Find of package dag returns | What the five functions of package front return, as the walks need it | What the walks of the laws of package front lean on -/
import Derived.Test.YtgmdhaepiclkcaaGreatDoorLayCompSJ7
import Derived.Test.YtgmdhaepiclkcaaGreatDoorRegUJ10
import Derived.Test.YtgmdhaepiclkcaaGreatDoorEaSJ5
import Derived.Test.YtgmdhaepiclkcaaGreatDoorPairGJ12
import Derived.Test.YtgmdhaepiclkcaaGreatDoorShaDJ13
import Derived.Test.YtgmdhaepiclkcaaGreatDoorCmAJ5
import Derived.Test.YtgmdhaepiclkcaaGreatDoorDgXJ5
import Derived.Test.YtgmdhaepiclkcaaGreatDoorCmPJ4
import Derived.Test.YtgmdhaepiclkcaaGreatDoorDgF
namespace Go.Proofs.YtgmdhaepiclkcaaGreatDoor.StL
set_option maxHeartbeats 16000000
set_option maxRecDepth 100000
open Go Go.Sort Go.RowKit Byt OpsM Rise RowS StM StW StE
def W4 (w:World) (u v z:Sv):World:=(((w.alloc (.cells (sc u) 30)).alloc (.cells (sc v) 30)).alloc (.cells (sc z) 30)).alloc (.cells (sc noV) 30)
theorem zec (w:World) (u v z:Sv):Below w.heap.size w (W4 w u v z):=((((Below.refl _ _).alloc (Nat.le_refl _) _).alloc (by simp) _).alloc (by simp;omega) _).alloc (by simp;omega) _
theorem zfo (w:World) (u v z:Sv):(W4 w u v z).heap.size=w.heap.size+4:=by simp[W4]
theorem zeb (w:World) (u v z:Sv):Cel.Box SE (W4 w u v z) w.heap.size u∧Cel.Box SE (W4 w u v z) (w.heap.size+1) v∧Cel.Box SE (W4 w u v z) (w.heap.size+2) z∧Cel.Box SE (W4 w u v z) (w.heap.size+3) noV:=by
 have z1:(w.alloc (.cells (sc u) 30)).heap.size=w.heap.size+1:=by simp
 have z2:((w.alloc (.cells (sc u) 30)).alloc (.cells (sc v) 30)).heap.size=w.heap.size+2:=by simp
 have z3:(((w.alloc (.cells (sc u) 30)).alloc (.cells (sc v) 30)).alloc (.cells (sc z) 30)).heap.size=w.heap.size+3:=by simp
 refine⟨(((Cel.Box.new (E:=SE) w u 30).alloc _).alloc _).alloc _,?_,?_,?_⟩
 ·rw[←z1]
  exact((Cel.Box.new (E:=SE) _ v 30).alloc _).alloc _
 ·rw[←z2]
  exact(Cel.Box.new (E:=SE) _ z 30).alloc _
 ·rw[←z3]
  exact Cel.Box.new (E:=SE) _ noV 30
theorem zaW (u v z:Sv) (w:World) (S:In w u) (T:In w v) (Z:In w z) (fu:Fits u.s) (fv:Fits v.s) (fz:Fits z.s) (lu:Len 10000000 u.s) (lv:Len 10000000 v.s) (lz:Len 10000000 z.s):
  Calls Tryz.prog 19 #[.agg (sc u),.agg (sc v),.agg (sc z)] w (StW.New (zjX u.s v.s z.s) w):=by
 have kb:=zec w u v z
 have hz:=zfo w u v z
 obtain⟨R0,Q0,P0,X0⟩:=zeb w u v z
 have S0:=S.below kb
 have T0:=T.below kb
 have Z0:=Z.below kb
 have q0:=fun W S=>zaz u W S fu lu
 have q1:=fun W S=>zaz v W S fv lv
 have q2:=fun W S=>zaz z W S fz lz
 have m0:=fun W S T Z=>CtrD.zaW u.a0 u.k0 u.s.c v.a0 v.k0 v.s.c z.a0 z.k0 z.s.c W S T Z fu.c fv.c fz.c lu.c lv.c lz.c
 have m1:=fun W T Z=>RegD.zaW v.a1 v.k1 v.s.r z.a1 z.k1 z.s.r W T Z fv.r fz.r (by have:=lv.r;omega) (by have:=lz.r;omega)
 have m2:=fun W S T Z=>PairD.zaW u.a2 u.k2 u.s.p v.a2 v.k2 v.s.p z.a2 z.k2 z.s.p W S T Z fu.p fv.p fz.p (by have:=lu.p;omega) (by have:=lv.p;omega) (by have:=lz.p;omega)
 obtain⟨x,hx⟩:∃x,zcI u.s=x:=⟨_,rfl⟩
 obtain⟨y,hy⟩:∃y,zcI v.s=y:=⟨_,rfl⟩
 obtain⟨t,ht⟩:∃t,zcI z.s=t:=⟨_,rfl⟩
 have HR:Hid (zjX u.s v.s z.s=if(x&&(y&&t))=true then some (zcF u.s v.s z.s)else none):=aside (by unfold zjX okM;rw[hx,hy,ht])
 rw[hx]at q0
 rw[hy]at q1
 rw[ht]at q2
 clear S T Z fu fv fz lu lv lz hx hy ht
 go_enter Tryz.func19,Tryz.ntmps19
 go_wp2_with (first|go_skip|(refine CelG.zbW SE _ rfl _ rfl u R0 rfl ?_))
 refine(q0 _ S0).mono ?_
 rintro _ w1 ⟨rfl,k1⟩
 have R1:=R0.below k1
 have Q1:=Q0.below k1
 have P1:=P0.below k1
 have X1:=X0.below k1
 have S1:=S0.below k1
 have T1:=T0.below k1
 have Z1:=Z0.below k1
 have b1:=kb.trans (k1.mono kb.size)
 have h1:w.heap.size+4≤w1.heap.size:=by rw[←hz];exact k1.size
 clear q0 R0 Q0 P0 X0 S0 T0 Z0 k1 kb hz
 cases x with
 |false=>
  go_wp2_with (first|go_skip|(refine Cel.zad SE rfl _ _ rfl (w.heap.size+3) rfl noV X1 noV rfl ?_;intro u' X' b' g' s'))
  have k':=b1.trans (b' _ (by omega))
  obtain⟨r0,r1,r2⟩:=zam X'
  refine bodyPost_ret (v:=.tuple #[.agg (sc noV),.int .i64 1]) (by simp[results,Tryz.results19,go_sem,r0,r1,r2,sc]) rfl ⟨noV,by rw[HR.out];rfl,by rw[HR.out];rfl,In.none _,k'⟩
 |true=>
  go_wp2_with (first|go_skip|(refine CelG.zbW SE _ rfl _ rfl v Q1 rfl ?_))
  refine(q1 _ T1).mono ?_
  rintro _ w2 ⟨rfl,k2⟩
  have R2:=R1.below k2
  have Q2:=Q1.below k2
  have P2:=P1.below k2
  have X2:=X1.below k2
  have S2:=S1.below k2
  have T2:=T1.below k2
  have Z2:=Z1.below k2
  have b2:=b1.trans (k2.mono b1.size)
  have h2:=Nat.le_trans h1 k2.size
  clear q1 R1 Q1 P1 X1 S1 T1 Z1 k2 b1 h1
  cases y with
  |false=>
   go_wp2_with (first|go_skip|(refine Cel.zad SE rfl _ _ rfl (w.heap.size+3) rfl noV X2 noV rfl ?_;intro u' X' b' g' s'))
   have k':=b2.trans (b' _ (by omega))
   obtain⟨r0,r1,r2⟩:=zam X'
   refine bodyPost_ret (v:=.tuple #[.agg (sc noV),.int .i64 1]) (by simp[results,Tryz.results19,go_sem,r0,r1,r2,sc]) rfl ⟨noV,by rw[HR.out];rfl,by rw[HR.out];rfl,In.none _,k'⟩
  |true=>
   go_wp2_with (first|go_skip|(refine CelG.zbW SE _ rfl _ rfl z P2 rfl ?_))
   refine(q2 _ Z2).mono ?_
   rintro _ w3 ⟨rfl,k3⟩
   have R3:=R2.below k3
   have Q3:=Q2.below k3
   have P3:=P2.below k3
   have X3:=X2.below k3
   have S3:=S2.below k3
   have T3:=T2.below k3
   have Z3:=Z2.below k3
   have b3:=b2.trans (k3.mono b2.size)
   have h3:=Nat.le_trans h2 k3.size
   clear q2 R2 Q2 P2 X2 S2 T2 Z2 k3 b2 h2
   cases t with
   |false=>
    go_wp2_with (first|go_skip|(refine Cel.zad SE rfl _ _ rfl (w.heap.size+3) rfl noV X3 noV rfl ?_;intro u' X' b' g' s'))
    have k':=b3.trans (b' _ (by omega))
    obtain⟨r0,r1,r2⟩:=zam X'
    refine bodyPost_ret (v:=.tuple #[.agg (sc noV),.int .i64 1]) (by simp[results,Tryz.results19,go_sem,r0,r1,r2,sc]) rfl ⟨noV,by rw[HR.out];rfl,by rw[HR.out];rfl,In.none _,k'⟩
   |true=>
    go_wp2_with (first|go_skip)
    refine GrowT.region 21 (.free 0 (.free 1 (.free 2 (.free 3 (.free 4 (.free 5 (.free 7 (.free 8 (.free 9 (.free 10 (.free 12 (.free 13 (.free 14 (.free 15 (.free 16 (.free 17 (.two 6 (.two 11 (.two 18 (.free 19 (.act 20 (.act 21 .ends))) 20 (.act 18 (.free 19 (.act 21 .ends)))) 20 (.act 11 (.act 18 (.free 19 (.act 21 .ends))))) 20 (.act 6 (.act 11 (.act 18 (.free 19 (.act 21 .ends)))))))))))))))))))))) (by kernel_rfl) (by kernel_rfl) rfl (by kernel_rfl) (by intro c a d v w h;cases d <;> exact h) ?_
    have dr:=zaf (Below.refl w3.heap.size w3)
    have R4:=R3.below dr
    have Q4:=Q3.below dr
    have P4:=P3.below dr
    have X4:=X3.below dr
    have S4:=S3.below dr
    have T4:=T3.below dr
    have Z4:=Z3.below dr
    have b4:=b3.trans (dr.mono b3.size)
    have h4:w.heap.size+4≤w3.drew.heap.size:=h3
    generalize w3.drew=w4 at R4 Q4 P4 X4 S4 T4 Z4 b4 h4 ⊢
    clear R3 Q3 P3 X3 S3 T3 Z3 b3 h3 dr
    have c0:=Grow.grown (w:=w4) (fun y hy=>(zam (R4.below hy)).1)
    have c2:=Grow.grown (w:=w4) (fun y hy=>(zam (R4.below hy)).2.2)
    have d0:=Grow.grown (w:=w4) (fun y hy=>(zam (Q4.below hy)).1)
    have d1:=Grow.grown (w:=w4) (fun y hy=>(zam (Q4.below hy)).2.1)
    have d2:=Grow.grown (w:=w4) (fun y hy=>(zam (Q4.below hy)).2.2)
    have e0:=Grow.grown (w:=w4) (fun y hy=>(zam (P4.below hy)).1)
    have e1:=Grow.grown (w:=w4) (fun y hy=>(zam (P4.below hy)).2.1)
    have e2:=Grow.grown (w:=w4) (fun y hy=>(zam (P4.below hy)).2.2)
    repeat (refine GrowT.reads rfl rfl ?_;go_big_quiet_step (fail);refine wpQuiet_nil ?_)
    clear c0 c2 d0 d1 d2 e0 e1 e2 R4 Q4 P4
    refine GrowT.forks rfl rfl ?_ ?_
    ·skip
     go_wp2_with fail
     refine(m0 _ S4.c T4.c Z4.c).mono ?_
     rintro _ w5 ⟨AF,CF,rfl,F5,k5⟩
     go_wp2_with fail
     refine⟨k5,?_⟩
     have X5:=X4.below k5
     have S5:=S4.below k5
     have T5:=T4.below k5
     have Z5:=Z4.below k5
     have b5:=b4.trans (k5.mono b4.size)
     have h5:=Nat.le_trans h4 k5.size
     clear m0 X4 S4 T4 Z4 b4 k5
     refine GrowT.forks rfl rfl ?_ ?_
     ·skip
      go_wp2_with fail
      refine(m1 _ T5.r Z5.r).mono ?_
      rintro _ w6 ⟨AG,CG,rfl,G6,k6⟩
      go_wp2_with fail
      refine⟨k6,?_⟩
      have X6:=X5.below k6
      have S6:=S5.below k6
      have T6:=T5.below k6
      have Z6:=Z5.below k6
      have F6:=F5.below k6
      have b6:=b5.trans (k6.mono b5.size)
      have h6:=Nat.le_trans h5 k6.size
      clear m1 X5 S5 T5 Z5 F5 b5 k6
      refine GrowT.forks rfl rfl ?_ ?_
      ·skip
       go_wp2_with fail
       refine(m2 _ S6.p T6.p Z6.p).mono ?_
       rintro _ w7 ⟨AH,CH,rfl,H7,k7⟩
       go_wp2_with fail
       refine⟨k7,?_⟩
       have X7:=X6.below k7
       have F7:=F6.below k7
       have G7:=G6.below k7
       have b7:=b6.trans (k7.mono b6.size)
       have h7:=Nat.le_trans h6 k7.size
       clear m2 X6 S6 T6 Z6 F6 G6 b6 k7
       try simp only[Act.put,List.setIfInBounds_toArray,List.set_cons_succ,List.set_cons_zero]
       repeat (refine GrowT.reads rfl rfl ?_;go_big_quiet_step (fail);refine wpQuiet_nil ?_)
       refine GrowT.acts rfl ?_
       go_wp2_with fail
       have k8:=zah w7 (.cells (sc noV) 30)
       refine⟨k8,?_⟩
       change GrowT.Seq _ _ _ _ _ _ (w7.alloc (.cells (sc noV) 30))
       have Y8:Cel.Box SE (w7.alloc (.cells (sc noV) 30)) w7.heap.size noV:=Cel.Box.new (E:=SE) w7 noV _
       have hg:w.heap.size+4≤w7.heap.size:=h7
       obtain⟨g,hge⟩:∃g,w7.heap.size=g:=⟨_,rfl⟩
       have X8:=X7.below k8
       have F8:=F7.below k8
       have G8:=G7.below k8
       have H8:=H7.below k8
       have b8:=b7.trans (k8.mono b7.size)
       have h8:=Nat.le_trans h7 k8.size
       generalize w7.alloc (.cells (sc noV) 30)=w8 at X8 F8 G8 H8 Y8 b8 h8 ⊢
       clear X7 F7 G7 H7 b7 k8
       rw[hge]at Y8 hg
       simp only[hge]
       clear hge
       try simp only[Act.put,List.setIfInBounds_toArray,List.set_cons_succ,List.set_cons_zero]
       repeat (refine GrowT.reads rfl rfl ?_;go_big_quiet_step (fail);refine wpQuiet_nil ?_)
       refine GrowT.last rfl ?_
       go_wp2_with (refine Cel.zad SE rfl _ _ rfl g rfl noV Y8 ⟨AF,CF,AG,CG,AH,CH,zcF u.s v.s z.s⟩ rfl ?_;intro wa Ya ba ga sa)
       refine GrowL.done ?_
       have Xa:=X8.kept ga (by simp;omega)
       have Na:In wa ⟨AF,CF,AG,CG,AH,CH,zcF u.s v.s z.s⟩:=In.kept ⟨F8,G8,H8⟩ Y8 ga
       have ka:=b8.trans (ba _ (by omega))
       go_wp2_with (first|go_skip|(refine CelG.zbW SE _ rfl _ rfl ⟨AF,CF,AG,CG,AH,CH,zcF u.s v.s z.s⟩ Ya rfl ?_)|(refine Cel.zad SE rfl _ _ rfl (w.heap.size+3) rfl noV Xa ⟨AF,CF,AG,CG,AH,CH,zcF u.s v.s z.s⟩ rfl ?_;intro wb Xb bb gb sb))
       have Nb:=Na.kept Xa gb
       have kb:=ka.trans (bb _ (by omega))
       obtain⟨r0,r1,r2⟩:=zam Xb
       refine bodyPost_ret (v:=.tuple #[.agg (sc ⟨AF,CF,AG,CG,AH,CH,zcF u.s v.s z.s⟩),.int .i64 0]) (by simp[results,Tryz.results19,go_sem,r0,r1,r2,sc]) rfl ⟨_,by rw[HR.out];rfl,by rw[HR.out];rfl,Nb,kb⟩
      ·skip
       go_wp2_with fail
       have k9:=zah w6 (.cells (sc noV) 30)
       refine⟨k9,?_⟩
       change GrowT.Seq _ _ _ _ _ _ (w6.alloc (.cells (sc noV) 30))
       have Y9:Cel.Box SE (w6.alloc (.cells (sc noV) 30)) w6.heap.size noV:=Cel.Box.new (E:=SE) w6 noV _
       have hg:w.heap.size+4≤w6.heap.size:=h6
       obtain⟨g,hge⟩:∃g,w6.heap.size=g:=⟨_,rfl⟩
       have X9:=X6.below k9
       have S9:=S6.below k9
       have T9:=T6.below k9
       have Z9:=Z6.below k9
       have F9:=F6.below k9
       have G9:=G6.below k9
       have b9:=b6.trans (k9.mono b6.size)
       have h9:=Nat.le_trans h6 k9.size
       generalize w6.alloc (.cells (sc noV) 30)=w9 at X9 S9 T9 Z9 F9 G9 Y9 b9 h9 ⊢
       clear X6 S6 T6 Z6 F6 G6 b6 k9
       rw[hge]at Y9 hg
       simp only[hge]
       clear hge
       refine GrowT.acts rfl ?_
       go_wp2_with fail
       refine(m2 _ S9.p T9.p Z9.p).mono ?_
       rintro _ w10 ⟨AH,CH,rfl,H10,k10⟩
       go_wp2_with fail
       refine⟨k10,?_⟩
       have X10:=X9.below k10
       have F10:=F9.below k10
       have G10:=G9.below k10
       have Y10:=Y9.below k10
       have b10:=b9.trans (k10.mono b9.size)
       have h10:=Nat.le_trans h9 k10.size
       clear m2 X9 S9 T9 Z9 F9 G9 Y9 b9 k10
       try simp only[Act.put,List.setIfInBounds_toArray,List.set_cons_succ,List.set_cons_zero]
       repeat (refine GrowT.reads rfl rfl ?_;go_big_quiet_step (fail);refine wpQuiet_nil ?_)
       refine GrowT.last rfl ?_
       go_wp2_with (refine Cel.zad SE rfl _ _ rfl g rfl noV Y10 ⟨AF,CF,AG,CG,AH,CH,zcF u.s v.s z.s⟩ rfl ?_;intro wa Ya ba ga sa)
       refine GrowL.done ?_
       have Xa:=X10.kept ga (by simp;omega)
       have Na:In wa ⟨AF,CF,AG,CG,AH,CH,zcF u.s v.s z.s⟩:=In.kept ⟨F10,G10,H10⟩ Y10 ga
       have ka:=b10.trans (ba _ (by omega))
       go_wp2_with (first|go_skip|(refine CelG.zbW SE _ rfl _ rfl ⟨AF,CF,AG,CG,AH,CH,zcF u.s v.s z.s⟩ Ya rfl ?_)|(refine Cel.zad SE rfl _ _ rfl (w.heap.size+3) rfl noV Xa ⟨AF,CF,AG,CG,AH,CH,zcF u.s v.s z.s⟩ rfl ?_;intro wb Xb bb gb sb))
       have Nb:=Na.kept Xa gb
       have kb:=ka.trans (bb _ (by omega))
       obtain⟨r0,r1,r2⟩:=zam Xb
       refine bodyPost_ret (v:=.tuple #[.agg (sc ⟨AF,CF,AG,CG,AH,CH,zcF u.s v.s z.s⟩),.int .i64 0]) (by simp[results,Tryz.results19,go_sem,r0,r1,r2,sc]) rfl ⟨_,by rw[HR.out];rfl,by rw[HR.out];rfl,Nb,kb⟩
     ·skip
      go_wp2_with fail
      have k11:=zah w5 (.cells (sc noV) 30)
      refine⟨k11,?_⟩
      change GrowT.Seq _ _ _ _ _ _ (w5.alloc (.cells (sc noV) 30))
      have Y11:Cel.Box SE (w5.alloc (.cells (sc noV) 30)) w5.heap.size noV:=Cel.Box.new (E:=SE) w5 noV _
      have hg:w.heap.size+4≤w5.heap.size:=h5
      obtain⟨g,hge⟩:∃g,w5.heap.size=g:=⟨_,rfl⟩
      have X11:=X5.below k11
      have S11:=S5.below k11
      have T11:=T5.below k11
      have Z11:=Z5.below k11
      have F11:=F5.below k11
      have b11:=b5.trans (k11.mono b5.size)
      have h11:=Nat.le_trans h5 k11.size
      generalize w5.alloc (.cells (sc noV) 30)=w11 at X11 S11 T11 Z11 F11 Y11 b11 h11 ⊢
      clear X5 S5 T5 Z5 F5 b5 k11
      rw[hge]at Y11 hg
      simp only[hge]
      clear hge
      refine GrowT.acts rfl ?_
      go_wp2_with fail
      refine(m1 _ T11.r Z11.r).mono ?_
      rintro _ w12 ⟨AG,CG,rfl,G12,k12⟩
      go_wp2_with fail
      refine⟨k12,?_⟩
      have X12:=X11.below k12
      have S12:=S11.below k12
      have T12:=T11.below k12
      have Z12:=Z11.below k12
      have F12:=F11.below k12
      have Y12:=Y11.below k12
      have b12:=b11.trans (k12.mono b11.size)
      have h12:=Nat.le_trans h11 k12.size
      clear m1 X11 S11 T11 Z11 F11 Y11 b11 k12
      refine GrowT.acts rfl ?_
      go_wp2_with fail
      refine(m2 _ S12.p T12.p Z12.p).mono ?_
      rintro _ w13 ⟨AH,CH,rfl,H13,k13⟩
      go_wp2_with fail
      refine⟨k13,?_⟩
      have X13:=X12.below k13
      have F13:=F12.below k13
      have Y13:=Y12.below k13
      have G13:=G12.below k13
      have b13:=b12.trans (k13.mono b12.size)
      have h13:=Nat.le_trans h12 k13.size
      clear m2 X12 S12 T12 Z12 F12 Y12 G12 b12 k13
      try simp only[Act.put,List.setIfInBounds_toArray,List.set_cons_succ,List.set_cons_zero]
      repeat (refine GrowT.reads rfl rfl ?_;go_big_quiet_step (fail);refine wpQuiet_nil ?_)
      refine GrowT.last rfl ?_
      go_wp2_with (refine Cel.zad SE rfl _ _ rfl g rfl noV Y13 ⟨AF,CF,AG,CG,AH,CH,zcF u.s v.s z.s⟩ rfl ?_;intro wa Ya ba ga sa)
      refine GrowL.done ?_
      have Xa:=X13.kept ga (by simp;omega)
      have Na:In wa ⟨AF,CF,AG,CG,AH,CH,zcF u.s v.s z.s⟩:=In.kept ⟨F13,G13,H13⟩ Y13 ga
      have ka:=b13.trans (ba _ (by omega))
      go_wp2_with (first|go_skip|(refine CelG.zbW SE _ rfl _ rfl ⟨AF,CF,AG,CG,AH,CH,zcF u.s v.s z.s⟩ Ya rfl ?_)|(refine Cel.zad SE rfl _ _ rfl (w.heap.size+3) rfl noV Xa ⟨AF,CF,AG,CG,AH,CH,zcF u.s v.s z.s⟩ rfl ?_;intro wb Xb bb gb sb))
      have Nb:=Na.kept Xa gb
      have kb:=ka.trans (bb _ (by omega))
      obtain⟨r0,r1,r2⟩:=zam Xb
      refine bodyPost_ret (v:=.tuple #[.agg (sc ⟨AF,CF,AG,CG,AH,CH,zcF u.s v.s z.s⟩),.int .i64 0]) (by simp[results,Tryz.results19,go_sem,r0,r1,r2,sc]) rfl ⟨_,by rw[HR.out];rfl,by rw[HR.out];rfl,Nb,kb⟩
    ·skip
     go_wp2_with fail
     have k14:=zah w4 (.cells (sc noV) 30)
     refine⟨k14,?_⟩
     change GrowT.Seq _ _ _ _ _ _ (w4.alloc (.cells (sc noV) 30))
     have Y14:Cel.Box SE (w4.alloc (.cells (sc noV) 30)) w4.heap.size noV:=Cel.Box.new (E:=SE) w4 noV _
     have hg:w.heap.size+4≤w4.heap.size:=h4
     obtain⟨g,hge⟩:∃g,w4.heap.size=g:=⟨_,rfl⟩
     have X14:=X4.below k14
     have S14:=S4.below k14
     have T14:=T4.below k14
     have Z14:=Z4.below k14
     have b14:=b4.trans (k14.mono b4.size)
     have h14:=Nat.le_trans h4 k14.size
     generalize w4.alloc (.cells (sc noV) 30)=w14 at X14 S14 T14 Z14 Y14 b14 h14 ⊢
     clear X4 S4 T4 Z4 b4 k14
     rw[hge]at Y14 hg
     simp only[hge]
     clear hge
     refine GrowT.acts rfl ?_
     go_wp2_with fail
     refine(m0 _ S14.c T14.c Z14.c).mono ?_
     rintro _ w15 ⟨AF,CF,rfl,F15,k15⟩
     go_wp2_with fail
     refine⟨k15,?_⟩
     have X15:=X14.below k15
     have S15:=S14.below k15
     have T15:=T14.below k15
     have Z15:=Z14.below k15
     have Y15:=Y14.below k15
     have b15:=b14.trans (k15.mono b14.size)
     have h15:=Nat.le_trans h14 k15.size
     clear m0 X14 S14 T14 Z14 Y14 b14 k15
     refine GrowT.acts rfl ?_
     go_wp2_with fail
     refine(m1 _ T15.r Z15.r).mono ?_
     rintro _ w16 ⟨AG,CG,rfl,G16,k16⟩
     go_wp2_with fail
     refine⟨k16,?_⟩
     have X16:=X15.below k16
     have S16:=S15.below k16
     have T16:=T15.below k16
     have Z16:=Z15.below k16
     have Y16:=Y15.below k16
     have F16:=F15.below k16
     have b16:=b15.trans (k16.mono b15.size)
     have h16:=Nat.le_trans h15 k16.size
     clear m1 X15 S15 T15 Z15 Y15 F15 b15 k16
     refine GrowT.acts rfl ?_
     go_wp2_with fail
     refine(m2 _ S16.p T16.p Z16.p).mono ?_
     rintro _ w17 ⟨AH,CH,rfl,H17,k17⟩
     go_wp2_with fail
     refine⟨k17,?_⟩
     have X17:=X16.below k17
     have Y17:=Y16.below k17
     have F17:=F16.below k17
     have G17:=G16.below k17
     have b17:=b16.trans (k17.mono b16.size)
     have h17:=Nat.le_trans h16 k17.size
     clear m2 X16 S16 T16 Z16 Y16 F16 G16 b16 k17
     try simp only[Act.put,List.setIfInBounds_toArray,List.set_cons_succ,List.set_cons_zero]
     repeat (refine GrowT.reads rfl rfl ?_;go_big_quiet_step (fail);refine wpQuiet_nil ?_)
     refine GrowT.last rfl ?_
     go_wp2_with (refine Cel.zad SE rfl _ _ rfl g rfl noV Y17 ⟨AF,CF,AG,CG,AH,CH,zcF u.s v.s z.s⟩ rfl ?_;intro wa Ya ba ga sa)
     refine GrowL.done ?_
     have Xa:=X17.kept ga (by simp;omega)
     have Na:In wa ⟨AF,CF,AG,CG,AH,CH,zcF u.s v.s z.s⟩:=In.kept ⟨F17,G17,H17⟩ Y17 ga
     have ka:=b17.trans (ba _ (by omega))
     go_wp2_with (first|go_skip|(refine CelG.zbW SE _ rfl _ rfl ⟨AF,CF,AG,CG,AH,CH,zcF u.s v.s z.s⟩ Ya rfl ?_)|(refine Cel.zad SE rfl _ _ rfl (w.heap.size+3) rfl noV Xa ⟨AF,CF,AG,CG,AH,CH,zcF u.s v.s z.s⟩ rfl ?_;intro wb Xb bb gb sb))
     have Nb:=Na.kept Xa gb
     have kb:=ka.trans (bb _ (by omega))
     obtain⟨r0,r1,r2⟩:=zam Xb
     refine bodyPost_ret (v:=.tuple #[.agg (sc ⟨AF,CF,AG,CG,AH,CH,zcF u.s v.s z.s⟩),.int .i64 0]) (by simp[results,Tryz.results19,go_sem,r0,r1,r2,sc]) rfl ⟨_,by rw[HR.out];rfl,by rw[HR.out];rfl,Nb,kb⟩
end Go.Proofs.YtgmdhaepiclkcaaGreatDoor.StL
namespace Go.Proofs.YtgmdhaepiclkcaaGreatDoor.EaW
set_option maxRecDepth 100000
open Go Go.Sort Go.RowKit Byt IdM IdW OpsM OpsW CmM StW CmW CmX CmY DgM DgW DgR DgF FrM FrN EaM EaN EaH EaS
open Classical
theorem zcy (s:StM.St):StR.zmy s s=true:=StR.znH.2 rfl
end Go.Proofs.YtgmdhaepiclkcaaGreatDoor.EaW
namespace Go.Proofs.YtgmdhaepiclkcaaGreatDoor.FrJ
set_option maxRecDepth 100000
open Go RotM RotN ShaM ShaD PadM SumM ShaK Byt EncM EncC IdM IdW OpsM OpsW CmM CmW CmY CmA DgM FrM FrN
open Classical
end Go.Proofs.YtgmdhaepiclkcaaGreatDoor.FrJ
namespace Go.Proofs.YtgmdhaepiclkcaaGreatDoor.DgG
set_option maxRecDepth 100000
open Go Go.Sort Go.RowKit Byt IdM IdW OpsM OpsW CmM StW CmW CmX CmY DgM DgN DgW DgR
end Go.Proofs.YtgmdhaepiclkcaaGreatDoor.DgG
namespace Go.Proofs.YtgmdhaepiclkcaaGreatDoor.FrH
set_option maxRecDepth 100000
open Go Go.Sort Go.RowKit Byt IdM IdW OpsM OpsW CmM StW CmW CmX CmY CmA DgM DgW DgR DgF DgG FrM FrN FrJ
open Classical
end Go.Proofs.YtgmdhaepiclkcaaGreatDoor.FrH
namespace Go.Proofs.YtgmdhaepiclkcaaGreatDoor.FrU
set_option maxRecDepth 100000
open Go Go.Sort Go.RowKit Byt IdM IdW OpsM OpsW CmM StW CmW CmX CmY CmA DgM DgW DgR DgC DgF DgG FrM FrN FrJ FrH
open Classical
theorem zqj {l:List Cv} {m:Int} (S:∀v ∈ l,Fit v.c) (h:fewD (zar l) m=true):(∀v ∈ l,CmR.zkr v.c)∧(l.length:Int)≤m:=by
 unfold fewD at h
 rw[Bool.and_eq_true,decide_eq_true_eq,zaw,List.all_eq_true]at h
 refine⟨fun v hv=>?_,h.1⟩
 exact CmX.okay (h.2 v.c (List.mem_map_of_mem hv)) (S v hv)
end Go.Proofs.YtgmdhaepiclkcaaGreatDoor.FrU
