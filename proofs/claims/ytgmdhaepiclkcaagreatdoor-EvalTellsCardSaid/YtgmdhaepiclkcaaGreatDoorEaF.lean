/- Rows of states in memory -/
import Derived.Test.YtgmdhaepiclkcaaGreatDoorEaCJ4
import Derived.Test.YtgmdhaepiclkcaaGreatDoorStLJ6
import Derived.Test.YtgmdhaepiclkcaaGreatDoorRegUJ10
import Derived.Test.YtgmdhaepiclkcaaGreatDoorRowBJ9
namespace Go.Proofs.YtgmdhaepiclkcaaGreatDoor.EaF
set_option maxHeartbeats 32000000
set_option maxRecDepth 100000
open Go Go.Sort Go.RowKit Byt OpsM RowS StM StW EaP
open Classical
def GE:RowS.Enc Sv where
 T:=30
 S:=69
 k:=3
 bytes:=72
 d:=_
 enc v:=[.slice v.a0 v.s.c.length v.k0,.slice v.a1 v.s.r.length v.k1,.slice v.a2 v.s.p.length v.k2]
 zero:=noV
 len _:=rfl
 one c v hv:=by
  simp only[List.mem_cons,List.not_mem_nil,or_false]at hv
  rcases hv with rfl|rfl|rfl <;> rfl
 pos:=by omega
 small:=by omega
 info:=by kernel_rfl
 slice:=Tryz.underlying69
 under:=Tryz.underlying30
 row:=rfl
structure Solo (s:St):Prop where
 may:zcI s=true
 fits:Fits s
 len:LenS 1 s
structure SlS (w:World) (A:Option Addr) (cap:Nat) (l:List Sv):Prop where
 row:SlR GE w A cap l
 each:∀v ∈ l,In w v∧Solo v.s
theorem SlS.below {w w':World} {A:Option Addr} {cap:Nat} {l:List Sv} (h:SlS w A cap l) (hb:Below w.heap.size w w'):SlS w' A cap l:=
 ⟨h.row.below hb,fun v hv=>⟨(h.each v hv).1.below hb,(h.each v hv).2⟩⟩
def sts (l:List Sv):List St:=l.map (·.s)
theorem zkz (l:List Sv):(sts l).length=l.length:=List.length_map ..
theorem all_may {l:List Sv} (h:∀v ∈ l,Solo v.s):zck (sts l):=fun s hs=>by
 obtain⟨v,hv,rfl⟩:=List.mem_map.1 hs
 exact(h v hv).may
theorem zn3 (l:List St):(∀s ∈ l,Fits s)→Fits (zdv l):=by
 refine zdp (p:=fun l=>(∀s ∈ l,Fits s)→Fits (zdv l)) (fun _=>by rw[zdo];exact⟨fun c hc=>by simp[noS]at hc,fun c hc=>by simp[noS]at hc,fun c hc=>by simp[noS]at hc⟩) (fun x h=>by rw[zd1];exact h x (by simp)) (fun a b ha hb h h2 hm=>?_) l.length l (Nat.le_refl _)
 rw[zeW h h2]
 exact StY.zon noS (ha fun s hs=>hm s (List.mem_append_left _ hs)) (hb fun s hs=>hm s (List.mem_append_right _ hs))
theorem ziv {l:List Sv} (h:∀v ∈ l,Solo v.s) (hl:l.length≤8388608):zcI (zdv (sts l))=true∧Fits (zdv (sts l))∧Len 10000000 (zdv (sts l)):=by
 have hm:=all_may h
 have hn:=meld_len (sts l) hm fun s hs=>by
  obtain⟨v,hv,rfl⟩:=List.mem_map.1 hs
  exact(h v hv).len
 rw[zkz]at hn
 refine⟨zct _ hm,zn3 _ fun s hs=>?_,⟨by have:=hn.c;omega,by have:=hn.r;omega,by have:=hn.p;omega⟩⟩
 obtain⟨v,hv,rfl⟩:=List.mem_map.1 hs
 exact(h v hv).fits
theorem zh2:Fits noS:=⟨fun c hc=>by simp[noS]at hc,fun c hc=>by simp[noS]at hc,fun c hc=>by simp[noS]at hc⟩
theorem ziy:Len 10000000 noS:=⟨by simp[noS],by simp[noS],by simp[noS]⟩
theorem zmK {a b:St} (ha:zcI a=true) (hb:zcI b=true):zjX noS a b=some (zpi a b):=by
 unfold zjX
 rw[if_pos (okM_iff.2 ⟨EaM.zbN,ha,hb⟩)]
 rfl
theorem zeq:∀(n:Nat) (l:List Sv) (A:Option Addr) (cap:Nat) (w:World),l.length≤n→SlS w A cap l→l.length≤8388608→
  Calls Tryz.prog 34 #[.slice A l.length cap] w fun e w'=>∃v,e=.returned (.agg (sc v))∧v.s=zdv (sts l)∧In w' v∧Below w.heap.size w w':=by
 intro n
 induction n with
 |zero=>
  intro l A cap w hn S hl
  have e0:l=[]:=List.eq_nil_of_length_eq_zero (Nat.le_zero.1 hn)
  subst e0
  have R0:Cel.Box SE (w.alloc (.cells #[.slice none 0 0,.slice none 0 0,.slice none 0 0] 30)) w.heap.size noV:=Cel.Box.new (E:=SE) w noV _
  have kb:=zah w (.cells #[.slice none 0 0,.slice none 0 0,.slice none 0 0] 30)
  rw[List.length_nil]
  go_enter Tryz.func34,Tryz.ntmps34
  go_wp2_with (first|go_skip|(refine Cel.zad SE rfl _ _ rfl w.heap.size rfl noV R0 noV rfl ?_;intro u' X' b' g' s'))
  obtain⟨r0,r1,r2⟩:=zam X'
  refine bodyPost_ret (v:=.agg (sc noV)) (by simp[results,Tryz.results34,go_sem,r0,r1,r2,sc]) rfl ⟨noV,rfl,?_,In.none _,kb.trans (b' _ (by omega))⟩
  show noS=zdv []
  exact zdo.symm
 |succ n ih=>
  intro l A cap w hn S hl
  have R0:Cel.Box SE (w.alloc (.cells #[.slice none 0 0,.slice none 0 0,.slice none 0 0] 30)) w.heap.size noV:=Cel.Box.new (E:=SE) w noV _
  have kb:=zah w (.cells #[.slice none 0 0,.slice none 0 0,.slice none 0 0] 30)
  have S0:=S.below kb
  by_cases h0:l.length=0
  ·have e0:l=[]:=List.eq_nil_of_length_eq_zero h0
   subst e0
   rw[List.length_nil]
   clear h0 ih hn hl S S0
   go_enter Tryz.func34,Tryz.ntmps34
   go_wp2_with (first|go_skip|(refine Cel.zad SE rfl _ _ rfl w.heap.size rfl noV R0 noV rfl ?_;intro u' X' b' g' s'))
   obtain⟨r0,r1,r2⟩:=zam X'
   refine bodyPost_ret (v:=.agg (sc noV)) (by simp[results,Tryz.results34,go_sem,r0,r1,r2,sc]) rfl ⟨noV,rfl,?_,In.none _,kb.trans (b' _ (by omega))⟩
   show noS=zdv []
   exact zdo.symm
  by_cases h1:l.length=1
  ·obtain⟨x,rfl⟩:∃x,l=[x]:=by
    match l,h1 with
    |[x],_=>exact⟨x,rfl⟩
   obtain⟨b,off,rfl,hbw,hrg⟩:=S0.row.plain (by simp)
   have rx:=hrg 0 x rfl
   have IX:=(S0.each x (by simp)).1
   rw[show[x].length=1 from rfl]
   rw[Nat.zero_mul,Nat.add_zero]at rx
   clear h0 h1 ih hn hl S S0 hrg
   go_enter Tryz.func34,Tryz.ntmps34
   go_wp2_with (first|go_skip|(refine RowS.zal GE rfl _ rfl b off rfl x rx ?_)|(refine Cel.zad SE rfl _ _ rfl w.heap.size rfl noV R0 x rfl ?_;intro u' X' b' g' s'))
   obtain⟨r0,r1,r2⟩:=zam X'
   refine bodyPost_ret (v:=.agg (sc x)) (by simp[results,Tryz.results34,go_sem,r0,r1,r2,sc]) rfl ⟨x,rfl,?_,IX.kept R0 g',kb.trans (b' _ (by omega))⟩
   show x.s=zdv [x.s]
   exact(zd1 _).symm
  obtain⟨m,hm⟩:∃m,l.length / 2=m:=⟨_,rfl⟩
  have hm1:1≤m:=by omega
  have hm2:m+1≤l.length:=by omega
  obtain⟨A1,c1,e1,P1⟩:=RowP.ahead S0.row m (by omega)
  obtain⟨A2,c2,e2,P2⟩:=RowP.behind S0.row m (by omega)
  have lP:(l.take m).length=m:=by rw[List.length_take];omega
  have lQ:(l.drop m).length=l.length - m:=List.length_drop ..
  have SP:SlS (w.alloc (.cells #[.slice none 0 0,.slice none 0 0,.slice none 0 0] 30)) A1 c1 (l.take m):=⟨P1,fun v hv=>S0.each v (List.mem_of_mem_take hv)⟩
  have SQ:SlS (w.alloc (.cells #[.slice none 0 0,.slice none 0 0,.slice none 0 0] 30)) A2 c2 (l.drop m):=⟨P2,fun v hv=>S0.each v (List.mem_of_mem_drop hv)⟩
  have i1:=fun W S=>ih (l.take m) A1 c1 W (by rw[lP];omega) S (by rw[lP];omega)
  have i2:=fun W S=>ih (l.drop m) A2 c2 W (by rw[lQ];omega) S (by rw[lQ];omega)
  obtain⟨m1,f1,n1⟩:=ziv (l:=l.take m) (fun v hv=>(SP.each v hv).2) (by rw[lP];omega)
  obtain⟨m2,f2,n2⟩:=ziv (l:=l.drop m) (fun v hv=>(SQ.each v hv).2) (by rw[lQ];omega)
  have HE:Hid (zdv (sts l)=zpi (zdv (sts (l.take m))) (zdv (sts (l.drop m)))):=aside (by
   rw[zjY (by rw[zkz];omega),zkz,hm]
   unfold sts
   rw[List.map_take,List.map_drop])
  have hms:=zmK m1 m2
  rw[lP]at i1
  rw[lQ]at i2
  have k0:((l.length:Int) == 0)=false:=by rw[beq_eq_false_iff_ne];omega
  have k1:((l.length:Int) == 1)=false:=by rw[beq_eq_false_iff_ne];omega
  have kq:(l.length:Int).tdiv 2=m:=by rw[Int.tdiv_eq_ediv_of_nonneg (by omega)];omega
  have e1:∀W,(Instr.sliceAt 69 (.slice A l.length cap) none (some (.int .i64 m)) none).run Tryz.prog W=.ok (.slice A1 m c1) W:=fun W=>e1 W .i64
  have e2:∀W,(Instr.sliceAt 69 (.slice A l.length cap) (some (.int .i64 m)) none none).run Tryz.prog W=.ok (.slice A2 (l.length - m) c2) W:=fun W=>e2 W .i64
  obtain⟨s1,hs1⟩:∃s,zdv (sts (l.take m))=s:=⟨_,rfl⟩
  obtain⟨s2,hs2⟩:∃s,zdv (sts (l.drop m))=s:=⟨_,rfl⟩
  rw[hs1]at m1 f1 n1 hms i1 HE
  rw[hs2]at m2 f2 n2 hms i2 HE
  clear hs1 hs2 P1 P2 lP lQ S S0 ih hn h0 h1
  go_enter Tryz.func34,Tryz.ntmps34
  go_wp2_with (first|go_skip)
  refine Forks.region (.free 0 (.free 1 (.free 2 (.free 3 (.free 5 (.free 6 (.free 7 (.two 4 (.two 8 (.two 9 (.free 10 (.free 11 (.free 12 (.act 13 (.act 14 (.free 15 .ends)))))) 13 (.act 9 (.free 10 (.free 11 (.free 12 (.act 14 (.free 15 .ends))))))) 13 (.act 8 (.act 9 (.free 10 (.free 11 (.free 12 (.act 14 (.free 15 .ends)))))))) 13 (.act 4 (.act 8 (.act 9 (.free 10 (.free 11 (.free 12 (.act 14 (.free 15 .ends)))))))))))))))) (by kernel_rfl) (by kernel_rfl) rfl (by kernel_rfl) (by intro c a d v w h;cases d <;> exact h) ?_
  have dr:=zaf (Below.refl (w.alloc (.cells #[.slice none 0 0,.slice none 0 0,.slice none 0 0] 30)).heap.size (w.alloc (.cells #[.slice none 0 0,.slice none 0 0,.slice none 0 0] 30)))
  have R1:=R0.below dr
  have SP1:=SP.below dr
  have SQ1:=SQ.below dr
  have b1:=kb.trans (dr.mono kb.size)
  have z1:w.heap.size+1≤(w.alloc (.cells #[.slice none 0 0,.slice none 0 0,.slice none 0 0] 30)).drew.heap.size:=Nat.le_trans (by simp) dr.size
  generalize (w.alloc (.cells #[.slice none 0 0,.slice none 0 0,.slice none 0 0] 30)).drew=w1 at R1 SP1 SQ1 b1 z1 ⊢
  clear R0 SP SQ kb dr
  (try simp only[Act.put,List.setIfInBounds_toArray,List.set_cons_succ,List.set_cons_zero])
  repeat (refine Forks.reads rfl rfl ?_;go_big_quiet_step (fail);refine wpQuiet_nil ?_)
  refine Forks.forks rfl rfl ?_ ?_
  ·skip
   go_wp2_with fail
   refine(i1 _ SP1).mono ?_
   rintro _ w2 ⟨va,rfl,hva,IA2,k2⟩
   go_wp2_with fail
   refine Forks.on ?_
   have R2:=R1.below k2
   have SQ2:=SQ1.below k2
   have b2:=b1.trans (k2.mono b1.size)
   have z2:=Nat.le_trans z1 k2.size
   clear R1 SQ1 b1 z1 k2
   clear SP1 i1
   (try simp only[Act.put,List.setIfInBounds_toArray,List.set_cons_succ,List.set_cons_zero])
   refine Forks.forks rfl rfl ?_ ?_
   ·skip
    go_wp2_with fail
    refine(i2 _ SQ2).mono ?_
    rintro _ w3 ⟨vb,rfl,hvb,IB3,k3⟩
    go_wp2_with fail
    refine Forks.on ?_
    have R3:=R2.below k3
    have IA3:=IA2.below k3
    have b3:=b2.trans (k3.mono b2.size)
    have z3:=Nat.le_trans z2 k3.size
    clear R2 IA2 b2 z2 k3
    clear SQ2 i2
    (try simp only[Act.put,List.setIfInBounds_toArray,List.set_cons_succ,List.set_cons_zero])
    refine Forks.forks rfl rfl ?_ ?_
    ·skip
     have qm:=StL.zaW noV va vb w3 (In.none _) IA3 IB3 zh2 (by rw[hva];exact f1) (by rw[hvb];exact f2) ziy (by rw[hva];exact n1) (by rw[hvb];exact n2)
     rw[hva,hvb,show noV.s=noS from rfl,hms]at qm
     have qm:Calls Tryz.prog 19 #[.agg #[.slice none 0 0,.slice none 0 0,.slice none 0 0],.agg (sc va),.agg (sc vb)] w3 (fun e w'=>∃v,e=.returned (.tuple #[.agg (sc v),.int .i64 0])∧v.s=zpi s1 s2∧In w' v∧Below w3.heap.size w3 w'):=qm
     go_wp2_with fail
     refine qm.mono ?_
     clear qm
     rintro _ w4 ⟨vc,rfl,hvc,IC4,k4⟩
     go_wp2_with fail
     refine Forks.on ?_
     have R4:=R3.below k4
     have b4:=b3.trans (k4.mono b3.size)
     have z4:=Nat.le_trans z3 k4.size
     clear R3 b3 z3 k4
     clear IA3 IB3
     (try simp only[Act.put,List.setIfInBounds_toArray,List.set_cons_succ,List.set_cons_zero])
     repeat (refine Forks.reads rfl rfl ?_;go_big_quiet_step (fail);refine wpQuiet_nil ?_)
     refine Forks.acts rfl ?_
     go_wp2_with fail
     have k5:=zah w4 (.cells (sc noV) 30)
     refine Forks.on ?_
     change Forks.Seq _ _ _ _ _ (w4.alloc (.cells (sc noV) 30))
     have Y5:Cel.Box SE (w4.alloc (.cells (sc noV) 30)) w4.heap.size noV:=Cel.Box.new (E:=SE) w4 noV _
     have hg:w.heap.size+1≤w4.heap.size:=z4
     obtain⟨g,hge⟩:∃g,w4.heap.size=g:=⟨_,rfl⟩
     have R5:=R4.below k5
     have IC5:=IC4.below k5
     have b5:=b4.trans (k5.mono b4.size)
     have z5:=Nat.le_trans z4 k5.size
     generalize w4.alloc (.cells (sc noV) 30)=w5 at R5 IC5 Y5 b5 z5 ⊢
     clear R4 IC4 b4 k5
     rw[hge]at Y5 hg
     simp only[hge]
     clear hge
     (try simp only[Act.put,List.setIfInBounds_toArray,List.set_cons_succ,List.set_cons_zero])
     refine Forks.acts rfl ?_
     go_wp2_with (refine Cel.zad SE rfl _ _ rfl g rfl noV Y5 vc rfl ?_;intro wa Ya ba ga sa)
     refine Forks.on ?_
     (try simp only[Act.put])
     refine Forks.reads rfl rfl ?_
     go_big_quiet_step (fail)
     refine wpQuiet_nil ?_
     refine Forks.ends ?_
     have Ra:=R5.kept ga (by simp;omega)
     have Ia:=IC5.kept Y5 ga
     have ka:=b5.trans (ba _ (by omega))
     go_wp2_with (first|go_skip|(refine Cel.zaa SE rfl _ rfl _ rfl vc Ya ?_)|(refine Cel.zad SE rfl _ _ rfl w.heap.size rfl noV Ra vc rfl ?_;intro wb Xb bb gb sb))
     obtain⟨r0,r1,r2⟩:=zam Xb
     exact bodyPost_ret (v:=.agg (sc vc)) (by simp[results,Tryz.results34,go_sem,r0,r1,r2,sc]) rfl ⟨vc,rfl,by rw[HE.out,hvc],Ia.kept Ra gb,ka.trans (bb _ (Nat.le_refl _))⟩
    ·skip
     go_wp2_with fail
     have k6:=zah w3 (.cells (sc noV) 30)
     refine Forks.on ?_
     change Forks.Seq _ _ _ _ _ (w3.alloc (.cells (sc noV) 30))
     have Y6:Cel.Box SE (w3.alloc (.cells (sc noV) 30)) w3.heap.size noV:=Cel.Box.new (E:=SE) w3 noV _
     have hg:w.heap.size+1≤w3.heap.size:=z3
     obtain⟨g,hge⟩:∃g,w3.heap.size=g:=⟨_,rfl⟩
     have R6:=R3.below k6
     have IA6:=IA3.below k6
     have IB6:=IB3.below k6
     have b6:=b3.trans (k6.mono b3.size)
     have z6:=Nat.le_trans z3 k6.size
     generalize w3.alloc (.cells (sc noV) 30)=w6 at R6 IA6 IB6 Y6 b6 z6 ⊢
     clear R3 IA3 IB3 b3 k6
     rw[hge]at Y6 hg
     simp only[hge]
     clear hge
     (try simp only[Act.put,List.setIfInBounds_toArray,List.set_cons_succ,List.set_cons_zero])
     refine Forks.acts rfl ?_
     have qm:=StL.zaW noV va vb w6 (In.none _) IA6 IB6 zh2 (by rw[hva];exact f1) (by rw[hvb];exact f2) ziy (by rw[hva];exact n1) (by rw[hvb];exact n2)
     rw[hva,hvb,show noV.s=noS from rfl,hms]at qm
     have qm:Calls Tryz.prog 19 #[.agg #[.slice none 0 0,.slice none 0 0,.slice none 0 0],.agg (sc va),.agg (sc vb)] w6 (fun e w'=>∃v,e=.returned (.tuple #[.agg (sc v),.int .i64 0])∧v.s=zpi s1 s2∧In w' v∧Below w6.heap.size w6 w'):=qm
     go_wp2_with fail
     refine qm.mono ?_
     clear qm
     rintro _ w7 ⟨vc,rfl,hvc,IC7,k7⟩
     go_wp2_with fail
     refine Forks.on ?_
     have R7:=R6.below k7
     have Y7:=Y6.below k7
     have b7:=b6.trans (k7.mono b6.size)
     have z7:=Nat.le_trans z6 k7.size
     clear R6 Y6 b6 z6 k7
     clear IA6 IB6
     (try simp only[Act.put,List.setIfInBounds_toArray,List.set_cons_succ,List.set_cons_zero])
     repeat (refine Forks.reads rfl rfl ?_;go_big_quiet_step (fail);refine wpQuiet_nil ?_)
     refine Forks.acts rfl ?_
     go_wp2_with (refine Cel.zad SE rfl _ _ rfl g rfl noV Y7 vc rfl ?_;intro wa Ya ba ga sa)
     refine Forks.on ?_
     (try simp only[Act.put])
     refine Forks.reads rfl rfl ?_
     go_big_quiet_step (fail)
     refine wpQuiet_nil ?_
     refine Forks.ends ?_
     have Ra:=R7.kept ga (by simp;omega)
     have Ia:=IC7.kept Y7 ga
     have ka:=b7.trans (ba _ (by omega))
     go_wp2_with (first|go_skip|(refine Cel.zaa SE rfl _ rfl _ rfl vc Ya ?_)|(refine Cel.zad SE rfl _ _ rfl w.heap.size rfl noV Ra vc rfl ?_;intro wb Xb bb gb sb))
     obtain⟨r0,r1,r2⟩:=zam Xb
     exact bodyPost_ret (v:=.agg (sc vc)) (by simp[results,Tryz.results34,go_sem,r0,r1,r2,sc]) rfl ⟨vc,rfl,by rw[HE.out,hvc],Ia.kept Ra gb,ka.trans (bb _ (Nat.le_refl _))⟩
   ·skip
    go_wp2_with fail
    have k8:=zah w2 (.cells (sc noV) 30)
    refine Forks.on ?_
    change Forks.Seq _ _ _ _ _ (w2.alloc (.cells (sc noV) 30))
    have Y8:Cel.Box SE (w2.alloc (.cells (sc noV) 30)) w2.heap.size noV:=Cel.Box.new (E:=SE) w2 noV _
    have hg:w.heap.size+1≤w2.heap.size:=z2
    obtain⟨g,hge⟩:∃g,w2.heap.size=g:=⟨_,rfl⟩
    have R8:=R2.below k8
    have SQ8:=SQ2.below k8
    have IA8:=IA2.below k8
    have b8:=b2.trans (k8.mono b2.size)
    have z8:=Nat.le_trans z2 k8.size
    generalize w2.alloc (.cells (sc noV) 30)=w8 at R8 SQ8 IA8 Y8 b8 z8 ⊢
    clear R2 SQ2 IA2 b2 k8
    rw[hge]at Y8 hg
    simp only[hge]
    clear hge
    (try simp only[Act.put,List.setIfInBounds_toArray,List.set_cons_succ,List.set_cons_zero])
    refine Forks.acts rfl ?_
    go_wp2_with fail
    refine(i2 _ SQ8).mono ?_
    rintro _ w9 ⟨vb,rfl,hvb,IB9,k9⟩
    go_wp2_with fail
    refine Forks.on ?_
    have R9:=R8.below k9
    have IA9:=IA8.below k9
    have Y9:=Y8.below k9
    have b9:=b8.trans (k9.mono b8.size)
    have z9:=Nat.le_trans z8 k9.size
    clear R8 IA8 Y8 b8 z8 k9
    clear SQ8 i2
    (try simp only[Act.put,List.setIfInBounds_toArray,List.set_cons_succ,List.set_cons_zero])
    refine Forks.acts rfl ?_
    have qm:=StL.zaW noV va vb w9 (In.none _) IA9 IB9 zh2 (by rw[hva];exact f1) (by rw[hvb];exact f2) ziy (by rw[hva];exact n1) (by rw[hvb];exact n2)
    rw[hva,hvb,show noV.s=noS from rfl,hms]at qm
    have qm:Calls Tryz.prog 19 #[.agg #[.slice none 0 0,.slice none 0 0,.slice none 0 0],.agg (sc va),.agg (sc vb)] w9 (fun e w'=>∃v,e=.returned (.tuple #[.agg (sc v),.int .i64 0])∧v.s=zpi s1 s2∧In w' v∧Below w9.heap.size w9 w'):=qm
    go_wp2_with fail
    refine qm.mono ?_
    clear qm
    rintro _ w10 ⟨vc,rfl,hvc,IC10,k10⟩
    go_wp2_with fail
    refine Forks.on ?_
    have R10:=R9.below k10
    have Y10:=Y9.below k10
    have b10:=b9.trans (k10.mono b9.size)
    have z10:=Nat.le_trans z9 k10.size
    clear R9 Y9 b9 z9 k10
    clear IA9 IB9
    (try simp only[Act.put,List.setIfInBounds_toArray,List.set_cons_succ,List.set_cons_zero])
    repeat (refine Forks.reads rfl rfl ?_;go_big_quiet_step (fail);refine wpQuiet_nil ?_)
    refine Forks.acts rfl ?_
    go_wp2_with (refine Cel.zad SE rfl _ _ rfl g rfl noV Y10 vc rfl ?_;intro wa Ya ba ga sa)
    refine Forks.on ?_
    (try simp only[Act.put])
    refine Forks.reads rfl rfl ?_
    go_big_quiet_step (fail)
    refine wpQuiet_nil ?_
    refine Forks.ends ?_
    have Ra:=R10.kept ga (by simp;omega)
    have Ia:=IC10.kept Y10 ga
    have ka:=b10.trans (ba _ (by omega))
    go_wp2_with (first|go_skip|(refine Cel.zaa SE rfl _ rfl _ rfl vc Ya ?_)|(refine Cel.zad SE rfl _ _ rfl w.heap.size rfl noV Ra vc rfl ?_;intro wb Xb bb gb sb))
    obtain⟨r0,r1,r2⟩:=zam Xb
    exact bodyPost_ret (v:=.agg (sc vc)) (by simp[results,Tryz.results34,go_sem,r0,r1,r2,sc]) rfl ⟨vc,rfl,by rw[HE.out,hvc],Ia.kept Ra gb,ka.trans (bb _ (Nat.le_refl _))⟩
  ·skip
   go_wp2_with fail
   have k11:=zah w1 (.cells (sc noV) 30)
   refine Forks.on ?_
   change Forks.Seq _ _ _ _ _ (w1.alloc (.cells (sc noV) 30))
   have Y11:Cel.Box SE (w1.alloc (.cells (sc noV) 30)) w1.heap.size noV:=Cel.Box.new (E:=SE) w1 noV _
   have hg:w.heap.size+1≤w1.heap.size:=z1
   obtain⟨g,hge⟩:∃g,w1.heap.size=g:=⟨_,rfl⟩
   have R11:=R1.below k11
   have SP11:=SP1.below k11
   have SQ11:=SQ1.below k11
   have b11:=b1.trans (k11.mono b1.size)
   have z11:=Nat.le_trans z1 k11.size
   generalize w1.alloc (.cells (sc noV) 30)=w11 at R11 SP11 SQ11 Y11 b11 z11 ⊢
   clear R1 SP1 SQ1 b1 k11
   rw[hge]at Y11 hg
   simp only[hge]
   clear hge
   (try simp only[Act.put,List.setIfInBounds_toArray,List.set_cons_succ,List.set_cons_zero])
   refine Forks.acts rfl ?_
   go_wp2_with fail
   refine(i1 _ SP11).mono ?_
   rintro _ w12 ⟨va,rfl,hva,IA12,k12⟩
   go_wp2_with fail
   refine Forks.on ?_
   have R12:=R11.below k12
   have SQ12:=SQ11.below k12
   have Y12:=Y11.below k12
   have b12:=b11.trans (k12.mono b11.size)
   have z12:=Nat.le_trans z11 k12.size
   clear R11 SQ11 Y11 b11 z11 k12
   clear SP11 i1
   (try simp only[Act.put,List.setIfInBounds_toArray,List.set_cons_succ,List.set_cons_zero])
   refine Forks.acts rfl ?_
   go_wp2_with fail
   refine(i2 _ SQ12).mono ?_
   rintro _ w13 ⟨vb,rfl,hvb,IB13,k13⟩
   go_wp2_with fail
   refine Forks.on ?_
   have R13:=R12.below k13
   have Y13:=Y12.below k13
   have IA13:=IA12.below k13
   have b13:=b12.trans (k13.mono b12.size)
   have z13:=Nat.le_trans z12 k13.size
   clear R12 Y12 IA12 b12 z12 k13
   clear SQ12 i2
   (try simp only[Act.put,List.setIfInBounds_toArray,List.set_cons_succ,List.set_cons_zero])
   refine Forks.acts rfl ?_
   have qm:=StL.zaW noV va vb w13 (In.none _) IA13 IB13 zh2 (by rw[hva];exact f1) (by rw[hvb];exact f2) ziy (by rw[hva];exact n1) (by rw[hvb];exact n2)
   rw[hva,hvb,show noV.s=noS from rfl,hms]at qm
   have qm:Calls Tryz.prog 19 #[.agg #[.slice none 0 0,.slice none 0 0,.slice none 0 0],.agg (sc va),.agg (sc vb)] w13 (fun e w'=>∃v,e=.returned (.tuple #[.agg (sc v),.int .i64 0])∧v.s=zpi s1 s2∧In w' v∧Below w13.heap.size w13 w'):=qm
   go_wp2_with fail
   refine qm.mono ?_
   clear qm
   rintro _ w14 ⟨vc,rfl,hvc,IC14,k14⟩
   go_wp2_with fail
   refine Forks.on ?_
   have R14:=R13.below k14
   have Y14:=Y13.below k14
   have b14:=b13.trans (k14.mono b13.size)
   have z14:=Nat.le_trans z13 k14.size
   clear R13 Y13 b13 z13 k14
   clear IA13 IB13
   (try simp only[Act.put,List.setIfInBounds_toArray,List.set_cons_succ,List.set_cons_zero])
   repeat (refine Forks.reads rfl rfl ?_;go_big_quiet_step (fail);refine wpQuiet_nil ?_)
   refine Forks.acts rfl ?_
   go_wp2_with (refine Cel.zad SE rfl _ _ rfl g rfl noV Y14 vc rfl ?_;intro wa Ya ba ga sa)
   refine Forks.on ?_
   (try simp only[Act.put])
   refine Forks.reads rfl rfl ?_
   go_big_quiet_step (fail)
   refine wpQuiet_nil ?_
   refine Forks.ends ?_
   have Ra:=R14.kept ga (by simp;omega)
   have Ia:=IC14.kept Y14 ga
   have ka:=b14.trans (ba _ (by omega))
   go_wp2_with (first|go_skip|(refine Cel.zaa SE rfl _ rfl _ rfl vc Ya ?_)|(refine Cel.zad SE rfl _ _ rfl w.heap.size rfl noV Ra vc rfl ?_;intro wb Xb bb gb sb))
   obtain⟨r0,r1,r2⟩:=zam Xb
   exact bodyPost_ret (v:=.agg (sc vc)) (by simp[results,Tryz.results34,go_sem,r0,r1,r2,sc]) rfl ⟨vc,rfl,by rw[HE.out,hvc],Ia.kept Ra gb,ka.trans (bb _ (Nat.le_refl _))⟩
end Go.Proofs.YtgmdhaepiclkcaaGreatDoor.EaF
