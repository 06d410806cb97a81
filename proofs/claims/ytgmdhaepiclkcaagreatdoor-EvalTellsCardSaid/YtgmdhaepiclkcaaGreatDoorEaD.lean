/- What the project's taken of package eval returns -/
import Derived.Test.YtgmdhaepiclkcaaGreatDoorEaCJ4
import Derived.Test.YtgmdhaepiclkcaaGreatDoorDhAJ4
namespace Go.Proofs.YtgmdhaepiclkcaaGreatDoor.EaD
set_option maxHeartbeats 32000000
set_option maxRecDepth 100000
open Go Go.Sort Go.RowKit Byt IdM IdW OpsM OpsW CmM StW CmW CmX CmY CmA DgM DgW DgR DgX DgY DhT DhK DhC EaP EaC
open Classical
noncomputable def zfL (P:List Com) (a:Idn):Option Value:=(views zaj P a).map fun v=>.agg (ck v.2)
theorem zof (P:List Com) (a:Idn):(zfL P a).getD (.agg (ck fun _=>0))=.agg (ck fun n=>zej (views zaj P) n a):=by
 unfold zfL zej
 cases views zaj P a <;> rfl
theorem zoe:zfL []=fun _=>none:=by
 funext a
 unfold zfL
 rw[zbZ.2 (by simp)]
 rfl
theorem ck_eq {s t:Int→Int} (h:∀n,0≤n→n<8→s n=t n):ck s=ck t:=congrArg List.toArray (zhe h)
theorem ziz {P:List Com} {c:Com} (C:Closed zaj P) (D:Closed zaj (P++[c])) {s:Int→Int} (hs:∀n,0≤n→n<8→s n=zb5 (views zaj P) c.ps n):
  MapV.upd (zfL P) (zaj c) (.agg (ck fun m=>if m=c.node then c.seq else s m))=zfL (P++[c]):=by
 funext a
 unfold MapV.upd zfL
 rw[zf6 C D]
 by_cases e:a=zaj c
 ·rw[if_pos e,if_pos e]
  simp only[Option.map_some]
  rw[ck_eq fun n h0 h8=>?_]
  by_cases e:n=c.node
  ·rw[if_pos e,if_pos e]
  ·rw[if_neg e,if_neg e,hs n h0 h8]
 ·rw[if_neg e,if_neg e]
def zll (l P:List Com) (f:El→Option Value):Prop:=∀e,(f e).getD (.agg (ck fun _=>0))=.agg (ck fun n=>kill zaj l P e.key e.elem n)
theorem gone_nil (l:List Com):zll l [] fun _=>none:=fun _=>rfl
theorem gone_no {l P:List Com} {c:Com} {f:El→Option Value} (h:zll l P f) (hk:c.op.kind≠3):zll l (P++[c]) f:=fun e=>by
 rw[h e]
 congr 2
 exact funext fun n=>(zoh (fun q=>hk q.1) n).symm
theorem gone_yes {l P:List Com} {c:Com} {f:El→Option Value} (h:zll l P f) (hk:c.op.kind=3) {s t:Int→Int} (hs:∀n,0≤n→n<8→s n=kill zaj l P c.op.key c.op.elem n) (ht:∀n,0≤n→n<8→t n=zb5 (views zaj l) c.ps n):
  zll l (P++[c]) (EaK.upd f (elO c.op) (.agg (ck fun n=>max (s n) (t n)))):=fun e=>by
 unfold EaK.upd
 by_cases q:e=elO c.op
 ·rw[if_pos q]
  show Value.agg _=_
  congr 1
  refine ck_eq fun n h0 h8=>?_
  rw[q,hs n h0 h8,ht n h0 h8]
  exact(kill_yes (k:=c.op.key) (e:=c.op.elem) ⟨hk,rfl,rfl⟩ n).symm
 ·rw[if_neg q,h e]
  congr 2
  refine funext fun n=>(zoh (fun g=>q ?_) n).symm
  exact zpl g.2.1.symm g.2.2.symm
theorem make_ids (w:World) (n:Int):(Instr.makeMap 118 (some (.int .i64 n))).run Tryz.prog w=.ok (.map (some w.heap.size)) (w.alloc (.map #[] 0)):=by
 simp[Instr.makeMap,run_underlying Tryz.underlying118,asInt,go_sem]
theorem zfx {w:World} {g:Nat} {v:Cv} (h:Cel.Box CE w g v):w.rangeAt g 4 (OE.enc v.c.op):=fun j u hu=>by
 have hj:j<4:=(List.getElem?_eq_some_iff.1 hu).1
 rcases(by omega:j=0∨j=1∨j=2∨j=3)with rfl|rfl|rfl|rfl
 ·exact(Option.some.inj hu) ▸ h.cell (j:=4) rfl
 ·exact(Option.some.inj hu) ▸ h.cell (j:=5) rfl
 ·exact(Option.some.inj hu) ▸ h.cell (j:=6) rfl
 ·exact(Option.some.inj hu) ▸ h.cell (j:=7) rfl
theorem gd_of {o:Opn} (h:OpsC.Fit o):EaK.Gd (elO o):=⟨h.key,h.elem⟩
theorem znn (A:Option Addr) (cap:Nat) (l:List Cv) (w:World) (S:SlK w A cap l) (C:Closed zaj (zar l)) (hin:zch zaj (zar l)) (hK:ShaE.KIn w):
  Calls Tryz.prog 31 #[.slice A l.length cap] w fun e w'=>∃mb n f,e=.returned (.map (some mb))∧EaK.zaG w' mb n f∧zll (zar l) (zar l) f∧Below w.heap.size w w':=by
 have hmax:=S.len
 have hfew:l.length≤8388608:=by
  have:=DgL.ze4 C
  rwa[zaw]at this
 have hall:(zar l).all zbn=true:=List.all_eq_true.2 fun c hc=>C.may c hc
 have hid:zgj (zar l)=(zar l).map zaj:=by rw[zgj,if_pos hall]
 have hil:((zar l).map zaj).length=l.length:=by rw[List.length_map,zaw]
 have qi:=zdy A cap l w S (by omega) hK
 rw[hid]at qi
 obtain⟨own,hown⟩:∃own,(zar l).map zaj=own:=⟨_,rfl⟩
 rw[hown]at qi hil
 have HC:=aside C
 have HI:=aside hin
 have HOWN:=aside hown
 have HIL:=aside hil
 have hm1:=make_ids
 have hm2:=EaK.make_els
 clear C hin hall hid hown hil
 go_enter Tryz.func31,Tryz.ntmps31
 go_wp2_with (first|go_skip)
 refine qi.mono ?_
 rintro e w1 ⟨A1,c1,rfl,T1,k1⟩
 have z1:(w1.alloc (.map #[] 0)).heap.size=w1.heap.size+1:=by simp
 have V0:MapV.zaG ((w1.alloc (.map #[] 0)).alloc (.map #[] 0)) w1.heap.size 0 (zfL []):=by
  rw[zoe]
  exact(MapV.zaG.made w1).alloc _
 have G0:EaK.zaG ((w1.alloc (.map #[] 0)).alloc (.map #[] 0)) (w1.heap.size+1) 0 fun _=>none:=by
  rw[←z1]
  exact EaK.zaG.made _
 have kb:Below w1.heap.size w1 ((w1.alloc (.map #[] 0)).alloc (.map #[] 0)):=((Below.refl _ _).alloc (Nat.le_refl _) _).alloc (by simp) _
 have V0:=aside V0
 have HT1:=aside T1
 have HS1:=aside (S.below k1)
 clear qi z1 T1
 go_wp2_with (first|go_skip)
 go_loopw [19] (fun i wr=>∃(k:Nat) (f:EaC.El→Option Value),k≤l.length∧i=.int .i64 k∧Hid (MapV.zaG wr w1.heap.size k (zfL ((zar l).take k)))∧Hid (EaK.zaG wr (w1.heap.size+1) k f)∧Hid (zll (zar l) ((zar l).take k) f)∧Below w1.heap.size w1 wr) (fun i _=>l.length - (intOf i).toNat)
 case atStart=>exact⟨0,_,Nat.zero_le _,rfl,V0,aside G0,aside (gone_nil _),kb⟩
 case round=>
  clear V0 G0 kb hm1 hm2
  obtain⟨k,f,hk,rfl,HV,HG,HF,kb⟩:=hrel
  by_cases hlt:k<l.length
  ·obtain⟨b,off,rfl,hbw,hrg⟩:=HS1.out.plain (by omega)
   obtain⟨x,hx⟩:∃x,l[k]?=some x:=⟨_,List.getElem?_eq_getElem hlt⟩
   have rx:=zaL (hrg k x hx) kb
   have hxm:=List.mem_of_getElem? hx
   have IX:=(HS1.out.each x hxm).1.below kb
   have FX:=aside (HS1.out.each x hxm).2
   have HX:=aside (zbH hx)
   have p0:(k:Int)<l.length:=by omega
   have m0:((k:Int)).toNat=k:=by omega
   clear hrg hx hxm
   go_wp2_with (first|go_skip|(refine zbF rfl _ rfl _ _ rfl x rx ?_)|(refine Cel.zac CE rfl _ _ rfl wr _ _ rfl x _ rfl rfl rfl rfl ?_;intro w3 D3 k3 g3 s3;have b3:=kb.trans (k3.mono kb.size);have IX3:=CmW.In.below IX k3;have V3:=aside (MapV.zaG.below HV.out k3);have G3:=aside (EaK.zaG.below HG.out k3);have c3:=zaP (D3.alloc (.cells #[.int .i64 0,.int .i64 0,.int .i64 0,.int .i64 0,.int .i64 0,.int .i64 0,.int .i64 0,.int .i64 0] 71));clear g3 s3))
   have N0:Cel.Box CE8 (w3.alloc (.cells #[.int .i64 0,.int .i64 0,.int .i64 0,.int .i64 0,.int .i64 0,.int .i64 0,.int .i64 0,.int .i64 0] 71)) w3.heap.size (fun _=>0):=Cel.Box.new (E:=CE8) w3 (fun _=>0) _
   have k4:=StW.zah w3 (.cells #[.int .i64 0,.int .i64 0,.int .i64 0,.int .i64 0,.int .i64 0,.int .i64 0,.int .i64 0,.int .i64 0] 71)
   obtain⟨F,hF⟩:∃F,views zaj ((zar l).take k)=F:=⟨_,rfl⟩
   obtain⟨ps,hps⟩:∃ps,x.c.ps=ps:=⟨_,rfl⟩
   have IP:SlI w3 x.a x.k ps:=hps ▸ IX3
   have HPS:=aside hps
   have hp8:ps.length≤8:=by
    rw[←hps]
    exact(za6.1 (za0.1 (HC.out.may x.c (List.mem_of_getElem? HX.out))).1).2.2.1
   have HFF:=aside hF
   rw[hps]
   have hgw:=EaK.zaG.lt HG.out
   clear hF hps IX IX3 rx HV HG
   go_loopw [27] (fun i wq=>∃j:Nat,j≤ps.length∧i=.int .i64 j∧Cel.Box CE8 wq w3.heap.size (zb5 F (ps.take j))∧Below w3.heap.size w3 wq) (fun i _=>ps.length - (intOf i).toNat)
   case atStart=>exact⟨0,Nat.zero_le _,rfl,zkn N0 fun _ _ _=>rfl,k4⟩
   case round=>
    clear N0 k4 c3
    rename World=>wq
    obtain⟨j,hj,rfl,N3,kq⟩:=hrel
    by_cases hjl:j<ps.length
    ·obtain⟨ba,oa,hxa,_,hra⟩:=SlI.plain IP (by omega)
     obtain⟨y,hy⟩:∃y,ps[j]?=some y:=⟨_,List.getElem?_eq_getElem hjl⟩
     have ry:=IdW.zab (hra j hjl) kq
     rw[show ps.getD j nought=y by rw[List.getD_eq_getElem?_getD,hy];rfl]at ry
     have q0:(j:Int)<ps.length:=by omega
     have n0:((j:Int)).toNat=j:=by omega
     have HY:=aside hy
     clear hra hy
     rw[hxa]
     go_wp2_with (first|go_skip|(refine zak rfl _ rfl _ _ rfl y ry ?_)|(refine IdJ.zax rfl rfl ?_)|(refine CmG.zaF rfl _ _ rfl wq nought _ rfl y _ rfl rfl rfl ?_;intro w5 I5 k5 s5;have b5:=kq.trans (k5.mono kq.size);have N5:=N3.below k5;clear s5 N3 kq))
     refine GrowL.region 5 [(0,true),(1,true),(2,true),(3,true),(4,false),(5,false)] (by kernel_rfl) (by kernel_rfl) rfl (by kernel_rfl) (by intro c a d v w h;cases d <;> exact h) ?_
     have kd:=zaf (Below.refl w5.heap.size w5)
     have N6:=N5.below kd
     have I6:=I5.below kd I5.lt
     have b6:=b5.trans (kd.mono b5.size)
     generalize w5.drew=wz at N6 I6 b6 ⊢
     clear N5 I5 b5 kd
     have hlk:=Grow.grown (w:=wz) (fun u hu=>MapV.zeQ EaK.idsT ((V3.out.below b6).below hu) y EaK.zf4)
     simp only[zof]at hlk
     rw[HFF.out]at hlk
     (try simp only[Act.put,List.setIfInBounds_toArray,List.set_cons_succ,List.set_cons_zero])
     repeat (first|(refine GrowL.reads rfl rfl ?_;go_big_quiet_want;refine CmA.zbt _ rfl _ _ rfl y I6.range ?_;go_big_quiet_on;refine wpQuiet_nil ?_;(try simp only[Act.put,List.setIfInBounds_toArray,List.set_cons_succ,List.set_cons_zero]))|(refine GrowL.reads rfl rfl ?_;go_big_quiet_want;refine Cel.zaB CE8 _ rfl _ _ rfl _ N6.range ?_;go_big_quiet_on;refine wpQuiet_nil ?_;(try simp only[Act.put,List.setIfInBounds_toArray,List.set_cons_succ,List.set_cons_zero]))|(refine GrowL.reads rfl rfl ?_;go_big_quiet_step (fail);refine wpQuiet_nil ?_))
     have qa:=zlo (zb5 F (ps.take j)) (fun n=>zej F n y) wz
     have qa:Calls Tryz.prog 73 #[.agg (CE8.enc (zb5 F (ps.take j))).toArray,.agg (ck fun n=>zej F n y)] wz _:=qa
     refine GrowL.acts rfl ?_
     go_wp2_with (first|go_skip)
     refine qa.mono ?_
     clear qa
     rintro e w7 ⟨rfl,k7⟩
     go_wp2_with (first|go_skip)
     refine⟨k7,?_⟩
     have N7:=N6.below k7
     have b7:=b6.trans (k7.mono b6.size)
     clear N6 b6 k7 hlk
     (try simp only[Act.put,List.setIfInBounds_toArray,List.set_cons_succ,List.set_cons_zero])
     refine GrowL.last rfl ?_
     go_wp2_with (first|(refine Cel.zad CE8 rfl _ _ rfl w3.heap.size rfl _ N7 (fun n=>max (zb5 F (ps.take j) n) (zej F n y)) rfl ?_;intro w8 N8 f8 g8 s8))
     refine GrowL.done ?_
     go_wp2_with (first|go_skip)
     go_roundw
     case rel=>
      refine⟨j+1,by omega,by go_num,zkn N8 fun n _ _=>?_,b7.trans (f8 _ (Nat.le_refl _))⟩
      unfold zb5
      rw[zfC HY.out]
     case measure=>simp[intOf];omega
    ·obtain rfl:j=ps.length:=by omega
     rw[List.take_length]at N3
     have D0:=D3
     have D4:=D3.below kq
     have V4:=aside (MapV.zaG.below V3.out kq)
     have G4:=aside (EaK.zaG.below G3.out kq)
     have b4:=b3.trans (kq.mono b3.size)
     have hw1:=kb.size
     have hw3:=b3.size
     have hwr:=D3.lt
     have hgn:=G3.out.lt
     have hvn:=V3.out.lt
     have hxm:=List.mem_of_getElem? HX.out
     have hpos:=zcC (HC.out.may x.c hxm) (HC.out.merge x.c hxm)
     obtain⟨nd,hnd⟩:∃nd,x.c.node=nd:=⟨_,rfl⟩
     obtain⟨sq,hsq⟩:∃sq,x.c.seq=sq:=⟨_,rfl⟩
     have hn:0≤nd∧nd<8:=by rw[←hnd];exact hpos.2
     have hn0:=hn.1
     have hn8:=hn.2
     have HND:=aside hnd
     have HSQ:=aside hsq
     obtain⟨b9,off9,rfl,_,hr9⟩:=SlI.plain HT1.out (by rw[HIL.out];omega)
     have hih:own.getD k nought=zaj x.c:=by rw[←HOWN.out,List.getD_eq_getElem?_getD,List.getElem?_map,HX.out];rfl
     have r9:=hr9 k (by rw[HIL.out];exact hlt)
     obtain⟨ih,hihe⟩:∃ih,zaj x.c=ih:=⟨_,rfl⟩
     rw[hih,hihe]at r9
     have HIH:=aside hihe
     have q0:(k:Int)<own.length:=by rw[HIL.out];exact p0
     have HNX:Hid ((zar l).take (k+1)=(zar l).take k++[x.c]):=aside (by
      obtain⟨h1,h2⟩:=List.getElem?_eq_some_iff.1 HX.out
      rw[List.take_succ_eq_append_getElem h1,h2])
     have HCK:Hid (Closed zaj ((zar l).take k)):=aside (zbX HC.out HI.out k)
     have HCN:Hid (Closed zaj ((zar l).take k++[x.c])):=aside (by rw[←HNX.out];exact zbX HC.out HI.out (k+1))
     have HTG:Hid (∀n,zb5 F ps n=zb5 (views zaj (zar l)) x.c.ps n):=aside fun n=>by rw[←HFF.out,←HPS.out];exact tog_all HI.out HC.out HX.out n
     clear D3 V3 G3 b3 kq IP hxm hpos hnd hsq hr9 hih hihe
     have c0:wq.cell? ⟨wr.heap.size,0,none⟩=some (.int .i64 nd):=(D4.cell (j:=0) rfl).trans (by rw[HND.out])
     have c1:wq.cell? ⟨wr.heap.size,1,none⟩=some (.int .i64 sq):=(D4.cell (j:=1) rfl).trans (by rw[HSQ.out])
     have c4:=D4.cell (j:=4) (v:=.int .i64 x.c.op.kind) rfl
     by_cases h3:x.c.op.kind=3
     ·rw[h3]at c4
      have H3:=aside h3
      clear h3
      go_wp2_with (first|go_skip)
      refine GrowL.region 11 [(0,true),(1,true),(2,true),(4,true),(5,true),(6,true),(9,true),(3,false),(7,false),(8,true),(10,false),(11,false)] (by kernel_rfl) (by kernel_rfl) rfl (by kernel_rfl) (by intro c a d v w h;cases d <;> exact h) ?_
      have kd:=zaf (Below.refl wq.heap.size wq)
      have N5:=N3.below kd
      have D5:=D4.below kd
      have V5:=aside (MapV.zaG.below V4.out kd)
      have G5:=aside (EaK.zaG.below G4.out kd)
      have b5:=b4.trans (kd.mono b4.size)
      generalize wq.drew=wz at N5 D5 V5 G5 b5 ⊢
      clear N3 D4 V4 G4 b4 kd c0 c1 c4
      have o5:=zfx D5
      (try simp only[Act.put,List.setIfInBounds_toArray,List.set_cons_succ,List.set_cons_zero])
      repeat (first|(refine GrowL.reads rfl rfl ?_;go_big_quiet_want;refine Cel.zaB OE _ rfl _ _ rfl _ o5 ?_;go_big_quiet_on;refine wpQuiet_nil ?_;(try simp only[Act.put,List.setIfInBounds_toArray,List.set_cons_succ,List.set_cons_zero]))|(refine GrowL.reads rfl rfl ?_;go_big_quiet_want;refine Cel.zaB CE8 _ rfl _ _ rfl _ N5.range ?_;go_big_quiet_on;refine wpQuiet_nil ?_;(try simp only[Act.put,List.setIfInBounds_toArray,List.set_cons_succ,List.set_cons_zero]))|(refine GrowL.reads rfl rfl ?_;go_big_quiet_step (fail);refine wpQuiet_nil ?_))
      have qa:Calls Tryz.prog 32 #[.agg (OE.enc x.c.op).toArray] wz _:=zhJ x.c.op wz
      refine GrowL.acts rfl ?_
      go_wp2_with (first|go_skip)
      refine qa.mono ?_
      clear qa
      rintro e w7 ⟨rfl,k7⟩
      go_wp2_with (first|go_skip)
      refine⟨k7,?_⟩
      (try simp only[Act.put,List.setIfInBounds_toArray,List.set_cons_succ,List.set_cons_zero])
      have qa:Calls Tryz.prog 32 #[.agg (OE.enc x.c.op).toArray] w7 _:=zhJ x.c.op w7
      refine GrowL.acts rfl ?_
      go_wp2_with (first|go_skip)
      refine qa.mono ?_
      clear qa
      rintro e w8 ⟨rfl,k8⟩
      go_wp2_with (first|go_skip)
      refine⟨k8,?_⟩
      (try simp only[Act.put,List.setIfInBounds_toArray,List.set_cons_succ,List.set_cons_zero])
      have N8:=(N5.below k7).below k8
      have D8:=(D5.below k7).below k8
      have V8:=aside (MapV.zaG.below (MapV.zaG.below V5.out k7) k8)
      have G8:=aside (EaK.zaG.below (EaK.zaG.below G5.out k7) k8)
      have b8:=(b5.trans (k7.mono b5.size)).trans (k8.mono (b5.trans (k7.mono b5.size)).size)
      clear N5 D5 V5 G5 b5 k7 k8 o5
      have hlk:=Grow.grown (w:=w8) (fun u hu=>EaK.zeQ EaK.zmO (EaK.zaG.below G8.out hu) (gd_of FX.out.op) EaK.zf4)
      have hf:∀e,(f e).getD (.agg (ck fun _=>0))=.agg (ck fun n=>kill zaj (zar l) ((zar l).take k) e.key e.elem n):=HF.out
      simp only[hf]at hlk
      clear hf
      refine GrowL.reads rfl rfl ?_
      go_big_quiet_step (fail)
      refine wpQuiet_nil ?_
      (try simp only[Act.put,List.setIfInBounds_toArray,List.set_cons_succ,List.set_cons_zero])
      have qa:=zlo (fun n=>kill zaj (zar l) ((zar l).take k) x.c.op.key x.c.op.elem n) (zb5 F ps) w8
      have qa:Calls Tryz.prog 73 #[.agg (ck fun n=>kill zaj (zar l) ((zar l).take k) (elO x.c.op).key (elO x.c.op).elem n),.agg (CE8.enc (zb5 F ps)).toArray] w8 _:=qa
      refine GrowL.acts rfl ?_
      go_wp2_with (first|go_skip)
      refine qa.mono ?_
      clear qa hlk
      rintro e w9 ⟨rfl,k9⟩
      go_wp2_with (first|go_skip)
      refine⟨k9,?_⟩
      (try simp only[Act.put,List.setIfInBounds_toArray,List.set_cons_succ,List.set_cons_zero])
      have N9:=N8.below k9
      have D9:=D8.below k9
      have V9:=aside (MapV.zaG.below V8.out k9)
      have G9:=aside (EaK.zaG.below G8.out k9)
      have b9':=b8.trans (k9.mono b8.size)
      clear N8 D8 V8 G8 b8 k9
      refine GrowL.last rfl ?_
      go_wp2_with (first|(refine EaK.zbx EaK.zmO _ rfl _ _ _ rfl (w1.heap.size+1) k _ rfl G9.out (by omega) (elO x.c.op) (gd_of FX.out.op) rfl _ rfl ?_;intro w10 G10 g10))
      refine GrowL.done ?_
      have N10:=N9.kept g10 (fun e=>by injection e with e;omega)
      have D10:=D9.kept g10 (fun e=>by injection e with e;omega)
      have V10:=aside (MapV.zaG.kept V9.out g10 (by simp))
      have b10:Below w1.heap.size w1 w10:=below_grown b9' b9'.size g10 (fun q hq=>by cases hq;omega)
      have G10:=aside G10
      have HF2:=aside (HNX.out ▸ gone_yes (c:=x.c) HF.out H3.out (fun _ _ _=>rfl) (t:=zb5 F ps) (fun n _ _=>HTG.out n))
      clear N9 D9 V9 G9 b9' g10
      have c0:w10.cell? ⟨wr.heap.size,0,none⟩=some (.int .i64 nd):=(D10.cell (j:=0) rfl).trans (by rw[HND.out])
      have c1:w10.cell? ⟨wr.heap.size,1,none⟩=some (.int .i64 sq):=(D10.cell (j:=1) rfl).trans (by rw[HSQ.out])
      go_wp2_with (first|go_skip|(refine ziR rfl rfl _ _ rfl w3.heap.size nd hn rfl _ N10 sq rfl ?_;intro w20 N20 f20 g20 s20))
      have e20:some wr.heap.size≠some w3.heap.size:=fun e=>by
       have:=D0.lt
       injection e with e
       omega
      have V20:=aside (MapV.zaG.kept V10.out g20 (fun e=>by injection e with e;omega))
      have G20:=aside (EaK.zaG.kept G10.out g20 (fun e=>by injection e with e;omega))
      have b20:=b10.trans (f20 _ hw3)
      clear N10 V10 G10 b10 f20 g20 s20 e20
      refine GrowL.region 6 [(0,true),(1,true),(2,true),(3,true),(4,true),(5,true),(6,false)] (by kernel_rfl) (by kernel_rfl) rfl (by kernel_rfl) (by intro c a d v w h;cases d <;> exact h) ?_
      have kd:=zaf (Below.refl w20.heap.size w20)
      have N21:=N20.below kd
      have V21:=aside (MapV.zaG.below V20.out kd)
      have G21:=aside (EaK.zaG.below G20.out kd)
      have b21:=b20.trans (kd.mono b20.size)
      generalize w20.drew=wy at N21 V21 G21 b21 ⊢
      clear N20 V20 G20 b20 kd
      have r21:=IdW.zab r9 b21
      (try simp only[Act.put,List.setIfInBounds_toArray,List.set_cons_succ,List.set_cons_zero])
      repeat (first|(refine GrowL.reads rfl rfl ?_;go_big_quiet_want;refine CmA.zbt _ rfl _ _ rfl ih r21 ?_;go_big_quiet_on;refine wpQuiet_nil ?_;(try simp only[Act.put,List.setIfInBounds_toArray,List.set_cons_succ,List.set_cons_zero]))|(refine GrowL.reads rfl rfl ?_;go_big_quiet_want;refine Cel.zaB CE8 _ rfl _ _ rfl _ N21.range ?_;go_big_quiet_on;refine wpQuiet_nil ?_;(try simp only[Act.put,List.setIfInBounds_toArray,List.set_cons_succ,List.set_cons_zero]))|(refine GrowL.reads rfl rfl ?_;go_big_quiet_step (fail);refine wpQuiet_nil ?_))
      refine GrowL.last rfl ?_
      go_wp2_with (first|(refine MapV.zbx EaK.idsT _ rfl _ _ _ rfl w1.heap.size k _ rfl V21.out (by omega) ih rfl _ rfl ?_;intro w22 V22 g22))
      refine GrowL.done ?_
      go_wp2_with (first|go_skip)
      have G22:=aside (EaK.zaG.kept G21.out g22 (fun e=>by injection e with e;omega))
      have b22:Below w1.heap.size w1 w22:=below_grown b21 b21.size g22 (fun q hq=>by cases hq;exact Nat.le_refl _)
      go_roundw
      case rel=>
       refine⟨k+1,_,by omega,by go_num,aside ?_,G22,aside HF2.out,b22⟩
       rw[HNX.out,←ziz HCK.out HCN.out (s:=zb5 F ps) (fun n _ _=>by rw[HFF.out,HPS.out]),HIH.out,HND.out,HSQ.out]
       exact V22
      case measure=>simp[intOf];omega
     ·have hf3:(x.c.op.kind == 3)=false:=by simpa using h3
      have HF2:=aside (HNX.out ▸ gone_no (c:=x.c) HF.out h3)
      have G4:=aside (EaK.zaG.mono G4.out (Nat.le_succ k))
      clear h3
      go_wp2_with (first|go_skip|(refine ziR rfl rfl _ _ rfl w3.heap.size nd hn rfl _ N3 sq rfl ?_;intro w20 N20 f20 g20 s20))
      have e20:some wr.heap.size≠some w3.heap.size:=fun e=>by
       have:=D0.lt
       injection e with e
       omega
      have V20:=aside (MapV.zaG.kept V4.out g20 (fun e=>by injection e with e;omega))
      have G20:=aside (EaK.zaG.kept G4.out g20 (fun e=>by injection e with e;omega))
      have b20:=b4.trans (f20 _ hw3)
      clear N3 V4 G4 b4 f20 g20 s20 e20
      refine GrowL.region 6 [(0,true),(1,true),(2,true),(3,true),(4,true),(5,true),(6,false)] (by kernel_rfl) (by kernel_rfl) rfl (by kernel_rfl) (by intro c a d v w h;cases d <;> exact h) ?_
      have kd:=zaf (Below.refl w20.heap.size w20)
      have N21:=N20.below kd
      have V21:=aside (MapV.zaG.below V20.out kd)
      have G21:=aside (EaK.zaG.below G20.out kd)
      have b21:=b20.trans (kd.mono b20.size)
      generalize w20.drew=wy at N21 V21 G21 b21 ⊢
      clear N20 V20 G20 b20 kd
      have r21:=IdW.zab r9 b21
      (try simp only[Act.put,List.setIfInBounds_toArray,List.set_cons_succ,List.set_cons_zero])
      repeat (first|(refine GrowL.reads rfl rfl ?_;go_big_quiet_want;refine CmA.zbt _ rfl _ _ rfl ih r21 ?_;go_big_quiet_on;refine wpQuiet_nil ?_;(try simp only[Act.put,List.setIfInBounds_toArray,List.set_cons_succ,List.set_cons_zero]))|(refine GrowL.reads rfl rfl ?_;go_big_quiet_want;refine Cel.zaB CE8 _ rfl _ _ rfl _ N21.range ?_;go_big_quiet_on;refine wpQuiet_nil ?_;(try simp only[Act.put,List.setIfInBounds_toArray,List.set_cons_succ,List.set_cons_zero]))|(refine GrowL.reads rfl rfl ?_;go_big_quiet_step (fail);refine wpQuiet_nil ?_))
      refine GrowL.last rfl ?_
      go_wp2_with (first|(refine MapV.zbx EaK.idsT _ rfl _ _ _ rfl w1.heap.size k _ rfl V21.out (by omega) ih rfl _ rfl ?_;intro w22 V22 g22))
      refine GrowL.done ?_
      go_wp2_with (first|go_skip)
      have G22:=aside (EaK.zaG.kept G21.out g22 (fun e=>by injection e with e;omega))
      have b22:Below w1.heap.size w1 w22:=below_grown b21 b21.size g22 (fun q hq=>by cases hq;exact Nat.le_refl _)
      go_roundw
      case rel=>
       refine⟨k+1,_,by omega,by go_num,aside ?_,G22,aside HF2.out,b22⟩
       rw[HNX.out,←ziz HCK.out HCN.out (s:=zb5 F ps) (fun n _ _=>by rw[HFF.out,HPS.out]),HIH.out,HND.out,HSQ.out]
       exact V22
      case measure=>simp[intOf];omega
  ·obtain rfl:k=l.length:=by omega
   have HF2:=HF.out
   rw[List.take_of_length_le (by rw[zaw];omega)]at HF2
   have HF3:=aside HF2
   clear HF2 HF
   go_wp2_with (first|go_skip)
   go_ret
   exact⟨_,_,f,rfl,HG.out,HF3.out,k1.trans (kb.mono k1.size)⟩
end Go.Proofs.YtgmdhaepiclkcaaGreatDoor.EaD
