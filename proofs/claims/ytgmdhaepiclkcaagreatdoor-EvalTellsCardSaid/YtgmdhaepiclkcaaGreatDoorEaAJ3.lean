/- The chapter's example | What the document's gone of package eval returns | What the document's Get, May, put and Same of package ctr return -/
import Derived.Test.YtgmdhaepiclkcaaGreatDoorEaJ
import Derived.Test.YtgmdhaepiclkcaaGreatDoorStNJ8
import Derived.Test.YtgmdhaepiclkcaaGreatDoorRowGJ7
import Derived.Test.YtgmdhaepiclkcaaGreatDoorGrowJ9
import Derived.Test.YtgmdhaepiclkcaaGreatDoorDgXJ5
import Derived.Test.YtgmdhaepiclkcaaGreatDoorDgKJ2
import Derived.Test.YtgmdhaepiclkcaaGreatDoorRefEJ9
namespace Go.Proofs.YtgmdhaepiclkcaaGreatDoor.EaA
set_option maxHeartbeats 16000000
set_option maxRecDepth 100000
open Go Go.Sort Go.RowKit Byt IdM IdW OpsM OpsW RowS CmM StM StW CmW CmX CmY CmA DgM DgW DgR DgF EaM EaN EaH EaJ
open Classical
abbrev zmr:Prop:=∀w:World,ShaE.KIn w→Calls Tryz.prog 10 #[] w fun e w'=>e=.returned (.bool true)∧Below w.heap.size w w'
theorem fita:CmW.Fit ka:=⟨⟨by decide,by decide⟩,⟨by decide,by decide⟩,⟨by decide,by decide⟩,⟨⟨by decide,by decide⟩,⟨by decide,by decide⟩,of_decide_eq_true (by kernel_rfl),of_decide_eq_true (by kernel_rfl)⟩⟩
theorem fitb (I:Idn):CmW.Fit (kb I):=by
 have h:CmW.Fit (kb nought):=⟨⟨by decide,by decide⟩,⟨by decide,by decide⟩,⟨by decide,by decide⟩,⟨⟨by decide,by decide⟩,⟨by decide,by decide⟩,of_decide_eq_true (by kernel_rfl),of_decide_eq_true (by kernel_rfl)⟩⟩
 exact⟨h.node,h.seq,h.gen,h.op⟩
theorem fitc (I:Idn):CmW.Fit (kc I):=by
 have h:CmW.Fit (kc nought):=⟨⟨by decide,by decide⟩,⟨by decide,by decide⟩,⟨by decide,by decide⟩,⟨⟨by decide,by decide⟩,⟨by decide,by decide⟩,of_decide_eq_true (by kernel_rfl),of_decide_eq_true (by kernel_rfl)⟩⟩
 exact⟨h.node,h.seq,h.gen,h.op⟩
def va:Cv:=⟨none,0,ka⟩
section
variable {ops:Array Oper} {rest:List Oper} {o:Oper} {a:Act} {w:World} {Q:Exit→Act→World→Prop}
theorem lit3 (hgd:o.guard=none) (x1 x2 x3:Operand) (ho:o.op=.buildSlice 22 3 #[(0,x1),(1,x2),(2,x3)])
  (y1 y2 y3:Cv) (hx1:a.eval x1=.agg (cc y1)) (hx2:a.eval x2=.agg (cc y2)) (hx3:a.eval x3=.agg (cc y3)) (h:∀w1,SlR KE w1 (some ⟨w.heap.size,0,none⟩) 3 [y1,y2,y3]→Below w.heap.size w w1→wpList Tryz.prog ops Q rest (a.put o.dst (.slice (some ⟨w.heap.size,0,none⟩) 3 3)) w1):wpList Tryz.prog ops Q (o::rest) a w:=by
 have hrun:(Instr.buildSlice 22 3 #[(0,.agg (cc y1)),(1,.agg (cc y2)),(2,.agg (cc y3))]).run Tryz.prog w=.ok (.slice (some ⟨w.heap.size,0,none⟩) 3 3) (w.alloc (.cells (RowS.flat KE [y1,y2,y3]).toArray KE.T)):=RowC.run_build KE w [y1,y2,y3] (by simp) (by simp) (of_decide_eq_true rfl)
 refine wpList_plain hgd fun K hK=>?_
 unfold Oper.wp execOp
 simp only[ho,List.map_toArray,List.map_cons,List.map_nil,hx1,hx2,hx3,Sem.run_bind,hrun,Result.andThen_ok,Sem.run_pure]
 exact hK _ _ (h _ (RowS.SlR.of_cells KE (heap_alloc_new w _) (by simp;unfold maxLen;omega)) ((Below.refl _ _).alloc (Nat.le_refl _) _))
end
theorem zfx {w:World} {g:Nat} {v:Cv} (h:Cel.Box CE w g v):w.rangeAt g 4 (opc v.c.op).toList:=fun j u hu=>by
 have hj:j<4:=(List.getElem?_eq_some_iff.1 hu).1
 rcases(by omega:j=0∨j=1∨j=2∨j=3)with rfl|rfl|rfl|rfl
 ·exact(Option.some.inj hu) ▸ h.cell (j:=4) rfl
 ·exact(Option.some.inj hu) ▸ h.cell (j:=5) rfl
 ·exact(Option.some.inj hu) ▸ h.cell (j:=6) rfl
 ·exact(Option.some.inj hu) ▸ h.cell (j:=7) rfl
theorem zg4 {ops:Array Oper} {rest:List Oper} {o:Oper} {a:Act} {w:World} {Q:Exit→Act→World→Prop} (hgd:o.guard=none) (x:Operand) (ho:o.op=.load 45 x) (g:Nat) (hx:a.eval x=.pointer (some ⟨g,4,none⟩)) (v:Cv) (hb:Cel.Box CE w g v) (h:wpList Tryz.prog ops Q rest (a.put o.dst (.agg (opc v.c.op))) w):wpList Tryz.prog ops Q (o::rest) a w:=
 wpList_load_mid hgd 45 x ho g 4 hx (opc v.c.op).toList _ (zfx hb) Tryz.underlying45 rfl (zl2 v.c.op) h
theorem awake (T:Two):zmr:=by
 intro w hK
 have hch:=fun W K=>zeY va W (CmW.In.none W) fita K
 unfold zfp at hch
 obtain⟨y1,y2,y3⟩:=zdm maya
 rw[show zim va.c=IA from y3.trans ida,show putN va.c=0 from y2]at hch
 clear y1 y2 y3
 obtain⟨I,hI⟩:∃I,IA=I:=⟨_,rfl⟩
 rw[hI]at hch
 have HI:=aside hI
 clear hI
 go_enter Tryz.func10,Tryz.ntmps10
 go_wp2_with (first|go_skip)
 refine(zpQ _).mono ?_
 rintro e w1 ⟨rfl,k1⟩
 go_wp2_with (first|go_skip|(refine Cel.zac CE rfl _ _ rfl w1 _ _ rfl v1 _ rfl rfl rfl rfl ?_;intro w2 B2 k2 g2 s2;have b2:=k1.trans (k2.mono k1.size);have h2:=k1.size;clear s2 g2 k2)|(refine Cel.zcl CE rfl rfl 45 _ _ rfl w1.heap.size 4 rfl v1 B2 va (opc oA) (zl2 oA) rfl (opc_one oA) (of_decide_eq_true rfl) (by rfl) ?_;intro w3 B3 f3 g3 s3;have b3:=b2.trans (f3 _ h2);clear f3 g3 s3 B2 b2)|(refine Cel.zaa CE rfl _ rfl _ rfl va B3 ?_))
 refine(hch _ (hK.below b3)).mono ?_
 rintro e w4 ⟨rfl,k4⟩
 have b4:=b3.trans (k4.mono b3.size)
 have B4:=B3.below k4
 clear hch B3 k4 b3
 go_wp2_with (first|go_skip|(refine IdJ.zax rfl rfl ?_)|(refine CmG.zaF rfl _ _ rfl _ nought _ rfl I _ rfl rfl rfl ?_;intro w5 G5 k5 s5;have b5:=b4.trans (k5.mono b4.size);have B5:=B4.below k5;clear s5 B4 b4)|(refine zak rfl _ rfl _ _ rfl I G5.range ?_)|(refine zde rfl _ rfl I rfl ?_;intro w6 S6 k6;have b6:=b5.trans (k6.mono b5.size);have B6:=B5.below k6;have G6:=G5.below k6 G5.lt;clear b5 B5 G5 k6)|(refine Cel.zac CE rfl _ _ rfl w6 _ _ rfl (⟨some ⟨w5.heap.size,0,none⟩,1,kb I⟩:Cv) _ rfl rfl rfl rfl ?_;intro w7 D7 k7 g7 s7;have b7:=b6.trans (k7.mono b6.size);have B7:=B6.below k7;have G7:=G6.below k7 G6.lt;have S7:=S6.below k7;clear b6 B6 G6 S6 k7 g7 s7)|(refine zak rfl _ rfl _ _ rfl I G7.range ?_)|(refine zde rfl _ rfl I rfl ?_;intro w8 S8 k8;have b8:=b7.trans (k8.mono b7.size);have B8:=B7.below k8;have D8:=D7.below k8;have G8:=G7.below k8 G7.lt;have SB8:=S7.below k8;clear b7 B7 D7 G7 S7 k8)|(refine zg4 rfl _ rfl w1.heap.size rfl va B8 ?_)|(refine Cel.zac CE rfl _ _ rfl w8 _ _ rfl (⟨some ⟨w7.heap.size,0,none⟩,1,kc I⟩:Cv) _ rfl rfl rfl rfl ?_;intro w9 E9 k9 g9 s9;have b9:=b8.trans (k9.mono b8.size);have B9:=B8.below k9;have D9:=D8.below k9;have G9:=G8.below k9 G8.lt;have SB9:=SB8.below k9;have SC9:=S8.below k9;clear b8 B8 D8 G8 SB8 S8 k9 g9 s9)|(refine Cel.zaa CE rfl _ rfl _ rfl va B9 ?_)|(refine Cel.zaa CE rfl _ rfl _ rfl (⟨some ⟨w5.heap.size,0,none⟩,1,kb I⟩:Cv) D9 ?_)|(refine Cel.zaa CE rfl _ rfl _ rfl (⟨some ⟨w7.heap.size,0,none⟩,1,kc I⟩:Cv) E9 ?_)|(refine lit3 rfl _ _ _ rfl va (⟨some ⟨w5.heap.size,0,none⟩,1,kb I⟩:Cv) (⟨some ⟨w7.heap.size,0,none⟩,1,kc I⟩:Cv) rfl rfl rfl ?_;intro w10 R10 k10;have b10:=b9.trans (k10.mono b9.size);have B10:=B9.below k10;have D10:=D9.below k10;have E10:=E9.below k10;have G10:=G9.below k10 G9.lt;have SB10:=SB9.below k10;have SC10:=SC9.below k10;clear b9 B9 D9 E9 G9 SB9 SC9 k10))
 have hco:zar [va,⟨some ⟨w5.heap.size,0,none⟩,1,kb I⟩,⟨some ⟨w7.heap.size,0,none⟩,1,kc I⟩]=zf2:=by
  rw[←HI.out]
  rfl
 have heach:∀W,SlI W (some ⟨w5.heap.size,0,none⟩) 1 [I]→SlI W (some ⟨w7.heap.size,0,none⟩) 1 [I]→∀v ∈ ([va,⟨some ⟨w5.heap.size,0,none⟩,1,kb I⟩,⟨some ⟨w7.heap.size,0,none⟩,1,kc I⟩]:List Cv),CmW.In W v∧CmW.Fit v.c:=fun W h1 h2 v hv=>by
  rcases List.mem_cons.1 hv with rfl|hv
  ·exact⟨CmW.In.none _,fita⟩
  ·rcases List.mem_cons.1 hv with rfl|hv
   ·exact⟨h1,fitb I⟩
   ·rw[List.mem_singleton.1 hv]
    exact⟨h2,fitc I⟩
 have HCO:=aside hco
 have HEA:=aside heach
 clear hco heach
 have q1:=T.eval _ 3 [va,⟨some ⟨w5.heap.size,0,none⟩,1,kb I⟩,⟨some ⟨w7.heap.size,0,none⟩,1,kc I⟩] w10 ⟨R10,HEA.out w10 SB10 SC10⟩ (by simp) (hK.below b10)
 rw[HCO.out,zh3,if_pos zd8]at q1
 have q1:Calls Tryz.prog 12 #[.slice (some ⟨w9.heap.size,0,none⟩) 3 3] w10 (fun e w'=>∃v,e=.returned (.tuple #[.agg (sc v),.int .i64 0])∧v.s=zdz zaj zf2∧StW.In w' v∧Below w10.heap.size w10 w'):=q1
 refine q1.mono ?_
 clear q1
 rintro e w11 ⟨v,rfl,hv,IV,k11⟩
 have hp:v.s.p=[zex (kc I)]:=by rw[hv,zoJ,HI.out]
 have HP:=aside hp
 have b11:=b10.trans (k11.mono b10.size)
 have B11:=B10.below k11
 have D11:=D10.below k11
 have E11:=E10.below k11
 have G11:=G10.below k11 G10.lt
 have SB11:=SB10.below k11
 have SC11:=SC10.below k11
 clear hv hp b10 B10 D10 E10 G10 SB10 SC10 k11 R10
 go_wp2_with (first|go_skip|(refine Cel.zac SE rfl _ _ rfl w11 _ _ rfl v _ rfl rfl rfl rfl ?_;intro w12 V12 k12 g12 s12;have b12:=b11.trans (k12.mono b11.size);have B12:=B11.below k12;have D12:=D11.below k12;have E12:=E11.below k12;have G12:=G11.below k12 G11.lt;have SB12:=SB11.below k12;have SC12:=SC11.below k12;have IV12:=IV.below k12;clear b11 B11 D11 E11 G11 SB11 SC11 IV k12 g12 s12)|(refine Cel.zaa CE rfl _ rfl _ rfl va B12 ?_)|(refine Cel.zaa CE rfl _ rfl _ rfl (⟨some ⟨w5.heap.size,0,none⟩,1,kb I⟩:Cv) D12 ?_)|(refine Cel.zaa CE rfl _ rfl _ rfl (⟨some ⟨w7.heap.size,0,none⟩,1,kc I⟩:Cv) E12 ?_)|(refine lit3 rfl _ _ _ rfl va (⟨some ⟨w5.heap.size,0,none⟩,1,kb I⟩:Cv) (⟨some ⟨w7.heap.size,0,none⟩,1,kc I⟩:Cv) rfl rfl rfl ?_;intro w13 R13 k13;have b13:=b12.trans (k13.mono b12.size);have V13:=V12.below k13;have B13:=B12.below k13;have E13:=E12.below k13;have G13:=G12.below k13 G12.lt;have SB13:=SB12.below k13;have SC13:=SC12.below k13;have IV13:=IV12.below k13;clear b12 V12 B12 D12 E12 G12 SB12 SC12 IV12 k13)|(refine zak rfl _ rfl _ _ rfl I G13.range ?_)|(refine zde rfl _ rfl I rfl ?_;intro w14 S14 k14;have b14:=b13.trans (k14.mono b13.size);have R14:=R13.below k14;have V14:=V13.below k14;have B14:=B13.below k14;have E14:=E13.below k14;have SB14:=SB13.below k14;have SC14:=SC13.below k14;have IV14:=IV13.below k14;clear b13 R13 V13 B13 E13 G13 SB13 SC13 IV13 k14))
 have q2:=T.at_ _ _ 3 1 [va,⟨some ⟨w5.heap.size,0,none⟩,1,kb I⟩,⟨some ⟨w7.heap.size,0,none⟩,1,kc I⟩] [I] w14 ⟨R14,HEA.out w14 SB14 SC14⟩ S14 (by simp) (by simp) (hK.below b14)
 rw[HCO.out,atE,if_pos zd8]at q2
 have q2:Calls Tryz.prog 14 #[.slice (some ⟨w12.heap.size,0,none⟩) 3 3,.slice (some ⟨w13.heap.size,0,none⟩) 1 1] w14 (fun e w'=>∃v,e=.returned (.tuple #[.agg (sc v),.int .i64 0])∧v.s=atK zaj zf2 [I]∧StW.In w' v∧Below w14.heap.size w14 w'):=q2
 refine q2.mono ?_
 clear q2
 rintro e w15 ⟨u,rfl,hu,IU,k15⟩
 have hp:u.s.p=[zex ka]:=by rw[hu,←HI.out,at_trio]
 have HU:=aside hp
 have b15:=b14.trans (k15.mono b14.size)
 have B15:=B14.below k15
 have E15:=E14.below k15
 have V15:=V14.below k15
 have IV15:=IV14.below k15
 clear hu hp b14 B14 E14 V14 IV14 SB14 SC14 S14 R14 k15
 go_wp2_with (first|go_skip|(refine Cel.zac SE rfl _ _ rfl w15 _ _ rfl u _ rfl rfl rfl rfl ?_;intro w16 U16 k16 g16 s16;have b16:=b15.trans (k16.mono b15.size);have B16:=B15.below k16;have E16:=E15.below k16;have V16:=V15.below k16;have IV16:=IV15.below k16;have IU16:=IU.below k16;clear b15 B15 E15 V15 IV15 IU k16 g16 s16))
 refine Grow.region [(0,true),(1,true),(2,true),(3,true),(4,true),(5,true),(6,true),(7,true),(8,true),(9,true),(10,true),(11,true),(12,true),(13,true),(14,true),(15,true),(16,true),(17,true),(18,true),(19,true),(20,true),(21,true),(22,true),(23,true),(24,true),(25,true),(26,true),(27,true),(28,true),(29,true),(30,true),(31,true),(32,true),(33,true),(34,true),(35,true),(36,true),(37,true),(38,true)] (by kernel_rfl) (by kernel_rfl) rfl (by kernel_rfl) (by intro c a d v w h;cases d <;> exact h) ?_
 have kd:=zaf (Below.refl w16.heap.size w16)
 have b17:=b16.trans (kd.mono b16.size)
 have B17:=B16.below kd
 have E17:=E16.below kd
 have V17:=V16.below kd
 have U17:=U16.below kd
 have IV17:=(IV16.below kd).p
 have IU17:=(IU16.below kd).p
 generalize w16.drew=wz at b17 B17 E17 V17 U17 IV17 IU17 ⊢
 clear b16 B16 E16 V16 U16 IV16 IU16 kd
 rw[HP.out]at IV17
 rw[HU.out]at IU17
 obtain⟨p1,o1,e1,_,r1⟩:=IV17.plain (by simp)
 obtain⟨p2,o2,e2,_,r2⟩:=IU17.plain (by simp)
 have r1:=r1 0 _ rfl
 have r2:=r2 0 _ rfl
 rw[Nat.zero_mul,Nat.add_zero]at r1 r2
 have l1:v.s.p.length=1:=by rw[HP.out];rfl
 have l2:u.s.p.length=1:=by rw[HU.out];rfl
 have g1:=Grow.grown (w:=wz) (fun y hy=>(zam (V17.below hy)).2.2)
 have g2:=Grow.grown (w:=wz) (fun y hy=>(zam (U17.below hy)).2.2)
 rw[l1,e1]at g1
 rw[l2,e2]at g2
 have t1:wz.rangeAt p1 (o1+2) (EE.enc ⟨1,1⟩):=fun j y hy=>by
  have hj:j<2:=(List.getElem?_eq_some_iff.1 hy).1
  rcases(by omega:j=0∨j=1)with rfl|rfl
  ·exact(Option.some.inj hy) ▸ r1 2 _ rfl
  ·exact(Option.some.inj hy) ▸ r1 3 _ rfl
 have t2:wz.rangeAt p2 (o2+2) (EE.enc ⟨0,1⟩):=fun j y hy=>by
  have hj:j<2:=(List.getElem?_eq_some_iff.1 hy).1
  rcases(by omega:j=0∨j=1)with rfl|rfl
  ·exact(Option.some.inj hy) ▸ r2 2 _ rfl
  ·exact(Option.some.inj hy) ▸ r2 3 _ rfl
 have t3:wz.rangeAt w8.heap.size 0 (EE.enc ⟨1,1⟩):=fun j y hy=>by
  have hj:j<2:=(List.getElem?_eq_some_iff.1 hy).1
  rcases(by omega:j=0∨j=1)with rfl|rfl
  ·exact(Option.some.inj hy) ▸ E17.cell (j:=0) rfl
  ·exact(Option.some.inj hy) ▸ E17.cell (j:=1) rfl
 have t4:wz.rangeAt w1.heap.size 0 (EE.enc ⟨0,1⟩):=fun j y hy=>by
  have hj:j<2:=(List.getElem?_eq_some_iff.1 hy).1
  rcases(by omega:j=0∨j=1)with rfl|rfl
  ·exact(Option.some.inj hy) ▸ B17.cell (j:=0) rfl
  ·exact(Option.some.inj hy) ▸ B17.cell (j:=1) rfl
 have hq1:∀W,(binOp BinOp.eql 43 (.agg (EE.enc ⟨1,1⟩).toArray) (.agg (EE.enc ⟨1,1⟩).toArray)).run Tryz.prog W=.ok (.bool true) W:=fun W=>by kernel_rfl
 have hq2:∀W,(binOp BinOp.eql 43 (.agg (EE.enc ⟨0,1⟩).toArray) (.agg (EE.enc ⟨0,1⟩).toArray)).run Tryz.prog W=.ok (.bool true) W:=fun W=>by kernel_rfl
 clear l1 l2 r1 r2 V17 U17 IV17 IU17 B17 E17
 repeat (first|(refine Grow.reads rfl rfl ?_;go_big_quiet_want;refine Cel.zaB EE _ rfl _ _ rfl ⟨1,1⟩ t1 ?_;go_big_quiet_on;refine wpQuiet_nil ?_;(try simp only[Act.put,List.setIfInBounds_toArray,List.set_cons_succ,List.set_cons_zero]))|(refine Grow.reads rfl rfl ?_;go_big_quiet_want;refine Cel.zaB EE _ rfl _ _ rfl ⟨0,1⟩ t2 ?_;go_big_quiet_on;refine wpQuiet_nil ?_;(try simp only[Act.put,List.setIfInBounds_toArray,List.set_cons_succ,List.set_cons_zero]))|(refine Grow.reads rfl rfl ?_;go_big_quiet_want;refine Cel.zaB EE _ rfl _ _ rfl ⟨1,1⟩ t3 ?_;go_big_quiet_on;refine wpQuiet_nil ?_;(try simp only[Act.put,List.setIfInBounds_toArray,List.set_cons_succ,List.set_cons_zero]))|(refine Grow.reads rfl rfl ?_;go_big_quiet_want;refine Cel.zaB EE _ rfl _ _ rfl ⟨0,1⟩ t4 ?_;go_big_quiet_on;refine wpQuiet_nil ?_;(try simp only[Act.put,List.setIfInBounds_toArray,List.set_cons_succ,List.set_cons_zero]))|(refine Grow.reads rfl rfl ?_;go_big_quiet_step (fail);refine wpQuiet_nil ?_))
 refine Grow.ends ?_
 go_wp2_with (first|go_skip)
 go_ret
 exact⟨rfl,b17⟩
end Go.Proofs.YtgmdhaepiclkcaaGreatDoor.EaA
namespace Go.Proofs.YtgmdhaepiclkcaaGreatDoor.EaR
set_option maxHeartbeats 32000000
set_option maxRecDepth 100000
open Go Go.Sort Go.RowKit Byt IdM IdW IdV OpsM OpsW CmM CmW CmX CmY DgM DgN DgP DgW DgT DgR DgK FrM FrN EaM EaN
open Classical
def Kill (K:Nat→Nat→Bool) (i:Nat) (c:Com) (k:Nat) (d:Com):Prop:=d.op.kind=3∧d.op.key=c.op.key∧d.op.elem=c.op.elem∧K k i=true
def zm9 (l:List Com) (K:Nat→Nat→Bool) (i:Nat) (c:Com):Prop:=∃k d,l[k]?=some d∧Kill K i c k d
theorem zfA {l:List Com} {K:Nat→Nat→Bool} {i k:Nat} {c d:Com} (h:∀k' e,k'<k→l[k']?=some e→¬Kill K i c k' e) (hd:l[k]?=some d) (hn:¬Kill K i c k d):∀k' e,k'<k+1→l[k']?=some e→¬Kill K i c k' e:=fun k' e hk he=>by
 by_cases q:k'=k
 ·subst q
  rw[hd]at he
  rw[←Option.some.inj he]
  exact hn
 ·exact h k' e (by omega) he
theorem zoz {l:List Com} {K:Nat→Nat→Bool} {i n:Nat} {c:Com} (hn:l.length≤n) (h:∀k' e,k'<n→l[k']?=some e→¬Kill K i c k' e):¬zm9 l K i c:=fun⟨k,d,hd,q⟩=>h k d (by have:=(List.getElem?_eq_some_iff.1 hd).1;omega) hd q
theorem gone_ret (A:Option Addr) (cap:Nat) (l:List Cv) (base:Nat) (v:Value) (gs:List Nat) (K:Nat→Nat→Bool) (i:Nat) (x:Cv) (w:World) (S:SlK w A cap l) (TB:Tab w base v l.length gs K) (hgl:gs.length=l.length) (hx:l[i]?=some x):
  Calls Tryz.prog 40 #[.slice A l.length cap,v,.int .i64 i] w fun e w'=>e=.returned (.bool (decide (zm9 (zar l) K i x.c)))∧Below w.heap.size w w':=by
 have hmax:=S.len
 have hi:=(List.getElem?_eq_some_iff.1 hx).1
 obtain⟨rb,hrb⟩:∃b,decide (zm9 (zar l) K i x.c)=b:=⟨_,rfl⟩
 rw[hrb]
 obtain⟨b,off,rfl,hbw,hrg⟩:=S.plain (by omega)
 have rx0:=hrg i x hx
 obtain⟨r,rc,rfl,_⟩:=TB.at (by omega)
 have p1:(i:Int)<l.length:=by omega
 have m1:((i:Int)).toNat=i:=by omega
 have HR:=aside hrb
 have HRG:=aside hrg
 have HGL:=aside hgl
 clear hx hrb hrg hbw hgl
 go_enter Tryz.func40,Tryz.ntmps40
 go_wp2_with (first|go_skip)
 go_loopw [7] (fun j wr=>∃k:Nat,k≤l.length∧j=.int .i64 k∧Hid (∀k' e,k'<k→(zar l)[k']?=some e→¬Kill K i x.c k' e)∧Below w.heap.size w wr) (fun j _=>l.length - (intOf j).toNat)
 case atStart=>exact⟨0,Nat.zero_le _,rfl,aside fun k' e h=>absurd h (Nat.not_lt_zero k'),Below.refl _ _⟩
 case round=>
  obtain⟨k,hk,rfl,HN,kb⟩:=hrel
  by_cases hlt:k<l.length
  ·obtain⟨y,hy⟩:∃y,l[k]?=some y:=⟨_,List.getElem?_eq_getElem hlt⟩
   have ry:=zaL (HRG.out k y hy) kb
   have rx:=zaL rx0 kb
   have HY:=aside (zbH hy)
   have TBk:=TB.below kb
   obtain⟨gk,hgk⟩:∃g,gs[k]?=some g:=⟨_,List.getElem?_eq_getElem (by rw[HGL.out];exact hlt)⟩
   have ct:wr.cell? ⟨r,k,none⟩=some (.slice (some ⟨gk,0,none⟩) l.length l.length):=TBk.cell hgk
   have cb:=TBk.bit hgk (j:=i) hi
   obtain⟨z,hz⟩:∃z,K k i=z:=⟨_,rfl⟩
   obtain⟨kd,hkd⟩:∃z,y.c.op.kind=z:=⟨_,rfl⟩
   obtain⟨yk,hyk⟩:∃z,y.c.op.key=z:=⟨_,rfl⟩
   obtain⟨ye,hye⟩:∃z,y.c.op.elem=z:=⟨_,rfl⟩
   obtain⟨xk,hxk⟩:∃z,x.c.op.key=z:=⟨_,rfl⟩
   obtain⟨xe,hxe⟩:∃z,x.c.op.elem=z:=⟨_,rfl⟩
   rw[hz]at cb
   have c1:wr.cell? ⟨b,off+k * 8+4,none⟩=some (.int .i64 kd):=(ry 4 _ rfl).trans (by rw[hkd])
   have c2:wr.cell? ⟨b,off+k * 8+5,none⟩=some (.string yk):=(ry 5 _ rfl).trans (by rw[hyk])
   have c3:wr.cell? ⟨b,off+k * 8+6,none⟩=some (.string ye):=(ry 6 _ rfl).trans (by rw[hye])
   have c4:wr.cell? ⟨b,off+i * 8+5,none⟩=some (.string xk):=(rx 5 _ rfl).trans (by rw[hxk])
   have c5:wr.cell? ⟨b,off+i * 8+6,none⟩=some (.string xe):=(rx 6 _ rfl).trans (by rw[hxe])
   have p0:(k:Int)<l.length:=by omega
   have m0:((k:Int)).toNat=k:=by omega
   have pg:(k:Int)<gs.length:=by rw[HGL.out];exact p0
   have HKL:Hid (Kill K i x.c k y.c↔kd=3∧yk=xk∧ye=xe∧z=true):=aside (by unfold Kill;rw[hkd,hyk,hye,hxk,hxe,hz])
   clear hy hz hkd hyk hye hxk hxe ry rx TBk hgk
   have hw:kd≠3∨(kd=3∧yk≠xk)∨(kd=3∧yk=xk∧ye≠xe)∨(kd=3∧yk=xk∧ye=xe):=by
    by_cases h1:kd=3 <;> by_cases h2:yk=xk <;> by_cases h3:ye=xe <;> simp[h1,h2,h3]
   rcases hw with h1|⟨rfl,h2⟩|⟨rfl,h2,h3⟩|⟨rfl,h2,h3⟩
   case inl=>
    have e1:(kd == 3)=false:=by simpa using h1
    have HN2:=aside (zfA HN.out HY.out fun q=>h1 (HKL.out.1 q).1)
    clear HN HY HKL h1
    go_wp2_with (first|go_skip)
    go_quiet (fail)
    go_wp2_with (first|go_skip)
    go_roundw
    case rel=>exact⟨k+1,by omega,by go_num,HN2,by first|exact kb|exact zai kb _⟩
    case measure=>simp[intOf];omega
   case inr.inl=>
    have e2:=PairW.zby h2
    have HN2:=aside (zfA HN.out HY.out fun q=>h2 (HKL.out.1 q).2.1)
    clear HN HY HKL h2
    go_wp2_with (first|go_skip)
    go_quiet (fail)
    go_wp2_with (first|go_skip)
    go_roundw
    case rel=>exact⟨k+1,by omega,by go_num,HN2,by first|exact kb|exact zai kb _⟩
    case measure=>simp[intOf];omega
   case inr.inr.inl=>
    have e2:=PairW.zbf h2
    have e3:=PairW.zby h3
    have HN2:=aside (zfA HN.out HY.out fun q=>h3 (HKL.out.1 q).2.2.1)
    clear HN HY HKL h2 h3
    go_wp2_with (first|go_skip)
    go_quiet (fail)
    go_wp2_with (first|go_skip)
    go_roundw
    case rel=>exact⟨k+1,by omega,by go_num,HN2,by first|exact kb|exact zai kb _⟩
    case measure=>simp[intOf];omega
   case inr.inr.inr=>
    have e2:=PairW.zbf h2
    have e3:=PairW.zbf h3
    cases z with
    |false=>
     have HN2:=aside (zfA HN.out HY.out fun q=>by cases (HKL.out.1 q).2.2.2)
     clear HN HY HKL h2 h3
     go_wp2_with (first|go_skip)
     go_quiet (fail)
     go_wp2_with (first|go_skip)
     go_roundw
     case rel=>exact⟨k+1,by omega,by go_num,HN2,by first|exact kb|exact zai kb _⟩
     case measure=>simp[intOf];omega
    |true=>
     have HT:Hid (rb=true):=aside (by rw[←HR.out];exact decide_eq_true ⟨k,y.c,HY.out,HKL.out.2 ⟨rfl,h2,h3,rfl⟩⟩)
     clear HN HY HKL h2 h3
     go_wp2_with (first|go_skip)
     go_quiet (fail)
     go_wp2_with (first|go_skip)
     go_ret
     exact⟨by rw[HT.out];rfl,by first|exact kb|exact zai kb _⟩
  ·have HT:Hid (rb=false):=aside (by
    rw[←HR.out]
    exact decide_eq_false (zoz (by rw[zaw];omega) HN.out))
   clear HN
   go_wp2_with (first|go_skip)
   go_ret
   exact⟨by rw[HT.out];rfl,kb⟩
theorem gone_iff {l:List Com} {K:Nat→Nat→Bool} (C:Closed zaj l) (hW:Whole l (l.map zaj) K) {i:Nat} {c:Com} (hc:l[i]?=some c):zm9 l K i c↔Gone zaj l c:=by
 have hi:(l.map zaj)[i]?=some (zaj c):=by rw[List.getElem?_map,hc];rfl
 constructor
 ·rintro⟨k,d,hd,h1,h2,h3,h4⟩
  refine⟨d,List.mem_of_getElem? hd,h1,h2,h3,?_⟩
  exact(zdw C.nodup C.found (by rw[List.getElem?_map,hd];rfl) hi).1 ((hW k i).1 h4)
 ·rintro⟨d,hd,h1,h2,h3,h4⟩
  obtain⟨k,hk⟩:=List.mem_iff_getElem?.1 hd
  exact⟨k,d,hk,h1,h2,h3,(hW k i).2 ((zdw C.nodup C.found (by rw[List.getElem?_map,hk];rfl) hi).2 h4)⟩
end Go.Proofs.YtgmdhaepiclkcaaGreatDoor.EaR
namespace Go.Proofs.YtgmdhaepiclkcaaGreatDoor.CtrR
set_option maxHeartbeats 8000000
set_option maxRecDepth 100000
open Go Go.RowKit Byt OpsM OpsK Rise CtrM RowS CtrW
theorem zcn {k:IntKind} {a b:Int} (h:a=b):Ending.returned (.int k a)=.returned (.int k b):=by rw[h]
theorem zoA (A:Option Addr) (cap:Nat) (l:List Cn) (k:ByteArray) (w:World) (S:SlR E w A cap l):
  Calls Tryz.prog 81 #[.slice A l.length cap,.string k] w fun e w'=>e=.returned (.int .i64 (zbC l k))∧w=w':=by
 have hcap:=S.1
 have hmax:l.length≤9223372036854775807:=by have:=S.2.1;unfold maxLen at this;omega
 go_enter Tryz.func81,Tryz.ntmps81
 go_wp2
 go_loop [5] (fun i=>∃j:Nat,j≤l.length∧i=.int .i64 j∧Hid (zbC l k=zbC (l.drop j) k)) (fun i=>l.length - (intOf i).toNat)
 case atStart=>exact⟨0,Nat.zero_le _,rfl,aside rfl⟩
 case round=>
  obtain⟨j,hj,rfl,HG⟩:=hrel
  by_cases hlt:j<l.length
  ·obtain⟨b,off,rfl,hbw,hr⟩:=CtrW.plain S (by omega)
   obtain⟨x,hx⟩:∃x,l[j]?=some x:=⟨_,List.getElem?_eq_getElem hlt⟩
   obtain⟨c0,c1⟩:=cells (hr j x hx)
   have hd:=getD_drop hx
   have p0:(j:Int)<l.length:=by omega
   have m0:((j:Int)).toNat=j:=by omega
   have HG2:=HG.out
   rw[hd,zfS]at HG2
   clear hr S hx hd HG
   by_cases hk:x.key=k
   ·have t0:=zbf hk
    rw[if_pos hk]at HG2
    have HR:=aside HG2
    clear HG2 hk
    go_wp2
    go_ret
    exact⟨zcn HR.out.symm,rfl⟩
   ·have t0:=zby hk
    rw[if_neg hk]at HG2
    have HR:=aside HG2
    clear HG2 hk
    go_wp2
    go_round
    case rel=>exact⟨j+1,by omega,by go_num,HR⟩
    case measure=>simp[intOf];omega
  ·have e:j=l.length:=by omega
   have HR:Hid (zbC l k=0):=aside (by rw[HG.out,e,List.drop_length];rfl)
   clear S HG
   go_wp2
   go_ret
   exact⟨zcn HR.out.symm,rfl⟩
theorem zaz (A:Option Addr) (cap:Nat) (l:List Cn) (w:World) (S:SlR E w A cap l) (hf:Fits l):
  Calls Tryz.prog 78 #[.slice A l.length cap] w fun e w'=>e=.returned (.bool (zbe l))∧Below w.heap.size w w':=by
 have hcap:=S.1
 have hmax:l.length≤9223372036854775807:=by have:=S.2.1;unfold maxLen at this;omega
 obtain⟨r,hr0⟩:∃r,zbe l=r:=⟨_,rfl⟩
 rw[hr0]
 have HR0:=aside hr0
 clear hr0
 go_enter Tryz.func78,Tryz.ntmps78
 go_wp2
 go_loopw [3] (fun i wr=>∃j:Nat,j≤l.length∧i=.int .i64 j∧Hid (0<j→zbe (l.take j)=true)∧Below w.heap.size w wr) (fun i _=>l.length - (intOf i).toNat)
 case atStart=>exact⟨0,Nat.zero_le _,rfl,aside (fun h=>absurd h (by omega)),Below.refl _ _⟩
 case round=>
  obtain⟨j,hj,rfl,HM,kb⟩:=hrel
  by_cases hlt:j<l.length
  ·obtain⟨b,off,rfl,hbw,hr⟩:=CtrW.plain S (by omega)
   have hx:l[j]?=some l[j]:=List.getElem?_eq_getElem hlt
   have hxm:l[j] ∈ l:=List.getElem_mem hlt
   have hk0:=OpsR.key l[j].key (hf _ hxm).1
   obtain⟨c0,c1⟩:=cells (zab (hr j _ hx) kb)
   have p0:(j:Int)<l.length:=by omega
   have m0:((j:Int)).toNat=j:=by omega
   have hno:=fun q=>HR0.out.symm.trans (zn6 hlt q)
   have hok:okC l[j]=(zbQ (zan l[j].key)&&decide (l[j].n≠0)):=rfl
   have zfP:=fun(m:Nat) (e:m+1=j) (q:ltS (l[m]'(by omega)).key (l[m+1]'(by omega)).key=false)=>HR0.out.symm.trans (zj0 (l:=l) (k:=m) (by omega) q)
   have hnext:=fun(m:Nat) (e:m+1=j) (q:zbe (l.take (m+1))=true)=>zjZ (l:=l) (k:=m) (by omega) q
   have hfirst:=fun(q:0<l.length)=>ziw (l:=l) q
   obtain⟨kx,hkx⟩:∃b,zbQ (zan l[j].key)=b:=⟨_,rfl⟩
   rw[hkx]at hk0 hok
   have HNo:=aside hno
   have HOk:=aside hok
   have HFa:=aside zfP
   have HNx:=aside hnext
   have HFi:=aside hfirst
   have HCr:=aside hr
   have HX:=aside hx
   clear hno hok zfP hnext hfirst hkx hr hxm hf hx S
   cases kx with
   |false=>
    have HR:Hid (r=false):=aside (HNo.out (by rw[HOk.out];rfl))
    go_wp2_with (first|(refine(hk0 _).mono ?_;rintro e w' ⟨rfl,rfl⟩))
    go_quiet (fail)
    go_wp2
    go_ret
    exact⟨zae HR.out.symm,zai kb _⟩
   |true=>
    by_cases hn:l[j].n=0
    ·have t0:(l[j].n == 0)=true:=by simpa using hn
     have HR:Hid (r=false):=aside (HNo.out (by rw[HOk.out,hn];rfl))
     clear hn
     go_wp2_with (first|(refine(hk0 _).mono ?_;rintro e w' ⟨rfl,rfl⟩))
     go_quiet (fail)
     go_wp2
     go_ret
     exact⟨zae HR.out.symm,zai kb _⟩
    ·have t0:(l[j].n == 0)=false:=by simpa using hn
     have HOk2:Hid (okC l[j]=true):=aside (by rw[HOk.out];simpa using hn)
     clear hn
     by_cases hj0:j=0
     ·subst hj0
      simp only[Nat.zero_mul,Nat.add_zero]at c0 c1
      have HM2:Hid (0<1→zbe (l.take 1)=true):=aside (fun _=>by rw[HFi.out hlt];exact HOk2.out)
      go_wp2_with (first|(refine(hk0 _).mono ?_;rintro e w' ⟨rfl,rfl⟩))
      go_quiet (fail)
      go_wp2
      go_roundw
      case rel=>exact⟨1,by omega,by go_num,HM2,zai kb _⟩
      case measure=>simp[intOf];omega
     ·obtain⟨m,hm⟩:∃m,m+1=j:=⟨j - 1,by omega⟩
      have hml:m<l.length:=by omega
      have hy:l[m]?=some (l[m]'hml):=List.getElem?_eq_getElem hml
      obtain⟨d0,_⟩:=cells (zab (HCr.out m _ hy) kb)
      have q0:decide (0<(j:Int))=true:=by simp;omega
      have q00:0<j:=by omega
      have HMm:Hid (zbe (l.take (m+1))=true):=aside (by have:=HM.out (by omega);rwa[←hm]at this)
      have q1:(m:Int)<l.length:=by omega
      have q3:((m:Int)).toNat=m:=by omega
      have hwr:IntKind.i64.wrap ((j:Int) - 1)=(m:Int):=by rw[IntKind.wrap_i64];omega
      have HMJ:=aside hm
      clear HM hj0 hy hm
      cases hlt2:ltS (l[m]'hml).key l[j].key with
      |true=>
       have h1:Op.bytesLess l[j].key.toList (l[m]'hml).key.toList=false:=zaA.asymm hlt2
       have h2:=zby (a:=l[j].key) (b:=(l[m]'hml).key) (fun e=>zaA.ne hlt2 e.symm)
       have HM2:Hid (0<j+1→zbe (l.take (j+1))=true):=aside (fun _=>by
        have hm:=HMJ.out
        subst hm
        rw[HNx.out m rfl HMm.out,HOk2.out,hlt2];rfl)
       clear hlt2
       go_wp2_with (first|(refine(hk0 _).mono ?_;rintro e w' ⟨rfl,rfl⟩))
       go_quiet (fail)
       go_wp2
       go_roundw
       case rel=>exact⟨j+1,by omega,by go_num,HM2,zai kb _⟩
       case measure=>simp[intOf];omega
      |false=>
       have HR:Hid (r=false):=aside (by have hm:=HMJ.out;subst hm;exact HFa.out m rfl hlt2)
       have h12:(Op.bytesLess l[j].key.toList (l[m]'hml).key.toList=true)∨(Op.bytesLess l[j].key.toList (l[m]'hml).key.toList=false∧(l[j].key.toList == (l[m]'hml).key.toList)=true):=by
        cases hl:Op.bytesLess l[j].key.toList (l[m]'hml).key.toList with
        |true=>exact .inl rfl
        |false=>exact .inr ⟨rfl,zbf (zaA.tri _ _ hl hlt2)⟩
       clear hlt2
       rcases h12 with h1|⟨h1,h2⟩
       all_goals
        go_wp2_with (first|(refine(hk0 _).mono ?_;rintro e w' ⟨rfl,rfl⟩))
        go_quiet (fail)
        go_wp2
        go_ret
        exact⟨zae HR.out.symm,zai kb _⟩
  ·have e:j=l.length:=by omega
   have HR:Hid (r=true):=aside (by
    rw[←HR0.out]
    by_cases h0:0<j
    ·have:=HM.out h0
     rwa[e,List.take_length]at this
    ·have:l=[]:=List.eq_nil_of_length_eq_zero (by omega)
     rw[this];rfl)
   clear S HM
   go_wp2
   go_ret
   exact⟨zae HR.out.symm,kb⟩
end Go.Proofs.YtgmdhaepiclkcaaGreatDoor.CtrR
