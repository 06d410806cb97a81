/- What the document's has and May of package pair return | What the document's Event, May and Same of package state return | How a reading gives counts that came in | How a reading gives registers, and one register, that came in | How a reading gives pairs, and one pair, that came in | How a reading gives a state, and an event, that came in | What the laws on states ask of them | What the document's num of package state returns | What the document's put, Inc and Merge of package ctr return | What the document's Inc and Merge of package ctr return | What the laws on counts ask of lists | What the document's Put of package reg returns where it returns nothin -/
import Derived.Test.YtgmdhaepiclkcaaGreatDoorStNJ8
import Derived.Test.YtgmdhaepiclkcaaGreatDoorRowGJ7
import Derived.Test.YtgmdhaepiclkcaaGreatDoorRefEJ9
import Derived.Test.YtgmdhaepiclkcaaGreatDoorCtrSJ4
import Derived.Deep.Fields
import Derived.Test.YtgmdhaepiclkcaaGreatDoorEaAJ3
import Derived.Test.YtgmdhaepiclkcaaGreatDoorCmAJ5
namespace Go.Proofs.YtgmdhaepiclkcaaGreatDoor.PairG
set_option maxHeartbeats 16000000
set_option maxRecDepth 100000
open Go Go.RowKit Byt OpsM OpsK Rise PairM PairN RowS RowB PairW PairR PairS
theorem zpV {x y:Pr} (h:x≠y):zcD x y=false:=by
 cases e:zcD x y with
 |false=>rfl
 |true=>exact absurd (zb7.1 e) h
theorem zeH (A:Option Addr) (cap:Nat) (l:List Pr) (p:Pr) (w:World) (S:SlR E w A cap l):
  Calls Tryz.prog 133 #[.slice A l.length cap,.agg (pc p)] w fun e w'=>e=.returned (.bool (decide (p ∈ l)))∧Below w.heap.size w w':=by
 have Z:Below w.heap.size w (w.alloc (.cells (pc p) 58)):=zah _ _
 have N:Box E (w.alloc (.cells (pc p) 58)) w.heap.size p:=Box.new w p _
 have S0:=S.below Z
 obtain⟨W0,hW0⟩:∃W,w.alloc (.cells (pc p) 58)=W:=⟨_,rfl⟩
 have hcap:=S.1
 have hmax:l.length≤9223372036854775807:=by have:=S.2.1;unfold maxLen at this;omega
 obtain⟨r,hr0⟩:∃r,decide (p ∈ l)=r:=⟨_,rfl⟩
 rw[hr0]
 have HR0:=aside hr0
 clear hr0 S
 go_enter Tryz.func133,Tryz.ntmps133
 go_wp2
 rw[hW0]at Z N S0
 clear hW0
 go_loopw [5] (fun i wr=>∃j:Nat,j≤l.length∧i=.int .i64 j∧Hid (p ∉ l.take j)∧Below W0.heap.size W0 wr) (fun i _=>l.length - (intOf i).toNat)
 case atStart=>exact⟨0,Nat.zero_le _,rfl,aside (by simp),Below.refl _ _⟩
 case round=>
  obtain⟨j,hj,rfl,HG,kb⟩:=hrel
  by_cases hlt:j<l.length
  ·obtain⟨g,off,rfl,hbw,hr⟩:=PairW.plain S0 (by omega)
   obtain⟨x,hx⟩:∃x,l[j]?=some x:=⟨_,List.getElem?_eq_getElem hlt⟩
   obtain⟨c0,c1,c2,c3⟩:=cells (zab (hr j x hx) kb)
   obtain⟨d0,d1,d2,d3⟩:=zam (N.below kb)
   have p0:(j:Int)<l.length:=by omega
   have m0:((j:Int)).toNat=j:=by omega
   have heq:=fun W=>equal W x p
   unfold pc at heq
   have hxm:=List.mem_of_getElem? hx
   have htk:l.take (j+1)=l.take j++[x]:=by
    obtain⟨hj2,rfl⟩:=List.getElem?_eq_some_iff.1 hx
    exact List.take_succ_eq_append_getElem hj2
   by_cases hs:x=p
   ·rw[zb7.2 hs]at heq
    have HR:Hid (r=true):=aside (by rw[←HR0.out,decide_eq_true_eq,←hs];exact hxm)
    clear hr S0 hx hs htk hxm HG
    go_wp2
    go_quiet (fail)
    go_wp2
    go_ret
    exact⟨zae HR.out.symm,zai (Z.trans (kb.mono Z.size)) _⟩
   ·rw[zpV hs]at heq
    have HG2:Hid (p ∉ l.take (j+1)):=aside (by
     rw[htk,List.mem_append,List.mem_singleton]
     rintro(h|h)
     ·exact HG.out h
     ·exact hs h.symm)
    clear hr S0 hx hs htk hxm HG
    go_wp2
    go_quiet (fail)
    go_wp2
    go_roundw
    case rel=>exact⟨j+1,by omega,by go_num,HG2,zai kb _⟩
    case measure=>simp[intOf];omega
  ·have HR:Hid (r=false):=aside (by
    have:=HG.out
    rw[List.take_of_length_le (by omega)]at this
    rw[←HR0.out,decide_eq_false_iff_not]
    exact this)
   clear S0 HG
   go_wp2
   go_ret
   exact⟨zae HR.out.symm,Z.trans (kb.mono Z.size)⟩
theorem one_is (p:Pr):zfy p=(zbQ (zan p.key)&&(zbQ (zan p.elem)&&(decide (0≤p.node)&&(decide (p.node<8)&&decide (1≤p.seq))))):=rfl
structure Place (l:List Pr) (r:Bool) (j:Nat) (x:Pr):Prop where
 bad:zfy x=false→r=false
 first:j=0→zfy x=true→zbA (l.take (j+1))=true
 next:∀y,0<j→l[j - 1]?=some y→zbA (l.take j)=true→zfy x=true→zba y x=true→zbA (l.take (j+1))=true
 fall:∀y,0<j→l[j - 1]?=some y→zba y x=false→r=false
theorem place {l:List Pr} {r:Bool} {j:Nat} {x:Pr} (hr:zbA l=r) (hx:l[j]?=some x):Place l r j x:=by
 obtain⟨hj,rfl⟩:=List.getElem?_eq_some_iff.1 hx
 subst hr
 refine⟨fun h=>zhM hj h,fun h0 h=>?_,fun y h0 hy hm ho hl=>?_,fun y h0 hy hl=>?_⟩
 ·subst h0
  rw[zeC hj]
  exact h
 ·obtain⟨m,rfl⟩:∃m,j=m+1:=⟨j - 1,by omega⟩
  obtain⟨hm2,rfl⟩:=List.getElem?_eq_some_iff.1 hy
  rw[zfG hj hm,ho]
  simpa using hl
 ·obtain⟨m,rfl⟩:∃m,j=m+1:=⟨j - 1,by omega⟩
  obtain⟨hm2,rfl⟩:=List.getElem?_eq_some_iff.1 hy
  exact zfH hj hl
theorem zaz (A:Option Addr) (cap:Nat) (l:List Pr) (w:World) (S:SlR E w A cap l) (hf:Fits l):
  Calls Tryz.prog 85 #[.slice A l.length cap] w fun e w'=>e=.returned (.bool (zbA l))∧Below w.heap.size w w':=by
 have hcap:=S.1
 have hmax:l.length≤9223372036854775807:=by have:=S.2.1;unfold maxLen at this;omega
 obtain⟨r,hr0⟩:∃r,zbA l=r:=⟨_,rfl⟩
 rw[hr0]
 have HR0:=aside hr0
 clear hr0
 go_enter Tryz.func85,Tryz.ntmps85
 go_wp2
 go_loopw [3] (fun i wr=>∃j:Nat,j≤l.length∧i=.int .i64 j∧Hid (0<j→zbA (l.take j)=true)∧Below w.heap.size w wr) (fun i _=>l.length - (intOf i).toNat)
 case atStart=>exact⟨0,Nat.zero_le _,rfl,aside (fun h=>absurd h (by omega)),Below.refl _ _⟩
 case round=>
  obtain⟨j,hj,rfl,HM,kb⟩:=hrel
  by_cases hlt:j<l.length
  ·obtain⟨g,off,rfl,hbw,hr⟩:=PairW.plain S (by omega)
   obtain⟨x,hx⟩:∃x,l[j]?=some x:=⟨_,List.getElem?_eq_getElem hlt⟩
   have hxm:=List.mem_of_getElem? hx
   have hkk:=OpsR.key x.key (hf _ hxm).key
   have hke:=OpsR.key x.elem (hf _ hxm).elem
   have hr1:=zab (hr j _ hx) kb
   have p0:(j:Int)<l.length:=by omega
   have m0:((j:Int)).toNat=j:=by omega
   have HP:=aside (place HR0.out hx)
   have HCr:=aside hr
   have ho:=one_is x
   obtain⟨kk,hkx⟩:∃b,zbQ (zan x.key)=b:=⟨_,rfl⟩
   obtain⟨ke,hex⟩:∃b,zbQ (zan x.elem)=b:=⟨_,rfl⟩
   rw[hkx]at hkk ho
   rw[hex]at hke ho
   clear hkx hex hr hxm hf hx S
   by_cases hbad:kk=false∨(kk=true∧ke=false)∨(kk=true∧ke=true∧x.node<0)∨(kk=true∧ke=true∧0≤x.node∧8≤x.node)∨(kk=true∧ke=true∧0≤x.node∧x.node<8∧x.seq<1)
   ·have HR:Hid (r=false):=aside (HP.out.bad (by
     rw[ho]
     rcases hbad with rfl|⟨rfl,rfl⟩|⟨rfl,rfl,h⟩|⟨rfl,rfl,h,h2⟩|⟨rfl,rfl,h,h2,h3⟩ <;> simp <;> omega))
    clear ho
    rcases hbad with rfl|⟨rfl,rfl⟩|⟨rfl,rfl,h⟩|⟨rfl,rfl,h,h2⟩|⟨rfl,rfl,h,h2,h3⟩
    all_goals
     go_wp2_with (first
      |(refine zal E rfl _ rfl g _ rfl x hr1 ?_)
      |(refine zac E rfl _ _ rfl _ _ _ rfl x _ rfl rfl rfl rfl ?_;intro w2 bx kx gx sx;obtain⟨c0,c1,c2,c3⟩:=zam bx;have k2:=kb.trans (kx.mono kb.size);clear kx gx))
     refine(hkk _).mono ?_
     rintro e w' ⟨rfl,rfl⟩
     go_wp2_with fail
     refine(hke _).mono ?_
     rintro e w' ⟨rfl,rfl⟩
     go_wp2_with (first|go_skip)
     go_ret
     exact⟨zae HR.out.symm,k2⟩
   ·have hok:kk=true∧ke=true∧0≤x.node∧x.node<8∧1≤x.seq:=by
     cases kk <;> cases ke <;> simp at hbad ⊢ <;> omega
    obtain⟨rfl,rfl,n1,n2,n3⟩:=hok
    have HOk:Hid (zfy x=true):=aside (by rw[ho];simp[n1,n2,n3])
    clear ho hbad
    by_cases hj0:j=0
    ·have q0:¬((0:Int)<0):=by omega
     have HM2:Hid (0<j+1→zbA (l.take (j+1))=true):=aside (fun _=>HP.out.first hj0 HOk.out)
     subst hj0
     rw[Nat.zero_mul,Nat.add_zero]at hr1
     go_wp2_with (first
      |(refine zal E rfl _ rfl g _ rfl x hr1 ?_)
      |(refine zac E rfl _ _ rfl _ _ _ rfl x _ rfl rfl rfl rfl ?_;intro w2 bx kx gx sx;obtain⟨c0,c1,c2,c3⟩:=zam bx;have k2:=kb.trans (kx.mono kb.size);clear kx gx))
     refine(hkk _).mono ?_
     rintro e w' ⟨rfl,rfl⟩
     go_wp2_with fail
     refine(hke _).mono ?_
     rintro e w' ⟨rfl,rfl⟩
     go_wp2_with (first|go_skip)
     go_roundw
     case rel=>exact⟨1,by omega,by go_num,HM2,k2⟩
     case measure=>simp[intOf];omega
    ·obtain⟨m,hm⟩:∃m,m+1=j:=⟨j - 1,by omega⟩
     obtain⟨y,hy⟩:∃y,l[m]?=some y:=⟨_,List.getElem?_eq_getElem (by omega)⟩
     have HY:=aside (zab (HCr.out m y hy) kb)
     have hy2:l[j - 1]?=some y:=by rw[←hm];exact hy
     have q0:0<(j:Int):=by omega
     have q1:(m:Int)<l.length:=by omega
     have q3:((m:Int)).toNat=m:=by omega
     have hwr:IntKind.i64.wrap ((j:Int) - 1)=(m:Int):=by rw[IntKind.wrap_i64];omega
     have cn:=fun W=>zbv y x W
     have HB:Hid (0<j):=aside (by omega)
     have HMm:=aside (HM.out HB.out)
     have HN:=aside (HP.out.next y HB.out hy2 HMm.out HOk.out)
     have HF:=aside (HP.out.fall y HB.out hy2)
     clear HM HP HOk hj0 hy hy2 hm HCr
     obtain⟨z,hz⟩:∃z,zba y x=z:=⟨_,rfl⟩
     rw[hz]at cn
     have HZ:=aside hz
     clear hz
     cases z with
     |true=>
      have HM2:Hid (0<j+1→zbA (l.take (j+1))=true):=aside (fun _=>HN.out HZ.out)
      go_wp2_with (first
       |(refine zal E rfl _ rfl g _ rfl x hr1 ?_)
       |(refine zac E rfl _ _ rfl _ _ _ rfl x _ rfl rfl rfl rfl ?_;intro w2 bx kx gx sx;obtain⟨c0,c1,c2,c3⟩:=zam bx;have ry:=zab HY.out kx;have k2:=kb.trans (kx.mono kb.size);clear kx gx))
      refine(hkk _).mono ?_
      rintro e w' ⟨rfl,rfl⟩
      go_wp2_with fail
      refine(hke _).mono ?_
      rintro e w' ⟨rfl,rfl⟩
      go_wp2_with (first|go_skip)
      refine Grow.region [(0,true),(1,true),(2,true),(3,true),(4,true),(5,true),(6,false),(7,true)] (by kernel_rfl) (by kernel_rfl) rfl (by kernel_rfl) (by intro c a d v w h;cases d <;> exact h) ?_
      have kd:=zaf k2
      have rx:w2.drew.rangeAt _ _ (E.enc x):=bx.range
      change w2.drew.rangeAt _ _ (E.enc y)at ry
      generalize w2.drew=wd at kd rx ry ⊢
      clear c0 c1 c2 c3 bx k2
      repeat (first|(refine RowG.zaJ E rfl rfl _ rfl _ _ rfl y ry ?_;simp only[Act.put,List.setIfInBounds_toArray,List.set_cons_succ,List.set_cons_zero])|(refine RowG.zaJ E rfl rfl _ rfl _ _ rfl x rx ?_;simp only[Act.put,List.setIfInBounds_toArray,List.set_cons_succ,List.set_cons_zero])|(refine Grow.reads rfl rfl ?_;go_big_quiet_step (fail);refine wpQuiet_nil ?_))
      refine Grow.acts rfl ?_
      go_wp2_with fail
      refine(cn _).mono ?_
      rintro e we ⟨rfl,he⟩
      have ke:=kd.trans (he.mono kd.size)
      clear rx ry kd
      go_wp2_with fail
      refine⟨he,?_⟩
      clear he
      repeat (first|(refine Grow.reads rfl rfl ?_;go_big_quiet_step (fail);refine wpQuiet_nil ?_))
      refine Grow.ends ?_
      go_wp2_with fail
      go_roundw
      case rel=>exact⟨j+1,by omega,by go_num,HM2,ke⟩
      case measure=>simp[intOf];omega
     |false=>
      have HR:Hid (r=false):=aside (HF.out HZ.out)
      go_wp2_with (first
       |(refine zal E rfl _ rfl g _ rfl x hr1 ?_)
       |(refine zac E rfl _ _ rfl _ _ _ rfl x _ rfl rfl rfl rfl ?_;intro w2 bx kx gx sx;obtain⟨c0,c1,c2,c3⟩:=zam bx;have ry:=zab HY.out kx;have k2:=kb.trans (kx.mono kb.size);clear kx gx))
      refine(hkk _).mono ?_
      rintro e w' ⟨rfl,rfl⟩
      go_wp2_with fail
      refine(hke _).mono ?_
      rintro e w' ⟨rfl,rfl⟩
      go_wp2_with (first|go_skip)
      refine Grow.region [(0,true),(1,true),(2,true),(3,true),(4,true),(5,true),(6,false),(7,true)] (by kernel_rfl) (by kernel_rfl) rfl (by kernel_rfl) (by intro c a d v w h;cases d <;> exact h) ?_
      have kd:=zaf k2
      have rx:w2.drew.rangeAt _ _ (E.enc x):=bx.range
      change w2.drew.rangeAt _ _ (E.enc y)at ry
      generalize w2.drew=wd at kd rx ry ⊢
      clear c0 c1 c2 c3 bx k2
      repeat (first|(refine RowG.zaJ E rfl rfl _ rfl _ _ rfl y ry ?_;simp only[Act.put,List.setIfInBounds_toArray,List.set_cons_succ,List.set_cons_zero])|(refine RowG.zaJ E rfl rfl _ rfl _ _ rfl x rx ?_;simp only[Act.put,List.setIfInBounds_toArray,List.set_cons_succ,List.set_cons_zero])|(refine Grow.reads rfl rfl ?_;go_big_quiet_step (fail);refine wpQuiet_nil ?_))
      refine Grow.acts rfl ?_
      go_wp2_with fail
      refine(cn _).mono ?_
      rintro e we ⟨rfl,he⟩
      have ke:=kd.trans (he.mono kd.size)
      clear rx ry kd
      go_wp2_with fail
      refine⟨he,?_⟩
      clear he
      repeat (first|(refine Grow.reads rfl rfl ?_;go_big_quiet_step (fail);refine wpQuiet_nil ?_))
      refine Grow.ends ?_
      go_wp2_with fail
      go_ret
      exact⟨zae HR.out.symm,ke⟩
  ·have e:j=l.length:=by omega
   have HR:Hid (r=true):=aside (by
    rw[←HR0.out]
    by_cases h0:0<j
    ·have:=HM.out h0
     rwa[e,List.take_length]at this
    ·have:l=[]:=List.eq_nil_of_length_eq_zero (by omega)
     rw[this];rfl)
   clear S HM
   go_wp2
   go_ret
   exact⟨zae HR.out.symm,kb⟩
end Go.Proofs.YtgmdhaepiclkcaaGreatDoor.PairG
namespace Go.Proofs.YtgmdhaepiclkcaaGreatDoor.StR
set_option maxHeartbeats 4000000
set_option maxRecDepth 100000
open Go Go.RowKit Byt OpsM Rise RowS StM StW
def zmy (a b:St):Bool:=CtrS.zaU a.c b.c&&(RegS.zaU a.r b.r&&PairS.zaU a.p b.p)
theorem znH {a b:St}:zmy a b=true↔a=b:=by
 unfold zmy
 rw[Bool.and_eq_true,Bool.and_eq_true,CtrS.zbp,RegS.zbp,PairS.zbp]
 exact⟨fun h=>St_ext h.1 h.2.1 h.2.2,fun h=>by rw[h];exact⟨rfl,rfl,rfl⟩⟩
theorem zdj (u v:Sv) (w:World) (S:In w u) (T:In w v):Calls Tryz.prog 16 #[.agg (sc u),.agg (sc v)] w fun e w'=>e=.returned (.bool (zmy u.s v.s))∧Below w.heap.size w w':=by
 have R:Cel.Box SE ((w.alloc (.cells (sc u) 30)).alloc (.cells (sc v) 30)) w.heap.size u:=(Cel.Box.new (E:=SE) w u 30).alloc _
 have Q:Cel.Box SE ((w.alloc (.cells (sc u) 30)).alloc (.cells (sc v) 30)) (w.heap.size+1) v:=by
  have z:(w.alloc (.cells (sc u) 30)).heap.size=w.heap.size+1:=by simp
  rw[←z]
  exact Cel.Box.new _ v _
 have kb:Below w.heap.size w ((w.alloc (.cells (sc u) 30)).alloc (.cells (sc v) 30)):=((Below.refl _ _).alloc (Nat.le_refl _) _).alloc (by simp) _
 have S0:=S.below kb
 have T0:=T.below kb
 obtain⟨c0,_,_⟩:=zam R
 obtain⟨d0,_,_⟩:=zam Q
 have q0:=fun W S T=>CtrS.zdj u.a0 u.k0 u.s.c v.a0 v.k0 v.s.c W S T
 have q1:=fun W S T=>RegS.zdj u.a1 u.k1 u.s.r v.a1 v.k1 v.s.r W S T
 have q2:=fun W S T=>PairS.zdj u.a2 u.k2 u.s.p v.a2 v.k2 v.s.p W S T
 obtain⟨x,hx⟩:∃x,CtrS.zaU u.s.c v.s.c=x:=⟨_,rfl⟩
 obtain⟨y,hy⟩:∃y,RegS.zaU u.s.r v.s.r=y:=⟨_,rfl⟩
 obtain⟨z,hz⟩:∃z,PairS.zaU u.s.p v.s.p=z:=⟨_,rfl⟩
 have HR:Hid (zmy u.s v.s=(x&&(y&&z))):=aside (by unfold zmy;rw[hx,hy,hz])
 rw[hx]at q0
 rw[hy]at q1
 rw[hz]at q2
 clear S T hx hy hz
 go_enter Tryz.func16,Tryz.ntmps16
 go_wp2_with fail
 refine(q0 _ S0.c T0.c).mono ?_
 rintro e w1 ⟨rfl,k1⟩
 have R1:=R.below k1
 have Q1:=Q.below k1
 have S1:=S0.below k1
 have T1:=T0.below k1
 have b1:=kb.trans (k1.mono kb.size)
 clear q0 c0 d0 R Q S0 T0 k1 kb
 obtain⟨_,c1,_⟩:=zam R1
 obtain⟨_,d1,_⟩:=zam Q1
 go_wp2_with fail
 refine(q1 _ S1.r T1.r).mono ?_
 rintro e w2 ⟨rfl,k2⟩
 have R2:=R1.below k2
 have Q2:=Q1.below k2
 have S2:=S1.below k2
 have T2:=T1.below k2
 have b2:=b1.trans (k2.mono b1.size)
 clear q1 c1 d1 R1 Q1 S1 T1 k2 b1
 obtain⟨_,_,c2⟩:=zam R2
 obtain⟨_,_,d2⟩:=zam Q2
 go_wp2_with fail
 refine(q2 _ S2.p T2.p).mono ?_
 rintro e w3 ⟨rfl,k3⟩
 have b3:=b2.trans (k3.mono b2.size)
 clear q2 c2 d2 R2 Q2 S2 T2 k3 b2
 cases x with
 |false=>
  go_wp2_with (first|go_skip)
  go_ret
  exact⟨StW.zae HR.out.symm,b3⟩
 |true=>
  cases y with
  |false=>
   go_wp2_with (first|go_skip)
   go_ret
   exact⟨StW.zae HR.out.symm,b3⟩
  |true=>
   go_wp2_with (first|go_skip)
   go_ret
   exact⟨StW.zae HR.out.symm,b3⟩
end Go.Proofs.YtgmdhaepiclkcaaGreatDoor.StR
namespace Go.Proofs.YtgmdhaepiclkcaaGreatDoor.OpenC
set_option maxRecDepth 100000
open Go Go.Deep Go.ChangeShapes Go.WideShapes Go.ChangeAt Go.RowKit Byt CtrM RowS CtrW
end Go.Proofs.YtgmdhaepiclkcaaGreatDoor.OpenC
namespace Go.Proofs.YtgmdhaepiclkcaaGreatDoor.OpenG
set_option maxRecDepth 100000
open Go Go.Deep Go.ChangeShapes Go.WideShapes Go.ChangeAt Go.RowKit Byt RegM RowS RegW
section
variable {H:Type} {enc:TypeId×Value→H} {W:World} {sp:Nat→Bool} {hd:Bool}
end
end Go.Proofs.YtgmdhaepiclkcaaGreatDoor.OpenG
namespace Go.Proofs.YtgmdhaepiclkcaaGreatDoor.OpenP
set_option maxRecDepth 100000
open Go Go.Deep Go.ChangeShapes Go.WideShapes Go.ChangeAt Go.RowKit Byt PairM RowS PairW
structure Good (c:Pr):Prop where
 key:c.key.size≤maxLen
 elem:c.elem.size≤maxLen
 node:In64 c.node
 seq:In64 c.seq
theorem zhV {n:Int} (h:(Lit.int .i64 n).wf=true):In64 n:=by
 unfold In64
 simpa[Lit.wf,IntKind.min,IntKind.max,IntKind.bits,IntKind.signed]using h
section
variable {H:Type} {enc:TypeId×Value→H} {W:World} {sp:Nat→Bool} {hd:Bool}
end
end Go.Proofs.YtgmdhaepiclkcaaGreatDoor.OpenP
namespace Go.Proofs.YtgmdhaepiclkcaaGreatDoor.OpenS
set_option maxRecDepth 100000
open Go Go.Deep Go.ChangeShapes Go.WideShapes Go.ChangeAt Go.RowKit Byt RowS StM StW
section
variable {H:Type} {enc:TypeId×Value→H} {W:World} {α:Type}
end
end Go.Proofs.YtgmdhaepiclkcaaGreatDoor.OpenS
namespace Go.Proofs.YtgmdhaepiclkcaaGreatDoor.StX
set_option maxRecDepth 100000
open Go Go.RowKit Byt Rise RowS StM StN StW
end Go.Proofs.YtgmdhaepiclkcaaGreatDoor.StX
namespace Go.Proofs.YtgmdhaepiclkcaaGreatDoor.StQ
set_option maxRecDepth 100000
open Go Go.RowKit Byt EncM EncC Rise RowS StM StN StW
end Go.Proofs.YtgmdhaepiclkcaaGreatDoor.StQ
namespace Go.Proofs.YtgmdhaepiclkcaaGreatDoor.CtrP
set_option maxHeartbeats 8000000
set_option maxRecDepth 100000
open Go Go.RowKit Byt OpsM OpsK Rise CtrM RowS CtrW CtrR
theorem zp2 (k:ByteArray) (n:Int) (d:Bool) (x:Cn) (r:List Cn):zef k n d (x::r)=(if d=false∧ltS x.key k=false then CtrM.one k n else[])++(if x.key=k then[]else[x])++zef k n (d|| !ltS x.key k) r:=rfl
theorem zbY {a b:ByteArray} (h:a=b):(a.toList != b.toList)=false:=by rw[bne,zbf h];rfl
theorem zdr {a b:ByteArray} (h:a≠b):(a.toList != b.toList)=true:=by rw[bne,zby h];rfl
theorem zkM {k:ByteArray} {n:Int} (h:n≠0):CtrM.one k n=[⟨k,n⟩]:=by unfold CtrM.one;rw[if_pos h]
theorem one_no {k:ByteArray} {n:Int} (h:n=0):CtrM.one k n=[]:=by unfold CtrM.one;rw[if_neg (by simp[h])]
theorem zdC {w wr w1:World} {g o n:Nat} {v:Value} {cs:List Value} {xs:List Value} {x:Obj} {T:TypeId} {k:Nat} (hg:g<w.heap.size) (h:wr.rangeAt g o cs) (HO:wr.ownsRow w.heap.size T k v n xs) (g1:(wr.alloc x).grownBy w1 v.ownBlock):w1.rangeAt g o cs:=fun j u hu=>by
 have hc:=h j u hu
 have hlt:=block_lt_of_cell hc
 have hc2:(wr.alloc x).cell? ⟨g,o+j,none⟩=some u:=(((Below.refl _ wr).alloc (Nat.le_refl _) x).cell hlt).trans hc
 rw[World.cell?_of_block (g1.block g (by simp at hlt ⊢;omega) (fun e=>by have:=(HO.lt g e.symm).1;omega))]
 exact hc2
theorem zcE (A:Option Addr) (cap:Nat) (l:List Cn) (k:ByteArray) (n:Int) (w:World) (S:SlR E w A cap l) (hl:l.length≤1000000):
  Calls Tryz.prog 80 #[.slice A l.length cap,.string k,.int .i64 n] w (NewR E (zef k n false l) w):=by
 have hcap:=S.1
 obtain⟨R,hR⟩:∃R,zef k n false l=R:=⟨_,rfl⟩
 rw[hR]
 have HR:=aside hR
 clear hR
 go_enter Tryz.func80,Tryz.ntmps80
 go_wp2
 go_loopw [7,8,9] (fun v d i wr=>∃(j:Nat) (b:Bool) (pre:List Cn),j≤l.length∧i=.int .i64 j∧d=.bool b∧pre.length≤2 * j∧Hid (R=pre++zef k n b (l.drop j))∧Hid (wr.ownsRow w.heap.size E.T E.k v pre.length (flat E pre))∧Below w.heap.size w wr) (fun _ _ i _=>l.length - (intOf i).toNat)
 case atStart=>exact⟨0,false,[],Nat.zero_le _,rfl,rfl,Nat.zero_le _,HR.out.symm,World.ownsRow_nil _ _ _ _,Below.refl _ _⟩
 case round=>
  obtain⟨j,b,pre,hj,rfl,rfl,hpl,HP,HO,kb⟩:=hrel
  have hsz:=kb.size
  by_cases hlt:j<l.length
  ·obtain⟨g,off,rfl,hbw,hr⟩:=CtrW.plain S (by omega)
   obtain⟨x,hx⟩:∃x,l[j]?=some x:=⟨_,List.getElem?_eq_getElem hlt⟩
   have hrx:=zab (hr j x hx) kb
   obtain⟨c0,c1⟩:=cells hrx
   have p0:(j:Int)<l.length:=by omega
   have m0:((j:Int)).toNat=j:=by omega
   have hP:=HP.out
   rw[getD_drop hx,zp2]at hP
   have HX:=aside hrx
   clear hr S hx HP hrx
   by_cases hk:x.key=k
   ·cases b with
    |true=>
     have e0:=zbf hk
     have e1:=zbY hk
     have HP2:Hid (R=(pre)++zef k n true (l.drop (j+1))):=aside (by
      rw[hP]
      rw[if_neg (by simp)]
      rw[if_pos hk]
      simp)
     clear hP hk
     go_wp2
     go_roundw
     case rel=>exact⟨j+1,true,pre,by omega,by go_num,rfl,by omega,HP2,HO,kb⟩
     case measure=>simp[intOf];omega
    |false=>
     cases hlt2:ltS x.key k with
     |true=>exact absurd hk (zaA.ne hlt2)
     |false=>
      by_cases hn:n=0
      ·skip
       have e0:=zbf hk
       have e1:=zbY hk
       have HP2:Hid (R=(pre)++zef k n true (l.drop (j+1))):=aside (by
        rw[hP]
        rw[if_pos ⟨rfl,hlt2⟩,one_no hn]
        rw[if_pos hk]
        simp[hlt2])
       have h2:Op.bytesLess x.key.toList k.toList=false:=hlt2
       have t0:(n != 0)=false:=by simpa using hn
       clear hP hlt2 hn hk
       go_wp2
       go_roundw
       case rel=>exact⟨j+1,true,pre,by omega,by go_num,rfl,by omega,HP2,HO,kb⟩
       case measure=>simp[intOf];omega
      ·skip
       have e0:=zbf hk
       have e1:=zbY hk
       have HP2:Hid (R=(pre++[(⟨k,n⟩:Cn)])++zef k n true (l.drop (j+1))):=aside (by
        rw[hP]
        rw[if_pos ⟨rfl,hlt2⟩,zkM hn]
        rw[if_pos hk]
        simp[hlt2])
       have h2:Op.bytesLess x.key.toList k.toList=false:=hlt2
       have t0:(n != 0)=true:=by simpa using hn
       clear hP hlt2 hn hk
       go_wp2_with (first|(refine zaH E rfl (.tmp 29) (.tmp 33) rfl w.heap.size _ _ pre rfl (HO.out.alloc _) _ 1 1 [⟨k,n⟩] rfl rfl (SlR.zil E wr ⟨k,n⟩ _) (by omega) (by simp;omega) ?_;intro v2 w2 zfw g1;have k2:Below w.heap.size w w2:=below_grown (kb.alloc hsz _) (by simp;omega) g1 (fun q hq=>(HO.out.lt q hq).1);have O2:=aside zfw;have HX1:=aside (zdC hbw HX.out HO.out g1);have cc:=cells HX1.out;have c0':=cc.1;have c1':=cc.2;clear zfw g1 cc))
       go_roundw
       case rel=>exact⟨j+1,true,pre++[(⟨k,n⟩:Cn)],by omega,by go_num,rfl,by simp;omega,HP2,aside (by have:=O2.out;simpa using this),k2⟩
       case measure=>simp[intOf];omega
   ·cases b with
    |true=>
     have e0:=zby hk
     have e1:=zdr hk
     have HP2:Hid (R=(pre++[x])++zef k n true (l.drop (j+1))):=aside (by
      rw[hP]
      rw[if_neg (by simp)]
      rw[if_neg hk]
      simp)
     clear hP hk
     go_wp2_with (first|(refine zaH E rfl (.tmp 42) (.tmp 47) rfl w.heap.size _ _ pre rfl (HO.out.alloc _) _ 1 1 [x] rfl rfl (SlR.zil E wr x _) (by omega) (by simp;omega) ?_;intro v2 w2 zdg g2;have k2:Below w.heap.size w w2:=below_grown (kb.alloc hsz _) (by simp;omega) g2 (fun q hq=>(HO.out.lt q hq).1);have O2:=aside zdg;clear zdg g2))
     go_roundw
     case rel=>exact⟨j+1,true,pre++[x],by omega,by go_num,rfl,by simp;omega,HP2,aside (by have:=O2.out;simpa using this),k2⟩
     case measure=>simp[intOf];omega
    |false=>
     cases hlt2:ltS x.key k with
     |true=>
      have e0:=zby hk
      have e1:=zdr hk
      have HP2:Hid (R=(pre++[x])++zef k n false (l.drop (j+1))):=aside (by
       rw[hP]
       rw[if_neg (by rw[hlt2];simp)]
       rw[if_neg hk]
       simp[hlt2])
      have h2:Op.bytesLess x.key.toList k.toList=true:=hlt2
      clear hP hlt2 hk
      go_wp2_with (first|(refine zaH E rfl (.tmp 42) (.tmp 47) rfl w.heap.size _ _ pre rfl (HO.out.alloc _) _ 1 1 [x] rfl rfl (SlR.zil E wr x _) (by omega) (by simp;omega) ?_;intro v2 w2 zdg g2;have k2:Below w.heap.size w w2:=below_grown (kb.alloc hsz _) (by simp;omega) g2 (fun q hq=>(HO.out.lt q hq).1);have O2:=aside zdg;clear zdg g2))
      go_roundw
      case rel=>exact⟨j+1,false,pre++[x],by omega,by go_num,rfl,by simp;omega,HP2,aside (by have:=O2.out;simpa using this),k2⟩
      case measure=>simp[intOf];omega
     |false=>
      by_cases hn:n=0
      ·skip
       have e0:=zby hk
       have e1:=zdr hk
       have HP2:Hid (R=(pre++[x])++zef k n true (l.drop (j+1))):=aside (by
        rw[hP]
        rw[if_pos ⟨rfl,hlt2⟩,one_no hn]
        rw[if_neg hk]
        simp[hlt2])
       have h2:Op.bytesLess x.key.toList k.toList=false:=hlt2
       have t0:(n != 0)=false:=by simpa using hn
       clear hP hlt2 hn hk
       go_wp2_with (first|(refine zaH E rfl (.tmp 42) (.tmp 47) rfl w.heap.size _ _ pre rfl (HO.out.alloc _) _ 1 1 [x] rfl rfl (SlR.zil E wr x _) (by omega) (by simp;omega) ?_;intro v2 w2 zdg g2;have k2:Below w.heap.size w w2:=below_grown (kb.alloc hsz _) (by simp;omega) g2 (fun q hq=>(HO.out.lt q hq).1);have O2:=aside zdg;clear zdg g2))
       go_roundw
       case rel=>exact⟨j+1,true,pre++[x],by omega,by go_num,rfl,by simp;omega,HP2,aside (by have:=O2.out;simpa using this),k2⟩
       case measure=>simp[intOf];omega
      ·skip
       have e0:=zby hk
       have e1:=zdr hk
       have HP2:Hid (R=(pre++[(⟨k,n⟩:Cn)]++[x])++zef k n true (l.drop (j+1))):=aside (by
        rw[hP]
        rw[if_pos ⟨rfl,hlt2⟩,zkM hn]
        rw[if_neg hk]
        simp[hlt2])
       have h2:Op.bytesLess x.key.toList k.toList=false:=hlt2
       have t0:(n != 0)=true:=by simpa using hn
       clear hP hlt2 hn hk
       go_wp2_with (first|(refine zaH E rfl (.tmp 29) (.tmp 33) rfl w.heap.size _ _ pre rfl (HO.out.alloc _) _ 1 1 [⟨k,n⟩] rfl rfl (SlR.zil E wr ⟨k,n⟩ _) (by omega) (by simp;omega) ?_;intro v1 w1 zfw g1;have k1:Below w.heap.size w w1:=below_grown (kb.alloc hsz _) (by simp;omega) g1 (fun q hq=>(HO.out.lt q hq).1);have O1:=aside zfw;have HX1:=aside (zdC hbw HX.out HO.out g1);have cc:=cells HX1.out;have c0':=cc.1;have c1':=cc.2;have s1:=k1.size;clear zfw g1 cc)|(refine zaH E rfl (.tmp 42) (.tmp 47) rfl w.heap.size _ _ (pre++[⟨k,n⟩]) rfl (O1.out.alloc _) _ 1 1 [x] rfl rfl (SlR.zil E w1 x _) (by omega) (by simp;omega) ?_;intro v2 w2 zdg g2;have k2:Below w.heap.size w w2:=below_grown (k1.alloc s1 _) (by simp;omega) g2 (fun q hq=>(O1.out.lt q hq).1);have O2:=aside zdg;clear zdg g2))
       go_roundw
       case rel=>exact⟨j+1,true,pre++[(⟨k,n⟩:Cn)]++[x],by omega,by go_num,rfl,by simp;omega,HP2,aside (by have:=O2.out;simpa using this),k2⟩
       case measure=>simp[intOf];omega
  ·have hP:=HP.out
   rw[List.drop_of_length_le (by omega)]at hP
   clear HP S
   cases b with
   |true=>
    have HP2:Hid (R=pre):=aside (by rw[hP];simp[zef])
    clear hP
    go_wp2
    go_ret
    exact⟨_,rfl,by rw[HP2.out];exact HO.out,kb⟩
   |false=>
    by_cases hn:n=0
    ·subst hn
     have t0:((0:Int) != 0)=false:=by simp
     have HP2:Hid (R=pre):=aside (by rw[hP];simp[zef,CtrM.one])
     clear hP
     go_wp2
     go_ret
     exact⟨_,rfl,by rw[HP2.out];exact HO.out,kb⟩
    ·have t0:(n != 0)=true:=by simpa using hn
     have HP2:Hid (R=pre++[⟨k,n⟩]):=aside (by rw[hP];simp[zef,zkM hn])
     clear hP hn
     go_wp2_with (first|(refine zaH E rfl (.tmp 55) (.tmp 59) rfl w.heap.size _ _ pre rfl (HO.out.alloc _) _ 1 1 [⟨k,n⟩] rfl rfl (SlR.zil E wr ⟨k,n⟩ _) (by omega) (by simp;omega) ?_;intro v2 w2 zdg g2;have k2:Below w.heap.size w w2:=below_grown (kb.alloc hsz _) (by simp;omega) g2 (fun q hq=>(HO.out.lt q hq).1);have O2:=aside zdg;clear zdg g2))
     go_ret
     exact⟨_,rfl,by rw[HP2.out];have:=O2.out;simpa using this,k2⟩
end Go.Proofs.YtgmdhaepiclkcaaGreatDoor.CtrP
namespace Go.Proofs.YtgmdhaepiclkcaaGreatDoor.CtrQ
set_option maxHeartbeats 4000000
set_option maxRecDepth 100000
open Go Go.RowKit Byt OpsM OpsK Rise CtrM RowS CtrW CtrR CtrP
theorem zk0 (A:Option Addr) (cap:Nat) (l:List Cn) (k:ByteArray) (n:Int) (w:World) (S:SlR E w A cap l) (hf:Fits l) (hl:l.length≤1000000) (hk:k.size≤1099511627776):
  Calls Tryz.prog 38 #[.slice A l.length cap,.string k,.int .i64 n] w (zie E (zf3 l k n) w):=by
 have cm:=zaz A cap l w S hf
 have ck:=OpsR.key k hk
 have cg:=fun W S=>zoA A cap l k W S
 have cp:=fun W S=>zcE A cap l k (w64 (zbC l k+n)) W S hl
 have hinc:zf3 l k n=if zbe l=true∧zbQ (zan k)=true then zef k (w64 (zbC l k+n)) false l else[]:=rfl
 obtain⟨R,hR⟩:∃R,zf3 l k n=R:=⟨_,rfl⟩
 rw[hR]at hinc ⊢
 obtain⟨g,hg⟩:∃g,zbC l k=g:=⟨_,rfl⟩
 rw[hg]at cg cp hinc
 obtain⟨m,hm⟩:∃m,w64 (g+n)=m:=⟨_,rfl⟩
 rw[hm]at cp hinc
 have hw:IntKind.i64.wrap (g+n)=m:=hm
 obtain⟨P,hP⟩:∃P,zef k m false l=P:=⟨_,rfl⟩
 rw[hP]at cp hinc
 obtain⟨bm,hbm⟩:∃b,zbe l=b:=⟨_,rfl⟩
 obtain⟨bk,hbk⟩:∃b,zbQ (zan k)=b:=⟨_,rfl⟩
 rw[hbm]at cm hinc
 rw[hbk]at ck hinc
 have HI:=aside hinc
 clear hR hg hm hP hbm hbk hinc hf
 cases bm with
 |false=>
  have HR:Hid (R=[]):=aside (by rw[HI.out,if_neg (by simp)])
  go_enter Tryz.func38,Tryz.ntmps38
  go_wp2_with fail
  refine cm.mono ?_
  rintro e w1 ⟨rfl,h1⟩
  go_wp2_with fail
  refine(ck _).mono ?_
  rintro e w' ⟨rfl,rfl⟩
  go_wp2_with fail
  go_ret
  rw[HR.out]
  exact⟨none,0,rfl,SlR.nil E _,h1⟩
 |true=>
  cases bk with
  |false=>
   have HR:Hid (R=[]):=aside (by rw[HI.out,if_neg (by simp)])
   go_enter Tryz.func38,Tryz.ntmps38
   go_wp2_with fail
   refine cm.mono ?_
   rintro e w1 ⟨rfl,h1⟩
   go_wp2_with fail
   refine(ck _).mono ?_
   rintro e w' ⟨rfl,rfl⟩
   go_wp2_with fail
   go_ret
   rw[HR.out]
   exact⟨none,0,rfl,SlR.nil E _,h1⟩
  |true=>
   have HR:Hid (R=P):=aside (by rw[HI.out,if_pos ⟨rfl,rfl⟩])
   go_enter Tryz.func38,Tryz.ntmps38
   go_wp2_with fail
   refine cm.mono ?_
   rintro e w1 ⟨rfl,h1⟩
   have S1:=S.below h1
   go_wp2_with fail
   refine(ck _).mono ?_
   rintro e w' ⟨rfl,rfl⟩
   go_wp2_with fail
   refine(cg _ S1).mono ?_
   rintro e w' ⟨rfl,rfl⟩
   go_wp2_with fail
   refine(cp _ S1).mono ?_
   rintro e w2 h2
   obtain⟨A2,c2,rfl,S2,h2⟩:=NewR.s h2
   have k2:=h1.trans (h2.mono h1.size)
   clear cp cg cm ck h1 h2 S S1 hw
   go_wp2_with fail
   go_ret
   rw[HR.out]
   exact⟨A2,c2,rfl,S2,k2⟩
end Go.Proofs.YtgmdhaepiclkcaaGreatDoor.CtrQ
namespace Go.Proofs.YtgmdhaepiclkcaaGreatDoor.CtrX
set_option maxRecDepth 100000
open Go Go.RowKit Byt OpsM Rise CtrM RowS CtrW CtrS CtrL OpenC
theorem zlO {l:List Cn} (h:zbe l=true) (hg:InL l):Fits l:=by
 intro c hc
 have h1:=zbT (zjj h c hc)
 have h2:=hg c hc
 have h3:=zaT c.key
 unfold In64 at h2
 exact⟨by omega,h2.1,h2.2⟩
theorem zi9:Fits []:=fun c hc=>by simp at hc
theorem inc_fits {l:List Cn} (k:ByteArray) (n:Int) (hg:InL l):Fits (zf3 l k n):=by
 cases hm:zbe l with
 |false=>rw[zl3 n (.inl hm)];exact zi9
 |true=>
  cases hk:zbQ (zan k)with
  |false=>rw[zl3 n (.inr hk)];exact zi9
  |true=>exact zlO (zjq n hm hk) (inc_in k n hg)
theorem zn2 {base a b:List Cn}:(zbe base=true∧zbe a=true∧zbe b=true)∨zcj base a b=[]:=by
 by_cases h:zbe base=true∧zbe a=true∧zbe b=true
 ·exact .inl h
 ·exact .inr (by unfold zcj;rw[if_neg h])
theorem zdI (base a b:List Cn):Fits (zcj base a b):=by
 rcases zn2 (base:=base) (a:=a) (b:=b)with⟨h0,h1,h2⟩|h
 ·exact zlO (za3 h0 h1 h2) (zfD h0 h1 h2)
 ·rw[h];exact zi9
end Go.Proofs.YtgmdhaepiclkcaaGreatDoor.CtrX
namespace Go.Proofs.YtgmdhaepiclkcaaGreatDoor.RegP
set_option maxHeartbeats 8000000
set_option maxRecDepth 100000
open Go Go.RowKit Byt OpsM OpsK Rise RegM RegL RowS RegW RegR RegG
theorem zlB (A:Option Addr) (cap:Nat) (l:List Rg) (c:Rg) (w:World) (S:SlR E w A cap l) (hf:Fits l) (hc:Fit c) (hno:zbd l=false∨zeg c=false):
  Calls Tryz.prog 39 #[.slice A l.length cap,.agg (rc c)] w (zie E [] w):=by
 have Z:Below w.heap.size w (w.alloc (.cells (rc c) 62)):=zah _ _
 have N:zeN (w.alloc (.cells (rc c) 62)) w.heap.size c:=zeN.new w c _
 have S0:=S.below Z
 have cm:=fun W S=>zaz A cap l W S hf
 have co:=fun W=>zhE c W hc
 obtain⟨bm,hbm⟩:∃b,zbd l=b:=⟨_,rfl⟩
 obtain⟨bo,hbo⟩:∃b,zeg c=b:=⟨_,rfl⟩
 rw[hbm]at cm hno
 rw[hbo]at co hno
 clear hbm hbo hf hc S
 have hsz:=Z.size
 cases bm with
 |false=>
  clear hno
  go_enter Tryz.func39,Tryz.ntmps39
  go_wp2_with fail
  refine(cm _ S0).mono ?_
  rintro e w1 ⟨rfl,h1⟩
  have N1:=N.below h1
  have k1:=Z.trans (h1.mono hsz)
  go_wp2_with (first|(refine zas rfl _ rfl _ _ rfl c N1.range ?_))
  refine(co _).mono ?_
  rintro e w2 ⟨rfl,h2⟩
  have k2:=k1.trans (h2.mono k1.size)
  go_wp2_with fail
  go_ret
  exact⟨none,0,rfl,SlR.nil E _,k2⟩
 |true=>
  obtain rfl:bo=false:=hno.resolve_left (by simp)
  clear hno
  go_enter Tryz.func39,Tryz.ntmps39
  go_wp2_with fail
  refine(cm _ S0).mono ?_
  rintro e w1 ⟨rfl,h1⟩
  have N1:=N.below h1
  have k1:=Z.trans (h1.mono hsz)
  go_wp2_with (first|(refine zas rfl _ rfl _ _ rfl c N1.range ?_))
  refine(co _).mono ?_
  rintro e w2 ⟨rfl,h2⟩
  have k2:=k1.trans (h2.mono k1.size)
  go_wp2_with fail
  go_ret
  exact⟨none,0,rfl,SlR.nil E _,k2⟩
end Go.Proofs.YtgmdhaepiclkcaaGreatDoor.RegP
