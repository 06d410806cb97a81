/- Worlds that come of draws and new blocks alone | What the project's Less and order of package pair return | What alone, May, bare and stays of the project's package pair return | What the project's May of package pair returns | Pairs as keys of a map of numbers -/
import Derived.Test.YtgmdhaepiclkcaaGreatDoorShaDJ13
import Derived.Shelf.GgSortFunc.InsertionK
import Derived.Test.YtgmdhaepiclkcaaGreatDoorRegUJ10
import Derived.Test.YtgmdhaepiclkcaaGreatDoorRowBJ9
import Derived.Test.YtgmdhaepiclkcaaGreatDoorRowGJ7
import Derived.Test.YtgmdhaepiclkcaaGreatDoorPairGJ12
import Derived.DeepKeys4
import Derived.WideKeyEntry
import Derived.Maps.RangeWalk
import Derived.Maps.OwnSet
import Derived.Maps.OwnOps
namespace Go.Proofs.YtgmdhaepiclkcaaGreatDoor.GrewM
set_option maxRecDepth 100000
open Go Go.Sort Go.RowKit Go.Lib
def Grew (w w':World):Prop:=∃q os,w'=grow (w.drewN q) os
theorem Grew.refl (w:World):Grew w w:=⟨0,#[],by rw[grow_empty];rfl⟩
theorem Grew.alloc {w w':World} (h:Grew w w') (o:Obj):Grew w (w'.alloc o):=by
 obtain⟨q,os,rfl⟩:=h
 exact⟨q,os++ #[o],by rw[alloc_eq_grow,grow_grow]⟩
theorem zgl (w:World) (os:Array Obj) (n:Nat):(grow w os).drewN n=grow (w.drewN n) os:=rfl
theorem drewN_drewN (w:World) (m n:Nat):(w.drewN m).drewN n=w.drewN (m+n):=by unfold World.drewN;simp[Nat.add_assoc]
theorem Grew.drewN {w w':World} (h:Grew w w') (n:Nat):Grew w (w'.drewN n):=by
 obtain⟨q,os,rfl⟩:=h
 exact⟨q+n,os,by rw[zgl,drewN_drewN]⟩
theorem Grew.trans {w w' w'':World} (h:Grew w w') (h':Grew w' w''):Grew w w'':=by
 obtain⟨q,os,rfl⟩:=h'
 obtain⟨p,os',e⟩:=h.drewN q
 exact⟨p,os'++os,by rw[e,grow_grow]⟩
theorem Grew.below {w w':World} (h:Grew w w'):Below w.heap.size w w':=by
 obtain⟨q,os,rfl⟩:=h
 refine⟨rfl,rfl,rfl,?_,fun k hk=>Sort.heap_grow_old _ _ hk⟩
 rw[Sort.size_grow]
 exact Nat.le_add_right _ _
end Go.Proofs.YtgmdhaepiclkcaaGreatDoor.GrewM
namespace Go.Proofs.YtgmdhaepiclkcaaGreatDoor.PairO
set_option maxHeartbeats 4000000
set_option maxRecDepth 100000
open Go Go.RowKit Byt OpsM OpsK Rise PairM PairN RowS RowB PairW PairS PairX GrewM
theorem zl5 (w:World) (a b:Pr):Grew w ((w.alloc (.cells (pc a) 58)).alloc (.cells (pc b) 58)):=((Grew.refl w).alloc _).alloc _
theorem zbv (a b:Pr) (w:World):
  Calls Tryz.prog 103 #[.agg (pc a),.agg (pc b)] w fun e w'=>e=.returned (.bool (zba a b))∧Grew w w':=by
 have R1:Box E ((w.alloc (.cells (pc a) 58)).alloc (.cells (pc b) 58)) w.heap.size a:=(Box.new (E:=E) w a 58).alloc _
 have R2:Box E ((w.alloc (.cells (pc a) 58)).alloc (.cells (pc b) 58)) (w.heap.size+1) b:=by
  have z:(w.alloc (.cells (pc a) 58)).heap.size=w.heap.size+1:=by simp
  rw[←z]
  exact Box.new _ b _
 have kb:=zl5 w a b
 obtain⟨c1,c2,c3,c4⟩:=zam R1
 obtain⟨d1,d2,d3,d4⟩:=zam R2
 clear R1 R2
 obtain⟨r,hr⟩:∃r,zba a b=r:=⟨_,rfl⟩
 have hn:r=zba a b:=hr.symm
 rw[hr]
 unfold zba at hn
 clear hr
 by_cases h1:a.key=b.key
 ·have t1:=zbY h1
  have u1:a.key.toList=b.key.toList:=by rw[h1]
  rw[if_pos h1]at hn
  by_cases h2:a.elem=b.elem
  ·have t2:=zbY h2
   have u2:a.elem.toList=b.elem.toList:=by rw[h2]
   rw[if_pos h2]at hn
   by_cases h3:a.node=b.node
   ·have t3:(a.node != b.node)=false:=by simpa using h3
    rw[if_pos h3]at hn
    have HR:Hid (r=decide (a.seq<b.seq)):=aside hn
    clear hn h1 h2 h3
    go_enter Tryz.func103,Tryz.ntmps103
    go_wp2
    go_ret
    exact⟨zae HR.out.symm,kb⟩
   ·have t3:(a.node != b.node)=true:=by simpa using h3
    rw[if_neg h3]at hn
    have HR:Hid (r=decide (a.node<b.node)):=aside hn
    clear hn h1 h2 h3
    go_enter Tryz.func103,Tryz.ntmps103
    go_wp2
    go_ret
    exact⟨zae HR.out.symm,kb⟩
  ·have t2:=zdr h2
   have u2:=zby h2
   rw[if_neg h2]at hn
   have HR:Hid (r=Op.bytesLess a.elem.toList b.elem.toList):=aside hn
   clear hn h1 h2
   go_enter Tryz.func103,Tryz.ntmps103
   go_wp2
   go_ret
   exact⟨zae HR.out.symm,kb⟩
 ·have t1:=zdr h1
  have u1:=zby h1
  rw[if_neg h1]at hn
  have HR:Hid (r=Op.bytesLess a.key.toList b.key.toList):=aside hn
  clear hn h1
  go_enter Tryz.func103,Tryz.ntmps103
  go_wp2
  go_ret
  exact⟨zae HR.out.symm,kb⟩
def cf (x y:Pr):Int:=if x=y then 0 else if zba x y=true then -1 else 1
theorem cf_less (x y:Pr):decide (cf x y<0)=zba x y:=by
 unfold cf
 by_cases h:x=y
 ·subst h
  simp[zc2.irrefl]
 ·rw[if_neg h]
  cases zba x y <;> simp
theorem zdF (x y:Pr) (w:World):Calls Tryz.prog 144 #[.agg (pc x),.agg (pc y)] w fun e w'=>e=.returned (.int .i64 (cf x y))∧Grew w w':=by
 have B1:Box E ((w.alloc (.cells (pc x) 58)).alloc (.cells (pc y) 58)) w.heap.size x:=(Box.new (E:=E) w x 58).alloc _
 have B2:Box E ((w.alloc (.cells (pc x) 58)).alloc (.cells (pc y) 58)) (w.heap.size+1) y:=by
  have z:(w.alloc (.cells (pc x) 58)).heap.size=w.heap.size+1:=by simp
  rw[←z]
  exact Box.new _ y _
 have G:=zl5 w x y
 by_cases hxy:x=y
 ·subst hxy
  have hc:cf x x=0:=by simp[cf]
  have heq:=zkg (x:=x) rfl
  rw[hc]
  go_enter Tryz.func144,Tryz.ntmps144
  go_wp2_with (first|(refine zaa E rfl _ rfl _ rfl x B1 ?_)|(refine zaa E rfl _ rfl _ rfl x B2 ?_))
  go_ret
  exact⟨rfl,G⟩
 ·have heq:=zl9 hxy
  have cl:=fun W=>zbv x y W
  cases hl:zba x y with
  |true=>
   have hc:cf x y= -1:=by simp[cf,hxy,hl]
   rw[hc]
   rw[hl]at cl
   go_enter Tryz.func144,Tryz.ntmps144
   go_wp2_with (first|(refine zaa E rfl _ rfl _ rfl x B1 ?_)|(refine zaa E rfl _ rfl _ rfl y B2 ?_))
   refine(cl _).mono ?_
   rintro e w1 ⟨rfl,h1⟩
   go_wp2
   go_ret
   exact⟨rfl,G.trans h1⟩
  |false=>
   have hc:cf x y=1:=by simp[cf,hxy,hl]
   rw[hc]
   rw[hl]at cl
   go_enter Tryz.func144,Tryz.ntmps144
   go_wp2_with (first|(refine zaa E rfl _ rfl _ rfl x B1 ?_)|(refine zaa E rfl _ rfl _ rfl y B2 ?_))
   refine(cl _).mono ?_
   rintro e w1 ⟨rfl,h1⟩
   go_wp2
   go_ret
   exact⟨rfl,G.trans h1⟩
end Go.Proofs.YtgmdhaepiclkcaaGreatDoor.PairO
namespace Go.Proofs.YtgmdhaepiclkcaaGreatDoor.PairB
set_option maxHeartbeats 16000000
set_option maxRecDepth 100000
open Go Go.RowKit Byt OpsM OpsK Rise PairM PairN RowS RowB PairW PairS PairX
theorem zia (c:Pr) (w:World) (hf:Fit c):
  Calls Tryz.prog 102 #[.agg (pc c)] w fun e w'=>e=.returned (.bool (zfy c))∧Below w.heap.size w w':=by
 have R1:Box E (w.alloc (.cells (pc c) 58)) w.heap.size c:=Box.new w c _
 have kb:Below w.heap.size w (w.alloc (.cells (pc c) 58)):=zah _ _
 obtain⟨c0,c1,c2,c3⟩:=zam R1
 have ck:=OpsK.key c.key (by have:=hf.key;unfold maxLen;omega)
 have ce:=OpsK.key c.elem (by have:=hf.elem;unfold maxLen;omega)
 clear R1 hf
 obtain⟨r,hr⟩:∃r,zfy c=r:=⟨_,rfl⟩
 have hn:r=zfy c:=hr.symm
 rw[hr]
 unfold zfy at hn
 clear hr
 obtain⟨bk,hbk⟩:∃b,zbQ (zan c.key)=b:=⟨_,rfl⟩
 obtain⟨be,hbe⟩:∃b,zbQ (zan c.elem)=b:=⟨_,rfl⟩
 rw[hbk]at ck hn
 rw[hbe]at ce hn
 clear hbk hbe
 obtain⟨n,hnn⟩:∃n,c.node=n:=⟨_,rfl⟩
 obtain⟨s,hs⟩:∃s,c.seq=s:=⟨_,rfl⟩
 rw[hnn]at c2 hn
 rw[hs]at c3 hn
 clear hnn hs
 have HN:=aside hn
 clear hn
 have hbe:bk=false∨(bk=true∧(be=false∨be=true)):=by
  cases bk <;> cases be <;> simp
 have zdh:¬0≤n∨(0≤n∧(¬n<8∨n<8)):=by omega
 rcases zdh with p2|⟨p2,p3|p3⟩ <;> rcases hbe with rfl|⟨rfl,rfl|rfl⟩
 ·have HR:Hid (r=false):=aside (by rw[HN.out];first|rfl|(simp;done)|(simp;omega))
  clear HN
  go_enter Tryz.func102,Tryz.ntmps102
  go_wp2_with (first|(refine(ck _).mono ?_;rintro e w' ⟨rfl,rfl⟩;clear ck)|(refine(ce _).mono ?_;rintro e w' ⟨rfl,rfl⟩;clear ce))
  go_ret
  exact⟨zae HR.out.symm,kb⟩
 ·have HR:Hid (r=false):=aside (by rw[HN.out];first|rfl|(simp;done)|(simp;omega))
  clear HN
  go_enter Tryz.func102,Tryz.ntmps102
  go_wp2_with (first|(refine(ck _).mono ?_;rintro e w' ⟨rfl,rfl⟩;clear ck)|(refine(ce _).mono ?_;rintro e w' ⟨rfl,rfl⟩;clear ce))
  go_ret
  exact⟨zae HR.out.symm,kb⟩
 ·have HR:Hid (r=false):=aside (by rw[HN.out];first|rfl|(simp;done)|(simp;omega))
  clear HN
  go_enter Tryz.func102,Tryz.ntmps102
  go_wp2_with (first|(refine(ck _).mono ?_;rintro e w' ⟨rfl,rfl⟩;clear ck)|(refine(ce _).mono ?_;rintro e w' ⟨rfl,rfl⟩;clear ce))
  go_ret
  exact⟨zae HR.out.symm,kb⟩
 ·have HR:Hid (r=false):=aside (by rw[HN.out];first|rfl|(simp;done)|(simp;omega))
  clear HN
  go_enter Tryz.func102,Tryz.ntmps102
  go_wp2_with (first|(refine(ck _).mono ?_;rintro e w' ⟨rfl,rfl⟩;clear ck)|(refine(ce _).mono ?_;rintro e w' ⟨rfl,rfl⟩;clear ce))
  go_ret
  exact⟨zae HR.out.symm,kb⟩
 ·have HR:Hid (r=false):=aside (by rw[HN.out];first|rfl|(simp;done)|(simp;omega))
  clear HN
  go_enter Tryz.func102,Tryz.ntmps102
  go_wp2_with (first|(refine(ck _).mono ?_;rintro e w' ⟨rfl,rfl⟩;clear ck)|(refine(ce _).mono ?_;rintro e w' ⟨rfl,rfl⟩;clear ce))
  go_ret
  exact⟨zae HR.out.symm,kb⟩
 ·have HR:Hid (r=false):=aside (by rw[HN.out];first|rfl|(simp;done)|(simp;omega))
  clear HN
  go_enter Tryz.func102,Tryz.ntmps102
  go_wp2_with (first|(refine(ck _).mono ?_;rintro e w' ⟨rfl,rfl⟩;clear ck)|(refine(ce _).mono ?_;rintro e w' ⟨rfl,rfl⟩;clear ce))
  go_ret
  exact⟨zae HR.out.symm,kb⟩
 ·have HR:Hid (r=false):=aside (by rw[HN.out];first|rfl|(simp;done)|(simp;omega))
  clear HN
  go_enter Tryz.func102,Tryz.ntmps102
  go_wp2_with (first|(refine(ck _).mono ?_;rintro e w' ⟨rfl,rfl⟩;clear ck)|(refine(ce _).mono ?_;rintro e w' ⟨rfl,rfl⟩;clear ce))
  go_ret
  exact⟨zae HR.out.symm,kb⟩
 ·have HR:Hid (r=false):=aside (by rw[HN.out];first|rfl|(simp;done)|(simp;omega))
  clear HN
  go_enter Tryz.func102,Tryz.ntmps102
  go_wp2_with (first|(refine(ck _).mono ?_;rintro e w' ⟨rfl,rfl⟩;clear ck)|(refine(ce _).mono ?_;rintro e w' ⟨rfl,rfl⟩;clear ce))
  go_ret
  exact⟨zae HR.out.symm,kb⟩
 ·have HR:Hid (r=decide (0<s)):=aside (by rw[HN.out];simp only[decide_eq_true p2,decide_eq_true p3,Bool.true_and];exact decide_eq_decide.2 (by omega))
  clear HN
  go_enter Tryz.func102,Tryz.ntmps102
  go_wp2_with (first|(refine(ck _).mono ?_;rintro e w' ⟨rfl,rfl⟩;clear ck)|(refine(ce _).mono ?_;rintro e w' ⟨rfl,rfl⟩;clear ce))
  go_ret
  exact⟨zae HR.out.symm,kb⟩
def zgQ (x:Pr):Pr:=⟨x.key,x.elem,0,0⟩
theorem info_ev:(Tryz.prog.info? 43).map (·.size)=some (#[.int .i64 0,.int .i64 0]:Array Value).size:=by kernel_rfl
theorem ones_ev:(#[.int .i64 0,.int .i64 0]:Array Value).all (·.oneCell')=true:=by kernel_rfl
theorem bare_ret (x:Pr) (w:World):Calls Tryz.prog 149 #[.agg (pc x)] w fun e w'=>e=.returned (.agg (pc (zgQ x)))∧Below w.heap.size w w':=by
 have R1:Box E ((w.alloc (.cells (pc x) 58)).alloc (.cells (pc E.zero) 58)) w.heap.size x:=(Box.new (E:=E) w x 58).alloc _
 have R2:Box E ((w.alloc (.cells (pc x) 58)).alloc (.cells (pc E.zero) 58)) (w.heap.size+1) E.zero:=by
  have z:(w.alloc (.cells (pc x) 58)).heap.size=w.heap.size+1:=by simp
  rw[←z]
  exact Box.new _ E.zero _
 have kb:Below w.heap.size w ((w.alloc (.cells (pc x) 58)).alloc (.cells (pc E.zero) 58)):=((Below.refl _ _).alloc (Nat.le_refl _) _).alloc (by simp) _
 go_enter Tryz.func149,Tryz.ntmps149
 go_wp2_with (first
  |(refine RowJ.zcl E rfl rfl 43 _ _ rfl w.heap.size 2 rfl x R1 (zgQ x) #[.int .i64 0,.int .i64 0] info_ev rfl ones_ev (of_decide_eq_true rfl) rfl ?_;intro w1 B1 b1 g1 s1;have C1:=R2.kept g1 (by omega);have k1:=kb.trans (b1 _ (Nat.le_refl _)))
  |(refine zaa E rfl _ rfl _ rfl (zgQ x) B1 ?_)
  |(refine zad E rfl _ _ rfl (w.heap.size+1) rfl E.zero C1 (zgQ x) rfl ?_;intro w2 B2 b2 g2 s2;have k2:=k1.trans (b2 _ (Nat.le_succ _))))
 obtain⟨r0,r1,r2,r3⟩:=zam B2
 exact bodyPost_ret (v:=.agg (pc (zgQ x))) (by simp[results,Tryz.results149,go_sem,r0,r1,r2,r3,pc,zgQ]) rfl ⟨rfl,k2⟩
end Go.Proofs.YtgmdhaepiclkcaaGreatDoor.PairB
namespace Go.Proofs.YtgmdhaepiclkcaaGreatDoor.PairV
set_option maxHeartbeats 16000000
set_option maxRecDepth 100000
open Go Go.RowKit Byt OpsM OpsK Rise PairM PairN RowS RowB PairW PairS PairX PairB
theorem zmR (a b:Pr) (w:World):Calls Tryz.prog 103 #[.agg (pc a),.agg (pc b)] w fun e w'=>e=.returned (.bool (zba a b))∧Below w.heap.size w w':=
 (PairO.zbv a b w).mono fun _ _ h=>⟨h.1,h.2.below⟩
theorem zaz (A:Option Addr) (cap:Nat) (l:List Pr) (w:World) (S:SlR E w A cap l) (hf:Fits l) (hl:l.length≤100000000):
  Calls Tryz.prog 58 #[.slice A l.length cap] w fun e w'=>e=.returned (.bool (zbA l))∧Below w.heap.size w w':=by
 have hcap:=S.1
 obtain⟨r,hr0⟩:∃r,zbA l=r:=⟨_,rfl⟩
 rw[hr0]
 have HR0:=aside hr0
 clear hr0
 go_enter Tryz.func58,Tryz.ntmps58
 go_wp2
 go_loopw [7] (fun i wr=>∃j:Nat,j≤l.length∧i=.int .i64 j∧Hid (0<j→zbA (l.take j)=true)∧Below w.heap.size w wr) (fun i _=>l.length - (intOf i).toNat)
 case atStart=>exact⟨0,Nat.zero_le _,rfl,aside (fun h=>absurd h (by omega)),Below.refl _ _⟩
 case round=>
  obtain⟨j,hj,rfl,HM,kb⟩:=hrel
  by_cases hlt:j<l.length
  ·obtain⟨b,off,rfl,hbw,hr⟩:=PairW.plain S (by omega)
   have hx:l[j]?=some l[j]:=List.getElem?_eq_getElem hlt
   have hxm:l[j] ∈ l:=List.getElem_mem hlt
   have hk0:=fun W=>zia l[j] W (hf _ hxm)
   have HJ:=aside (zab (hr j _ hx) kb)
   have p0:(j:Int)<l.length:=by omega
   have m0:((j:Int)).toNat=j:=by omega
   have hno:=fun q=>HR0.out.symm.trans (zhM hlt q)
   have zfP:=fun(m:Nat) (e:m+1=j) (q:zba (l[m]'(by omega)) (l[m+1]'(by omega))=false)=>HR0.out.symm.trans (zfH (l:=l) (k:=m) (by omega) q)
   have hnext:=fun(m:Nat) (e:m+1=j) (q:zbA (l.take (m+1))=true)=>zfG (l:=l) (k:=m) (by omega) q
   have hfirst:=fun(q:0<l.length)=>zeC (l:=l) q
   obtain⟨kx,hkx⟩:∃b,zfy l[j]=b:=⟨_,rfl⟩
   rw[hkx]at hk0
   have HNo:=aside hno
   have HOk:=aside hkx
   have HFa:=aside zfP
   have HNx:=aside hnext
   have HFi:=aside hfirst
   have HCr:=aside hr
   obtain⟨x,hxx⟩:∃x,l[j]=x:=⟨_,rfl⟩
   rw[hxx]at HJ hk0
   have HXX:=aside hxx
   clear hno zfP hnext hfirst hkx hr hxm hf hx S hxx
   cases kx with
   |false=>
    have HR:Hid (r=false):=aside (HNo.out HOk.out)
    go_wp2_with (first
     |(refine(hk0 _).mono ?_;rintro e w' ⟨rfl,k1⟩;have k3:=k2.trans (k1.mono k2.size);clear k1)
     |(refine zal E rfl _ rfl b _ rfl x HJ.out ?_)
     |(refine zaa E rfl _ rfl _ rfl x bx ?_)
     |(refine zac E rfl _ _ rfl _ _ _ rfl x _ rfl rfl rfl rfl ?_;intro w2 bx kx gx sx;have k2:=kb.trans (kx.mono kb.size);clear kx gx))
    go_ret
    exact⟨zae HR.out.symm,k3⟩
   |true=>
    by_cases hj0:j=0
    ·subst hj0
     have HM2:Hid (0<1→zbA (l.take 1)=true):=aside (fun _=>by rw[HFi.out hlt];exact HOk.out)
     have HJ0:Hid (wr.rangeAt b off (E.enc x)):=aside (by have:=HJ.out;simpa using this)
     clear HJ
     go_wp2_with (first
      |(refine(hk0 _).mono ?_;rintro e w' ⟨rfl,k1⟩;have k3:=k2.trans (k1.mono k2.size);have b3:=bx.below k1;clear k1)
      |(refine zal E rfl _ rfl b _ rfl x HJ0.out ?_)
      |(refine zaa E rfl _ rfl _ rfl x bx ?_)
      |(refine zac E rfl _ _ rfl _ _ _ rfl x _ rfl rfl rfl rfl ?_;intro w2 bx kx gx sx;have k2:=kb.trans (kx.mono kb.size);clear kx gx))
     refine Grow.region [(0,true),(1,true),(2,true),(3,true),(4,true),(5,true),(6,true),(7,true),(8,true),(9,false),(10,true),(11,true)] (by kernel_rfl) (by kernel_rfl) rfl (by kernel_rfl) (by intro c a d v w h;cases d <;> exact h) ?_
     rename World=>V
     have kd:=zaf k3
     generalize V.drew=wd at kd ⊢
     repeat (refine Grow.reads rfl rfl ?_;go_big_quiet_step (fail);refine wpQuiet_nil ?_)
     refine Grow.acts rfl ?_
     go_wp2_with (first|go_skip)
     refine⟨Below.refl _ _,?_⟩
     repeat (refine Grow.reads rfl rfl ?_;go_big_quiet_step (fail);refine wpQuiet_nil ?_)
     refine Grow.ends ?_
     go_wp2_with fail
     go_roundw
     case rel=>exact⟨1,by omega,by go_num,HM2,kd⟩
     case measure=>simp[intOf];omega
    ·obtain⟨m,hm⟩:∃m,m+1=j:=⟨j - 1,by omega⟩
     have hml:m<l.length:=by omega
     have hy:l[m]?=some (l[m]'hml):=List.getElem?_eq_getElem hml
     obtain⟨y,hyy⟩:∃y,l[m]'hml=y:=⟨_,rfl⟩
     have HY:=aside (HCr.out m _ hy)
     rw[hyy]at HY
     have HYY:=aside hyy
     have q0:decide (0<(j:Int))=true:=by simp;omega
     have q00:0<j:=by omega
     have HMm:Hid (zbA (l.take (m+1))=true):=aside (by have:=HM.out (by omega);rwa[←hm]at this)
     have q1:(m:Int)<l.length:=by omega
     have q3:((m:Int)).toNat=m:=by omega
     have hwr:IntKind.i64.wrap ((j:Int) - 1)=(m:Int):=by rw[IntKind.wrap_i64];omega
     have HMJ:=aside hm
     have cn:=fun W=>zmR y x W
     obtain⟨z,hz⟩:∃z,zba y x=z:=⟨_,rfl⟩
     rw[hz]at cn
     have HZ:Hid (zba (l[m]'hml) l[j]=z):=aside (by rw[HYY.out,HXX.out];exact hz)
     clear HM hj0 hy hm hyy hz
     cases z with
     |true=>
      have HM2:Hid (0<j+1→zbA (l.take (j+1))=true):=aside (fun _=>by
       have hm:=HMJ.out
       subst hm
       rw[HNx.out m rfl HMm.out,HOk.out,HZ.out];rfl)
      go_wp2_with (first
       |(refine(hk0 _).mono ?_;rintro e w' ⟨rfl,k1⟩;have k3:=k2.trans (k1.mono k2.size);have b3:=bx.below k1;have d0:=zab HY.out k3;clear k1)
       |(refine zal E rfl _ rfl b _ rfl x HJ.out ?_)
       |(refine zaa E rfl _ rfl _ rfl x bx ?_)
       |(refine zac E rfl _ _ rfl _ _ _ rfl x _ rfl rfl rfl rfl ?_;intro w2 bx kx gx sx;have k2:=kb.trans (kx.mono kb.size);clear kx gx))
      refine Grow.region [(0,true),(1,true),(2,true),(3,true),(4,true),(5,true),(6,true),(7,true),(8,true),(9,false),(10,true),(11,true)] (by kernel_rfl) (by kernel_rfl) rfl (by kernel_rfl) (by intro c a d v w h;cases d <;> exact h) ?_
      rename World=>V
      have kd:=zaf k3
      have rx:=(b3.below (zaf (Below.refl V.heap.size V))).range
      have ry:=zab d0 (zaf (Below.refl V.heap.size V))
      generalize V.drew=wd at kd rx ry ⊢
      repeat (first|(refine Grow.reads rfl rfl ?_;go_big_quiet_want;refine RowK.zaB E _ rfl _ _ rfl y ry ?_;go_big_quiet_on;refine wpQuiet_nil ?_;simp only[Act.put,List.setIfInBounds_toArray,List.set_cons_succ,List.set_cons_zero])|(refine Grow.reads rfl rfl ?_;go_big_quiet_want;refine RowK.zaB E _ rfl _ _ rfl x rx ?_;go_big_quiet_on;refine wpQuiet_nil ?_;simp only[Act.put,List.setIfInBounds_toArray,List.set_cons_succ,List.set_cons_zero])|(refine Grow.reads rfl rfl ?_;go_big_quiet_step (fail);refine wpQuiet_nil ?_))
      refine Grow.acts rfl ?_
      go_wp2_with fail
      refine(cn _).mono ?_
      rintro e we ⟨rfl,he⟩
      have ke:=kd.trans (he.mono kd.size)
      clear rx ry kd
      go_wp2_with fail
      refine⟨he,?_⟩
      clear he
      repeat (refine Grow.reads rfl rfl ?_;go_big_quiet_step (fail);refine wpQuiet_nil ?_)
      refine Grow.ends ?_
      go_wp2_with fail
      go_roundw
      case rel=>exact⟨j+1,by omega,by go_num,HM2,ke⟩
      case measure=>simp[intOf];omega
     |false=>
      have HR:Hid (r=false):=aside (by have hm:=HMJ.out;subst hm;exact HFa.out m rfl HZ.out)
      go_wp2_with (first
       |(refine(hk0 _).mono ?_;rintro e w' ⟨rfl,k1⟩;have k3:=k2.trans (k1.mono k2.size);have b3:=bx.below k1;have d0:=zab HY.out k3;clear k1)
       |(refine zal E rfl _ rfl b _ rfl x HJ.out ?_)
       |(refine zaa E rfl _ rfl _ rfl x bx ?_)
       |(refine zac E rfl _ _ rfl _ _ _ rfl x _ rfl rfl rfl rfl ?_;intro w2 bx kx gx sx;have k2:=kb.trans (kx.mono kb.size);clear kx gx))
      refine Grow.region [(0,true),(1,true),(2,true),(3,true),(4,true),(5,true),(6,true),(7,true),(8,true),(9,false),(10,true),(11,true)] (by kernel_rfl) (by kernel_rfl) rfl (by kernel_rfl) (by intro c a d v w h;cases d <;> exact h) ?_
      rename World=>V
      have kd:=zaf k3
      have rx:=(b3.below (zaf (Below.refl V.heap.size V))).range
      have ry:=zab d0 (zaf (Below.refl V.heap.size V))
      generalize V.drew=wd at kd rx ry ⊢
      repeat (first|(refine Grow.reads rfl rfl ?_;go_big_quiet_want;refine RowK.zaB E _ rfl _ _ rfl y ry ?_;go_big_quiet_on;refine wpQuiet_nil ?_;simp only[Act.put,List.setIfInBounds_toArray,List.set_cons_succ,List.set_cons_zero])|(refine Grow.reads rfl rfl ?_;go_big_quiet_want;refine RowK.zaB E _ rfl _ _ rfl x rx ?_;go_big_quiet_on;refine wpQuiet_nil ?_;simp only[Act.put,List.setIfInBounds_toArray,List.set_cons_succ,List.set_cons_zero])|(refine Grow.reads rfl rfl ?_;go_big_quiet_step (fail);refine wpQuiet_nil ?_))
      refine Grow.acts rfl ?_
      go_wp2_with fail
      refine(cn _).mono ?_
      rintro e we ⟨rfl,he⟩
      have ke:=kd.trans (he.mono kd.size)
      clear rx ry kd
      go_wp2_with fail
      refine⟨he,?_⟩
      clear he
      repeat (refine Grow.reads rfl rfl ?_;go_big_quiet_step (fail);refine wpQuiet_nil ?_)
      refine Grow.ends ?_
      go_wp2_with fail
      go_ret
      exact⟨zae HR.out.symm,ke⟩
  ·have e:j=l.length:=by omega
   have HR:Hid (r=true):=aside (by
    rw[←HR0.out]
    by_cases h0:0<j
    ·have:=HM.out h0
     rwa[e,List.take_length]at this
    ·have:l=[]:=List.eq_nil_of_length_eq_zero (by omega)
     rw[this];rfl)
   clear S HM
   go_wp2
   go_ret
   exact⟨zae HR.out.symm,kb⟩
end Go.Proofs.YtgmdhaepiclkcaaGreatDoor.PairV
namespace Go.Proofs.YtgmdhaepiclkcaaGreatDoor.PairK
set_option maxRecDepth 100000
open Go Go.RowKit Go.Maps Byt Rise PairM RowS RowB PairW
abbrev Gd:=OpenP.Good
theorem laidOut:laidOutB Tryz.prog=true:=by kernel_rfl
theorem row:(58:TypeId)<Tryz.prog.types.size:=of_decide_eq_true (by kernel_rfl)
theorem wide:(match Tryz.prog.underlying 58 with|some (.array _ _)|some (.struct _)=>true|_=>false)=true:=by kernel_rfl
theorem zps:WideMaps.KeyLaw Tryz.prog 58:=deep_law_laid laidOut (m:=3) (by omega) row (by kernel_rfl) wide
theorem law:Keyed Tryz.prog 58:=Keyed.of_law zps
theorem zfs:2<Tryz.prog.types.size:=of_decide_eq_true (by kernel_rfl)
theorem zc1:∃m,Tryz.prog.types.size=m+2:=⟨Tryz.prog.types.size - 2,by have:=zfs;omega⟩
theorem keyT: Tryz.prog.keyType 58=true:=by kernel_rfl
theorem zgn: Tryz.prog.cellsOf 58=4:=by kernel_rfl
theorem zhf: Tryz.prog.cellsOf 43=2:=by kernel_rfl
theorem zkk: Tryz.prog.cellsOf 3=1:=by kernel_rfl
theorem zf1: Tryz.prog.cellsOf 9=1:=by kernel_rfl
theorem wf64 {n:Int} (h:In64 n):(Lit.int .i64 n).wf=true:=by
 unfold In64 at h
 simp[Lit.wf,IntKind.min,IntKind.max,IntKind.bits,IntKind.signed]
 omega
theorem good_of {c:Pr} (h:Fit c):Gd c:=⟨by have:=h.key;unfold maxLen;omega,by have:=h.elem;unfold maxLen;omega,h.node,h.seq⟩
def key (x:Pr):Lit:=.string (keyBytes [.string x.key.data.toList,.string x.elem.data.toList,.int .i64 x.node,.int .i64 x.seq])
theorem zfJ (d:Nat) {s:ByteArray} (h:s.size≤maxLen): Tryz.prog.keyLits (d+1) 9 [.string s]=some [.string s.data.toList]:=by
 simp only[Program.keyLits,Tryz.underlying9]
 rw[if_pos h]
theorem zlU (d:Nat) {n:Int} (h:In64 n): Tryz.prog.keyLits (d+1) 3 [.int .i64 n]=some [.int .i64 n]:=by
 simp only[Program.keyLits,Tryz.underlying3]
 rw[if_pos ⟨trivial,wf64 h⟩]
theorem lits_ev (d:Nat) {m n:Int} (hm:In64 m) (hn:In64 n): Tryz.prog.keyLits (d+2) 43 [.int .i64 m,.int .i64 n]=some [.int .i64 m,.int .i64 n]:=by
 unfold Program.keyLits
 simp only[Tryz.underlying43]
 rw[if_pos ⟨by rw[zhf];rfl,by kernel_rfl⟩]
 simp[zkk,zlU d hm,zlU d hn]
theorem zoa (d:Nat) {x:Pr} (h:Gd x): Tryz.prog.keyLits (d+3) 58 (E.enc x)=some [.string x.key.data.toList,.string x.elem.data.toList,.int .i64 x.node,.int .i64 x.seq]:=by
 unfold Program.keyLits
 simp only[Tryz.underlying58]
 rw[if_pos ⟨by rw[zgn];rfl,by kernel_rfl⟩]
 simp[zhf,zf1,E,zfJ (d+1) h.key,zfJ (d+1) h.elem,lits_ev d h.node h.seq]
theorem keyOf_pair {x:Pr} (h:Gd x):keyOf Tryz.prog 58 (.agg (pc x))=some (key x):=by
 obtain⟨m0,hm0⟩:=zc1
 unfold keyOf
 simp only[Tryz.underlying58]
 rw[if_pos (by simp[keyT,Value.formed,Tryz.underlying58,zgn,pc]),hm0]
 have e:(Value.agg (pc x)).cells.toList=E.enc x:=rfl
 rw[e,zoa m0 h]
 rfl
theorem pc_inj {x y:Pr} (h:pc x=pc y):x=y:=by
 unfold pc at h
 simp only[Array.mk.injEq,List.cons.injEq,Value.string.injEq,Value.int.injEq,true_and,and_true]at h
 exact zpk h.1 h.2.1 h.2.2.1 h.2.2.2
theorem key_inj {x y:Pr} (hx:Gd x) (hy:Gd y) (h:key x=key y):x=y:=by
 have h1:=keyOf_pair hx
 have h2:=keyOf_pair hy
 rw[←h]at h2
 have:=law.inj h1 h2
 injection this with this
 exact pc_inj this
theorem in_wf {n:Int} (h:(Lit.int .i64 n).wf=true):In64 n:=OpenP.zhV h
theorem str_of {d:Nat} {cs:List Value} {l:List Lit} (h: Tryz.prog.keyLits d 9 cs=some l):∃s:ByteArray,cs=[.string s]∧s.size≤maxLen:=by
 obtain⟨s,rfl,_⟩:=keyLits_string' Tryz.underlying9 h
 cases d with
 |zero=>simp[Program.keyLits]at h
 |succ d=>
  simp only[Program.keyLits,Tryz.underlying9]at h
  split at h
  ·rename_i hs
   exact⟨s,rfl,hs⟩
  ·cases h
theorem int_of {d:Nat} {cs:List Value} {l:List Lit} (h: Tryz.prog.keyLits d 3 cs=some l):∃n:Int,cs=[.int .i64 n]∧In64 n:=by
 obtain⟨n,rfl,_⟩:=keyLits_int' Tryz.underlying3 h
 cases d with
 |zero=>simp[Program.keyLits]at h
 |succ d=>
  simp only[Program.keyLits,Tryz.underlying3]at h
  split at h
  ·rename_i hs
   exact⟨n,rfl,in_wf hs.2⟩
  ·cases h
theorem two_of {α:Type} {l:List α} (h:l.length=2):∃a b,l=[a,b]:=by
 match l,h with
 |[a,b],_=>exact⟨a,b,rfl⟩
theorem four_of {α:Type} {l:List α} (h:l.length=4):∃a b c d,l=[a,b,c,d]:=by
 match l,h with
 |[a,b,c,d],_=>exact⟨a,b,c,d,rfl⟩
theorem zoM {d:Nat} {cs:List Value} {l:List Lit} (h: Tryz.prog.keyLits d 43 cs=some l):∃m n:Int,cs=[.int .i64 m,.int .i64 n]∧In64 m∧In64 n:=by
 cases d with
 |zero=>simp[Program.keyLits]at h
 |succ d=>
  unfold Program.keyLits at h
  simp only[Tryz.underlying43]at h
  split at h
  ·rename_i hs
   have hl:=hs.1
   rw[zhf]at hl
   obtain⟨a,b,rfl⟩:=two_of hl
   rw[Option.map_eq_some_iff]at h
   obtain⟨ys,hys,_⟩:=h
   simp only[List.mapM_cons,List.mapM_nil,bind,Option.bind_eq_some_iff,zkk,List.drop_zero,List.drop_succ_cons,List.take_succ_cons,List.take_zero]at hys
   obtain⟨y0,h0,z0,⟨y1,h1,_⟩,_⟩:=hys
   obtain⟨m,e0,w0⟩:=int_of h0
   obtain⟨n,e1,w1⟩:=int_of h1
   simp only[List.cons.injEq,and_true]at e0 e1
   subst e0 e1
   exact⟨m,n,rfl,w0,w1⟩
  ·cases h
theorem pair_of {d:Nat} {cs:List Value} {l:List Lit} (h: Tryz.prog.keyLits d 58 cs=some l):∃x:Pr,cs=E.enc x∧Gd x:=by
 cases d with
 |zero=>simp[Program.keyLits]at h
 |succ d=>
  unfold Program.keyLits at h
  simp only[Tryz.underlying58]at h
  split at h
  ·rename_i hs
   have hl:=hs.1
   rw[zgn]at hl
   obtain⟨a,b,c,e,rfl⟩:=four_of hl
   rw[Option.map_eq_some_iff]at h
   obtain⟨ys,hys,_⟩:=h
   simp only[List.mapM_cons,List.mapM_nil,bind,Option.bind_eq_some_iff,zf1,zhf,List.drop_zero,List.drop_succ_cons,List.take_succ_cons,List.take_zero]at hys
   obtain⟨y0,h0,z0,⟨y1,h1,z1,⟨y2,h2,_⟩,_⟩,_⟩:=hys
   obtain⟨s,e0,w0⟩:=str_of h0
   obtain⟨t,e1,w1⟩:=str_of h1
   obtain⟨m,n,e2,w2,w3⟩:=zoM h2
   simp only[List.cons.injEq,and_true]at e0 e1 e2
   obtain⟨e2,e3⟩:=e2
   subst e0 e1 e2 e3
   exact⟨⟨s,t,m,n⟩,rfl,⟨w0,w1,w2,w3⟩⟩
  ·cases h
theorem zdM {v:Value} {kl:Lit} (h:keyOf Tryz.prog 58 v=some kl):∃x,Gd x∧v=.agg (pc x)∧kl=key x:=by
 obtain⟨xs,L,rfl,h1,_⟩:=keyOf_top wide h
 obtain⟨x,hx,hg⟩:=pair_of h1
 have e:xs=pc x:=Array.toList_inj.1 hx
 subst e
 exact⟨x,hg,rfl,Option.some.inj (h.symm.trans (keyOf_pair hg))⟩
theorem zcy {x:Pr} (h:Gd x):(key x).sameKey (key x)=true:=WideAt.sameKey_self (law.key (keyOf_pair h))
def upd (v:Pr→Int) (y:Pr) (c:Int):Pr→Int:=fun x=>if x=y then c else v x
def zpw (D:DataW Unit) (K:List Pr) (v:Pr→Int):Prop:=
 (∀x,Gd x→(Maps.has D (key x)=true↔x ∈ K))∧(∀x,x ∈ K→∀z,D.atKey (key x) z=.lit (.int .i64 (v x)))∧(∀x,x ∉ K→v x=0)∧∀x,x ∈ K→Gd x
def NumIn (w:World) (b n:Nat) (K:List Pr) (v:Pr→Int):Prop:=∃D:DataW Unit,w.ownsMap Tryz.prog 58 (plainElem Tryz.prog 3) b n D∧zpw D K v
theorem NumIn.made (w:World):NumIn (w.alloc (.map #[] 0)) w.heap.size 0 [] fun _=>0:=⟨.map [],World.ownsMap_made _ _ _ _,fun x _=>by simp[Maps.has],fun x hx=>absurd hx (by simp),fun _ _=>rfl,fun x hx=>absurd hx (by simp)⟩
theorem NumIn.lt {w:World} {b n:Nat} {K:List Pr} {v:Pr→Int} (h:NumIn w b n K v):b<w.heap.size:=by obtain⟨D,hD,_⟩:=h;exact hD.lt
theorem NumIn.kept {w w':World} {b n:Nat} {K:List Pr} {v:Pr→Int} {row:Option Nat} (h:NumIn w b n K v) (hg:w.grownBy w' row) (hne:some b≠row):NumIn w' b n K v:=by
 obtain⟨D,hD,hs⟩:=h
 exact⟨D,hD.kept hg hne,hs⟩
theorem NumIn.congr {w:World} {b n:Nat} {K K':List Pr} {v v':Pr→Int} (h:NumIn w b n K v) (he:∀x,x ∈ K↔x ∈ K') (hv:∀x,v x=v' x):NumIn w b n K' v':=by
 obtain⟨D,hD,h1,h2,h3,h4⟩:=h
 exact⟨D,hD,fun x hx=>by rw[h1 x hx];exact he x,fun x hx z=>by rw[h2 x ((he x).2 hx),hv],fun x hx=>by rw[←hv];exact h3 x (fun h=>hx ((he x).1 h)),fun x hx=>h4 x ((he x).2 hx)⟩
theorem NumIn.up {w:World} {b n m:Nat} {K:List Pr} {v:Pr→Int} (h:NumIn w b n K v) (hm:n≤m):NumIn w b m K v:=by
 obtain⟨D,hD,hs⟩:=h
 exact⟨D,hD.mono hm,hs⟩
theorem zhA {D:DataW Unit} {K:List Pr} {v:Pr→Int} (hm:Maps.IsMap D) (h:zpw D K v) {y:Pr} (hy:Gd y) (c:Int):zpw (D.put (key y) (.lit (.int .i64 c))) (y::K) (upd v y c):=by
 have hk:WideAt.IsKeyLit (key y):=law.key (keyOf_pair hy)
 obtain⟨g1,g2,g3,g4⟩:=h
 refine⟨fun x hx=>?_,fun x hx z=>?_,fun x hx=>?_,fun x hx=>?_⟩
 ·by_cases hxy:x=y
  ·subst hxy
   rw[Maps.has_put_same hm hk]
   simp
  ·rw[Maps.has_put_other (fun e=>hxy (key_inj hx hy e)),g1 x hx]
   simp[hxy]
 ·unfold upd
  by_cases hxy:x=y
  ·subst hxy
   rw[if_pos rfl]
   exact Maps.atKey_put_same hm hk _ _
  ·have hxK:x ∈ K:=by simpa[hxy]using hx
   rw[Maps.atKey_put_other (fun e=>hxy (key_inj (g4 x hxK) hy e)),if_neg hxy]
   exact g2 x hxK z
 ·simp only[List.mem_cons,not_or]at hx
  unfold upd
  rw[if_neg hx.1]
  exact g3 x hx.2
 ·rcases List.mem_cons.1 hx with rfl|hx
  ·exact hy
  ·exact g4 x hx
theorem zdQ (w:World):(zeroValue 3).run Tryz.prog w=.ok (.int .i64 0) w:=by kernel_rfl
theorem zpw.zh9 {D:DataW Unit} {K:List Pr} {f:Pr→Int} (h:zpw D K f) {y:Pr} (hy:Gd y) {c:Int} (hat:D.atKey (key y) (.lit (.int .i64 0))=.lit (.int .i64 c)):c=f y:=by
 by_cases hyK:y ∈ K
 ·rw[h.2.1 y hyK]at hat
  injection hat with hat
  injection hat with _ hat
  exact hat.symm
 ·have hh:Maps.has D (key y)=false:=by
   rw[←Bool.not_eq_true,h.1 y hy]
   exact hyK
  rw[Maps.atKey_of_not_has hh]at hat
  rw[h.2.2.1 y hyK]
  injection hat with hat
  injection hat with _ hat
  exact hat.symm
theorem zpE {f:Pr→Int} {y:Pr} {c:Int} (h:c=f y):upd f y c=f:=by
 funext x
 unfold upd
 by_cases e:x=y
 ·rw[if_pos e,e,h]
 ·rw[if_neg e]
theorem NumIn.ready {w:World} {b n:Nat} {K:List Pr} {f:Pr→Int} (h:NumIn w b n K f) (hn:n<1000000000) {y:Pr} (hy:Gd y):
  ∃(v:Value) (w1:World) (K':List Pr),(Instr.mapEntry 141 (.map (some b)) (.agg (pc y))).run Tryz.prog w=.ok v w1∧NumIn w1 b (n+1) K' f:=by
 obtain⟨D,hD,hs⟩:=h
 have hD0:=hD
 have hkey:=keyOf_pair hy
 obtain⟨c,hlook,hat,_⟩:=hD0.lookup_int law Tryz.underlying141 Tryz.underlying3 (zdQ w) hkey
 have hc:=hs.zh9 hy hat
 obtain⟨es,clock,hb,F,hsz,hDD⟩:=hD
 rcases zps.find w hkey es.toList F.keys with⟨h1,h2⟩|⟨j,e0,h1,h2,h3⟩
 ·have h0:(Instr.lookup 141 (.map (some b)) (.agg (pc y)) false).run Tryz.prog w=.ok (.int .i64 0) w:=by
   simp[Instr.lookup,run_underlying Tryz.underlying141,MapKept.run_getObj_map hb,zps.check w _ hkey,h1,Result.andThen]
  have hc0:(0:Int)=f y:=by
   rw[←hc]
   rw[h0]at hlook
   injection hlook with hlook _
   injection hlook with _ hlook
  have hm:(Instr.mapEntry 141 (.map (some b)) (.agg (pc y))).run Tryz.prog w=.ok (.tuple #[.int .i64 0,goInt clock]) (ChangeMaps.setBlock w b (.map (es.push ⟨.agg (pc y),.int .i64 0,clock⟩) (clock+1))):=by
   simp[Instr.mapEntry,run_underlying Tryz.underlying141,MapKept.run_getObj_map hb,zps.check w false hkey,h1,MapKept.run_setObj_map _ hb,Result.andThen,ChangeMaps.setBlock]
  have hu:(Instr.mapUpdate 141 (.map (some b)) (.agg (pc y)) (.int .i64 0)).run Tryz.prog w=.ok () (ChangeMaps.setBlock w b (.map (es.push ⟨.agg (pc y),.int .i64 0,clock⟩) (clock+1))):=by
   simp[Instr.mapUpdate,run_underlying Tryz.underlying141,MapKept.run_getObj_map hb,zps.check w false hkey,h1,MapKept.run_setObj_map _ hb,Result.andThen,ChangeMaps.setBlock]
  obtain⟨w',u1,u2,_⟩:=hD0.update law Tryz.underlying141 (by unfold maxLen;omega) hkey (plainElem_int (H:=Unit) Tryz.underlying3 (wf64 (n:=0) (by unfold In64;omega)))
  rw[hu]at u1
  injection u1 with _ u1
  refine⟨_,_,y::K,hm,⟨_,by rw[u1];exact u2,?_⟩⟩
  have:=zhA hD0.isMap hs hy 0
  rwa[zpE hc0]at this
 ·have hj:es[j]?=some e0:=by simpa using h2
  have hsame:es.modify j (fun e=>{e with key:=.agg (pc y)})=es:=by
   apply Array.ext'
   rw[Array.toList_modify]
   refine List.ext_getElem? (fun i=>?_)
   rw[List.getElem?_modify]
   by_cases e:j=i
   ·subst e
    rw[h2]
    simp[←h3]
   ·simp[e]
  have hm:(Instr.mapEntry 141 (.map (some b)) (.agg (pc y))).run Tryz.prog w=.ok (.tuple #[e0.val,goInt e0.born]) (ChangeMaps.setBlock w b (.map es clock)):=by
   simp[Instr.mapEntry,run_underlying Tryz.underlying141,MapKept.run_getObj_map hb,zps.check w false hkey,h1,hj,h3,zps.stays w hkey,hsame,MapKept.run_setObj_map _ hb,Result.andThen,ChangeMaps.setBlock]
  exact⟨_,_,K,hm,D,⟨es,clock,ChangeMaps.heap_setBlock_same hb _,F,by omega,hDD⟩,hs⟩
theorem NumIn.entry {w:World} {b n:Nat} {K:List Pr} {f:Pr→Int} (h:NumIn w b n K f) (hn:n<1000000000) {y:Pr} (hy:Gd y):
  ∃(v0:Value) (st:Nat) (w1:World),(Instr.mapEntry 141 (.map (some b)) (.agg (pc y))).run Tryz.prog w=.ok (.tuple #[v0,goInt st]) w1∧w.grownBy w1 (some b)∧(∃K',NumIn w1 b (n+1) K' f)∧
   ∀(w2:World) (c:Int),In64 c→w2.heap[b]?=w1.heap[b]?→∃w3,(Instr.entryStore 141 (.map (some b)) (goInt st) (.int .i64 c)).run Tryz.prog w2=.ok () w3∧NumIn w3 b (n+1) (y::K) (upd f y c)∧w2.grownBy w3 (some b):=by
 obtain⟨v,w0,K',r0,r1⟩:=h.ready hn hy
 obtain⟨D,hD,hs⟩:=h
 have hD0:=hD
 obtain⟨es,clock,hb,F,hsz,hDD⟩:=hD
 obtain⟨v0,st,es1,clock1,h1,_,h3⟩:=WideElems.entry_then_store zps Tryz.underlying141 zdQ hb F (keyOf_pair hy)
 have hw0:w0=ChangeMaps.setBlock w b (.map es1 clock1):=by
  rw[h1]at r0
  injection r0 with _ r0
  exact r0.symm
 subst hw0
 refine⟨v0,st,_,h1,⟨rfl,rfl,rfl,by simp[ChangeMaps.setBlock],fun i _ hi=>ChangeMaps.heap_setBlock_other hb _ (fun e=>hi (by rw[e]))⟩,⟨K',r1⟩,fun w2 c hc h2=>?_⟩
 rw[ChangeMaps.heap_setBlock_same hb]at h2
 obtain⟨es',clock',r1,r2⟩:=h3 w2 (.int .i64 c) h2
 obtain⟨w',u1,u2,_⟩:=hD0.update law Tryz.underlying141 (by unfold maxLen;omega) (keyOf_pair hy) (plainElem_int (H:=Unit) Tryz.underlying3 (wf64 hc))
 have e:w'=ChangeMaps.setBlock w b (.map es' clock'):=by
  rw[r2]at u1
  injection u1 with _ u1
  exact u1.symm
 subst e
 obtain⟨e1,c1,hb1,F1,hz1,hd1⟩:=u2
 rw[ChangeMaps.heap_setBlock_same hb]at hb1
 injection hb1 with hb1
 injection hb1 with q1 q2
 subst q1 q2
 refine⟨_,r1,⟨_,⟨es',clock',ChangeMaps.heap_setBlock_same h2 _,F1,hz1,hd1⟩,zhA hD0.isMap hs hy c⟩,⟨rfl,rfl,rfl,by simp[ChangeMaps.setBlock],fun i _ hi=>ChangeMaps.heap_setBlock_other h2 _ (fun e=>hi (by rw[e]))⟩⟩
section
variable (w:World) {ops:Array Oper} {rest:List Oper} {o:Oper} {a:Act} {Q:Exit→Act→World→Prop}
theorem zaY (hg:o.guard=none) (m x:Operand) (hop:o.op=Op.lookup 141 m x false) (b n:Nat) (K:List Pr) (f:Pr→Int) (hm:a.eval m=.map (some b)) (h:NumIn w b n K f)
  (y:Pr) (hy:Gd y) (hx:a.eval x=.agg (pc y)) (hK:wpList Tryz.prog ops Q rest (a.put o.dst (.int .i64 (f y))) w):wpList Tryz.prog ops Q (o::rest) a w:=by
 obtain⟨D,hD,hs⟩:=h
 refine wpList_lookup_own_int w hg m x 141 hop 58 3 .i64 law Tryz.underlying141 Tryz.underlying3 (zdQ w) b n D hm hD _ (key y) hx (keyOf_pair hy) (fun c hat _=>?_)
 have hc:=hs.zh9 hy hat
 rw[hc]
 exact hK
theorem zcx (hg:o.guard=none) (m x:Operand) (hop:o.op=Op.mapEntry 141 m x) (b n:Nat) (K:List Pr) (f:Pr→Int) (hm:a.eval m=.map (some b)) (h:NumIn w b n K f) (hn:n<1000000000)
  (y:Pr) (hy:Gd y) (hx:a.eval x=.agg (pc y))
  (hK:∀(v0:Value) (st:Nat) (w1:World),w.grownBy w1 (some b)→(∃K',NumIn w1 b (n+1) K' f)→(∀(w2:World) (c:Int),In64 c→w2.heap[b]?=w1.heap[b]?→∃w3,(Instr.entryStore 141 (.map (some b)) (goInt st) (.int .i64 c)).run Tryz.prog w2=.ok () w3∧NumIn w3 b (n+1) (y::K) (upd f y c)∧w2.grownBy w3 (some b))→
   wpList Tryz.prog ops Q rest (a.put o.dst (.tuple #[v0,goInt st])) w1):wpList Tryz.prog ops Q (o::rest) a w:=by
 obtain⟨v0,st,w1,hrun,g1,g0,g2⟩:=h.entry hn hy
 refine wpList_plain hg fun K' hK'=>?_
 unfold Oper.wp
 simp[execOp,hop,hm,hx,hrun,Result.andThen]
 exact hK' _ _ (hK v0 st w1 g1 g0 g2)
theorem zfq (hg:o.guard=none) (m s v:Operand) (hop:o.op=Op.entryStore 141 m s v) (b:Nat) (hm:a.eval m=.map (some b)) (st:Nat) (hst:a.eval s=goInt st) (c:Int) (hv:a.eval v=.int .i64 c)
  {C:World→Prop} (hS:∃w3,(Instr.entryStore 141 (.map (some b)) (goInt st) (.int .i64 c)).run Tryz.prog w=.ok () w3∧C w3)
  (hK:∀w3,C w3→wpList Tryz.prog ops Q rest (a.put o.dst undef) w3):wpList Tryz.prog ops Q (o::rest) a w:=by
 obtain⟨w3,hrun,h3⟩:=hS
 refine wpList_plain hg fun K' hK'=>?_
 unfold Oper.wp
 simp[execOp,hop,hm,hst,hv,hrun,Result.andThen]
 exact hK' _ _ (hK w3 h3)
end
end Go.Proofs.YtgmdhaepiclkcaaGreatDoor.PairK
