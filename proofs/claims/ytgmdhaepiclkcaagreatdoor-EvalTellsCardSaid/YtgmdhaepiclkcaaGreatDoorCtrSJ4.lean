/- What the document's Same of package ctr, and the law's Few, return | What the document's Newer, one, May, Get of package reg return | What the document's Get and May of package reg return | What the document's Same of package reg, and the law's Few, return -/
import Derived.Test.YtgmdhaepiclkcaaGreatDoorEaAJ3
import Derived.Test.YtgmdhaepiclkcaaGreatDoorStNJ8
import Derived.Test.YtgmdhaepiclkcaaGreatDoorRefEJ9
namespace Go.Proofs.YtgmdhaepiclkcaaGreatDoor.CtrS
set_option maxHeartbeats 4000000
set_option maxRecDepth 100000
open Go Go.RowKit Byt OpsM OpsK Rise CtrM RowS CtrW CtrR
def zcD (x y:Cn):Bool:=decide (x.key.toList=y.key.toList)&&decide (x.n=y.n)
theorem zb7 {x y:Cn}:zcD x y=true↔x=y:=by
 unfold zcD
 simp only[Bool.and_eq_true,decide_eq_true_eq]
 constructor
 ·rintro⟨h1,h2⟩
  cases x;cases y
  simp only at h1 h2
  rw[Rise.toList_inj h1,h2]
 ·rintro rfl;exact⟨rfl,rfl⟩
def zaU:List Cn→List Cn→Bool
 |[],[]=>true
 |x::a,y::b=>zcD x y&&zaU a b
 |[],_::_=>false
 |_::_,[]=>false
theorem zbp:∀{a b:List Cn},zaU a b=true↔a=b
 |[],[]=>by simp[zaU]
 |x::a,y::b=>by simp[zaU,zb7,zbp (a:=a) (b:=b)]
 |[],_::_=>by simp[zaU]
 |_::_,[]=>by simp[zaU]
theorem zev {a b:List Cn} (h:a.length≠b.length):zaU a b=false:=by
 cases hs:zaU a b with
 |false=>rfl
 |true=>exact absurd (congrArg List.length (zbp.1 hs)) h
theorem equal (w:World) (x y:Cn):(Op.equalIn 10000 95 (.agg #[.string x.key,.int .i64 x.n]) (.agg #[.string y.key,.int .i64 y.n])).run Tryz.prog w=.ok (zcD x y) w:=by
 have hS: Tryz.prog.underlying 95=some (.struct (Tryz.prog.fieldsOf 95)):=by kernel_rfl
 rw[show(10000:Nat)=9999+1 from rfl,run_equalIn_agg w 9999 95 _ _ hS (by kernel_rfl)]
 simp only[Program.fieldsOf,Tryz.underlying95]
 go_simp
 unfold zcD
 split
 ·split <;> simp_all
 ·simp_all
theorem zdj (A:Option Addr) (cap:Nat) (a:List Cn) (A':Option Addr) (cap':Nat) (b:List Cn) (w:World) (S:SlR E w A cap a) (S':SlR E w A' cap' b):
  Calls Tryz.prog 45 #[.slice A a.length cap,.slice A' b.length cap'] w fun e w'=>e=.returned (.bool (zaU a b))∧Below w.heap.size w w':=by
 have hmax:a.length≤9223372036854775807:=by have:=S.1;have:=S.2.1;unfold maxLen at this;omega
 have hmax':b.length≤9223372036854775807:=by have:=S'.1;have:=S'.2.1;unfold maxLen at this;omega
 have hcap:=S.1
 have hcap':=S'.1
 obtain⟨r,hr0⟩:∃r,zaU a b=r:=⟨_,rfl⟩
 rw[hr0]
 have HR0:=aside hr0
 clear hr0
 by_cases hl:a.length=b.length
 ·have t0:((a.length:Int) != (b.length:Int))=false:=by simp;omega
  have HL:=aside hl
  clear hl
  go_enter Tryz.func45,Tryz.ntmps45
  go_wp2
  clear t0
  go_loopw [5] (fun i wr=>∃j:Nat,j≤a.length∧i=.int .i64 j∧Hid (r=zaU (a.drop j) (b.drop j))∧Below w.heap.size w wr) (fun i _=>a.length - (intOf i).toNat)
  case atStart=>exact⟨0,Nat.zero_le _,rfl,aside HR0.out.symm,Below.refl _ _⟩
  case round=>
   obtain⟨j,hj,rfl,HG,kb⟩:=hrel
   by_cases hlt:j<a.length
   ·have hlt':j<b.length:=by have:=HL.out;omega
    obtain⟨p,off,rfl,hbw,hr⟩:=CtrW.plain S (by omega)
    obtain⟨p',off',rfl,hbw',hr'⟩:=CtrW.plain S' (by omega)
    obtain⟨x,hx⟩:∃x,a[j]?=some x:=⟨_,List.getElem?_eq_getElem hlt⟩
    obtain⟨y,hy⟩:∃y,b[j]?=some y:=⟨_,List.getElem?_eq_getElem hlt'⟩
    obtain⟨c0,c1⟩:=cells (zab (hr j x hx) kb)
    obtain⟨d0,d1⟩:=cells (zab (hr' j y hy) kb)
    have p0:(j:Int)<a.length:=by omega
    have p1:(j:Int)<b.length:=by omega
    have m0:((j:Int)).toNat=j:=by omega
    have HG2:=HG.out
    rw[getD_drop hx,getD_drop hy]at HG2
    have heq:=fun W=>equal W x y
    clear hr hr' S S' hx hy HG
    cases hs:zcD x y with
    |true=>
     have HR:Hid (r=zaU (a.drop (j+1)) (b.drop (j+1))):=aside (by rw[HG2,zaU,hs];rfl)
     rw[hs]at heq
     clear HG2 hs
     go_wp2
     go_quiet (fail)
     go_wp2
     go_roundw
     case rel=>exact⟨j+1,by omega,by go_num,HR,zai kb _⟩
     case measure=>simp[intOf];omega
    |false=>
     have HR:Hid (r=false):=aside (by rw[HG2,zaU,hs];rfl)
     rw[hs]at heq
     clear HG2 hs
     go_wp2
     go_quiet (fail)
     go_wp2
     go_ret
     exact⟨zae HR.out.symm,zai kb _⟩
   ·have HR:Hid (r=true):=aside (by
     have:=HG.out
     rwa[List.drop_of_length_le (by omega),List.drop_of_length_le (by have:=HL.out;omega)]at this)
    clear S S' HG
    go_wp2
    go_ret
    exact⟨zae HR.out.symm,kb⟩
 ·have t0:((a.length:Int) != (b.length:Int))=true:=by simp;omega
  have HR:Hid (r=false):=aside (HR0.out.symm.trans (zev hl))
  clear hl
  go_enter Tryz.func45,Tryz.ntmps45
  go_wp2
  go_ret
  exact⟨zae HR.out.symm,Below.refl _ _⟩
end Go.Proofs.YtgmdhaepiclkcaaGreatDoor.CtrS
namespace Go.Proofs.YtgmdhaepiclkcaaGreatDoor.RegR
set_option maxHeartbeats 8000000
set_option maxRecDepth 100000
open Go Go.RowKit Byt OpsM OpsK Rise RegM RegL RowS RegW
theorem zfB (a b:Rg) (w:World):
  Calls Tryz.prog 84 #[.agg (rc a),.agg (rc b)] w fun e w'=>e=.returned (.bool (zaV a b))∧Below w.heap.size w w':=by
 have R1:zeN ((w.alloc (.cells (rc a) 62)).alloc (.cells (rc b) 62)) w.heap.size a:=(zeN.new w a _).alloc _
 have R2:zeN ((w.alloc (.cells (rc a) 62)).alloc (.cells (rc b) 62)) (w.heap.size+1) b:=by
  have:=zeN.new (w.alloc (.cells (rc a) 62)) b 62
  simpa using this
 have kb:Below w.heap.size w ((w.alloc (.cells (rc a) 62)).alloc (.cells (rc b) 62)):=((Below.refl _ _).alloc (Nat.le_refl _) _).alloc (by simp) _
 obtain⟨_,c1,c2,c3,c4⟩:=R1.cells
 obtain⟨_,d1,d2,d3,d4⟩:=R2.cells
 clear R1 R2
 obtain⟨r,hr⟩:∃r,zaV a b=r:=⟨_,rfl⟩
 have hn:r=zaV a b:=hr.symm
 rw[hr]
 unfold zaV at hn
 clear hr
 by_cases h1:a.gen=b.gen
 ·have t1:(a.gen != b.gen)=false:=by simpa using h1
  rw[if_neg (by simpa using h1)]at hn
  by_cases h2:a.node=b.node
  ·have t2:(a.node != b.node)=false:=by simpa using h2
   rw[if_neg (by simpa using h2)]at hn
   by_cases h3:a.seq=b.seq
   ·have t3:(a.seq != b.seq)=false:=by simpa using h3
    rw[if_neg (by simpa using h3)]at hn
    have HR:=aside hn
    clear hn h1 h2 h3
    go_enter Tryz.func84,Tryz.ntmps84
    go_wp2
    go_ret
    exact⟨zae ((above _ _).trans HR.out.symm),kb⟩
   ·have t3:(a.seq != b.seq)=true:=by simpa using h3
    rw[if_pos h3]at hn
    have HR:=aside hn
    clear hn h1 h2 h3
    go_enter Tryz.func84,Tryz.ntmps84
    go_wp2
    go_ret
    exact⟨zae HR.out.symm,kb⟩
  ·have t2:(a.node != b.node)=true:=by simpa using h2
   rw[if_pos h2]at hn
   have HR:=aside hn
   clear hn h1 h2
   go_enter Tryz.func84,Tryz.ntmps84
   go_wp2
   go_ret
   exact⟨zae HR.out.symm,kb⟩
 ·have t1:(a.gen != b.gen)=true:=by simpa using h1
  rw[if_pos h1]at hn
  have HR:=aside hn
  clear hn h1
  go_enter Tryz.func84,Tryz.ntmps84
  go_wp2
  go_ret
  exact⟨zae HR.out.symm,kb⟩
theorem zhE (c:Rg) (w:World) (hf:Fit c):
  Calls Tryz.prog 83 #[.agg (rc c)] w fun e w'=>e=.returned (.bool (zeg c))∧Below w.heap.size w w':=by
 have R1:zeN (w.alloc (.cells (rc c) 62)) w.heap.size c:=zeN.new w c _
 have kb:Below w.heap.size w (w.alloc (.cells (rc c) 62)):=(Below.refl _ _).alloc (Nat.le_refl _) _
 obtain⟨c0,c1,c2,c3,c4⟩:=R1.cells
 have ck:=OpsR.key c.key hf.key
 have ce:=OpsR.key c.elem hf.elem
 clear R1 hf
 obtain⟨r,hr⟩:∃r,zeg c=r:=⟨_,rfl⟩
 have hn:r=zeg c:=hr.symm
 rw[hr]
 unfold zeg at hn
 clear hr
 obtain⟨bk,hbk⟩:∃b,zbQ (zan c.key)=b:=⟨_,rfl⟩
 obtain⟨be,hbe⟩:∃b,zbQ (zan c.elem)=b:=⟨_,rfl⟩
 rw[hbk]at ck hn
 rw[hbe]at ce hn
 clear hbk hbe
 cases bk with
 |false=>
  have HR:Hid (r=false):=aside hn
  clear hn
  go_enter Tryz.func83,Tryz.ntmps83
  go_wp2_with (first|(refine(ck _).mono ?_;rintro e w' ⟨rfl,rfl⟩;clear ck)|(refine(ce _).mono ?_;rintro e w' ⟨rfl,rfl⟩;clear ce))
  go_ret
  exact⟨zae HR.out.symm,kb⟩
 |true=>
  cases be with
  |false=>
   have HR:Hid (r=false):=aside hn
   clear hn
   go_enter Tryz.func83,Tryz.ntmps83
   go_wp2_with (first|(refine(ck _).mono ?_;rintro e w' ⟨rfl,rfl⟩;clear ck)|(refine(ce _).mono ?_;rintro e w' ⟨rfl,rfl⟩;clear ce))
   go_ret
   exact⟨zae HR.out.symm,kb⟩
  |true=>
   rw[Bool.true_and,Bool.true_and]at hn
   obtain⟨g,hg⟩:∃g,c.gen=g:=⟨_,rfl⟩
   obtain⟨n,hnn⟩:∃n,c.node=n:=⟨_,rfl⟩
   obtain⟨s,hs⟩:∃s,c.seq=s:=⟨_,rfl⟩
   rw[hg]at c2 hn
   rw[hnn]at c3 hn
   rw[hs]at c4 hn
   clear hg hnn hs
   by_cases p1:0<g
   ·by_cases p2:0≤n
    ·by_cases p3:n<8
     ·have HR:Hid (r=decide (0<s)):=aside (by rw[hn];simp[p1,p2,p3])
      clear hn
      go_enter Tryz.func83,Tryz.ntmps83
      go_wp2_with (first|(refine(ck _).mono ?_;rintro e w' ⟨rfl,rfl⟩;clear ck)|(refine(ce _).mono ?_;rintro e w' ⟨rfl,rfl⟩;clear ce))
      go_ret
      exact⟨zae HR.out.symm,kb⟩
     ·have HR:Hid (r=false):=aside (by rw[hn];simp;omega)
      clear hn
      go_enter Tryz.func83,Tryz.ntmps83
      go_wp2_with (first|(refine(ck _).mono ?_;rintro e w' ⟨rfl,rfl⟩;clear ck)|(refine(ce _).mono ?_;rintro e w' ⟨rfl,rfl⟩;clear ce))
      go_ret
      exact⟨zae HR.out.symm,kb⟩
    ·have HR:Hid (r=false):=aside (by rw[hn];simp;omega)
     clear hn
     go_enter Tryz.func83,Tryz.ntmps83
     go_wp2_with (first|(refine(ck _).mono ?_;rintro e w' ⟨rfl,rfl⟩;clear ck)|(refine(ce _).mono ?_;rintro e w' ⟨rfl,rfl⟩;clear ce))
     go_ret
     exact⟨zae HR.out.symm,kb⟩
   ·have HR:Hid (r=false):=aside (by rw[hn];simp;omega)
    clear hn
    go_enter Tryz.func83,Tryz.ntmps83
    go_wp2_with (first|(refine(ck _).mono ?_;rintro e w' ⟨rfl,rfl⟩;clear ck)|(refine(ce _).mono ?_;rintro e w' ⟨rfl,rfl⟩;clear ce))
    go_ret
    exact⟨zae HR.out.symm,kb⟩
end Go.Proofs.YtgmdhaepiclkcaaGreatDoor.RegR
namespace Go.Proofs.YtgmdhaepiclkcaaGreatDoor.RegG
set_option maxHeartbeats 8000000
set_option maxRecDepth 100000
open Go Go.RowKit Byt OpsM OpsK Rise RegM RegL RowS RegW RegR
theorem zaz (A:Option Addr) (cap:Nat) (l:List Rg) (w:World) (S:SlR E w A cap l) (hf:Fits l):
  Calls Tryz.prog 82 #[.slice A l.length cap] w fun e w'=>e=.returned (.bool (zbd l))∧Below w.heap.size w w':=by
 have hcap:=S.1
 have hmax:l.length≤9223372036854775807:=by have:=S.2.1;unfold maxLen at this;omega
 obtain⟨r,hr0⟩:∃r,zbd l=r:=⟨_,rfl⟩
 rw[hr0]
 have HR0:=aside hr0
 clear hr0
 go_enter Tryz.func82,Tryz.ntmps82
 go_wp2
 go_loopw [3] (fun i wr=>∃j:Nat,j≤l.length∧i=.int .i64 j∧Hid (0<j→zbd (l.take j)=true)∧Below w.heap.size w wr) (fun i _=>l.length - (intOf i).toNat)
 case atStart=>exact⟨0,Nat.zero_le _,rfl,aside (fun h=>absurd h (by omega)),Below.refl _ _⟩
 case round=>
  obtain⟨j,hj,rfl,HM,kb⟩:=hrel
  by_cases hlt:j<l.length
  ·obtain⟨b,off,rfl,hbw,hr⟩:=RegW.plain S (by omega)
   have hx:l[j]?=some l[j]:=List.getElem?_eq_getElem hlt
   have hxm:l[j] ∈ l:=List.getElem_mem hlt
   have hk0:=zhE l[j] wr (hf _ hxm)
   have HJ:=aside (zab (hr j _ hx) kb)
   have p0:(j:Int)<l.length:=by omega
   have m0:((j:Int)).toNat=j:=by omega
   have hno:=fun q=>HR0.out.symm.trans (zhM hlt q)
   have zfP:=fun(m:Nat) (e:m+1=j) (q:ltS (l[m]'(by omega)).key (l[m+1]'(by omega)).key=false)=>HR0.out.symm.trans (zfH (l:=l) (k:=m) (by omega) q)
   have hnext:=fun(m:Nat) (e:m+1=j) (q:zbd (l.take (m+1))=true)=>zfG (l:=l) (k:=m) (by omega) q
   have hfirst:=fun(q:0<l.length)=>zeC (l:=l) q
   obtain⟨kx,hkx⟩:∃b,zeg l[j]=b:=⟨_,rfl⟩
   rw[hkx]at hk0
   have HNo:=aside hno
   have HOk:=aside hkx
   have HFa:=aside zfP
   have HNx:=aside hnext
   have HFi:=aside hfirst
   have HCr:=aside hr
   clear hno zfP hnext hfirst hkx hr hxm hf hx S
   cases kx with
   |false=>
    have HR:Hid (r=false):=aside (HNo.out HOk.out)
    go_wp2_with (first|(refine zas rfl _ rfl _ _ rfl _ HJ.out ?_)|(refine hk0.mono ?_;rintro e w' ⟨rfl,k1⟩;have kc:=kb.trans (k1.mono kb.size)))
    go_quiet (fail)
    go_wp2
    go_ret
    exact⟨zae HR.out.symm,zai kc _⟩
   |true=>
    by_cases hj0:j=0
    ·subst hj0
     have HM2:Hid (0<1→zbd (l.take 1)=true):=aside (fun _=>by rw[HFi.out hlt];exact HOk.out)
     go_wp2_with (first|(refine zas rfl _ rfl _ _ rfl _ HJ.out ?_)|(refine hk0.mono ?_;rintro e w' ⟨rfl,k1⟩;have kc:=kb.trans (k1.mono kb.size)))
     go_quiet (fail)
     go_wp2
     go_roundw
     case rel=>exact⟨1,by omega,by go_num,HM2,zai kc _⟩
     case measure=>simp[intOf];omega
    ·obtain⟨m,hm⟩:∃m,m+1=j:=⟨j - 1,by omega⟩
     have hml:m<l.length:=by omega
     have hy:l[m]?=some (l[m]'hml):=List.getElem?_eq_getElem hml
     have HY:=aside (zab (HCr.out m _ hy) kb)
     have q0:decide (0<(j:Int))=true:=by simp;omega
     have q00:0<j:=by omega
     have HMm:Hid (zbd (l.take (m+1))=true):=aside (by have:=HM.out (by omega);rwa[←hm]at this)
     have q1:(m:Int)<l.length:=by omega
     have q3:((m:Int)).toNat=m:=by omega
     have hwr:IntKind.i64.wrap ((j:Int) - 1)=(m:Int):=by rw[IntKind.wrap_i64];omega
     have HMJ:=aside hm
     clear HM hj0 hy hm
     cases hlt2:ltS (l[m]'hml).key l[j].key with
     |true=>
      have h1:Op.bytesLess l[j].key.toList (l[m]'hml).key.toList=false:=zaA.asymm hlt2
      have h2:=zby (a:=l[j].key) (b:=(l[m]'hml).key) (fun e=>zaA.ne hlt2 e.symm)
      have HM2:Hid (0<j+1→zbd (l.take (j+1))=true):=aside (fun _=>by
       have hm:=HMJ.out
       subst hm
       rw[HNx.out m rfl HMm.out,HOk.out,hlt2];rfl)
      clear hlt2
      go_wp2_with (first|(refine zas rfl _ rfl _ _ rfl _ HJ.out ?_)|(refine hk0.mono ?_;rintro e w' ⟨rfl,k1⟩;have kc:=kb.trans (k1.mono kb.size);obtain⟨c0,_⟩:=cells (zab HJ.out k1);obtain⟨d0,_⟩:=cells (zab HY.out k1)))
      go_quiet (fail)
      go_wp2
      go_roundw
      case rel=>exact⟨j+1,by omega,by go_num,HM2,zai kc _⟩
      case measure=>simp[intOf];omega
     |false=>
      have HR:Hid (r=false):=aside (by have hm:=HMJ.out;subst hm;exact HFa.out m rfl hlt2)
      have h12:(Op.bytesLess l[j].key.toList (l[m]'hml).key.toList=true)∨(Op.bytesLess l[j].key.toList (l[m]'hml).key.toList=false∧(l[j].key.toList == (l[m]'hml).key.toList)=true):=by
       cases hl:Op.bytesLess l[j].key.toList (l[m]'hml).key.toList with
       |true=>exact .inl rfl
       |false=>exact .inr ⟨rfl,zbf (zaA.tri _ _ hl hlt2)⟩
      clear hlt2
      rcases h12 with h1|⟨h1,h2⟩
      all_goals
       go_wp2_with (first|(refine zas rfl _ rfl _ _ rfl _ HJ.out ?_)|(refine hk0.mono ?_;rintro e w' ⟨rfl,k1⟩;have kc:=kb.trans (k1.mono kb.size);obtain⟨c0,_⟩:=cells (zab HJ.out k1);obtain⟨d0,_⟩:=cells (zab HY.out k1)))
       go_quiet (fail)
       go_wp2
       go_ret
       exact⟨zae HR.out.symm,zai kc _⟩
  ·have e:j=l.length:=by omega
   have HR:Hid (r=true):=aside (by
    rw[←HR0.out]
    by_cases h0:0<j
    ·have:=HM.out h0
     rwa[e,List.take_length]at this
    ·have:l=[]:=List.eq_nil_of_length_eq_zero (by omega)
     rw[this];rfl)
   clear S HM
   go_wp2
   go_ret
   exact⟨zae HR.out.symm,kb⟩
end Go.Proofs.YtgmdhaepiclkcaaGreatDoor.RegG
namespace Go.Proofs.YtgmdhaepiclkcaaGreatDoor.RegS
set_option maxHeartbeats 4000000
set_option maxRecDepth 100000
open Go Go.RowKit Byt OpsM OpsK Rise RegM RegL RowS RegW RegR RegG
def zcD (x y:Rg):Bool:=decide (x.key.toList=y.key.toList)&&(decide (x.elem.toList=y.elem.toList)&&(decide (x.gen=y.gen)&&(decide (x.node=y.node)&&decide (x.seq=y.seq))))
theorem zb7 {x y:Rg}:zcD x y=true↔x=y:=by
 unfold zcD
 simp only[Bool.and_eq_true,decide_eq_true_eq]
 constructor
 ·rintro⟨h1,h2,h3,h4,h5⟩
  cases x;cases y
  simp only at h1 h2 h3 h4 h5
  rw[Rise.toList_inj h1,Rise.toList_inj h2,h3,h4,h5]
 ·rintro rfl;exact⟨rfl,rfl,rfl,rfl,rfl⟩
def zaU:List Rg→List Rg→Bool
 |[],[]=>true
 |x::a,y::b=>zcD x y&&zaU a b
 |[],_::_=>false
 |_::_,[]=>false
theorem zbp:∀{a b:List Rg},zaU a b=true↔a=b
 |[],[]=>by simp[zaU]
 |x::a,y::b=>by simp[zaU,zb7,zbp (a:=a) (b:=b)]
 |[],_::_=>by simp[zaU]
 |_::_,[]=>by simp[zaU]
theorem zev {a b:List Rg} (h:a.length≠b.length):zaU a b=false:=by
 cases hs:zaU a b with
 |false=>rfl
 |true=>exact absurd (congrArg List.length (zbp.1 hs)) h
theorem zf0 (d:Nat) (w:World) (a b m n:Int):(Op.equalIn (d+1+1) 43 (.agg #[.int .i64 a,.int .i64 b]) (.agg #[.int .i64 m,.int .i64 n])).run Tryz.prog w=.ok (decide (a=m)&&decide (b=n)) w:=by
 have hE: Tryz.prog.underlying 43=some (.struct (Tryz.prog.fieldsOf 43)):=by kernel_rfl
 rw[run_equalIn_agg w (d+1) 43 _ _ hE (by kernel_rfl)]
 simp only[Program.fieldsOf,Tryz.underlying43]
 go_simp
 by_cases h1:a=m <;> by_cases h2:b=n <;> simp[h1,h2]
theorem zk8 (d:Nat) (w:World) (x y:Rg):(Op.equalIn (d+1+1+1) 62 (.agg (rc x)) (.agg (rc y))).run Tryz.prog w=.ok (zcD x y) w:=by
 have hS: Tryz.prog.underlying 62=some (.struct (Tryz.prog.fieldsOf 62)):=by kernel_rfl
 have hev:=fun W=>zf0 d W x.node x.seq y.node y.seq
 rw[run_equalIn_agg w (d+1+1) 62 _ _ hS (by kernel_rfl)]
 simp only[Program.fieldsOf,Tryz.underlying62,rc]
 go_simp
 unfold zcD
 by_cases h1:x.key.toList=y.key.toList <;> by_cases h2:x.elem.toList=y.elem.toList <;> by_cases h3:x.gen=y.gen <;> by_cases h4:x.node=y.node <;> by_cases h5:x.seq=y.seq <;> simp[h1,h2,h3,h4,h5]
theorem equal (w:World) (x y:Rg):(Op.equalIn 10000 62 (.agg (rc x)) (.agg (rc y))).run Tryz.prog w=.ok (zcD x y) w:=zk8 9997 w x y
theorem zdj (A:Option Addr) (cap:Nat) (a:List Rg) (A':Option Addr) (cap':Nat) (b:List Rg) (w:World) (S:SlR E w A cap a) (S':SlR E w A' cap' b):
  Calls Tryz.prog 46 #[.slice A a.length cap,.slice A' b.length cap'] w fun e w'=>e=.returned (.bool (zaU a b))∧Below w.heap.size w w':=by
 have hmax:a.length≤9223372036854775807:=by have:=S.1;have:=S.2.1;unfold maxLen at this;omega
 have hmax':b.length≤9223372036854775807:=by have:=S'.1;have:=S'.2.1;unfold maxLen at this;omega
 have hcap:=S.1
 have hcap':=S'.1
 obtain⟨r,hr0⟩:∃r,zaU a b=r:=⟨_,rfl⟩
 rw[hr0]
 have HR0:=aside hr0
 clear hr0
 by_cases hl:a.length=b.length
 ·have t0:((a.length:Int) != (b.length:Int))=false:=by simp;omega
  have HL:=aside hl
  clear hl
  go_enter Tryz.func46,Tryz.ntmps46
  go_wp2
  clear t0
  go_loopw [5] (fun i wr=>∃j:Nat,j≤a.length∧i=.int .i64 j∧Hid (r=zaU (a.drop j) (b.drop j))∧Below w.heap.size w wr) (fun i _=>a.length - (intOf i).toNat)
  case atStart=>exact⟨0,Nat.zero_le _,rfl,aside HR0.out.symm,Below.refl _ _⟩
  case round=>
   obtain⟨j,hj,rfl,HG,kb⟩:=hrel
   by_cases hlt:j<a.length
   ·have hlt':j<b.length:=by have:=HL.out;omega
    obtain⟨p,off,rfl,hbw,hr⟩:=RegW.plain S (by omega)
    obtain⟨p',off',rfl,hbw',hr'⟩:=RegW.plain S' (by omega)
    obtain⟨x,hx⟩:∃x,a[j]?=some x:=⟨_,List.getElem?_eq_getElem hlt⟩
    obtain⟨y,hy⟩:∃y,b[j]?=some y:=⟨_,List.getElem?_eq_getElem hlt'⟩
    obtain⟨c0,c1,c2,c3,c4⟩:=cells (zab (hr j x hx) kb)
    obtain⟨d0,d1,d2,d3,d4⟩:=cells (zab (hr' j y hy) kb)
    have p0:(j:Int)<a.length:=by omega
    have p1:(j:Int)<b.length:=by omega
    have m0:((j:Int)).toNat=j:=by omega
    have HG2:=HG.out
    rw[getD_drop hx,getD_drop hy]at HG2
    have heq:=fun W=>equal W x y
    unfold rc at heq
    clear hr hr' S S' hx hy HG
    cases hs:zcD x y with
    |true=>
     have HR:Hid (r=zaU (a.drop (j+1)) (b.drop (j+1))):=aside (by rw[HG2,zaU,hs];rfl)
     rw[hs]at heq
     clear HG2 hs
     go_wp2
     go_quiet (fail)
     go_wp2
     go_roundw
     case rel=>exact⟨j+1,by omega,by go_num,HR,zai kb _⟩
     case measure=>simp[intOf];omega
    |false=>
     have HR:Hid (r=false):=aside (by rw[HG2,zaU,hs];rfl)
     rw[hs]at heq
     clear HG2 hs
     go_wp2
     go_quiet (fail)
     go_wp2
     go_ret
     exact⟨zae HR.out.symm,zai kb _⟩
   ·have HR:Hid (r=true):=aside (by
     have:=HG.out
     rwa[List.drop_of_length_le (by omega),List.drop_of_length_le (by have:=HL.out;omega)]at this)
    clear S S' HG
    go_wp2
    go_ret
    exact⟨zae HR.out.symm,kb⟩
 ·have t0:((a.length:Int) != (b.length:Int))=true:=by simp;omega
  have HR:Hid (r=false):=aside (HR0.out.symm.trans (zev hl))
  clear hl
  go_enter Tryz.func46,Tryz.ntmps46
  go_wp2
  go_ret
  exact⟨zae HR.out.symm,Below.refl _ _⟩
end Go.Proofs.YtgmdhaepiclkcaaGreatDoor.RegS
