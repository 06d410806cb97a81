/- What the project's Newer, alone, May of package reg return | How the project's package reg searches | Plain facts on registers that are put in by keys that do not fall -/
import Derived.Test.YtgmdhaepiclkcaaGreatDoorRegUJ10
import Derived.Test.YtgmdhaepiclkcaaGreatDoorRegLJ5
namespace Go.Proofs.YtgmdhaepiclkcaaGreatDoor.RegB
set_option maxHeartbeats 16000000
set_option maxRecDepth 100000
open Go Go.RowKit Byt OpsM OpsK Rise RegM RegL RowS RowB RegW RegG
theorem zfB (a b:Rg) (w:World):
  Calls Tryz.prog 139 #[.agg (rc a),.agg (rc b)] w fun e w'=>e=.returned (.bool (zaV a b))∧Below w.heap.size w w':=by
 have R1:zeN ((w.alloc (.cells (rc a) 62)).alloc (.cells (rc b) 62)) w.heap.size a:=(zeN.new w a _).alloc _
 have R2:zeN ((w.alloc (.cells (rc a) 62)).alloc (.cells (rc b) 62)) (w.heap.size+1) b:=by
  have:=zeN.new (w.alloc (.cells (rc a) 62)) b 62
  simpa using this
 have kb:Below w.heap.size w ((w.alloc (.cells (rc a) 62)).alloc (.cells (rc b) 62)):=((Below.refl _ _).alloc (Nat.le_refl _) _).alloc (by simp) _
 obtain⟨_,c1,c2,c3,c4⟩:=R1.cells
 obtain⟨_,d1,d2,d3,d4⟩:=R2.cells
 clear R1 R2
 obtain⟨r,hr⟩:∃r,zaV a b=r:=⟨_,rfl⟩
 have hn:r=zaV a b:=hr.symm
 rw[hr]
 unfold zaV at hn
 clear hr
 by_cases h1:a.gen=b.gen
 ·have t1:(a.gen != b.gen)=false:=by simpa using h1
  rw[if_neg (by simpa using h1)]at hn
  by_cases h2:a.node=b.node
  ·have t2:(a.node != b.node)=false:=by simpa using h2
   rw[if_neg (by simpa using h2)]at hn
   by_cases h3:a.seq=b.seq
   ·have t3:(a.seq != b.seq)=false:=by simpa using h3
    rw[if_neg (by simpa using h3)]at hn
    have HR:=aside hn
    clear hn h1 h2 h3
    go_enter Tryz.func139,Tryz.ntmps139
    go_wp2
    go_ret
    exact⟨zae ((above _ _).trans HR.out.symm),kb⟩
   ·have t3:(a.seq != b.seq)=true:=by simpa using h3
    rw[if_pos h3]at hn
    have HR:=aside hn
    clear hn h1 h2 h3
    go_enter Tryz.func139,Tryz.ntmps139
    go_wp2
    go_ret
    exact⟨zae HR.out.symm,kb⟩
  ·have t2:(a.node != b.node)=true:=by simpa using h2
   rw[if_pos h2]at hn
   have HR:=aside hn
   clear hn h1 h2
   go_enter Tryz.func139,Tryz.ntmps139
   go_wp2
   go_ret
   exact⟨zae HR.out.symm,kb⟩
 ·have t1:(a.gen != b.gen)=true:=by simpa using h1
  rw[if_pos h1]at hn
  have HR:=aside hn
  clear hn h1
  go_enter Tryz.func139,Tryz.ntmps139
  go_wp2
  go_ret
  exact⟨zae HR.out.symm,kb⟩
theorem zia (c:Rg) (w:World) (hf:Fit c):
  Calls Tryz.prog 101 #[.agg (rc c)] w fun e w'=>e=.returned (.bool (zeg c))∧Below w.heap.size w w':=by
 have R1:zeN (w.alloc (.cells (rc c) 62)) w.heap.size c:=zeN.new w c _
 have kb:Below w.heap.size w (w.alloc (.cells (rc c) 62)):=(Below.refl _ _).alloc (Nat.le_refl _) _
 obtain⟨c0,c1,c2,c3,c4⟩:=R1.cells
 have ck:=OpsK.key c.key (by have:=hf.key;unfold maxLen;omega)
 have ce:=OpsK.key c.elem (by have:=hf.elem;unfold maxLen;omega)
 clear R1 hf
 obtain⟨r,hr⟩:∃r,zeg c=r:=⟨_,rfl⟩
 have hn:r=zeg c:=hr.symm
 rw[hr]
 unfold zeg at hn
 clear hr
 obtain⟨bk,hbk⟩:∃b,zbQ (zan c.key)=b:=⟨_,rfl⟩
 obtain⟨be,hbe⟩:∃b,zbQ (zan c.elem)=b:=⟨_,rfl⟩
 rw[hbk]at ck hn
 rw[hbe]at ce hn
 clear hbk hbe
 obtain⟨g,hg⟩:∃g,c.gen=g:=⟨_,rfl⟩
 obtain⟨n,hnn⟩:∃n,c.node=n:=⟨_,rfl⟩
 obtain⟨s,hs⟩:∃s,c.seq=s:=⟨_,rfl⟩
 rw[hg]at c2 hn
 rw[hnn]at c3 hn
 rw[hs]at c4 hn
 clear hg hnn hs
 have HN:=aside hn
 clear hn
 have hbe:bk=false∨(bk=true∧(be=false∨(be=true∧(¬0<g∨0<g)))):=by
  cases bk <;> cases be <;> simp <;> omega
 have zdh:¬0≤n∨(0≤n∧(¬n<8∨n<8)):=by omega
 rcases zdh with p2|⟨p2,p3|p3⟩ <;> rcases hbe with rfl|⟨rfl,rfl|⟨rfl,p1|p1⟩⟩
 ·have HR:Hid (r=false):=aside (by rw[HN.out];first|rfl|(simp;done)|(simp;omega))
  clear HN
  go_enter Tryz.func101,Tryz.ntmps101
  go_wp2_with (first|(refine(ck _).mono ?_;rintro e w' ⟨rfl,rfl⟩;clear ck)|(refine(ce _).mono ?_;rintro e w' ⟨rfl,rfl⟩;clear ce))
  go_ret
  exact⟨zae HR.out.symm,kb⟩
 ·have HR:Hid (r=false):=aside (by rw[HN.out];first|rfl|(simp;done)|(simp;omega))
  clear HN
  go_enter Tryz.func101,Tryz.ntmps101
  go_wp2_with (first|(refine(ck _).mono ?_;rintro e w' ⟨rfl,rfl⟩;clear ck)|(refine(ce _).mono ?_;rintro e w' ⟨rfl,rfl⟩;clear ce))
  go_ret
  exact⟨zae HR.out.symm,kb⟩
 ·have HR:Hid (r=false):=aside (by rw[HN.out];first|rfl|(simp;done)|(simp;omega))
  clear HN
  go_enter Tryz.func101,Tryz.ntmps101
  go_wp2_with (first|(refine(ck _).mono ?_;rintro e w' ⟨rfl,rfl⟩;clear ck)|(refine(ce _).mono ?_;rintro e w' ⟨rfl,rfl⟩;clear ce))
  go_ret
  exact⟨zae HR.out.symm,kb⟩
 ·have HR:Hid (r=false):=aside (by rw[HN.out];first|rfl|(simp;done)|(simp;omega))
  clear HN
  go_enter Tryz.func101,Tryz.ntmps101
  go_wp2_with (first|(refine(ck _).mono ?_;rintro e w' ⟨rfl,rfl⟩;clear ck)|(refine(ce _).mono ?_;rintro e w' ⟨rfl,rfl⟩;clear ce))
  go_ret
  exact⟨zae HR.out.symm,kb⟩
 ·have HR:Hid (r=false):=aside (by rw[HN.out];first|rfl|(simp;done)|(simp;omega))
  clear HN
  go_enter Tryz.func101,Tryz.ntmps101
  go_wp2_with (first|(refine(ck _).mono ?_;rintro e w' ⟨rfl,rfl⟩;clear ck)|(refine(ce _).mono ?_;rintro e w' ⟨rfl,rfl⟩;clear ce))
  go_ret
  exact⟨zae HR.out.symm,kb⟩
 ·have HR:Hid (r=false):=aside (by rw[HN.out];first|rfl|(simp;done)|(simp;omega))
  clear HN
  go_enter Tryz.func101,Tryz.ntmps101
  go_wp2_with (first|(refine(ck _).mono ?_;rintro e w' ⟨rfl,rfl⟩;clear ck)|(refine(ce _).mono ?_;rintro e w' ⟨rfl,rfl⟩;clear ce))
  go_ret
  exact⟨zae HR.out.symm,kb⟩
 ·have HR:Hid (r=false):=aside (by rw[HN.out];first|rfl|(simp;done)|(simp;omega))
  clear HN
  go_enter Tryz.func101,Tryz.ntmps101
  go_wp2_with (first|(refine(ck _).mono ?_;rintro e w' ⟨rfl,rfl⟩;clear ck)|(refine(ce _).mono ?_;rintro e w' ⟨rfl,rfl⟩;clear ce))
  go_ret
  exact⟨zae HR.out.symm,kb⟩
 ·have HR:Hid (r=false):=aside (by rw[HN.out];first|rfl|(simp;done)|(simp;omega))
  clear HN
  go_enter Tryz.func101,Tryz.ntmps101
  go_wp2_with (first|(refine(ck _).mono ?_;rintro e w' ⟨rfl,rfl⟩;clear ck)|(refine(ce _).mono ?_;rintro e w' ⟨rfl,rfl⟩;clear ce))
  go_ret
  exact⟨zae HR.out.symm,kb⟩
 ·have HR:Hid (r=false):=aside (by rw[HN.out];first|rfl|(simp;done)|(simp;omega))
  clear HN
  go_enter Tryz.func101,Tryz.ntmps101
  go_wp2_with (first|(refine(ck _).mono ?_;rintro e w' ⟨rfl,rfl⟩;clear ck)|(refine(ce _).mono ?_;rintro e w' ⟨rfl,rfl⟩;clear ce))
  go_ret
  exact⟨zae HR.out.symm,kb⟩
 ·have HR:Hid (r=false):=aside (by rw[HN.out];first|rfl|(simp;done)|(simp;omega))
  clear HN
  go_enter Tryz.func101,Tryz.ntmps101
  go_wp2_with (first|(refine(ck _).mono ?_;rintro e w' ⟨rfl,rfl⟩;clear ck)|(refine(ce _).mono ?_;rintro e w' ⟨rfl,rfl⟩;clear ce))
  go_ret
  exact⟨zae HR.out.symm,kb⟩
 ·have HR:Hid (r=false):=aside (by rw[HN.out];first|rfl|(simp;done)|(simp;omega))
  clear HN
  go_enter Tryz.func101,Tryz.ntmps101
  go_wp2_with (first|(refine(ck _).mono ?_;rintro e w' ⟨rfl,rfl⟩;clear ck)|(refine(ce _).mono ?_;rintro e w' ⟨rfl,rfl⟩;clear ce))
  go_ret
  exact⟨zae HR.out.symm,kb⟩
 ·have HR:Hid (r=decide (0<s)):=aside (by rw[HN.out];simp[p1,p2,p3])
  clear HN
  go_enter Tryz.func101,Tryz.ntmps101
  go_wp2_with (first|(refine(ck _).mono ?_;rintro e w' ⟨rfl,rfl⟩;clear ck)|(refine(ce _).mono ?_;rintro e w' ⟨rfl,rfl⟩;clear ce))
  go_ret
  exact⟨zae HR.out.symm,kb⟩
theorem zaz (A:Option Addr) (cap:Nat) (l:List Rg) (w:World) (S:SlR E w A cap l) (hf:Fits l) (hl:l.length≤100000000):
  Calls Tryz.prog 57 #[.slice A l.length cap] w fun e w'=>e=.returned (.bool (zbd l))∧Below w.heap.size w w':=by
 have hcap:=S.1
 obtain⟨r,hr0⟩:∃r,zbd l=r:=⟨_,rfl⟩
 rw[hr0]
 have HR0:=aside hr0
 clear hr0
 go_enter Tryz.func57,Tryz.ntmps57
 go_wp2
 go_loopw [7] (fun i wr=>∃j:Nat,j≤l.length∧i=.int .i64 j∧Hid (0<j→zbd (l.take j)=true)∧Below w.heap.size w wr) (fun i _=>l.length - (intOf i).toNat)
 case atStart=>exact⟨0,Nat.zero_le _,rfl,aside (fun h=>absurd h (by omega)),Below.refl _ _⟩
 case round=>
  obtain⟨j,hj,rfl,HM,kb⟩:=hrel
  by_cases hlt:j<l.length
  ·obtain⟨b,off,rfl,hbw,hr⟩:=RegW.plain S (by omega)
   have hx:l[j]?=some l[j]:=List.getElem?_eq_getElem hlt
   have hxm:l[j] ∈ l:=List.getElem_mem hlt
   have hk0:=fun W=>zia l[j] W (hf _ hxm)
   have HJ:=aside (zab (hr j _ hx) kb)
   have p0:(j:Int)<l.length:=by omega
   have m0:((j:Int)).toNat=j:=by omega
   have hno:=fun q=>HR0.out.symm.trans (zhM hlt q)
   have zfP:=fun(m:Nat) (e:m+1=j) (q:ltS (l[m]'(by omega)).key (l[m+1]'(by omega)).key=false)=>HR0.out.symm.trans (zfH (l:=l) (k:=m) (by omega) q)
   have hnext:=fun(m:Nat) (e:m+1=j) (q:zbd (l.take (m+1))=true)=>zfG (l:=l) (k:=m) (by omega) q
   have hfirst:=fun(q:0<l.length)=>zeC (l:=l) q
   obtain⟨kx,hkx⟩:∃b,zeg l[j]=b:=⟨_,rfl⟩
   rw[hkx]at hk0
   have HNo:=aside hno
   have HOk:=aside hkx
   have HFa:=aside zfP
   have HNx:=aside hnext
   have HFi:=aside hfirst
   have HCr:=aside hr
   clear hno zfP hnext hfirst hkx hr hxm hf hx S
   cases kx with
   |false=>
    have HR:Hid (r=false):=aside (HNo.out HOk.out)
    go_wp2_with (first
     |(refine(hk0 _).mono ?_;rintro e w' ⟨rfl,k1⟩;have k3:=k2.trans (k1.mono k2.size);clear k1)
     |(refine zal E rfl _ rfl b _ rfl l[j] HJ.out ?_)
     |(refine zaa E rfl _ rfl _ rfl l[j] bx ?_)
     |(refine zac E rfl _ _ rfl _ _ _ rfl l[j] _ rfl rfl rfl rfl ?_;intro w2 bx kx gx sx;have k2:=kb.trans (kx.mono kb.size);clear kx gx))
    go_ret
    exact⟨zae HR.out.symm,k3⟩
   |true=>
    by_cases hj0:j=0
    ·subst hj0
     have HM2:Hid (0<1→zbd (l.take 1)=true):=aside (fun _=>by rw[HFi.out hlt];exact HOk.out)
     have HJ0:Hid (wr.rangeAt b off (E.enc (l[0]'hlt))):=aside (by have:=HJ.out;simpa using this)
     clear HJ
     go_wp2_with (first
      |(refine(hk0 _).mono ?_;rintro e w' ⟨rfl,k1⟩;have k3:=k2.trans (k1.mono k2.size);have c0:=(bx.below k1).cell (j:=0) rfl;clear k1)
      |(refine zal E rfl _ rfl b _ rfl (l[0]'hlt) HJ0.out ?_)
      |(refine zaa E rfl _ rfl _ rfl (l[0]'hlt) bx ?_)
      |(refine zac E rfl _ _ rfl _ _ _ rfl (l[0]'hlt) _ rfl rfl rfl rfl ?_;intro w2 bx kx gx sx;have k2:=kb.trans (kx.mono kb.size);clear kx gx))
     go_quiet (fail)
     go_wp2
     go_roundw
     case rel=>exact⟨1,by omega,by go_num,HM2,zai k3 _⟩
     case measure=>simp[intOf];omega
    ·obtain⟨m,hm⟩:∃m,m+1=j:=⟨j - 1,by omega⟩
     have hml:m<l.length:=by omega
     have hy:l[m]?=some (l[m]'hml):=List.getElem?_eq_getElem hml
     have HY:=aside (HCr.out m _ hy)
     have q0:decide (0<(j:Int))=true:=by simp;omega
     have q00:0<j:=by omega
     have HMm:Hid (zbd (l.take (m+1))=true):=aside (by have:=HM.out (by omega);rwa[←hm]at this)
     have q1:(m:Int)<l.length:=by omega
     have q3:((m:Int)).toNat=m:=by omega
     have hwr:IntKind.i64.wrap ((j:Int) - 1)=(m:Int):=by rw[IntKind.wrap_i64];omega
     have HMJ:=aside hm
     clear HM hj0 hy hm
     cases hlt2:ltS (l[m]'hml).key l[j].key with
     |true=>
      have h1:Op.bytesLess (l[m]'hml).key.toList l[j].key.toList=true:=hlt2
      have HM2:Hid (0<j+1→zbd (l.take (j+1))=true):=aside (fun _=>by
       have hm:=HMJ.out
       subst hm
       rw[HNx.out m rfl HMm.out,HOk.out,hlt2];rfl)
      clear hlt2
      go_wp2_with (first
       |(refine(hk0 _).mono ?_;rintro e w' ⟨rfl,k1⟩;have k3:=k2.trans (k1.mono k2.size);have c0:=(bx.below k1).cell (j:=0) rfl;have d0:=(cells (zab HY.out k3)).1;clear k1)
       |(refine zal E rfl _ rfl b _ rfl l[j] HJ.out ?_)
       |(refine zaa E rfl _ rfl _ rfl l[j] bx ?_)
       |(refine zac E rfl _ _ rfl _ _ _ rfl l[j] _ rfl rfl rfl rfl ?_;intro w2 bx kx gx sx;have k2:=kb.trans (kx.mono kb.size);clear kx gx))
      go_quiet (fail)
      go_wp2
      go_roundw
      case rel=>exact⟨j+1,by omega,by go_num,HM2,zai k3 _⟩
      case measure=>simp[intOf];omega
     |false=>
      have HR:Hid (r=false):=aside (by have hm:=HMJ.out;subst hm;exact HFa.out m rfl hlt2)
      have h1:Op.bytesLess (l[m]'hml).key.toList l[j].key.toList=false:=hlt2
      clear hlt2
      go_wp2_with (first
       |(refine(hk0 _).mono ?_;rintro e w' ⟨rfl,k1⟩;have k3:=k2.trans (k1.mono k2.size);have c0:=(bx.below k1).cell (j:=0) rfl;have d0:=(cells (zab HY.out k3)).1;clear k1)
       |(refine zal E rfl _ rfl b _ rfl l[j] HJ.out ?_)
       |(refine zaa E rfl _ rfl _ rfl l[j] bx ?_)
       |(refine zac E rfl _ _ rfl _ _ _ rfl l[j] _ rfl rfl rfl rfl ?_;intro w2 bx kx gx sx;have k2:=kb.trans (kx.mono kb.size);clear kx gx))
      go_quiet (fail)
      go_wp2
      go_ret
      exact⟨zae HR.out.symm,zai k3 _⟩
  ·have e:j=l.length:=by omega
   have HR:Hid (r=true):=aside (by
    rw[←HR0.out]
    by_cases h0:0<j
    ·have:=HM.out h0
     rwa[e,List.take_length]at this
    ·have:l=[]:=List.eq_nil_of_length_eq_zero (by omega)
     rw[this];rfl)
   clear S HM
   go_wp2
   go_ret
   exact⟨zae HR.out.symm,kb⟩
end Go.Proofs.YtgmdhaepiclkcaaGreatDoor.RegB
namespace Go.Proofs.YtgmdhaepiclkcaaGreatDoor.RegC
set_option maxHeartbeats 4000000
set_option maxRecDepth 100000
open Go Go.RowKit Byt OpsM OpsK Rise RegM RegL RowS RowB RegW RegG
theorem zpe (k:ByteArray) (c:Rg) (w:World):
  Calls Tryz.prog 141 #[.string k,.agg (rc c)] w fun e w'=>e=.returned (.bool (ltS k c.key))∧Below w.heap.size w w':=by
 have R1:zeN (w.alloc (.cells (rc c) 62)) w.heap.size c:=zeN.new w c _
 have kb:Below w.heap.size w (w.alloc (.cells (rc c) 62)):=(Below.refl _ _).alloc (Nat.le_refl _) _
 obtain⟨c0,c1,c2,c3,c4⟩:=R1.cells
 clear R1
 go_enter Tryz.func141,Tryz.ntmps141
 go_wp2
 go_ret
 exact⟨rfl,kb⟩
theorem zcn {k:IntKind} {a b:Int} (h:a=b):Ending.returned (.int k a)=.returned (.int k b):=by rw[h]
def zd5 (p:Rg→Bool) (l:List Rg):Int:=match l.findIdx? p with|none=>-1|some i=>i
theorem zoH {p:Rg→Bool} {l:List Rg} {j:Nat} (hj:j<l.length) (hp:p l[j]=true) (hn:∀i (h:i<j),p (l[i]'(by omega))=false):zd5 p l=j:=by
 have:l.findIdx? p=some j:=by
  rw[List.findIdx?_eq_some_iff_getElem]
  exact⟨hj,hp,fun i hi=>by simp[hn i hi]⟩
 unfold zd5
 rw[this]
theorem zmW {p:Rg→Bool} {l:List Rg} (hn:∀i (h:i<l.length),p l[i]=false):zd5 p l= -1:=by
 have:l.findIdx? p=none:=by
  rw[List.findIdx?_eq_none_iff]
  intro x hx
  obtain⟨i,hi,rfl⟩:=List.mem_iff_getElem.1 hx
  exact hn i hi
 unfold zd5
 rw[this]
theorem hmf (fn:Fn) (first cap:Array Value) (w:World):(Instr.makeFunc fn first cap).run Tryz.prog w=.ok (.func fn first cap) w:=rfl
theorem zkZ (A:Option Addr) (cap:Nat) (l:List Rg) (k:ByteArray) (w:World) (S:SlR E w A cap l) (hl:l.length≤100000000):
  Calls Tryz.prog 140 #[.slice A l.length cap,.func (.func 141) #[.string k] #[]] w fun e w'=>e=.returned (.int .i64 (zd5 (fun c=>ltS k c.key) l))∧Below w.heap.size w w':=by
 have hcap:=S.1
 obtain⟨R,hR⟩:∃R,zd5 (fun c=>ltS k c.key) l=R:=⟨_,rfl⟩
 rw[hR]
 have HR:=aside hR
 clear hR
 go_enter Tryz.func140,Tryz.ntmps140
 go_wp2
 go_loopw [8] (fun i wr=>∃j:Nat,j≤l.length∧i=.int .i64 j∧Hid (∀i (h:i<j) (h2:i<l.length),(fun c=>ltS k c.key) l[i]=false)∧Below w.heap.size w wr) (fun i _=>l.length - (intOf i).toNat)
 case atStart=>exact⟨0,Nat.zero_le _,rfl,aside (fun i h=>absurd h (by omega)),Below.refl _ _⟩
 case round=>
  obtain⟨j,hj,rfl,HN,kb⟩:=hrel
  by_cases hlt:j<l.length
  ·obtain⟨b,off,rfl,hbw,hr⟩:=RegW.plain S (by omega)
   have hx:l[j]?=some l[j]:=List.getElem?_eq_getElem hlt
   have hr1:=zab (hr j _ hx) kb
   have p0:(j:Int)<l.length:=by omega
   have m0:((j:Int)).toNat=j:=by omega
   have cc:=fun W=>zpe k l[j] W
   clear hr S hx
   obtain⟨y,hy⟩:∃y,(fun c=>ltS k c.key) l[j]=y:=⟨_,rfl⟩
   have HY:=aside hy
   simp only at hy
   rw[hy]at cc
   clear hy
   cases y with
   |true=>
    have HR2:Hid (R=(j:Int)):=aside (by rw[←HR.out];exact zoH hlt HY.out (fun i h=>HN.out i h (by omega)))
    go_wp2_with (first
     |(refine zal E rfl _ rfl b _ rfl l[j] hr1 ?_)
     |(refine(cc _).mono ?_;rintro e w' ⟨rfl,k1⟩;have k2:=kb.trans (k1.mono kb.size);clear k1))
    go_ret
    exact⟨zcn HR2.out.symm,k2⟩
   |false=>
    go_wp2_with (first
     |(refine zal E rfl _ rfl b _ rfl l[j] hr1 ?_)
     |(refine(cc _).mono ?_;rintro e w' ⟨rfl,k1⟩;have k2:=kb.trans (k1.mono kb.size);clear k1))
    go_roundw
    case rel=>
     refine⟨j+1,by omega,by go_num,aside (fun i h h2=>?_),k2⟩
     by_cases e:i=j
     ·subst e;exact HY.out
     ·exact HN.out i (by omega) h2
    case measure=>simp[intOf];omega
  ·have HR2:Hid (R= -1):=aside (by rw[←HR.out];exact zmW (fun i h=>HN.out i (by omega) h))
   clear S HN
   go_wp2
   go_ret
   exact⟨zcn HR2.out.symm,kb⟩
def upN (k:ByteArray) (l:List Rg):Nat:=match l.findIdx? (fun c=>ltS k c.key)with|none=>l.length|some i=>i
theorem upN_le (k:ByteArray) (l:List Rg):upN k l≤l.length:=by
 unfold upN
 cases h:l.findIdx? (fun c=>ltS k c.key)with
 |none=>exact Nat.le_refl _
 |some i=>
  rw[List.findIdx?_eq_some_iff_getElem]at h
  obtain⟨hi,_⟩:=h
  simp only
  omega
theorem zpG (k:ByteArray) (l:List Rg):(zd5 (fun c=>ltS k c.key) l= -1∧upN k l=l.length)∨∃i:Nat,zd5 (fun c=>ltS k c.key) l=i∧upN k l=i:=by
 unfold zd5 upN
 cases h:l.findIdx? (fun c=>ltS k c.key)with
 |none=>exact .inl ⟨rfl,rfl⟩
 |some i=>exact .inr ⟨i,rfl,rfl⟩
theorem zpH {k:ByteArray} {l:List Rg}:∀x ∈ l.take (upN k l),ltS k x.key=false:=by
 intro x hx
 obtain⟨i,hi⟩:=List.mem_iff_getElem?.1 hx
 rw[List.getElem?_take]at hi
 split at hi
 ·rename_i hlt
  unfold upN at hlt
  cases h:l.findIdx? (fun c=>ltS k c.key)with
  |none=>
   rw[List.findIdx?_eq_none_iff]at h
   exact h x (List.mem_of_getElem? hi)
  |some n=>
   rw[h]at hlt
   rw[List.findIdx?_eq_some_iff_getElem]at h
   obtain⟨hn,hp,hno⟩:=h
   obtain⟨h2,rfl⟩:=List.getElem?_eq_some_iff.1 hi
   simpa using hno i hlt
 ·cases hi
theorem znj {k:ByteArray} {l:List Rg} (hr:Rises Rg.key ltS l):∀x ∈ l.drop (upN k l),ltS k x.key=true:=by
 intro x hx
 unfold upN at hx
 cases h:l.findIdx? (fun c=>ltS k c.key)with
 |none=>
  rw[h]at hx
  simp at hx
 |some n=>
  rw[h]at hx
  simp only at hx
  rw[List.findIdx?_eq_some_iff_getElem]at h
  obtain⟨hn,hp,hno⟩:=h
  have hd:=List.drop_eq_getElem_cons hn
  rw[hd]at hx
  have hrd:Rises Rg.key ltS (l.drop n):=List.Pairwise.drop hr
  rw[hd]at hrd
  rcases List.mem_cons.1 hx with rfl|hx
  ·exact hp
  ·exact zaA.trans _ _ _ hp ((List.pairwise_cons.1 hrd).1 x hx)
theorem zpD (A:Option Addr) (cap:Nat) (l:List Rg) (k:ByteArray) (w:World) (S:SlR E w A cap l) (hl:l.length≤100000000):
  Calls Tryz.prog 96 #[.slice A l.length cap,.string k] w fun e w'=>e=.returned (.int .i64 (upN k l))∧Below w.heap.size w w':=by
 have ci:=zkZ A cap l k w S hl
 have hmk:=hmf
 rcases zpG k l with⟨h1,h2⟩|⟨i,h1,h2⟩
 ·rw[h1]at ci
  rw[h2]
  clear h1 h2
  go_enter Tryz.func96,Tryz.ntmps96
  go_wp2_with fail
  refine ci.mono ?_
  rintro e w1 ⟨rfl,k1⟩
  go_wp2
  go_ret
  exact⟨rfl,k1⟩
 ·rw[h1]at ci
  rw[h2]
  clear h1 h2
  have hi:¬((i:Int)<0):=by omega
  go_enter Tryz.func96,Tryz.ntmps96
  go_wp2_with fail
  refine ci.mono ?_
  rintro e w1 ⟨rfl,k1⟩
  go_wp2
  go_ret
  exact⟨rfl,k1⟩
end Go.Proofs.YtgmdhaepiclkcaaGreatDoor.RegC
namespace Go.Proofs.YtgmdhaepiclkcaaGreatDoor.RegE
set_option maxRecDepth 100000
open Go Byt OpsM Rise RegM RegL
def zhh (l:List Rg) (r:Rg):List Rg:=match l.getLast? with
 |none=>[r]
 |some y=>if y.key≠r.key then l++[r]else l.dropLast++[best r y]
theorem zmq (r:Rg):zhh [] r=[r]:=rfl
theorem zic (l:List Rg) (y r:Rg):zhh (l++[y]) r=if y.key≠r.key then l++[y]++[r]else l++[best r y]:=by
 unfold zhh
 rw[List.getLast?_concat]
 simp
theorem zlj (l:List Rg) (r:Rg):(zhh l r).length≤l.length+1:=by
 rcases List.eq_nil_or_concat l with rfl|⟨m,y,rfl⟩
 ·simp[zmq]
 ·rw[List.concat_eq_append,zic]
  split <;> simp
theorem ze1:∀(m l:List Rg),(m.foldl zhh l).length≤l.length+m.length
 |[],_=>by simp
 |c::m,l=>by
  have h1:=ze1 m (zhh l c)
  have h2:=zlj l c
  rw[List.foldl_cons,List.length_cons]
  omega
theorem zkY {r:Rg}:∀{l m:List Rg},(∀x ∈ l,ltS x.key r.key=true)→ins r false (l++m)=l++ins r false m
 |[],_,_=>rfl
 |x::l,m,h=>by
  have hx:=h x (by simp)
  rw[List.cons_append,ins,zaA.asymm hx,if_neg (by simp),if_pos (zaA.ne hx),Bool.or_false,zkY (fun y hy=>h y (by simp[hy]))]
  rfl
theorem zpf {l:List Rg} {r:Rg} (hl:zbd l=true) (hr:zeg r=true) (h:∀x ∈ l,ltS r.key x.key=false):zhh l r=zen l r:=by
 rw[put_is hl hr]
 rcases List.eq_nil_or_concat l with rfl|⟨m,y,rfl⟩
 ·simp[zmq,ins]
 ·rw[List.concat_eq_append]at hl h ⊢
  have hrise:=(zbu.1 hl).2
  have hm:∀x ∈ m,ltS x.key y.key=true:=fun x hx=>(List.pairwise_append.1 hrise).2.2 x hx y (by simp)
  have hy:=h y (by simp)
  rw[zic]
  by_cases hk:y.key=r.key
  ·rw[if_neg (by simp[hk]),zkY (fun x hx=>by rw[←hk];exact hm x hx),ins,hy,if_neg (by simp),if_neg (by simp[hk])]
   rfl
  ·have hlt:ltS y.key r.key=true:=by
    cases q:ltS y.key r.key with
    |true=>rfl
    |false=>exact absurd (zaA.tri _ _ q hy) hk
   rw[if_pos hk,List.append_assoc,zkY (fun x hx=>zaA.trans _ _ _ (hm x hx) hlt),ins,hy,if_neg (by simp),if_pos hk]
   simp[ins]
theorem zc8 {a b:List Rg} (ha:zbd a=true) (hb:zbd b=true) {x:Rg} (hx:x ∈ zaQ a b):x ∈ a∨x ∈ b:=by
 have h:=zeZ (zbu.1 (za3 a b)).2 hx
 rw[zcz ha hb]at h
 cases hb2:zcQ b x.key with
 |none=>
  rw[hb2]at h
  exact .inl (zbG h).1
 |some y=>
  rw[hb2]at h
  cases ha2:zcQ a x.key with
  |none=>
   rw[ha2]at h
   injection h with h
   rw[←h]
   exact .inr (zbG hb2).1
  |some z=>
   rw[ha2]at h
   injection h with h
   rcases zjz y z with e|e
   ·rw[←h,e];exact .inr (zbG hb2).1
   ·rw[←h,e];exact .inl (zbG ha2).1
theorem zc9 {a m:List Rg} (h:zbd (a++m)=true):zbd a=true∧zbd m=true∧∀x ∈ a,∀y ∈ m,ltS x.key y.key=true:=by
 obtain⟨h1,h2⟩:=zbu.1 h
 obtain⟨p,q,s⟩:=List.pairwise_append.1 h2
 exact⟨zbu.2 ⟨fun c hc=>h1 c (by simp[hc]),p⟩,zbu.2 ⟨fun c hc=>h1 c (by simp[hc]),q⟩,s⟩
theorem zn5 {l:List Rg} (h:zbd l=true) {x:Rg} (hx:x ∈ l):zeg x=true:=(zbu.1 h).1 x hx
theorem zgx {a b:List Rg} {r:Rg} (ha:zbd a=true) (hb:zbd (b++[r])=true):zaQ a (b++[r])=zen (zaQ a b) r:=by
 obtain⟨h1,_,_⟩:=zc9 hb
 unfold zaQ
 rw[if_pos ⟨ha,hb⟩,if_pos ⟨ha,h1⟩,List.foldl_append]
 rfl
theorem zjW {a b:List Rg} {r:Rg} (ha:zbd (a++[r])=true) (hb:zbd b=true):zaQ (a++[r]) b=zen (zaQ a b) r:=by
 obtain⟨h1,_,_⟩:=zc9 ha
 rw[ziu ha hb,zgx hb ha,ziu hb h1]
theorem step_b {a b:List Rg} {r:Rg} (ha:zbd a=true) (hb:zbd (b++[r])=true) (h:∀x ∈ a,ltS r.key x.key=false):zhh (zaQ a b) r=zaQ a (b++[r]):=by
 obtain⟨h1,_,h3⟩:=zc9 hb
 rw[zgx ha hb]
 refine zpf (za3 a b) (zn5 hb (by simp)) (fun x hx=>?_)
 rcases zc8 ha h1 hx with q|q
 ·exact h x q
 ·exact zaA.asymm (h3 x q r (by simp))
theorem step_a {a b:List Rg} {r:Rg} (ha:zbd (a++[r])=true) (hb:zbd b=true) (h:∀x ∈ b,ltS r.key x.key=false):zhh (zaQ a b) r=zaQ (a++[r]) b:=by
 obtain⟨h1,_,h3⟩:=zc9 ha
 rw[zjW ha hb]
 refine zpf (za3 a b) (zn5 ha (by simp)) (fun x hx=>?_)
 rcases zc8 h1 hb hx with q|q
 ·exact zaA.asymm (h3 x q r (by simp))
 ·exact h x q
theorem zkB {b:List Rg} (hb:zbd b=true):∀{m a:List Rg},zbd (a++m)=true→(∀r ∈ m,∀x ∈ b,ltS r.key x.key=false)→m.foldl zhh (zaQ a b)=zaQ (a++m) b
 |[],a,_,_=>by simp
 |r::m,a,ha,h=>by
  have e:a++r::m=(a++[r])++m:=by simp
  rw[e]at ha
  rw[List.foldl_cons,step_a (zc9 ha).1 hb (h r (by simp)),zkB hb ha (fun r2 hr2=>h r2 (by simp[hr2])),e]
end Go.Proofs.YtgmdhaepiclkcaaGreatDoor.RegE
