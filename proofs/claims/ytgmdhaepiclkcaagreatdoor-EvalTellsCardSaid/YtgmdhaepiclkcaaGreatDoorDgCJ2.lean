/- What the document's Closed of package dag returns | What the document's answers Sort, Both, Common and Without return -/
import Derived.Test.YtgmdhaepiclkcaaGreatDoorDgKJ2
import Derived.Test.YtgmdhaepiclkcaaGreatDoorIdVJ2
import Derived.Test.YtgmdhaepiclkcaaGreatDoorRefEJ9
import Derived.Maps.AppendAt
namespace Go.Proofs.YtgmdhaepiclkcaaGreatDoor.DgC
set_option maxHeartbeats 64000000
set_option maxRecDepth 100000
open Go Go.Sort Go.RowKit Byt IdM IdW OpsM OpsW CmM StW CmW CmX CmY DgM DgN DgP DgW DgT DgR DgK DgO
open Classical
def Pair (l:List Com) (all:List Idn) (i j:Nat) (c d:Com):Prop:=c.node=d.node→c.seq≠d.seq∧(d.seq<c.seq→KnI l all i j)∧(c.seq<d.seq→KnI l all j i)
theorem zgF {w:World} {b off:Nat} {x:Cv} (h:w.rangeAt b off (cc x).toList):w.cell? ⟨b,off,none⟩=some (.int .i64 x.c.node):=by
 have:=h 0 _ rfl
 rwa[Nat.add_zero]at this
theorem zh5 {w:World} {b off:Nat} {x:Cv} (h:w.rangeAt b off (cc x).toList):w.cell? ⟨b,off+1,none⟩=some (.int .i64 x.c.seq):=h 1 _ rfl
theorem zjs {l:List Com} (h:l.all zbn=true):zgj l=l.map zaj:=by rw[zgj,if_pos h]
theorem idsD_no {l:List Com} (h:l.all zbn=false):zgj l=[]:=by rw[zgj,if_neg (by rw[h];simp)]
theorem zcZ (A:Option Addr) (cap:Nat) (l:List Cv) (w:World) (S:SlK w A cap l) (ho:∀v ∈ l,CmR.zkr v.c) (hl:l.length≤1000):
  Calls Tryz.prog 35 #[.slice A l.length cap] w fun e w'=>e=.returned (.bool (decide (Closed zaj (zar l))))∧Below w.heap.size w w':=by
 have hmax:=S.len
 have zih:=zdy A cap l w S ho hl
 unfold zne at zih
 obtain⟨rb,hrb⟩:∃b,decide (Closed zaj (zar l))=b:=⟨_,rfl⟩
 rw[hrb]
 cases ham:(zar l).all zbn with
 |false=>
  rw[idsD_no ham]at zih
  have hpos:0<l.length:=by
   cases l with
   |nil=>cases ham
   |cons x l=>simp
  have HX:Hid (rb=false):=aside (by
   rw[←hrb]
   refine decide_eq_false fun C=>?_
   rw[List.all_eq_true.2 fun c hc=>C.may c hc]at ham
   cases ham)
  have hne:((0:Int) != (l.length:Int))=true:=by simp;omega
  clear S ho hrb ham
  go_enter Tryz.func35,Tryz.ntmps35
  go_wp2_with (first|go_skip)
  refine zih.mono ?_
  rintro e w1 ⟨A1,c1,rfl,S1,k1⟩
  clear zih
  go_wp2_with (first|go_skip)
  go_ret
  exact⟨StW.zae HX.out.symm,k1⟩
 |true=>
  rw[zjs ham]at zih
  have hmay:∀c ∈ zar l,zbn c=true:=List.all_eq_true.1 ham
  have hgen:∀c ∈ zar l,c.gen≤1048576:=fun c hc=>(za6.1 (za0.1 (hmay c hc)).1).2.1
  have HR:Hid (rb=decide (∀i c,(zar l)[i]?=some c→zna (zar l) ((zar l).map zaj) i c)):=aside (by rw[←hrb];exact decide_eq_decide.2 (zm0 hmay))
  obtain⟨all,hal⟩:∃all,(zar l).map zaj=all:=⟨_,rfl⟩
  have hall:all.length=l.length:=by rw[←hal,List.length_map,zaw]
  rw[hal]at zih HR
  have HO:=aside ho
  have HGEN:=aside hgen
  have zgs:=aside hall
  have HLEN:Hid ((zar l).length=l.length):=aside (zaw l)
  clear hrb ham hmay hgen hal ho
  rw[hall]at zih
  go_enter Tryz.func35,Tryz.ntmps35
  go_wp2_with (first|go_skip)
  refine zih.mono ?_
  rintro e w1 ⟨A1,c1,rfl,T1,k1⟩
  have hkn:=zhQ A A1 cap c1 l all w1 (S.below k1) T1 hall hl
  unfold NewT at hkn
  rw[zaw,hall]at hkn
  clear zih hall
  go_wp2_with (first|go_skip)
  refine hkn.mono ?_
  rintro e w2 ⟨v,gs,K,rfl,hgl,TB,hW,k2⟩
  have b2:=k1.trans (k2.mono k1.size)
  have HS:=aside (S.below b2)
  have HT:=aside (T1.below k2)
  have HTB:=aside TB
  have HW:=aside hW
  have HGL:=aside hgl
  clear hkn T1 TB hW hgl S k1 k2
  go_wp2_with (first|go_skip)
  go_loopw [5] (fun i wr=>∃k:Nat,k≤l.length∧i=.int .i64 k∧Hid (∀i' c,i'<k→(zar l)[i']?=some c→zna (zar l) all i' c)∧Below w2.heap.size w2 wr) (fun i _=>l.length - (intOf i).toNat)
  case atStart=>exact⟨0,Nat.zero_le _,rfl,aside (fun i' c hi'=>absurd hi' (Nat.not_lt_zero _)),Below.refl _ _⟩
  case round=>
   obtain⟨k,hk,rfl,HF,kb⟩:=hrel
   by_cases hlt:k<l.length
   ·obtain⟨b,off,rfl,hbw,hrg⟩:=HS.out.plain (by omega)
    obtain⟨x,hx⟩:∃x,l[k]?=some x:=⟨_,List.getElem?_eq_getElem hlt⟩
    have hxm:=List.mem_of_getElem? hx
    obtain⟨a1,o1,rfl,hb1,hr1⟩:=SlI.plain HT.out (by rw[zgs.out];omega)
    obtain⟨a,ha⟩:∃a,all[k]?=some a:=⟨_,List.getElem?_eq_getElem (by rw[zgs.out];exact hlt)⟩
    have ra0:=hr1 k (by rw[zgs.out];exact hlt)
    rw[show all.getD k nought=a by rw[List.getD_eq_getElem?_getD,ha];rfl]at ra0
    have rx:=zaL (hrg k x hx) kb
    have HRG:=aside hrg
    have HX1:=aside (zbH hx)
    have HLX:=aside hx
    have HA1:=aside ha
    have p0:(k:Int)<l.length:=by omega
    have m0:((k:Int)).toNat=k:=by omega
    have hmg:=CmR.zaW x _ ((HS.out.each x hxm).1.below kb) (HO.out x hxm)
    have hone:=fun W (hb:Below w2.heap.size w2 W)=>zhE (some ⟨b,off,none⟩) (some ⟨a1,o1,none⟩) cap c1 l all v gs K w1.heap.size k x W (HS.out.below hb) (HT.out.below hb) (HTB.out.below hb) HGL.out HW.out zgs.out HGEN.out hx
    have hat:=fun W (hb:Below w2.heap.size w2 W)=>DgR.at_ret (some ⟨a1,o1,none⟩) c1 all a W (HT.out.below hb)
    rw[zgs.out]at hone hat
    obtain⟨z1,hz1⟩:∃z,isM x.c=z:=⟨_,rfl⟩
    obtain⟨z2,hz2⟩:∃z,decide (OneI (zar l) all x.c)=z:=⟨_,rfl⟩
    rw[hz1]at hmg
    rw[hz2]at hone
    have HZ1:=aside hz1
    have HZ2:=aside hz2
    clear hrg hr1 hz1 hz2 ha hxm hx
    go_wp2_with (first|go_skip|(refine zbF rfl _ rfl _ _ rfl x rx ?_))
    refine hmg.mono ?_
    rintro e w3 ⟨rfl,k3⟩
    have b3:=kb.trans (k3.mono kb.size)
    clear hmg kb k3 rx
    go_wp2_with (first|go_skip)
    refine(hone _ b3).mono ?_
    rintro e w4 ⟨rfl,k4⟩
    have b4:=b3.trans (k4.mono b3.size)
    clear hone b3 k4
    have ra:=IdW.zab ra0 b4
    have hzz:(z1=true∨(z1=false∧z2=false))∨(z1=false∧z2=true):=by cases z1 <;> cases z2 <;> simp
    rcases hzz with hzz|⟨rfl,rfl⟩
    ·have HX:Hid (rb=false):=aside (by
      rw[HR.out]
      refine decide_eq_false fun h=>?_
      have hf:=h k x.c HX1.out
      rcases hzz with rfl|⟨_,rfl⟩
      ·rw[hf.merge]at HZ1
       cases HZ1.out
      ·exact absurd hf.one (of_decide_eq_false HZ2.out))
     clear HF hat ra
     rcases hzz with rfl|⟨rfl,rfl⟩
     all_goals
      go_wp2_with (first|go_skip)
      go_ret
      exact⟨StW.zae HX.out.symm,b2.trans (b4.mono b2.size)⟩
    ·go_wp2_with (first|go_skip|(refine CmY.gid _ rfl _ _ rfl a ra rfl ?_))
     refine(hat _ b4).mono ?_
     rintro e w5 ⟨rfl,k5⟩
     have b5:=b4.trans (k5.mono b4.size)
     clear hat b4 k5 ra
     obtain⟨z3,hz3⟩:∃z,(atI all a != (k:Int))=z:=⟨_,rfl⟩
     have HZ3:=aside hz3
     cases z3 with
     |true=>
      have HX:Hid (rb=false):=aside (by
       rw[HR.out]
       refine decide_eq_false fun h=>?_
       have hf:=(h k x.c HX1.out).first a HA1.out
       have:=HZ3.out
       unfold atI at this
       rw[hf]at this
       simp at this)
      clear HF HZ3
      go_wp2_with (first|go_skip)
      go_ret
      exact⟨StW.zae HX.out.symm,b2.trans (b5.mono b2.size)⟩
     |false=>
      have HFI:Hid (idx all a=some k):=aside (by
       have:=HZ3.out
       unfold atI at this
       cases hq:idx all a with
       |none=>
        rw[hq]at this
        have h2:((-1:Int) != (k:Int))=true:=by
         rw[bne_iff_ne]
         omega
        simp only[h2]at this
        cases this
       |some p=>rw[hq]at this;simp at this;rw[show p=k by omega])
      clear HZ3
      go_wp2_with (first|go_skip)
      go_loopw [8] (fun i wr=>∃j:Nat,j≤k∧i=.int .i64 j∧Hid (∀j' d,j'<j→(zar l)[j']?=some d→Pair (zar l) all k j' x.c d)∧Below w2.heap.size w2 wr) (fun i _=>k - (intOf i).toNat)
      case atStart=>exact⟨0,Nat.zero_le _,rfl,aside (fun j' d hj'=>absurd hj' (Nat.not_lt_zero _)),b5⟩
      case round=>
       clear b5
       obtain⟨j,hj,rfl,HP,kb⟩:=hrel
       by_cases hjk:j<k
       ·obtain⟨y,hy⟩:∃y,l[j]?=some y:=⟨_,List.getElem?_eq_getElem (by omega)⟩
        have kw:=b2.trans (kb.mono b2.size)
        have rx:=zaL (HRG.out k x HLX.out) kb
        have ry:=zaL (HRG.out j y hy) kb
        have HY:=aside (zbH hy)
        obtain⟨xn,hxn⟩:∃z,x.c.node=z:=⟨_,rfl⟩
        obtain⟨yn,hyn⟩:∃z,y.c.node=z:=⟨_,rfl⟩
        obtain⟨xs,hxs⟩:∃z,x.c.seq=z:=⟨_,rfl⟩
        obtain⟨ys,hys⟩:∃z,y.c.seq=z:=⟨_,rfl⟩
        have n1:=(zgF rx).trans (by rw[hxn])
        have n2:=(zgF ry).trans (by rw[hyn])
        have q1:=(zh5 rx).trans (by rw[hxs])
        have q2:=(zh5 ry).trans (by rw[hys])
        obtain⟨gk,hgk⟩:∃g,gs[k]?=some g:=⟨_,List.getElem?_eq_getElem (by rw[HGL.out];exact hlt)⟩
        obtain⟨gj,hgj⟩:∃g,gs[j]?=some g:=⟨_,List.getElem?_eq_getElem (by rw[HGL.out];omega)⟩
        have TB:=HTB.out.below kb
        obtain⟨r,rc,hv,_⟩:=TB.at (by rw[HGL.out];omega)
        subst hv
        have ck:wr.cell? ⟨r,k,none⟩=some (.slice (some ⟨gk,0,none⟩) l.length l.length):=TB.cell hgk
        have cj:wr.cell? ⟨r,j,none⟩=some (.slice (some ⟨gj,0,none⟩) l.length l.length):=TB.cell hgj
        have bk:=TB.bit hgk (j:=j) (by omega)
        have bj:=TB.bit hgj (j:=k) hlt
        obtain⟨u,hu⟩:∃u,K k j=u:=⟨_,rfl⟩
        obtain⟨v',hv'⟩:∃u,K j k=u:=⟨_,rfl⟩
        rw[hu]at bk
        rw[hv']at bj
        have pj:(j:Int)<k:=by omega
        have pjl:(j:Int)<l.length:=by omega
        have pkg:(k:Int)<gs.length:=by rw[HGL.out];exact p0
        have pjg:(j:Int)<gs.length:=by rw[HGL.out];omega
        have mj:((j:Int)).toNat=j:=by omega
        have HXN:=aside hxn
        have HYN:=aside hyn
        have HXS:=aside hxs
        have HYS:=aside hys
        have HU:=aside hu
        have HV':=aside hv'
        have HPn:Hid (Pair (zar l) all k j x.c y.c→∀j' d,j'<j+1→(zar l)[j']?=some d→Pair (zar l) all k j' x.c d):=aside (fun hp j' d hj' hd=>by
         by_cases e:j'=j
         ·subst e
          rw[HY.out]at hd
          rw[←Option.some.inj hd]
          exact hp
         ·exact HP.out j' d (by omega) hd)
        have HPx:Hid (¬Pair (zar l) all k j x.c y.c→rb=false):=aside (fun hp=>by
         rw[HR.out]
         exact decide_eq_false fun h=>hp ((h k x.c HX1.out).ahead j y.c hjk HY.out))
        clear hy rx ry hgk hgj TB hu hv' hxn hyn hxs hys HP HF
        by_cases hnn:xn=yn
        case neg=>
         have hb:(xn != yn)=true:=by simpa using hnn
         have HNx:=aside (HPn.out (fun e=>absurd (by rw[←HXN.out,←HYN.out];exact e) hnn))
         clear hnn HPn HPx
         go_wp2_with (first|go_skip)
         go_quiet (fail)
         go_wp2_with (first|go_skip)
         go_roundw
         case rel=>exact⟨j+1,by omega,by go_num,HNx,zai kb _⟩
         case measure=>simp[intOf];omega
        case pos=>
         have hb:(xn != yn)=false:=by simpa using hnn
         have HNN:=aside hnn
         clear hnn
         have hw:xs=ys∨(ys<xs∧u=false)∨(ys<xs∧u=true)∨(xs<ys∧v'=false)∨(xs<ys∧v'=true):=by
          rcases Int.lt_trichotomy xs ys with h|h|h
          ·cases v'
           ·exact .inr (.inr (.inr (.inl ⟨h,rfl⟩)))
           ·exact .inr (.inr (.inr (.inr ⟨h,rfl⟩)))
          ·exact .inl h
          ·cases u
           ·exact .inr (.inl ⟨h,rfl⟩)
           ·exact .inr (.inr (.inl ⟨h,rfl⟩))
         have zdh:x.c.node=y.c.node:=by rw[HXN.out,HYN.out];exact HNN.out
         have HND:=aside zdh
         clear zdh
         rcases hw with e|⟨h,rfl⟩|⟨h,rfl⟩|⟨h,rfl⟩|⟨h,rfl⟩
         ·have hs:(xs == ys)=true:=by simpa using e
          have HX:Hid (rb=false):=aside (HPx.out fun hp=>(hp HND.out).1 (by rw[HXS.out,HYS.out,e]))
          clear e HPn HPx
          go_wp2_with (first|go_skip)
          go_quiet (fail)
          go_wp2_with (first|go_skip)
          go_quiet (fail)
          go_wp2_with (first|go_skip)
          go_ret
          exact⟨StW.zae HX.out.symm,b2.trans (Below.mono (by first|exact kb|exact zai kb _|exact zai (zai kb _) _) b2.size)⟩
         ·have hs:(xs == ys)=false:=by simp;omega
          have hd1:decide (ys<xs)=true:=decide_eq_true h
          have HX:Hid (rb=false):=aside (HPx.out fun hp=>by
           have:=(hp HND.out).2.1 (by rw[HXS.out,HYS.out];exact h)
           rw[←HW.out k j,HU.out]at this
           cases this)
          clear HPn HPx
          go_wp2_with (first|go_skip)
          go_quiet (fail)
          go_wp2_with (first|go_skip)
          go_quiet (fail)
          go_wp2_with (first|go_skip)
          go_ret
          exact⟨StW.zae HX.out.symm,b2.trans (Below.mono (by first|exact kb|exact zai kb _|exact zai (zai kb _) _) b2.size)⟩
         ·have hs:(xs == ys)=false:=by simp;omega
          have hd1:decide (ys<xs)=true:=decide_eq_true h
          have hd2:decide (xs<ys)=false:=decide_eq_false (by omega)
          have HNx:=aside (HPn.out fun _=>⟨by rw[HXS.out,HYS.out];omega,fun _=>(HW.out k j).1 HU.out,fun h2=>by rw[HXS.out,HYS.out]at h2;omega⟩)
          clear HPn HPx
          go_wp2_with (first|go_skip)
          go_quiet (fail)
          go_wp2_with (first|go_skip)
          go_quiet (fail)
          go_wp2_with (first|go_skip)
          go_roundw
          case rel=>exact⟨j+1,by omega,by go_num,HNx,by first|exact kb|exact zai kb _|exact zai (zai kb _) _⟩
          case measure=>simp[intOf];omega
         ·have hs:(xs == ys)=false:=by simp;omega
          have hd1:decide (ys<xs)=false:=decide_eq_false (by omega)
          have hd2:decide (xs<ys)=true:=decide_eq_true h
          have HX:Hid (rb=false):=aside (HPx.out fun hp=>by
           have:=(hp HND.out).2.2 (by rw[HXS.out,HYS.out];exact h)
           rw[←HW.out j k,HV'.out]at this
           cases this)
          clear HPn HPx
          go_wp2_with (first|go_skip)
          go_quiet (fail)
          go_wp2_with (first|go_skip)
          go_quiet (fail)
          go_wp2_with (first|go_skip)
          go_ret
          exact⟨StW.zae HX.out.symm,b2.trans (Below.mono (by first|exact kb|exact zai kb _|exact zai (zai kb _) _) b2.size)⟩
         ·have hs:(xs == ys)=false:=by simp;omega
          have hd1:decide (ys<xs)=false:=decide_eq_false (by omega)
          have hd2:decide (xs<ys)=true:=decide_eq_true h
          have HNx:=aside (HPn.out fun _=>⟨by rw[HXS.out,HYS.out];omega,fun h2=>by rw[HXS.out,HYS.out]at h2;omega,fun _=>(HW.out j k).1 HV'.out⟩)
          clear HPn HPx
          go_wp2_with (first|go_skip)
          go_quiet (fail)
          go_wp2_with (first|go_skip)
          go_quiet (fail)
          go_wp2_with (first|go_skip)
          go_roundw
          case rel=>exact⟨j+1,by omega,by go_num,HNx,by first|exact kb|exact zai kb _|exact zai (zai kb _) _⟩
          case measure=>simp[intOf];omega
       ·have pj:¬(j:Int)<k:=by omega
        have HFn:Hid (∀i' c,i'<k+1→(zar l)[i']?=some c→zna (zar l) all i' c):=aside (fun i' c hi' hc=>by
         by_cases e:i'=k
         ·subst e
          rw[HX1.out]at hc
          obtain rfl:=Option.some.inj hc
          refine⟨HZ1.out,of_decide_eq_true HZ2.out,fun a' ha'=>?_,fun j' d hj' hd=>HP.out j' d (by omega) hd⟩
          rw[HA1.out]at ha'
          rw[←Option.some.inj ha']
          exact HFI.out
         ·exact HF.out i' c (by omega) hc)
        clear HP HF
        go_wp2_with (first|go_skip)
        go_roundw
        case rel=>exact⟨k+1,by omega,by go_num,HFn,kb⟩
        case measure=>simp[intOf];omega
   ·have pn:¬(k:Int)<l.length:=by omega
    have HX:Hid (rb=true):=aside (by
     rw[HR.out]
     exact decide_eq_true fun i c hi=>HF.out i c (by have h1:=(List.getElem?_eq_some_iff.1 hi).1;rw[HLEN.out]at h1;omega) hi)
    clear HF
    go_wp2_with (first|go_skip)
    go_ret
    exact⟨StW.zae HX.out.symm,b2.trans (kb.mono b2.size)⟩
end Go.Proofs.YtgmdhaepiclkcaaGreatDoor.DgC
namespace Go.Proofs.YtgmdhaepiclkcaaGreatDoor.IdX
set_option maxHeartbeats 2000000
set_option maxRecDepth 100000
open Go Go.Sort Go.RowKit IdM Byt IdW IdC IdV IdB
theorem SlI.part {w:World} {A:Option Addr} {cap:Nat} {l:List Idn} (h:SlI w A cap l) (i j:Nat) (hij:i≤j) (hj:j≤l.length):
  ∃A' cap',sliced A i j cap 32=.slice A' (j - i) cap'∧SlI w A' cap' ((l.drop i).take (j - i))∧((l.drop i).take (j - i)).length=j - i:=by
 obtain⟨h1,h2,h5⟩:=h
 have hl:((l.drop i).take (j - i)).length=j - i:=by simp;omega
 rcases h5 with⟨rfl,rfl,rfl⟩|⟨x,rfl,hc⟩
 ·simp at hj
  obtain rfl:j=0:=hj
  obtain rfl:i=0:=by omega
  exact⟨none,0,by simp[sliced],by simpa using SlI.nil w,hl⟩
 ·by_cases hci:cap=i
  ·refine⟨some x,cap - i,by simp[sliced,hci],⟨by rw[hl];omega,by omega,.inr ⟨x,rfl,fun k hk=>?_⟩⟩,hl⟩
   rw[flat_length,hl]at hk
   omega
  ·refine⟨some (x.add (i * 32)),cap - i,by simp[sliced,hci],⟨by rw[hl];omega,by omega,.inr ⟨_,rfl,fun k hk=>?_⟩⟩,hl⟩
   have hk':=hk
   rw[flat_length,hl]at hk'
   rw[Addr.add_add,hc (i * 32+k) (by rw[flat_length];omega)]
   congr 2
   rw[zkc,zkd,List.getD_eq_getElem?_getD,List.getD_eq_getElem?_getD,List.getElem?_take,if_pos (by omega),List.getElem?_drop]
theorem elem_id: Tryz.prog.elem 23=56:=by kernel_rfl
theorem zgT: Tryz.prog.underlying 23=some (.slice (Tryz.prog.elem 23)):=by kernel_rfl
theorem ziV (w:World):(sizeOf (Tryz.prog.elem 23)).run Tryz.prog w=.ok 32 w:=by rw[elem_id];exact zlx w
theorem zcV (w:World) (A:Option Addr) (len cap:Nat) (k:IntKind) (j:Nat) (hj:j≤cap):
  (Instr.sliceAt 23 (.slice A len cap) none (some (.int k j)) none).run Tryz.prog w=.ok (sliced A 0 j cap 32) w:=by
 rw[run_sliceAt_slice w _ _ _ _ _ zgT,run_slice_h w _ A len cap zgT k j (by omega) (by omega),ziV]
 simp[Result.andThen]
theorem zdB (w:World) (A:Option Addr) (len cap:Nat) (k:IntKind) (i:Nat) (hi:i≤len):
  (Instr.sliceAt 23 (.slice A len cap) (some (.int k i)) none none).run Tryz.prog w=.ok (sliced A i len cap 32) w:=by
 rw[run_sliceAt_slice w _ _ _ _ _ zgT,run_slice_l w _ A len cap zgT k i (by omega) (by omega),ziV]
 simp[Result.andThen]
theorem zfi (w:World) (base:Nat):w.ownsRow base 56 32 (.slice none 0 0) 0 (bv (flat [])):=⟨rfl,.inl ⟨rfl,rfl⟩⟩
theorem ziq {out:List Idn} {x:Idn} {m:Nat} (hr:zb4 out) (hx:x ∉ out) (hm:m≤out.length) (h1:∀j,m≤j→j<out.length→less x (out.getD j nought)=true) (h2:m=0∨less x (out.getD (m - 1) nought)=false):
  zb4 (out.take m++[x]++out.drop m)∧∀z,z ∈ out.take m++[x]++out.drop m↔z=x∨z ∈ out:=by
 have hmem:∀z,z ∈ out↔z ∈ out.take m∨z ∈ out.drop m:=fun z=>by
  conv=>lhs;rw[←List.take_append_drop m out]
  rw[List.mem_append]
 have hd:∀z ∈ out.drop m,less x z=true:=by
  intro z hz
  obtain⟨i,hi,e⟩:=List.getElem_of_mem hz
  rw[List.getElem_drop]at e
  have hi':m+i<out.length:=by simp at hi;omega
  have:=h1 (m+i) (by omega) hi'
  rw[List.getD_eq_getElem?_getD,List.getElem?_eq_getElem hi',Option.getD_some,e]at this
  exact this
 have ht:∀z ∈ out.take m,less z x=true:=by
  intro z hz
  obtain⟨i,hi,e⟩:=List.getElem_of_mem hz
  rw[List.getElem_take]at e
  have hi':i<m:=by simp at hi;omega
  have hl:less (out.getD (m - 1) nought) x=true:=by
   rcases h2 with h2|h2
   ·omega
   ·refine zcY h2 (fun e=>hx ?_)
    rw[e]
    exact mem_iff_get.2 ⟨m - 1,by omega,rfl⟩
  have e':out.getD i nought=z:=by
   rw[List.getD_eq_getElem?_getD,List.getElem?_eq_getElem (by omega),Option.getD_some,e]
  by_cases him:i=m - 1
  ·rw[←e',him];exact hl
  ·have:=zmA hr (i:=i) (j:=m - 1) (by omega) (by omega)
   rw[e']at this
   exact zbg this hl
 constructor
 ·unfold zb4
  rw[List.append_assoc,List.pairwise_append]
  refine⟨List.Pairwise.sublist (List.take_sublist m out) hr,?_,?_⟩
  ·rw[List.singleton_append,List.pairwise_cons]
   exact⟨hd,List.Pairwise.sublist (List.drop_sublist m out) hr⟩
  ·intro a ha b hb
   rw[List.singleton_append,List.mem_cons]at hb
   rcases hb with rfl|hb
   ·exact ht a ha
   ·exact zbg (ht a ha) (hd b hb)
 ·intro z
  rw[List.append_assoc,List.mem_append,List.singleton_append,List.mem_cons,hmem z]
  constructor
  ·rintro(h|h|h)
   ·exact .inr (.inl h)
   ·exact .inl h
   ·exact .inr (.inr h)
  ·rintro(h|h|h)
   ·exact .inr (.inl h)
   ·exact .inl h
   ·exact .inr (.inr h)
theorem zbM {l:List Idn} {k:Nat} (h:k<l.length) (z:Idn):z ∈ l.getD k nought::l.take k↔z ∈ l.take (k+1):=by
 rw[List.take_add_one,List.mem_append,List.mem_cons,List.getD_eq_getElem?_getD,List.getElem?_eq_getElem h]
 simp[or_comm]
theorem znI (A:Option Addr) (cap:Nat) (l:List Idn) (w:World) (S:SlI w A cap l) (hl:l.length≤1000):
  Calls Tryz.prog 88 #[.slice A l.length cap] w fun e w'=>NewI (IdM.sort l) w e w':=by
 have hcap:=S.1
 go_enter Tryz.func88,Tryz.ntmps88
 go_wp2_with fail
 go_loopw [3,4] (fun v i wr=>∃(k:Nat) (out:List Idn),k≤l.length∧i=.int .i64 k∧wr.ownsRow w.heap.size 56 32 v out.length (bv (flat out))∧zb4 out∧Hid (∀z,z ∈ out↔z ∈ l.take k)∧out.length≤k∧Below w.heap.size w wr) (fun _ i _=>l.length - (intOf i).toNat)
 case atStart=>exact⟨0,[],Nat.zero_le _,rfl,zfi _ _,List.Pairwise.nil,aside (fun z=>by simp),Nat.le_refl _,Below.refl _ _⟩
 case round=>
  obtain⟨k,out,hk,rfl,hrow,hris,hmem,hlen,kb⟩:=hrel
  rename World=>w0
  by_cases hlt:k<l.length
  ·obtain⟨b,off,rfl,hbw,hrg⟩:=S.plain (by omega)
   obtain⟨A3,c3,rfl,S3⟩:=SlI.own hrow
   have hrg1:=zab (hrg k hlt) kb
   obtain⟨x,hx⟩:∃x,l.getD k nought=x:=⟨_,rfl⟩
   rw[hx]at hrg1
   have HX:=aside hx
   have p0:(k:Int)<l.length:=by omega
   have m0:((k:Int)).toNat=k:=by omega
   have hmx:=S3.1
   have hmax:=S3.2.1
   unfold maxLen at hmax
   clear hrg S hx
   go_wp2_with (refine zak rfl _ rfl _ _ rfl x hrg1 ?_)
   refine(zgU A3 c3 out x w0 S3).mono ?_
   rintro e w1 ⟨rfl,k1⟩
   have kb1:=kb.trans (k1.mono kb.size)
   by_cases hxo:x ∈ out
   ·simp only[hxo,decide_true]
    go_wp2
    go_roundw
    case rel=>
     refine⟨k+1,out,by omega,by go_num,zao hrow k1,hris,aside (fun z=>?_),by omega,kb1⟩
     have:=zbM hlt z
     rw[HX.out,List.mem_cons]at this
     rw[←this,←hmem.out z]
     constructor
     ·exact .inr
     ·rintro(rfl|h)
      ·exact hxo
      ·exact h
    case measure=>simp[intOf];omega
   ·simp only[hxo,decide_false]
    have S4:=S3.below k1
    have r4:=zab hrg1 k1
    go_wp2_with fail
    go_loopw [6] (fun a W=>∃m:Nat,m≤out.length∧a=.int .i64 m∧Hid (∀j,m≤j→j<out.length→less x (out.getD j nought)=true)∧Below w0.heap.size w0 W) (fun a _=>(intOf a).toNat)
    case atStart=>exact⟨out.length,Nat.le_refl _,rfl,aside (fun j h1 h2=>absurd h2 (by omega)),k1⟩
    case round=>
     obtain⟨m,hm,rfl,hge,hwW⟩:=hrel
     by_cases hm0:m=0
     ·have g0:¬(0<(m:Int)):=by omega
      have HM:=aside hm0
      clear hm0
      have kW:=kb.trans ((hwW).mono kb.size)
      have Sw:=S3.below (hwW)
      obtain⟨pA,pc,ep,Sp,lp⟩:=SlI.part Sw 0 m (Nat.zero_le _) hm
      obtain⟨qA,qc,eq',Sq,lq⟩:=SlI.part Sw m out.length hm (Nat.le_refl _)
      have hp1:∀V,(Instr.sliceAt 23 (.slice A3 out.length c3) none (some (.int .i64 m)) none).run Tryz.prog V=.ok (.slice pA m pc) V:=fun V=>by rw[zcV V _ out.length c3 .i64 m (by have:=S3.1;omega),ep,Nat.sub_zero]
      have hq1:∀V,(Instr.sliceAt 23 (.slice A3 out.length c3) (some (.int .i64 m)) none none).run Tryz.prog V=.ok (.slice qA (out.length - m) qc) V:=fun V=>by rw[zdB V _ out.length c3 .i64 m hm,eq']
      rw[Nat.sub_zero,List.drop_zero]at Sp lp
      have hrg2:=zab hrg1 (hwW)
      have HS:=aside (And.intro Sp Sq)
      have hput:=ziq hris hxo hm hge.out (.inl HM.out)
      clear ep eq' Sp Sq Sw
      go_wp2_with (first|(refine zaE rfl _ _ rfl wr.heap.size _ 0 [] rfl (zfi _ _) _ _ _ (out.take m) rfl lp HS.out.1 (by omega) (Nat.le_refl _) ?_;intro v5 w5 o5 g5;have k5:Below wr.heap.size wr w5:=below_grown (Below.refl _ _) (Nat.le_refl _) g5 (fun k hk=>by cases hk);have r5:=zab hrg2 k5)|(refine zak rfl _ rfl _ _ rfl x r5 ?_)|(refine zat rfl _ rfl x rfl ?_)|(refine zaE rfl _ _ rfl wr.heap.size _ _ _ rfl (o5.alloc _) _ 1 1 [x] rfl rfl (SlI.zil _ x _) (by omega) (by have:=k5.size;simp;omega) ?_;intro v6 w6 o6 g6;have k6:Below wr.heap.size wr w6:=below_grown (k5.alloc k5.size _) (by have:=k5.size;simp;omega) g6 (fun k hk=>(o5.lt k hk).1))|(refine zaE rfl _ _ rfl wr.heap.size _ _ _ rfl o6 _ _ _ _ rfl lq (HS.out.2.below k6) (by omega) k6.size ?_;intro v7 w7 o7 g7;have k7:Below wr.heap.size wr w7:=below_grown k6 k6.size g7 (fun k hk=>(o6.lt k hk).1)))
      go_roundw
      case rel=>
       have elen:0+m+1+(out.length - m)=([]++out.take m++[x]++(out.drop m).take (out.length - m)).length:=by simp;omega
       have edrop:(out.drop m).take (out.length - m)=out.drop m:=List.take_of_length_le (by simp)
       rw[elen]at o7
       rw[edrop,List.nil_append]at o7
       refine⟨k+1,out.take m++[x]++out.drop m,by omega,by go_num,zb8 o7 kW.size,hput.1,aside (fun z=>?_),by simp;omega,kW.trans (k7.mono kW.size)⟩
       rw[hput.2 z,hmem.out z]
       have:=zbM hlt z
       rw[HX.out,List.mem_cons]at this
       exact this
      case measure=>simp[intOf];omega
     ·obtain⟨b3,off3,rfl,hbw3,hrg3⟩:=(S3.below hwW).plain (by omega)
      have ra:=zab hrg1 hwW
      have rb:=hrg3 (m - 1) (by omega)
      obtain⟨y,hy⟩:∃y,out.getD (m - 1) nought=y:=⟨_,rfl⟩
      rw[hy]at rb
      have HY:=aside hy
      have g0:0<(m:Int):=by omega
      have p1:(m:Int) - 1<out.length:=by omega
      have o1:0≤(m:Int) - 1:=by omega
      have m1:((m:Int) - 1).toNat=m - 1:=by omega
      clear hrg3 hy
      cases hlx:less x y with
      |true=>
       go_wp2
       refine Grow.region [(0,true),(1,true),(2,true),(3,true),(4,true),(5,true),(6,true),(7,true),(8,true),(9,false),(10,true)] (by kernel_rfl) (by kernel_rfl) rfl (by kernel_rfl) (by intro c a d v w h;cases d <;> exact h) ?_
       have ra':wr.drew.rangeAt b (off+k * 32) (bv x.1):=ra
       have rb':wr.drew.rangeAt b3 (off3+(m - 1) * 32) (bv y.1):=rb
       have hwd:=zaf hwW
       generalize wr.drew=V at ra' rb' hwd ⊢
       repeat (first|(refine zbS rfl rfl _ rfl _ _ rfl x ra' ?_;simp only[Act.put,List.setIfInBounds_toArray,List.set_cons_succ,List.set_cons_zero])|(refine zbS rfl rfl _ rfl _ _ rfl y rb' ?_;simp only[Act.put,List.setIfInBounds_toArray,List.set_cons_succ,List.set_cons_zero])|(refine Grow.reads rfl rfl ?_;go_big_quiet_step (fail);refine wpQuiet_nil ?_))
       refine Grow.acts rfl ?_
       go_wp2_with fail
       refine(zfu x y V).mono ?_
       rintro e w2 ⟨rfl,g2⟩
       rw[hlx]
       go_wp2_with fail
       refine⟨g2.below,?_⟩
       have hw2:=hwd.trans (g2.below.mono hwd.size)
       refine Grow.reads rfl rfl ?_
       go_big_quiet_step (fail)
       refine wpQuiet_nil ?_
       refine Grow.ends ?_
       go_wp2
       go_roundw
       case rel=>
        refine⟨m - 1,by omega,by go_num,aside (fun j h1 h2=>?_),hw2⟩
        by_cases hjm:j=m - 1
        ·subst hjm
         rw[HY.out]
         exact hlx
        ·exact hge.out j (by omega) h2
       case measure=>simp[intOf];omega
      |false=>
       go_wp2
       refine Grow.region [(0,true),(1,true),(2,true),(3,true),(4,true),(5,true),(6,true),(7,true),(8,true),(9,false),(10,true)] (by kernel_rfl) (by kernel_rfl) rfl (by kernel_rfl) (by intro c a d v w h;cases d <;> exact h) ?_
       have ra':wr.drew.rangeAt b (off+k * 32) (bv x.1):=ra
       have rb':wr.drew.rangeAt b3 (off3+(m - 1) * 32) (bv y.1):=rb
       have hwd:=zaf hwW
       generalize wr.drew=V at ra' rb' hwd ⊢
       repeat (first|(refine zbS rfl rfl _ rfl _ _ rfl x ra' ?_;simp only[Act.put,List.setIfInBounds_toArray,List.set_cons_succ,List.set_cons_zero])|(refine zbS rfl rfl _ rfl _ _ rfl y rb' ?_;simp only[Act.put,List.setIfInBounds_toArray,List.set_cons_succ,List.set_cons_zero])|(refine Grow.reads rfl rfl ?_;go_big_quiet_step (fail);refine wpQuiet_nil ?_))
       refine Grow.acts rfl ?_
       go_wp2_with fail
       refine(zfu x y V).mono ?_
       rintro e w2 ⟨rfl,g2⟩
       rw[hlx]
       go_wp2_with fail
       refine⟨g2.below,?_⟩
       have hw2:=hwd.trans (g2.below.mono hwd.size)
       refine Grow.reads rfl rfl ?_
       go_big_quiet_step (fail)
       refine wpQuiet_nil ?_
       refine Grow.ends ?_
       have kW:=kb.trans ((hw2).mono kb.size)
       have Sw:=S3.below (hw2)
       obtain⟨pA,pc,ep,Sp,lp⟩:=SlI.part Sw 0 m (Nat.zero_le _) hm
       obtain⟨qA,qc,eq',Sq,lq⟩:=SlI.part Sw m out.length hm (Nat.le_refl _)
       have hp1:∀V,(Instr.sliceAt 23 (.slice (some ⟨b3,off3,none⟩) out.length c3) none (some (.int .i64 m)) none).run Tryz.prog V=.ok (.slice pA m pc) V:=fun V=>by rw[zcV V _ out.length c3 .i64 m (by have:=S3.1;omega),ep,Nat.sub_zero]
       have hq1:∀V,(Instr.sliceAt 23 (.slice (some ⟨b3,off3,none⟩) out.length c3) (some (.int .i64 m)) none none).run Tryz.prog V=.ok (.slice qA (out.length - m) qc) V:=fun V=>by rw[zdB V _ out.length c3 .i64 m hm,eq']
       rw[Nat.sub_zero,List.drop_zero]at Sp lp
       have hrg2:=zab hrg1 (hw2)
       have HS:=aside (And.intro Sp Sq)
       have hput:=ziq hris hxo hm hge.out (.inr (by rw[HY.out];exact hlx))
       clear ep eq' Sp Sq Sw
       go_wp2_with (first|(refine zaE rfl _ _ rfl w2.heap.size _ 0 [] rfl (zfi _ _) _ _ _ (out.take m) rfl lp HS.out.1 (by omega) (Nat.le_refl _) ?_;intro v5 w5 o5 g5;have k5:Below w2.heap.size w2 w5:=below_grown (Below.refl _ _) (Nat.le_refl _) g5 (fun k hk=>by cases hk);have r5:=zab hrg2 k5)|(refine zak rfl _ rfl _ _ rfl x r5 ?_)|(refine zat rfl _ rfl x rfl ?_)|(refine zaE rfl _ _ rfl w2.heap.size _ _ _ rfl (o5.alloc _) _ 1 1 [x] rfl rfl (SlI.zil _ x _) (by omega) (by have:=k5.size;simp;omega) ?_;intro v6 w6 o6 g6;have k6:Below w2.heap.size w2 w6:=below_grown (k5.alloc k5.size _) (by have:=k5.size;simp;omega) g6 (fun k hk=>(o5.lt k hk).1))|(refine zaE rfl _ _ rfl w2.heap.size _ _ _ rfl o6 _ _ _ _ rfl lq (HS.out.2.below k6) (by omega) k6.size ?_;intro v7 w7 o7 g7;have k7:Below w2.heap.size w2 w7:=below_grown k6 k6.size g7 (fun k hk=>(o6.lt k hk).1)))
       go_roundw
       case rel=>
        have elen:0+m+1+(out.length - m)=([]++out.take m++[x]++(out.drop m).take (out.length - m)).length:=by simp;omega
        have edrop:(out.drop m).take (out.length - m)=out.drop m:=List.take_of_length_le (by simp)
        rw[elen]at o7
        rw[edrop,List.nil_append]at o7
        refine⟨k+1,out.take m++[x]++out.drop m,by omega,by go_num,zb8 o7 kW.size,hput.1,aside (fun z=>?_),by simp;omega,kW.trans (k7.mono kW.size)⟩
        rw[hput.2 z,hmem.out z]
        have:=zbM hlt z
        rw[HX.out,List.mem_cons]at this
        exact this
       case measure=>simp[intOf];omega
  ·have e:k=l.length:=by omega
   subst e
   rw[List.take_length]at hmem
   have:=zoN hris hmem.out
   subst this
   go_wp2
   go_ret
   exact⟨_,rfl,hrow,kb⟩
end Go.Proofs.YtgmdhaepiclkcaaGreatDoor.IdX
