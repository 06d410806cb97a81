/- What the document's Find, Part and Anc of package dag return -/
import Derived.Test.YtgmdhaepiclkcaaGreatDoorDgCJ2
namespace Go.Proofs.YtgmdhaepiclkcaaGreatDoor.DgF
set_option maxHeartbeats 16000000
set_option maxRecDepth 100000
open Go Go.Sort Go.RowKit Byt IdM IdW OpsM OpsW CmM StW CmW CmX CmY DgM DgN DgP DgW DgT DgR DgK DgO DgC
open Classical
noncomputable def zek (l:List Com) (a:List Idn):List Com:=if Closed zaj l then DgM.part zaj l (· ∈ a)else[]
noncomputable def zkq (l:List Com) (a:List Idn):List Idn:=if Closed zaj l then anc zaj l a else[]
def NewC (m:List Com) (w:World) (e:Ending) (w':World):Prop:=∃A cap l,e=.returned (.slice A (List.length l) cap)∧SlK w' A cap l∧zar l=m∧Below w.heap.size w w'
theorem znX {w:World} {base n:Nat} {v:Value} {l:List Cv} (h:w.ownsRow base 47 8 v n (RowS.flat KE l)) (he:∀x ∈ l,In w x∧Fit x.c):∃A cap,v=.slice A l.length cap∧SlK w A cap l:=by
 obtain⟨A,cap,e,S⟩:=RowS.SlR.own (E:=KE) h
 exact⟨A,cap,e,S,he⟩
theorem zgm {l:List Com} (C:Closed zaj l):l.all zbn=true:=List.all_eq_true.2 fun c hc=>C.may c hc
theorem zd7 {α:Type} (p:α→Bool) {l:List α} {k:Nat} {x:α} (h:l[k]?=some x):(l.take (k+1)).filter p=(l.take k).filter p++(if p x=true then[x]else[]):=by
 obtain⟨hk,e⟩:=List.getElem?_eq_some_iff.1 h
 rw[List.take_succ_eq_append_getElem hk,List.filter_append,e]
 congr 1
 by_cases hp:p x=true
 ·rw[if_pos hp,List.filter_cons_of_pos hp,List.filter_nil]
 ·rw[if_neg hp,List.filter_cons_of_neg (by simpa using hp),List.filter_nil]
theorem zmN {l:List Cv} {a:List Idn}:zar (l.filter fun v=>decide (zaj v.c ∈ a))=DgM.part zaj (zar l) (· ∈ a):=by
 unfold zar DgM.part
 rw[List.filter_map]
 congr 1
 refine List.filter_congr fun v _=>?_
 rw[Bool.eq_iff_iff]
 simp
theorem zi1 (A A':Option Addr) (cap cap':Nat) (l:List Cv) (a:List Idn) (w:World) (S:SlK w A cap l) (T:SlI w A' cap' a) (ho:∀v ∈ l,CmR.zkr v.c) (hl:l.length≤1000):
  Calls Tryz.prog 43 #[.slice A l.length cap,.slice A' a.length cap'] w (NewC (zek (zar l) a) w):=by
 have hmax:=S.len
 have hmaxa:a.length≤9223372036854775807:=by have:=T.1;have:=T.2.1;unfold maxLen at this;omega
 have hcl:=zcZ A cap l w S ho hl
 obtain⟨m,hm⟩:∃m,zek (zar l) a=m:=⟨_,rfl⟩
 rw[hm]
 unfold NewC
 by_cases hC:Closed zaj (zar l)
 ·rw[decide_eq_true hC]at hcl
  have hall:=zgm hC
  have HM:Hid (zar (l.filter fun v=>decide (zaj v.c ∈ a))=m):=aside (by rw[zmN,←hm,zek,if_pos hC])
  have zih:=fun W (T:SlK W A cap l)=>zdy A cap l W T ho hl
  unfold zne at zih
  rw[zjs hall]at zih
  obtain⟨all,hal⟩:∃all,(zar l).map zaj=all:=⟨_,rfl⟩
  have zfQ:all.length=l.length:=by rw[←hal,List.length_map,zaw]
  have HAT:Hid (∀(i:Nat) (x:Cv),l[i]?=some x→all[i]?=some (zaj x.c)):=aside (fun i x hx=>by rw[←hal,List.getElem?_map,zbH hx];rfl)
  rw[hal,zfQ]at zih
  have zgs:=aside zfQ
  clear hm hC hall hal ho zfQ
  go_enter Tryz.func43,Tryz.ntmps43
  go_wp2_with (first|go_skip)
  refine hcl.mono ?_
  rintro e w1 ⟨rfl,k1⟩
  clear hcl
  go_wp2_with (first|go_skip)
  refine(zih _ (S.below k1)).mono ?_
  rintro e w2 ⟨A1,c1,rfl,T1,k2⟩
  have b2:=k1.trans (k2.mono k1.size)
  have HS:=aside (S.below b2)
  have HT:=aside (T.below b2)
  have HT1:=aside T1
  clear zih S T T1 k1 k2
  go_wp2_with (first|go_skip)
  go_loopw [7,8] (fun o i wr=>∃(k n:Nat),k≤l.length∧n≤k∧i=.int .i64 k∧Hid (wr.ownsRow w2.heap.size 47 8 o n (RowS.flat KE ((l.take k).filter fun v=>decide (zaj v.c ∈ a))))∧Below w2.heap.size w2 wr) (fun _ i _=>l.length - (intOf i).toNat)
  case atStart=>exact⟨0,0,Nat.zero_le _,Nat.zero_le _,rfl,aside ⟨rfl,.inl ⟨rfl,rfl⟩⟩,Below.refl _ _⟩
  case round=>
   obtain⟨k,n,hk,hnk,rfl,HO,kb⟩:=hrel
   by_cases hlt:k<l.length
   ·obtain⟨b,off,rfl,hbw,hrg⟩:=HS.out.plain (by omega)
    obtain⟨x,hx⟩:∃x,l[k]?=some x:=⟨_,List.getElem?_eq_getElem hlt⟩
    obtain⟨a1,o1,rfl,hb1,hr1⟩:=SlI.plain HT1.out (by rw[zgs.out];omega)
    have ra:=IdW.zab (hr1 k (by rw[zgs.out];exact hlt)) kb
    obtain⟨h,hh⟩:∃h,zaj x.c=h:=⟨_,rfl⟩
    rw[show all.getD k nought=h by rw[List.getD_eq_getElem?_getD,HAT.out k x hx,hh];rfl]at ra
    have rx:=hrg k x hx
    have p0:(k:Int)<l.length:=by omega
    have m0:((k:Int)).toNat=k:=by omega
    have hhas:=IdV.zgU A' cap' a h _ (HT.out.below kb)
    obtain⟨z,hz⟩:∃z,decide (h ∈ a)=z:=⟨_,rfl⟩
    have HN:=aside (zd7 (fun v:Cv=>decide (zaj v.c ∈ a)) hx)
    have HH:=aside hh
    have HZ:=aside hz
    rw[hz]at hhas
    clear hrg hr1 hx hh hz
    go_wp2_with (first|go_skip|(refine zak rfl _ rfl _ _ rfl h ra ?_))
    refine hhas.mono ?_
    rintro e w3 ⟨rfl,k3⟩
    have b3:=kb.trans (k3.mono kb.size)
    have O3:=aside (zao HO.out k3)
    have rx3:=zaL rx b3
    clear hhas kb k3 ra HO
    cases z with
    |false=>
     have HO2:=aside (show w3.ownsRow w2.heap.size 47 8 _ n (RowS.flat KE ((l.take (k+1)).filter fun v=>decide (zaj v.c ∈ a))) by rw[HN.out,if_neg (by rw[HH.out];exact fun hc=>by rw[hc]at HZ;cases HZ.out),List.append_nil];exact O3.out)
     clear O3 HN HZ rx3
     go_wp2_with (first|go_skip)
     go_roundw
     case rel=>exact⟨k+1,n,by omega,by omega,by go_num,HO2,b3⟩
     case measure=>simp[intOf];omega
    |true=>
     obtain⟨ms,hms⟩:∃ms,(l.take k).filter (fun v=>decide (zaj v.c ∈ a))=ms:=⟨_,rfl⟩
     rw[hms]at O3 HN
     have HN2:Hid ((l.take (k+1)).filter (fun v=>decide (zaj v.c ∈ a))=ms++[x]):=aside (by rw[HN.out,if_pos (by rw[HH.out];exact HZ.out)])
     clear HN HZ hms
     go_wp2_with (first|go_skip|(refine zbF rfl _ rfl _ _ rfl x rx3 ?_)|(refine RowC.zdR KE (of_decide_eq_true rfl) rfl _ rfl x rfl ?_;intro w4 S4 k4;have b4:=b3.trans (k4.mono b3.size);have O4:=aside (zao O3.out k4))|(refine RowS.zaH KE rfl (.tmp 29) (.tmp 34) rfl w2.heap.size _ n ms rfl O4.out _ 1 1 [x] rfl rfl S4 (by omega) b4.size ?_;intro v5 w5 o5 g5))
     have b5:Below w2.heap.size w2 w5:=below_grown b4 b4.size g5 (fun q hq=>(O4.out.lt q hq).1)
     have HO5:=aside (show w5.ownsRow w2.heap.size 47 8 v5 (n+1) (RowS.flat KE ((l.take (k+1)).filter fun v=>decide (zaj v.c ∈ a))) by rw[HN2.out];exact o5)
     clear O3 O4 o5 g5 b4 S4 HN2
     go_roundw
     case rel=>exact⟨k+1,n+1,by omega,by omega,by go_num,HO5,b5⟩
     case measure=>simp[intOf];omega
   ·have HO2:=HO.out
    rw[List.take_of_length_le (by omega)]at HO2
    have b3:=b2.trans (kb.mono b2.size)
    obtain⟨A6,c6,rfl,S6⟩:=znX HO2 (fun x hx=>⟨(HS.out.each x (List.mem_filter.1 hx).1).1.below kb,(HS.out.each x ((List.mem_filter.1 hx).1)).2⟩)
    have HS6:=aside S6
    have pn:¬(k:Int)<l.length:=by omega
    clear HO HO2 S6
    obtain⟨ms,hms⟩:∃ms,l.filter (fun v=>decide (zaj v.c ∈ a))=ms:=⟨_,rfl⟩
    rw[hms]at HS6 HM ⊢
    clear hms
    go_wp2_with (first|go_skip)
    go_ret
    exact⟨A6,c6,ms,rfl,HS6.out,HM.out,b3⟩
 ·rw[decide_eq_false hC]at hcl
  have HM:Hid (m=[]):=aside (by rw[←hm,zek,if_neg hC])
  clear hm hC ho S T
  go_enter Tryz.func43,Tryz.ntmps43
  go_wp2_with (first|go_skip)
  refine hcl.mono ?_
  rintro e w1 ⟨rfl,k1⟩
  clear hcl
  go_wp2_with (first|go_skip)
  go_ret
  exact⟨none,0,[],rfl,SlK.nil _,HM.out.symm,k1⟩
def Seen (all a:List Idn) (K:Nat→Nat→Bool) (k:Nat) (h:Idn) (j:Nat):Prop:=h ∈ a∨∃j' y,j'<j∧all[j']?=some y∧y ∈ a∧K j' k=true
theorem znG {all a:List Idn} {K:Nat→Nat→Bool} {k:Nat} {h y:Idn} {j:Nat} (hy:all[j]?=some y):Seen all a K k h (j+1)↔Seen all a K k h j∨(y ∈ a∧K j k=true):=by
 unfold Seen
 constructor
 ·rintro(h1|⟨j',y',h1,h2,h3,h4⟩)
  ·exact .inl (.inl h1)
  ·by_cases e:j'=j
   ·subst e
    rw[hy]at h2
    rw[←Option.some.inj h2]at h3
    exact .inr ⟨h3,h4⟩
   ·exact .inl (.inr ⟨j',y',by omega,h2,h3,h4⟩)
 ·rintro((h1|⟨j',y',h1,h2,h3,h4⟩)|⟨h3,h4⟩)
  ·exact .inl h1
  ·exact .inr ⟨j',y',by omega,h2,h3,h4⟩
  ·exact .inr ⟨j,y,by omega,hy,h3,h4⟩
theorem zmx {l:List Com} {a:List Idn} {K:Nat→Nat→Bool} (C:Closed zaj l) (hW:Whole l (l.map zaj) K) {k:Nat} {h:Idn} (hk:(l.map zaj)[k]?=some h):Seen (l.map zaj) a K k h l.length↔DgM.Below zaj l a h:=by
 unfold Seen DgM.Below
 constructor
 ·rintro(h1|⟨j',y,_,h2,h3,h4⟩)
  ·exact⟨List.mem_of_getElem? hk,.inl h1⟩
  ·exact⟨List.mem_of_getElem? hk,.inr ⟨y,h3,(zdw C.nodup C.found h2 hk).1 ((hW j' k).1 h4)⟩⟩
 ·rintro⟨_,h1|⟨y,h1,h2⟩⟩
  ·exact .inl h1
  ·obtain⟨j',hj'⟩:=List.mem_iff_getElem?.1 (kn_src h2)
   exact .inr ⟨j',y,by have:=(List.getElem?_eq_some_iff.1 hj').1;rwa[List.length_map]at this,hj',h1,(hW j' k).2 ((zdw C.nodup C.found hj' hk).2 h2)⟩
theorem zlf (A A':Option Addr) (cap cap':Nat) (l:List Cv) (a:List Idn) (w:World) (S:SlK w A cap l) (T:SlI w A' cap' a) (ho:∀v ∈ l,CmR.zkr v.c) (hl:l.length≤1000):
  Calls Tryz.prog 44 #[.slice A l.length cap,.slice A' a.length cap'] w (zne (zkq (zar l) a) w):=by
 have hmax:=S.len
 have hmaxa:a.length≤9223372036854775807:=by have:=T.1;have:=T.2.1;unfold maxLen at this;omega
 have hcl:=zcZ A cap l w S ho hl
 obtain⟨m,hm⟩:∃m,zkq (zar l) a=m:=⟨_,rfl⟩
 rw[hm]
 unfold zne
 by_cases hC:Closed zaj (zar l)
 ·rw[decide_eq_true hC]at hcl
  have hcm:=zgm hC
  have zih:=fun W (T:SlK W A cap l)=>zdy A cap l W T ho hl
  unfold zne at zih
  rw[zjs hcm]at zih
  have HSB:Hid (∀K,Whole (zar l) ((zar l).map zaj) K→∀k h,((zar l).map zaj)[k]?=some h→(Seen ((zar l).map zaj) a K k h l.length↔DgM.Below zaj (zar l) a h)):=aside (fun K hW k h hk=>by
   rw[←zmx hC hW hk,zaw])
  have hm2:IdM.sort (((zar l).map zaj).filter fun x=>decide (DgM.Below zaj (zar l) a x))=m:=by rw[←hm,zkq,if_pos hC];rfl
  obtain⟨all,hal⟩:∃all,(zar l).map zaj=all:=⟨_,rfl⟩
  have zfQ:all.length=l.length:=by rw[←hal,List.length_map,zaw]
  rw[hal]at zih HSB hm2
  rw[zfQ]at zih
  have zgs:=aside zfQ
  have HM:=aside hm2
  clear hm hC hcm hal ho hm2
  go_enter Tryz.func44,Tryz.ntmps44
  go_wp2_with (first|go_skip)
  refine hcl.mono ?_
  rintro e w1 ⟨rfl,k1⟩
  clear hcl
  go_wp2_with (first|go_skip)
  refine(zih _ (S.below k1)).mono ?_
  rintro e w2 ⟨A1,c1,rfl,T1,k2⟩
  have b2:=k1.trans (k2.mono k1.size)
  have hkn:=zhQ A A1 cap c1 l all w2 (S.below b2) T1 zfQ hl
  unfold NewT at hkn
  rw[zaw,zfQ]at hkn
  clear zih zfQ k1 k2
  go_wp2_with (first|go_skip)
  refine hkn.mono ?_
  rintro e w3 ⟨v,gs,K,rfl,hgl,TB,hW,k3⟩
  have b3:=b2.trans (k3.mono b2.size)
  have HS:=aside (S.below b3)
  have HT:=aside (T.below b3)
  have HT1:=aside (T1.below k3)
  have HTB:=aside TB
  have HGL:=aside hgl
  have HW:=aside (HSB.out K hW)
  clear hkn S T T1 TB hW hgl HSB b2 k3
  go_wp2_with (first|go_skip)
  go_loopw [8,9] (fun o i wr=>∃(k n:Nat),k≤l.length∧n≤k∧i=.int .i64 k∧Hid (wr.ownsRow w3.heap.size 56 32 o n (bv (flat ((all.take k).filter fun x=>decide (DgM.Below zaj (zar l) a x)))))∧Below w3.heap.size w3 wr) (fun _ i _=>l.length - (intOf i).toNat)
  case atStart=>exact⟨0,0,Nat.zero_le _,Nat.zero_le _,rfl,aside ⟨rfl,.inl ⟨rfl,rfl⟩⟩,Below.refl _ _⟩
  case round=>
   obtain⟨k,n,hk,hnk,rfl,HO,kb⟩:=hrel
   by_cases hlt:k<l.length
   ·obtain⟨a1,o1,rfl,hb1,hr1⟩:=SlI.plain HT1.out (by rw[zgs.out];omega)
    have HR1:=aside hr1
    obtain⟨h,hh⟩:∃h,all[k]?=some h:=⟨_,List.getElem?_eq_getElem (by rw[zgs.out];exact hlt)⟩
    have ra0:=hr1 k (by rw[zgs.out];exact hlt)
    rw[show all.getD k nought=h by rw[List.getD_eq_getElem?_getD,hh];rfl]at ra0
    have ra:=IdW.zab ra0 kb
    obtain⟨r,rc,rfl,_⟩:=HTB.out.at (by rw[HGL.out];omega)
    have p0:(k:Int)<l.length:=by omega
    have m0:((k:Int)).toNat=k:=by omega
    have hhas:=IdV.zgU A' cap' a h _ (HT.out.below kb)
    obtain⟨z,hz⟩:∃z,decide (h ∈ a)=z:=⟨_,rfl⟩
    have HH:=aside hh
    have HN:=aside (zd7 (fun x:Idn=>decide (DgM.Below zaj (zar l) a x)) hh)
    have HZ:Hid (z=true↔Seen all a K k h 0):=aside (by
     rw[←hz,decide_eq_true_eq]
     exact⟨fun h=>.inl h,fun h=>h.elim id (fun⟨j',_,h1,_⟩=>absurd h1 (Nat.not_lt_zero _))⟩)
    rw[hz]at hhas
    clear hr1 hh hz
    go_wp2_with (first|go_skip|(refine zak rfl _ rfl _ _ rfl h ra ?_))
    refine hhas.mono ?_
    rintro e w4 ⟨rfl,k4⟩
    have b4:=kb.trans (k4.mono kb.size)
    have O4:=aside (zao HO.out k4)
    clear hhas kb k4 ra HO
    go_wp2_with (first|go_skip)
    go_loopw [10,11] (fun bo i wr=>∃(j:Nat) (z:Bool),j≤l.length∧i=.int .i64 j∧bo=.bool z∧Hid (z=true↔Seen all a K k h j)∧Below w4.heap.size w4 wr) (fun _ i _=>l.length - (intOf i).toNat)
    case atStart=>exact⟨0,z,Nat.zero_le _,rfl,rfl,HZ,Below.refl _ _⟩
    case round=>
     clear HZ
     obtain⟨j,z,hj,rfl,rfl,HZ,kc⟩:=hrel
     have kb:=b4.trans (kc.mono b4.size)
     by_cases hjl:j<l.length
     ·obtain⟨y,hy⟩:∃y,all[j]?=some y:=⟨_,List.getElem?_eq_getElem (by rw[zgs.out];exact hjl)⟩
      have ry:=IdW.zab (HR1.out j (by rw[zgs.out];exact hjl)) kb
      rw[show all.getD j nought=y by rw[List.getD_eq_getElem?_getD,hy];rfl]at ry
      have pj:(j:Int)<l.length:=by omega
      have mj:((j:Int)).toNat=j:=by omega
      have hhas:=IdV.zgU A' cap' a y _ (HT.out.below kb)
      obtain⟨z2,hz2⟩:∃z,decide (y ∈ a)=z:=⟨_,rfl⟩
      have HZ2:=aside hz2
      have HSN:=aside (znG (a:=a) (K:=K) (k:=k) (h:=h) hy)
      rw[hz2]at hhas
      obtain⟨gj,hgj⟩:∃g,gs[j]?=some g:=⟨_,List.getElem?_eq_getElem (by rw[HGL.out];exact hjl)⟩
      have HGJ:=aside hgj
      have pjg:(j:Int)<gs.length:=by rw[HGL.out];exact pj
      clear hy hz2 hgj
      go_wp2_with (first|go_skip|(refine zak rfl _ rfl _ _ rfl y ry ?_))
      refine hhas.mono ?_
      rintro e w5 ⟨rfl,k5⟩
      have b5:=kc.trans (k5.mono kc.size)
      have TB:=HTB.out.below (kb.trans (k5.mono kb.size))
      have cj:w5.cell? ⟨r,j,none⟩=some (.slice (some ⟨gj,0,none⟩) l.length l.length):=TB.cell HGJ.out
      have bj:=TB.bit HGJ.out (j:=k) hlt
      obtain⟨u,hu⟩:∃u,K j k=u:=⟨_,rfl⟩
      rw[hu]at bj
      have HU:=aside hu
      clear hhas kb k5 ry kc TB hu
      have hw:z=true∨(z=false∧z2=false)∨(z=false∧z2=true∧u=false)∨(z=false∧z2=true∧u=true):=by cases z <;> cases z2 <;> cases u <;> simp
      rcases hw with rfl|⟨rfl,rfl⟩|⟨rfl,rfl,rfl⟩|⟨rfl,rfl,rfl⟩
      ·have HZn:Hid (Seen all a K k h (j+1)):=aside (HSN.out.2 (.inl (HZ.out.1 rfl)))
       clear HZ HZ2 HSN
       go_wp2_with (first|go_skip)
       go_roundw
       case rel=>exact⟨j+1,true,by omega,by go_num,rfl,aside ⟨fun _=>HZn.out,fun _=>rfl⟩,b5⟩
       case measure=>simp[intOf];omega
      ·have HZn:Hid (¬Seen all a K k h (j+1)):=aside (fun h=>by
        rcases HSN.out.1 h with h|⟨h,_⟩
        ·exact absurd (HZ.out.2 h) (by decide)
        ·exact absurd h (of_decide_eq_false HZ2.out))
       clear HZ HZ2 HSN
       go_wp2_with (first|go_skip)
       go_roundw
       case rel=>exact⟨j+1,false,by omega,by go_num,rfl,aside ⟨fun h=>absurd h (by decide),fun h=>absurd h HZn.out⟩,b5⟩
       case measure=>simp[intOf];omega
      ·have HZn:Hid (¬Seen all a K k h (j+1)):=aside (fun h=>by
        rcases HSN.out.1 h with h|⟨_,h⟩
        ·exact absurd (HZ.out.2 h) (by decide)
        ·have:=HU.out;rw[h]at this;cases this)
       clear HZ HZ2 HSN
       go_wp2_with (first|go_skip)
       go_roundw
       case rel=>exact⟨j+1,false,by omega,by go_num,rfl,aside ⟨fun h=>absurd h (by decide),fun h=>absurd h HZn.out⟩,b5⟩
       case measure=>simp[intOf];omega
      ·have HZn:Hid (Seen all a K k h (j+1)):=aside (HSN.out.2 (.inr ⟨of_decide_eq_true HZ2.out,HU.out⟩))
       clear HZ HZ2 HSN
       go_wp2_with (first|go_skip)
       go_roundw
       case rel=>exact⟨j+1,true,by omega,by go_num,rfl,aside ⟨fun _=>HZn.out,fun _=>rfl⟩,b5⟩
       case measure=>simp[intOf];omega
     ·have e:j=l.length:=by omega
      have pj:¬(j:Int)<l.length:=by omega
      have HZB:Hid (z=true↔DgM.Below zaj (zar l) a h):=aside (by rw[←HW.out k h HH.out,←e];exact HZ.out)
      have O5:=aside (zao O4.out kc)
      have ra5:=IdW.zab ra0 kb
      clear HZ O4 kc e
      cases z with
      |false=>
       have HO2:=aside (show wr.ownsRow w3.heap.size 56 32 _ n (bv (flat ((all.take (k+1)).filter fun x=>decide (DgM.Below zaj (zar l) a x)))) by rw[HN.out,if_neg (fun hc=>by have:=HZB.out.2 (of_decide_eq_true hc);cases this),List.append_nil];exact O5.out)
       clear O5 HN HZB ra5
       go_wp2_with (first|go_skip)
       go_roundw
       case rel=>exact⟨k+1,n,by omega,by omega,by go_num,HO2,kb⟩
       case measure=>simp[intOf];omega
      |true=>
       obtain⟨ms,hms⟩:∃ms,(all.take k).filter (fun x=>decide (DgM.Below zaj (zar l) a x))=ms:=⟨_,rfl⟩
       rw[hms]at O5 HN
       have HN2:Hid ((all.take (k+1)).filter (fun x=>decide (DgM.Below zaj (zar l) a x))=ms++[h]):=aside (by rw[HN.out,if_pos (decide_eq_true (HZB.out.1 rfl))])
       clear HN HZB hms
       go_wp2_with (first|go_skip|(refine zak rfl _ rfl _ _ rfl h ra5 ?_)|(refine zde rfl _ rfl h rfl ?_;intro w6 S6 k6;have b6:=kb.trans (k6.mono kb.size);have O6:=aside (zao O5.out k6))|(refine zaE rfl (.tmp 60) (.tmp 65) rfl w3.heap.size _ n ms rfl O6.out _ 1 1 [h] rfl rfl S6 (by omega) b6.size ?_;intro v7 w7 o7 g7))
       have b7:Below w3.heap.size w3 w7:=below_grown b6 b6.size g7 (fun q hq=>(O6.out.lt q hq).1)
       have HO7:=aside (show w7.ownsRow w3.heap.size 56 32 v7 (n+1) (bv (flat ((all.take (k+1)).filter fun x=>decide (DgM.Below zaj (zar l) a x)))) by rw[HN2.out];exact o7)
       clear O5 O6 o7 g7 b6 S6 HN2 ra5
       go_roundw
       case rel=>exact⟨k+1,n+1,by omega,by omega,by go_num,HO7,b7⟩
       case measure=>simp[intOf];omega
   ·have HO2:=HO.out
    rw[List.take_of_length_le (by rw[zgs.out];omega)]at HO2
    obtain⟨ms,hms⟩:∃ms,all.filter (fun x=>decide (DgM.Below zaj (zar l) a x))=ms:=⟨_,rfl⟩
    have hmsl:ms.length≤1000:=by rw[←hms];exact Nat.le_trans (List.length_filter_le _ _) (by rw[zgs.out];exact hl)
    have hm:=HM.out
    rw[hms]at HO2 hm
    obtain⟨A6,c6,rfl,S6⟩:=SlI.own HO2
    have hst:=IdX.znI A6 c6 ms _ S6 hmsl
    rw[hm]at hst
    unfold NewI at hst
    have b4:=b3.trans (kb.mono b3.size)
    have pn:¬(k:Int)<l.length:=by omega
    clear HO HO2 S6 hms hm hmsl
    go_wp2_with (first|go_skip)
    refine hst.mono ?_
    rintro e w8 ⟨v8,rfl,o8,k8⟩
    obtain⟨A8,c8,rfl,S8⟩:=SlI.own o8
    clear hst
    go_wp2_with (first|go_skip)
    go_ret
    exact⟨A8,c8,rfl,S8,b4.trans (k8.mono b4.size)⟩
 ·rw[decide_eq_false hC]at hcl
  have HM:Hid (m=[]):=aside (by rw[←hm,zkq,if_neg hC])
  clear hm hC ho S T
  go_enter Tryz.func44,Tryz.ntmps44
  go_wp2_with (first|go_skip)
  refine hcl.mono ?_
  rintro e w1 ⟨rfl,k1⟩
  clear hcl
  go_wp2_with (first|go_skip)
  go_ret
  rw[HM.out]
  exact⟨none,0,rfl,SlI.nil _,k1⟩
end Go.Proofs.YtgmdhaepiclkcaaGreatDoor.DgF
