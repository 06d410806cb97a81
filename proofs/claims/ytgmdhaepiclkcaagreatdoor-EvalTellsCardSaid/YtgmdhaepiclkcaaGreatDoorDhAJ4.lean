/- What the project's Closed, Anc, Part and Sorted of package dag return, | What the project's Part of package dag returns, where known answers as | What the document's Sorted of package dag returns | What the project's Sorted of package dag returns, where known answers -/
import Derived.Test.YtgmdhaepiclkcaaGreatDoorDhK
import Derived.Test.YtgmdhaepiclkcaaGreatDoorDhCJ6
import Derived.Test.YtgmdhaepiclkcaaGreatDoorDgF
import Derived.Test.YtgmdhaepiclkcaaGreatDoorEaCJ4
import Derived.Test.YtgmdhaepiclkcaaGreatDoorDhOJ4
namespace Go.Proofs.YtgmdhaepiclkcaaGreatDoor.DhA
set_option maxHeartbeats 32000000
set_option maxRecDepth 100000
open Go Go.Sort Go.RowKit Byt IdM IdW OpsM OpsW CmM StW CmW CmX CmY CmA DgM DgW DgR DgX DgY DgI DgF DhO DhP DhT DhK DhC
open Classical
def zhi:Prop:=∀(A A':Option Addr) (cap cap':Nat) (l:List Cv) (own:List Idn) (w:World),SlK w A cap l→SlI w A' cap' own→own=zgj (zar l)→l.length≤1500000000000→
  Calls Tryz.prog 48 #[.slice A l.length cap,.slice A' own.length cap'] w fun e w'=>∃mo b,e=.returned (.tuple #[.map mo,.bool b])∧b=decide (Closed zaj (zar l))∧(b=true→∃mb,mo=some mb∧w.heap.size≤mb∧zlk w' mb l.length (views zaj (zar l)))∧Below w.heap.size w w'
theorem zcZ (X:zhi) (A:Option Addr) (cap:Nat) (l:List Cv) (w:World) (S:SlK w A cap l) (hl:l.length≤1500000000000) (hK:ShaE.KIn w):
  Calls Tryz.prog 17 #[.slice A l.length cap] w fun e w'=>e=.returned (.bool (decide (Closed zaj (zar l))))∧Below w.heap.size w w':=by
 go_enter Tryz.func17,Tryz.ntmps17
 go_wp2_with (first|go_skip)
 refine(zdy A cap l w S hl hK).mono ?_
 rintro e w1 ⟨A1,c1,rfl,T1,k1⟩
 go_wp2_with (first|go_skip)
 refine(X A A1 cap c1 l _ w1 (S.below k1) T1 rfl hl).mono ?_
 rintro e w2 ⟨mo,b,rfl,hb,_,k2⟩
 go_wp2_with (first|go_skip)
 go_ret
 exact⟨by rw[←hb];rfl,k1.trans (k2.mono k1.size)⟩
theorem zmX (v:Vw) (w:World):(Instr.field 112 (.agg (vc v)) 2).run Tryz.prog w=.ok (.agg (ck v.2)) w:=by kernel_rfl
def gv (f:Idn→Option Vw) (x:Idn):Vw:=(f x).getD zjD
theorem zpC (f:Idn→Option Vw) (x:Idn):(vals f x).getD (.agg (vc zjD))=.agg (vc (gv f x)):=by
 unfold vals gv
 cases f x <;> rfl
theorem gv_seen (f:Idn→Option Vw) (x:Idn) (n:Int):zej f n x=(gv f x).2 n:=by
 unfold zej gv
 cases f x <;> rfl
theorem zg5 {ops:Array Oper} {rest:List Oper} {o:Oper} {a:Act} {w:World} {Q:Exit→Act→World→Prop} (hgd:o.guard=none) (x:Operand) (ho:o.op=.load 43 x) (g:Nat) (hx:a.eval x=.pointer (some ⟨g,0,none⟩)) (v:Cv) (hb:Cel.Box CE w g v) (h:wpList Tryz.prog ops Q rest (a.put o.dst (.agg (ec ⟨v.c.node,v.c.seq⟩))) w):wpList Tryz.prog ops Q (o::rest) a w:=
 wpList_load_mid hgd EE.T x ho g 0 hx (EE.enc ⟨v.c.node,v.c.seq⟩) _ (zhc hb) EE.under EE.row (EE.size _) h
theorem znS {l:List Cv} {s:Int→Int} {k:Nat} {x:Cv} (h:l[k]?=some x):(((zar l).take (k+1)).filter fun c=>decide (c.seq≤s c.node)).map zaj=(((zar l).take k).filter fun c=>decide (c.seq≤s c.node)).map zaj++(if decide (x.c.seq≤s x.c.node)=true then[zaj x.c]else[]):=by
 rw[zd7 _ (zbH h),List.map_append]
 by_cases e:decide (x.c.seq≤s x.c.node)=true
 ·rw[if_pos e,if_pos e];rfl
 ·rw[if_neg e,if_neg e];rfl
theorem zqa {l:List Com} (C:Closed zaj l) (a:List Idn):IdM.sort ((l.filter fun c=>decide (c.seq≤zb5 (views zaj l) a c.node)).map zaj)=anc zaj l a:=by
 unfold anc
 congr 1
 rw[List.filter_map]
 congr 1
 refine List.filter_congr fun c hc=>?_
 show decide _=decide _
 exact decide_eq_decide.2 (zh8 C a hc)
theorem zlf (X:zhi) (A A':Option Addr) (cap cap':Nat) (l:List Cv) (a:List Idn) (w:World) (S:SlK w A cap l) (T:SlI w A' cap' a) (hl:l.length≤1000) (hK:ShaE.KIn w):
  Calls Tryz.prog 26 #[.slice A l.length cap,.slice A' a.length cap'] w (zne (zkq (zar l) a) w):=by
 have hmax:=S.len
 have hmaxa:a.length≤9223372036854775807:=by have:=T.1;have:=T.2.1;unfold maxLen at this;omega
 unfold zne
 go_enter Tryz.func26,Tryz.ntmps26
 go_wp2_with (first|go_skip)
 refine(zdy A cap l w S (by omega) hK).mono ?_
 rintro e w1 ⟨A1,c1,rfl,T1,k1⟩
 go_wp2_with (first|go_skip)
 refine(X A A1 cap c1 l _ w1 (S.below k1) T1 rfl (by omega)).mono ?_
 rintro e w2 ⟨mo,b,rfl,hb,hv,k2⟩
 have b2:=k1.trans (k2.mono k1.size)
 by_cases C:Closed zaj (zar l)
 ·rw[decide_eq_true C]at hb
  subst hb
  obtain⟨mb,rfl,_,V⟩:=hv rfl
  have hall:(zar l).all zbn=true:=List.all_eq_true.2 fun c hc=>C.may c hc
  have hid:zgj (zar l)=(zar l).map zaj:=by rw[zgj,if_pos hall]
  have hil:((zar l).map zaj).length=l.length:=by rw[List.length_map,zaw]
  have T2:=T1.below k2
  rw[hid]at T2
  obtain⟨own,hown⟩:∃own,(zar l).map zaj=own:=⟨_,rfl⟩
  rw[hown]at T2 hil
  obtain⟨f,hf⟩:∃f,views zaj (zar l)=f:=⟨_,rfl⟩
  rw[hf]at V
  have hmb:=MapV.zaG.lt V
  have HR:Hid (zkq (zar l) a=IdM.sort (((zar l).filter fun c=>decide (c.seq≤zb5 f a c.node)).map zaj)):=aside (by rw[zkq,if_pos C,←zqa C a,hf])
  have HID:=aside (hid.trans hown)
  have HIL:=aside hil
  have HOWN:=aside hown
  have HCL:=aside C
  have HT2:=aside T2
  have HSB:=aside (S.below b2)
  have HTB:=aside (T.below b2)
  have B0:Cel.Box CK (w2.alloc (.cells #[.int .i64 0,.int .i64 0,.int .i64 0,.int .i64 0,.int .i64 0,.int .i64 0,.int .i64 0,.int .i64 0] 109)) w2.heap.size (fun _=>0):=Cel.Box.new (E:=CK) w2 (fun _=>0) _
  have V0:=aside (zlk.below V (StW.zah w2 (.cells #[.int .i64 0,.int .i64 0,.int .i64 0,.int .i64 0,.int .i64 0,.int .i64 0,.int .i64 0,.int .i64 0] 109)))
  have kb:=StW.zah w2 (.cells #[.int .i64 0,.int .i64 0,.int .i64 0,.int .i64 0,.int .i64 0,.int .i64 0,.int .i64 0,.int .i64 0] 109)
  clear C hall hid hil hown hf V hv T1 T2
  go_wp2_with (first|go_skip)
  go_loopw [26] (fun i wr=>∃k:Nat,k≤a.length∧i=.int .i64 k∧Hid (zlk wr mb l.length f)∧Cel.Box CK wr w2.heap.size (zb5 f (a.take k))∧Below w2.heap.size w2 wr) (fun i _=>a.length - (intOf i).toNat)
  case atStart=>exact⟨0,Nat.zero_le _,rfl,V0,zcB B0 fun _ _ _=>rfl,kb⟩
  case round=>
   clear B0 V0 kb
   obtain⟨k,hk,rfl,V3,B3,kb⟩:=hrel
   by_cases hlt:k<a.length
   ·obtain⟨ba,oa,rfl,_,hra⟩:=SlI.plain HTB.out (by omega)
    obtain⟨x,hx⟩:∃x,a[k]?=some x:=⟨_,List.getElem?_eq_getElem hlt⟩
    have rx:=IdW.zab (hra k hlt) kb
    rw[show a.getD k nought=x by rw[List.getD_eq_getElem?_getD,hx];rfl]at rx
    have p0:(k:Int)<a.length:=by omega
    have m0:((k:Int)).toNat=k:=by omega
    have HX:=aside hx
    clear hra hx
    go_wp2_with (first|go_skip|(refine zak rfl _ rfl _ _ rfl x rx ?_)|(refine IdJ.zax rfl rfl ?_)|(refine CmG.zaF rfl _ _ rfl wr nought _ rfl x _ rfl rfl rfl ?_;intro w3 I3 k3 s3;have b3:=kb.trans (k3.mono kb.size);have C3:=B3.below k3;have V4:=aside (zlk.below V3.out k3);clear s3 B3 V3 kb))
    refine GrowL.region 6 [(0,true),(1,true),(2,true),(3,true),(4,true),(5,false),(6,false)] (by kernel_rfl) (by kernel_rfl) rfl (by kernel_rfl) (by intro c a d v w h;cases d <;> exact h) ?_
    have kd:=zaf (Below.refl w3.heap.size w3)
    have B4:=C3.below kd
    have I4:=I3.below kd I3.lt
    have V5:=aside (zlk.below V4.out kd)
    have b4:=b3.trans (kd.mono b3.size)
    generalize w3.drew=wz at B4 I4 V5 b4 ⊢
    clear C3 I3 V4 b3 kd
    have hlk:=Grow.grown (w:=wz) (fun u hu=>MapV.zeQ zmO (zlk.below V5.out hu) x zcw)
    have hfd:=zmX (gv f x)
    simp only[zpC]at hlk
    (try simp only[Act.put,List.setIfInBounds_toArray,List.set_cons_succ,List.set_cons_zero])
    repeat (first|(refine GrowL.reads rfl rfl ?_;go_big_quiet_want;refine CmA.zbt _ rfl _ _ rfl x I4.range ?_;go_big_quiet_on;refine wpQuiet_nil ?_;(try simp only[Act.put,List.setIfInBounds_toArray,List.set_cons_succ,List.set_cons_zero]))|(refine GrowL.reads rfl rfl ?_;go_big_quiet_want;refine Cel.zaB CK _ rfl _ _ rfl _ B4.range ?_;go_big_quiet_on;refine wpQuiet_nil ?_;(try simp only[Act.put,List.setIfInBounds_toArray,List.set_cons_succ,List.set_cons_zero]))|(refine GrowL.reads rfl rfl ?_;go_big_quiet_step (fail);refine wpQuiet_nil ?_))
    have qa:=zpb (zb5 f (a.take k)) (gv f x).2 wz
    have qa:Calls Tryz.prog 68 #[.agg (CK.enc (zb5 f (a.take k))).toArray,.agg (ck (gv f x).2)] wz _:=qa
    refine GrowL.acts rfl ?_
    go_wp2_with (first|go_skip)
    refine qa.mono ?_
    clear qa
    rintro e w5 ⟨rfl,k5⟩
    go_wp2_with (first|go_skip)
    refine⟨k5,?_⟩
    have B5:=B4.below k5
    have V6:=aside (zlk.below V5.out k5)
    have b5:=b4.trans (k5.mono b4.size)
    clear B4 V5 b4 k5 hlk hfd
    (try simp only[Act.put,List.setIfInBounds_toArray,List.set_cons_succ,List.set_cons_zero])
    refine GrowL.last rfl ?_
    go_wp2_with (first|(refine Cel.zad CK rfl _ _ rfl w2.heap.size rfl _ B5 (fun n=>max (zb5 f (a.take k) n) ((gv f x).2 n)) rfl ?_;intro w6 B6 f6 g6 s6))
    refine GrowL.done ?_
    go_wp2_with (first|go_skip)
    go_roundw
    case rel=>
     refine⟨k+1,by omega,by go_num,aside (MapV.zaG.kept V6.out g6 (by simp;omega)),zcB B6 fun n _ _=>?_,b5.trans (f6 _ (Nat.le_refl _))⟩
     unfold zb5
     rw[zfC HX.out,gv_seen]
    case measure=>simp[intOf];omega
   ·obtain rfl:k=a.length:=by omega
    rw[List.take_length]at B3
    obtain⟨s,hs⟩:∃s,zb5 f a=s:=⟨_,rfl⟩
    rw[hs]at B3 HR
    have HB3:=aside (B3)
    clear V3 B3 hs hmb HTB
    have ht:=fun(v:Cv) (hv:v ∈ l)=>zcC (HCL.out.may v.c (List.mem_map_of_mem hv)) (HCL.out.merge v.c (List.mem_map_of_mem hv))
    have HPOS:=aside ht
    clear ht
    go_wp2_with (first|go_skip)
    go_loopw [11,39] (fun o i wq=>∃k n:Nat,k≤l.length∧n≤k∧i=.int .i64 k∧Hid (wq.ownsRow wr.heap.size 56 32 o n (bv (flat ((((zar l).take k).filter fun c=>decide (c.seq≤s c.node)).map zaj))))∧Below wr.heap.size wr wq) (fun _ i _=>l.length - (intOf i).toNat)
    case atStart=>exact⟨0,0,Nat.zero_le _,Nat.zero_le _,rfl,aside ⟨rfl,.inl ⟨rfl,rfl⟩⟩,Below.refl _ _⟩
    case round=>
     rename World=>wq
     obtain⟨k,n,hk,hnk,rfl,HO,kc⟩:=hrel
     by_cases hlt:k<l.length
     ·obtain⟨b,off,rfl,hbw,hrg⟩:=HSB.out.plain (by omega)
      obtain⟨x,hx⟩:∃x,l[k]?=some x:=⟨_,List.getElem?_eq_getElem hlt⟩
      have rx:=zaL (zaL (hrg k x hx) kb) kc
      obtain⟨ba,oa,rfl,_,hra⟩:=SlI.plain HT2.out (by rw[HIL.out];omega)
      have ra:=IdW.zab (IdW.zab (hra k (by rw[HIL.out];exact hlt)) kb) kc
      obtain⟨h,hh⟩:∃h,zaj x.c=h:=⟨_,rfl⟩
      have hget:own.getD k nought=h:=by rw[←HOWN.out,List.getD_eq_getElem?_getD,List.getElem?_map,zbH hx,←hh];rfl
      rw[hget]at ra
      have p0:(k:Int)<l.length:=by omega
      have m0:((k:Int)).toNat=k:=by omega
      have hpos:=HPOS.out x (List.mem_of_getElem? hx)
      have HP:=aside (znS (s:=s) hx)
      have L3:=HB3.out.below kc
      have hc:=zeH s ⟨x.c.node,x.c.seq⟩ hpos.2
      obtain⟨t,ht⟩:∃t,decide (x.c.seq≤s x.c.node)=t:=⟨_,rfl⟩
      rw[ht]at hc HP
      rw[hh]at HP
      have q0:(k:Int)<(zgj (zar l)).length:=by rw[HID.out,HIL.out];exact p0
      obtain⟨xs,hxs⟩:∃xs,(((zar l).take k).filter fun c=>decide (c.seq≤s c.node)).map zaj=xs:=⟨_,rfl⟩
      rw[hxs]at HO HP
      clear hrg hra hx hh hget ht hpos hxs
      cases t with
      |true=>
       go_wp2_with (first|go_skip|(refine zbF rfl _ rfl _ _ rfl x rx ?_)|(refine Cel.zac CE rfl _ _ rfl wq _ _ rfl x _ rfl rfl rfl rfl ?_;intro w4 D4 k4 g4 s4;have b4:=kc.trans (k4.mono kc.size);have L4:=L3.below k4;have O4:=aside (zao HO.out k4);have r4:=IdW.zab ra k4;clear g4 s4)|(refine zfl rfl _ rfl _ rfl _ L4 ?_)|(refine zg5 rfl _ rfl _ rfl x D4 ?_))
       refine(hc _).mono ?_
       rintro e w5 ⟨rfl,k5⟩
       have b5:=b4.trans (k5.mono b4.size)
       have O5:=aside (zao O4.out k5)
       have r5:=IdW.zab r4 k5
       go_wp2_with (first|go_skip|(refine zak rfl _ rfl _ _ rfl h r5 ?_)|(refine zde rfl _ rfl h rfl ?_;intro w6 S6 k6;have b6:=b5.trans (k6.mono b5.size);have O6:=aside (zao O5.out k6))|(refine zaE rfl (.tmp 48) (.tmp 53) rfl wr.heap.size _ n xs rfl O6.out _ 1 1 [h] rfl rfl S6 (by omega) b6.size ?_;intro v7 w7 o7 g7))
       have b7:Below wr.heap.size wr w7:=below_grown b6 b6.size g7 (fun q hq=>(O6.out.lt q hq).1)
       go_roundw
       case rel=>exact⟨k+1,n+1,by omega,by omega,by go_num,aside (by rw[HP.out];exact o7),b7⟩
       case measure=>simp[intOf];omega
      |false=>
       go_wp2_with (first|go_skip|(refine zbF rfl _ rfl _ _ rfl x rx ?_)|(refine Cel.zac CE rfl _ _ rfl wq _ _ rfl x _ rfl rfl rfl rfl ?_;intro w4 D4 k4 g4 s4;have b4:=kc.trans (k4.mono kc.size);have L4:=L3.below k4;have O4:=aside (zao HO.out k4);have r4:=IdW.zab ra k4;clear g4 s4)|(refine zfl rfl _ rfl _ rfl _ L4 ?_)|(refine zg5 rfl _ rfl _ rfl x D4 ?_))
       refine(hc _).mono ?_
       rintro e w5 ⟨rfl,k5⟩
       have b5:=b4.trans (k5.mono b4.size)
       have O5:=aside (zao O4.out k5)
       go_wp2_with (first|go_skip)
       go_roundw
       case rel=>exact⟨k+1,n,by omega,by omega,by go_num,aside (by rw[HP.out,if_neg (by decide),List.append_nil];exact O5.out),b5⟩
       case measure=>simp[intOf];omega
     ·obtain rfl:k=l.length:=by omega
      have HO2:=HO.out
      rw[List.take_of_length_le (by rw[zaw];omega)]at HO2
      obtain⟨r,hr⟩:∃r,((zar l).filter fun c=>decide (c.seq≤s c.node)).map zaj=r:=⟨_,rfl⟩
      have hrl:r.length≤1000:=by
       rw[←hr,List.length_map]
       have:=List.length_filter_le (fun c=>decide (c.seq≤s c.node)) (zar l)
       rw[zaw]at this
       omega
      rw[hr]at HO2 HR
      obtain⟨A6,c6,rfl,R6⟩:=SlI.own HO2
      have hrn:r.length=n:=by have:=HO2.1;rw[zav,flat_length]at this;omega
      subst hrn
      have qs:=IdU.zpP A6 c6 r wq R6 hrl
      clear HO HO2 hr
      go_wp2_with (first|go_skip)
      refine qs.mono ?_
      rintro e w8 ⟨v8,rfl,o8,k8⟩
      go_wp2_with (first|go_skip)
      go_ret
      obtain⟨A9,c9,rfl,S9⟩:=SlI.own o8
      rw[HR.out]
      exact⟨A9,c9,rfl,S9,b2.trans ((kb.trans (kc.mono kb.size) |>.trans (k8.mono (Nat.le_trans kb.size kc.size))).mono b2.size)⟩
 ·rw[decide_eq_false C]at hb
  subst hb
  have HC:=aside C
  clear C hv
  go_wp2_with (first|go_skip)
  go_ret
  rw[zkq,if_neg HC.out]
  exact⟨none,0,rfl,SlI.nil _,b2⟩
end Go.Proofs.YtgmdhaepiclkcaaGreatDoor.DhA
namespace Go.Proofs.YtgmdhaepiclkcaaGreatDoor.DhB
set_option maxHeartbeats 32000000
set_option maxRecDepth 100000
open Go Go.Sort Go.RowKit Byt IdM IdW IdK IdS OpsM OpsW CmM StW CmW CmX CmY CmA DgM DgW DgR DgX DgY DgI DgF DhO DhP DhT DhK DhC DhA
open Classical
structure Held (w:World) (v:Value) (us:List Cv):Prop where
 each:∀u ∈ us,In w u∧CmW.Fit u.c
 far:∀u ∈ us,u.c.ps≠[]→∀b off sp,u.a=some ⟨b,off,sp⟩→v.ownBlock≠some b
theorem Held.nil (w:World) (v:Value):Held w v []:=⟨fun u h=>by simp at h,fun u h=>by simp at h⟩
theorem Held.below {w w':World} {v:Value} {us:List Cv} (h:Held w v us) (hb:Below w.heap.size w w'):Held w' v us:=⟨fun u hu=>⟨(h.each u hu).1.below hb,(h.each u hu).2⟩,h.far⟩
theorem Held.snoc {w:World} {v:Value} {us:List Cv} {u:Cv} (h:Held w v us) (hi:In w u) (hf:CmW.Fit u.c) (hr:∀b off sp,u.a=some ⟨b,off,sp⟩→v.ownBlock≠some b):Held w v (us++[u]):=by
 refine⟨fun x hx=>?_,fun x hx hp=>?_⟩
 ·rcases List.mem_append.1 hx with hx|hx
  ·exact h.each x hx
  ·rw[List.mem_singleton.1 hx];exact⟨hi,hf⟩
 ·rcases List.mem_append.1 hx with hx|hx
  ·exact h.far x hx hp
  ·rw[List.mem_singleton.1 hx];exact hr
theorem zj4 {w w':World} {A:Option Addr} {cap:Nat} {l:List Idn} {g:Option Nat} (S:SlI w A cap l) (hg:w.grownBy w' g) (hf:l≠[]→∀b off sp,A=some ⟨b,off,sp⟩→g≠some b):SlI w' A cap l∧(l≠[]→∀b off sp,A=some ⟨b,off,sp⟩→b<w.heap.size):=by
 obtain⟨h1,h2,h5⟩:=S
 rcases h5 with⟨rfl,rfl,rfl⟩|⟨x,rfl,hc⟩
 ·exact⟨⟨h1,h2,.inl ⟨rfl,rfl,rfl⟩⟩,fun h=>absurd rfl h⟩
 ·refine⟨⟨h1,h2,.inr ⟨x,rfl,fun i hi=>?_⟩⟩,fun hl b off sp e=>?_⟩
  ·have hcell:=hc i hi
   have hlt:=block_lt_of_cell hcell
   have hne:some (x.add i).block≠g:=fun e=>hf (fun e=>by rw[e]at hi;simp[flat]at hi) x.block x.off x.spot (by cases x;rfl) (by rw[←e,RowIn.block_add])
   unfold World.cell? at hcell ⊢
   rw[hg.block _ hlt hne]
   exact hcell
  ·have hlen:0<(flat l).length:=by
    rw[flat_length]
    have:=List.length_pos_iff.2 hl
    omega
   have:=block_lt_of_cell (hc 0 hlen)
   rw[RowIn.block_add]at this
   injection e with e
   rw[e]at this
   exact this
theorem Held.grown {w w':World} {v v':Value} {us:List Cv} (h:Held w v us) (hg:w.grownBy w' v.ownBlock) (hv:v'.ownBlock=v.ownBlock∨v'.ownBlock=some w.heap.size):Held w' v' us:=by
 refine⟨fun u hu=>⟨(zj4 (h.each u hu).1 hg (h.far u hu)).1,(h.each u hu).2⟩,fun u hu hp b off sp e=>?_⟩
 rcases hv with hv|hv
 ·rw[hv];exact h.far u hu hp b off sp e
 ·rw[hv]
  have:=(zj4 (h.each u hu).1 hg (h.far u hu)).2 hp b off sp e
  intro e2
  injection e2 with e2
  omega
theorem zkm {w:World} {ops:Array Oper} {rest:List Oper} {o:Oper} {a:Act} {Q:Exit→Act→World→Prop} (hgd:o.guard=none) (x:Operand) (ho:o.op=.buildSlice 22 1 #[(0,x)])
  (y:Cv) (hx:a.eval x=.agg (cc y)) (h:∀w1,RowB.Box KE w1 w.heap.size y→Below w.heap.size w w1→wpList Tryz.prog ops Q rest (a.put o.dst (.slice (some ⟨w.heap.size,0,none⟩) 1 1)) w1):wpList Tryz.prog ops Q (o::rest) a w:=
 RowC.zat KE (of_decide_eq_true rfl) hgd x ho y hx (h _ (RowB.Box.new w y _) ((Below.refl _ _).alloc (Nat.le_refl _) _))
theorem zkj (l:List Cv) (x:Cv):zar (l++[x])=zar l++[x.c]:=by unfold zar;rw[List.map_append];rfl
theorem zi1 (X:zhi) (A A':Option Addr) (cap cap':Nat) (l:List Cv) (a:List Idn) (w:World) (S:SlK w A cap l) (T:SlI w A' cap' a) (hl:l.length≤1500000000000) (ha:a.length≤1000) (hK:ShaE.KIn w):
  Calls Tryz.prog 42 #[.slice A l.length cap,.slice A' a.length cap'] w (NewC (zek (zar l) a) w):=by
 have hmax:=S.len
 unfold NewC
 go_enter Tryz.func42,Tryz.ntmps42
 go_wp2_with (first|go_skip)
 refine(zdy A cap l w S hl hK).mono ?_
 rintro e w1 ⟨A1,c1,rfl,T1,k1⟩
 go_wp2_with (first|go_skip)
 refine(X A A1 cap c1 l _ w1 (S.below k1) T1 rfl hl).mono ?_
 rintro e w2 ⟨mo,b,rfl,hb,hv,k2⟩
 have b2:=k1.trans (k2.mono k1.size)
 by_cases C:Closed zaj (zar l)
 ·rw[decide_eq_true C]at hb
  subst hb
  obtain⟨mb,rfl,_,_⟩:=hv rfl
  have hfew:l.length≤8388608:=by
   have:=DgL.ze4 C
   rwa[zaw]at this
  have hps:∀v ∈ l,v.c.ps.length≤1500000000000:=fun v hv=>by
   have:=(za6.1 (za0.1 (C.may v.c (List.mem_map_of_mem hv))).1).2.2.1
   omega
  have hall:(zar l).all zbn=true:=List.all_eq_true.2 fun c hc=>C.may c hc
  have hid:zgj (zar l)=(zar l).map zaj:=by rw[zgj,if_pos hall]
  have hil:((zar l).map zaj).length=l.length:=by rw[List.length_map,zaw]
  have T2:=T1.below k2
  rw[hid]at T2
  obtain⟨own,hown⟩:∃own,(zar l).map zaj=own:=⟨_,rfl⟩
  rw[hown]at T2 hil
  have HR:Hid (zek (zar l) a=(zar l).filter fun c=>decide (zaj c ∈ a)):=aside (by rw[zek,if_pos C];exact List.filter_congr fun c _=>decide_eq_decide.2 Iff.rfl)
  have HID:=aside (hid.trans hown)
  have HIL:=aside hil
  have HOWN:=aside hown
  have HT2:=aside T2
  have HSB:=aside (S.below b2)
  have HTB:=aside (T.below b2)
  have hmm:=zlQ
  have S0:=aside (zcg.made w2)
  have kb:=StW.zah w2 (.map #[] 0)
  have HPS:=aside hps
  clear C hall hid hil hown hv T1 T2 hps
  go_wp2_with (first|go_skip)
  go_loopw [29] (fun i wr=>∃k:Nat,k≤a.length∧i=.int .i64 k∧Hid (zcg wr w2.heap.size k (a.take k))∧Below w2.heap.size w2 wr) (fun i _=>a.length - (intOf i).toNat)
  case atStart=>exact⟨0,Nat.zero_le _,rfl,S0,kb⟩
  case round=>
   clear S0 kb
   obtain⟨k,hk,rfl,S3,kb⟩:=hrel
   by_cases hlt:k<a.length
   ·obtain⟨ba,oa,rfl,_,hra⟩:=SlI.plain HTB.out (by omega)
    obtain⟨x,hx⟩:∃x,a[k]?=some x:=⟨_,List.getElem?_eq_getElem hlt⟩
    have rx:=IdW.zab (hra k hlt) kb
    have hgx:a.getD k nought=x:=by rw[List.getD_eq_getElem?_getD,hx];rfl
    rw[hgx]at rx
    have p0:(k:Int)<a.length:=by omega
    have m0:((k:Int)).toNat=k:=by omega
    have HG:=aside hgx
    clear hra hx hgx
    go_wp2_with (first|go_skip|(refine zak rfl _ rfl _ _ rfl x rx ?_)|(refine IdJ.zax rfl rfl ?_)|(refine CmG.zaF rfl _ _ rfl wr nought _ rfl x _ rfl rfl rfl ?_;intro w3 I3 k3 s3;have b3:=kb.trans (k3.mono kb.size);have S4:=aside (zcg.below S3.out k3);clear s3 S3 kb)|(refine zak rfl _ rfl _ _ rfl x I3.range ?_)|(refine IdK.zbx _ rfl _ _ _ rfl w2.heap.size k _ rfl S4.out (by omega) x rfl rfl ?_;intro w4 S5 g4))
    go_roundw
    case rel=>
     refine⟨k+1,by omega,by go_num,aside (S5.congr fun z=>?_),below_grown b3 b3.size g4 (fun q hq=>by cases hq;exact Nat.le_refl _)⟩
     rw[←HG.out]
     exact zbM hlt z
    case measure=>simp[intOf];omega
   ·obtain rfl:k=a.length:=by omega
    rw[List.take_length]at S3
    clear HTB
    go_wp2_with (first|go_skip)
    go_loopw [11,38] (fun o i wq=>∃(k:Nat) (us:List Cv),k≤l.length∧us.length≤k∧i=.int .i64 k∧Hid (zar us=((zar l).take k).filter fun c=>decide (zaj c ∈ a))∧Hid (wq.ownsRow wr.heap.size 47 8 o us.length (RowS.flat KE us))∧Hid (Held wq o us)∧Below wr.heap.size wr wq) (fun _ i _=>l.length - (intOf i).toNat)
    case atStart=>exact⟨0,[],Nat.zero_le _,Nat.zero_le _,rfl,aside rfl,aside ⟨rfl,.inl ⟨rfl,rfl⟩⟩,aside (Held.nil _ _),Below.refl _ _⟩
    case round=>
     rename World=>wq
     obtain⟨k,us,hk,hnk,rfl,HU,HO,HH,kc⟩:=hrel
     by_cases hlt:k<l.length
     ·obtain⟨b,off,rfl,hbw,hrg⟩:=HSB.out.plain (by omega)
      obtain⟨x,hx⟩:∃x,l[k]?=some x:=⟨_,List.getElem?_eq_getElem hlt⟩
      have rx:=zaL (zaL (hrg k x hx) kb) kc
      have hxm:=List.mem_of_getElem? hx
      have IX:=((HSB.out.each x hxm).1.below kb).below kc
      have FX:=aside (HSB.out.each x hxm).2
      have hcp:=fun W (I:In W x)=>ziE x W I (HPS.out x hxm)
      obtain⟨ba,oa,rfl,_,hra⟩:=SlI.plain HT2.out (by rw[HIL.out];omega)
      have ra:=IdW.zab (IdW.zab (hra k (by rw[HIL.out];exact hlt)) kb) kc
      obtain⟨h,hh⟩:∃h,zaj x.c=h:=⟨_,rfl⟩
      have hget:own.getD k nought=h:=by rw[←HOWN.out,List.getD_eq_getElem?_getD,List.getElem?_map,zbH hx,←hh];rfl
      rw[hget]at ra
      have p0:(k:Int)<l.length:=by omega
      have m0:((k:Int)).toNat=k:=by omega
      have HP:=aside (zd7 (fun c=>decide (zaj c ∈ a)) (zbH hx))
      have S4:=aside (zcg.below S3.out kc)
      rw[hh]at HP
      have q0:(k:Int)<(zgj (zar l)).length:=by rw[HID.out,HIL.out];exact p0
      clear hrg hra hx hh hget hxm
      by_cases hin:h ∈ a
      ·have hif:(if h ∈ a then(1:Int)else 0)=1:=if_pos hin
       have HP2:Hid (((zar l).take (k+1)).filter (fun c=>decide (zaj c ∈ a))=zar us++[x.c]):=aside (by rw[HP.out,if_pos (decide_eq_true hin),HU.out])
       clear HP hin
       go_wp2_with (first|go_skip|(refine zbF rfl _ rfl _ _ rfl x rx ?_)|(refine Cel.zac CE rfl _ _ rfl wq _ _ rfl x _ rfl rfl rfl rfl ?_;intro w5 D5 k5 g5 s5;have b5:=kc.trans (k5.mono kc.size);have O5:=aside (zao HO.out k5);have H5:=aside (HH.out.below k5);have r5:=IdW.zab ra k5;have S5:=aside (zcg.below S4.out k5);have IX5:=CmW.In.below IX k5;clear g5 s5)|(refine zak rfl _ rfl _ _ rfl h r5 ?_)|(refine IdK.zaY _ rfl _ _ rfl w2.heap.size _ a rfl S5.out h rfl ?_;rw[hif])|(refine Cel.zaa CE rfl _ rfl _ rfl x D5 ?_))
       refine(hcp _ IX5).mono ?_
       rintro e w6 ⟨u,rfl,hu,IU,k6,hfar⟩
       have b6:=b5.trans (k6.mono b5.size)
       have O6:=aside (zao O5.out k6)
       have H6:=H5.out.below k6
       have hlt6:∀q,Value.ownBlock _=some q→q<w5.heap.size:=fun q hq=>(O5.out.lt q hq).2
       have HH6:=aside (H6.snoc IU (fit_of hu FX.out) (fun b off sp e e2=>by
        have h1:=hfar b off sp e
        have h2:=hlt6 b e2
        omega))
       have HU6:=aside (show zar (us++[u])=_ from (zkj us u).trans ((congrArg (fun c=>zar us++[c]) hu).trans HP2.out.symm))
       clear H6 hlt6 hfar HP2 O5 H5 hcp
       go_wp2_with (first|go_skip|(refine zkm rfl _ rfl u rfl ?_;intro w7 B7 k7;have b7:=b6.trans (k7.mono b6.size);have O7:=aside (zao O6.out k7);have H7:=aside (HH6.out.below k7))|(refine RowB.zay KE rfl (.tmp 50) (.tmp 53) rfl wr.heap.size _ us.length us rfl O7.out _ u rfl B7 (by omega) b7.size ?_;intro v8 w8 o8 g8 e8))
       have b8:Below wr.heap.size wr w8:=below_grown b7 b7.size g8 (fun q hq=>(O7.out.lt q hq).1)
       have H8:=aside (H7.out.grown g8 e8)
       go_roundw
       case rel=>exact⟨k+1,us++[u],by omega,by simp;omega,by go_num,HU6,aside (by rw[List.length_append];exact o8),H8,b8⟩
       case measure=>simp[intOf];omega
      ·have hif:(if h ∈ a then(1:Int)else 0)=0:=if_neg hin
       have HP2:=aside (show zar us=((zar l).take (k+1)).filter (fun c=>decide (zaj c ∈ a)) by rw[HP.out,if_neg (by simpa using hin),HU.out,List.append_nil])
       clear HP hin
       go_wp2_with (first|go_skip|(refine zbF rfl _ rfl _ _ rfl x rx ?_)|(refine Cel.zac CE rfl _ _ rfl wq _ _ rfl x _ rfl rfl rfl rfl ?_;intro w5 D5 k5 g5 s5;have b5:=kc.trans (k5.mono kc.size);have O5:=aside (zao HO.out k5);have H5:=aside (HH.out.below k5);have r5:=IdW.zab ra k5;have S5:=aside (zcg.below S4.out k5);have IX5:=CmW.In.below IX k5;clear g5 s5)|(refine zak rfl _ rfl _ _ rfl h r5 ?_)|(refine IdK.zaY _ rfl _ _ rfl w2.heap.size _ a rfl S5.out h rfl ?_;rw[hif])|(refine Cel.zaa CE rfl _ rfl _ rfl x D5 ?_))
       go_roundw
       case rel=>exact⟨k+1,us,by omega,by omega,by go_num,HP2,O5,H5,b5⟩
       case measure=>simp[intOf];omega
     ·obtain rfl:k=l.length:=by omega
      have HO2:=HO.out
      have HU2:=HU.out
      rw[List.take_of_length_le (by rw[zaw];omega),←HR.out]at HU2
      obtain⟨A6,c6,rfl,R6⟩:=znX HO2 HH.out.each
      have HU3:=aside HU2
      clear HO HO2 HU HU2 HH
      go_wp2_with (first|go_skip)
      go_ret
      exact⟨A6,c6,us,rfl,R6,HU3.out,b2.trans ((kb.trans (kc.mono kb.size)).mono b2.size)⟩
 ·rw[decide_eq_false C]at hb
  subst hb
  have HC:=aside C
  clear C hv
  go_wp2_with (first|go_skip)
  go_ret
  rw[zek,if_neg HC.out]
  exact⟨none,0,[],rfl,SlK.nil _,rfl,b2⟩
end Go.Proofs.YtgmdhaepiclkcaaGreatDoor.DhB
namespace Go.Proofs.YtgmdhaepiclkcaaGreatDoor.DgS
set_option maxRecDepth 100000
open Go Go.Sort Go.RowKit Byt IdM IdC IdV IdW OpsM OpsW CmM StW CmW CmX CmY DgM DgN DgP DgW DgT DgR DgK DgO DgC DgF DgI
open Classical
def IsSorted (l m:List Com):Prop:=if Closed zaj l then zch zaj m∧∀z,z ∈ m↔z ∈ l else m=[]
end Go.Proofs.YtgmdhaepiclkcaaGreatDoor.DgS
namespace Go.Proofs.YtgmdhaepiclkcaaGreatDoor.DhD
set_option maxHeartbeats 32000000
set_option maxRecDepth 100000
open Go Go.Sort Go.RowKit Byt IdM IdW IdK IdS OpsM OpsW CmM StW CmW CmX CmY CmA DgM DgW DgR DgX DgY DgI DgF DgS DhO DhP DhT DhK DhC DhA DhB
open Classical
theorem sorted_perm {l m:List Com} (C:Closed zaj l) (hp:m.Perm l) (ho:zch zaj m):IsSorted l m:=by
 unfold IsSorted
 rw[if_pos C]
 exact⟨ho,fun z=>hp.mem_iff⟩
theorem zmu (X:zhi) (A:Option Addr) (cap:Nat) (l:List Cv) (w:World) (S:SlK w A cap l) (hl:l.length≤1500000000000) (hK:ShaE.KIn w):
  Calls Tryz.prog 24 #[.slice A l.length cap] w fun e w'=>∃m,IsSorted (zar l) m∧NewC m w e w':=by
 have hmax:=S.len
 unfold NewC
 go_enter Tryz.func24,Tryz.ntmps24
 go_wp2_with (first|go_skip)
 refine(zdy A cap l w S hl hK).mono ?_
 rintro e w1 ⟨A1,c1,rfl,T1,k1⟩
 go_wp2_with (first|go_skip)
 refine(X A A1 cap c1 l _ w1 (S.below k1) T1 rfl hl).mono ?_
 rintro e w2 ⟨mo,b,rfl,hb,hv,k2⟩
 have b2:=k1.trans (k2.mono k1.size)
 by_cases C:Closed zaj (zar l)
 ·rw[decide_eq_true C]at hb
  subst hb
  obtain⟨mb,rfl,_,_⟩:=hv rfl
  have hfew:l.length≤8388608:=by
   have:=DgL.ze4 C
   rwa[zaw]at this
  have hps:∀v ∈ l,v.c.ps.length≤1500000000000:=fun v hv=>by
   have:=(za6.1 (za0.1 (C.may v.c (List.mem_map_of_mem hv))).1).2.2.1
   omega
  have hall:(zar l).all zbn=true:=List.all_eq_true.2 fun c hc=>C.may c hc
  have hid:zgj (zar l)=(zar l).map zaj:=by rw[zgj,if_pos hall]
  have hil:(zgj (zar l)).length=l.length:=by rw[hid,List.length_map,zaw]
  obtain⟨i,hi,z0,z1,z2⟩:=info_parts KE.info
  obtain⟨w3,hmk,zbL,g3⟩:=run_make_own (P:=Tryz.prog) w2 w2.heap.size 22 47 i (.agg (KE.enc KE.zero).toArray) 8 Tryz.underlying22 hi z0 z1 .i64 .i64 l.length (by rw[z2];show 96 * _≤_;omega) (by unfold maxLen;omega) (Nat.le_refl _)
  have kb3:Below w2.heap.size w2 w3:=below_grown (Below.refl _ _) (Nat.le_refl _) g3 (fun k hk=>by cases hk)
  have q:=zdF A A1 cap c1 l (zgj (zar l)) w3 ((S.below b2).below kb3) ((T1.below k2).below kb3) hil hl
  have HSB:=aside (S.below b2)
  have HCL:=aside C
  have HID:=aside hid
  have HPS:=aside hps
  clear hi z0 z1 z2 g3 C hall hid hil hv T1 hps
  go_wp2_with (first|go_skip)
  refine q.mono ?_
  rintro e w4 ⟨bp,P,rfl,hbp,SP,hP,k4⟩
  have b4:=kb3.trans (k4.mono kb3.size)
  have O4:=aside (zao zbL k4)
  have hne:Hid (Value.ownBlock (.slice (some ⟨w2.heap.size,0,none⟩) 0 l.length)≠some bp):=aside (fun e=>by
   have:=(zbL.lt bp e).2
   omega)
  have HP:=aside hP
  have HPL:=aside (show P.length=l.length by rw[hP.1.length_eq,List.length_range])
  clear zbL hmk q kb3 k4 hP hbp
  go_wp2_with (first|go_skip)
  go_loopw [6,26] (fun o i wq=>∃(k:Nat) (us:List Cv),k≤l.length∧us.length=k∧i=.int .i64 k∧Hid (zar us=atC l (P.take k))∧Hid (wq.ownsRow w2.heap.size 47 8 o us.length (RowS.flat KE us))∧Hid (Held wq o us)∧Hid (o.ownBlock≠some bp)∧wq.heap[bp]?=some (.cells (nv P).toArray 3 (0,0))∧Below w2.heap.size w2 wq) (fun _ i _=>l.length - (intOf i).toNat)
  case atStart=>exact⟨0,[],Nat.zero_le _,rfl,rfl,aside rfl,O4,aside (Held.nil _ _),hne,SP,b4⟩
  case round=>
   clear O4 hne SP b4
   rename World=>wq
   obtain⟨k,us,hk,hnk,rfl,HU,HO,HH,HNE,SP,kb⟩:=hrel
   by_cases hlt:k<l.length
   ·obtain⟨p,hp⟩:∃p,P[k]?=some p:=⟨_,List.getElem?_eq_getElem (by rw[HPL.out];exact hlt)⟩
    have cp:wq.cell? ⟨bp,k,none⟩=some (.int .i64 p):=by rw[cell_of_row wq bp k _ _ (0,0) SP,List.getElem?_toArray,nv_at hp]
    have hpl:p<l.length:=by simpa using HP.out.1.mem_iff.1 (List.mem_of_getElem? hp)
    obtain⟨b,off,rfl,hbw,hrg⟩:=HSB.out.plain (by omega)
    obtain⟨x,hx⟩:∃x,l[p]?=some x:=⟨_,List.getElem?_eq_getElem hpl⟩
    have rx:=zaL (hrg p x hx) kb
    have hxm:=List.mem_of_getElem? hx
    have IX:=(HSB.out.each x hxm).1.below kb
    have FX:=aside (HSB.out.each x hxm).2
    have hcp:=fun W (I:In W x)=>ziE x W I (HPS.out x hxm)
    have p0:(k:Int)<l.length:=by omega
    have m0:((k:Int)).toNat=k:=by omega
    have p1:(p:Int)<l.length:=by omega
    have m1:((p:Int)).toNat=p:=by omega
    have HN:=aside (zmo hp hx)
    have hbq:=(Array.getElem?_eq_some_iff.1 SP).1
    clear hrg hx hxm hp
    go_wp2_with (first|go_skip|(refine zbF rfl _ rfl _ _ rfl x rx ?_))
    refine(hcp _ IX).mono ?_
    rintro e w6 ⟨u,rfl,hu,IU,k6,hfar⟩
    have b6:=kb.trans (k6.mono kb.size)
    have O6:=aside (zao HO.out k6)
    have H6:=HH.out.below k6
    have P6:=zbI SP k6
    have hlt6:∀q,Value.ownBlock _=some q→q<wq.heap.size:=fun q hq=>(HO.out.lt q hq).2
    have HH6:=aside (H6.snoc IU (fit_of hu FX.out) (fun b off sp e e2=>by
     have h1:=hfar b off sp e
     have h2:=hlt6 b e2
     omega))
    have HU6:=aside (show zar (us++[u])=atC l (P.take (k+1)) by rw[zkj,HU.out,hu,HN.out])
    clear H6 hlt6 hfar HO HH HU hcp cp SP HN
    go_wp2_with (first|go_skip|(refine zkm rfl _ rfl u rfl ?_;intro w7 B7 k7;have b7:=b6.trans (k7.mono b6.size);have O7:=aside (zao O6.out k7);have H7:=aside (HH6.out.below k7);have P7:=zbI P6 k7)|(refine RowB.zay KE rfl (.tmp 30) (.tmp 36) rfl w2.heap.size _ us.length us rfl O7.out _ u rfl B7 (by omega) b7.size ?_;intro v8 w8 o8 g8 e8))
    have b8:Below w2.heap.size w2 w8:=below_grown b7 b7.size g8 (fun q hq=>(O7.out.lt q hq).1)
    have H8:=aside (H7.out.grown g8 e8)
    have hb7:=(Array.getElem?_eq_some_iff.1 P7).1
    have P8:w8.heap[bp]?=_:=(g8.block bp hb7 (fun e=>HNE.out e.symm)).trans P7
    have N8:Hid (v8.ownBlock≠some bp):=aside (fun e=>by
     rcases e8 with e8|e8
     ·rw[e8]at e;exact HNE.out e
     ·rw[e8]at e
      injection e with e
      omega)
    go_roundw
    case rel=>exact⟨k+1,us++[u],by omega,by simp;omega,by go_num,HU6,aside (by rw[List.length_append];exact o8),H8,N8,P8,b8⟩
    case measure=>simp[intOf];omega
   ·obtain rfl:k=l.length:=by omega
    have HO2:=HO.out
    have HU2:=HU.out
    rw[show P.take l.length=P by rw[←HPL.out,List.take_length]]at HU2
    obtain⟨A6,c6,rfl,R6⟩:=znX HO2 HH.out.each
    have HU3:=aside HU2
    have HSO:=aside (sorted_perm HCL.out (zjA HP.out.1) (inOrder HID.out HP.out HCL.out))
    clear HO HO2 HU HU2 HH
    go_wp2_with (first|go_skip)
    go_ret
    exact⟨_,HSO.out,A6,c6,us,rfl,R6,HU3.out,b2.trans (kb.mono b2.size)⟩
 ·rw[decide_eq_false C]at hb
  subst hb
  have HC:=aside C
  clear C hv
  go_wp2_with (first|go_skip)
  go_ret
  refine⟨[],?_,none,0,[],rfl,SlK.nil _,rfl,b2⟩
  unfold IsSorted
  rw[if_neg HC.out]
end Go.Proofs.YtgmdhaepiclkcaaGreatDoor.DhD
