/- What the project's copied, Ids and Find of package dag return | A contract of the library's, laid at this program | slices.SortFunc at ids | What set returns | What rising returns | What Sort, Both, Common and Without return -/
import Derived.Test.YtgmdhaepiclkcaaGreatDoorIdKJ3
import Derived.Test.YtgmdhaepiclkcaaGreatDoorCmAJ5
import Derived.Test.YtgmdhaepiclkcaaGreatDoorStLJ6
import Derived.Shelf.SlLaysF0
import Derived.Test.YtgmdhaepiclkcaaGreatDoorProg
import Derived.Test.YtgmdhaepiclkcaaGreatDoorRefEJ9
import Derived.Shelf.SlSortCmp.NoneTotal
import Derived.Maps.AppendAt
namespace Go.Proofs.YtgmdhaepiclkcaaGreatDoor.DhC
set_option maxHeartbeats 16000000
set_option maxRecDepth 100000
open Go Go.Sort Go.RowKit Byt IdM IdW OpsM OpsW CmM StW CmW CmX CmY CmA DgM DgW DgR DgG
theorem nil_eq (w:World):(binOp BinOp.eql 23 (.slice none 0 0) (.slice none 0 0)).run Tryz.prog w=.ok (.bool true) w:=by kernel_rfl
theorem some_eq (p:Addr) (n cap:Nat) (w:World):(binOp BinOp.eql 23 (.slice (some p) n cap) (.slice none 0 0)).run Tryz.prog w=.ok (.bool false) w:=by kernel_rfl
theorem zm6 {w:World} {ops:Array Oper} {rest:List Oper} {o:Oper} {a:Act} {Q:Exit→Act→World→Prop} (hgd:o.guard=none) (ho:o.op=.buildSlice 23 0 #[])
  (h:∀w1 cap,w1.ownsRow w.heap.size 56 32 (.slice (some ⟨w.heap.size,0,none⟩) 0 cap) 0 (bv (flat []))→Below w.heap.size w w1→w.heap.size≤w1.heap.size→wpList Tryz.prog ops Q rest (a.put o.dst (.slice (some ⟨w.heap.size,0,none⟩) 0 cap)) w1):wpList Tryz.prog ops Q (o::rest) a w:=by
 refine wpList_plain hgd fun K hK=>?_
 have hrun:(Instr.buildSlice 23 0 #[]).run Tryz.prog w=.ok (.slice (some ⟨w.heap.size,0,none⟩) 0 0) (w.alloc (.cells #[] 56)):=by kernel_rfl
 unfold Oper.wp execOp
 simp only[ho,List.map_toArray,List.map_nil,Sem.run_bind,hrun,Result.andThen_ok,Sem.run_pure]
 refine hK _ _ (h _ 0 ⟨rfl,.inr ⟨w.heap.size,0,#[],rfl,Nat.le_refl _,heap_alloc_new w _,Nat.le_refl _,Nat.zero_le _,rfl,rfl⟩⟩ ((Below.refl _ _).alloc (Nat.le_refl _) _) (by simp))
theorem zoY (A:Option Addr) (cap:Nat) (l:List Idn) (w:World) (S:SlI w A cap l) (hl:l.length≤1500000000000):
  Calls Tryz.prog 119 #[.slice A l.length cap] w fun e w'=>∃A2 cap2,e=.returned (.slice A2 l.length cap2)∧SlI w' A2 cap2 l∧Below w.heap.size w w'∧∀b off sp,A2=some ⟨b,off,sp⟩→w.heap.size≤b:=by
 rcases S.2.2 with⟨rfl,rfl,rfl⟩|⟨p,rfl,_⟩
 ·have he:=nil_eq
  go_enter Tryz.func119,Tryz.ntmps119
  go_wp2_with (first|go_skip)
  go_ret
  exact⟨none,0,rfl,SlI.nil w,Below.refl _ _,fun b off sp h=>by cases h⟩
 ·have he:=some_eq p l.length cap
  go_enter Tryz.func119,Tryz.ntmps119
  go_wp2_with (first|go_skip|(refine zm6 rfl rfl ?_;intro w1 c1 o1 k1 s1;have S1:=S.below k1)|(refine zaE rfl (.tmp 5) (.tmp 6) rfl w.heap.size _ 0 [] rfl o1 (some p) _ cap l rfl rfl S1 (by omega) s1 ?_;intro v2 w2 o2 g2))
  go_ret
  have hb:=o2.lt
  obtain⟨A2,cap2,rfl,S2⟩:=SlI.own o2
  refine⟨A2,cap2,rfl,S2,below_grown k1 s1 g2 (fun q hq=>(o1.lt q hq).1),fun b off sp h=>?_⟩
  subst h
  exact(hb b rfl).1
theorem info_ids:(Tryz.prog.info? 23).map (·.size)=some 1:=by kernel_rfl
theorem ziE (v:Cv) (w:World) (S:In w v) (hl:v.c.ps.length≤1500000000000):
  Calls Tryz.prog 67 #[.agg (cc v)] w fun e w'=>∃u:Cv,e=.returned (.agg (cc u))∧u.c=v.c∧In w' u∧Below w.heap.size w w'∧∀b off sp,u.a=some ⟨b,off,sp⟩→w.heap.size≤b:=by
 have z1:(w.alloc (.cells (cc v) 47)).heap.size=w.heap.size+1:=by simp
 have B0:Cel.Box CE ((w.alloc (.cells (cc v) 47)).alloc (.cells #[.int .i64 0,.int .i64 0,.int .i64 0,.slice none 0 0,.int .i64 0,.string ⟨#[]⟩,.string ⟨#[]⟩,.int .i64 0] 47)) w.heap.size v:=(Cel.Box.new (E:=CE) w v _).alloc _
 have B1:Cel.Box CE ((w.alloc (.cells (cc v) 47)).alloc (.cells #[.int .i64 0,.int .i64 0,.int .i64 0,.slice none 0 0,.int .i64 0,.string ⟨#[]⟩,.string ⟨#[]⟩,.int .i64 0] 47)) (w.heap.size+1) noV:=by
  rw[←z1]
  exact Cel.Box.new (E:=CE) _ noV _
 have kb:Below w.heap.size w ((w.alloc (.cells (cc v) 47)).alloc (.cells #[.int .i64 0,.int .i64 0,.int .i64 0,.slice none 0 0,.int .i64 0,.string ⟨#[]⟩,.string ⟨#[]⟩,.int .i64 0] 47)):=((Below.refl _ _).alloc (Nat.le_refl _) _).alloc (by simp) _
 clear z1
 have c3:=zaP B0
 have q:=fun W (T:SlI W v.a v.k v.c.ps)=>zoY v.a v.k v.c.ps W T hl
 go_enter Tryz.func67,Tryz.ntmps67
 go_wp2_with (first|go_skip)
 refine(q _ (S.below kb)).mono ?_
 rintro e w1 ⟨A2,cap2,rfl,S2,k1,hfar⟩
 have D0:=B0.below k1
 have D1:=B1.below k1
 have b1:=kb.trans (k1.mono kb.size)
 have kbs:=kb.size
 clear B0 B1 kb k1 q c3
 go_wp2_with (first|go_skip|(refine Cel.zaI CE rfl rfl 23 _ _ rfl info_ids w.heap.size 3 rfl (by show 3<8;omega) v D0 ⟨A2,cap2,v.c⟩ (.slice A2 v.c.ps.length cap2) rfl rfl rfl rfl ?_;intro w2 E0 f2 g2 s2;have E1:=D1.kept g2 (by simp);have b2:=b1.trans (f2 _ (Nat.le_refl _));have S3:=CmD.znB S2 (CmD.no_cm D0) g2;clear D0 D1 b1)|(refine Cel.zaa CE rfl _ rfl _ rfl _ E0 ?_)|(refine Cel.zad CE rfl _ _ rfl (w.heap.size+1) rfl _ E1 ⟨A2,cap2,v.c⟩ rfl ?_;intro w3 G1 f3 g3 s3))
 exact bodyPost_ret (v:=.agg (cc ⟨A2,cap2,v.c⟩)) (CmF.zjN Tryz.results67 _ _ (w.heap.size+1) ⟨A2,cap2,v.c⟩ rfl G1) rfl ⟨⟨A2,cap2,v.c⟩,rfl,rfl,CmD.znB S3 (CmD.no_cm E1) g3,b2.trans (f3 _ (by omega)),fun b off sp h=>Nat.le_trans kbs (hfar b off sp h)⟩
theorem zdy (A:Option Addr) (cap:Nat) (l:List Cv) (w:World) (S:SlK w A cap l) (hl:l.length≤1500000000000) (hK:ShaE.KIn w):
  Calls Tryz.prog 25 #[.slice A l.length cap] w (zne (zgj (zar l)) w):=by
 obtain⟨r,hr⟩:∃r,zgj (zar l)=r:=⟨_,rfl⟩
 have HR:Hid (r=if(zar (l.drop 0)).all zbn=true then(zar l).map zaj else[]):=aside (by rw[←hr];rfl)
 rw[hr]
 clear hr
 unfold zne
 obtain⟨i,hi,z0,z1,z2⟩:=info_parts zhj
 obtain⟨w1,hmk,zfw,g1⟩:=run_make_own (P:=Tryz.prog) w w.heap.size 23 56 i (.agg (cs nought)) 32 Tryz.underlying23 hi z0 z1 .i64 .i64 l.length (by rw[z2];omega) (by unfold maxLen;omega) (Nat.le_refl _)
 have kb1:Below w.heap.size w w1:=below_grown (Below.refl _ _) (Nat.le_refl _) g1 (fun k hk=>by cases hk)
 clear hi z0 z1 z2 g1
 go_enter Tryz.func25,Tryz.ntmps25
 go_wp2_with (first|go_skip)
 go_loopw [3,13] (fun o i wr=>∃k:Nat,k≤l.length∧i=.int .i64 k∧Hid (r=if(zar (l.drop k)).all zbn=true then(zar l).map zaj else[])∧Hid (wr.ownsRow w.heap.size 56 32 o k (bv (flat (((zar l).take k).map zaj))))∧Below w.heap.size w wr) (fun _ i _=>l.length - (intOf i).toNat)
 case atStart=>exact⟨0,Nat.zero_le _,rfl,HR,aside zfw,kb1⟩
 case round=>
  clear HR zfw kb1 hmk
  obtain⟨k,hk,rfl,HR,HO,kb⟩:=hrel
  by_cases hlt:k<l.length
  ·obtain⟨b,off,rfl,hbw,hrg⟩:=S.plain (by omega)
   obtain⟨x,hx⟩:∃x,l[k]?=some x:=⟨_,List.getElem?_eq_getElem hlt⟩
   have hr1:=zaL (hrg k x hx) kb
   have p0:(k:Int)<l.length:=by omega
   have m0:((k:Int)).toNat=k:=by omega
   have hxm:=List.mem_of_getElem? hx
   have IX:=(S.each x hxm).1.below kb
   have hc:=fun W (I:In W x) K=>CmA.zeY x W I (S.each x hxm).2 K
   unfold zfp at hc
   have HT:=aside (zlp (zbH hx))
   have HD:Hid ((zar (l.drop k)).all zbn=(zbn x.c&&(zar (l.drop (k+1))).all zbn)):=aside (by rw[drop_at hx];rfl)
   clear hrg hx hxm
   cases hm:zbn x.c with
   |false=>
    obtain⟨y1,y2,y3⟩:=zgd hm
    rw[y2]at hc
    have HE:Hid (r=[]):=aside (by rw[HR.out,HD.out,hm];rfl)
    clear HR HD y1 y2 y3 hm HO
    go_wp2_with (first|go_skip|(refine zbF rfl _ rfl _ _ rfl x hr1 ?_)|(refine Cel.zac CE rfl _ _ rfl wr _ _ rfl x _ rfl rfl rfl rfl ?_;intro w3 B3 k3 g3 s3;have b3:=kb.trans (k3.mono kb.size);have IX3:=CmW.In.below IX k3;clear g3 s3)|(refine Cel.zaa CE rfl _ rfl _ rfl x B3 ?_))
    refine(hc _ IX3 (hK.below b3)).mono ?_
    rintro e w1 ⟨rfl,k1⟩
    have b1:=b3.trans (k1.mono b3.size)
    clear hc kb k1 hr1
    go_wp2_with (first|go_skip|(refine IdJ.zax rfl rfl ?_)|(refine CmG.zaF rfl _ _ rfl _ nought _ rfl (zim x.c) _ rfl rfl rfl ?_;intro w2 G2 k2 s2;have b2:=b1.trans (k2.mono b1.size)))
    go_ret
    rw[HE.out]
    exact⟨none,0,rfl,SlI.nil _,b2⟩
   |true=>
    obtain⟨y1,y2,y3⟩:=zdm hm
    rw[y2,y3]at hc
    have HE:Hid (r=if(zar (l.drop (k+1))).all zbn=true then(zar l).map zaj else[]):=aside (by rw[HR.out,HD.out,hm,Bool.true_and])
    clear HR HD y1 y2 y3 hm
    obtain⟨h,hh⟩:∃h,zaj x.c=h:=⟨_,rfl⟩
    rw[hh]at hc HT
    clear hh
    obtain⟨xs,hxs⟩:∃xs,((zar l).take k).map zaj=xs:=⟨_,rfl⟩
    rw[hxs]at HO HT
    clear hxs
    go_wp2_with (first|go_skip|(refine zbF rfl _ rfl _ _ rfl x hr1 ?_)|(refine Cel.zac CE rfl _ _ rfl wr _ _ rfl x _ rfl rfl rfl rfl ?_;intro w3 B3 k3 g3 s3;have b3:=kb.trans (k3.mono kb.size);have IX3:=CmW.In.below IX k3;have O3:=aside (zao HO.out k3);clear g3 s3)|(refine Cel.zaa CE rfl _ rfl _ rfl x B3 ?_))
    refine(hc _ IX3 (hK.below b3)).mono ?_
    rintro e w1 ⟨rfl,k1⟩
    have b1:=b3.trans (k1.mono b3.size)
    have O1:=aside (zao O3.out k1)
    clear hc kb k1 hr1 HO O3 b3
    go_wp2_with (first|go_skip|(refine IdJ.zax rfl rfl ?_)|(refine CmG.zaF rfl _ _ rfl _ nought _ rfl h _ rfl rfl rfl ?_;intro w2 G2 k2 s2;have b2:=b1.trans (k2.mono b1.size);have O2:=aside (zao O1.out k2))|(refine zak rfl _ rfl _ _ rfl h G2.range ?_)|(refine zde rfl _ rfl h rfl ?_;intro w3 S3 k3;have b3:=b2.trans (k3.mono b2.size);have O3:=aside (zao O2.out k3))|(refine zaE rfl (.tmp 24) (.tmp 26) rfl w.heap.size _ k xs rfl O3.out _ 1 1 [h] rfl rfl S3 (by omega) b3.size ?_;intro v6 w6 o6 g6))
    have b6:Below w.heap.size w w6:=below_grown b3 b3.size g6 (fun q hq=>(O3.out.lt q hq).1)
    go_roundw
    case rel=>exact⟨k+1,by omega,by go_num,HE,aside (by rw[HT.out];exact o6),b6⟩
    case measure=>simp[intOf];omega
  ·have e:k=l.length:=by omega
   have HE:Hid (r=(zar l).map zaj):=aside (by rw[HR.out,List.drop_of_length_le (by omega)];rfl)
   have HO2:=HO.out
   rw[List.take_of_length_le (by rw[zaw];omega)]at HO2
   have he:=HE.out
   obtain⟨R6,hR6⟩:∃R,(zar l).map zaj=R:=⟨_,rfl⟩
   rw[hR6]at he HO2
   have HE2:=aside he
   clear hR6 he HE
   obtain⟨A6,c6,rfl,S6⟩:=SlI.own HO2
   have pn:¬(k:Int)<l.length:=by omega
   clear HR HO HO2
   go_wp2_with (first|go_skip)
   go_ret
   rw[HE2.out]
   exact⟨A6,c6,rfl,S6,kb⟩
theorem fit_of {u v:Com} (h:u=v) (hf:CmW.Fit v):CmW.Fit u:=by rw[h];exact hf
end Go.Proofs.YtgmdhaepiclkcaaGreatDoor.DhC
namespace Go.Proofs
set_option maxRecDepth 100000
open Go.Shelf
def Tryz.zkG:Go.Shelf.Ren:=⟨fun|6=>136|15=>151|14=>171|28=>184|29=>185|20=>201|21=>202|22=>203|23=>204|24=>205|25=>206|26=>207|27=>208|46=>225|47=>220|48=>221|49=>226|50=>227|57=>241|n=>n,fun|22=>23|24=>56|25=>169|3=>3|39=>184|0=>0|53=>161|55=>157|4=>4|46=>203|45=>202|50=>207|5=>5|9=>9|66=>229|70=>233|76=>245|77=>246|n=>n,fun|n=>n⟩
theorem Tryz.znz:Go.Proofs.SlLaysF0.n6 Tryz.prog Tryz.zkG:={
 mixed:=by kernel_rfl
 f6:=⟨Tryz.f136.name,by decide,Tryz.func136.trans (congrArg some (by kernel_rfl))⟩
 f14:=⟨Tryz.f171.name,by decide,Tryz.func171.trans (congrArg some (by kernel_rfl))⟩
 f15:=Tryz.func151.trans (congrArg some (by kernel_rfl))
 f20:=⟨Tryz.f201.name,by decide,Tryz.func201.trans (congrArg some (by kernel_rfl))⟩
 f21:=⟨Tryz.f202.name,by decide,Tryz.func202.trans (congrArg some (by kernel_rfl))⟩
 f22:=⟨Tryz.f203.name,by decide,Tryz.func203.trans (congrArg some (by kernel_rfl))⟩
 f23:=⟨Tryz.f204.name,by decide,Tryz.func204.trans (congrArg some (by kernel_rfl))⟩
 f24:=⟨Tryz.f205.name,by decide,Tryz.func205.trans (congrArg some (by kernel_rfl))⟩
 f25:=⟨Tryz.f206.name,by decide,Tryz.func206.trans (congrArg some (by kernel_rfl))⟩
 f26:=⟨Tryz.f207.name,by decide,Tryz.func207.trans (congrArg some (by kernel_rfl))⟩
 f27:=⟨Tryz.f208.name,by decide,Tryz.func208.trans (congrArg some (by kernel_rfl))⟩
 f28:=Tryz.func184.trans (congrArg some (by kernel_rfl))
 f29:=Tryz.func185.trans (congrArg some (by kernel_rfl))
 f46:=⟨Tryz.f225.name,by decide,Tryz.func225.trans (congrArg some (by kernel_rfl))⟩
 f47:=Tryz.func220.trans (congrArg some (by kernel_rfl))
 f48:=Tryz.func221.trans (congrArg some (by kernel_rfl))
 f49:=⟨Tryz.f226.name,by decide,Tryz.func226.trans (congrArg some (by kernel_rfl))⟩
 f50:=⟨Tryz.f227.name,by decide,Tryz.func227.trans (congrArg some (by kernel_rfl))⟩
 f57:=⟨Tryz.f241.name,by decide,Tryz.func241.trans (congrArg some (by kernel_rfl))⟩
 t0:=Tryz.underlying0
 a0:=Tryz.isAgg0
 z0:=Tryz.sizeOf0
 v0:=Tryz.zeroValue0
 t3:=Tryz.underlying3
 a3:=Tryz.isAgg3
 z3:=Tryz.sizeOf3
 v3:=Tryz.zeroValue3
 t4:=Tryz.underlying4
 a4:=Tryz.isAgg4
 z4:=Tryz.sizeOf4
 v4:=Tryz.zeroValue4
 t5:=Tryz.underlying5
 a5:=Tryz.isAgg5
 z5:=Tryz.sizeOf5
 v5:=Tryz.zeroValue5
 t9:=Tryz.underlying9
 a9:=Tryz.isAgg9
 z9:=Tryz.sizeOf9
 v9:=Tryz.zeroValue9
 t22:=Tryz.underlying23
 a22:=Tryz.isAgg23
 z22:=Tryz.sizeOf23
 v22:=Tryz.zeroValue23
 t25:=Tryz.underlying169
 a25:=Tryz.isAgg169
 z25:=Tryz.sizeOf169
 v25:=Tryz.zeroValue169
 t39:=Tryz.underlying184
 a39:=Tryz.isAgg184
 z39:=Tryz.sizeOf184
 v39:=Tryz.zeroValue184
 t45:=Tryz.underlying202
 a45:=Tryz.isAgg202
 z45:=Tryz.sizeOf202
 v45:=Tryz.zeroValue202
 t46:=Tryz.underlying203
 a46:=Tryz.isAgg203
 z46:=Tryz.sizeOf203
 v46:=Tryz.zeroValue203
 t50:=Tryz.underlying207
 a50:=Tryz.isAgg207
 z50:=Tryz.sizeOf207
 v50:=Tryz.zeroValue207
 t53:=Tryz.underlying161
 a53:=Tryz.isAgg161
 z53:=Tryz.sizeOf161
 v53:=Tryz.zeroValue161
 t55:=Tryz.underlying157
 a55:=Tryz.isAgg157
 z55:=Tryz.sizeOf157
 v55:=Tryz.zeroValue157
 t66:=Tryz.underlying229
 a66:=Tryz.isAgg229
 z66:=Tryz.sizeOf229
 v66:=Tryz.zeroValue229
 t70:=Tryz.underlying233
 a70:=Tryz.isAgg233
 z70:=Tryz.sizeOf233
 v70:=Tryz.zeroValue233
 t76:=Tryz.underlying245
 a76:=Tryz.isAgg245
 z76:=Tryz.sizeOf245
 v76:=Tryz.zeroValue245
 t77:=Tryz.underlying246
 a77:=Tryz.isAgg246
 z77:=Tryz.sizeOf246
 v77:=Tryz.zeroValue246}
end Go.Proofs
namespace Go.Proofs.YtgmdhaepiclkcaaGreatDoor.IdR
set_option maxRecDepth 100000
open Go Go.Shelf Go.Sort Go.RowKit Go.Lib IdM Byt IdW IdC
def enc (x:Idn):List Value:=bv x.1
theorem enc_len (x:Idn):(enc x).length=32:=by rw[enc,zav,zaK]
theorem swo:SWO (ltOf cf) where
 irrefl x:=by unfold ltOf;rw[zjf];exact zbm x
 trans x y z h1 h2:=by unfold ltOf at *;rw[zjf]at *;exact zbg h1 h2
 ntrans x y z h1 h2:=by
  unfold ltOf at *
  rw[zjf]at *
  cases h3:less x z with
  |false=>rfl
  |true=>
   by_cases hxy:x=y
   ·subst hxy;rw[h3]at h2;cases h2
   ·have h4:=zcY h1 hxy
    have h5:=zbg h4 h3
    rw[h2]at h5
    cases h5
theorem zlb (blk off size:Nat) (w:World):CmpLays Tryz.prog 137 #[] enc 32 cf blk off size w:=fun _ _ _ _ x y=>zdF x y _
theorem agg_id (w:World):(isAgg 56).run Tryz.prog w=.ok true w:=by kernel_rfl
theorem ziV (w:World):(Go.sizeOf 56).run Tryz.prog w=.ok 32 w:=by kernel_rfl
theorem sortf (blk off cap:Nat) (d:Array Idn) (w:World) (hH:HoldsK enc 32 w blk off d) (hblk:blk<w.heap.size) (hsz:d.size<4611686018427387904):
  Calls Tryz.prog 136 #[.slice (some ⟨blk,off,none⟩) d.size cap,.func (.func 137) #[] #[]] w fun e w'=>
   e=.returned (.tuple #[])∧∃d' n os,PermIn 0 d.size d d'∧SortedIn (ltOf cf) 0 d.size d'∧w'=sortWorldK enc 32 w blk off n d' os:=by
 have eg:∀args w,(callFunc 137 args).run Tryz.prog w=.ok (.enter 137 args) w:=enters_of Tryz.func137 (by kernel_rfl) rfl
 exact AnyQ.slices_SortFunc Tryz.znz 32 agg_id ziV enc enc_len (fun x v hv=>zeh x.1 v hv) cf swo 137 #[] blk off cap d w eg (zlb blk off d.size w) hH hblk hsz
theorem zfW (l:List Idn):flatK enc 32 l.toArray=(bv (flat l)).toArray:=by
 refine ext_get! (by simp[zav,flat_length]) (fun t ht=>?_)
 have ht':t<l.length * 32:=by simpa using ht
 have hi:t / 32<l.length:=by omega
 have hj:t % 32<32:=by omega
 have e:=zcd l (t / 32) (t % 32) hi hj
 rw[show t / 32 * 32+t % 32=t by omega]at e
 rw[get_flatK _ _ _ t (by simpa using ht')]
 have q1:(bv (flat l)).toArray[t]! =.int .u8 ((flat l).getD t 0):=by
  rw[Array.getElem!_eq_getD,Array.getD_eq_getD_getElem?,List.getElem?_toArray,zcA _ (by rw[flat_length];exact ht')]
  rfl
 have q2:l.toArray[t / 32]! =l.getD (t / 32) nought:=by
  rw[Array.getElem!_eq_getD,Array.getD_eq_getD_getElem?,List.getElem?_toArray,List.getD_eq_getElem?_getD]
  rfl
 have q3:∀z:Idn,(enc z)[t % 32]! =.int .u8 (z.1.getD (t % 32) 0):=by
  intro z
  rw[List.getElem!_eq_getElem?_getD,enc,zcA _ (by rw[zaK];exact hj)]
  rfl
 rw[q1,q2,q3,e]
theorem zhD {w:World} {base g cap:Nat} {l:List Idn} (h:w.ownsRow base 56 32 (.slice (some ⟨g,0,none⟩) l.length cap) l.length (bv (flat l))):base≤g∧g<w.heap.size:=h.lt g rfl
theorem zhW {w:World} {base g cap:Nat} {l:List Idn} (h:w.ownsRow base 56 32 (.slice (some ⟨g,0,none⟩) l.length cap) l.length (bv (flat l))):HoldsK enc 32 w g 0 l.toArray:=by
 unfold HoldsK Holds
 rw[zfW]
 intro j hj
 have hj':j<(flat l).length:=by simpa[zav]using hj
 refine⟨?_,by rw[Nat.zero_add];exact h.frozenAt j⟩
 rw[Nat.zero_add,h.cellAt j (by rw[flat_length]at hj';exact hj'),zcA _ hj']
 rw[Array.getElem!_eq_getD,Array.getD_eq_getD_getElem?,List.getElem?_toArray,zcA _ hj']
 rfl
theorem zgf {w:World} {base g cap:Nat} {l l':List Idn} (h:w.ownsRow base 56 32 (.slice (some ⟨g,0,none⟩) l.length cap) l.length (bv (flat l))) (hl:l'.length=l.length) (n:Nat) (os:Array Obj):
  (sortWorldK enc 32 w g 0 n l'.toArray os).ownsRow base 56 32 (.slice (some ⟨g,0,none⟩) l.length cap) l.length (bv (flat l'))∧w.grownBy (sortWorldK enc 32 w g 0 n l'.toArray os) (some g):=by
 have hlt:=(zhD h).2
 constructor
 ·refine⟨by rw[zav,flat_length,hl],?_⟩
  rcases h.2 with⟨e,_⟩|⟨g',cap',cur,e,hbg,hg,h1,h2,h3,h4⟩
  ·cases e
  ·injection e with e1 e2 e3
   injection e1 with e1
   injection e1 with e1
   subst e1
   subst e3
   refine .inr ⟨g,cap,putCells id 0 (bv (flat l')).toArray cur,rfl,hbg,?_,h1,h2,by simpa[putCells]using h3,?_⟩
   ·unfold sortWorldK
    rw[Sort.heap_grow_old _ _ (by rw[size_putRowK];exact hlt)]
    unfold putRowK putRow mapBlock
    rw[zfW]
    show(Array.modify w.heap g _)[g]?=_
    rw[Array.getElem?_modify,if_pos rfl,hg]
    rfl
   ·have hc:l.length * 32≤cur.size:=by rw[h3];exact Nat.mul_le_mul_right _ h1
    apply List.ext_getElem?
    intro j
    rw[List.getElem?_take]
    by_cases hj:j<l.length * 32
    ·have hj':j<(flat l').length:=by rw[flat_length,hl];exact hj
     rw[if_pos hj,Array.getElem?_toList,putCells,Array.getElem?_mapIdx,Array.getElem?_eq_getElem (by omega),Option.map_some,if_pos ⟨Nat.zero_le _,by simpa[zav]using hj'⟩,zcA _ hj']
     simp only[id,Nat.sub_zero]
     rw[Array.getElem!_eq_getD,Array.getD_eq_getD_getElem?,List.getElem?_toArray,zcA _ hj']
     rfl
    ·rw[if_neg hj,List.getElem?_eq_none (by rw[zav,flat_length,hl];omega)]
 ·unfold sortWorldK
  refine⟨rfl,rfl,rfl,?_,fun i hi hne=>?_⟩
  ·rw[Sort.size_grow,size_putRowK]
   exact Nat.le_add_right _ _
  ·rw[Sort.heap_grow_old _ _ (by rw[size_putRowK];exact hi)]
   show(Array.modify w.heap g _)[i]?=_
   rw[Array.getElem?_modify,if_neg (fun e=>hne (by rw[e]))]
theorem zew {l l':List Idn} (hn:l.Nodup) (hp:PermIn 0 l.length l.toArray l'.toArray) (hs:SortedIn (ltOf cf) 0 l.length l'.toArray):l'.length=l.length∧l'=IdM.sort l:=by
 have hl:l'.length=l.length:=by simpa using hp.1
 have hperm:l'.Perm l:=by
  have q:=hp.2.2
  have e1:(l.toArray.extract 0 l.length).toList=l:=by simp
  have e2:(l'.toArray.extract 0 l.length).toList=l':=by rw[←hl];simp
  rw[e1,e2]at q
  exact q
 refine⟨hl,zoN ?_ (fun x=>hperm.mem_iff)⟩
 have hn':l'.Nodup:=hperm.nodup_iff.2 hn
 unfold zb4
 rw[List.pairwise_iff_getElem]
 intro i j hi hj hij
 have q:=hs i j (Nat.zero_le _) hij (by omega)
 unfold ltOf at q
 rw[zjf]at q
 have e:∀(k:Nat) (hk:k<l'.length),l'.toArray[k]! =l'[k]:=by
  intro k hk
  rw[Array.getElem!_eq_getD,Array.getD_eq_getD_getElem?,List.getElem?_toArray,List.getElem?_eq_getElem hk]
  rfl
 rw[e i hi,e j hj]at q
 refine zcY q (fun e=>?_)
 have:=(List.nodup_iff_pairwise_ne.1 hn')
 exact(List.pairwise_iff_getElem.1 this i j hi hj hij) e.symm
end Go.Proofs.YtgmdhaepiclkcaaGreatDoor.IdR
namespace Go.Proofs.YtgmdhaepiclkcaaGreatDoor.IdS
set_option maxHeartbeats 1000000
set_option maxRecDepth 100000
open Go Go.RowKit IdM Byt IdW IdK
theorem zlQ (w:World) (n:Int):(Instr.makeMap 126 (some (.int .i64 n))).run Tryz.prog w=.ok (.map (some w.heap.size)) (w.alloc (.map #[] 0)):=by
 simp[Instr.makeMap,run_underlying Tryz.underlying126,asInt,go_sem]
theorem zbM {l:List Idn} {k:Nat} (h:k<l.length) (z:Idn):z ∈ l.getD k nought::l.take k↔z ∈ l.take (k+1):=by
 rw[List.take_add_one,List.mem_append,List.mem_cons,List.getD_eq_getElem?_getD,List.getElem?_eq_getElem h]
 simp[or_comm]
theorem set_ret (A:Option Addr) (cap:Nat) (l:List Idn) (w:World) (S:SlI w A cap l) (hl:l.length≤1000):
  Calls Tryz.prog 91 #[.slice A l.length cap] w fun e w'=>∃b,e=.returned (.map (some b))∧w.heap.size≤b∧zcg w' b l.length l∧Below w.heap.size w w':=by
 have hmm:=zlQ
 go_enter Tryz.func91,Tryz.ntmps91
 go_wp2_with fail
 go_loopw [11] (fun i wr=>∃k:Nat,k≤l.length∧i=.int .i64 k∧zcg wr w.heap.size k (l.take k)∧Below w.heap.size w wr) (fun i _=>l.length - (intOf i).toNat)
 case atStart=>exact⟨0,Nat.zero_le _,rfl,by simpa using zcg.made w,(Below.refl _ _).alloc (Nat.le_refl _) _⟩
 case round=>
  obtain⟨k,hk,rfl,hset,kb⟩:=hrel
  by_cases hlt:k<l.length
  ·obtain⟨b,off,rfl,hbw,hr⟩:=S.plain (by omega)
   have hr1:=zab (hr k hlt) kb
   obtain⟨x,hx⟩:∃x,l.getD k nought=x:=⟨_,rfl⟩
   rw[hx]at hr1
   have HX:=aside hx
   have p0:(k:Int)<l.length:=by omega
   have m0:((k:Int)).toNat=k:=by omega
   clear hr S hx
   go_wp2_with (first|(refine zak rfl _ rfl _ _ rfl x hr1 ?_)|(refine zac rfl _ _ rfl _ _ x _ rfl _ rfl (by simp) rfl rfl ?_)|(refine zaa rfl _ rfl _ rfl x (Box.new wr x _) ?_)|(refine zbx _ rfl _ _ _ rfl w.heap.size k _ rfl (hset.alloc _) (by omega) x rfl rfl ?_;intro w1 hs1 hg1))
   go_roundw
   case rel=>
    refine⟨k+1,by omega,by go_num,hs1.congr (fun z=>?_),?_⟩
    ·rw[←HX.out]
     exact zbM hlt z
    ·exact below_grown (kb.alloc kb.size _) (by have:=kb.size;simp;omega) hg1 (fun j hj=>by cases hj;exact Nat.le_refl _)
   case measure=>simp[intOf];omega
  ·have e:k=l.length:=by omega
   subst e
   rw[List.take_length]at hset
   go_wp2
   go_ret
   exact⟨_,rfl,Nat.le_refl _,hset,kb⟩
end Go.Proofs.YtgmdhaepiclkcaaGreatDoor.IdS
namespace Go.Proofs.YtgmdhaepiclkcaaGreatDoor.IdT
set_option maxHeartbeats 1000000
set_option maxRecDepth 100000
open Go Go.RowKit IdM Byt IdW IdK IdB
abbrev Ranges (w:World) (b r n:Nat) (D:DataW Unit) (left:Lit→Bool) (cnt:Nat):Prop:=w.ranges Tryz.prog 56 (plainElem Tryz.prog 3) b r n D left cnt
theorem zeM {w:World} {b n:Nat} {D:DataW Unit} {base m:Nat} {v:Value} {xs:List Value} (h:w.ownsMap Tryz.prog 56 (plainElem Tryz.prog 3) b n D) (hr:w.ownsRow base 56 32 v m xs):some b≠v.ownBlock:=by
 obtain⟨es,clock,hb,_⟩:=h
 rcases hr.2 with⟨rfl,_⟩|⟨g,cap,cur,rfl,_,hg,_⟩
 ·simp[Value.ownBlock]
 ·intro e
  simp only[Value.ownBlock,Option.some.injEq]at e
  subst e
  rw[hb]at hg
  cases hg
theorem ziH {w:World} {b r n cnt:Nat} {D:DataW Unit} {left:Lit→Bool} {base m:Nat} {v:Value} {xs:List Value} (h:Ranges w b r n D left cnt) (hr:w.ownsRow base 56 32 v m xs):some r≠v.ownBlock:=by
 obtain⟨es,clock,since,seen,c0,_,_,_,_,hb,_⟩:=h
 rcases hr.2 with⟨rfl,_⟩|⟨g,cap,cur,rfl,_,hg,_⟩
 ·simp[Value.ownBlock]
 ·intro e
  simp only[Value.ownBlock,Option.some.injEq]at e
  subst e
  rw[hb]at hg
  cases hg
theorem zcy (x:Idn):(key x).sameKey (key x)=true:=by
 have:=law.key (zcc x)
 unfold key at this ⊢
 simp[Lit.sameKey]
theorem ziS {L acc:List Idn} {left:Lit→Bool} {x:Idn} (h:∀z,z ∈ acc↔z ∈ L∧left (key z)=false) (hx:x ∈ L):∀z,z ∈ acc++[x]↔z ∈ L∧(left (key z)&& !(key z).sameKey (key x))=false:=by
 intro z
 rw[List.mem_append,h,List.mem_singleton]
 by_cases hz:z=x
 ·subst hz
  simp[zcy,hx]
 ·have:(key z).sameKey (key x)=false:=Maps.sameKey_ne (fun e=>hz (key_inj e))
  simp[this,hz]
theorem zhn (w:World) {ops:Array Oper} {rest:List Oper} {o:Oper} {a:Act} {Q:Exit→Act→World→Prop} (hg:o.guard=none) (it:Operand) (hop:o.op=Op.next it false) (b r n:Nat) (D:DataW Unit) (left:Lit→Bool) (cnt:Nat)
  (hit:a.eval it=.pointer (some ⟨r,0,none⟩)) (h:Ranges w b r n D left cnt)
  (hDone:(∀kl,left kl=false)→wpList Tryz.prog ops Q rest (a.put o.dst (.tuple #[.bool false])) w)
  (hMore:∀(x:Idn) (c:Int) (w':World) (cnt':Nat),Maps.has D (key x)=true→left (key x)=true→Ranges w' b r n D (fun z=>left z&& !z.sameKey (key x)) cnt'→cnt'<cnt→
   w.grownBy w' (some r)→(Instr.entry (.pointer (some ⟨r,0,none⟩))).run Tryz.prog w'=.ok (.tuple #[.agg (cs x),.int .i64 c]) w'→wpList Tryz.prog ops Q rest (a.put o.dst (.tuple #[.bool true,.agg (cs x),.int .i64 c])) w'):
  wpList Tryz.prog ops Q (o::rest) a w:=by
 refine wpList_next_ranges w hg it hop 56 law (plainElem Tryz.prog 3) (fun x:Idn=>.agg (cs x)) (Value.int .i64) (fun _ _ hk=>zdM hk) (fun _ _ hv=>by obtain⟨c,rfl,_⟩:=plainElem_int_inv Tryz.underlying3 hv;exact⟨c,rfl⟩) b r n D left cnt hit h (fun _ hl=>hDone hl) ?_
 intro x c kl y w' cnt' hkey hlx _ hat hrg hlt hgr _ hen
 obtain rfl:kl=key x:=Option.some.inj (hkey.symm.trans (zcc x))
 exact hMore x c w' cnt' (Maps.has_true_of_atKey hat) hlx hrg hlt hgr hen
theorem zft {w:World} {base:Nat} {v:Value} {l:List Idn} (h:w.ownsRow base 56 32 v l.length (bv (flat l))) (hn:l.Nodup) (hl:l.length≤1000000):
  Calls Tryz.prog 136 #[v,.func (.func 137) #[] #[]] w fun e w'=>
   e=.returned (.tuple #[])∧w'.ownsRow base 56 32 v (IdM.sort l).length (bv (flat (IdM.sort l)))∧w.grownBy w' v.ownBlock:=by
 have hs:IdM.sort ([]:List Idn)=[]:=rfl
 by_cases h0:l.length=0
 ·have e:=List.eq_nil_of_length_eq_zero h0
  subst e
  obtain⟨A,cap,rfl,_⟩:=SlI.own h
  refine(AnyF.slices_SortFunc_none Tryz.znz A cap _ w).mono ?_
  rintro e w' ⟨rfl,rfl⟩
  exact⟨rfl,by rw[hs];exact h,zaq (Below.refl _ _) _⟩
 ·rcases h.2 with⟨_,e⟩|⟨g,cap,cur,rfl,hbg,hg,h1,h2,h3,h4⟩
  ·exact absurd e h0
  ·have hlt:=(IdR.zhD h).2
   have q:=IdR.sortf g 0 cap l.toArray w (IdR.zhW h) hlt (by simp;omega)
   rw[List.size_toArray]at q
   refine q.mono ?_
   rintro e w' ⟨rfl,d',n,os,hp,hso,rfl⟩
   obtain⟨l'⟩:=d'
   obtain⟨e1,e2⟩:=IdR.zew hn hp hso
   subst e2
   have:=IdR.zgf h e1 n os
   refine⟨rfl,?_,this.2⟩
   rw[e1]
   exact this.1
theorem zf9 (b n:Nat) (L:List Idn) (w:World) (h:zcg w b n L) (hn:n≤2000):
  Calls Tryz.prog 92 #[.map (some b)] w fun e w'=>NewI (IdM.sort L) w e w':=by
 obtain⟨D,hown,hD⟩:=h
 have hsz:=hown.size_le
 obtain⟨i,hi,z0,z1,z2⟩:=info_parts zhj
 obtain⟨w1,hmk,zfw,g1⟩:=run_make_own (P:=Tryz.prog) w w.heap.size 23 56 i (.agg (cs nought)) 32 Tryz.underlying23 hi z0 z1 .i64 .i64 (Maps.size D) (by rw[z2];omega) (by unfold maxLen;omega) (Nat.le_refl _)
 have hown1:=hown.kept g1 (by simp)
 have kb1:Below w.heap.size w w1:=below_grown (Below.refl _ _) (Nat.le_refl _) g1 (fun k hk=>by cases hk)
 clear hi z0 z1 z2
 go_enter Tryz.func92,Tryz.ntmps92
 go_wp2_with (first
  |(at_len;refine wpList_len_own _ rfl _ 126 rfl 56 3 Tryz.underlying126 _ b n D rfl hown ?_)
  |(at_range;refine wpList_range_own _ rfl _ 126 rfl 56 3 law Tryz.underlying126 _ b n _ rfl hown1 ?_;intro w0 hrg0 hg0 hs0))
 go_frame
 have own0:w0.ownsRow w.heap.size 56 32 (.slice (some ⟨w.heap.size,0,none⟩) 0 (Maps.size D)) 0 []:=zfw.kept hg0 (by simp[Value.ownBlock])
 have kb0:Below w.heap.size w w0:=below_grown kb1 kb1.size hg0 (fun k hk=>by cases hk)
 clear zfw hown1 g1 hmk
 go_loopw [3] (fun v wr=>∃(left:Lit→Bool) (cnt:Nat) (acc:List Idn),Ranges wr b w1.heap.size n D left cnt∧wr.ownsRow w.heap.size 56 32 v acc.length (bv (flat acc))∧acc.Nodup∧Hid (∀x,x ∈ acc↔x ∈ L∧left (key x)=false)∧acc.length+cnt≤n∧Below w.heap.size w wr)
  (fun _ wr=>wr.rangeLeft b w1.heap.size)
 case atStart=>
  refine⟨_,_,[],hrg0,own0,List.nodup_nil,aside (fun x=>?_),by simpa using hsz,kb0⟩
  rw[hD.1 x]
  by_cases hx:x ∈ L <;> simp[hx]
 case round=>
  clear hrg0 own0 kb0 hg0 hs0
  obtain⟨left,cnt,acc,hrg,hrow,hnd,hmem,hle,kb⟩:=hrel
  go_wp2_with (first
   |(at_next;refine zhn _ rfl _ rfl b w1.heap.size n _ _ _ rfl hrg ?_ ?_))
  ·intro hl0
   have hmem':∀x,x ∈ acc↔x ∈ L:=fun x=>by rw[hmem.out x,hl0 (key x)];simp
   have hso:=zft hrow hnd (by omega)
   rw[zmv hmem']at hso
   go_wp2_with fail
   refine hso.mono ?_
   rintro e w3 ⟨rfl,h3,g3⟩
   go_wp2_with fail
   go_ret
   exact⟨_,rfl,h3,below_grown kb kb.size g3 (fun k hk=>(hrow.lt k hk).1)⟩
  ·intro x c w2 cnt1 hhas hlx hrg1 hlt hg1 hen
   have hrow1:=hrow.kept hg1 (.inr (fun e=>ziH hrg hrow e.symm))
   have hxL:x ∈ L:=by
    rw[hD.1 x]at hhas
    simpa using hhas
   have kb2:Below w.heap.size w w2:=below_grown kb kb.size hg1 (fun k hk=>by cases hk;exact kb1.size)
   go_wp2_with (first|(refine zac rfl _ _ rfl _ _ x _ rfl _ rfl (by simp) rfl rfl ?_)|(refine zaa rfl _ rfl _ rfl x (Box.new w2 x _) ?_)|(refine zat rfl _ rfl x rfl ?_)|(refine zaE rfl _ _ rfl w.heap.size _ _ acc rfl ((hrow1.alloc _).alloc _) _ 1 1 [x] rfl rfl (SlI.zil _ x _) (by omega) (by have:=kb2.size;simp;omega) ?_;intro v' w3 hrow3 hg3;go_frame))
   have hgA:w2.grownBy w3 u3.ownBlock:=((World.grownBy_alloc w2 _ _).trans (World.grownBy_alloc _ _ _)).trans hg3
   have hrg3:=hrg1.kept hgA (zeM hrg1.owns hrow1) (ziH hrg1 hrow1)
   go_roundw
   case rel=>
    refine⟨_,cnt1,acc++[x],hrg3,by simpa using hrow3,?_,aside (ziS hmem.out hxL),by simp;omega,below_grown kb2 kb2.size hgA (fun k hk=>(hrow.lt k hk).1)⟩
    rw[List.nodup_append]
    refine⟨hnd,by simp,fun a ha b hb=>?_⟩
    rintro rfl
    simp at hb
    subst hb
    rw[(hmem.out a).1 ha |>.2]at hlx
    cases hlx
   case measure=>rw[hrg3.left_eq,hrg.left_eq];exact hlt
end Go.Proofs.YtgmdhaepiclkcaaGreatDoor.IdT
namespace Go.Proofs.YtgmdhaepiclkcaaGreatDoor.IdU
set_option maxHeartbeats 1000000
set_option maxRecDepth 100000
open Go Go.RowKit IdM Byt IdW IdK IdS IdT
theorem NewI.mono {l:List Idn} {w w1:World} {e:Ending} {w':World} (h:NewI l w1 e w') (hb:Below w.heap.size w w1):NewI l w e w':=by
 obtain⟨v,rfl,h1,h2⟩:=h
 exact⟨v,rfl,zb8 h1 hb.size,hb.trans (h2.mono hb.size)⟩
theorem zpP (A:Option Addr) (cap:Nat) (l:List Idn) (w:World) (S:SlI w A cap l) (hl:l.length≤1000):
  Calls Tryz.prog 70 #[.slice A l.length cap] w fun e w'=>NewI (IdM.sort l) w e w':=by
 have hs:=set_ret A cap l w S hl
 go_enter Tryz.func70,Tryz.ntmps70
 go_wp2_with fail
 refine hs.mono ?_
 rintro e w1 ⟨b,rfl,hb,s1,k1⟩
 go_wp2_with fail
 refine(zf9 b _ l w1 s1 (by omega)).mono ?_
 rintro e w2 h2
 obtain⟨v,rfl,o2,k2⟩:=NewI.mono h2 k1
 go_wp2_with fail
 go_ret
 exact⟨_,rfl,o2,k2⟩
end Go.Proofs.YtgmdhaepiclkcaaGreatDoor.IdU
