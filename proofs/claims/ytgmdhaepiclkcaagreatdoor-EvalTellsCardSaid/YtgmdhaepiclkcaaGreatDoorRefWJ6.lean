/- What the document's answer's Sum of package sha returns | Sums of bytes as ids | What the laws on commits ask for | What functions on commits answer, in one form for both ways | What the project's Get of package commit returns | What the project's Put and Hash of package commit return -/
import Derived.Test.YtgmdhaepiclkcaaGreatDoorShaDJ13
import Derived.Test.YtgmdhaepiclkcaaGreatDoorRefUJ3
import Derived.Test.YtgmdhaepiclkcaaGreatDoorShaHJ5
import Derived.Deep.RegionWith
import Derived.Test.YtgmdhaepiclkcaaGreatDoorIdWJ3
import Derived.Test.YtgmdhaepiclkcaaGreatDoorIdVJ2
import Derived.Test.YtgmdhaepiclkcaaGreatDoorOpsGJ8
import Derived.Defers
import Derived.Recover
import Derived.Test.YtgmdhaepiclkcaaGreatDoorForksJ5
namespace Go.Proofs.YtgmdhaepiclkcaaGreatDoor.RefW
set_option maxHeartbeats 1000000
set_option maxRecDepth 100000
open Go.RowKit RotM RotN RotC RotD ShaM ShaD RotG Small PadM ShaF ShaG SumM RefV ShaH
def zbJ (w:World) (g:Nat) (l:List Int):Prop:=g<w.heap.size∧∀i,i<l.length→w.cell? ⟨g,i,none⟩=some (.int .u8 (l.getD i 0))
theorem zbJ.below {w w':World} {g:Nat} {l:List Int} {k:Nat} (h:zbJ w g l) (hb:Below k w w') (hg:g<k):zbJ w' g l:=
 ⟨Nat.lt_of_lt_of_le h.1 hb.size,fun i hi=>(hb.cell (p:=⟨g,i,none⟩) hg).trans (h.2 i hi)⟩
theorem zbJ.alloc {w:World} {g:Nat} {l:List Int} (h:zbJ w g l) (o:Obj):zbJ (w.alloc o) g l:=h.below ((Below.refl w.heap.size w).alloc (Nat.le_refl _) o) h.1
theorem zbJ.drew {w:World} {g:Nat} {l:List Int} (h:zbJ w g l):zbJ w.drew g l:=h
theorem zbJ.za5 {w:World} {g:Nat} {l:List Int} (h:zbJ w g l) {a:Addr} (ha:g≠a.block) (v:Value):zbJ (w.setCell a v) g l:=by
 have hb:Below (g+1) (w.setCell a v) (w.setCell a v):=Below.refl _ _
 refine⟨by simpa using h.1,fun i hi=>?_⟩
 rw[←h.2 i hi]
 exact World.cell?_of_block (heap_setCell_other w a g v ha)
theorem zbJ.blk {w:World} {g:Nat} {P:List Int} (h:zbJ w g P) (k:Nat) (hk:64 * k+64≤P.length) (i:Nat) (hi:i<64):w.cell? ⟨g,64 * k+i,none⟩=some (.int .u8 (blk P k i)):=by
 rw[h.2 _ (by omega)]
 rfl
theorem zh7 (h r:H8) (b off cap:Nat) (f:Nat→Int) (hf:∀i,B (f i)) (hr:zdO h (wordsOf f)=r) (w:World) (hc:∀i,i<64→w.cell? ⟨b,off+i,none⟩=some (.int .u8 (f i))):
  Calls Tryz.prog 168 #[.agg #[.int .u32 (u h.a),.int .u32 (u h.b),.int .u32 (u h.c),.int .u32 (u h.d),.int .u32 (u h.e),.int .u32 (u h.f),.int .u32 (u h.g),.int .u32 (u h.z)],.slice (some ⟨b,off,none⟩) 64 cap] w
   fun e w'=>e=.returned (.tuple #[.agg #[.int .u32 (u r.a),.int .u32 (u r.b),.int .u32 (u r.c),.int .u32 (u r.d),.int .u32 (u r.e),.int .u32 (u r.f),.int .u32 (u r.g),.int .u32 (u r.z)],.bool true])∧Below w.heap.size w w':=by
 subst hr
 exact RefU.zh6 h b off cap f hf w hc
theorem fourA (x:BitVec 32) (w:World):Calls Tryz.prog 169 #[.int .u32 (u x)] w fun e w'=>e=.returned (.agg (zdd (u x)))∧Below w.heap.size w w':=by
 refine(reffour (u x) (zdS x) w).mono fun e w' ⟨he,hw⟩=>⟨he,?_⟩
 subst hw
 go_grown
def idW (h:H8) (k j:Nat):List Value:=bv ((idL h k++(zd3 (u (h.w k))).take j)++List.replicate (32 - 4 * k - j) 0)
theorem idW_none (h:H8) (k:Nat):idW h k 0=idV h k:=by simp[idW,idV]
theorem idW_all (h:H8) (k:Nat):idW h k 4=idV h (k+1):=by
 unfold idW idV
 rw[zjt,show(zd3 (u (h.w k))).take 4=zd3 (u (h.w k)) from rfl,show 32 - 4 * k - 4=32 - 4 * (k+1) by omega]
theorem zmw (xs ys:List Int) (n:Nat) (hn:xs.length=n) (y v:Int):(bv (xs++y::ys)).toArray.setIfInBounds n (.int .u8 v)=(bv (xs++v::ys)).toArray:=by
 subst hn
 rw[List.setIfInBounds_toArray]
 congr 1
 simp[bv]
theorem idW_set (h:H8) (k j:Nat) (hk:k<8) (hj:j<4):(idW h k j).toArray.setIfInBounds (4 * k+j) (.int .u8 ((zd3 (u (h.w k))).getD j 0))=(idW h k (j+1)).toArray:=by
 unfold idW
 rw[show 32 - 4 * k - j=(32 - 4 * k - (j+1))+1 by omega,List.replicate_succ,zmw _ _ _ (by rw[List.length_append,za4,List.length_take,zbj];omega)]
 congr 2
 rw[show(zd3 (u (h.w k))).take (j+1)=(zd3 (u (h.w k))).take j++[(zd3 (u (h.w k))).getD j 0] from by
  rcases(by omega:j=0∨j=1∨j=2∨j=3)with rfl|rfl|rfl|rfl <;> rfl]
 simp
theorem idW_at (h:H8) (k j:Nat) (hk:k<8) (hj:j<4):(idW h k j).toArray[4 * k+j]?=some (.int .u8 0):=by
 unfold idW
 rw[show 32 - 4 * k - j=(32 - 4 * k - (j+1))+1 by omega,List.replicate_succ,List.getElem?_toArray,zcA _ (by simp[za4,zbj];omega),List.getD_eq_getElem?_getD,List.getElem?_append_right (by rw[List.length_append,za4,List.length_take,zbj];omega)]
 rw[show 4 * k+j - (idL h k++(zd3 (u (h.w k))).take j).length=0 by rw[List.length_append,za4,List.length_take,zbj];omega]
 rfl
theorem four_at {w:World} {g:Nat} {a:Int} (A:At w g (zdd a)) (j:Nat) (hj:j<4):w.cell? ⟨g,j,none⟩=some (.int .u8 ((zd3 a).getD j 0)):=by
 rw[A.cell]
 rcases(by omega:j=0∨j=1∨j=2∨j=3)with rfl|rfl|rfl|rfl <;> rfl
theorem zel:(Tryz.prog.info? 162).map (·.size)=some 8:=by kernel_rfl
theorem zpq (h:H8):h.vals.all (·.oneCell')=true:=by kernel_rfl
theorem cells_lt {w:World} {g N:Nat} {P:List Int} (hN:P.length=N) (_hm:N % 64=0) (h0:0<N) (h:∀i,i<P.length→w.cell? ⟨g,i,none⟩=some (.int .u8 (P.getD i 0))):g<w.heap.size:=block_lt_of_cell (h 0 (by omega))
theorem sumW {w:World} {A:Option Addr} {len cap:Nat} {zs:List Int} (hr:RowIn.zpv .u8 w A len cap zs) (hl:len≤1099511627776):
  Calls Tryz.prog 131 #[.slice A len cap] w fun e w'=>e=.returned (.agg (bv (zlq (zs.take len))).toArray)∧Below w.heap.size w w':=by
 obtain⟨bs,hbs⟩:∃bs,zs.take len=bs:=⟨_,rfl⟩
 have hlen:bs.length=len:=by
  have h1:=hr.1
  have h3:=hr.2.2.1
  rw[←hbs];simp;omega
 have hB:∀x ∈ zif bs,B x:=by
  refine padL_B (fun x hx=>?_) (by omega)
  rw[←hbs]at hx
  have:=hr.2.2.2.1 x (List.mem_of_mem_take hx)
  simpa[B,Lit.wf,IntKind.min,IntKind.max,IntKind.bits,IntKind.signed]using this
 have HB:=RotF.aside hB
 have hr1:=hr.below ((Below.refl _ _).alloc (Nat.le_refl _) (.cells (idV zci 0).toArray 56))
 have hp:=RefV.padW hr1 hl
 rw[hbs]at hp
 rw[hbs]
 have hn1:=zja len
 have hn2:=zjb len
 have hn3:=zdZ bs
 have hn0:=zqm len
 unfold zlq
 rw[hlen]at hn3
 rw[hlen]
 obtain⟨P,hP⟩:∃P,zif bs=P:=⟨_,rfl⟩
 obtain⟨N,hN⟩:∃N,zgM len=N:=⟨_,rfl⟩
 have e0:=zeX zci
 rw[e0,hP]at hp
 rw[hP]at hn3 HB
 rw[hN]at hn0 hn1 hn2 hn3
 rw[hP,hN]
 have HP:=RotF.aside hp
 have HN3:=RotF.aside hn3
 have HN1:=RotF.aside hn1
 clear hB hr hr1 hlen hbs hp e0 hP hN hn3 hn1
 go_enter Tryz.func131,Tryz.ntmps131
 go_wp2_with fail
 refine HP.out.mono ?_
 rintro e w1 ⟨gp,cp,rfl,hcp,_,hg1,Ap0,k1⟩
 have Ap:zbJ w1 gp P:=⟨cells_lt HN3.out HN1.out (by omega) Ap0,Ap0⟩
 clear Ap0
 have A2:At w1 w.heap.size (idV zci 0).toArray:=by rw[zeX];exact(At.new w _ _).below k1 (by simp)
 have hs:w.heap.size<gp:=by simp at hg1;omega
 have kb:Below w.heap.size w w1:=Below.trans (by go_grown) (k1.mono (by simp))
 clear HP k1 hg1
 go_wp2_with fail
 refine(RefS.start _).mono ?_
 rintro e w2 ⟨rfl,h2⟩
 have B2:=A2.below h2 A2.lt
 have Bp:=Ap.below h2 Ap.1
 have kc:=kb.trans (h2.mono kb.size)
 clear A2 Ap kb h2
 have lp:=Bp.1
 go_wp2_with (refine zaC rfl 162 _ _ rfl _ _ _ 162 rfl _ rfl ?c1 rfl ?c2 ?c3 ?c4 ?_;(case c1=>simp);(case c2=>exact zel);(case c3=>rfl);(case c4=>exact zpq _))
 have n1:w.heap.size≠w2.heap.size:=by omega
 have n2:gp≠w2.heap.size:=by omega
 have n3:w.heap.size≤w2.heap.size:=by omega
 go_loopw [5] (fun i wr=>∃k:Nat,64 * k≤P.length∧i=.int .i64 (64 * (k:Int))∧At wr w.heap.size (idV zci 0).toArray∧zbJ wr gp P∧At wr w2.heap.size (hsum P k).vals∧Below w.heap.size w wr) (fun i _=>P.length - (intOf i).toNat)
 case atStart=>exact⟨0,Nat.zero_le _,rfl,B2.alloc _,Bp.alloc _,At.new _ _ _,kc.alloc kc.size _⟩
 case round=>
  clear B2 Bp kc
  obtain⟨k,hk,rfl,A2,Ap,A4,kb⟩:=hrel
  by_cases hlt:64 * k<P.length
  ·have hle:64 * k+64≤P.length:=by have:=HN1.out;have:=HN3.out;omega
   have hub:P.length≤1099511627848:=by have:=HN3.out;omega
   obtain⟨r,hr⟩:∃r,hsum P k=r:=⟨_,rfl⟩
   obtain⟨q,hq⟩:∃q,zdO r (wordsOf (blk P k))=q:=⟨_,rfl⟩
   rw[hr]at A4
   have HR:=RotF.aside hr
   have HQ:=RotF.aside hq
   clear hr hq
   have c0:wr.cell? ⟨w2.heap.size,0,none⟩=some (.int .u32 (u r.a)):=A4.cell 0
   have c1:wr.cell? ⟨w2.heap.size,1,none⟩=some (.int .u32 (u r.b)):=A4.cell 1
   have c2:wr.cell? ⟨w2.heap.size,2,none⟩=some (.int .u32 (u r.c)):=A4.cell 2
   have c3:wr.cell? ⟨w2.heap.size,3,none⟩=some (.int .u32 (u r.d)):=A4.cell 3
   have c4:wr.cell? ⟨w2.heap.size,4,none⟩=some (.int .u32 (u r.e)):=A4.cell 4
   have c5:wr.cell? ⟨w2.heap.size,5,none⟩=some (.int .u32 (u r.f)):=A4.cell 5
   have c6:wr.cell? ⟨w2.heap.size,6,none⟩=some (.int .u32 (u r.g)):=A4.cell 6
   have c7:wr.cell? ⟨w2.heap.size,7,none⟩=some (.int .u32 (u r.z)):=A4.cell 7
   have m0:(64 * (k:Int))<(P.length:Int):=by omega
   have m1:IntKind.i64.wrap (64 * (k:Int)+64)=64 * (k:Int)+64:=IntWalk.i64_in _ (by omega)
   have m2:0≤64 * (k:Int):=by omega
   have m3:(64 * (k:Int)).toNat=64 * k:=by omega
   have m4:(64 * (k:Int)+64).toNat=64 * k+64:=by omega
   have m5:64 * (k:Int)+64≤(P.length:Int):=by omega
   have m6:64 * (k:Int)≤64 * (k:Int)+64:=by omega
   have m7:¬cp=64 * k:=by omega
   have m10:64 * (k:Int)+64≤(cp:Int):=by omega
   have m8:64 * k+64 - 64 * k=64:=by omega
   have m9:0≤64 * (k:Int)+64:=by omega
   go_wp2
   go_region_with ((go_at_call 168;(refine(zh7 r q gp (64 * k) (cp - 64 * k) (blk P k) (blk_B HB.out k) HQ.out _ ?_).mono ?_;(exact fun i hi=>(Ap.drew).blk k hle i hi);rintro e w3 ⟨rfl,h3⟩;have d0:w3.cell? ⟨w2.heap.size,0,none⟩=some (.int .u32 (u r.a)):=(A4.drew.below h3 A4.drew.lt).cell 0;have z0:=(A4.drew.below h3 A4.drew.lt).frozen 0;have d1:w3.cell? ⟨w2.heap.size,1,none⟩=some (.int .u32 (u r.b)):=(A4.drew.below h3 A4.drew.lt).cell 1;have z1:=(A4.drew.below h3 A4.drew.lt).frozen 1;have d2:w3.cell? ⟨w2.heap.size,2,none⟩=some (.int .u32 (u r.c)):=(A4.drew.below h3 A4.drew.lt).cell 2;have z2:=(A4.drew.below h3 A4.drew.lt).frozen 2;have d3:w3.cell? ⟨w2.heap.size,3,none⟩=some (.int .u32 (u r.d)):=(A4.drew.below h3 A4.drew.lt).cell 3;have z3:=(A4.drew.below h3 A4.drew.lt).frozen 3;have d4:w3.cell? ⟨w2.heap.size,4,none⟩=some (.int .u32 (u r.e)):=(A4.drew.below h3 A4.drew.lt).cell 4;have z4:=(A4.drew.below h3 A4.drew.lt).frozen 4;have d5:w3.cell? ⟨w2.heap.size,5,none⟩=some (.int .u32 (u r.f)):=(A4.drew.below h3 A4.drew.lt).cell 5;have z5:=(A4.drew.below h3 A4.drew.lt).frozen 5;have d6:w3.cell? ⟨w2.heap.size,6,none⟩=some (.int .u32 (u r.g)):=(A4.drew.below h3 A4.drew.lt).cell 6;have z6:=(A4.drew.below h3 A4.drew.lt).frozen 6;have d7:w3.cell? ⟨w2.heap.size,7,none⟩=some (.int .u32 (u r.z)):=(A4.drew.below h3 A4.drew.lt).cell 7;have z7:=(A4.drew.below h3 A4.drew.lt).frozen 7;clear c0 c1 c2 c3 c4 c5 c6 c7)))
   all_goals
    have D2:=A2.drew.below h3 A2.drew.lt
    have Dp:=Ap.drew.below h3 Ap.drew.1
    have D4:=A4.drew.below h3 A4.drew.lt
    have kd:Below w.heap.size w w3:=(zaf kb).trans (h3.mono kb.size)
    clear d0 d1 d2 d3 d4 d5 d6 d7 z0 z1 z2 z3 z4 z5 z6 z7 m1 m3 m4 m8 A2 Ap A4 kb h3
    go_wp2
    go_roundw
    case rel=>
     have S4:=(((((((D4.set 0 (.int .u32 (u q.a))).set 1 (.int .u32 (u q.b))).set 2 (.int .u32 (u q.c))).set 3 (.int .u32 (u q.d))).set 4 (.int .u32 (u q.e))).set 5 (.int .u32 (u q.f))).set 6 (.int .u32 (u q.g))).set 7 (.int .u32 (u q.z))
     rw[set8]at S4
     refine⟨k+1,by omega,by go_num,?_,?_,by rw[zj6 HR.out HQ.out];exact S4,?_⟩
     ·iterate 8 refine At.za5 ?_ n1 _
      exact D2
     ·iterate 8 refine zbJ.za5 ?_ n2 _
      exact Dp
     ·iterate 8 refine Below.setCell ?_ n3 _
      exact kd
    case measure=>simp[intOf];omega
  ·have eN:k=N / 64:=by have:=HN1.out;have:=HN3.out;omega
   obtain⟨h,hh⟩:∃h,hsum P (N / 64)=h:=⟨_,rfl⟩
   rw[eN,hh]at A4
   have HH:=RotF.aside hh
   have d64:decide (64 * (k:Int)<(P.length:Int))=false:=by simp;omega
   clear eN hh
   go_wp2_with (first|(refine wpList_build rfl 56 _ rfl ?c1 ?_;(case c1=>kernel_rfl))|(refine zaC rfl 56 _ _ rfl _ _ (idV h 0).toArray 56 rfl _ rfl ?c1 ?c5 ?c2 ?c3 ?c4 ?_;(case c1=>simp);(case c5=>kernel_rfl);(case c2=>rw[List.size_toArray,zbh _ _ (by omega)];exact zcG);(case c3=>rw[List.size_toArray,List.size_toArray,zbh _ _ (by omega)];rfl);(case c4=>exact zk1 _ _)))
   have D2:=A2.alloc (.cells (idV h 0).toArray 56)
   have D4:=A4.alloc (.cells (idV h 0).toArray 56)
   have D6:=At.new wr (idV h 0).toArray 56
   have kd:=kb.alloc kb.size (.cells (idV h 0).toArray 56)
   have l2:=A2.lt
   have l4:=A4.lt
   obtain⟨G,hG⟩:∃G,wr.heap.size=G:=⟨_,rfl⟩
   rw[hG]at D6 l2 l4
   rw[hG]
   generalize wr.alloc (.cells (idV h 0).toArray 56)=W at *
   clear A2 A4 Ap kb hG
   have nG:w2.heap.size≠G:=by omega
   have nG':w.heap.size≠G:=by omega
   have nG2:w.heap.size≤G:=by omega
   have lG:G<W.heap.size:=D6.lt
   go_loopw [7] (fun i wr=>∃k:Nat,k≤8∧i=.int .i64 k∧At wr w.heap.size (idV zci 0).toArray∧At wr w2.heap.size h.vals∧At wr G (idV h k).toArray∧Below w.heap.size w wr) (fun i _=>8 - (intOf i).toNat)
   case atStart=>exact⟨0,Nat.zero_le _,rfl,D2,D4,D6,kd⟩
   case round=>
    clear D2 D4 D6 kd hlt hk d64
    obtain⟨k,hk,rfl,A2,A4,A6,kb⟩:=hrel
    by_cases hlt:k<8
    ·have c:=(A4.cell k).trans (h.zhq hlt)
     go_wp2_with fail
     refine(fourA (h.w k) _).mono ?_
     rintro e w5 ⟨rfl,h5⟩
     have E2:=A2.below h5 A2.lt
     have E4:=A4.below h5 A4.lt
     have E6:=A6.below h5 A6.lt
     have ke:=kb.trans (h5.mono kb.size)
     have l6:=E6.lt
     clear A2 A4 A6 kb h5 c
     go_wp2_with (refine zaC rfl 194 _ _ rfl _ _ _ 194 rfl _ rfl ?c1 rfl ?c2 ?c3 ?c4 ?_;(case c1=>simp);(case c2=>exact zou);(case c3=>rfl);(case c4=>exact zka _))
     have F2:=E2.alloc (.cells (zdd (u (h.w k))) 194)
     have F4:=E4.alloc (.cells (zdd (u (h.w k))) 194)
     have F6:=E6.alloc (.cells (zdd (u (h.w k))) 194)
     have F8:=At.new w5 (zdd (u (h.w k))) 194
     have kf:=ke.alloc ke.size (.cells (zdd (u (h.w k))) 194)
     obtain⟨G8,hG8⟩:∃G8,w5.heap.size=G8:=⟨_,rfl⟩
     rw[hG8]at F8 l6
     rw[hG8]
     generalize w5.alloc (.cells (zdd (u (h.w k))) 194)=W5 at *
     clear E2 E4 E6 ke hG8
     have n8:G8≠G:=by omega
     go_loopw [9] (fun i wr=>∃j:Nat,j≤4∧i=.int .i64 j∧At wr w.heap.size (idV zci 0).toArray∧At wr w2.heap.size h.vals∧At wr G (idW h k j).toArray∧At wr G8 (zdd (u (h.w k)))∧Below w.heap.size w wr) (fun i _=>4 - (intOf i).toNat)
     case atStart=>exact⟨0,Nat.zero_le _,rfl,F2,F4,by rw[idW_none];exact F6,F8,kf⟩
     case round=>
      clear F2 F4 F6 F8 kf
      obtain⟨j,hj,rfl,A2,A4,A6,A8,kb⟩:=hrel
      by_cases hjt:j<4
      ·have cF:=four_at A8 j hjt
       have cO:=(A6.cell (4 * k+j)).trans (idW_at h k j hlt hjt)
       have zO:=A6.frozen (4 * k+j)
       have m1:(4 * (k:Int)+(j:Int)).toNat=4 * k+j:=by omega
       have m2:0≤4 * (k:Int)+(j:Int):=by omega
       have m3:4 * (k:Int)+(j:Int)<32:=by omega
       go_wp2
       go_roundw
       case rel=>
        have q:=A6.set (4 * k+j) (.int .u8 ((zd3 (u (h.w k))).getD j 0))
        rw[idW_set h k j hlt hjt]at q
        exact⟨j+1,by omega,by go_num,A2.za5 nG' _,A4.za5 nG _,q,A8.za5 n8 _,kb.setCell nG2 _⟩
       case measure=>simp[intOf];omega
      ·have e4:j=4:=by omega
       rw[e4,idW_all]at A6
       clear e4
       go_wp2
       go_roundw
       case rel=>exact⟨k+1,by omega,by go_num,A2,A4,A6,kb⟩
       case measure=>simp[intOf];omega
    ·have e8:k=8:=by omega
     rw[e8]at A6
     clear e8
     go_wp2_with (first|(refine zal rfl 56 _ rfl _ rfl _ _ A6 Tryz.underlying56 rfl ?c2 ?_;(case c2=>rw[List.size_toArray,zbh _ _ (by omega)];exact zcG))|(refine za2 rfl 56 _ _ rfl _ _ rfl rfl _ A2 ?c2 ?c3 ?c4 ?_;(case c2=>rw[List.size_toArray,zbh _ _ (by omega)];exact zcG);(case c3=>rw[List.size_toArray,List.size_toArray,zbh _ _ (by omega),zbh _ _ (by omega)]);(case c4=>exact zk1 _ _)))
     have eI:(idV h 8).toArray=(bv (idL (hsum P (N / 64)) 8)).toArray:=by rw[HH.out];simp[idV]
     exact bodyPost_ret (v:=.agg (bv (idL (hsum P (N / 64)) 8)).toArray) (results_at Tryz.results131 _ _ w.heap.size _ _ rfl (by rw[←eI];exact A2.row _) Tryz.underlying56 rfl (by rw[List.size_toArray,zav,za4];exact zcG)) rfl ⟨rfl,zbl kb (Nat.le_refl _) _⟩
end Go.Proofs.YtgmdhaepiclkcaaGreatDoor.RefW
namespace Go.Proofs.YtgmdhaepiclkcaaGreatDoor.CmS
set_option maxRecDepth 100000
open Go Go.RowKit IdM IdW Byt
theorem four_B (a:Int) (h:0≤a∧a≤4294967295):∀x ∈ PadM.zd3 a,0≤x∧x≤255:=by
 intro x hx
 simp only[PadM.zd3,List.mem_cons,List.not_mem_nil,or_false]at hx
 rcases hx with rfl|rfl|rfl|rfl <;> omega
theorem sum_B (l:List Int):∀x ∈ ShaH.zlq l,0≤x∧x≤255:=by
 intro x hx
 unfold ShaH.zlq ShaG.idL at hx
 rw[List.mem_flatMap]at hx
 obtain⟨i,_,hi⟩:=hx
 exact four_B _ (RotM.zdS _) x hi
def zns (l:List Int):Idn:=⟨ShaH.zlq l,ShaH.zky l,sum_B l⟩
theorem znJ {w:World} {A:Option Addr} {cap:Nat} {l:List Int} (h:Sl w A cap l):RowIn.zpv .u8 w A l.length cap l:=by
 obtain⟨h1,h2,h3,h4⟩:=h
 refine⟨h1,h2,⟨Nat.le_refl _,h1⟩,fun x hx=>?_,?_⟩
 ·have:=h3 x hx
  simpa[B,Lit.wf,IntKind.min,IntKind.max,IntKind.bits,IntKind.signed]using this
 ·rcases h4 with⟨r1,r2,r3⟩|⟨x,r1,r2⟩
  ·exact .inl ⟨r1,by rw[r2];rfl,r3⟩
  ·exact .inr ⟨x,r1,r2⟩
theorem psum {w:World} {A:Option Addr} {cap len:Nat} {l:List Int} (h:Sl w A cap l) (hl:l.length=len) (hm:len≤1099511627776) (hK:ShaE.KIn w):
  Calls Tryz.prog 72 #[.slice A len cap] w fun e w'=>e=.returned (.agg (cs (zns l)))∧Below w.heap.size w w':=by
 subst hl
 have:=ShaH.sumW (znJ h) hm hK
 rw[List.take_of_length_le (Nat.le_refl _)]at this
 exact this
theorem dsum {w:World} {A:Option Addr} {cap len:Nat} {l:List Int} (h:Sl w A cap l) (hl:l.length=len) (hm:len≤1099511627776):
  Calls Tryz.prog 131 #[.slice A len cap] w fun e w'=>e=.returned (.agg (cs (zns l)))∧Below w.heap.size w w':=by
 subst hl
 have:=RefW.sumW (znJ h) hm
 rw[List.take_of_length_le (Nat.le_refl _)]at this
 exact this
end Go.Proofs.YtgmdhaepiclkcaaGreatDoor.CmS
namespace Go.Proofs.YtgmdhaepiclkcaaGreatDoor.CmX
set_option maxHeartbeats 4000000
set_option maxRecDepth 100000
open Go Go.RowKit Byt IdM IdW OpsM OpsW CmM StW CmW
def zoI (c:Com):Bool:=decide (c.ps.length≤20)&&(decide (c.op.key.size≤100)&&decide (c.op.elem.size≤100))
theorem fewK_iff {c:Com}:zoI c=true↔c.ps.length≤20∧c.op.key.size≤100∧c.op.elem.size≤100:=by
 unfold zoI
 simp only[Bool.and_eq_true,decide_eq_true_eq]
theorem okay {c:Com} (h:zoI c=true) (hf:Fit c):CmR.zkr c:=by
 obtain⟨h1,h2,h3⟩:=fewK_iff.1 h
 exact⟨hf,by omega,by omega⟩
theorem zk6 (v:Cv) (w:World):Calls Tryz.prog 30 #[.agg (cc v)] w fun e w'=>e=.returned (.bool (zoI v.c))∧Below w.heap.size w w':=by
 have R:Cel.Box CE (w.alloc (.cells (cc v) 47)) w.heap.size v:=Cel.Box.new w v _
 have kb:=StW.zah w (.cells (cc v) 47)
 have c3:=zaP R
 have c5:=zmk R
 have c6:=zkl R
 obtain⟨n,hn⟩:∃n,v.c.ps.length=n:=⟨_,rfl⟩
 have hw:¬(n:Int)≤20∨((n:Int)≤20∧(¬(v.c.op.key.size:Int)≤100∨((v.c.op.key.size:Int)≤100∧(¬(v.c.op.elem.size:Int)≤100∨(v.c.op.elem.size:Int)≤100)))):=by omega
 obtain⟨r,hr⟩:∃r,zoI v.c=r:=⟨_,rfl⟩
 have HR:Hid (r=(decide (n≤20)&&(decide (v.c.op.key.size≤100)&&decide (v.c.op.elem.size≤100)))):=aside (by rw[←hr,←hn];rfl)
 rw[hr]
 rw[hn]at c3
 clear hn hr R
 rcases hw with p|⟨p1,p|⟨p2,p|p⟩⟩
 all_goals
  go_enter Tryz.func30,Tryz.ntmps30
  go_wp2_with (first|go_skip)
  go_ret
  exact⟨StW.zae (by rw[HR.out];simp;omega),kb⟩
end Go.Proofs.YtgmdhaepiclkcaaGreatDoor.CmX
namespace Go.Proofs.YtgmdhaepiclkcaaGreatDoor.CmY
set_option maxRecDepth 100000
open Go Go.Sort Go.RowKit Byt IdM IdW OpsM OpsW CmM StW CmW
def zaj (c:Com):Idn:=CmS.zns (zgX c)
theorem gid {ops:Array Oper} {rest:List Oper} {o:Oper} {a:Act} {w:World} {Q:Exit→Act→World→Prop} (x:Operand) (ho:o.op=.load 56 x)
  (b off:Nat) (hx:a.eval x=.pointer (some ⟨b,off,none⟩)) (y:Idn) (hc:w.rangeAt b off (bv y.1)) (hw:Region.wanted o (yielded ops a.tmps)=true) (h:wpList Tryz.prog ops Q rest (a.put o.dst (.agg (cs y))) w):wpList Tryz.prog ops Q (o::rest) a w:=
 RowC.zep hw (zak rfl x ho b off hx y hc h)
def putB (c:Com):List Int:=if zbn c=true then zgX c else[]
def putN (c:Com):Int:=if zbn c=true then 0 else 1
def ziJ (c:Com) (w:World) (e:Ending) (w':World):Prop:=
 ∃A cap,e=.returned (.tuple #[.slice A (putB c).length cap,.int .i64 (putN c)])∧Sl w' A cap (putB c)∧Below w.heap.size w w'
def zim (c:Com):Idn:=if zbn c=true then zaj c else nought
def zfp (c:Com) (w:World) (e:Ending) (w':World):Prop:=
 e=.returned (.tuple #[.agg (cs (zim c)),.int .i64 (putN c)])∧Below w.heap.size w w'
theorem zdm {c:Com} (h:zbn c=true):putB c=zgX c∧putN c=0∧zim c=zaj c:=by
 unfold putB putN zim
 rw[if_pos h,if_pos h,if_pos h]
 exact⟨rfl,rfl,rfl⟩
theorem zgd {c:Com} (h:zbn c=false):putB c=[]∧putN c=1∧zim c=nought:=by
 have h':¬zbn c=true:=by rw[h];simp
 unfold putB putN zim
 rw[if_neg h',if_neg h',if_neg h']
 exact⟨rfl,rfl,rfl⟩
theorem zp5 (c:Com):(putB c).length≤400:=by
 cases h:zbn c with
 |false=>rw[(zgd h).1];simp
 |true=>rw[(zdm h).1];exact zlD h
end Go.Proofs.YtgmdhaepiclkcaaGreatDoor.CmY
namespace Go.Proofs.YtgmdhaepiclkcaaGreatDoor.CmI
set_option maxRecDepth 100000
open Go Go.Sort Go.RowKit Byt EncM EncC IdM IdW IdB OpsM OpsW CmM StW CmW CmD CmG CmE CmF CmY
end Go.Proofs.YtgmdhaepiclkcaaGreatDoor.CmI
namespace Go.Proofs.YtgmdhaepiclkcaaGreatDoor.CmT
set_option maxHeartbeats 16000000
set_option maxRecDepth 100000
open Go Go.RowKit Byt EncM EncC EncT IdM IdW OpsM OpsW CmM StW CmW CmY
theorem znZ (n:Nat):∀x ∈ zaO n,B x:=zb1 n
theorem zdD {w:World} {b c n:Nat} {e:TypeId} {v:Value} {l:List Value} (h:w.ownsRow b e 1 v n l) (hc:c≤b):w.ownsRow c e 1 v n l:=by
 refine⟨h.1,?_⟩
 rcases h.2 with h|⟨q,cap,cur,hv,hb,h⟩
 ·exact Or.inl h
 ·exact Or.inr ⟨q,cap,cur,hv,Nat.le_trans hc hb,h⟩
theorem zjr {l:List Idn} {j:Nat} (h:j<l.length):zcr (l.take (j+1))=zcr (l.take j)++(l.getD j nought).val:=by
 rw[List.take_succ_eq_append_getElem h,zgC,List.getD_eq_getElem?_getD,List.getElem?_eq_getElem h]
 simp[zcr]
def mid (c:Com):List Int:=[c.seq,c.gen,(c.ps.length:Int)]
def midL (l:List Int):List Int:=l.flatMap fun x=>zaO x.toNat
theorem zqn {l:List Int} {j:Nat} (h:j<l.length):midL (l.take (j+1))=midL (l.take j)++zaO (l.getD j 0).toNat:=by
 rw[List.take_succ_eq_append_getElem h,List.getD_eq_getElem?_getD,List.getElem?_eq_getElem h]
 unfold midL
 rw[List.flatMap_append]
 simp
theorem head_mid (c:Com):zem c=zaO (foldI c.node).toNat++midL (mid c):=by
 simp[zem,mid,midL]
theorem zqf {w:World} {base n g j:Nat} {v x:Value} {l:List Int} (O:w.ownsRow base 5 1 v n (bv l)) (hp:0<l.length) (h:w.cell? ⟨g,j,none⟩=some x) (hx:CmD.isU8 x=false) (hj:j<l.length):v.ownBlock≠some g:=by
 rcases O.2 with⟨rfl,h0⟩|⟨q,cap,cur,rfl,hb,hq,h1,h2,h3,h4⟩
 ·have:=O.1
  rw[zav,h0]at this
  omega
 ·intro e
  simp only[Value.ownBlock,Option.some.injEq]at e
  subst e
  have hn:j<n * 1:=by have:=O.1;rw[zav]at this;omega
  have hcell:w.cell? ⟨q,j,Option.none⟩=some (.int .u8 (l.getD j 0)):=by
   rw[O.cellAt j hn,zcA _ hj]
  rw[hcell]at h
  obtain rfl:=Option.some.inj h
  cases hx
theorem zo3 {w:World} {g:Nat} {x:Idn} (h:IdW.Box w g x):Sl w (some ⟨g,0,none⟩) 32 x.val:=by
 refine⟨by rw[zaK];exact Nat.le_refl _,by unfold maxLen;omega,idB x,.inr ⟨_,rfl,fun i hi=>?_⟩⟩
 rw[Addr.add_lit,Nat.zero_add]
 exact h.cell i (by rw[zaK]at hi;exact hi)
theorem zis (v:Cv) (w:World) (S:In w v) (hf:Fit v.c) (hm:zbn v.c=false):Calls Tryz.prog 71 #[.agg (cc v)] w (ziJ v.c w):=by
 have k0:=StW.zah w (.cells (cc v) 47)
 have R0:Cel.Box CE (w.alloc (.cells (cc v) 47)) w.heap.size v:=Cel.Box.new w v _
 have S0:=S.below k0
 have cm:=fun W T=>CmV.zaz v W T hf
 unfold CmV.zgR at cm
 simp only[hm]at cm
 obtain⟨y1,y2,_⟩:=zgd hm
 unfold ziJ
 rw[y1,y2]
 clear S hm y1 y2
 go_enter Tryz.func71,Tryz.ntmps71
 go_wp2_with (first|go_skip|(refine Cel.zaa CE rfl _ rfl _ rfl v R0 ?_))
 refine(cm _ S0).mono ?_
 rintro e w1 ⟨rfl,k1⟩
 have b1:=k0.trans (k1.mono k0.size)
 clear cm R0 S0 k0 k1
 go_wp2_with (first|go_skip)
 go_ret2
 exact⟨none,0,rfl,Sl.nil _,b1⟩
theorem zdX (v:Cv) (w:World) (S:In w v) (hf:Fit v.c) (hm:zbn v.c=true):Calls Tryz.prog 71 #[.agg (cc v)] w (ziJ v.c w):=by
 have k0:=StW.zah w (.cells (cc v) 47)
 have R0:Cel.Box CE (w.alloc (.cells (cc v) 47)) w.heap.size v:=Cel.Box.new w v _
 have S0:=S.below k0
 have cm:=fun W T=>CmV.zaz v W T hf
 unfold CmV.zgR at cm
 simp only[hm]at cm
 have hn:=zg0 hm
 have hs:=ziW hm
 have hg:=za6.1 (za0.1 hm).1
 have hI:I64 v.c.node:=by unfold I64;omega
 have hfo:=zcT hI
 have q0:=fun W=>EncC.fold v.c.node hI W
 have q1:=fun W=>OpsP.zdH hfo.1 hfo.2 W
 have t0:0<(zaO (foldI v.c.node).toNat).length∧(zaO (foldI v.c.node).toNat).length≤10:=⟨zb9 _,zaZ (by omega)⟩
 have hps:v.c.ps.length≤8:=hg.2.2.1
 obtain⟨y1,y2,_⟩:=zdm hm
 unfold ziJ
 rw[y1,y2]
 have hML:Hid (∀j,j<3→0≤(mid v.c).getD j 0∧(mid v.c).getD j 0≤1048576):=aside (fun j hj=>by
  match j,hj with
  |0,_=>exact hs
  |1,_=>exact⟨Int.le_trans (by decide) hg.1,hg.2.1⟩
  |2,_=>exact⟨Int.natCast_nonneg _,by show(v.c.ps.length:Int)≤_;omega⟩
  |j+3,h=>omega)
 have HM:=aside hm
 have HF:=aside hf
 obtain⟨fo,hfo2⟩:∃x,foldI v.c.node=x:=⟨_,rfl⟩
 rw[hfo2]at q0 q1 t0
 have HFO:=aside hfo2
 clear S hm hn hs hg hI hf hfo y1 y2 hfo2
 go_enter Tryz.func71,Tryz.ntmps71
 go_wp2_with (first|go_skip|(refine Cel.zaa CE rfl _ rfl _ rfl v R0 ?_))
 refine(cm _ S0).mono ?_
 rintro e w1 ⟨rfl,k1⟩
 obtain⟨W0,hW0⟩:∃W,w.alloc (.cells (cc v) 47)=W:=⟨_,rfl⟩
 rw[hW0]at R0 S0 k0 k1
 clear hW0
 have b1:Below W0.heap.size W0 w1:=k1
 clear cm k1
 have d0:=zaX (R0.below b1)
 go_wp2_with (first|go_skip)
 refine(q0 _).mono ?_
 rintro _ w' ⟨rfl,rfl⟩
 go_wp2_with (first|go_skip)
 refine(q1 _).mono ?_
 rintro _ w2 ⟨v2,rfl,zdg,k2⟩
 have b2:=b1.trans (k2.mono b1.size)
 have O2:=aside (zdD zdg b1.size)
 clear zdg k2 b1 d0 q0 q1
 have d1:=zbw (R0.below b2)
 have d2:=za1 (R0.below b2)
 have d3:=zaP (R0.below b2)
 go_wp2_with (first|go_skip)
 have gb:W0.heap.size≤w2.heap.size:=b2.size
 have b3:Below W0.heap.size W0 (w2.alloc (.cells #[.int .i64 v.c.seq,.int .i64 v.c.gen,.int .i64 v.c.ps.length] 3)):=b2.alloc b2.size _
 have O3:=aside (O2.out.alloc (.cells #[.int .i64 v.c.seq,.int .i64 v.c.gen,.int .i64 v.c.ps.length] 3))
 have HC3:Hid (∀j,j<3→(w2.alloc (.cells #[.int .i64 v.c.seq,.int .i64 v.c.gen,.int .i64 v.c.ps.length] 3)).cell? ⟨w2.heap.size,j,none⟩=some (.int .i64 ((mid v.c).getD j 0))):=aside (fun j hj=>by
  rw[cell_of_row _ _ j #[.int .i64 v.c.seq,.int .i64 v.c.gen,.int .i64 v.c.ps.length] 3 (0,0) (heap_alloc_new w2 _)]
  match j,hj with
  |0,_=>rfl
  |1,_=>rfl
  |2,_=>rfl
  |j+3,h=>omega)
 obtain⟨pre,hpre⟩:∃l,zaO fo.toNat=l:=⟨_,rfl⟩
 rw[hpre]at O3 t0
 have HPR:=aside hpre
 clear hpre O2 d1 d2 d3 b2
 go_loopw [4,29] (fun o i wr=>∃(j:Nat) (acc:List Int),j≤3∧i=.int .i64 j∧Hid (acc=pre++midL ((mid v.c).take j))∧(0<acc.length∧acc.length≤10+j * 10)∧Hid (wr.ownsRow W0.heap.size 5 1 o acc.length (bv acc))∧Hid (∀j,j<3→wr.cell? ⟨w2.heap.size,j,none⟩=some (.int .i64 ((mid v.c).getD j 0)))∧Below W0.heap.size W0 wr) (fun _ i _=>3 - (intOf i).toNat)
 case atStart=>exact⟨0,pre,by omega,rfl,aside (by simp[midL]),by omega,O3,HC3,b3⟩
 case round=>
  clear O3 HC3 b3
  obtain⟨j,acc,hj,rfl,HA,ha,HB,HC,kb⟩:=hrel
  by_cases hlt:j<3
  ·have cx:=HC.out j hlt
   have hbd:=hML.out j hlt
   have HN:=aside (zqn (l:=mid v.c) (j:=j) hlt)
   obtain⟨x,hx⟩:∃x,(mid v.c).getD j 0=x:=⟨_,rfl⟩
   rw[hx]at cx hbd HN
   have p0:(j:Int)<3:=by omega
   have m0:((j:Int)).toNat=j:=by omega
   have wx:IntKind.u64.wrap x=x:=by rw[IntKind.wrap_u64];omega
   have qn:=fun W=>OpsP.zdH (k:=x) hbd.1 (by omega) W
   have tx:0<(zaO x.toNat).length∧(zaO x.toNat).length≤10:=⟨zb9 _,zaZ (by omega)⟩
   have HX:=aside hx
   clear hx hbd
   go_wp2_with (first|go_skip)
   refine(qn _).mono ?_
   rintro _ w3 ⟨v3,rfl,zbL,k3⟩
   have b3:=kb.trans (k3.mono kb.size)
   have O3:=aside (zao HB.out k3)
   obtain⟨A3,c3,rfl,S3⟩:=Sl.own zbL (znZ _)
   have C3:Hid (∀j,j<3→w3.cell? ⟨w2.heap.size,j,none⟩=some (.int .i64 ((mid v.c).getD j 0))):=aside (fun i hi=>by
    have:=HC.out i hi
    exact(k3.cell (block_lt_of_cell this)).trans this)
   clear zbL k3 HB HC kb cx qn
   go_wp2_with (first|go_skip|(refine zau rfl (.tmp 33) (.tmp 36) 114 rfl W0.heap.size 5 Tryz.underlying114 zaR _ _ acc rfl O3.out _ _ _ (zaO x.toNat) rfl rfl S3 (by have:=ha;have:=tx;omega) b3.size ?_;intro v4 w4 own4 g4))
   have b4:Below W0.heap.size W0 w4:=below_grown b3 b3.size g4 (fun q hq=>(O3.out.lt q hq).1)
   have O4:Hid (w4.ownsRow W0.heap.size 5 1 v4 (acc++zaO x.toNat).length (bv (acc++zaO x.toNat))):=aside (by rw[List.length_append];exact own4)
   have C4:Hid (∀j,j<3→w4.cell? ⟨w2.heap.size,j,none⟩=some (.int .i64 ((mid v.c).getD j 0))):=aside (fun i hi=>by
    have h1:=C3.out i hi
    have h0:=C3.out 0 (by omega)
    have hne:=zqf O3.out ha.1 h0 rfl ha.1
    have hlt:=block_lt_of_cell h1
    have hk:=g4.block _ hlt (fun e=>hne e.symm)
    rw[←h1]
    unfold World.cell?
    rw[hk])
   clear own4 g4 O3 C3 b3 S3
   go_roundw
   case rel=>exact⟨j+1,acc++zaO x.toNat,by omega,by go_num,aside (by rw[HN.out,HA.out,List.append_assoc]),by have:=ha;have:=tx;rw[List.length_append];omega,O4,C4,b4⟩
   case measure=>simp[intOf];omega
  ·have e:j=3:=by omega
   have HA2:Hid (acc=zem v.c):=aside (by rw[HA.out,head_mid,HFO.out,HPR.out,e];rfl)
   have ha2:0<acc.length∧acc.length≤40:=by omega
   have pn:¬(j:Int)<3:=by omega
   have d3:=zaP (R0.below kb)
   clear HC HA e ha hlt
   go_wp2_with (first|go_skip)
   go_loopw [4,42] (fun o i wr=>∃(j:Nat) (ac:List Int),j≤v.c.ps.length∧i=.int .i64 j∧Hid (ac=acc++zcr (v.c.ps.take j))∧(0<ac.length∧ac.length≤40+j * 32)∧Hid (wr.ownsRow W0.heap.size 5 1 o ac.length (bv ac))∧Below W0.heap.size W0 wr) (fun _ i _=>v.c.ps.length - (intOf i).toNat)
   case atStart=>exact⟨0,acc,Nat.zero_le _,rfl,aside (by simp[zcr]),by have:=ha2;omega,HB,kb⟩
   case round=>
    clear HB kb d3 ha2
    obtain⟨j,ac,hj,rfl,HC,hc,HB,kb⟩:=hrel
    have d3:=zaP (R0.below kb)
    by_cases hlt:j<v.c.ps.length
    ·obtain⟨g,off,hA,hbw,hr⟩:=SlI.plain S0 (by omega)
     have re:=IdW.zab (hr j hlt) kb
     have HF2:=aside (zjr hlt)
     obtain⟨x,hx⟩:∃x,v.c.ps.getD j nought=x:=⟨_,rfl⟩
     rw[hx]at re HF2
     have lx:=zaK x
     clear hr hx
     have p0:(j:Int)<v.c.ps.length:=by omega
     have m0:((j:Int)).toNat=j:=by omega
     go_wp2_with (first|go_skip|(refine zak rfl _ rfl _ _ rfl x re ?_)|(refine IdJ.zax rfl rfl ?_)|(refine CmG.zaF rfl _ _ rfl _ nought _ rfl x _ rfl rfl rfl ?_;intro w5 G5 k5 s5;have b5:=kb.trans (k5.mono kb.size);have O5:=aside (zao HB.out k5);have S5:=zo3 G5)|(refine zau rfl (.tmp 46) (.tmp 47) 114 rfl W0.heap.size 5 Tryz.underlying114 zaR _ _ ac rfl O5.out _ _ _ x.val rfl lx S5 (by have:=hc;omega) b5.size ?_;intro v6 w6 zjS g6))
     have b6:Below W0.heap.size W0 w6:=below_grown b5 b5.size g6 (fun q hq=>(O5.out.lt q hq).1)
     have O6:Hid (w6.ownsRow W0.heap.size 5 1 v6 (ac++x.val).length (bv (ac++x.val))):=aside (by rw[List.length_append,lx];exact zjS)
     clear zjS g6 O5 b5 S5 G5 k5 s5
     try rw[hA]
     go_roundw
     case rel=>exact⟨j+1,ac++x.val,by omega,by go_num,aside (by rw[HF2.out,HC.out,List.append_assoc]),by have:=hc;rw[List.length_append,lx];omega,O6,b6⟩
     case measure=>simp[intOf];omega
    ·have e:j=v.c.ps.length:=by omega
     have HE:Hid (ac=zem v.c++zcr v.c.ps):=aside (by rw[HC.out,e,List.take_length,HA2.out])
     have hl2:0<ac.length∧ac.length≤400:=by omega
     have pn:¬(j:Int)<v.c.ps.length:=by omega
     clear HC hc e hlt HA2
     have RK:=R0.below kb
     have qm:=fun W=>CmV.zfD v W
     unfold CmV.zgR at qm
     by_cases hq:v.c.node= -1
     ·have hmb:=za3 HM.out hq
      have HP:Hid (zgX v.c=ac):=aside (by unfold zgX opL;rw[if_pos hq,HE.out,List.append_nil])
      simp only[hmb]at qm
      clear HE hq hmb
      go_wp2_with (first|go_skip|(refine Cel.zaa CE rfl _ rfl _ rfl v RK ?_))
      refine(qm _).mono ?_
      rintro e w7 ⟨rfl,k7⟩
      have b7:=kb.trans (k7.mono kb.size)
      have O7:=aside (zao HB.out k7)
      clear kb HB k7 RK d3 qm
      go_wp2_with (first|go_skip)
      go_ret2
      rw[HP.out]
      obtain⟨A7,c7,e7,S7⟩:=Sl.own O7.out (by rw[←HP.out];exact znR _)
      exact⟨A7,c7,by rw[e7];rfl,S7,k0.trans (b7.mono k0.size)⟩
     ·have hmb:zcH v.c=false:=by
       cases hb:zcH v.c with
       |false=>rfl
       |true=>exact absurd (zdJ.1 hb).1 hq
      have HP:Hid (zgX v.c=ac++ze6 v.c.op):=aside (by unfold zgX opL;rw[if_neg hq,HE.out,List.append_assoc])
      simp only[hmb]at qm
      have cp:=fun W=>OpsP.zdX v.c.op W HF.out.op (zlI HM.out hq)
      unfold OpsP.zid at cp
      have hlo:=ziZ (zlI HM.out hq)
      clear HE hq hmb
      go_wp2_with (first|go_skip|(refine Cel.zaa CE rfl _ rfl _ rfl v RK ?_))
      refine(qm _).mono ?_
      rintro e w7 ⟨rfl,k7⟩
      have b7:=kb.trans (k7.mono kb.size)
      have O7:=aside (zao HB.out k7)
      have R7:=RK.below k7
      clear kb HB k7 RK d3 qm
      go_wp2_with (first|go_skip|(refine zb6 rfl _ rfl _ rfl v R7 ?_))
      refine(cp _).mono ?_
      rintro _ w9 ⟨v9,rfl,own9,k9⟩
      have O9:=aside (zao O7.out k9)
      have b9:=b7.trans (k9.mono b7.size)
      obtain⟨A9,c9,rfl,S9⟩:=Sl.own own9 (znQ _)
      clear own9 k9 b7 O7 R7
      go_wp2_with (first|go_skip|(refine zau rfl (.tmp 59) (.tmp 60) 114 rfl W0.heap.size 5 Tryz.underlying114 zaR _ _ ac rfl O9.out _ _ _ (ze6 v.c.op) rfl rfl S9 (by have:=hl2;have:=hlo;omega) b9.size ?_;intro v1 w1 zfw g1))
      have hb1:Below W0.heap.size W0 w1:=below_grown b9 b9.size g1 (fun q hq=>(O9.out.lt q hq).1)
      go_ret2
      have zdg:w1.ownsRow W0.heap.size 5 1 v1 (ac++ze6 v.c.op).length (bv (ac++ze6 v.c.op)):=by rw[List.length_append];exact zfw
      rw[HP.out]
      obtain⟨A7,c7,e7,S7⟩:=Sl.own zdg (by rw[←HP.out];exact znR _)
      exact⟨A7,c7,by rw[e7];rfl,S7,k0.trans (hb1.mono k0.size)⟩
theorem zcE (v:Cv) (w:World) (S:In w v) (hf:Fit v.c):Calls Tryz.prog 71 #[.agg (cc v)] w (ziJ v.c w):=by
 cases hm:zbn v.c with
 |false=>exact zis v w S hf hm
 |true=>exact zdX v w S hf hm
theorem zeY (v:Cv) (w:World) (S:In w v) (hf:Fit v.c) (hK:ShaE.KIn w):Calls Tryz.prog 29 #[.agg (cc v)] w (zfp v.c w):=by
 have R0:Cel.Box CE ((w.alloc (.cells (cc v) 47)).alloc (.cells (IdW.cs nought) 56)) w.heap.size v:=(Cel.Box.new (E:=CE) w v 47).alloc _
 have G0:IdW.Box ((w.alloc (.cells (cc v) 47)).alloc (.cells (IdW.cs nought) 56)) (w.heap.size+1) nought:=by
  have z:(w.alloc (.cells (cc v) 47)).heap.size=w.heap.size+1:=by simp
  rw[←z]
  exact IdW.Box.new _ nought _
 have k0:Below w.heap.size w ((w.alloc (.cells (cc v) 47)).alloc (.cells (IdW.cs nought) 56)):=((Below.refl _ _).alloc (Nat.le_refl _) _).alloc (by simp) _
 have S0:=S.below k0
 have K0:=hK.below k0
 have cp:=fun W T=>zcE v W T hf
 have hl:=zp5 v.c
 unfold ziJ at cp
 unfold zfp
 obtain⟨P,hP⟩:∃P,putB v.c=P:=⟨_,rfl⟩
 rw[hP]at cp hl
 have HP:=aside hP
 obtain⟨N,hN⟩:∃N,putN v.c=N:=⟨_,rfl⟩
 rw[hN]at cp ⊢
 have hw:N=1∧zim v.c=nought∨N=0∧zim v.c=CmS.zns P:=by
  cases hm:zbn v.c with
  |false=>exact .inl ⟨by rw[←hN];exact(zgd hm).2.1,(zgd hm).2.2⟩
  |true=>exact .inr ⟨by rw[←hN];exact(zdm hm).2.1,by rw[(zdm hm).2.2,←hP,(zdm hm).1];rfl⟩
 clear S hf hK hP hN
 go_enter Tryz.func29,Tryz.ntmps29
 go_wp2_with (first|go_skip|(refine IdJ.zax rfl rfl ?_)|(refine Cel.zaa CE rfl _ rfl _ rfl v R0 ?_))
 refine(cp _ S0).mono ?_
 rintro _ w1 ⟨A1,c1,rfl,S1,k1⟩
 have G1:=G0.below k1 G0.lt
 have b1:=k0.trans (k1.mono k0.size)
 have K1:=K0.below k1
 clear cp R0 G0 k0 S0 k1 K0
 rcases hw with⟨rfl,hh⟩|⟨rfl,hh⟩
 ·have HH:=aside hh
  clear hh
  go_wp2_with (first|go_skip|(refine IdJ.zcJ rfl rfl ?_)|(refine IdJ.zad rfl _ _ rfl (w.heap.size+1) rfl nought nought G1 rfl ?_))
  exact bodyPost_ret (v:=.tuple #[.agg (IdW.cs nought),.int .i64 1]) (IdJ.zdV Tryz.results29 _ _ (w.heap.size+1) nought _ rfl rfl (IdJ.Box.row G1 nought)) rfl ⟨by rw[HH.out],IdJ.zbl b1 (by omega) _⟩
 ·have HH:=aside hh
  clear hh
  obtain⟨n,hn⟩:∃n,P.length=n:=⟨_,rfl⟩
  have cs:=CmS.psum S1 rfl (by omega) K1
  rw[hn]at cs
  rw[hn]
  clear hl hn
  go_wp2_with (first|go_skip|(refine IdJ.zcJ rfl rfl ?_))
  refine cs.mono ?_
  rintro _ w2 ⟨rfl,k2⟩
  have G2:=G1.below k2 G1.lt
  have b2:=b1.trans (k2.mono b1.size)
  clear cs k2 b1 G1 K1
  go_wp2_with (first|go_skip|(refine IdJ.zad rfl _ _ rfl (w.heap.size+1) rfl nought (CmS.zns P) G2 rfl ?_))
  exact bodyPost_ret (v:=.tuple #[.agg (IdW.cs (CmS.zns P)),.int .i64 0]) (IdJ.zdV Tryz.results29 _ _ (w.heap.size+1) (CmS.zns P) _ rfl rfl (IdJ.Box.row G2 (CmS.zns P))) rfl ⟨by rw[HH.out],IdJ.zbl b2 (by omega) _⟩
end Go.Proofs.YtgmdhaepiclkcaaGreatDoor.CmT
