/- What sha.Sum returns | What the document's answers to Pick, Most, Right and Four of package r | What the document's answers to Long and Word of package rot return | What the document's answers' twist, Constants, Start and words of pack | What the document's answer's words of package sha returns -/
import Derived.Test.YtgmdhaepiclkcaaGreatDoorShaDJ13
import Derived.Test.YtgmdhaepiclkcaaGreatDoorOpsGJ8
import Derived.Deep.RegionWith
import Derived.Test.YtgmdhaepiclkcaaGreatDoorRotMJ9
import Derived.BigRegion
namespace Go.Proofs.YtgmdhaepiclkcaaGreatDoor.ShaH
set_option maxHeartbeats 1000000
set_option maxRecDepth 100000
open Go.RowKit RotM RotN RotC RotD ShaM ShaC ShaD ShaE RotG Small PadM ShaF ShaG SumM
def zlq (bs:List Int):List Int:=idL (hsum (zif bs) (zgM bs.length / 64)) 8
theorem zky (bs:List Int):(zlq bs).length=32:=za4 _ _
theorem zh7 (h r:H8) (b off cap:Nat) (f:Nat→Int) (hf:∀i,B (f i)) (hcap:64≤cap) (hr:zdO h (wordsOf f)=r) (w:World) (hc:∀i,i<64→w.cell? ⟨b,off+i,none⟩=some (.int .u8 (f i))) (hK:KIn w):
  Calls Tryz.prog 127 #[.agg #[.int .u32 (u h.a),.int .u32 (u h.b),.int .u32 (u h.c),.int .u32 (u h.d),.int .u32 (u h.e),.int .u32 (u h.f),.int .u32 (u h.g),.int .u32 (u h.z)],.slice (some ⟨b,off,none⟩) 64 cap] w
   fun e w'=>e=.returned (.tuple #[.agg #[.int .u32 (u r.a),.int .u32 (u r.b),.int .u32 (u r.c),.int .u32 (u r.d),.int .u32 (u r.e),.int .u32 (u r.f),.int .u32 (u r.g),.int .u32 (u r.z)],.bool true])∧Below w.heap.size w w':=by
 subst hr
 exact zh6 h b off cap f hf hcap w hc hK
theorem set8 (r q:H8):((((((((r.vals.setIfInBounds 0 (.int .u32 (u q.a))).setIfInBounds 1 (.int .u32 (u q.b))).setIfInBounds 2 (.int .u32 (u q.c))).setIfInBounds 3 (.int .u32 (u q.d))).setIfInBounds 4 (.int .u32 (u q.e))).setIfInBounds 5 (.int .u32 (u q.f))).setIfInBounds 6 (.int .u32 (u q.g))).setIfInBounds 7 (.int .u32 (u q.z)))=q.vals:=by kernel_rfl
theorem bv_all (l:List Int):(bv l).toArray.all (·.oneCell')=true:=by
 rw[Array.all_eq_true_iff_forall_mem]
 intro v hv
 exact zeh _ v (by simpa using hv)
theorem zj6 {P:List Int} {k:Nat} {r q:H8} (hr:hsum P k=r) (hq:zdO r (wordsOf (blk P k))=q):hsum P (k+1)=q:=by
 subst hr
 exact hq
theorem sumW {w:World} {A:Option Addr} {len cap:Nat} {zs:List Int} (hr:RowIn.zpv .u8 w A len cap zs) (hl:len≤1099511627776) (hK:KIn w):
  Calls Tryz.prog 72 #[.slice A len cap] w fun e w'=>e=.returned (.agg (bv (zlq (zs.take len))).toArray)∧Below w.heap.size w w':=by
 obtain⟨bs,hbs⟩:∃bs,zs.take len=bs:=⟨_,rfl⟩
 have hlen:bs.length=len:=by
  have h1:=hr.1
  have h3:=hr.2.2.1
  rw[←hbs];simp;omega
 have hB:∀x ∈ zif bs,B x:=by
  refine padL_B (fun x hx=>?_) (by omega)
  rw[←hbs]at hx
  have:=hr.2.2.2.1 x (List.mem_of_mem_take hx)
  simpa[B,Lit.wf,IntKind.min,IntKind.max,IntKind.bits,IntKind.signed]using this
 have HB:=RotF.aside hB
 have hr1:=hr.below ((Below.refl _ _).alloc (Nat.le_refl _) (.cells (idV zci 0).toArray 56))
 have hp:=padW hr1 hl
 rw[hbs]at hp
 rw[hbs]
 have hn1:=zja len
 have hn2:=zjb len
 have hn3:=zdZ bs
 unfold zlq
 rw[hlen]at hn3
 rw[hlen]
 obtain⟨P,hP⟩:∃P,zif bs=P:=⟨_,rfl⟩
 obtain⟨N,hN⟩:∃N,zgM len=N:=⟨_,rfl⟩
 have e0:=zeX zci
 rw[e0,hP]at hp
 rw[hP]at hn3 HB
 rw[hN]at hn1 hn2 hn3
 rw[hP,hN]
 have HP:=RotF.aside hp
 have HN3:=RotF.aside hn3
 have HN1:=RotF.aside hn1
 clear hB hr hr1 hlen hbs hp e0 hP hN hn3 hn1
 go_enter Tryz.func72,Tryz.ntmps72
 go_wp2_with fail
 refine HP.out.mono ?_
 rintro e w1 ⟨gp,rfl,hg1,Ap,k1⟩
 have A2:At w1 w.heap.size (idV zci 0).toArray:=by rw[zeX];exact(At.new w _ _).below k1 (by simp)
 have hs:w.heap.size<gp:=by simp at hg1;omega
 have kb:Below w.heap.size w w1:=Below.trans (by go_grown) (k1.mono (by simp))
 clear HP k1 hg1
 go_wp2_with fail
 refine(ShaC.start _).mono ?_
 rintro e w2 ⟨rfl,h2⟩
 have B2:=A2.below h2 A2.lt
 have Bp:=Ap.below h2 Ap.lt
 have kc:=kb.trans (h2.mono kb.size)
 clear A2 Ap kb h2
 have lp:=Bp.lt
 go_wp2_with (refine zaC rfl 162 _ _ rfl _ _ _ 162 rfl _ rfl ?c1 rfl ?c2 ?c3 ?c4 ?_;(case c1=>simp);(case c2=>exact zel);(case c3=>rfl);(case c4=>exact zpq _))
 have n1:w.heap.size≠w2.heap.size:=by omega
 have n2:gp≠w2.heap.size:=by omega
 have n3:w.heap.size≤w2.heap.size:=by omega
 go_loopw [5] (fun i wr=>∃k:Nat,64 * k≤P.length∧i=.int .i64 (64 * (k:Int))∧At wr w.heap.size (idV zci 0).toArray∧At wr gp (bv P).toArray∧At wr w2.heap.size (hsum P k).vals∧Below w.heap.size w wr) (fun i _=>P.length - (intOf i).toNat)
 case atStart=>exact⟨0,Nat.zero_le _,rfl,B2.alloc _,Bp.alloc _,At.new _ _ _,kc.alloc kc.size _⟩
 case round=>
  clear B2 Bp kc
  obtain⟨k,hk,rfl,A2,Ap,A4,kb⟩:=hrel
  by_cases hlt:64 * k<P.length
  ·have hle:64 * k+64≤P.length:=by have:=HN1.out;have:=HN3.out;omega
   have hub:P.length≤1099511627848:=by have:=HN3.out;omega
   obtain⟨r,hr⟩:∃r,hsum P k=r:=⟨_,rfl⟩
   obtain⟨q,hq⟩:∃q,zdO r (wordsOf (blk P k))=q:=⟨_,rfl⟩
   rw[hr]at A4
   have HR:=RotF.aside hr
   have HQ:=RotF.aside hq
   clear hr hq
   have c0:wr.cell? ⟨w2.heap.size,0,none⟩=some (.int .u32 (u r.a)):=A4.cell 0
   have c1:wr.cell? ⟨w2.heap.size,1,none⟩=some (.int .u32 (u r.b)):=A4.cell 1
   have c2:wr.cell? ⟨w2.heap.size,2,none⟩=some (.int .u32 (u r.c)):=A4.cell 2
   have c3:wr.cell? ⟨w2.heap.size,3,none⟩=some (.int .u32 (u r.d)):=A4.cell 3
   have c4:wr.cell? ⟨w2.heap.size,4,none⟩=some (.int .u32 (u r.e)):=A4.cell 4
   have c5:wr.cell? ⟨w2.heap.size,5,none⟩=some (.int .u32 (u r.f)):=A4.cell 5
   have c6:wr.cell? ⟨w2.heap.size,6,none⟩=some (.int .u32 (u r.g)):=A4.cell 6
   have c7:wr.cell? ⟨w2.heap.size,7,none⟩=some (.int .u32 (u r.z)):=A4.cell 7
   have m0:(64 * (k:Int))<(P.length:Int):=by omega
   have m1:IntKind.i64.wrap (64 * (k:Int)+64)=64 * (k:Int)+64:=IntWalk.i64_in _ (by omega)
   have m2:0≤64 * (k:Int):=by omega
   have m3:(64 * (k:Int)).toNat=64 * k:=by omega
   have m4:(64 * (k:Int)+64).toNat=64 * k+64:=by omega
   have m5:64 * (k:Int)+64≤(P.length:Int):=by omega
   have m6:64 * (k:Int)≤64 * (k:Int)+64:=by omega
   have m7:¬P.length=64 * k:=by omega
   have m8:64 * k+64 - 64 * k=64:=by omega
   have m9:0≤64 * (k:Int)+64:=by omega
   go_wp2
   go_region_with ((go_at_call 127;(refine(zh7 r q gp (64 * k) (P.length - 64 * k) (blk P k) (blk_B HB.out k) (by omega) HQ.out _ ?_ ?_).mono ?_;(exact fun i hi=>blk_at (Ap.drew) k hle i hi);(exact KIn.below hK (zaf kb));rintro e w3 ⟨rfl,h3⟩;have d0:w3.cell? ⟨w2.heap.size,0,none⟩=some (.int .u32 (u r.a)):=(A4.drew.below h3 A4.drew.lt).cell 0;have z0:=(A4.drew.below h3 A4.drew.lt).frozen 0;have d1:w3.cell? ⟨w2.heap.size,1,none⟩=some (.int .u32 (u r.b)):=(A4.drew.below h3 A4.drew.lt).cell 1;have z1:=(A4.drew.below h3 A4.drew.lt).frozen 1;have d2:w3.cell? ⟨w2.heap.size,2,none⟩=some (.int .u32 (u r.c)):=(A4.drew.below h3 A4.drew.lt).cell 2;have z2:=(A4.drew.below h3 A4.drew.lt).frozen 2;have d3:w3.cell? ⟨w2.heap.size,3,none⟩=some (.int .u32 (u r.d)):=(A4.drew.below h3 A4.drew.lt).cell 3;have z3:=(A4.drew.below h3 A4.drew.lt).frozen 3;have d4:w3.cell? ⟨w2.heap.size,4,none⟩=some (.int .u32 (u r.e)):=(A4.drew.below h3 A4.drew.lt).cell 4;have z4:=(A4.drew.below h3 A4.drew.lt).frozen 4;have d5:w3.cell? ⟨w2.heap.size,5,none⟩=some (.int .u32 (u r.f)):=(A4.drew.below h3 A4.drew.lt).cell 5;have z5:=(A4.drew.below h3 A4.drew.lt).frozen 5;have d6:w3.cell? ⟨w2.heap.size,6,none⟩=some (.int .u32 (u r.g)):=(A4.drew.below h3 A4.drew.lt).cell 6;have z6:=(A4.drew.below h3 A4.drew.lt).frozen 6;have d7:w3.cell? ⟨w2.heap.size,7,none⟩=some (.int .u32 (u r.z)):=(A4.drew.below h3 A4.drew.lt).cell 7;have z7:=(A4.drew.below h3 A4.drew.lt).frozen 7;clear c0 c1 c2 c3 c4 c5 c6 c7)))
   all_goals
    have D2:=A2.drew.below h3 A2.drew.lt
    have Dp:=Ap.drew.below h3 Ap.drew.lt
    have D4:=A4.drew.below h3 A4.drew.lt
    have kd:Below w.heap.size w w3:=(zaf kb).trans (h3.mono kb.size)
    clear d0 d1 d2 d3 d4 d5 d6 d7 z0 z1 z2 z3 z4 z5 z6 z7 m1 m3 m4 m8 A2 Ap A4 kb h3
    go_wp2
    go_roundw
    case rel=>
     have S4:=(((((((D4.set 0 (.int .u32 (u q.a))).set 1 (.int .u32 (u q.b))).set 2 (.int .u32 (u q.c))).set 3 (.int .u32 (u q.d))).set 4 (.int .u32 (u q.e))).set 5 (.int .u32 (u q.f))).set 6 (.int .u32 (u q.g))).set 7 (.int .u32 (u q.z))
     rw[set8]at S4
     refine⟨k+1,by omega,by go_num,?_,?_,by rw[zj6 HR.out HQ.out];exact S4,?_⟩
     ·iterate 8 refine At.za5 ?_ n1 _
      exact D2
     ·iterate 8 refine At.za5 ?_ n2 _
      exact Dp
     ·iterate 8 refine Below.setCell ?_ n3 _
      exact kd
    case measure=>simp[intOf];omega
  ·have eN:k=N / 64:=by have:=HN1.out;have:=HN3.out;omega
   rw[eN]at A4
   clear eN
   go_wp2_with (first|(refine zal rfl 162 _ rfl _ rfl _ _ A4 Tryz.underlying162 rfl ?c2 ?_;(case c2=>exact zel))|fail)
   refine(join _ _).mono ?_
   rintro e w3 ⟨rfl,h3⟩
   have D2:=A2.below h3 A2.lt
   have kd:=kb.trans (h3.mono kb.size)
   clear A2 Ap A4 kb h3
   go_wp2_with (refine za2 rfl 56 _ _ rfl _ _ rfl rfl _ D2 ?c2 ?c3 ?c4 ?_;(case c2=>rw[List.size_toArray,zav,za4];exact zcG);(case c3=>rw[List.size_toArray,List.size_toArray,zbh _ _ (by omega),zav,za4]);(case c4=>exact bv_all _))
   exact bodyPost_ret (v:=.agg (bv (idL (hsum P (N / 64)) 8)).toArray) (results_at Tryz.results72 _ _ w.heap.size _ _ rfl (D2.row _) Tryz.underlying56 rfl (by rw[List.size_toArray,zav,za4];exact zcG)) rfl ⟨rfl,zbl kd (Nat.le_refl _) _⟩
end Go.Proofs.YtgmdhaepiclkcaaGreatDoor.ShaH
namespace Go.Proofs.YtgmdhaepiclkcaaGreatDoor.RotC
set_option maxHeartbeats 400000
set_option maxRecDepth 100000
open Go.RowKit RotM
theorem refpick (p a b:BitVec 32) (w:World):
  Calls Tryz.prog 199 #[.int .u32 (u p),.int .u32 (u a),.int .u32 (u b)] w fun e w'=>e=.returned (.int .u32 (u (znT p a b)))∧w=w':=by
 have h1:=zcv p a
 have h2:=zcv p b
 have h3:=sub_and p b
 have h4:=zdS (~~~p &&& b)
 go_enter Tryz.func199,Tryz.ntmps199
 go_wp2
 go_ret
 exact⟨ziX (by rw[zd9];rfl),rfl⟩
theorem refmost (a b c:BitVec 32) (w:World):
  Calls Tryz.prog 200 #[.int .u32 (u a),.int .u32 (u b),.int .u32 (u c)] w fun e w'=>e=.returned (.int .u32 (u (mostW a b c)))∧w=w':=by
 go_enter Tryz.func200,Tryz.ntmps200
 go_wp2
 go_ret
 exact⟨ziX (by rw[zcv,zcv,zcv,zd9,zd9];rfl),rfl⟩
theorem zpX (x:BitVec 32) (n:Int) (hn: -9223372036854775808≤n∧n≤9223372036854775807) (w:World):
  Calls Tryz.prog 198 #[.int .u32 (u x),.int .i64 n] w fun e w'=>e=.returned (.int .u32 (u (zgL x (n % 32).toNat)))∧w=w':=by
 have hx:=zdS x
 have hr:n.tmod 32=if n % 32=0∨0≤n then n % 32 else n % 32 - 32:=by rw[Int.tmod_eq_emod];split <;> split <;> omega
 by_cases hc:n % 32=0∨0≤n
 ·rw[if_pos hc]at hr
  go_enter Tryz.func198,Tryz.ntmps198
  go_wp2
  go_ret
  exact⟨ziX (by rw[znE,shl_u,zd9,show(32 - n % 32).toNat=32 - (n % 32).toNat from by omega];rfl),rfl⟩
 ·rw[if_neg hc]at hr
  go_enter Tryz.func198,Tryz.ntmps198
  go_wp2
  go_ret
  exact⟨ziX (by rw[znE,shl_u,zd9,show(32 - n % 32).toNat=32 - (n % 32).toNat from by omega];rfl),rfl⟩
theorem reffour (a:Int) (ha:0≤a∧a≤4294967295) (w:World):
  Calls Tryz.prog 169 #[.int .u32 a] w fun e w'=>e=.returned (.agg (zdd a))∧w'=w.alloc (.cells (zdd a) 194):=by
 go_enter Tryz.func169,Tryz.ntmps169
 go_wp2
 exact bodyPost_ret (v:=.agg (zdd a)) (by simp[results,Tryz.results169,go_sem,zdd]) rfl ⟨rfl,rfl⟩
end Go.Proofs.YtgmdhaepiclkcaaGreatDoor.RotC
namespace Go.Proofs.YtgmdhaepiclkcaaGreatDoor.RotD
set_option maxHeartbeats 1000000
set_option maxRecDepth 100000
open Go.RowKit RotM RotC
theorem reflong (a:Int) (ha:0≤a∧a≤18446744073709551615) (w:World):
  Calls Tryz.prog 194 #[.int .u64 a] w fun e w'=>e=.returned (.agg (zj2 a))∧Below w.heap.size w w':=by
 go_enter Tryz.func194,Tryz.ntmps194
 go_wp2
 go_rounds 9
 go_returns
 refine⟨agg8 ?_ ?_ ?_ ?_ ?_ ?_ ?_ ?_,?_⟩
 all_goals first|omega|go_grown
theorem zkI (b off len cap k:Nat) (b0 b1 b2 b3:Int) (hl:len≤100) (hk:k+4≤len) (w:World)
  (c0:w.cell? ⟨b,off+k,none⟩=some (.int .u8 b0)) (c1:w.cell? ⟨b,off+(k+1),none⟩=some (.int .u8 b1)) (c2:w.cell? ⟨b,off+(k+2),none⟩=some (.int .u8 b2)) (c3:w.cell? ⟨b,off+(k+3),none⟩=some (.int .u8 b3))
  (r0:0≤b0∧b0≤255) (r1:0≤b1∧b1≤255) (r2:0≤b2∧b2≤255) (r3:0≤b3∧b3≤255):
  Calls Tryz.prog 224 #[.slice (some ⟨b,off,none⟩) len cap,.int .i64 (k:Int)] w fun e w'=>e=.returned (.tuple #[.int .u32 (zkb b0 b1 b2 b3),.bool true])∧Below w.heap.size w w':=by
 go_enter Tryz.func224,Tryz.ntmps224
 go_wp2
 go_quiet (fail)
 go_wp2
 go_ret2
 exact⟨rfl,below_drewN _ _⟩
end Go.Proofs.YtgmdhaepiclkcaaGreatDoor.RotD
namespace Go.Proofs.YtgmdhaepiclkcaaGreatDoor.RefS
set_option maxHeartbeats 1000000
set_option maxRecDepth 100000
open Go.RowKit RotM RotN RotC RotD ShaM ShaC ShaD RotG Small
theorem twist (a b c:BitVec 32) (w:World):
  Calls Tryz.prog 197 #[.int .u32 (u a),.int .u32 (u b),.int .u32 (u c)] w fun e w'=>e=.returned (.int .u32 (u (a ^^^ b ^^^ c)))∧w=w':=by
 go_enter Tryz.func197,Tryz.ntmps197
 go_wp2
 go_ret
 exact⟨ziX (by rw[zcU,zcU]),rfl⟩
theorem start (w:World):
  Calls Tryz.prog 167 #[] w fun e w'=>e=.returned (.agg zci.vals)∧Below w.heap.size w w':=by
 go_enter Tryz.func167,Tryz.ntmps167
 go_wp2
 exact bodyPost_ret (v:=.agg zci.vals) (by simp[results,Tryz.results167,go_sem];rfl) rfl ⟨rfl,by go_grown⟩
theorem zc5 (x:BitVec 32) (n:Int) (j:Nat) (hn: -9223372036854775808≤n∧n≤9223372036854775807) (h:(n % 32).toNat=j) (w:World):
  Calls Tryz.prog 198 #[.int .u32 (u x),.int .i64 n] w fun e w'=>e=.returned (.int .u32 (u (zgL x j)))∧w=w':=by
 subst h
 exact zpX x n hn w
def zfc:Array Value:=Array.ofFn (n:=64) fun j=>Value.int .u32 (u (kc j.val))
theorem zdb:zfc.size=64:=by simp[zfc]
theorem zol {j:Nat} (hj:j<64):zfc[j]?=some (.int .u32 (u (kc j))):=by simp[zfc,hj]
theorem ziA:zfc.all (·.oneCell')=true:=by
 rw[Array.all_eq_true_iff_forall_mem]
 intro v hv
 obtain⟨i,rfl⟩:=Array.mem_ofFn.1 hv
 rfl
theorem zfd:(Tryz.prog.info? 191).map (·.size)=some 64:=by kernel_rfl
theorem constants (w:World):
  Calls Tryz.prog 195 #[] w fun e w'=>e=.returned (.agg zfc)∧Below w.heap.size w w':=by
 go_enter Tryz.func195,Tryz.ntmps195
 go_wp2_with (first|(refine wpList_build rfl 191 _ rfl ?c1 ?_;(case c1=>kernel_rfl))|(refine zaC rfl 191 _ _ rfl _ _ zfc 191 rfl _ rfl ?c1 ?c5 ?c2 ?c3 ?c4 ?_;(case c1=>simp);(case c5=>kernel_rfl);(case c2=>rw[zdb];exact zfd);(case c3=>rw[zdb];rfl);(case c4=>exact ziA)))
 exact bodyPost_ret (v:=.agg zfc) (results_at Tryz.results195 _ _ w.heap.size _ _ rfl (At.new _ _ _) Tryz.underlying191 rfl (by rw[zdb];exact zfd)) rfl ⟨rfl,by go_grown⟩
end Go.Proofs.YtgmdhaepiclkcaaGreatDoor.RefS
namespace Go.Proofs.YtgmdhaepiclkcaaGreatDoor.RefT
set_option maxHeartbeats 1000000
set_option maxRecDepth 100000
open Go.RowKit RotM RotN RotC RotD ShaM ShaD RotG Small RefS
theorem word4 (b off cap k:Nat) (f:Nat→Int) (hf:∀i,B (f i)) (hk:k<16) (p:Int) (hp:p=4 * (k:Int)) (w:World) (hc:∀i,i<64→w.cell? ⟨b,off+i,none⟩=some (.int .u8 (f i))):
  Calls Tryz.prog 224 #[.slice (some ⟨b,off,none⟩) 64 cap,.int .i64 p] w fun e w'=>e=.returned (.tuple #[.int .u32 (u (wordsOf f k)),.bool true])∧Below w.heap.size w w':=by
 obtain rfl:p=((4 * k:Nat):Int):=by omega
 rw[znk hf]
 exact zkI b off 64 cap (4 * k) _ _ _ _ (by omega) (by omega) w (hc _ (by omega)) (hc _ (by omega)) (hc _ (by omega)) (hc _ (by omega)) (hf _) (hf _) (hf _) (hf _)
theorem twistI (a b:BitVec 32) (n:Int) (c:BitVec 32) (hn:n=u c) (w:World):
  Calls Tryz.prog 197 #[.int .u32 (u a),.int .u32 (u b),.int .u32 n] w fun e w'=>e=.returned (.int .u32 (u (a ^^^ b ^^^ c)))∧w=w':=by
 subst hn
 exact RefS.twist a b c w
theorem wd_sum' (a b x y:BitVec 32):(u a+u b+u (zgL x 7 ^^^ zgL x 18 ^^^ x >>> 3)+u (zgL y 17 ^^^ zgL y 19 ^^^ y >>> 10)) % 4294967296=u (a+b+s0 x+s1 y):=by
 rw[sum4]
 rfl
theorem words (b off cap:Nat) (f:Nat→Int) (hf:∀i,B (f i)) (w:World) (hc:∀i,i<64→w.cell? ⟨b,off+i,none⟩=some (.int .u8 (f i))):
  Calls Tryz.prog 196 #[.slice (some ⟨b,off,none⟩) 64 cap] w fun e w'=>e=.returned (.agg (sp (wordsOf f) 64))∧Below w.heap.size w w':=by
 have hb:b<w.heap.size:=block_lt_of_cell (hc 0 (by omega))
 have HC:=RotF.aside hc
 have HF:=RotF.aside hf
 clear hc hf
 go_enter Tryz.func196,Tryz.ntmps196
 go_wp2_with (first|(refine wpList_build rfl 191 _ rfl ?c1 ?_;(case c1=>kernel_rfl))|(refine zaC rfl 191 _ _ rfl _ _ (sp (wordsOf f) 0) 191 rfl _ rfl ?c1 ?c5 ?c2 ?c3 ?c4 ?_;(case c1=>simp);(case c5=>kernel_rfl);(case c2=>rw[zcm];exact zfd);(case c3=>rw[zcm];rfl);(case c4=>exact zjK _ _)))
 go_loopw [4] (fun i wr=>∃k:Nat,k≤64∧i=.int .i64 k∧At wr w.heap.size (sp (wordsOf f) 0)∧At wr (w.heap.size+1) (sp (wordsOf f) k)∧Below w.heap.size w wr) (fun i _=>64 - (intOf i).toNat)
 case atStart=>exact⟨0,Nat.zero_le _,rfl,by rw[zkD];exact⟨_,heap_alloc2_old _ _ _⟩,⟨_,heap_alloc2_new _ _ _⟩,by go_grown⟩
 case round=>
  obtain⟨k,hk,rfl,A0,A1,kb⟩:=hrel
  by_cases hlt:k<64
  ·by_cases h16:k<16
   ·go_wp2_with fail
    refine(word4 b off cap k f HF.out h16 _ rfl _ (fun i hi=>(kb.cell hb).trans (HC.out i hi))).mono ?_
    rintro e w1 ⟨rfl,h1⟩
    have B0:=A0.below h1 A0.lt
    have B1:=A1.below h1 A1.lt
    have kc:=kb.trans (h1.mono kb.size)
    clear A0 A1 kb h1
    have c1:=B1.cell k
    rw[zkE _ _ (by omega),if_neg (by omega)]at c1
    have z1:=B1.frozen k
    go_wp2
    go_roundw
    case rel=>
     have q:=B1.set k (.int .u32 (u (wordsOf f k)))
     rw[←zjE (wordsOf f) h16,zls _ (by omega)]at q
     rw[←zjE (wordsOf f) h16]
     exact⟨k+1,by omega,by go_num,B0.za5 (by simp) _,q,kc.setCell (by simp) _⟩
    case measure=>simp[intOf];omega
   ·have hk1:16≤k:=by omega
    have c15:=(A1.cell (k - 15)).trans (zee _ (by omega) (by omega))
    have c2:=(A1.cell (k - 2)).trans (zee _ (by omega) (by omega))
    have c16:=(A1.cell (k - 16)).trans (zee _ (by omega) (by omega))
    have c7:=(A1.cell (k - 7)).trans (zee _ (by omega) (by omega))
    have t15:((k:Int) - 15).toNat=k - 15:=by omega
    have t2:((k:Int) - 2).toNat=k - 2:=by omega
    have t16:((k:Int) - 16).toNat=k - 16:=by omega
    have t7:((k:Int) - 7).toNat=k - 7:=by omega
    have o15:0≤(k:Int) - 15:=by omega
    have o2:0≤(k:Int) - 2:=by omega
    have o16:0≤(k:Int) - 16:=by omega
    have o7:0≤(k:Int) - 7:=by omega
    have p15:(k:Int) - 15<64:=by omega
    have p2:(k:Int) - 2<64:=by omega
    have p16:(k:Int) - 16<64:=by omega
    have p7:(k:Int) - 7<64:=by omega
    have ck:=A1.cell k
    rw[zkE _ _ hlt,if_neg (by omega)]at ck
    have zk:=A1.frozen k
    have r15:=zdS (wd (wordsOf f) (k - 15))
    have r2:=zdS (wd (wordsOf f) (k - 2))
    go_wp2_with fail
    refine(RefS.zc5 _ 7 7 (by omega) rfl _).mono ?_
    rintro e w' ⟨rfl,rfl⟩
    go_wp2_with fail
    refine(RefS.zc5 _ 18 18 (by omega) rfl _).mono ?_
    rintro e w' ⟨rfl,rfl⟩
    go_wp2_with fail
    refine(twistI _ _ (u (wd (wordsOf f) (k - 15)) / 8) _ (shr3 (wd (wordsOf f) (k - 15))) _).mono ?_
    rintro e w' ⟨rfl,rfl⟩
    go_wp2_with fail
    refine(RefS.zc5 _ 17 17 (by omega) rfl _).mono ?_
    rintro e w' ⟨rfl,rfl⟩
    go_wp2_with fail
    refine(RefS.zc5 _ 19 19 (by omega) rfl _).mono ?_
    rintro e w' ⟨rfl,rfl⟩
    go_wp2_with fail
    refine(twistI _ _ (u (wd (wordsOf f) (k - 2)) / 1024) _ (shr10 (wd (wordsOf f) (k - 2))) _).mono ?_
    rintro e w' ⟨rfl,rfl⟩
    go_wp2_with fail
    go_region
    go_wp2
    go_roundw
    case rel=>
     have q:=A1.set k (.int .u32 (u (wd (wordsOf f) k)))
     rw[zls _ hlt,zkv _ hk1,←wd_sum']at q
     exact⟨k+1,by omega,by go_num,At.drew (A0.za5 (by simp) _),At.drew q,zaf (kb.setCell (by simp) _)⟩
    case measure=>simp[intOf];omega
  ·have e64:k=64:=by omega
   rw[e64]at A1
   clear e64
   go_wp2_with (first|(refine zal rfl 191 _ rfl _ rfl _ _ A1 Tryz.underlying191 rfl ?c2 ?_;(case c2=>rw[zcm];exact zfd))|(refine za2 rfl 191 _ _ rfl _ _ rfl rfl _ A0 ?c2 ?c3 ?c4 ?_;(case c2=>rw[zcm];exact zfd);(case c3=>rw[zcm,zcm]);(case c4=>exact zjK _ _)))
   exact bodyPost_ret (v:=.agg (sp (wordsOf f) 64)) (results_at Tryz.results196 _ _ w.heap.size _ _ rfl (A0.row _) Tryz.underlying191 rfl (by rw[zcm];exact zfd)) rfl ⟨rfl,zbl kb (Nat.le_refl _) _⟩
end Go.Proofs.YtgmdhaepiclkcaaGreatDoor.RefT
