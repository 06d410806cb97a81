/- What ops.gets and its functions, and ops.Get, return | What ops.Get returns | The project's reader of package commit | What the project's place, merge, event, May, Merge and Same of package | What the project's reader of package commit returns, or panics with, a | What sha.Block returns | What sha.Pad returns | What sha.join returns -/
import Derived.Test.YtgmdhaepiclkcaaGreatDoorForksJ5
import Derived.Test.YtgmdhaepiclkcaaGreatDoorGrowJ9
import Derived.Test.YtgmdhaepiclkcaaGreatDoorShaDJ13
import Derived.WalkLawsBesides
import Derived.Laws.CopyRow
import Derived.Test.YtgmdhaepiclkcaaGreatDoorIdVJ2
import Derived.Test.YtgmdhaepiclkcaaGreatDoorOpsCJ2
import Derived.BigRegion
import Derived.Test.YtgmdhaepiclkcaaGreatDoorRotMJ9
import Derived.IntWalk
namespace Go.Proofs.YtgmdhaepiclkcaaGreatDoor.OpsG
set_option maxRecDepth 100000
open Go Go.RowKit Go.Sort Byt OpsM OpsK OpsW OpsC EncM EncC EncG EncE
def GOut (q:Option (Opn×List Int)) (w:World) (e:Ending) (w':World):Prop:=
 Below w.heap.size w w'∧match q with
  |none=>∃o A n c,e=.returned (.tuple #[.agg (opc o),.slice A n c,.bool false])
  |some (o,r)=>∃A c,e=.returned (.tuple #[.agg (opc o),.slice A r.length c,.bool true])∧Sl w' A c r
theorem GOut.some {w w':World} {e:Ending} {o:Opn} {r:List Int} (A:Option Addr) (c:Nat) (h:e=.returned (.tuple #[.agg (opc o),.slice A r.length c,.bool true])) (hS:Sl w' A c r) (hb:Below w.heap.size w w'):GOut (some (o,r)) w e w':=⟨hb,A,c,h,hS⟩
end Go.Proofs.YtgmdhaepiclkcaaGreatDoor.OpsG
namespace Go.Proofs.YtgmdhaepiclkcaaGreatDoor.OpsH
set_option maxRecDepth 100000
open Go Go.RowKit Go.Sort Byt OpsM OpsK OpsW OpsC EncM EncC EncG EncE OpsG
def zkt (q:Option (Opn×List Int)) (w:World) (e:Ending) (w':World):Prop:=
 Below w.heap.size w w'∧match q with
  |none=>e=.returned (.tuple #[.agg (opc noOp),.slice none 0 0,.int .i64 2])
  |some (o,r)=>∃A c,e=.returned (.tuple #[.agg (opc o),.slice A r.length c,.int .i64 0])∧Sl w' A c r
theorem zkt.some {q:Option (Opn×List Int)} {w w':World} {e:Ending} {o:Opn} {r:List Int} (hq:q=some (o,r)) (A:Option Addr) (c:Nat) (h:e=.returned (.tuple #[.agg (opc o),.slice A r.length c,.int .i64 0])) (hS:Sl w' A c r) (hb:Below w.heap.size w w'):zkt q w e w':=by subst hq;exact⟨hb,A,c,h,hS⟩
end Go.Proofs.YtgmdhaepiclkcaaGreatDoor.OpsH
namespace Go.Proofs.YtgmdhaepiclkcaaGreatDoor.CmE
set_option maxRecDepth 100000
open Go Go.Sort Go.RowKit Byt EncM EncC IdM IdW IdB OpsM OpsW CmM StW CmW CmD CmG
structure Pd where
 a:Option Addr
 k:Nat
 l:List Int
end Go.Proofs.YtgmdhaepiclkcaaGreatDoor.CmE
namespace Go.Proofs.YtgmdhaepiclkcaaGreatDoor.CmV
set_option maxHeartbeats 8000000
set_option maxRecDepth 100000
open Go Go.RowKit Byt IdM IdW OpsM OpsW CmM StW CmW
def zgR (b:Bool) (w:World) (e:Ending) (w':World):Prop:=e=.returned (.bool b)∧Below w.heap.size w w'
theorem zce (n s:Int) (w:World):Calls Tryz.prog 153 #[.agg #[.int .i64 n,.int .i64 s]] w (zgR (StM.zbs n s) w):=by
 have R:Cel.Box EE (w.alloc (.cells (ec ⟨n,s⟩) 43)) w.heap.size (⟨n,s⟩:Ev):=Cel.Box.new w (⟨n,s⟩:Ev) _
 have kb:=StW.zah w (.cells (ec ⟨n,s⟩) 43)
 obtain⟨c0,c1⟩:=zfZ R
 clear R
 obtain⟨r,hr⟩:∃r,StM.zbs n s=r:=⟨_,rfl⟩
 have hn:r=StM.zbs n s:=hr.symm
 rw[hr]
 unfold StM.zbs at hn
 clear hr
 have HN:=aside hn
 clear hn
 have hw:¬0≤n∨(0≤n∧(¬n<8∨(n<8∧(¬1≤s∨(1≤s∧(¬s≤1048576∨s≤1048576)))))):=by omega
 rcases hw with p2|⟨p2,p3|⟨p3,p4|⟨p4,p5|p5⟩⟩⟩
 all_goals
  go_enter Tryz.func153,Tryz.ntmps153
  go_wp2
  go_ret
  exact⟨StW.zae (by rw[HN.out];simp;omega),kb⟩
theorem zfD (v:Cv) (w:World):Calls Tryz.prog 123 #[.agg (cc v)] w (zgR (zcH v.c) w):=by
 have R:Cel.Box CE (w.alloc (.cells (cc v) 47)) w.heap.size v:=Cel.Box.new w v _
 have kb:=StW.zah w (.cells (cc v) 47)
 have qe:=fun W=>zf0 9998 W v.c.node v.c.seq (-1) 0
 have qo:=fun W=>zgD W v.c.op
 have d3:=zaP R
 obtain⟨x,hx⟩:∃x,zpW v.c.node v.c.seq (-1) 0=x:=⟨_,rfl⟩
 obtain⟨z,hz⟩:∃z,zd0 v.c.op=z:=⟨_,rfl⟩
 obtain⟨n,hn⟩:∃n,v.c.ps.length=n:=⟨_,rfl⟩
 have HR:Hid (zcH v.c=(x&&(z&&decide (2≤(n:Int))))):=aside (by
  unfold zcH
  rw[hz,hn,←hx]
  unfold zpW
  rw[show decide (2≤(n:Int))=decide (2≤n) by rw[Bool.eq_iff_iff];simp;omega]
  simp only[Bool.and_assoc])
 rw[hx]at qe
 rw[hz]at qo
 rw[hn]at d3
 clear hx hz hn
 have hxz:x=false∨x=true∧z=false∨x=true∧z=true:=by cases x <;> cases z <;> simp
 unfold zgR
 rcases hxz with rfl|⟨rfl,rfl⟩|⟨rfl,rfl⟩
 all_goals
  go_enter Tryz.func123,Tryz.ntmps123
  go_wp2_with (first|go_skip|(refine gkev _ rfl _ rfl v R rfl ?_)|(refine gkop _ rfl _ rfl v R rfl ?_))
  go_ret
  exact⟨StW.zae (by rw[HR.out];rfl),kb⟩
theorem line_is {c:Com} {n:Nat} {r x y:Bool} (hn:c.ps.length=n) (hr:zaN c.ps=r) (hx:(c.gen == 1)=x) (hy:((n:Int) == 0)=y):
  zeE c=(decide (1≤c.gen)&&(decide (c.gen≤1048576)&&(decide ((n:Int)≤8)&&(r&&(x == y))))):=by
 subst hn hr hx hy
 unfold zeE
 rw[show decide ((c.ps.length:Int)≤8)=decide (c.ps.length≤8) by rw[Bool.eq_iff_iff];simp;omega,show((c.ps.length:Int) == 0)=decide (c.ps.length=0) by rw[Bool.eq_iff_iff];simp]
 rfl
theorem zjQ (v:Cv) (w:World) (S:In w v):Calls Tryz.prog 135 #[.agg (cc v)] w (zgR (zeE v.c) w):=by
 have R:Cel.Box CE (w.alloc (.cells (cc v) 47)) w.heap.size v:=Cel.Box.new w v _
 have kb:=StW.zah w (.cells (cc v) 47)
 have S0:=S.below kb
 have q0:=fun W T=>IdV.znK v.a v.k v.c.ps W T
 obtain⟨r,hr⟩:∃r,zaN v.c.ps=r:=⟨_,rfl⟩
 obtain⟨n,hn⟩:∃n,v.c.ps.length=n:=⟨_,rfl⟩
 obtain⟨x,hx⟩:∃x,(v.c.gen == 1)=x:=⟨_,rfl⟩
 obtain⟨y,hy⟩:∃y,((n:Int) == 0)=y:=⟨_,rfl⟩
 have HR:=aside (line_is hn hr hx hy)
 have HN:=aside hn
 have d1:=za1 R
 have d3:=zaP R
 rw[hn]at d3 q0
 rw[hr]at q0
 obtain⟨g,hg⟩:∃g,v.c.gen=g:=⟨_,rfl⟩
 have HG:=aside hg
 rw[hg]at d1 hx HR
 clear hr S hn hg
 unfold zgR
 have hw:g<1∨(1≤g∧(1048576<g∨(g≤1048576∧(8<(n:Int)∨(n:Int)≤8)))):=by omega
 rcases hw with p|⟨p1,p|⟨p2,p|p⟩⟩
 case inr.inr.inr=>
  go_enter Tryz.func135,Tryz.ntmps135
  go_wp2_with (first|go_skip)
  refine(q0 _ S0).mono ?_
  rintro e w1 ⟨rfl,k1⟩
  have R1:=R.below k1
  have b1:=kb.trans (k1.mono kb.size)
  clear q0 d1 d3 R S0 k1 kb
  have d1:=za1 R1
  have d3:=zaP R1
  rw[HN.out]at d3
  rw[HG.out]at d1
  have hw:r=false∨r=true∧x=false∧y=false∨r=true∧x=false∧y=true∨r=true∧x=true∧y=false∨r=true∧x=true∧y=true:=by cases r <;> cases x <;> cases y <;> simp
  rcases hw with rfl|⟨rfl,rfl,rfl⟩|⟨rfl,rfl,rfl⟩|⟨rfl,rfl,rfl⟩|⟨rfl,rfl,rfl⟩
  all_goals
   go_wp2_with (first|go_skip)
   go_ret
   exact⟨StW.zae (by rw[HR.out];simp;try omega),b1⟩
 all_goals
  go_enter Tryz.func135,Tryz.ntmps135
  go_wp2_with (first|go_skip)
  go_ret
  exact⟨StW.zae (by rw[HR.out];simp;omega),kb⟩
theorem zaz (v:Cv) (w:World) (S:In w v) (hf:Fit v.c):Calls Tryz.prog 120 #[.agg (cc v)] w (zgR (zbn v.c) w):=by
 have R:Cel.Box CE (w.alloc (.cells (cc v) 47)) w.heap.size v:=Cel.Box.new w v _
 have kb:=StW.zah w (.cells (cc v) 47)
 have S0:=S.below kb
 have q1:=fun W T=>zjQ v W T
 have q2:=fun W=>zfD v W
 have q3:=fun W=>zce v.c.node v.c.seq W
 have q4:=fun W=>OpsC.may v.c.op W hf.op
 obtain⟨z1,h1⟩:∃z,zeE v.c=z:=⟨_,rfl⟩
 obtain⟨z2,h2⟩:∃z,zcH v.c=z:=⟨_,rfl⟩
 obtain⟨z3,h3⟩:∃z,StM.zbs v.c.node v.c.seq=z:=⟨_,rfl⟩
 obtain⟨z4,h4⟩:∃z,zda v.c.op=z:=⟨_,rfl⟩
 have HR:Hid (zbn v.c=(z1&&(z2||(z3&&z4)))):=aside (by unfold zbn;rw[h1,h2,h3,h4])
 rw[h1]at q1
 rw[h2]at q2
 rw[h3]at q3
 rw[h4]at q4
 clear h1 h2 h3 h4 S hf
 unfold zgR at q1 q2 q3 ⊢
 go_enter Tryz.func120,Tryz.ntmps120
 go_wp2_with (first|go_skip|(refine zbW _ rfl _ rfl v R rfl ?_))
 refine(q1 _ S0).mono ?_
 rintro e w1 ⟨rfl,k1⟩
 have R1:=R.below k1
 have b1:=kb.trans (k1.mono kb.size)
 clear q1 R S0 k1 kb
 cases z1 with
 |false=>
  go_wp2_with (first|go_skip)
  go_ret
  exact⟨StW.zae (by rw[HR.out];rfl),b1⟩
 |true=>
  go_wp2_with (first|go_skip|(refine zbW _ rfl _ rfl v R1 rfl ?_))
  refine(q2 _).mono ?_
  rintro e w2 ⟨rfl,k2⟩
  have R2:=R1.below k2
  have b2:=b1.trans (k2.mono b1.size)
  clear q2 R1 k2 b1
  cases z2 with
  |true=>
   go_wp2_with (first|go_skip)
   go_ret
   exact⟨StW.zae (by rw[HR.out];rfl),b2⟩
  |false=>
   go_wp2_with (first|go_skip|(refine gkev _ rfl _ rfl v R2 rfl ?_))
   refine(q3 _).mono ?_
   rintro e w3 ⟨rfl,k3⟩
   have R3:=R2.below k3
   have b3:=b2.trans (k3.mono b2.size)
   clear q3 R2 k3 b2
   cases z3 with
   |false=>
    go_wp2_with (first|go_skip)
    go_ret
    exact⟨StW.zae (by rw[HR.out];rfl),b3⟩
   |true=>
    go_wp2_with (first|go_skip|(refine gkop _ rfl _ rfl v R3 rfl ?_))
    refine(q4 _).mono ?_
    rintro e w4 ⟨rfl,k4⟩
    have b4:=b3.trans (k4.mono b3.size)
    go_wp2_with (first|go_skip)
    go_ret
    exact⟨StW.zae (by rw[HR.out];rfl),b4⟩
theorem zaW (v:Cv) (w:World) (S:In w v):Calls Tryz.prog 89 #[.agg (cc v)] w (zgR (isM v.c) w):=by
 have R:Cel.Box CE (w.alloc (.cells (cc v) 47)) w.heap.size v:=Cel.Box.new w v _
 have kb:=StW.zah w (.cells (cc v) 47)
 have S0:=S.below kb
 have q1:=fun W T=>zjQ v W T
 have q2:=fun W=>zfD v W
 have hm:isM v.c=(zeE v.c&&zcH v.c):=by rw[Bool.eq_iff_iff,zjm,Bool.and_eq_true]
 obtain⟨z1,h1⟩:∃z,zeE v.c=z:=⟨_,rfl⟩
 obtain⟨z2,h2⟩:∃z,zcH v.c=z:=⟨_,rfl⟩
 rw[h1,h2]at hm
 have HR:=aside hm
 rw[h1]at q1
 rw[h2]at q2
 clear h1 h2 S hm
 unfold zgR at q1 q2 ⊢
 go_enter Tryz.func89,Tryz.ntmps89
 go_wp2_with (first|go_skip|(refine zbW _ rfl _ rfl v R rfl ?_))
 refine(q1 _ S0).mono ?_
 rintro e w1 ⟨rfl,k1⟩
 have R1:=R.below k1
 have b1:=kb.trans (k1.mono kb.size)
 clear q1 R S0 k1 kb
 cases z1 with
 |false=>
  go_wp2_with (first|go_skip)
  go_ret
  exact⟨StW.zae (by rw[HR.out];rfl),b1⟩
 |true=>
  go_wp2_with (first|go_skip|(refine zbW _ rfl _ rfl v R1 rfl ?_))
  refine(q2 _).mono ?_
  rintro e w2 ⟨rfl,k2⟩
  have b2:=b1.trans (k2.mono b1.size)
  go_wp2_with (first|go_skip)
  go_ret
  exact⟨StW.zae (by rw[HR.out];rfl),b2⟩
end Go.Proofs.YtgmdhaepiclkcaaGreatDoor.CmV
namespace Go.Proofs.YtgmdhaepiclkcaaGreatDoor.CmF
set_option maxRecDepth 100000
open Go Go.Sort Go.RowKit Byt EncM EncC IdM IdW IdB OpsM OpsW CmM StW CmW CmD CmG CmQ CmE
theorem zjN {fn:Func} {p:Tmp} (h:fn.results= #[.cell p 47]) (tmps:Array Value) (w:World) (g:Nat) (v:Cv)
  (hp:tmps.getD p undef=.pointer (some ⟨g,0,none⟩)) (hg:Cel.Box CE w g v):(results fn tmps).run Tryz.prog w=.ok (.agg (cc v)) w:=by
 obtain⟨t,ht⟩:=hg
 have hp':tmps[p]?.getD undef=.pointer (some ⟨g,0,none⟩):=by simpa using hp
 have hl:=run_loadVar_row w g t 47 (CE.enc v).toArray (0,0) _ ht CE.under CE.row (CE.size' v)
 simp[results,h,hp',asAddr,hl]
 rfl
structure Inv (na nb ng:Int) (l4:List Int) (k:Nat) (rd:Pd) (cv:Cv):Prop where
 com:cv.c=⟨na,nb,ng,cv.c.ps,noO⟩
 nil:(Value.slice cv.a cv.c.ps.length cv.k=.slice none 0 0)∨0<cv.c.ps.length
 ids:idsL k l4=some (cv.c.ps,rd.l)
theorem Inv.length {na nb ng:Int} {l4:List Int} {k:Nat} {rd:Pd} {cv:Cv} (h:Inv na nb ng l4 k rd cv):cv.c.ps.length=k∧rd.l.length≤l4.length:=by
 obtain⟨l1,l2⟩:=idsL_len k h.ids
 exact⟨l1,by omega⟩
end Go.Proofs.YtgmdhaepiclkcaaGreatDoor.CmF
namespace Go.Proofs.YtgmdhaepiclkcaaGreatDoor.ShaE
set_option maxHeartbeats 1000000
set_option maxRecDepth 100000
open Go.RowKit RotM RotN RotC RotD ShaM ShaC ShaD RotG Small
def KIn (w:World):Prop:=∀i,i<64→w.cell? ⟨0,i,none⟩=some (.int .u32 (u (kc i)))
theorem KIn.lt {w:World} (h:KIn w): 0<w.heap.size:=block_lt_of_cell (h 0 (by omega))
theorem KIn.below {w w':World} (h:KIn w) (hb:Below w.heap.size w w'):KIn w':=fun i hi=>(hb.cell h.lt).trans (h i hi)
theorem zpq (h:H8):h.vals.all (·.oneCell')=true:=by kernel_rfl
theorem zel:(Tryz.prog.info? 162).map (·.size)=some 8:=by kernel_rfl
theorem zfd:(Tryz.prog.info? 191).map (·.size)=some 64:=by kernel_rfl
def z8:H8:=⟨0,0,0,0,0,0,0,0⟩
theorem stepI (h:H8) (n:Int) (x:BitVec 32) (hn:n=u x) (w:World):
  Calls Tryz.prog 158 #[.agg h.vals,.int .u32 n] w fun r w'=>r=.returned (.agg (rnd h x).vals)∧Below w.heap.size w w':=by
 subst hn
 exact ShaC.step h x w
def inW (m:Nat→BitVec 32) (k:Nat):BitVec 32:=kc k+wd m k
theorem zld (h v:H8) (b off cap:Nat) (f:Nat→Int) (hf:∀i,B (f i)) (hcap:64≤cap) (w:World) (hc:∀i,i<64→w.cell? ⟨b,off+i,none⟩=some (.int .u8 (f i))) (hK:KIn w) (hv:Hid (rnds h (inW (wordsOf f)) 64=v)):
  Calls Tryz.prog 127 #[.agg h.vals,.slice (some ⟨b,off,none⟩) 64 cap] w fun e w'=>e=.returned (.tuple #[.agg (h.add v).vals,.bool true])∧Below w.heap.size w w':=by
 have hb:b<w.heap.size:=block_lt_of_cell (hc 0 (by omega))
 have HC:=RotF.aside hc
 have HF:=RotF.aside hf
 clear hc hf
 go_enter Tryz.func127,Tryz.ntmps127
 go_wp2_with fail
 refine(spread b off cap f HF.out hcap _ (fun i hi=>(Below.cell (B:=w.heap.size) (w:=w) (by go_grown) hb).trans (HC.out i hi))).mono ?_
 rintro e w1 ⟨rfl,h1⟩
 have A2:=(At.old2 w h.vals 162 _).below h1 (by simp;omega)
 have A4:=(At.new2 w z8.vals 162 _).below h1 (by simp)
 have kb:Below w.heap.size w w1:=Below.trans (by go_grown) (h1.mono (by simp;omega))
 clear h1
 go_wp2_with (first|(refine zaC rfl 191 _ _ rfl _ _ _ 191 rfl _ rfl ?c1 rfl ?c2 ?c3 ?c4 ?_;(case c1=>simp);(case c2=>rw[zcm];exact zfd);(case c3=>rw[zcm];rfl);(case c4=>exact zjK _ _))|(refine zal rfl 162 _ rfl _ rfl h.vals _ ?c1 Tryz.underlying162 rfl ?c2 ?_;(case c1=>exact(A2.alloc _));(case c2=>exact zel))|(refine zaC rfl 162 _ _ rfl _ _ _ 162 rfl _ rfl ?c1 rfl ?c2 ?c3 ?c4 ?_;(case c1=>simp);(case c2=>exact zel);(case c3=>rfl);(case c4=>exact zpq _)))
 have hz:=A4.lt
 have n2:w.heap.size≠w1.heap.size:=by omega
 go_loopw [17] (fun i wr=>∃k:Nat,k≤64∧i=.int .i64 k∧At wr w.heap.size h.vals∧At wr (w.heap.size+1) z8.vals∧At wr w1.heap.size (sp (wordsOf f) 64)∧At wr (w1.heap.size+1) (rnds h (inW (wordsOf f)) k).vals∧Below w.heap.size w wr) (fun i _=>64 - (intOf i).toNat)
 case atStart=>exact⟨0,Nat.zero_le _,rfl,(A2.alloc _).alloc _,(A4.alloc _).alloc _,At.old2 _ _ _ _,At.new2 _ _ _ _,(kb.alloc kb.size _).alloc (by have:=kb.size;simp;omega) _⟩
 case round=>
  clear A2 A4 kb
  obtain⟨k,hk,rfl,A2,A4,A6,A7,kb⟩:=hrel
  by_cases hlt:k<64
  ·go_wp2
   refine wp_region_still_tail 8 (by kernel_rfl) (by kernel_rfl) ?_
   simp only[List.take_succ_cons,List.take_zero,List.drop_succ_cons,List.drop_zero]
   obtain⟨W,hW⟩:∃W:World,W=wr.drew:=⟨_,rfl⟩
   change wpStill _ _ wr.drew (fun a'=>wpList _ _ _ _ a' wr.drew) _ _
   rw[←hW]
   have C2:At W w.heap.size h.vals:=by rw[hW];exact A2
   have C4:At W (w.heap.size+1) z8.vals:=by rw[hW];exact A4
   have C6:At W w1.heap.size (sp (wordsOf f) 64):=by rw[hW];exact A6
   have C7:At W (w1.heap.size+1) (rnds h (inW (wordsOf f)) k).vals:=by rw[hW];exact A7
   have kc':Below w.heap.size w W:=by rw[hW];exact zaf kb
   clear hW A2 A4 A6 A7 kb
   have cw:=(C6.cell k).trans (zee _ hlt (by omega))
   have cK:=(kc'.cell (p:=⟨0,k,none⟩) hK.lt).trans (hK k hlt)
   refine zhk rfl 162 _ rfl _ rfl _ _ C7 Tryz.underlying162 rfl zel ?_
   repeat still_step
   refine wpStill_nil ?_
   go_wp2_with fail
   refine(stepI _ _ (inW (wordsOf f) k) (by rw[add_u];rfl) _).mono ?_
   rintro e w2 ⟨rfl,h2⟩
   have D2:=C2.below h2 C2.lt
   have D4:=C4.below h2 C4.lt
   have D6:=C6.below h2 C6.lt
   have D7:=C7.below h2 C7.lt
   have kd:=kc'.trans (h2.mono kc'.size)
   clear C2 C4 C6 C7 kc' h2 cw cK
   go_wp2_with (refine za2 rfl 162 _ _ rfl _ _ rfl rfl _ D7 ?c2 ?c3 ?c4 ?_;(case c2=>exact zel);(case c3=>rfl);(case c4=>exact zpq _))
   go_roundw
   case rel=>exact⟨k+1,by omega,by go_num,D2.zc3 (by omega) _,D4.zc3 (by omega) _,D6.zc3 (by omega) _,D7.row _,zbl kd (by omega) _⟩
   case measure=>simp[intOf];omega
  ·have e64:k=64:=by omega
   rw[e64,hv.out]at A7
   clear e64
   have d64:decide ((k:Int)<64)=false:=by simp;omega
   go_wp2
   go_loopw [30] (fun i wr=>∃k:Nat,k≤8∧i=.int .i64 k∧At wr w.heap.size (h.part v k).vals∧At wr (w.heap.size+1) z8.vals∧At wr (w1.heap.size+1) v.vals∧Below w.heap.size w wr) (fun i _=>8 - (intOf i).toNat)
   case atStart=>exact⟨0,Nat.zero_le _,rfl,by rw[H8.zjR];exact A2,A4,A7,kb⟩
   case round=>
    clear A2 A4 A6 A7 kb hlt hk
    obtain⟨i,hi,rfl,A2,A4,A7,kb⟩:=hrel
    by_cases hlt:i<8
    ·have c2:=(A2.cell i).trans (H8.zhq _ hlt)
     rw[H8.part_w _ _ hlt]at c2
     have z2:=A2.frozen i
     have c7:=(A7.cell i).trans (H8.zhq _ hlt)
     go_wp2
     go_region
     go_wp2
     go_roundw
     case rel=>
      have q:=A2.set i (.int .u32 (u (h.w i+v.w i)))
      rw[H8.zlE _ _ hlt,←add_u]at q
      exact⟨i+1,by omega,by go_num,At.drew q,At.drew (A4.za5 (by simp) _),At.drew (A7.za5 (by simp;omega) _),zaf (kb.setCell (by simp) _)⟩
     case measure=>simp[intOf];omega
    ·have e8:i=8:=by omega
     rw[e8,H8.zlF]at A2
     clear e8
     go_wp2_with (first|(refine zal rfl 162 _ rfl _ rfl _ _ A2 Tryz.underlying162 rfl ?c2 ?_;(case c2=>exact zel))|(refine za2 rfl 162 _ _ rfl _ _ rfl rfl _ A4 ?c2 ?c3 ?c4 ?_;(case c2=>exact zel);(case c3=>rfl);(case c4=>exact zpq _)))
     exact bodyPost_ret (v:=.tuple #[.agg (h.add v).vals,.bool true]) (zfa Tryz.results127 _ _ (w.heap.size+1) _ _ _ rfl rfl (A4.row _) Tryz.underlying162 rfl zel) rfl ⟨rfl,zbl kb (by omega) _⟩
theorem zh6 (h:H8) (b off cap:Nat) (f:Nat→Int) (hf:∀i,B (f i)) (hcap:64≤cap) (w:World) (hc:∀i,i<64→w.cell? ⟨b,off+i,none⟩=some (.int .u8 (f i))) (hK:KIn w):
  Calls Tryz.prog 127 #[.agg h.vals,.slice (some ⟨b,off,none⟩) 64 cap] w fun e w'=>e=.returned (.tuple #[.agg (zdO h (wordsOf f)).vals,.bool true])∧Below w.heap.size w w':=
 zld h _ b off cap f hf hcap w hc hK (RotF.aside rfl)
end Go.Proofs.YtgmdhaepiclkcaaGreatDoor.ShaE
namespace Go.Proofs.YtgmdhaepiclkcaaGreatDoor.ShaF
set_option maxHeartbeats 1000000
set_option maxRecDepth 100000
open Go.RowKit RotM RotN RotC RotD ShaM ShaC RotG Small PadM
theorem zhU:(Tryz.prog.info? 5).map (·.size)=some 1:=by kernel_rfl
theorem zaR:(Tryz.prog.info? 5).map (fun i=>(i.zero,i.size,i.bytes))=some (some (.int .u8 0),1,1):=by kernel_rfl
theorem info_8b:(Tryz.prog.info? 189).map (·.size)=some 8:=by kernel_rfl
theorem zn9 (a:Int):(zj2 a).all (·.oneCell')=true:=by kernel_rfl
def Fresh (l:List Int) (w:World) (e:Ending) (w':World):Prop:=
 ∃g,e=.returned (.slice (some ⟨g,0,none⟩) l.length l.length)∧w.heap.size≤g∧At w' g (bv l).toArray∧Below w.heap.size w w'
theorem src_at {w:World} {A:Option Addr} {len cap:Nat} {zs:List Int} (h:RowIn.zpv .u8 w A len cap zs):0<(bv (zs.take len)).length→∃ad,A=some ad∧∀j v,(bv (zs.take len))[j]?=some v→w.cell? (ad.add j)=some v:=by
 intro hp
 obtain⟨h1,h2,h3,h4,h5⟩:=h
 rcases h5 with⟨_,h0,_⟩|⟨x,rfl,hc⟩
 ·simp[bv,h0]at hp
 ·refine⟨x,rfl,fun j v hv=>?_⟩
  have hj:j<(zs.take len).length:=by
   have:=(List.getElem?_eq_some_iff.1 hv).1
   simpa[bv]using this
  have hj2:j<len∧j<zs.length:=by simp at hj;omega
  rw[zcA _ hj]at hv
  rw[hc j hj2.2,←hv]
  congr 2
  rw[List.getD_eq_getElem?_getD,List.getD_eq_getElem?_getD,List.getElem?_take,if_pos hj2.1]
theorem long_src {w:World} {g:Nat} {a:Int} (h:At w g (zj2 a)) (j:Nat) (v:Value) (hv:(bv (zj3 a))[j]?=some v):w.cell? ((⟨g,0,none⟩:Addr).add j)=some v:=by
 have hadd:(⟨g,0,none⟩:Addr).add j=⟨g,j,none⟩:=by unfold Addr.add;split <;> simp_all
 rw[hadd,h.cell j,←hv,bv_long8]
 simp
theorem padW {w:World} {A:Option Addr} {len cap:Nat} {zs:List Int} (hr:RowIn.zpv .u8 w A len cap zs) (hl:len≤1099511627776):
  Calls Tryz.prog 125 #[.slice A len cap] w (Fresh (zif (zs.take len)) w):=by
 obtain⟨bs,hbs⟩:∃bs,zs.take len=bs:=⟨_,rfl⟩
 have hlen:bs.length=len:=by
  have h1:=hr.1
  have h3:=hr.2.2.1
  rw[←hbs];simp;omega
 have hsrc:=src_at (hr.below ((Below.refl _ _).alloc (Nat.le_refl _) (.cells (List.replicate (zgM len) (.int .u8 0)).toArray 5)))
 rw[hbs]at hsrc
 rw[hbs]
 have hn1:=zkR len
 have hn2:=zjb len
 have hN:((len:Int)+9+64 - 1) / 64 * 64=(zgM len:Nat):=by unfold zgM;omega
 have HN:=RotF.aside hN
 have HL:=RotF.aside hlen
 have HS:=RotF.aside hsrc
 clear hN hbs hlen hsrc
 obtain⟨N,hNN⟩:∃N,zgM len=N:=⟨_,rfl⟩
 have HNN:=RotF.aside hNN
 rw[hNN]at hn1 hn2 HN HS
 clear hNN
 go_enter Tryz.func125,Tryz.ntmps125
 go_wp2_with (first|(refine ze8 rfl 114 _ _ rfl 5 (.int .u8 0) Tryz.underlying114 zaR rfl _ rfl rfl N ?c1 ?c2 ?_;(case c1=>exact HN.out);(case c2=>omega))|(refine wpList_copy_splice rfl _ _ 114 114 rfl 5 Tryz.underlying114 zhU _ _ _ _ _ _ rfl rfl w.heap.size 0 (List.replicate N (.int .u8 0)) 5 ?c1 (bv bs) ?c2 ?c3 ?c4 (zeh bs) w.heap.size w ?c5 (Nat.le_refl _) ?_;(case c1=>exact heap_alloc_new _ _);(case c2=>rw[zav,HL.out];exact(Nat.min_eq_left (by omega)).symm);(case c3=>exact fun hp=>⟨rfl,HS.out hp⟩);(case c4=>rw[zav,HL.out];simp;omega);(case c5=>exact(Below.refl _ _).alloc (Nat.le_refl _) _);intro w2 HG2 hB2;have A2:At w2 w.heap.size (bv (bs++List.replicate (N - bs.length) 0)).toArray:=(⟨_,by rw[←lay1];exact HG2.out⟩:At _ _ _);clear HG2;have z2:=A2.frozen len;have c2:w2.cell? ⟨w.heap.size,len,none⟩=some (.int .u8 0):=(A2.cell len).trans (by rw[←HL.out];exact lay1_at _ _ (by have:=HL.out;omega))))
 refine(long _ ?_ _).mono ?_
 ·omega
 rintro e w3 ⟨rfl,h3⟩
 have A3:At w3 w.heap.size (bv (bs++(128::List.replicate (N - len - 1) 0))).toArray:=by
  have q:=A2.set len (.int .u8 128)
  rw[←HL.out,lay2 _ _ (by have:=HL.out;omega),HL.out]at q
  exact q.below h3 q.lt
 have hB3:Below w.heap.size w w3:=(hB2.setCell (by simp) _).trans (h3.mono (by have:=hB2.size;simpa using this))
 clear A2 z2 c2 hB2 h3
 go_wp2_with (refine zaC rfl 189 _ _ rfl _ _ _ 189 rfl _ rfl ?c1 rfl ?c2 ?c3 ?c4 ?_;(case c1=>simp);(case c2=>exact info_8b);(case c3=>rfl);(case c4=>exact zn9 _))
 have l3:=A3.lt
 refine wp_region_still_tail 6 (by kernel_rfl) (by kernel_rfl) ?_
 simp only[List.take_succ_cons,List.take_zero,List.drop_succ_cons,List.drop_zero]
 change wpStill _ _ (World.drew _) (fun a'=>wpList _ _ _ _ a' (World.drew _)) _ _
 obtain⟨W,hW⟩:∃W:World,W=(w3.alloc (.cells (zj2 (8 * (len:Int))) 189)).drew:=⟨_,rfl⟩
 rw[←hW]
 have C4:At W w.heap.size (bv (bs++(128::List.replicate (N - len - 1) 0))).toArray:=by rw[hW];exact(A3.alloc _).drew
 have C5:At W w3.heap.size (zj2 (8 * (len:Int))):=by rw[hW];exact(At.new _ _ _).drew
 have hBW:Below w.heap.size w W:=by rw[hW];exact zaf (hB3.alloc hB3.size _)
 clear hW A3 hB3
 have m1:IntKind.i64.wrap ((N:Int) - 8)=(N:Int) - 8:=IntWalk.i64_in _ (by omega)
 have m2:0≤(N:Int) - 8:=by omega
 have m3:((N:Int) - 8).toNat=N - 8:=by omega
 have m4:(N:Int) - 8≤(N:Int):=by omega
 have m5:¬N=N - 8:=by omega
 have m6:¬N - 8=N:=by omega
 have m7:(8:Int)≤(N:Int):=by omega
 have m8:N - (N - 8)=8:=by omega
 repeat still_step
 refine wpStill_nil ?_
 clear m1 m2 m3 m4 m5 m6 m7 m8
 obtain⟨t4,ht4⟩:=C4
 have HT4:=RotF.aside ht4
 clear ht4
 go_wp2_with (refine wpList_copy_splice rfl _ _ 114 114 rfl 5 Tryz.underlying114 zhU _ _ _ _ _ _ rfl rfl w.heap.size (N - 8) (bv (bs++(128::List.replicate (N - len - 1) 0))) t4 ?c1 (bv (zj3 (8 * (len:Int)))) ?c2 ?c3 ?c4 (zeh _) w.heap.size w ?c5 (Nat.le_refl _) ?_;(case c1=>exact HT4.out);(case c2=>rfl);(case c3=>exact fun _=>⟨rfl,_,rfl,fun j v hj=>long_src C5 j v hj⟩);(case c4=>rw[zav,zav,zgy];simp;have:=HL.out;omega);(case c5=>exact hBW);intro w5 HG5 hB5)
 have hlen:=HL.out
 have hN8:N - 8=bs.length+1+(N - len - 1) - 8:=by omega
 have A5:At w5 w.heap.size (bv (zif bs)).toArray:=by
  refine⟨t4,?_⟩
  rw[HG5.out,hN8,lay3 bs _ _ (zgy _) (by omega)]
  unfold zif
  rw[hlen,HNN.out,show N - len - 1 - 8=N - len - 9 by omega]
 clear HG5 hN8 HT4 C5 hBW HS
 go_ret
 refine⟨w.heap.size,?_,Nat.le_refl _,A5,hB5⟩
 rw[zdZ,hlen,HNN.out]
 rfl
end Go.Proofs.YtgmdhaepiclkcaaGreatDoor.ShaF
namespace Go.Proofs.YtgmdhaepiclkcaaGreatDoor.ShaG
set_option maxHeartbeats 1000000
set_option maxRecDepth 100000
open Go.RowKit RotM RotN RotC RotD ShaM ShaC RotG Small PadM ShaF
def idL (h:H8) (k:Nat):List Int:=(List.range k).flatMap fun i=>zd3 (u (h.w i))
theorem zjt (h:H8) (k:Nat):idL h (k+1)=idL h k++zd3 (u (h.w k)):=by simp[idL,List.range_succ]
theorem za4 (h:H8) (k:Nat):(idL h k).length=4 * k:=by
 induction k with
 |zero=>rfl
 |succ k ih=>rw[zjt,List.length_append,ih,zbj];omega
def idV (h:H8) (k:Nat):List Value:=bv (idL h k++List.replicate (32 - 4 * k) 0)
theorem zbh (h:H8) (k:Nat) (hk:k≤8):(idV h k).length=32:=by
 simp[idV,zav,za4];omega
theorem zk1 (h:H8) (k:Nat):(idV h k).toArray.all (·.oneCell')=true:=by
 rw[Array.all_eq_true_iff_forall_mem]
 intro v hv
 exact zeh _ v (by simpa[idV]using hv)
theorem zmT (h:H8) (k:Nat) (hk:k<8):splice (idV h k) (4 * k) (bv (zd3 (u (h.w k))))=idV h (k+1):=by
 unfold idV
 rw[←za4 h k,zmS _ _ _ (by rw[zbj,za4];omega),zjt,zbj,za4]
 congr 3
theorem zcG:(Tryz.prog.info? 56).map (·.size)=some 32:=by kernel_rfl
theorem zou:(Tryz.prog.info? 194).map (·.size)=some 4:=by kernel_rfl
theorem zka (a:Int):(zdd a).all (·.oneCell')=true:=by kernel_rfl
theorem four_src {w:World} {g:Nat} {a:Int} (h:At w g (zdd a)) (j:Nat) (v:Value) (hv:(bv (zd3 a))[j]?=some v):w.cell? ((⟨g,0,none⟩:Addr).add j)=some v:=by
 have hadd:(⟨g,0,none⟩:Addr).add j=⟨g,j,none⟩:=by unfold Addr.add;split <;> simp_all
 rw[hadd,h.cell j,←hv,bv_four8]
 simp
theorem index8 (h:H8) (k:Nat) (hk:k<8) (w:World):(Instr.index 162 (.agg h.vals) (.int .i64 (k:Int))).run Tryz.prog w=.ok (.int .u32 (u (h.w k))) w:=by
 obtain⟨a,b,c,d,e,f,g,z⟩:=h
 rcases(by omega:k=0∨k=1∨k=2∨k=3∨k=4∨k=5∨k=6∨k=7)with rfl|rfl|rfl|rfl|rfl|rfl|rfl|rfl
 all_goals kernel_rfl
theorem zeX (h:H8):(idV h 0).toArray= #[.int .u8 0,.int .u8 0,.int .u8 0,.int .u8 0,.int .u8 0,.int .u8 0,.int .u8 0,.int .u8 0,.int .u8 0,.int .u8 0,.int .u8 0,.int .u8 0,.int .u8 0,.int .u8 0,.int .u8 0,.int .u8 0,.int .u8 0,.int .u8 0,.int .u8 0,.int .u8 0,.int .u8 0,.int .u8 0,.int .u8 0,.int .u8 0,.int .u8 0,.int .u8 0,.int .u8 0,.int .u8 0,.int .u8 0,.int .u8 0,.int .u8 0,.int .u8 0]:=by kernel_rfl
theorem at_new3 (w:World) (cs:Array Value) (t:TypeId) (o1 o2:Obj):At (((w.alloc o1).alloc o2).alloc (.cells cs t)) (w.heap.size+1+1) cs:=by
 have q:=At.new2 (w.alloc o1) cs t o2
 have e:(w.alloc o1).heap.size=w.heap.size+1:=by simp
 rwa[e]at q
theorem fourA (x:BitVec 32) (w:World):Calls Tryz.prog 159 #[.int .u32 (u x)] w fun e w'=>e=.returned (.agg (zdd (u x)))∧Below w.heap.size w w':=by
 refine(four (u x) (zdS x) w).mono fun e w' ⟨he,hw⟩=>⟨he,?_⟩
 subst hw
 go_grown
theorem join (h:H8) (w:World):
  Calls Tryz.prog 128 #[.agg h.vals] w fun e w'=>e=.returned (.agg (bv (idL h 8)).toArray)∧Below w.heap.size w w':=by
 go_enter Tryz.func128,Tryz.ntmps128
 go_wp2_with (refine zal rfl 162 _ rfl _ rfl h.vals _ ?c1 Tryz.underlying162 rfl ?c2 ?_;(case c1=>exact At.alloc (At.old2 _ _ _ _) _);(case c2=>kernel_rfl))
 go_loopw [8] (fun i wr=>∃k:Nat,k≤8∧i=.int .i64 k∧At wr (w.heap.size+1) (idV h 0).toArray∧At wr (w.heap.size+1+1) (idV h k).toArray∧Below w.heap.size w wr) (fun i _=>8 - (intOf i).toNat)
 case atStart=>exact⟨0,Nat.zero_le _,rfl,by rw[zeX];exact At.alloc (At.new2 _ _ _ _) _,by rw[zeX];exact at_new3 _ _ _ _ _,by go_grown⟩
 case round=>
  obtain⟨k,hk,rfl,A2,A3,kb⟩:=hrel
  by_cases hlt:k<8
  ·have hidx:=index8 h k hlt
   go_wp2_with fail
   refine(fourA (h.w k) _).mono ?_
   rintro e w1 ⟨rfl,h1⟩
   have B2:=A2.below h1 A2.lt
   have B3:=A3.below h1 A3.lt
   have kc:=kb.trans (h1.mono kb.size)
   clear A2 A3 kb h1 hidx
   go_wp2_with (refine zaC rfl 194 _ _ rfl _ _ _ 194 rfl _ rfl ?c1 rfl ?c2 ?c3 ?c4 ?_;(case c1=>simp);(case c2=>exact zou);(case c3=>rfl);(case c4=>exact zka _))
   have l3:=B3.lt
   refine wp_region_still_tail 4 (by kernel_rfl) (by kernel_rfl) ?_
   simp only[List.take_succ_cons,List.take_zero,List.drop_succ_cons,List.drop_zero]
   change wpStill _ _ (World.drew _) (fun a'=>wpList _ _ _ _ a' (World.drew _)) _ _
   obtain⟨W,hW⟩:∃W:World,W=(w1.alloc (.cells (zdd (u (h.w k))) 194)).drew:=⟨_,rfl⟩
   rw[←hW]
   have C2:At W (w.heap.size+1) (idV h 0).toArray:=by rw[hW];exact(B2.alloc _).drew
   have C3:At W (w.heap.size+1+1) (idV h k).toArray:=by rw[hW];exact(B3.alloc _).drew
   have C6:At W w1.heap.size (zdd (u (h.w k))):=by rw[hW];exact(At.new _ _ _).drew
   have kd:Below w.heap.size w W:=by rw[hW];exact zaf (kc.alloc kc.size _)
   clear hW B2 B3 kc
   have m1:IntKind.i64.wrap (4 * (k:Int))=4 * (k:Int):=IntWalk.i64_in _ (by omega)
   have m2:0≤4 * (k:Int):=by omega
   have m3:(4 * (k:Int)).toNat=4 * k:=by omega
   have m4:4 * (k:Int)≤32:=by omega
   have m5:¬32=4 * k:=by omega
   repeat still_step
   refine wpStill_nil ?_
   clear m1 m2 m3 m4 m5
   obtain⟨t3,ht3⟩:=C3
   have HT3:=RotF.aside ht3
   clear ht3
   go_wp2_with (refine wpList_copy_splice rfl _ _ 114 114 rfl 5 Tryz.underlying114 zhU _ _ _ _ _ _ rfl rfl (w.heap.size+1+1) (4 * k) (idV h k) t3 ?c1 (bv (zd3 (u (h.w k)))) ?c2 ?c3 ?c4 (zeh _) (w.heap.size+1+1) W ?c5 (Nat.le_refl _) ?_;(case c1=>exact HT3.out);(case c2=>rw[zav,zbj];exact(Nat.min_eq_left (by omega)).symm);(case c3=>exact fun _=>⟨rfl,_,rfl,fun j v hj=>four_src C6 j v hj⟩);(case c4=>rw[zav,zbj,zbh _ _ (by omega)];omega);(case c5=>exact Below.refl _ _);intro w5 HG5 hB5)
   go_roundw
   case rel=>
    refine⟨k+1,by omega,by go_num,C2.below hB5 (by omega),?_,kd.trans (hB5.mono (by omega))⟩
    refine⟨t3,?_⟩
    rw[HG5.out,zmT _ _ hlt]
   case measure=>simp[intOf];omega
  ·have e8:k=8:=by omega
   rw[e8]at A3
   clear e8
   go_wp2_with (first|(refine zal rfl 56 _ rfl _ rfl _ _ A3 Tryz.underlying56 rfl ?c2 ?_;(case c2=>rw[List.size_toArray,zbh _ _ (by omega)];exact zcG))|(refine za2 rfl 56 _ _ rfl _ _ rfl rfl _ A2 ?c2 ?c3 ?c4 ?_;(case c2=>rw[List.size_toArray,zbh _ _ (by omega)];exact zcG);(case c3=>rw[List.size_toArray,List.size_toArray,zbh _ _ (by omega),zbh _ _ (by omega)]);(case c4=>exact zk1 _ _)))
   exact bodyPost_ret (v:=.agg (bv (idL h 8)).toArray) (results_at Tryz.results128 _ _ (w.heap.size+1) _ _ rfl (by have q:=A2.row (idV h 8).toArray;simpa[idV]using q) Tryz.underlying56 rfl (by rw[List.size_toArray,zav,za4];exact zcG)) rfl ⟨rfl,zbl kb (by omega) _⟩
end Go.Proofs.YtgmdhaepiclkcaaGreatDoor.ShaG
