/- What the document's Eval of package eval returns | What the document's At of package eval returns | EvalTells' walk, over contracts -/
import Derived.Test.YtgmdhaepiclkcaaGreatDoorEaSJ5
import Derived.Test.YtgmdhaepiclkcaaGreatDoorEaAJ3
import Derived.Test.YtgmdhaepiclkcaaGreatDoorStLJ6
namespace Go.Proofs.YtgmdhaepiclkcaaGreatDoor.EaT
set_option maxHeartbeats 64000000
set_option maxRecDepth 100000
open Go Go.Sort Go.RowKit Byt IdM IdW OpsM OpsW RowS CmM CmW CmX CmY DgM DgN DgP DgW DgT DgR DgK DgC DgF FrM FrN EaM EaN EaR EaH EaS
open StW (Ev EE)
open Classical
def OE:Cel.Cel Opn where
 T:=45
 k:=4
 bytes:=48
 d:=_
 enc o:=[.int .i64 o.kind,.string o.key,.string o.elem,.int .i64 o.n]
 zero:=noO
 len _:=rfl
 one c v hv:=by
  simp only[List.mem_cons,List.not_mem_nil,or_false]at hv
  rcases hv with rfl|rfl|rfl|rfl <;> rfl
 pos:=by omega
 info:=by kernel_rfl
 under:=Tryz.underlying45
 row:=rfl
theorem zdL {ops:Array Oper} {rest:List Oper} {o:Oper} {a:Act} {w:World} {Q:Exit→Act→World→Prop} (hgd:o.guard=none) (x:Operand) (ho:o.op=.load 45 x)
  (b off:Nat) (hx:a.eval x=.pointer (some ⟨b,off+4,none⟩)) (y:Cv) (hc:w.rangeAt b off (cc y).toList) (h:wpList Tryz.prog ops Q rest (a.put o.dst (.agg (opc y.c.op))) w):wpList Tryz.prog ops Q (o::rest) a w:=
 wpList_load_mid hgd 45 x ho b (off+4) hx (opc y.c.op).toList _ (fun j u hu=>by
  rw[Nat.add_assoc]
  have hj:j<4:=(List.getElem?_eq_some_iff.1 hu).1
  rcases(by omega:j=0∨j=1∨j=2∨j=3)with rfl|rfl|rfl|rfl
  ·exact(Option.some.inj hu) ▸ hc 4 _ rfl
  ·exact(Option.some.inj hu) ▸ hc 5 _ rfl
  ·exact(Option.some.inj hu) ▸ hc 6 _ rfl
  ·exact(Option.some.inj hu) ▸ hc 7 _ rfl) Tryz.underlying45 rfl (zg7 y.c.op) h
theorem zo2 (k e:ByteArray) (g:Int) (ev:Ev) (w:World):(Instr.build 62 #[(0,.string k),(1,.string e),(2,.int .i64 g),(3,.agg (EE.enc ev).toArray)]).run Tryz.prog w=.ok (.agg #[.string k,.string e,.int .i64 g,.int .i64 ev.node,.int .i64 ev.seq]) w:=by kernel_rfl
theorem zm5 (k e:ByteArray) (ev:Ev) (w:World):(Instr.build 58 #[(0,.string k),(1,.string e),(2,.agg (EE.enc ev).toArray)]).run Tryz.prog w=.ok (.agg #[.string k,.string e,.int .i64 ev.node,.int .i64 ev.seq]) w:=by kernel_rfl
theorem zjO {a:Act} {o:Oper} {K:Act→Prop} {w:World} (T:TypeId) (x y z u:Operand) (ho:o.op=.build T #[(0,x),(1,y),(2,z),(3,u)]) (X Y Z U v:Value) (hx:a.eval x=X) (hy:a.eval y=Y) (hz:a.eval z=Z) (hu:a.eval u=U)
  (hb:∀W,(Instr.build T #[(0,X),(1,Y),(2,Z),(3,U)]).run Tryz.prog W=.ok v W) (hk:K (a.put o.dst v)):o.quiet Tryz.prog a (fun w'=>∃p:Regrown,w'=grow (redrawn w p.d) p.os) K:=by
 refine⟨v,fun u hu'=>?_,hk⟩
 unfold Oper.quietAt execOp
 simp only[ho,List.map_toArray,List.map_cons,List.map_nil,hx,hy,hz,hu,Sem.run_bind,hb u,Result.andThen_ok,Sem.run_pure]
 exact⟨rfl,rfl⟩
theorem zjP {a:Act} {o:Oper} {K:Act→Prop} {w:World} (T:TypeId) (x y z:Operand) (ho:o.op=.build T #[(0,x),(1,y),(2,z)]) (X Y Z v:Value) (hx:a.eval x=X) (hy:a.eval y=Y) (hz:a.eval z=Z)
  (hb:∀W,(Instr.build T #[(0,X),(1,Y),(2,Z)]).run Tryz.prog W=.ok v W) (hk:K (a.put o.dst v)):o.quiet Tryz.prog a (fun w'=>∃p:Regrown,w'=grow (redrawn w p.d) p.os) K:=by
 refine⟨v,fun u hu'=>?_,hk⟩
 unfold Oper.quietAt execOp
 simp only[ho,List.map_toArray,List.map_cons,List.map_nil,hx,hy,hz,Sem.run_bind,hb u,Result.andThen_ok,Sem.run_pure]
 exact⟨rfl,rfl⟩
theorem ev_at {w:World} {b off:Nat} {y:Cv} (h:w.rangeAt b off (cc y).toList):w.rangeAt b off (EE.enc ⟨y.c.node,y.c.seq⟩):=fun j u hu=>by
 have hj:j<2:=(List.getElem?_eq_some_iff.1 hu).1
 rcases(by omega:j=0∨j=1)with rfl|rfl
 ·exact(Option.some.inj hu) ▸ h 0 _ rfl
 ·exact(Option.some.inj hu) ▸ h 1 _ rfl
theorem zfY (A:Option Addr) (cap:Nat) (l:List Cv) (w:World) (S:SlK w A cap l) (ho:∀v ∈ l,CmR.zkr v.c) (hl:l.length≤1000):
  Calls Tryz.prog 13 #[.slice A l.length cap] w (StW.New (zh3 (zar l)) w):=by
 have hmax:=S.len
 have b0:=StW.zah w (.cells #[.slice none 0 0,.slice none 0 0,.slice none 0 0] 30)
 have R0:Cel.Box StW.SE (w.alloc (.cells #[.slice none 0 0,.slice none 0 0,.slice none 0 0] 30)) w.heap.size StW.noV:=Cel.Box.new (E:=StW.SE) w StW.noV _
 have qc:=zcZ A cap l _ (S.below b0) ho (by omega)
 unfold StW.New
 by_cases C:Closed zaj (zar l)
 ·rw[decide_eq_true C]at qc
  have qi:=fun W S=>zdy A cap l W S ho (by omega)
  unfold zne at qi
  have hid:zgj (zar l)=(zar l).map zaj:=by rw[zgj,if_pos (zgm C)]
  have hlen:((zar l).map zaj).length=l.length:=by rw[List.length_map,zaw]
  rw[hid]at qi
  have hev:zh3 (zar l)=some (zdz zaj (zar l)):=if_pos C
  rw[hev]
  have HC:=aside C
  have HO:=aside ho
  have HU:=aside (zpF (l:=zar l) (zd6 C) (fun c hc=>by
   obtain⟨v,hv,rfl⟩:=List.mem_map.1 hc
   exact wide_of (S.each v hv).2))
  obtain⟨own,hown⟩:∃own,(zar l).map zaj=own:=⟨_,rfl⟩
  rw[hown]at qi hlen
  have HOWN:=aside hown
  have qk:=fun A' c' W S T=>zhQ A A' cap c' l own W S T hlen hl
  rw[hlen]at qi qk
  clear C hid hev hown hlen ho
  go_enter Tryz.func13,Tryz.ntmps13
  go_wp2_with (first|go_skip)
  refine qc.mono ?_
  rintro e w1 ⟨rfl,k1⟩
  clear qc
  go_wp2_with (first|go_skip)
  refine(qi _ (S.below (b0.trans (k1.mono b0.size)))).mono ?_
  rintro e w2 ⟨A2,c2,rfl,T2,k2⟩
  have b2:=(b0.trans (k1.mono b0.size)).trans (k2.mono (b0.trans (k1.mono b0.size)).size)
  have R2:=(R0.below k1).below k2
  clear qi b0 k1 k2 R0
  go_wp2_with (first|go_skip)
  refine(qk A2 c2 _ (S.below b2) T2).mono ?_
  rintro e w3 ⟨tv,gs,KK,rfl,hgl,TB,hW,k3⟩
  have b3:=b2.trans (k3.mono b2.size)
  have R3:=R2.below k3
  have hr3:=R3.lt
  have S3:=S.below b3
  have HGL:=aside hgl
  have HW:=aside hW
  clear qk b2 k3 R2 T2 hgl hW
  have B4:Cel.Box StW.SE (w3.alloc (.cells #[.slice none 0 0,.slice none 0 0,.slice none 0 0] 30)) w3.heap.size StW.noV:=Cel.Box.new (E:=StW.SE) w3 StW.noV _
  have k4:=StW.zah w3 (.cells #[.slice none 0 0,.slice none 0 0,.slice none 0 0] 30)
  go_wp2_with (first|go_skip|(refine Cel.zac StW.SE rfl _ _ rfl w3 _ _ rfl StW.noV _ rfl rfl rfl rfl ?_;intro w5 B5 k5 g5 s5;clear g5 s5))
  clear B4 k4
  go_loopw [7] (fun j wr=>∃(k:Nat) (v:StW.Sv),k≤l.length∧j=.int .i64 k∧v.s=upS (zar l) k∧Cel.Box StW.SE wr w3.heap.size v∧StW.In wr v∧Below w3.heap.size w3 wr) (fun j _=>l.length - (intOf j).toNat)
  case atStart=>exact⟨0,StW.noV,Nat.zero_le _,rfl,rfl,B5,StW.In.none _,k5⟩
  case round=>
   obtain⟨k,v,hk,rfl,hv,B,I,kb⟩:=hrel
   clear B5 k5
   by_cases hlt:k<l.length
   case pos=>
    obtain⟨b,off,rfl,_,hrg⟩:=S3.plain (by omega)
    obtain⟨x,hx⟩:∃x,l[k]?=some x:=⟨_,List.getElem?_eq_getElem hlt⟩
    have rx:=zaL (hrg k x hx) kb
    have HN:=aside (up_next (zbH hx))
    have HX:=aside hx
    obtain⟨m1,f1,l1⟩:=HU.out k
    rw[←hv]at m1 f1 l1
    have hxo:=HO.out x (List.mem_of_getElem? hx)
    have hfx:=zd6 HC.out x.c (List.mem_map_of_mem (f:=(·.c)) (List.mem_of_getElem? hx))
    have p0:(k:Int)<l.length:=by omega
    have m0:((k:Int)).toNat=k:=by omega
    obtain⟨c0,c1,c2⟩:=StW.zam B
    have hkind:=StM.zji hfx.op
    have HV:=aside hv
    clear hx hrg hv hfx
    rcases hkind with h0|h0|h0|h0
    ·have qq:=fun W S=>CtrQ.zk0 v.a0 v.k0 v.s.c x.c.op.key x.c.op.n W S f1.c (by have:=l1.c;omega) hxo.key
     have HS:Hid (upS (zar l) (k+1)=⟨CtrM.zf3 v.s.c x.c.op.key x.c.op.n,v.s.r,v.s.p⟩):=aside (by rw[HN.out,zjw (.inl h0),←HV.out];unfold StM.stepS;rw[if_pos h0])
     have H0:=aside h0
     clear HN m1 f1 l1 hxo h0
     go_wp2_with (first|go_skip|(refine zdL rfl _ rfl _ _ rfl x rx ?_)|(refine Cel.zac OE rfl _ _ rfl wr _ _ rfl x.c.op _ rfl rfl rfl rfl ?_;intro w6 O6 k6 g6 s6;have o0:w6.cell? ⟨wr.heap.size,0,none⟩=some (.int .i64 0):=(O6.cell (j:=0) rfl).trans (by rw[H0.out]);have o1:w6.cell? ⟨wr.heap.size,1,none⟩=some (.string x.c.op.key):=O6.cell (j:=1) rfl;have o3:w6.cell? ⟨wr.heap.size,3,none⟩=some (.int .i64 x.c.op.n):=O6.cell (j:=3) rfl;have I6:=I.below k6;have B6:=B.below k6;obtain⟨d0,d1,d2⟩:=StW.zam B6;have b6:=kb.trans (k6.mono kb.size);clear g6 s6 c0 c1 c2))
     refine(qq _ I6.c).mono ?_
     rintro e w7 ⟨A7,k7,rfl,N7,h7⟩
     have B7:=B6.below h7
     have I7:=I6.below h7
     have b7:=b6.trans (h7.mono b6.size)
     clear qq B6 I6 b6 h7 o0 o1 o3 d0 d1 d2 O6
     go_wp2_with (first|go_skip|(refine Cel.zaI StW.SE rfl rfl 26 _ _ rfl zor w3.heap.size 0 rfl (of_decide_eq_true rfl) v B7 ⟨A7,k7,v.a1,v.k1,v.a2,v.k2,⟨CtrM.zf3 v.s.c x.c.op.key x.c.op.n,v.s.r,v.s.p⟩⟩ _ rfl rfl rfl rfl ?_;intro w8 B8 f8 g8 s8;have I8:=I7.kept B7 g8;have N8:=StW.zcu StW.noC N7 B7 g8))
     go_roundw
     case rel=>exact⟨k+1,⟨A7,k7,v.a1,v.k1,v.a2,v.k2,⟨CtrM.zf3 v.s.c x.c.op.key x.c.op.n,v.s.r,v.s.p⟩⟩,by omega,by go_num,HS.out.symm,B8,{I8 with c:=N8},b7.trans (f8 _ (Nat.le_refl _))⟩
     case measure=>simp[intOf];omega
    ·have qq:=fun W S=>RegQ.zcE v.a1 v.k1 v.s.r (znc x.c) W S f1.r ⟨hxo.key,hxo.elem,hxo.fit.gen,hxo.fit.node,hxo.fit.seq⟩ (by have:=l1.r;omega)
     have HS:Hid (upS (zar l) (k+1)=⟨v.s.c,RegL.zen v.s.r (znc x.c),v.s.p⟩):=aside (by rw[HN.out,zjw (.inr (.inl h0)),←HV.out];unfold StM.stepS;rw[if_neg (by omega),if_pos h0];rfl)
     have H0:=aside h0
     clear HN m1 f1 l1 hxo h0
     go_wp2_with (first|go_skip|(refine zdL rfl _ rfl _ _ rfl x rx ?_)|(refine Cel.zac OE rfl _ _ rfl wr _ _ rfl x.c.op _ rfl rfl rfl rfl ?_;intro w6 O6 k6 g6 s6;have o0:w6.cell? ⟨wr.heap.size,0,none⟩=some (.int .i64 1):=(O6.cell (j:=0) rfl).trans (by rw[H0.out]);have I6:=I.below k6;have B6:=B.below k6;have rx6:=zaL rx k6;have b6:=kb.trans (k6.mono kb.size);clear g6 s6 c0 c1 c2))
     refine GrowL.region 19 [(0,true),(1,true),(2,true),(3,true),(4,true),(5,true),(6,true),(7,true),(8,true),(9,true),(10,true),(11,true),(12,true),(13,true),(14,true),(15,true),(16,true),(17,false),(18,true),(19,false)] (by kernel_rfl) (by kernel_rfl) rfl (by kernel_rfl) (by intro c a d v w h;cases d <;> exact h) ?_
     have kd:=zaf (Below.refl w6.heap.size w6)
     have O7:=O6.below kd
     have B7:=B6.below kd
     have I7:=I6.below kd
     have rx7:=zaL rx6 kd
     have b7:=b6.trans (kd.mono b6.size)
     generalize w6.drew=w7 at O7 B7 I7 rx7 b7 ⊢
     clear O6 B6 I6 rx6 b6 kd o0
     have g1:=Grow.grown (w:=w7) (fun u hu=>(StW.zam (B7.below hu)).2.1)
     have g2:∀d os,(grow (redrawn w7 d) os).cell? ⟨wr.heap.size,1,none⟩=some (.string x.c.op.key):=Grow.grown (w:=w7) (fun u hu=>(O7.below hu).cell (j:=1) rfl)
     have g3:∀d os,(grow (redrawn w7 d) os).cell? ⟨wr.heap.size,2,none⟩=some (.string x.c.op.elem):=Grow.grown (w:=w7) (fun u hu=>(O7.below hu).cell (j:=2) rfl)
     have g4:∀d os,(grow (redrawn w7 d) os).cell? ⟨b,off+k * 8+2,none⟩=some (.int .i64 x.c.gen):=Grow.grown (w:=w7) (fun u hu=>(zaL rx7 hu) 2 _ rfl)
     have e7:=ev_at rx7
     (try simp only[Act.put,List.setIfInBounds_toArray,List.set_cons_succ,List.set_cons_zero])
     repeat (first|(refine GrowL.reads rfl rfl ?_;go_big_quiet_want;refine Cel.zaB EE _ rfl _ _ rfl ⟨x.c.node,x.c.seq⟩ e7 ?_;go_big_quiet_on;refine wpQuiet_nil ?_;(try simp only[Act.put,List.setIfInBounds_toArray,List.set_cons_succ,List.set_cons_zero]))|(refine GrowL.reads rfl rfl ?_;go_big_quiet_step (fail);refine wpQuiet_nil ?_))
     refine GrowL.reads rfl rfl ?_
     go_big_quiet_want
     refine zjO 62 _ _ _ _ rfl (.string x.c.op.key) (.string x.c.op.elem) (.int .i64 x.c.gen) (.agg (EE.enc ⟨x.c.node,x.c.seq⟩).toArray) _ rfl rfl rfl rfl (zo2 _ _ _ _) ?_
     go_big_quiet_on
     refine wpQuiet_nil ?_
     (try simp only[Act.put,List.setIfInBounds_toArray,List.set_cons_succ,List.set_cons_zero])
     refine GrowL.acts rfl ?_
     go_wp2_with (first|go_skip)
     refine(qq _ I7.r).mono ?_
     rintro e w8 ⟨A8,k8,rfl,N8,h8⟩
     go_wp2_with (first|go_skip)
     refine⟨h8,?_⟩
     (try simp only[Act.put,List.setIfInBounds_toArray,List.set_cons_succ,List.set_cons_zero])
     have B8:=B7.below h8
     have I8:=I7.below h8
     have b8:=b7.trans (h8.mono b7.size)
     clear qq B7 I7 b7 h8 O7 rx7 e7 g1 g2 g3 g4
     repeat (refine GrowL.reads rfl rfl ?_;go_big_quiet_step (fail);refine wpQuiet_nil ?_)
     refine GrowL.last rfl ?_
     go_wp2_with (first|go_skip|(refine Cel.zaI StW.SE rfl rfl 27 _ _ rfl zop w3.heap.size 1 rfl (of_decide_eq_true rfl) v B8 ⟨v.a0,v.k0,A8,k8,v.a2,v.k2,⟨v.s.c,RegL.zen v.s.r (znc x.c),v.s.p⟩⟩ _ rfl rfl rfl rfl ?_;intro w9 B9 f9 g9 s9;have I9:=I8.kept B8 g9;have N9:=StW.zcu StW.noR N8 B8 g9))
     refine GrowL.done ?_
     go_wp2_with (first|go_skip)
     go_roundw
     case rel=>exact⟨k+1,⟨v.a0,v.k0,A8,k8,v.a2,v.k2,⟨v.s.c,RegL.zen v.s.r (znc x.c),v.s.p⟩⟩,by omega,by go_num,HS.out.symm,B9,{I9 with r:=N9},b8.trans (f9 _ (Nat.le_refl _))⟩
     case measure=>simp[intOf];omega
    ·have hgl2:gs.length=l.length:=by rw[HGL.out,zaw]
     have TB2:=(show Tab w3 _ tv l.length gs KK by rw[←zaw l];exact TB)
     have qg:=fun W S T=>gone_ret (some ⟨b,off,none⟩) cap l w2.heap.size tv gs KK k x W S T hgl2 HX.out
     have hgi:=gone_iff (K:=KK) HC.out (by rw[HOWN.out];exact HW.out) (zbH HX.out)
     by_cases G:Gone zaj (zar l) x.c
     ·have hd:decide (zm9 (zar l) KK k x.c)=true:=decide_eq_true (hgi.2 G)
      simp only[hd]at qg
      have HS:Hid (upS (zar l) (k+1)=v.s):=aside (by rw[HN.out,zk7 (.inr ⟨h0,G⟩),←HV.out])
      have H0:=aside h0
      clear HN m1 f1 l1 hxo h0 hd hgi G
      go_wp2_with (first|go_skip|(refine zdL rfl _ rfl _ _ rfl x rx ?_)|(refine Cel.zac OE rfl _ _ rfl wr _ _ rfl x.c.op _ rfl rfl rfl rfl ?_;intro w6 O6 k6 g6 s6;have o0:w6.cell? ⟨wr.heap.size,0,none⟩=some (.int .i64 2):=(O6.cell (j:=0) rfl).trans (by rw[H0.out]);have I6:=I.below k6;have B6:=B.below k6;have rx6:=zaL rx k6;have b6:=kb.trans (k6.mono kb.size);clear g6 s6 c0 c1 c2))
      refine(qg _ (S3.below b6) (TB2.below b6)).mono ?_
      rintro e w7 ⟨rfl,k7⟩
      go_wp2_with (first|go_skip)
      go_roundw
      case rel=>exact⟨k+1,v,by omega,by go_num,HS.out.symm,B6.below k7,I6.below k7,b6.trans (k7.mono b6.size)⟩
      case measure=>simp[intOf];omega
     ·have hd:decide (zm9 (zar l) KK k x.c)=false:=decide_eq_false fun q=>G (hgi.1 q)
      simp only[hd]at qg
      have qq:=fun W S=>PairQ.zlh v.a2 v.k2 v.s.p (zex x.c) W S f1.p ⟨hxo.key,hxo.elem,hxo.fit.node,hxo.fit.seq⟩ (by have:=l1.p;omega)
      have HS:Hid (upS (zar l) (k+1)=⟨v.s.c,v.s.r,PairM.zgq v.s.p (zex x.c)⟩):=aside (by rw[HN.out,zjw (.inr (.inr ⟨h0,G⟩)),←HV.out];unfold StM.stepS;rw[if_neg (by omega),if_neg (by omega),if_pos h0];rfl)
      have H0:=aside h0
      clear HN m1 f1 l1 hxo h0 hd hgi G
      go_wp2_with (first|go_skip|(refine zdL rfl _ rfl _ _ rfl x rx ?_)|(refine Cel.zac OE rfl _ _ rfl wr _ _ rfl x.c.op _ rfl rfl rfl rfl ?_;intro w6 O6 k6 g6 s6;have o0:w6.cell? ⟨wr.heap.size,0,none⟩=some (.int .i64 2):=(O6.cell (j:=0) rfl).trans (by rw[H0.out]);have I6:=I.below k6;have B6:=B.below k6;have rx6:=zaL rx k6;have b6:=kb.trans (k6.mono kb.size);clear g6 s6 c0 c1 c2))
      refine(qg _ (S3.below b6) (TB2.below b6)).mono ?_
      rintro e wg ⟨rfl,kg⟩
      replace O6:=O6.below kg
      replace B6:=B6.below kg
      replace I6:=I6.below kg
      replace rx6:=zaL rx6 kg
      replace b6:=b6.trans (kg.mono b6.size)
      replace o0:=(0:Nat)
      go_wp2_with (first|go_skip)
      refine GrowL.region 14 [(0,true),(1,true),(2,true),(3,true),(4,true),(5,true),(6,true),(7,true),(8,true),(9,true),(10,true),(11,true),(12,false),(13,true),(14,false)] (by kernel_rfl) (by kernel_rfl) rfl (by kernel_rfl) (by intro c a d v w h;cases d <;> exact h) ?_
      have kd:=zaf (Below.refl wg.heap.size wg)
      have O7:=O6.below kd
      have B7:=B6.below kd
      have I7:=I6.below kd
      have rx7:=zaL rx6 kd
      have b7:=b6.trans (kd.mono b6.size)
      generalize wg.drew=w7 at O7 B7 I7 rx7 b7 ⊢
      clear O6 B6 I6 rx6 b6 kd o0
      have g1:=Grow.grown (w:=w7) (fun u hu=>(StW.zam (B7.below hu)).2.2)
      have g2:∀d os,(grow (redrawn w7 d) os).cell? ⟨wr.heap.size,1,none⟩=some (.string x.c.op.key):=Grow.grown (w:=w7) (fun u hu=>(O7.below hu).cell (j:=1) rfl)
      have g3:∀d os,(grow (redrawn w7 d) os).cell? ⟨wr.heap.size,2,none⟩=some (.string x.c.op.elem):=Grow.grown (w:=w7) (fun u hu=>(O7.below hu).cell (j:=2) rfl)
      have e7:=ev_at rx7
      (try simp only[Act.put,List.setIfInBounds_toArray,List.set_cons_succ,List.set_cons_zero])
      repeat (first|(refine GrowL.reads rfl rfl ?_;go_big_quiet_want;refine Cel.zaB EE _ rfl _ _ rfl ⟨x.c.node,x.c.seq⟩ e7 ?_;go_big_quiet_on;refine wpQuiet_nil ?_;(try simp only[Act.put,List.setIfInBounds_toArray,List.set_cons_succ,List.set_cons_zero]))|(refine GrowL.reads rfl rfl ?_;go_big_quiet_step (fail);refine wpQuiet_nil ?_))
      refine GrowL.reads rfl rfl ?_
      go_big_quiet_want
      refine zjP 58 _ _ _ rfl (.string x.c.op.key) (.string x.c.op.elem) (.agg (EE.enc ⟨x.c.node,x.c.seq⟩).toArray) _ rfl rfl rfl (zm5 _ _ _) ?_
      go_big_quiet_on
      refine wpQuiet_nil ?_
      (try simp only[Act.put,List.setIfInBounds_toArray,List.set_cons_succ,List.set_cons_zero])
      refine GrowL.acts rfl ?_
      go_wp2_with (first|go_skip)
      refine(qq _ I7.p).mono ?_
      rintro e w8 ⟨A8,k8,rfl,N8,h8⟩
      go_wp2_with (first|go_skip)
      refine⟨h8,?_⟩
      (try simp only[Act.put,List.setIfInBounds_toArray,List.set_cons_succ,List.set_cons_zero])
      have B8:=B7.below h8
      have I8:=I7.below h8
      have b8:=b7.trans (h8.mono b7.size)
      clear qq B7 I7 b7 h8 O7 rx7 e7 g1 g2 g3
      repeat (refine GrowL.reads rfl rfl ?_;go_big_quiet_step (fail);refine wpQuiet_nil ?_)
      refine GrowL.last rfl ?_
      go_wp2_with (first|go_skip|(refine Cel.zaI StW.SE rfl rfl 28 _ _ rfl zl1 w3.heap.size 2 rfl (of_decide_eq_true rfl) v B8 ⟨v.a0,v.k0,v.a1,v.k1,A8,k8,⟨v.s.c,v.s.r,PairM.zgq v.s.p (zex x.c)⟩⟩ _ rfl rfl rfl rfl ?_;intro w9 B9 f9 g9 s9;have I9:=I8.kept B8 g9;have N9:=StW.zcu StW.noP N8 B8 g9))
      refine GrowL.done ?_
      go_wp2_with (first|go_skip)
      go_roundw
      case rel=>exact⟨k+1,⟨v.a0,v.k0,v.a1,v.k1,A8,k8,⟨v.s.c,v.s.r,PairM.zgq v.s.p (zex x.c)⟩⟩,by omega,by go_num,HS.out.symm,B9,{I9 with p:=N9},b8.trans (f9 _ (Nat.le_refl _))⟩
      case measure=>simp[intOf];omega
    ·have HS:Hid (upS (zar l) (k+1)=v.s):=aside (by rw[HN.out,zk7 (.inl h0),←HV.out])
     have H0:=aside h0
     clear HN m1 f1 l1 hxo h0
     go_wp2_with (first|go_skip|(refine zdL rfl _ rfl _ _ rfl x rx ?_)|(refine Cel.zac OE rfl _ _ rfl wr _ _ rfl x.c.op _ rfl rfl rfl rfl ?_;intro w6 O6 k6 g6 s6;have o0:w6.cell? ⟨wr.heap.size,0,none⟩=some (.int .i64 3):=(O6.cell (j:=0) rfl).trans (by rw[H0.out]);clear g6 s6 c0 c1 c2))
     go_roundw
     case rel=>exact⟨k+1,v,by omega,by go_num,HS.out.symm,B.below k6,I.below k6,kb.trans (k6.mono kb.size)⟩
     case measure=>simp[intOf];omega
   case neg=>
    have hke:k=l.length:=by omega
    have hS:v.s=zdz zaj (zar l):=by rw[hv,hke,←zaw l];exact up_all _
    have R4:=R3.block kb hr3
    go_wp2_with (first|go_skip|(refine Cel.zaa StW.SE rfl _ rfl _ rfl v B ?_)|(refine Cel.zad StW.SE rfl _ _ rfl w.heap.size rfl StW.noV R4 v rfl ?_;intro w9 R9 f9 g9 s9))
    obtain⟨r0,r1,r2⟩:=StW.zam R9
    refine bodyPost_ret (v:=.tuple #[.agg (StW.sc v),.int .i64 0]) (by simp[results,Tryz.results13,go_sem,r0,r1,r2,StW.sc]) rfl ⟨v,rfl,hS,I.kept R4 g9,(b3.trans (kb.mono b3.size)).trans (f9 _ (Nat.le_refl _))⟩
 ·rw[decide_eq_false C]at qc
  have hev:zh3 (zar l)=none:=if_neg C
  rw[hev]
  clear C hev ho
  go_enter Tryz.func13,Tryz.ntmps13
  go_wp2_with (first|go_skip)
  refine qc.mono ?_
  rintro e w1 ⟨rfl,k1⟩
  clear qc
  have R1:=R0.below k1
  have b1:=b0.trans (k1.mono b0.size)
  go_wp2_with (first|go_skip|(refine Cel.zad StW.SE rfl _ _ rfl w.heap.size rfl StW.noV R1 StW.noV rfl ?_;intro w9 R9 f9 g9 s9))
  obtain⟨r0,r1,r2⟩:=StW.zam R9
  refine bodyPost_ret (v:=.tuple #[.agg (StW.sc StW.noV),.int .i64 1]) (by simp[results,Tryz.results13,go_sem,r0,r1,r2,StW.sc]) rfl ⟨StW.noV,rfl,rfl,StW.In.none _,b1.trans (f9 _ (Nat.le_refl _))⟩
end Go.Proofs.YtgmdhaepiclkcaaGreatDoor.EaT
namespace Go.Proofs.YtgmdhaepiclkcaaGreatDoor.EaU
set_option maxHeartbeats 16000000
set_option maxRecDepth 100000
open Go Go.Sort Go.RowKit Byt IdM IdW OpsM OpsW RowS CmM StM StW CmW CmX CmY DgM DgW DgR DgF EaM EaN EaH
open Classical
theorem zi2 (l:List Com) (a:List Idn):(zek l a).length≤l.length:=by
 unfold zek
 split
 ·exact List.length_filter_le _ _
 ·exact Nat.zero_le _
theorem part_in {l:List Com} {a:List Idn} {c:Com} (h:c ∈ zek l a):c ∈ l:=by
 unfold zek at h
 split at h
 ·exact(zbz.1 h).1
 ·cases h
theorem at_ret (A A':Option Addr) (cap cap':Nat) (l:List Cv) (a:List Idn) (w:World) (S:SlK w A cap l) (T:SlI w A' cap' a) (ho:∀v ∈ l,CmR.zkr v.c) (hl:l.length≤1000):
  Calls Tryz.prog 15 #[.slice A l.length cap,.slice A' a.length cap'] w (StW.New (atE (zar l) a) w):=by
 have R0:Cel.Box SE (w.alloc (.cells #[.slice none 0 0,.slice none 0 0,.slice none 0 0] 30)) w.heap.size noV:=Cel.Box.new (E:=SE) w noV _
 have kb:=StW.zah w (.cells #[.slice none 0 0,.slice none 0 0,.slice none 0 0] 30)
 have q1:=DgC.zcZ A cap l _ (S.below kb) ho hl
 unfold StW.New
 have HO:=aside ho
 clear ho
 by_cases C:Closed zaj (zar l)
 ·have hev:atE (zar l) a=some (atK zaj (zar l) a):=if_pos C
  rw[hev]
  rw[decide_eq_true C]at q1
  have HAT:=aside (zo7 C a)
  clear C hev
  go_enter Tryz.func15,Tryz.ntmps15
  go_wp2_with (first|go_skip)
  refine q1.mono ?_
  clear q1
  rintro e w1 ⟨rfl,k1⟩
  have b1:=kb.trans (k1.mono kb.size)
  have R1:=R0.below k1
  clear R0 kb k1
  have q2:=DgF.zlf A A' cap cap' l a w1 (S.below b1) (T.below b1) HO.out hl
  go_wp2_with (first|go_skip)
  refine q2.mono ?_
  clear q2
  rintro e w2 ⟨A2,c2,rfl,T2,k2⟩
  have b2:=b1.trans (k2.mono b1.size)
  have R2:=R1.below k2
  clear R1 b1 k2
  have q3:=DgF.zi1 A A2 cap c2 l _ w2 (S.below b2) T2 HO.out hl
  go_wp2_with (first|go_skip)
  refine q3.mono ?_
  clear q3
  rintro e w3 ⟨A3,c3,us,rfl,S3,hus,k3⟩
  have b3:=b2.trans (k3.mono b2.size)
  have R3:=R2.below k3
  have h2:=zi2 (zar l) (zkq (zar l) a)
  rw[zaw,←hus,zaw]at h2
  have q4:=EaT.zfY A3 c3 us w3 S3 (fun v hv=>by
   have:v.c ∈ zek (zar l) (zkq (zar l) a):=by rw[←hus];exact List.mem_map_of_mem (f:=(·.c)) hv
   obtain⟨u,hu,e⟩:=List.mem_map.1 (part_in this)
   rw[←e]
   exact HO.out u hu) (by omega)
  rw[hus,HAT.out]at q4
  unfold StW.New at q4
  clear h2 hus R2 b2 k3 T2
  go_wp2_with (first|go_skip)
  refine q4.mono ?_
  clear q4
  rintro e w4 ⟨v,rfl,hv,IV,k4⟩
  have b4:=b3.trans (k4.mono b3.size)
  have R4:=R3.below k4
  have HV:=aside hv
  clear hv R3 b3 k4 S3
  (try simp only[Option.isSome_some,if_true])
  go_wp2_with (first|go_skip|(refine Cel.zac SE rfl _ _ rfl w4 _ _ rfl v _ rfl rfl rfl rfl ?_;intro w5 B5 k5 g5 s5;have b5:=b4.trans (k5.mono b4.size);have R5:=R4.below k5;have IV5:=IV.below k5;clear g5 s5)|(refine Cel.zaa SE rfl _ rfl _ rfl v B5 ?_)|(refine Cel.zad SE rfl _ _ rfl w.heap.size rfl noV R5 v rfl ?_;intro w9 R9 f9 g9 s9))
  obtain⟨r0,r1,r2⟩:=zam R9
  exact bodyPost_ret (v:=.tuple #[.agg (sc v),.int .i64 0]) (by simp[results,Tryz.results15,go_sem,r0,r1,r2,sc]) rfl ⟨v,rfl,HV.out,IV5.kept R5 g9,b5.trans (f9 _ (Nat.le_refl _))⟩
 ·have hev:atE (zar l) a=none:=if_neg C
  rw[hev]
  rw[decide_eq_false C]at q1
  clear C hev
  go_enter Tryz.func15,Tryz.ntmps15
  go_wp2_with (first|go_skip)
  refine q1.mono ?_
  clear q1
  rintro e w1 ⟨rfl,k1⟩
  have b1:=kb.trans (k1.mono kb.size)
  have R1:=R0.below k1
  clear R0 kb k1
  go_wp2_with (first|go_skip|(refine Cel.zad SE rfl _ _ rfl w.heap.size rfl noV R1 noV rfl ?_;intro w9 R9 f9 g9 s9))
  obtain⟨r0,r1,r2⟩:=zam R9
  exact bodyPost_ret (v:=.tuple #[.agg (sc noV),.int .i64 1]) (by simp[results,Tryz.results15,go_sem,r0,r1,r2,sc]) rfl ⟨noV,rfl,rfl,In.none _,b1.trans (f9 _ (Nat.le_refl _))⟩
end Go.Proofs.YtgmdhaepiclkcaaGreatDoor.EaU
namespace Go.Proofs.YtgmdhaepiclkcaaGreatDoor.EbT
set_option maxHeartbeats 32000000
set_option maxRecDepth 100000
open Go Go.Sort Go.RowKit Byt IdM IdW OpsM OpsW CmM StW CmW CmX CmY CmA DgM DgW DgR DgF DgG FrM FrN FrJ FrH FrU EaM EaN EaH EaW
open Classical
theorem walk (E:Two) (HA:EaA.zmr) (a0:Option Addr) (cap0:Nat) (l0:List Cv) (a1:Option Addr) (cap1:Nat) (l1:List Idn) (w:World) (S:SlK w a0 cap0 l0) (T:SlI w a1 cap1 l1) (K:ShaE.KIn w):
  Calls Tryz.prog 3 #[.slice a0 l0.length cap0,.slice a1 l1.length cap1] w fun e w'=>e=.returned (.bool true)∧Below w.heap.size w w':=by
 have hmax:=S.len
 have hmax1:l1.length≤9223372036854775807:=by have:=T.1;have:=T.2.1;unfold maxLen at this;omega
 have b:=Below.refl w.heap.size w
 go_enter Tryz.func3,Tryz.ntmps3
 have qs:=HA _ K
 go_wp2_with (first|go_skip)
 refine qs.mono ?_
 clear qs
 rintro e wx ⟨rfl,kx⟩
 replace S:=S.below kx;replace T:=T.below kx;replace K:=K.below kx;replace b:=b.trans (kx.mono b.size);clear kx
 go_wp2_with (first|go_skip)
 obtain⟨f,hf⟩:∃f,fewD (zar l0) 10=f:=⟨_,rfl⟩
 have qs:=DgR.zk6 a0 cap0 l0 10 _ S
 rw[hf]at qs
 refine qs.mono ?_
 clear qs
 rintro e w2 ⟨rfl,kx⟩
 replace S:=S.below kx;replace T:=T.below kx;replace K:=K.below kx;replace b:=b.trans (kx.mono b.size);clear kx
 cases f with
 |false=>
  go_wp2_with (first|go_skip)
  go_ret
  exact⟨rfl,b⟩
 |true=>
  by_cases p1:(20:Int)<l1.length
  case pos=>
   go_wp2_with (first|go_skip)
   go_ret
   exact⟨rfl,b⟩
  case neg=>
   obtain⟨ho,hl⟩:=zqj (fun v hv=>(S.each v hv).2) hf
   have hl2:l0.length≤1000:=by omega
   have hl1:l0.length≤100:=by omega
   have HO:=aside ho
   clear ho hf
   have n1:l1.length≤20:=by omega
   have hz0:∀z:Int,(z == z)=true:=fun z=>by simp
   obtain⟨r,hr⟩:∃r,zh3 (zar l0)=r:=⟨_,rfl⟩
   obtain⟨z,hz⟩:∃z:Int,(if r.isSome=true then 0 else 1)=z:=⟨_,rfl⟩
   obtain⟨q,hq⟩:∃q,atE (zar l0) l1=q:=⟨_,rfl⟩
   obtain⟨y,hy⟩:∃y:Int,(if q.isSome=true then 0 else 1)=y:=⟨_,rfl⟩
   have HR:=aside hr
   have HZ:=aside hz
   have HQ:=aside hq
   have HY:=aside hy
   have hzz:=hz0 z
   have hyy:=hz0 y
   clear hr hz hq hy hz0
   have qs:=E.eval a0 cap0 l0 _ S (by omega) K
   unfold StW.New at qs
   simp only[HR.out,HZ.out]at qs
   go_wp2_with (first|go_skip)
   refine qs.mono ?_
   clear qs
   rintro e wx ⟨v0,rfl,h0,I0,kx⟩
   have H0:=aside h0
   clear h0
   replace S:=S.below kx;replace T:=T.below kx;replace K:=K.below kx;replace b:=b.trans (kx.mono b.size);clear kx
   go_wp2_with (first|go_skip|(refine Cel.zac SE rfl _ _ rfl wx _ _ rfl v0 _ rfl rfl rfl rfl ?_;intro wy B0 ky g4 s4;clear g4 s4))
   replace S:=S.below ky;replace T:=T.below ky;replace K:=K.below ky;replace I0:=I0.below ky;replace b:=b.trans (ky.mono b.size);clear ky
   have qs:=EaT.zfY a0 cap0 l0 _ S HO.out hl2
   unfold StW.New at qs
   simp only[HR.out,HZ.out]at qs
   go_wp2_with (first|go_skip)
   refine qs.mono ?_
   clear qs
   rintro e wx ⟨v1,rfl,h1,I1,kx⟩
   have H1:=aside h1
   clear h1
   replace S:=S.below kx;replace T:=T.below kx;replace K:=K.below kx;replace I0:=I0.below kx;replace B0:=B0.below kx;replace b:=b.trans (kx.mono b.size);clear kx
   go_wp2_with (first|go_skip|(refine Cel.zac SE rfl _ _ rfl wx _ _ rfl v1 _ rfl rfl rfl rfl ?_;intro wy B1 ky g4 s4;clear g4 s4))
   replace S:=S.below ky;replace T:=T.below ky;replace K:=K.below ky;replace I0:=I0.below ky;replace B0:=B0.below ky;replace I1:=I1.below ky;replace b:=b.trans (ky.mono b.size);clear ky
   have qs:=E.at_ a0 a1 cap0 cap1 l0 l1 _ S T hl2 (by omega) K
   unfold StW.New at qs
   simp only[HQ.out,HY.out]at qs
   go_wp2_with (first|go_skip)
   refine qs.mono ?_
   clear qs
   rintro e wx ⟨v2,rfl,h2,I2,kx⟩
   have H2:=aside h2
   clear h2
   replace S:=S.below kx;replace T:=T.below kx;replace K:=K.below kx;replace I0:=I0.below kx;replace B0:=B0.below kx;replace I1:=I1.below kx;replace B1:=B1.below kx;replace b:=b.trans (kx.mono b.size);clear kx
   go_wp2_with (first|go_skip|(refine Cel.zac SE rfl _ _ rfl wx _ _ rfl v2 _ rfl rfl rfl rfl ?_;intro wy B2 ky g4 s4;clear g4 s4))
   replace S:=S.below ky;replace T:=T.below ky;replace K:=K.below ky;replace I0:=I0.below ky;replace B0:=B0.below ky;replace I1:=I1.below ky;replace B1:=B1.below ky;replace I2:=I2.below ky;replace b:=b.trans (ky.mono b.size);clear ky
   have qs:=EaU.at_ret a0 a1 cap0 cap1 l0 l1 _ S T HO.out hl2
   unfold StW.New at qs
   simp only[HQ.out,HY.out]at qs
   go_wp2_with (first|go_skip)
   refine qs.mono ?_
   clear qs
   rintro e wx ⟨v3,rfl,h3,I3,kx⟩
   have H3:=aside h3
   clear h3
   replace S:=S.below kx;replace T:=T.below kx;replace K:=K.below kx;replace I0:=I0.below kx;replace B0:=B0.below kx;replace I1:=I1.below kx;replace B1:=B1.below kx;replace I2:=I2.below kx;replace B2:=B2.below kx;replace b:=b.trans (kx.mono b.size);clear kx
   go_wp2_with (first|go_skip|(refine Cel.zac SE rfl _ _ rfl wx _ _ rfl v3 _ rfl rfl rfl rfl ?_;intro wy B3 ky g4 s4;clear g4 s4;have B0':=B0.below ky;have B1':=B1.below ky)|(refine Cel.zaa SE rfl _ rfl _ rfl v0 B0' ?_)|(refine Cel.zaa SE rfl _ rfl _ rfl v1 B1' ?_))
   clear B0' B1'
   replace S:=S.below ky;replace T:=T.below ky;replace K:=K.below ky;replace I0:=I0.below ky;replace B0:=B0.below ky;replace I1:=I1.below ky;replace B1:=B1.below ky;replace I2:=I2.below ky;replace B2:=B2.below ky;replace I3:=I3.below ky;replace b:=b.trans (ky.mono b.size);clear ky
   have qs:=fun W I J=>StR.zdj v0 v1 W I J
   simp only[H0.out,H1.out,zcy]at qs
   refine(qs _ I0 I1).mono ?_
   clear qs
   rintro e wx ⟨rfl,kx⟩
   replace S:=S.below kx;replace T:=T.below kx;replace K:=K.below kx;replace I0:=I0.below kx;replace B0:=B0.below kx;replace I1:=I1.below kx;replace B1:=B1.below kx;replace I2:=I2.below kx;replace B2:=B2.below kx;replace I3:=I3.below kx;replace B3:=B3.below kx;replace b:=b.trans (kx.mono b.size);clear kx
   have qs:=fun W I J=>StR.zdj v2 v3 W I J
   simp only[H2.out,H3.out,zcy]at qs
   go_wp2_with (first|go_skip|(refine Cel.zaa SE rfl _ rfl _ rfl v2 B2 ?_)|(refine Cel.zaa SE rfl _ rfl _ rfl v3 B3 ?_))
   refine(qs _ I2 I3).mono ?_
   clear qs
   rintro e wx ⟨rfl,kx⟩
   replace S:=S.below kx;replace T:=T.below kx;replace K:=K.below kx;replace I0:=I0.below kx;replace B0:=B0.below kx;replace I1:=I1.below kx;replace B1:=B1.below kx;replace I2:=I2.below kx;replace B2:=B2.below kx;replace I3:=I3.below kx;replace B3:=B3.below kx;replace b:=b.trans (kx.mono b.size);clear kx
   go_wp2_with (first|go_skip)
   go_ret
   exact⟨rfl,b⟩
end Go.Proofs.YtgmdhaepiclkcaaGreatDoor.EbT
