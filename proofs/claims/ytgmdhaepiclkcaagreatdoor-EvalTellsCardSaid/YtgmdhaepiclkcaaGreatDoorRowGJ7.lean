/- One struct read whole inside a region that draws its order, whatever i | One struct read whole inside a region that draws its order, guarded or | How a reading gives a slice of structs that came in | How a reading gives an id, and a slice of ids, that came in | How a reading gives an operation that came in | How a reading gives a commit that came in | Lists of commits in memory -/
import Derived.Test.YtgmdhaepiclkcaaGreatDoorRowBJ9
import Derived.Test.YtgmdhaepiclkcaaGreatDoorGrowJ9
import Derived.Test.YtgmdhaepiclkcaaGreatDoorOpsCJ2
import Derived.ProofKit
import Derived.OpenShut
import Derived.WideShapes
import Derived.Test.YtgmdhaepiclkcaaGreatDoorIdWJ3
import Derived.Lib.SmallJoins
import Derived.Test.YtgmdhaepiclkcaaGreatDoorRefWJ6
import Derived.Test.YtgmdhaepiclkcaaGreatDoorRegLJ5
import Derived.Test.YtgmdhaepiclkcaaGreatDoorRefEJ9
namespace Go.Proofs.YtgmdhaepiclkcaaGreatDoor.RowG
set_option maxRecDepth 100000
open Go Go.RowKit Byt RowS RowB
variable {α:Type}
theorem zeS (E:Enc α) {w:World} {b off:Nat} {y:α} (h:w.rangeAt b off (E.enc y)):(Instr.loadAt E.T (.pointer (some ⟨b,off,none⟩))).run Tryz.prog w=.ok (.agg (E.enc y).toArray) w:=
 run_loadAt_mid w b off E.T (E.enc y) _ h E.under E.row (E.size y)
theorem zgI (E:Enc α) {ops:Array Oper} {C:World→Prop} {Q:Act→Prop} {a:Act} {o:Oper} {rest:List Oper} (hgd:o.guard=none) (x:Operand) (ho:o.op=.load E.T x)
  (b off:Nat) (hx:a.eval x=.pointer (some ⟨b,off,none⟩)) (y:α) (hc:∀w,C w→w.rangeAt b off (E.enc y)) (h:wpQuiet Tryz.prog ops C Q rest (a.put o.dst (.agg (E.enc y).toArray))):wpQuiet Tryz.prog ops C Q (o::rest) a:=by
 refine BigFrame.wpQuiet_want (by simp[Region.wanted,hgd]) (fun K hK=>⟨.agg (E.enc y).toArray,fun w hw=>?_,hK _ h⟩)
 have q:=zeS E (hc w hw)
 unfold Oper.quietAt execOp
 simp only[ho,hx,Sem.run_bind,q,Result.andThen_ok,Sem.run_pure]
 exact⟨rfl,rfl⟩
theorem zaJ (E:Enc α) {l:List Oper} {i:Nat} {o:Oper} {r:List (Nat×Bool)} {a:Act} {w:World} {Q:Exit→Act→World→Prop} (hn:Grow.nth l i=some o) (hgd:o.guard=none) (x:Operand) (ho:o.op=.load E.T x)
  (b off:Nat) (hx:a.eval x=.pointer (some ⟨b,off,none⟩)) (y:α) (hc:w.rangeAt b off (E.enc y)) (h:Grow.Seq Tryz.prog l.toArray Q r (a.put o.dst (.agg (E.enc y).toArray)) w):Grow.Seq Tryz.prog l.toArray Q ((i,true)::r) a w:=
 Grow.reads hn (by unfold Grow.plain;rw[ho]) (zgI E hgd x ho b off hx y (fun _ ⟨p,e⟩=>by rw[e];exact zab hc (below_regrown w p.d p.os)) (wpQuiet_nil h))
end Go.Proofs.YtgmdhaepiclkcaaGreatDoor.RowG
namespace Go.Proofs.YtgmdhaepiclkcaaGreatDoor.RowK
set_option maxRecDepth 100000
open Go Go.Sort Go.RowKit Byt RowS RowB RowG
variable {α:Type}
theorem zaB (E:Enc α) {a:Act} {o:Oper} {K:Act→Prop} {w:World} (x:Operand) (ho:o.op=.load E.T x)
  (b off:Nat) (hx:a.eval x=.pointer (some ⟨b,off,none⟩)) (y:α) (hc:w.rangeAt b off (E.enc y)) (hk:K (a.put o.dst (.agg (E.enc y).toArray))):o.quiet Tryz.prog a (fun w'=>∃p:Regrown,w'=grow (redrawn w p.d) p.os) K:=by
 refine⟨.agg (E.enc y).toArray,fun u hu=>?_,hk⟩
 obtain⟨p,rfl⟩:=hu
 have q:=zeS E (zab hc (below_regrown w p.d p.os))
 unfold Oper.quietAt execOp
 simp only[ho,hx,Sem.run_bind,q,Result.andThen_ok,Sem.run_pure]
 exact⟨rfl,rfl⟩
end Go.Proofs.YtgmdhaepiclkcaaGreatDoor.RowK
namespace Go.Proofs.YtgmdhaepiclkcaaGreatDoor.OpenR
set_option maxRecDepth 100000
open Go Go.ChangeShapes Go.WideShapes Go.ChangeAt Go.RowKit Byt RowS
section
variable {H:Type} {enc:TypeId×Value→H} {W:World} {base:Nat} {α:Type}
theorem zgg {p:Nat→α→Prop}:∀n:Nat,(∀i,i<n→∃x,p i x)→∃l:List α,l.length=n∧∀i x,l[i]?=some x→p i x
 |0,_=>⟨[],rfl,fun i x hx=>by simp at hx⟩
 |n+1,h=>by
  obtain⟨l,hl,hp⟩:=zgg n (fun i hi=>h i (by omega))
  obtain⟨x,hx⟩:=h n (by omega)
  refine⟨l++[x],by simp[hl],fun i y hy=>?_⟩
  by_cases hin:i<n
  ·rw[List.getElem?_append_left (by omega)]at hy
   exact hp i y hy
  ·rw[List.getElem?_append_right (by omega),hl]at hy
   have hi:i - n=0:=by
    have:=(List.getElem?_eq_some_iff.1 hy).1
    simpa using this
   rw[hi]at hy
   obtain rfl:x=y:=by simpa using hy
   rw[show i=n by omega]
   exact hx
theorem zmV (E:Enc α) {l:List α} {i:Nat} {v:Value} (h:(flat E l)[i]?=some v):∃m j x,i=m * E.k+j∧l[m]?=some x∧(E.enc x)[j]?=some v:=by
 have hi:=(List.getElem?_eq_some_iff.1 h).1
 rw[flat_length]at hi
 have hp:=E.pos
 have hm:i / E.k<l.length:=(Nat.div_lt_iff_lt_mul hp).2 hi
 have hx:l[i / E.k]?=some l[i / E.k]:=List.getElem?_eq_getElem hm
 have hj:i % E.k<(E.enc l[i / E.k]).length:=by rw[E.len];exact Nat.mod_lt _ hp
 have hv:(E.enc l[i / E.k])[i % E.k]?=some ((E.enc l[i / E.k])[i % E.k]'hj):=List.getElem?_eq_getElem hj
 have e:i=i / E.k * E.k+i % E.k:=by rw[Nat.mul_comm];exact(Nat.div_add_mod i E.k).symm
 have:=zcd E l _ _ _ _ hx hv
 rw[←e,h]at this
 exact⟨_,_,_,e,hx,by rw[hv];exact this.symm⟩
theorem znY (E:Enc α) {good:α→Prop} (hC: Tryz.prog.cellsOf E.T=E.k)
  (hread:∀(fuel:Nat) (cs:List Value) (y:DataW H×List MemPlace),DataW.trod enc Tryz.prog W 0 (fun _=>true) true fuel E.T cs=some y→∃x,cs=E.enc x∧good x) {v:Value} {d:DataW H} {p:List MemPlace}
  (hval:Value.okWide Tryz.prog W .any base E.S v) (h:DataW.Trod enc Tryz.prog W 0 (fun _=>true) true E.S v d p):∃A cap l,v=.slice A (List.length l) cap∧SlR E W A cap l∧∀x ∈ l,good x:=by
 obtain⟨a,len,cap,rfl⟩:=okWide_slice E.slice hval
 obtain⟨fuel,hf⟩:=h
 rcases DataW.trod_slice E.slice hf with⟨hcs,_⟩|⟨x,len',cap',elems,rest,n,_,hcs,_,_,hl,hm,hel,hcell,_,_⟩
 ·simp[Value.cells]at hcs
  obtain⟨rfl,rfl,rfl⟩:=hcs
  exact⟨none,0,[],rfl,SlR.nil E W,by simp⟩
 ·simp[Value.cells]at hcs
  obtain⟨rfl,rfl,rfl⟩:=hcs
  rw[hC]at hcell
  have key:∀i,i<len→∃y:α,good y∧∀j u,(E.enc y)[j]?=some u→W.cell? (x.add (i * E.k+j))=some u:=by
   intro i hi
   have hi1:=hcell i hi
   rw[List.getElem?_eq_getElem (by omega)]at hi1
   rw[Option.bind_eq_some_iff]at hi1
   obtain⟨cl,hcl,htr⟩:=hi1
   obtain⟨y,rfl,hy⟩:=hread _ _ _ htr
   refine⟨y,hy,fun j u hj=>?_⟩
   obtain⟨_,_,hg⟩:=World.cells?_some hcl
   have hjl:=(List.getElem?_eq_some_iff.1 hj).1
   rw[E.len]at hjl
   have:=hg j hjl
   rw[Addr.add_add,hj]at this
   exact this
  obtain⟨l,hll,hp⟩:=zgg len key
  refine⟨some x,cap,l,by rw[hll],⟨by omega,hm,.inr ⟨x,rfl,fun i u hu=>?_⟩⟩,fun y hy=>?_⟩
  ·obtain⟨m,j,y,rfl,hy,hj⟩:=zmV E hu
   exact(hp m y hy).2 j u hj
  ·obtain⟨i,hi⟩:=List.mem_iff_getElem?.1 hy
   exact(hp i y hi).1
end
end Go.Proofs.YtgmdhaepiclkcaaGreatDoor.OpenR
namespace Go.Proofs.YtgmdhaepiclkcaaGreatDoor.OpenI
set_option maxRecDepth 100000
open Go Go.ChangeShapes Go.WideShapes Go.ChangeAt Go.RowKit IdM Byt IdW
section
variable {H:Type} {enc:TypeId×Value→H} {P:Program} {t e:TypeId} {W:World} {base:Nat}
theorem zmi (ht:P.underlying t=some (.array 32 e)) (he:P.underlying e=some (.int .u8)) (hc:P.cellsOf e=1) (hC:P.cellsOf t=32) {sp:Nat→Bool} {hd:Bool} {fuel:Nat} {l:List Value} {x:DataW H×List MemPlace}
  (hf:DataW.trod enc P W base sp hd fuel t l=some x):∃y:Idn,l=bv y.1:=by
 obtain⟨xs,m,_,_,hlen,hn,hel⟩:=DataW.trod_array ht hf
 rw[hC]at hlen
 have key:∀i,i<32→∃n:Int,l[i]?=some (.int .u8 n)∧0≤n∧n≤255:=by
  intro i hi
  have hi1:=hel i hi
  rw[List.getElem?_eq_getElem (by omega)]at hi1
  obtain⟨n,e1,_,hw⟩:=DataW.trod_int he hi1
  have hb:=zpm hw
  unfold B at hb
  refine⟨n,?_,hb⟩
  rw[hc,Nat.mul_one]at e1
  have e3:=congrArg (fun l=>l[0]?) e1
  simpa using e3
 have hl:(List.map (fun i=>(l[i]?).elim 0 fun v=>match v with|.int _ n=>n|_=>0) (List.range 32)).length=32:=by simp
 refine⟨⟨List.map (fun i=>(l[i]?).elim 0 fun v=>match v with|.int _ n=>n|_=>0) (List.range 32),hl,fun n hn=>?_⟩,?_⟩
 ·simp only[List.mem_map,List.mem_range]at hn
  obtain⟨i,hi,rfl⟩:=hn
  obtain⟨n,e,hb⟩:=key i hi
  rw[e]
  exact hb
 ·apply List.ext_getElem?
  intro i
  by_cases hi:i<32
  ·obtain⟨n,e,_⟩:=key i hi
   rw[e,zcA _ (by simpa using hi)]
   simp[List.getD_eq_getElem?_getD,hi,e]
  ·rw[List.getElem?_eq_none (by omega),List.getElem?_eq_none (by rw[zav];simp;omega)]
theorem zgg {p:Nat→Idn→Prop}:∀n:Nat,(∀i,i<n→∃x,p i x)→∃l:List Idn,l.length=n∧∀i,i<n→p i (l.getD i nought)
 |0,_=>⟨[],rfl,fun i hi=>absurd hi (Nat.not_lt_zero i)⟩
 |n+1,h=>by
  obtain⟨l,hl,hp⟩:=zgg n (fun i hi=>h i (by omega))
  obtain⟨x,hx⟩:=h n (by omega)
  refine⟨l++[x],by simp[hl],fun i hi=>?_⟩
  rw[List.getD_eq_getElem?_getD]
  by_cases hin:i<n
  ·rw[List.getElem?_append_left (by omega),←List.getD_eq_getElem?_getD]
   exact hp i hin
  ·have:i=n:=by omega
   subst this
   rw[List.getElem?_append_right (by omega),hl,Nat.sub_self]
   exact hx
theorem open_ids {s:TypeId} (hs:P.underlying s=some (.slice t)) (ht:P.underlying t=some (.array 32 e)) (he:P.underlying e=some (.int .u8)) (hc:P.cellsOf e=1) (hC:P.cellsOf t=32) {v:Value} {d:DataW H} {p:List MemPlace}
  (hval:Value.okWide P W .any base s v) (h:DataW.Trod enc P W 0 (fun _=>true) true s v d p):∃A cap l,v=.slice A (List.length l) cap∧SlI W A cap l:=by
 obtain⟨a,len,cap,rfl⟩:=okWide_slice hs hval
 obtain⟨fuel,hf⟩:=h
 rcases DataW.trod_slice hs hf with⟨hcs,_⟩|⟨x,len',cap',elems,rest,n,_,hcs,_,_,hl,hm,hel,hcell,_,_⟩
 ·simp[Value.cells]at hcs
  obtain⟨rfl,rfl,rfl⟩:=hcs
  exact⟨none,0,[],rfl,SlI.nil W⟩
 ·simp[Value.cells]at hcs
  obtain⟨rfl,rfl,rfl⟩:=hcs
  rw[hC]at hcell
  have key:∀i,i<len→∃y:Idn,∀j,j<32→W.cell? (x.add (i * 32+j))=some (.int .u8 (y.1.getD j 0)):=by
   intro i hi
   have hi1:=hcell i hi
   rw[List.getElem?_eq_getElem (by omega)]at hi1
   rw[Option.bind_eq_some_iff]at hi1
   obtain⟨cl,hcl,htr⟩:=hi1
   obtain⟨y,rfl⟩:=zmi ht he hc hC htr
   refine⟨y,fun j hj=>?_⟩
   obtain⟨_,_,hg⟩:=World.cells?_some hcl
   have:=hg j hj
   rw[Addr.add_add,zcA _ (by rw[zaK];exact hj)]at this
   exact this
  obtain⟨l,hll,hp⟩:=zgg len key
  refine⟨some x,cap,l,by rw[hll],by omega,hm,.inr ⟨x,rfl,fun i hi=>?_⟩⟩
  rw[flat_length,hll]at hi
  have f:=zcd l (i / 32) (i % 32) (by rw[hll];omega) (by omega)
  have q:=hp (i / 32) (by omega) (i % 32) (by omega)
  rw[show i / 32 * 32+i % 32=i by omega]at f q
  rw[q,f]
end
end Go.Proofs.YtgmdhaepiclkcaaGreatDoor.OpenI
namespace Go.Proofs.YtgmdhaepiclkcaaGreatDoor.OpenO
set_option maxRecDepth 100000
open Go Go.Deep Go.Joins Go.ChangeShapes Go.WideShapes Go.ChangeAt Go.RowKit Byt OpsM OpsW OpsC
theorem zhV {n:Int} (h:(Lit.int .i64 n).wf=true):I64 n:=by
 unfold I64
 simpa[Lit.wf,IntKind.min,IntKind.max,IntKind.bits,IntKind.signed]using h
end Go.Proofs.YtgmdhaepiclkcaaGreatDoor.OpenO
namespace Go.Proofs.YtgmdhaepiclkcaaGreatDoor.OpenK
set_option maxRecDepth 100000
open Go Go.Deep Go.ChangeShapes Go.WideShapes Go.ChangeAt Go.RowKit IdM Byt IdW OpsM OpsW CmM StW CmW
section
variable {H:Type} {enc:TypeId×Value→H} {W:World}
theorem zpY {P:Program} {t e s:TypeId} (hs:P.underlying s=some (.slice t)) (ht:P.underlying t=some (.array 32 e)) (he:P.underlying e=some (.int .u8)) (hc:P.cellsOf e=1) (hC:P.cellsOf t=32) (fuel:Nat) (cs:List Value) (y:DataW H×List MemPlace)
  (hf:DataW.trod enc P W 0 (fun _=>true) true fuel s cs=some y):∃A cap l,cs=[.slice A (List.length l) cap]∧SlI W A cap l:=by
 rcases DataW.trod_slice hs hf with⟨rfl,_⟩|⟨x,len,cap,elems,rest,n,_,rfl,_,_,hl,hm,hel,hcell,_,_⟩
 ·exact⟨none,0,[],rfl,SlI.nil W⟩
 ·rw[hC]at hcell
  have key:∀i,i<len→∃y:Idn,∀j,j<32→W.cell? (x.add (i * 32+j))=some (.int .u8 (y.1.getD j 0)):=by
   intro i hi
   have hi1:=hcell i hi
   rw[List.getElem?_eq_getElem (by omega)]at hi1
   rw[Option.bind_eq_some_iff]at hi1
   obtain⟨cl,hcl,htr⟩:=hi1
   obtain⟨y,rfl⟩:=OpenI.zmi ht he hc hC htr
   refine⟨y,fun j hj=>?_⟩
   obtain⟨_,_,hg⟩:=World.cells?_some hcl
   have:=hg j hj
   rw[Addr.add_add,zcA _ (by rw[zaK];exact hj)]at this
   exact this
  obtain⟨l,hll,hp⟩:=OpenI.zgg len key
  refine⟨some x,cap,l,by rw[hll],by omega,hm,.inr ⟨x,rfl,fun i hi=>?_⟩⟩
  rw[flat_length,hll]at hi
  have f:=zcd l (i / 32) (i % 32) (by rw[hll];omega) (by omega)
  have q:=hp (i / 32) (by omega) (i % 32) (by omega)
  rw[show i / 32 * 32+i % 32=i by omega]at f q
  rw[q,f]
theorem read_ev {t:TypeId} {f0 f1:Field} (hs: Tryz.prog.underlying t=some (.struct #[f0,f1])) (hC: Tryz.prog.cellsOf t=2)
  (o0:f0.offset=0) (o1:f1.offset=1) (k0: Tryz.prog.cellsOf f0.type=1) (k1: Tryz.prog.cellsOf f1.type=1)
  (h0: Tryz.prog.underlying f0.type=some (.int .i64)) (h1: Tryz.prog.underlying f1.type=some (.int .i64)) (fuel:Nat) (cs:List Value) (y:DataW H×List MemPlace)
  (h:DataW.trod enc Tryz.prog W 0 (fun _=>true) true fuel t cs=some y):∃m n:Int,cs=[.int .i64 m,.int .i64 n]∧I64 m∧I64 n:=by
 obtain⟨xs,n,_,_,hl,hlen,hf⟩:=DataW.trod_struct hs h
 rw[hC]at hl
 obtain⟨a,b,rfl⟩:∃a b,cs=[a,b]:=by
  match cs,hl with
  |[a,b],_=>exact⟨a,b,rfl⟩
 obtain⟨y0,y1,rfl⟩:∃a b,xs=[a,b]:=by
  match xs,hlen with
  |[a,b],_=>exact⟨a,b,rfl⟩
 have e0:=hf 0 f0 rfl
 have e1:=hf 1 f1 rfl
 rw[o0,k0]at e0
 rw[o1,k1]at e1
 simp only[List.drop_zero,List.take_succ_cons,List.take_zero,List.drop_succ_cons,List.getElem?_cons_zero,List.getElem?_cons_succ]at e0 e1
 obtain⟨s,q0,_,w0⟩:=DataW.trod_int h0 e0
 obtain⟨m,q1,_,w1⟩:=DataW.trod_int h1 e1
 simp only[List.cons.injEq,and_true]at q0 q1
 subst q0 q1
 exact⟨s,m,rfl,OpenO.zhV w0,OpenO.zhV w1⟩
theorem read_op {t:TypeId} {f0 f1 f2 f3:Field} (hs: Tryz.prog.underlying t=some (.struct #[f0,f1,f2,f3])) (hC: Tryz.prog.cellsOf t=4)
  (o0:f0.offset=0) (o1:f1.offset=1) (o2:f2.offset=2) (o3:f3.offset=3) (k0: Tryz.prog.cellsOf f0.type=1) (k1: Tryz.prog.cellsOf f1.type=1) (k2: Tryz.prog.cellsOf f2.type=1) (k3: Tryz.prog.cellsOf f3.type=1)
  (h0: Tryz.prog.underlying f0.type=some (.int .i64)) (h1: Tryz.prog.underlying f1.type=some .string) (h2: Tryz.prog.underlying f2.type=some .string) (h3: Tryz.prog.underlying f3.type=some (.int .i64)) (fuel:Nat) (cs:List Value) (y:DataW H×List MemPlace)
  (h:DataW.trod enc Tryz.prog W 0 (fun _=>true) true fuel t cs=some y):∃o:Opn,cs=(opc o).toList∧OpsC.Fit o:=by
 obtain⟨xs,n,_,_,hl,hlen,hf⟩:=DataW.trod_struct hs h
 rw[hC]at hl
 obtain⟨a,b,c,d,rfl⟩:∃a b c d,cs=[a,b,c,d]:=by
  match cs,hl with
  |[a,b,c,d],_=>exact⟨a,b,c,d,rfl⟩
 obtain⟨y0,y1,y2,y3,rfl⟩:∃a b c d,xs=[a,b,c,d]:=by
  match xs,hlen with
  |[a,b,c,d],_=>exact⟨a,b,c,d,rfl⟩
 have e0:=hf 0 f0 rfl
 have e1:=hf 1 f1 rfl
 have e2:=hf 2 f2 rfl
 have e3:=hf 3 f3 rfl
 rw[o0,k0]at e0
 rw[o1,k1]at e1
 rw[o2,k2]at e2
 rw[o3,k3]at e3
 simp only[List.drop_zero,List.take_succ_cons,List.take_zero,List.drop_succ_cons,List.getElem?_cons_zero,List.getElem?_cons_succ]at e0 e1 e2 e3
 obtain⟨s,q0,_,w0⟩:=DataW.trod_int h0 e0
 obtain⟨s1,q1,_,w1⟩:=DataW.trod_string h1 e1
 obtain⟨s2,q2,_,w2⟩:=DataW.trod_string h2 e2
 obtain⟨m,q3,_,w3⟩:=DataW.trod_int h3 e3
 simp only[List.cons.injEq,and_true]at q0 q1 q2 q3
 subst q0 q1 q2 q3
 exact⟨⟨s,s1,s2,m⟩,rfl,⟨OpenO.zhV w0,OpenO.zhV w3,w1,w2⟩⟩
theorem zkJ {t:TypeId} {f0 f1 f2 f3:Field} (hs: Tryz.prog.underlying t=some (.struct #[f0,f1,f2,f3])) (hC: Tryz.prog.cellsOf t=8)
  (o0:f0.offset=0) (o1:f1.offset=2) (o2:f2.offset=3) (o3:f3.offset=4) (k0: Tryz.prog.cellsOf f0.type=2) (k1: Tryz.prog.cellsOf f1.type=1) (k2: Tryz.prog.cellsOf f2.type=1) (k3: Tryz.prog.cellsOf f3.type=4)
  (t0:f0.type=43) (t1:f1.type=3) (t2:f2.type=23) (t3:f3.type=45) (fuel:Nat) (cs:List Value) (y:DataW H×List MemPlace)
  (h:DataW.trod enc Tryz.prog W 0 (fun _=>true) true fuel t cs=some y):∃v:Cv,cs=CE.enc v∧In W v∧Fit v.c:=by
 obtain⟨xs,n,_,_,hl,hlen,hf⟩:=DataW.trod_struct hs h
 rw[hC]at hl
 obtain⟨a,b,c,d,p,q,r,s,rfl⟩:∃a b c d p q r s,cs=[a,b,c,d,p,q,r,s]:=by
  match cs,hl with
  |[a,b,c,d,p,q,r,s],_=>exact⟨a,b,c,d,p,q,r,s,rfl⟩
 obtain⟨y0,y1,y2,y3,rfl⟩:∃a b c d,xs=[a,b,c,d]:=by
  match xs,hlen with
  |[a,b,c,d],_=>exact⟨a,b,c,d,rfl⟩
 have e0:=hf 0 f0 rfl
 have e1:=hf 1 f1 rfl
 have e2:=hf 2 f2 rfl
 have e3:=hf 3 f3 rfl
 rw[o0,k0,t0]at e0
 rw[o1,k1,t1]at e1
 rw[o2,k2,t2]at e2
 rw[o3,k3,t3]at e3
 simp only[List.drop_zero,List.take_succ_cons,List.take_zero,List.drop_succ_cons,List.getElem?_cons_zero,List.getElem?_cons_succ]at e0 e1 e2 e3
 obtain⟨m1,m2,q0,w0,w1⟩:=read_ev Tryz.underlying43 (by kernel_rfl) rfl rfl (by kernel_rfl) (by kernel_rfl) Tryz.underlying3 Tryz.underlying3 _ _ _ e0
 obtain⟨g,q1,_,w2⟩:=DataW.trod_int Tryz.underlying3 e1
 obtain⟨A,cap,l,q2,S⟩:=zpY Tryz.underlying23 Tryz.underlying56 Tryz.underlying5 (by kernel_rfl) (by kernel_rfl) _ _ _ e2
 obtain⟨o,q3,w3⟩:=read_op Tryz.underlying45 (by kernel_rfl) rfl rfl rfl rfl (by kernel_rfl) (by kernel_rfl) (by kernel_rfl) (by kernel_rfl) Tryz.underlying3 Tryz.underlying9 Tryz.underlying9 Tryz.underlying3 _ _ _ e3
 simp only[opc,List.cons.injEq,and_true]at q0 q1 q2 q3
 obtain⟨rfl,rfl⟩:=q0
 obtain rfl:=q1
 obtain rfl:=q2
 obtain⟨rfl,rfl,rfl,rfl⟩:=q3
 exact⟨⟨A,cap,⟨m1,m2,g,l,o⟩⟩,rfl,S,⟨w0,w1,OpenO.zhV w2,w3⟩⟩
theorem zpZ (fuel:Nat) (cs:List Value) (y:DataW H×List MemPlace)
  (h:DataW.trod enc Tryz.prog W 0 (fun _=>true) true fuel 47 cs=some y):∃v:Cv,cs=CE.enc v∧In W v∧Fit v.c:=
 zkJ Tryz.underlying47 (by kernel_rfl) rfl rfl rfl rfl (by kernel_rfl) (by kernel_rfl) (by kernel_rfl) (by kernel_rfl) rfl rfl rfl rfl fuel cs y h
end
end Go.Proofs.YtgmdhaepiclkcaaGreatDoor.OpenK
namespace Go.Proofs.YtgmdhaepiclkcaaGreatDoor.DgW
set_option maxRecDepth 100000
open Go Go.Sort Go.ChangeShapes Go.WideShapes Go.ChangeAt Go.RowKit Byt IdM IdW OpsM OpsW RowS CmM StW CmW CmX CmY
def KE:RowS.Enc Cv where
 T:=47
 S:=22
 k:=8
 bytes:=96
 d:=_
 enc v:=[.int .i64 v.c.node,.int .i64 v.c.seq,.int .i64 v.c.gen,.slice v.a v.c.ps.length v.k,.int .i64 v.c.op.kind,.string v.c.op.key,.string v.c.op.elem,.int .i64 v.c.op.n]
 zero:=noV
 len _:=rfl
 one c v hv:=by
  simp only[List.mem_cons,List.not_mem_nil,or_false]at hv
  rcases hv with rfl|rfl|rfl|rfl|rfl|rfl|rfl|rfl <;> rfl
 pos:=by omega
 small:=by omega
 info:=by kernel_rfl
 slice:=Tryz.underlying22
 under:=Tryz.underlying47
 row:=rfl
structure SlK (w:World) (A:Option Addr) (cap:Nat) (l:List Cv):Prop where
 row:SlR KE w A cap l
 each:∀v ∈ l,In w v∧Fit v.c
theorem SlK.below {w w':World} {A:Option Addr} {cap:Nat} {l:List Cv} (h:SlK w A cap l) (hb:Below w.heap.size w w'):SlK w' A cap l:=
 ⟨h.row.below hb,fun v hv=>⟨(h.each v hv).1.below hb,(h.each v hv).2⟩⟩
theorem SlK.nil (w:World):SlK w none 0 []:=⟨SlR.nil KE w,by simp⟩
def zar (l:List Cv):List Com:=l.map (·.c)
theorem zaw (l:List Cv):(zar l).length=l.length:=List.length_map ..
theorem zbH {l:List Cv} {i:Nat} {x:Cv} (h:l[i]?=some x):(zar l)[i]?=some x.c:=by
 unfold zar
 rw[List.getElem?_map,h]
 rfl
section
variable {H:Type} {enc:TypeId×Value→H} {W:World}
theorem open_coms {base:Nat} {v:Value} {d:DataW H} {p:List MemPlace}
  (hval:Value.okWide Tryz.prog W .any base 22 v) (h:DataW.Trod enc Tryz.prog W 0 (fun _=>true) true 22 v d p):∃A cap l,v=.slice A (List.length l) cap∧SlK W A cap l:=by
 obtain⟨A,cap,l,e,S,hg⟩:=OpenR.znY KE (good:=fun x=>In W x∧Fit x.c) (by kernel_rfl) (fun fuel cs y hh=>OpenK.zpZ fuel cs y hh) hval h
 exact⟨A,cap,l,e,S,hg⟩
end
def fewD (l:List Com) (m:Int):Bool:=decide ((l.length:Int)≤m)&&l.all zoI
theorem SlK.plain {w:World} {A:Option Addr} {cap:Nat} {l:List Cv} (h:SlK w A cap l) (hp:0<l.length):
  ∃b off,A=some ⟨b,off,none⟩∧b<w.heap.size∧∀i x,l[i]?=some x→w.rangeAt b (off+i * 8) (cc x).toList:=h.row.plain hp
theorem SlK.len {w:World} {A:Option Addr} {cap:Nat} {l:List Cv} (h:SlK w A cap l):l.length≤9223372036854775807:=by
 have h1:=h.row.1
 have h2:=h.row.2.1
 unfold maxLen at h2
 omega
theorem zaL {w w':World} {b off:Nat} {x:Cv} (h:w.rangeAt b off (cc x).toList) (hb:Below w.heap.size w w'):w'.rangeAt b off (cc x).toList:=RowS.zab h hb
section
variable {ops:Array Oper} {rest:List Oper} {o:Oper} {a:Act} {w:World} {Q:Exit→Act→World→Prop}
theorem zbF (hgd:o.guard=none) (x:Operand) (ho:o.op=.load 47 x)
  (b off:Nat) (hx:a.eval x=.pointer (some ⟨b,off,none⟩)) (y:Cv) (hc:w.rangeAt b off (cc y).toList) (h:wpList Tryz.prog ops Q rest (a.put o.dst (.agg (cc y))) w):wpList Tryz.prog ops Q (o::rest) a w:=
 RowS.zal KE hgd x ho b off hx y hc h
end
theorem drop_at {α:Type} {l:List α} {i:Nat} {x:α} (h:l[i]?=some x):l.drop i=x::l.drop (i+1):=by
 obtain⟨hi,e⟩:=List.getElem?_eq_some_iff.1 h
 rw[←e]
 exact List.drop_eq_getElem_cons hi
theorem zde {w:World} {ops:Array Oper} {rest:List Oper} {o:Oper} {a:Act} {Q:Exit→Act→World→Prop} (hgd:o.guard=none) (x:Operand) (ho:o.op=.buildSlice 23 1 #[(0,x)])
  (y:Idn) (hx:a.eval x=.agg (cs y)) (h:∀w1,SlI w1 (some ⟨w.heap.size,0,none⟩) 1 [y]→Below w.heap.size w w1→wpList Tryz.prog ops Q rest (a.put o.dst (.slice (some ⟨w.heap.size,0,none⟩) 1 1)) w1):wpList Tryz.prog ops Q (o::rest) a w:=
 IdB.zat hgd x ho y hx (h _ (SlI.zil w y _) ((Below.refl _ _).alloc (Nat.le_refl _) _))
def zgj (l:List Com):List Idn:=if l.all zbn=true then l.map zaj else[]
end Go.Proofs.YtgmdhaepiclkcaaGreatDoor.DgW
