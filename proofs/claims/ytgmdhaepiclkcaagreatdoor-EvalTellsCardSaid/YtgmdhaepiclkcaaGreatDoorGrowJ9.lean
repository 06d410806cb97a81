/- A region that draws its order, whose calls wait for one another, and i | What enc.Cut returns | Plain facts on texts in bytes | Which texts may be keys | Plain facts on operations | Ids as lists of thirty-two bytes | Which events may be | Plain facts on commits | Plain laws of the model that the walks need -/
import Derived.WalkKit
import Derived.BigQuiet
import Derived.Lib.QuietBelow
import Derived.OrdersHeld
import Derived.Test.YtgmdhaepiclkcaaGreatDoorShaDJ13
import Derived.Sort.Statements
import Derived.ChangeKeysEq
namespace Go.Proofs.YtgmdhaepiclkcaaGreatDoor.Grow
set_option maxRecDepth 100000
open Go Go.Sort Go.RowKit
section
variable {P:Program} {ops:Array Oper} {Q:Exit→Act→World→Prop} {md:Region.Mode}
def M (P:Program) (md:Region.Mode) (ops:Array Oper) (Q:Exit→Act→World→Prop):Nat→Array Bool→Act→World→Prop
 |0,listed,a,w=>Region.ready md ops listed=[]∧Q .normal a w
 |fuel+1,listed,a,w=>(Region.ready md ops listed=[]→Q .normal a w)∧
  ∀i ∈ Region.ready md ops listed,wpOp P ops Q i (fun a' w'=>Below w.heap.size w w'∧M P md ops Q fuel (listed.setIfInBounds i true) a' w') a w
theorem M.any:∀(fuel:Nat) (listed:Array Bool) (a:Act) (w:World),M P md ops Q fuel listed a w→wpAny P md ops Q fuel listed a w
 |0,_,_,_,h=>h
 |fuel+1,_,_,_,h=>⟨h.1,fun i hi=>wpOp_mono (fun a' w' h'=>M.any fuel _ a' w' h'.2) (h.2 i hi)⟩
theorem later {o:Oper} {v:Value} {a:Act} {w w':World} (h:YieldsIf P ops (Below w.heap.size w) o v a) (hb:Below w.heap.size w w'):YieldsIf P ops (Below w'.heap.size w') o v a:=
 h.imp (fun⟨h1,h2⟩=>⟨h1,fun u hu=>h2 u (hb.trans (hu.mono hb.size))⟩) id
theorem M.first {i:Nat} {oi:Oper} {v:Value} (hi:ops[i]?=some oi) (hs:Region.noSelect ops=true)
  (hQ:∀c a w,Q (.panic c) (a.put oi.dst v) w→Q (.panic c) a w) (fuel:Nat):
  ∀(listed:Array Bool) (a:Act) (w:World),
   (∀j oj,ops[j]?=some oj→j≠i→listed.getD j true=false→(∀e ∈ oj.after,Region.binds md e=true→e.on≠i)→oi.apart ops oj=true)→
   i ∈ Region.ready md ops listed→YieldsIf P ops (Below w.heap.size w) oi v a→
   M P md ops Q fuel (listed.setIfInBounds i true) (a.put oi.dst v) w→M P md ops Q (fuel+1) listed a w:=by
 have sel:=fun(j:Nat) (o:Oper) (cs:Array SelectCase) (b:Bool) (h:ops[j]?=some o)=>Region.noSelect_spec hs j o cs b h
 induction fuel with
 |zero=>
  intro listed a w _ hr hy H
  refine⟨fun h0=>absurd hr (by rw[h0];simp),fun j hj=>?_⟩
  by_cases e:j=i
  ·subst e
   exact hy.wpOp hi (Below.refl _ _) ⟨Below.refl _ _,H⟩
  ·exact absurd (ready_mono hj e) (by rw[H.1];simp)
 |succ fuel ih=>
  intro listed a w hf hr hy H
  refine⟨fun h0=>absurd hr (by rw[h0];simp),fun j hj=>?_⟩
  by_cases e:j=i
  ·subst e
   exact hy.wpOp hi (Below.refl _ _) ⟨Below.refl _ _,H⟩
  ·have hstep:=H.2 j (ready_mono hj e)
   obtain⟨hun,oj,hoj,hall⟩:=mem_ready.1 hj
   have hno:∀x ∈ oj.after,Region.binds md x=true→x.on≠i:=by
    intro x hx hb hxi
    have p1:=hall x hx hb
    have p0:=(mem_ready.1 hr).1
    rw[hxi]at p1
    by_cases hlt:i<listed.size
    ·simp[hlt]at p0 p1
     rw[p0]at p1
     cases p1
    ·simp[Array.getElem?_eq_none (Nat.le_of_not_lt hlt)]at p1
   refine wpOp_mono (fun a' w' h3=>⟨h3.2.1,?_⟩) (wpOp_putIf hoj (hf j oj hoj e hun hno) (fun cs b=>sel i oi cs b hi) (fun cs b=>sel j oj cs b hoj) hQ hy hstep)
   obtain⟨y1,y2,y3⟩:=h3
   refine ih (listed.setIfInBounds j true) a' w' (fun k ok hk hki hku hkn=>hf k ok hk hki ?_ hkn) (ready_mono hr (fun h=>e h.symm)) (later y1 y2) ?_
   ·by_cases ejk:j=k
    ·subst ejk;exact hun
    ·rwa[getD_set_ne true ejk]at hku
   ·rw[Array.setIfInBounds_comm _ _ e]
    exact y3
def plain (o:Oper):Bool:=match o.op with
 |.move _|.assign _|.pick .. |.load .. |.binOp .. |.unOp .. |.convert .. |.slice .. |.fieldAddr .. |.field .. |.indexAddr .. |.index .. |.lookup .. |.extract .. |.build .. |.makeInterface .. =>true
 |.call {callee:=.builtin .len,.. }|.call {callee:=.builtin .cap,.. }|.call {callee:=.builtin .min,.. }|.call {callee:=.builtin .max,.. }=>true
 |_=>false
theorem ziM {α:Type} {s:Sem α} {g:α→Value} {w w':World} {n:Next} (h:(do pure (Next.value (g (←s))):Sem Next).run P w=.ok n w'):∃v,n=.value v:=by
 rw[Sem.run_bind]at h
 cases hq:s.run P w with
 |ok x u=>
  rw[hq]at h
  simp[Result.andThen]at h
  exact⟨g x,h.1.symm⟩
 |halt x u=>rw[hq]at h;simp[Result.andThen]at h
theorem zcp {o:Oper} (hp:plain o=true) {ρ:Operand→Value} {w w':World} {n:Next} (h:(execOp ρ o).run P w=.ok n w'):∃v,n=.value v:=by
 unfold execOp at h
 unfold plain at hp
 cases hop:o.op <;> simp only[hop]at h hp
 case call c=>
  obtain⟨callee,args,argTypes⟩:=c
  cases callee with
  |builtin b=>
   cases b <;> first|(exfalso;simp at hp;done)|(simp only[resolve,Sem.run_bind,Sem.run_pure,Result.andThen_ok,invoke,builtin]at h;exact ziM (g:=id) (by rw[Sem.run_bind];exact h))
  |_=>exfalso;simp at hp
 case move x=>simp at h;exact⟨_,h.1.symm⟩
 case assign x=>simp at h;exact⟨_,h.1.symm⟩
 all_goals first|(cases hp;done)|exact ziM (g:=id) h|exact ziM h
def zb0 (md:Region.Mode) (ops:Array Oper):List (Nat×Bool)→Array Bool→Bool
 |[],listed=>(Region.ready md ops listed).isEmpty
 |(i,true)::r,listed=>(Region.ready md ops listed).contains i&&Region.free md ops listed i&&((ops[i]?).map plain).getD false&&zb0 md ops r (listed.setIfInBounds i true)
 |(i,false)::r,listed=>Region.ready md ops listed == [i]&&zb0 md ops r (listed.setIfInBounds i true)
def Seq (P:Program) (ops:Array Oper) (Q:Exit→Act→World→Prop):List (Nat×Bool)→Act→World→Prop
 |[],a,w=>Q .normal a w
 |(i,true)::r,a,w=>∃o,ops[i]?=some o∧∃v,YieldsIf P ops (Below w.heap.size w) o v a∧Seq P ops Q r (a.put o.dst v) w
 |(i,false)::r,a,w=>∃o,ops[i]?=some o∧wpList P ops (Exit.then (fun a' w'=>Below w.heap.size w w'∧Seq P ops Q r a' w') Q) [o] a w
theorem zdu (hs:Region.noSelect ops=true) (hQ:∀c a d v w,Q (.panic c) (a.put d v) w→Q (.panic c) a w):∀(l:List (Nat×Bool)) (listed:Array Bool) (a:Act) (w:World),
  zb0 md ops l listed=true→Seq P ops Q l a w→M P md ops Q l.length listed a w
 |[],listed,a,w,hB,h=>⟨by simpa[zb0]using hB,h⟩
 |(i,true)::r,listed,a,w,hB,⟨o,ho,v,hy,h⟩=>by
  simp only[zb0,Bool.and_eq_true]at hB
  obtain⟨⟨⟨h1,h2⟩,_⟩,h4⟩:=hB
  exact M.first ho hs (fun c a w=>hQ c a o.dst v w) r.length listed a w (Region.free_spec ho h2) (by simpa using h1) hy (zdu hs hQ r _ _ _ h4 h)
 |(i,false)::r,listed,a,w,hB,⟨o,ho,h⟩=>by
  simp only[zb0,Bool.and_eq_true,beq_iff_eq]at hB
  obtain⟨h1,h4⟩:=hB
  refine⟨fun h0=>(by rw[h1]at h0;cases h0),fun j hj=>?_⟩
  rw[h1]at hj
  obtain rfl:j=i:=by simpa using hj
  unfold wpOp
  simp only[ho]
  unfold wpList at h
  split
  ·rename_i hw
   rw[if_pos hw]at h
   rcases h with h|⟨h,a',w',hl⟩
   ·refine .inl ?_
    unfold Oper.wp at h ⊢
    generalize (execOp a.eval o).run P w=x at h ⊢
    have on:∀a' w',wpList P ops (Exit.then (fun a' w'=>Below w.heap.size w w'∧Seq P ops Q r a' w') Q) [] a' w'→Below w.heap.size w w'∧M P md ops Q r.length (listed.setIfInBounds j true) a' w':=by
     intro a' w' hh
     unfold wpList at hh
     exact⟨hh.1,zdu hs hQ r _ _ _ h4 hh.2⟩
    cases x with
    |ok n u=>
     cases n <;> simp only[Oper.upon]at h ⊢
     case enter f args=>
      refine Calls.mono h fun e w'' he=>?_
      cases e with
      |returned v=>exact on _ _ he
      |panicked c=>exact he
      |outgrown=>exact he
     case row row args=>exact Rows.mono h fun v w'' he=>on _ _ he
     all_goals exact on _ _ h
    |halt x u=>cases x <;> simp only[Oper.upon]at h ⊢;exact h
   ·exact .inr ⟨h,a',w',hl⟩
  ·rename_i hw
   rw[if_neg hw]at h
   unfold wpList at h
   exact⟨h.1,zdu hs hQ r _ _ _ h4 h.2⟩
theorem region {id:Nat} {a:Act} {w:World} {l:List Oper} (order:List (Nat×Bool)) (hm:P.follows .mixedOrders=true) (hs:Region.noSelect l.toArray=true)
  (hl:order.length=l.toArray.size) (hB:zb0 .any l.toArray order (Array.replicate l.toArray.size false)=true) (hQ:∀c a d v w,Q (.panic c) (a.put d v) w→Q (.panic c) a w)
  (h:Seq P l.toArray Q order a w.drew):(Code.region id l.toArray true).wp P Q a w:=by
 refine wp_region_any hm (M.any _ _ _ _ ?_)
 have:=zdu (md:=.any) hs hQ order (Array.replicate l.toArray.size false) a w.drew hB h
 rw[hl]at this
 exact this
def nth:List Oper→Nat→Option Oper
 |[],_=>none
 |o::_,0=>some o
 |_::l,n+1=>nth l n
theorem zb2:∀(l:List Oper) (i:Nat),l.toArray[i]?=nth l i
 |[],i=>by simp[nth]
 |o::l,0=>by simp[nth]
 |o::l,n+1=>by
  have:=zb2 l n
  simp only[List.getElem?_toArray]at this
  simp[nth,this]
theorem reads {l:List Oper} {i:Nat} {o:Oper} {r:List (Nat×Bool)} {a:Act} {w:World} (hn:nth l i=some o) (hp:plain o=true)
  (h:wpQuiet P l.toArray (fun w'=>∃p:Regrown,w'=grow (redrawn w p.d) p.os) (fun a'=>Seq P l.toArray Q r a' w) [o] a):Seq P l.toArray Q ((i,true)::r) a w:=by
 have ho:=(zb2 l i).trans hn
 unfold wpQuiet at h
 split at h
 ·rename_i hw
  obtain⟨v,h1,h2⟩:=h
  refine⟨o,ho,v,.inl ⟨hw,fun u hu=>?_⟩,h2⟩
  have q:=h1 u (regrown_of_below hu)
  unfold Oper.quietAt at q
  cases hx:(execOp a.eval o).run P u with
  |ok n u'=>
   obtain⟨x,rfl⟩:=zcp hp hx
   rw[hx]at q
   obtain⟨rfl,rfl⟩:=q
   rfl
  |halt x u'=>rw[hx]at q;exact q.elim
 ·rename_i hw
  exact⟨o,ho,undef,.inr ⟨by simpa using hw,rfl⟩,h⟩
def On (P:Program) (ops:Array Oper) (Q:Exit→Act→World→Prop) (r:List (Nat×Bool)) (w:World) (a':Act) (w':World):Prop:=Below w.heap.size w w'∧Seq P ops Q r a' w'
theorem acts {l:List Oper} {i:Nat} {o:Oper} {r:List (Nat×Bool)} {a:Act} {w:World} (hn:nth l i=some o)
  (h:wpList P l.toArray (Exit.then (On P l.toArray Q r w) Q) [o] a w):Seq P l.toArray Q ((i,false)::r) a w:=⟨o,(zb2 l i).trans hn,h⟩
theorem ends {a:Act} {w:World} (h:Q .normal a w):Seq P ops Q [] a w:=h
end
theorem grown {w:World} {f:World→Prop} (h:∀u,Below w.heap.size w u→f u):∀d os,f (grow (redrawn w d) os):=fun d os=>h _ (below_regrown w d os)
end Go.Proofs.YtgmdhaepiclkcaaGreatDoor.Grow
namespace Go.Proofs.YtgmdhaepiclkcaaGreatDoor.EncE
set_option maxRecDepth 100000
open Go.RowKit Go.Sort Byt BytR EncM EncC EncG
def cutL (bs:List Int) (most:Int):Option (List Int×List Int):=
 if(zdA bs).2=0∨most<0∨most<(zdA bs).1∨bs.length - (zdA bs).2<(zdA bs).1 then none
 else some ((bs.drop (zdA bs).2).take (zdA bs).1,(bs.drop (zdA bs).2).drop (zdA bs).1)
end Go.Proofs.YtgmdhaepiclkcaaGreatDoor.EncE
namespace Go.Proofs.YtgmdhaepiclkcaaGreatDoor.EncT
set_option maxRecDepth 100000
open Byt EncM EncC EncE
theorem zbr (a:List Int) (h:a.length≤1099511627776):(zbB a).length≤a.length+10:=by
 unfold zbB
 have:=zaZ (n:=a.length) (by omega)
 rw[List.length_append]
 omega
theorem zes {a:List Int} (h:∀x ∈ a,B x):∀x ∈ zbB a,B x:=by
 intro x hx
 rcases List.mem_append.1 hx with hx|hx
 ·exact zb1 _ x hx
 ·exact h x hx
theorem zmf (a r:List Int) (most:Int) (h:a.length≤1099511627776):cutL (zbB a++r) most=if(a.length:Int)≤most then some (a,r)else none:=by
 have g:=zg8 a.length (a++r) (by omega)
 have e:zbB a++r=zaO a.length++(a++r):=by unfold zbB;rw[List.append_assoc]
 have hp:=zb9 a.length
 unfold cutL
 rw[e,g]
 have hd:(zaO a.length++(a++r)).drop (zaO a.length).length=a++r:=List.drop_left
 simp only[hd,List.length_append]
 by_cases hm:(a.length:Int)≤most
 ·rw[if_pos hm,if_neg (by omega),List.take_left,List.drop_left]
 ·rw[if_neg hm,if_pos (by omega)]
end Go.Proofs.YtgmdhaepiclkcaaGreatDoor.EncT
namespace Go.Proofs.YtgmdhaepiclkcaaGreatDoor.OpsM
set_option maxRecDepth 100000
def zdf (x:Int):Bool:=(decide (97≤x)&&decide (x≤122))||(decide (48≤x)&&decide (x≤57))
def zbQ (l:List Int):Bool:=decide (1≤l.length)&&decide (l.length≤8)&&l.all zdf
theorem zbT {l:List Int} (h:zbQ l=true):1≤l.length∧l.length≤8:=by
 unfold zbQ at h
 simp only[Bool.and_eq_true,decide_eq_true_eq]at h
 exact h.1
end Go.Proofs.YtgmdhaepiclkcaaGreatDoor.OpsM
namespace Go.Proofs.YtgmdhaepiclkcaaGreatDoor.OpsM
set_option maxRecDepth 100000
open Byt EncM EncC EncE EncT
structure Opn where
 kind:Int
 key:ByteArray
 elem:ByteArray
 n:Int
def I64 (n:Int):Prop:=-9223372036854775808≤n∧n≤9223372036854775807
def zjJ (n:Int) (e:ByteArray):Bool:=decide (-1048576≤n)&&decide (n≤1048576)&&decide (n≠0)&&decide (zan e=[])
def zgO (n:Int) (e:ByteArray):Bool:=zbQ (zan e)&&decide (n=0)
def zij (o:Opn):Bool:=if o.kind=0 then zjJ o.n o.elem else if o.kind=1∨o.kind=2∨o.kind=3 then zgO o.n o.elem else false
def zda (o:Opn):Bool:=zbQ (zan o.key)&&zij o
theorem zmF {o:Opn} (h:zij o=true):o.kind=0∧zjJ o.n o.elem=true∨(o.kind=1∨o.kind=2∨o.kind=3)∧zgO o.n o.elem=true:=by
 unfold zij at h
 split at h
 ·exact .inl ⟨‹_›,h⟩
 ·split at h
  ·exact .inr ⟨‹_›,h⟩
  ·cases h
theorem zbE {o:Opn} (h:zda o=true):zbQ (zan o.key)=true∧(o.kind=0∧zjJ o.n o.elem=true∨(o.kind=1∨o.kind=2∨o.kind=3)∧zgO o.n o.elem=true):=by
 unfold zda at h
 rw[Bool.and_eq_true]at h
 exact⟨h.1,zmF h.2⟩
theorem zeu {n:Int} {e:ByteArray}:zjJ n e=true↔ -1048576≤n∧n≤1048576∧n≠0∧zan e=[]:=by
 unfold zjJ
 simp only[Bool.and_eq_true,decide_eq_true_eq]
 constructor
 ·rintro⟨⟨⟨a,b⟩,c⟩,d⟩;exact⟨a,b,c,d⟩
 ·rintro⟨a,b,c,d⟩;exact⟨⟨⟨a,b⟩,c⟩,d⟩
theorem zdN {n:Int} {e:ByteArray}:zgO n e=true↔zbQ (zan e)=true∧n=0:=by
 unfold zgO
 simp only[Bool.and_eq_true,decide_eq_true_eq]
def zdT (o:Opn):List Int:=if o.kind=0 then zaO (foldI o.n).toNat else zbB (zan o.elem)
def ze6 (o:Opn):List Int:=zaO o.kind.toNat++zbB (zan o.key)++zdT o
def znp (k:Nat) (key r:List Int):Option (Opn×List Int):=
 if k=0 then(if(zdA r).2=0 then none else some (⟨0,strOf key,⟨#[]⟩,zfe ((zdA r).1:Nat)⟩,r.drop (zdA r).2))
 else match cutL r 8 with
  |none=>none
  |some (e,r2)=>some (⟨k,strOf key,strOf e,0⟩,r2)
def keep (p:Option (Opn×List Int)):Option (Opn×List Int):=
 match p with
 |none=>none
 |some (o,r)=>if zda o=true then some (o,r)else none
def getO (bs:List Int):Option (Opn×List Int):=
 if(zdA bs).2=0∨4≤(zdA bs).1 then none
 else match cutL (bs.drop (zdA bs).2) 8 with
  |none=>none
  |some (key,r)=>keep (znp (zdA bs).1 key r)
theorem empty_of {e:ByteArray} (h:zan e=[]):e=⟨#[]⟩:=by rw[←zet e,h];rfl
theorem zkw {k:Int} (_h:I64 k):zfe (foldI k)=k:=by
 unfold zfe foldI
 by_cases h0:0≤k
 ·rw[if_pos h0,if_pos (by omega)];omega
 ·rw[if_neg h0,if_neg (by omega)];omega
theorem zcT {k:Int} (h:I64 k):0≤foldI k∧foldI k≤18446744073709551615:=by
 unfold I64 at h
 unfold foldI
 split <;> omega
theorem zk3 {n:Int} (h:0≤n):foldI (zfe n)=n:=by
 unfold zfe foldI
 by_cases h0:n % 2=0
 ·rw[if_pos h0,if_pos (by omega)];omega
 ·rw[if_neg h0,if_neg (by omega)];omega
theorem get_put {o:Opn} (h:zda o=true) (r:List Int):getO (ze6 o++r)=some (o,r):=by
 obtain⟨hk,hr⟩:=zbE h
 have hkl:=zbT hk
 have hkind:o.kind.toNat<4:=by rcases hr with⟨h0,_⟩|⟨h0,_⟩ <;> omega
 have e:ze6 o++r=zaO o.kind.toNat++(zbB (zan o.key)++(zdT o++r)):=by unfold ze6;simp only[List.append_assoc]
 have g:=zg8 o.kind.toNat (zbB (zan o.key)++(zdT o++r)) (by omega)
 have hp:=zb9 o.kind.toNat
 unfold getO
 rw[e,g]
 simp only[List.drop_left]
 rw[if_neg (by omega),zmf _ _ _ (by omega),if_pos (by omega)]
 have ht:znp o.kind.toNat (zan o.key) (zdT o++r)=some (o,r):=by
  unfold znp zdT
  rcases hr with⟨h0,hs⟩|⟨h0,he⟩
  ·rw[zeu]at hs
   obtain⟨h1,h2,h3,h4⟩:=hs
   have hI:I64 o.n:=by unfold I64;omega
   have hf:=zcT hI
   have g2:=zg8 (foldI o.n).toNat r (by omega)
   have hp2:=zb9 (foldI o.n).toNat
   rw[if_pos h0,if_pos (by omega),g2]
   simp only[List.drop_left]
   rw[if_neg (by omega)]
   have hu:zfe (((foldI o.n).toNat:Nat):Int)=o.n:=by
    rw[show(((foldI o.n).toNat:Nat):Int)=foldI o.n by omega,zkw hI]
   rw[hu,zet]
   have:=empty_of h4
   cases o
   simp only at h0 this ⊢
   rw[h0,this]
  ·rw[zdN]at he
   obtain⟨h1,h2⟩:=he
   have:=zbT h1
   rw[if_neg (by omega),if_neg (by omega),zmf _ _ _ (by omega),if_pos (by omega)]
   simp only[zet]
   have hk2:((o.kind.toNat:Nat):Int)=o.kind:=by omega
   rw[hk2]
   cases o
   simp only at h2 ⊢
   rw[h2]
 simp only[ht,keep,h,if_true]
theorem zjx {bs a r:List Int} {most:Int} (hb:∀x ∈ bs,B x) (h:cutL bs most=some (a,r)):bs=zbB a++r∧(a.length:Int)≤most:=by
 unfold cutL at h
 split at h
 ·cases h
 ·rename_i hn
  have hk:(zdA bs).2≠0:=fun e=>hn (.inl e)
  obtain⟨h1,h2,h3,h4,h5⟩:=zhY hb (N:=(zdA bs).1) (k:=(zdA bs).2) rfl hk
  injection h with h
  obtain⟨rfl,rfl⟩:=Prod.mk.inj h
  have hl:((bs.drop (zdA bs).2).take (zdA bs).1).length=(zdA bs).1:=by simp;omega
  refine⟨?_,by rw[hl];omega⟩
  unfold zbB
  rw[hl,←h5,List.append_assoc,List.take_append_drop,List.take_append_drop]
theorem cut_B {bs a r:List Int} {most:Int} (hb:∀x ∈ bs,B x) (h:cutL bs most=some (a,r)):(∀x ∈ a,B x)∧∀x ∈ r,B x:=by
 have e:=(zjx hb h).1
 rw[e]at hb
 exact⟨fun x hx=>hb x (by unfold zbB;simp[hx]),fun x hx=>hb x (by simp[hx])⟩
theorem zkL {bs r:List Int} {o:Opn} (hb:∀x ∈ bs,B x) (h:getO bs=some (o,r)):zda o=true∧bs=ze6 o++r:=by
 unfold getO at h
 split at h
 ·cases h
 ·rename_i hn
  have hk:(zdA bs).2≠0:=fun e=>hn (.inl e)
  obtain⟨h1,h2,h3,h4,h5⟩:=zhY hb (N:=(zdA bs).1) (k:=(zdA bs).2) rfl hk
  have hb1:∀x ∈ bs.drop (zdA bs).2,B x:=fun x hx=>hb x (List.mem_of_mem_drop hx)
  cases hc:cutL (bs.drop (zdA bs).2) 8 with
  |none=>rw[hc]at h;cases h
  |some p=>
   obtain⟨key,r1⟩:=p
   rw[hc]at h
   simp only at h
   obtain⟨c1,c2⟩:=zjx hb1 hc
   obtain⟨c3,c4⟩:=cut_B hb1 hc
   have e:bs=zaO (zdA bs).1++(zbB key++r1):=by rw[←c1,←h5,List.take_append_drop]
   obtain⟨K,hK⟩:∃K,(zdA bs).1=K:=⟨_,rfl⟩
   rw[hK]at h e hn
   cases ht:znp K key r1 with
   |none=>rw[ht]at h;simp[keep]at h
   |some q=>
    obtain⟨o1,r2⟩:=q
    rw[ht]at h
    simp only[keep]at h
    split at h
    ·rename_i hm
     injection h with h
     obtain⟨rfl,rfl⟩:=Prod.mk.inj h
     refine⟨hm,?_⟩
     rw[e]
     unfold ze6 zdT
     unfold znp at ht
     split at ht
     ·rename_i hz
      split at ht
      ·cases ht
      ·rename_i h0
       injection ht with ht
       obtain⟨rfl,rfl⟩:=Prod.mk.inj ht
       obtain⟨g1,_,_,_,g5⟩:=zhY c4 (N:=(zdA r1).1) (k:=(zdA r1).2) rfl h0
       have hf:(foldI (zfe ((zdA r1).1:Nat))).toNat=(zdA r1).1:=by rw[zk3 (by omega)];omega
       simp only[zeJ c3,if_true,hf,←g5]
       rw[hz]
       simp[List.append_assoc,List.take_append_drop]
     ·rename_i hz
      cases hc2:cutL r1 8 with
      |none=>rw[hc2]at ht;cases ht
      |some q2=>
       obtain⟨e2,r3⟩:=q2
       rw[hc2]at ht
       simp only at ht
       injection ht with ht
       obtain⟨rfl,rfl⟩:=Prod.mk.inj ht
       obtain⟨d1,_⟩:=zjx c4 hc2
       obtain⟨d3,_⟩:=cut_B c4 hc2
       have hK0:¬((K:Nat):Int)=0:=by omega
       simp only[zeJ c3,zeJ d3,if_neg hK0,Int.toNat_natCast]
       conv=>lhs;rw[d1]
       simp[List.append_assoc]
    ·cases h
theorem znQ (o:Opn):∀x ∈ ze6 o,B x:=by
 intro x hx
 unfold ze6 zdT at hx
 rcases List.mem_append.1 hx with hx|hx
 ·rcases List.mem_append.1 hx with hx|hx
  ·exact zb1 _ x hx
  ·exact zes (zdq _) x hx
 ·split at hx
  ·exact zb1 _ x hx
  ·exact zes (zdq _) x hx
theorem ziZ {o:Opn} (h:zda o=true):(ze6 o).length≤60:=by
 obtain⟨hk,hr⟩:=zbE h
 have hkl:=zbT hk
 have h1:=zaZ (n:=o.kind.toNat) (by rcases hr with⟨h0,_⟩|⟨h0,_⟩ <;> omega)
 have h2:=zbr (zan o.key) (by omega)
 have h3:(zdT o).length≤20:=by
  unfold zdT
  split
  ·rcases hr with⟨h0,hs⟩|⟨h0,_⟩
   ·rw[zeu]at hs
    have:=zcT (k:=o.n) (by unfold I64;omega)
    have:=zaZ (n:=(foldI o.n).toNat) (by omega)
    omega
   ·omega
  ·rcases hr with⟨h0,hs⟩|⟨h0,he⟩
   ·omega
   ·rw[zdN]at he
    have:=zbT he.1
    have:=zbr (zan o.elem) (by omega)
    omega
 unfold ze6
 simp only[List.length_append]
 omega
end Go.Proofs.YtgmdhaepiclkcaaGreatDoor.OpsM
namespace Go.Proofs.YtgmdhaepiclkcaaGreatDoor.IdM
set_option maxRecDepth 100000
structure Idn where
 val:List Int
 ok:val.length=32∧∀x ∈ val,0≤x∧x≤255
theorem zjB {x y:Idn} (h:x.1=y.1):x=y:=by
 cases x;cases y
 simp only at h
 subst h
 rfl
instance:DecidableEq Idn:=fun x y=>decidable_of_iff (x.1=y.1) ⟨zjB,fun e=>by rw[e]⟩
def nought:Idn:=⟨List.replicate 32 0,by simp,by intro x hx;simp at hx;omega⟩
instance:Inhabited Idn:=⟨nought⟩
theorem zaK (x:Idn):x.1.length=32:=x.2.1
theorem zks (x:Idn) (i:Nat):0≤x.1.getD i 0∧x.1.getD i 0≤255:=by
 by_cases h:i<x.1.length
 ·rw[List.getD_eq_getElem?_getD,List.getElem?_eq_getElem h,Option.getD_some]
  exact x.2.2 _ (List.getElem_mem _)
 ·rw[List.getD_eq_getElem?_getD,List.getElem?_eq_none (by omega),Option.getD_none]
  omega
theorem list_ext {a b:List Int} (hl:a.length=b.length) (h:∀i,i<a.length→a.getD i 0=b.getD i 0):a=b:=by
 apply List.ext_getElem hl
 intro i h1 h2
 have:=h i h1
 rw[List.getD_eq_getElem?_getD,List.getD_eq_getElem?_getD,List.getElem?_eq_getElem h1,List.getElem?_eq_getElem h2]at this
 simpa using this
theorem zgr {x y:Idn} (h:∀i,i<32→x.1.getD i 0=y.1.getD i 0):x=y:=
 zjB (list_ext (by rw[(zaK x),(zaK y)]) (fun i hi=>h i (by rw[(zaK x)]at hi;exact hi)))
def zeF:List Int→List Int→Bool
 |a::aa,b::bs=>if a=b then zeF aa bs else decide (a<b)
 |_,_=>false
def less (x y:Idn):Bool:=zeF x.1 y.1
theorem zgz:∀a:List Int,zeF a a=false
 |[]=>rfl
 |a::aa=>by simp[zeF,zgz aa]
theorem zhO:∀a b c:List Int,zeF a b=true→zeF b c=true→zeF a c=true
 |a::aa,b::bs,c::cs,h1,h2=>by
  simp only[zeF]at h1 h2 ⊢
  split at h1 <;> split at h2 <;> rename_i p q
  ·subst p;subst q
   simpa using zhO aa bs cs h1 h2
  ·subst p
   simpa[q]using h2
  ·subst q
   simpa[p]using h1
  ·have h1':a<b:=by simpa using h1
   have h2':b<c:=by simpa using h2
   have:a≠c:=by omega
   simp[this]
   omega
 |[],_,_,h1,_=>by simp[zeF]at h1
 |_::_,[],_,h1,_=>by simp[zeF]at h1
 |_::_,_::_,[],_,h2=>by simp[zeF]at h2
theorem zhP:∀a b:List Int,a.length=b.length→zeF a b=false→zeF b a=false→a=b
 |[],[],_,_,_=>rfl
 |a::aa,b::bs,hl,h1,h2=>by
  simp only[zeF]at h1 h2
  split at h1
  ·rename_i p
   subst p
   simp at h2
   rw[zhP aa bs (by simpa using hl) h1 h2]
  ·rename_i p
   have p':b≠a:=fun e=>p e.symm
   simp[p']at h2
   simp at h1
   omega
theorem zbm (x:Idn):less x x=false:=zgz _
theorem zbg {x y z:Idn} (h1:less x y=true) (h2:less y z=true):less x z=true:=zhO _ _ _ h1 h2
theorem zmQ {x y:Idn} (h1:less x y=false) (h2:less y x=false):x=y:=zjB (zhP _ _ (by rw[(zaK x),(zaK y)]) h1 h2)
theorem zix {x y:Idn} (h:less x y=true):less y x=false:=by
 cases h2:less y x with
 |false=>rfl
 |true=>have:=zbg h h2;rw[zbm]at this;cases this
theorem zkV {x y:Idn} (h:less x y=true):x≠y:=by rintro rfl;rw[zbm]at h;cases h
theorem zcY {x y:Idn} (h:less x y=false) (hn:x≠y):less y x=true:=by
 cases h2:less y x with
 |true=>rfl
 |false=>exact absurd (zmQ h h2) hn
theorem zlX:∀(i:Nat) (a b:List Int),a.length=b.length→i<a.length→(∀j,j<i→a.getD j 0=b.getD j 0)→a.getD i 0≠b.getD i 0→zeF a b=decide (a.getD i 0<b.getD i 0)
 |_,[],_,_,hi,_,_=>by simp at hi
 |_,_::_,[],hl,_,_,_=>by simp at hl
 |0,a::aa,b::bs,_,_,_,hn=>by
  simp only[List.getD_cons_zero]at hn
  simp[zeF,hn]
 |i+1,a::aa,b::bs,hl,hi,he,hn=>by
  have h0:=he 0 (by omega)
  simp only[List.getD_cons_zero]at h0
  subst h0
  simp only[List.getD_cons_succ]at hn ⊢
  simp only[zeF,if_true]
  exact zlX i aa bs (by simpa using hl) (by simpa using hi) (fun j hj=>by simpa using he (j+1) (by omega)) hn
theorem zoc {x y:Idn} (i:Nat) (hi:i<32) (he:∀j,j<i→x.1.getD j 0=y.1.getD j 0) (hn:x.1.getD i 0≠y.1.getD i 0):less x y=decide (x.1.getD i 0<y.1.getD i 0):=
 zlX i _ _ (by rw[(zaK x),(zaK y)]) (by rw[(zaK x)];exact hi) he hn
def zb4 (l:List Idn):Prop:=l.Pairwise fun x y=>less x y=true
theorem zff:∀{r s:List Idn},zb4 r→zb4 s→(∀x,x ∈ r↔x ∈ s)→r=s
 |[],[],_,_,_=>rfl
 |[],y::s,_,_,h=>absurd ((h y).2 (by simp)) (by simp)
 |x::r,[],_,_,h=>absurd ((h x).1 (by simp)) (by simp)
 |x::r,y::s,hr,hs,h=>by
  unfold zb4 at hr hs
  rw[List.pairwise_cons]at hr hs
  have hxy:x=y:=by
   have h1:x ∈ y::s:=(h x).1 (by simp)
   have h2:y ∈ x::r:=(h y).2 (by simp)
   rcases List.mem_cons.1 h1 with h1|h1
   ·exact h1
   ·rcases List.mem_cons.1 h2 with h2|h2
    ·exact h2.symm
    ·have a:=hs.1 x h1
     have b:=hr.1 y h2
     rw[zix a]at b
     cases b
  subst hxy
  have key:∀z,z ∈ r↔z ∈ s:=by
   intro z
   constructor
   ·intro hz
    have hzx:z≠x:=fun e=>by subst e;exact zkV (hr.1 z hz) rfl
    exact(List.mem_cons.1 ((h z).1 (List.mem_cons_of_mem _ hz))).resolve_left hzx
   ·intro hz
    have hzx:z≠x:=fun e=>by subst e;exact zkV (hs.1 z hz) rfl
    exact(List.mem_cons.1 ((h z).2 (List.mem_cons_of_mem _ hz))).resolve_left hzx
  rw[zff hr.2 hs.2 key]
def ins (x:Idn):List Idn→List Idn
 |[]=>[x]
 |y::l=>if x=y then y::l else if less x y then x::y::l else y::ins x l
def sort (l:List Idn):List Idn:=l.foldr ins []
theorem zkS (x z:Idn):∀l:List Idn,z ∈ ins x l↔z=x∨z ∈ l
 |[]=>by simp[ins]
 |y::l=>by
  simp only[ins]
  split
  ·rename_i h
   subst h
   simp
  ·split
   ·simp
   ·simp only[List.mem_cons,zkS x z l]
    constructor
    ·rintro(h|h|h)
     ·exact .inr (.inl h)
     ·exact .inl h
     ·exact .inr (.inr h)
    ·rintro(h|h|h)
     ·exact .inr (.inl h)
     ·exact .inl h
     ·exact .inr (.inr h)
theorem zir (x:Idn):∀l:List Idn,zb4 l→zb4 (ins x l)
 |[],_=>by simp[ins,zb4]
 |y::l,h=>by
  unfold zb4 at h
  rw[List.pairwise_cons]at h
  simp only[ins]
  split
  ·exact List.pairwise_cons.2 h
  ·rename_i hne
   split
   ·rename_i hl
    refine List.pairwise_cons.2 ⟨fun z hz=>?_,List.pairwise_cons.2 h⟩
    rcases List.mem_cons.1 hz with rfl|hz
    ·exact hl
    ·exact zbg hl (h.1 z hz)
   ·rename_i hl
    refine List.pairwise_cons.2 ⟨fun z hz=>?_,zir x l h.2⟩
    rcases(zkS x z l).1 hz with rfl|hz
    ·exact zcY (by simpa using hl) hne
    ·exact h.1 z hz
theorem zfF (z:Idn):∀l:List Idn,z ∈ sort l↔z ∈ l
 |[]=>by simp[sort]
 |x::l=>by
  have:=zfF z l
  unfold sort at this ⊢
  rw[List.foldr_cons,zkS,this,List.mem_cons]
theorem zc4:∀l:List Idn,zb4 (sort l)
 |[]=>by simp[sort,zb4]
 |x::l=>zir x _ (zc4 l)
theorem zoN {r l:List Idn} (h:zb4 r) (hm:∀x,x ∈ r↔x ∈ l):r=sort l:=zff h (zc4 l) (fun x=>by rw[hm,zfF])
theorem zmv {a b:List Idn} (h:∀x,x ∈ a↔x ∈ b):sort a=sort b:=zff (zc4 a) (zc4 b) (fun x=>by rw[zfF,zfF,h])
theorem zgv {l:List Idn} (h:zb4 l):l.Nodup:=List.Pairwise.imp (fun hxy=>zkV hxy) h
theorem perm_of {a b:List Idn} (ha:a.Nodup) (hb:b.Nodup) (h:∀x,x ∈ a↔x ∈ b):a.Perm b:=(List.perm_ext_iff_of_nodup ha hb).2 h
def zaN (l:List Idn):Bool:=(List.range (l.length - 1)).all fun i=>less (l.getD i nought) (l.getD (i+1) nought)
theorem zmA {l:List Idn} (h:zb4 l) {i j:Nat} (hij:i<j) (hj:j<l.length):less (l.getD i nought) (l.getD j nought)=true:=by
 have:=List.pairwise_iff_getElem.1 h i j (by omega) hj hij
 rw[List.getD_eq_getElem?_getD,List.getD_eq_getElem?_getD,List.getElem?_eq_getElem (by omega),List.getElem?_eq_getElem hj]
 exact this
def cf (x y:Idn):Int:=if x=y then 0 else if less x y then -1 else 1
theorem zjf (x y:Idn):decide (cf x y<0)=less x y:=by
 unfold cf
 by_cases h:x=y
 ·subst h;simp[zbm]
 ·cases hl:less x y <;> simp[h]
end Go.Proofs.YtgmdhaepiclkcaaGreatDoor.IdM
namespace Go.Proofs.YtgmdhaepiclkcaaGreatDoor.StM
set_option maxRecDepth 100000
def zbs (n q:Int):Bool:=decide (0≤n)&&(decide (n<8)&&(decide (1≤q)&&decide (q≤1048576)))
theorem zb3 {n q:Int}:zbs n q=true↔(0≤n∧n<8)∧1≤q∧q≤1048576:=by
 unfold zbs
 simp only[Bool.and_eq_true,decide_eq_true_eq]
 omega
end Go.Proofs.YtgmdhaepiclkcaaGreatDoor.StM
namespace Go.Proofs.YtgmdhaepiclkcaaGreatDoor.CmM
set_option maxRecDepth 100000
open Byt EncM EncC EncE EncT OpsM IdM
structure Com where
 node:Int
 seq:Int
 gen:Int
 ps:List Idn
 op:Opn
theorem Opn_ext {x y:Opn} (h1:x.kind=y.kind) (h2:x.key=y.key) (h3:x.elem=y.elem) (h4:x.n=y.n):x=y:=by
 cases x;cases y
 simp_all
def noO:Opn:=⟨0,⟨#[]⟩,⟨#[]⟩,0⟩
def noK:Com:=⟨0,0,0,[],noO⟩
def zd0 (o:Opn):Bool:=decide (o.kind=0)&&(decide (zan o.key=[])&&(decide (zan o.elem=[])&&decide (o.n=0)))
theorem zhF {o:Opn}:zd0 o=true↔o=noO:=by
 unfold zd0 noO
 simp only[Bool.and_eq_true,decide_eq_true_eq]
 constructor
 ·rintro⟨h1,h2,h3,h4⟩
  exact Opn_ext h1 (empty_of h2) (empty_of h3) h4
 ·rintro rfl
  exact⟨rfl,rfl,rfl,rfl⟩
def zcH (c:Com):Bool:=decide (c.node= -1)&&(decide (c.seq=0)&&(zd0 c.op&&decide (2≤c.ps.length)))
theorem zdJ {c:Com}:zcH c=true↔c.node= -1∧c.seq=0∧c.op=noO∧2≤c.ps.length:=by
 unfold zcH
 simp only[Bool.and_eq_true,decide_eq_true_eq,zhF]
def zeE (c:Com):Bool:=decide (1≤c.gen)&&(decide (c.gen≤1048576)&&(decide (c.ps.length≤8)&&(zaN c.ps&&(decide (c.gen=1) == decide (c.ps.length=0)))))
theorem za6 {c:Com}:zeE c=true↔1≤c.gen∧c.gen≤1048576∧c.ps.length≤8∧zaN c.ps=true∧(c.gen=1↔c.ps.length=0):=by
 unfold zeE
 simp only[Bool.and_eq_true,decide_eq_true_eq,beq_iff_eq,decide_eq_decide]
def zbn (c:Com):Bool:=zeE c&&(zcH c||(StM.zbs c.node c.seq&&zda c.op))
theorem za0 {c:Com}:zbn c=true↔zeE c=true∧(zcH c=true∨StM.zbs c.node c.seq=true∧zda c.op=true):=by
 unfold zbn
 simp only[Bool.and_eq_true,Bool.or_eq_true]
def isM (c:Com):Bool:=zbn c&&decide (c.node= -1)
theorem zjm {c:Com}:isM c=true↔zeE c=true∧zcH c=true:=by
 unfold isM
 rw[Bool.and_eq_true,za0,decide_eq_true_eq]
 constructor
 ·rintro⟨⟨h1,h2|⟨h2,_⟩⟩,h3⟩
  ·exact⟨h1,h2⟩
  ·have:=StM.zb3.1 h2;omega
 ·rintro⟨h1,h2⟩
  exact⟨⟨h1,.inl h2⟩,(zdJ.1 h2).1⟩
theorem zg0 {c:Com} (h:zbn c=true): -1≤c.node∧c.node<8:=by
 rcases(za0.1 h).2 with h1|⟨h1,_⟩
 ·have:=(zdJ.1 h1).1;omega
 ·have:=(StM.zb3.1 h1).1;omega
theorem ziW {c:Com} (h:zbn c=true):0≤c.seq∧c.seq≤1048576:=by
 rcases(za0.1 h).2 with h1|⟨h1,_⟩
 ·have:=(zdJ.1 h1).2.1;omega
 ·have:=(StM.zb3.1 h1).2;omega
theorem zlI {c:Com} (h:zbn c=true) (hn:c.node≠ -1):zda c.op=true:=by
 rcases(za0.1 h).2 with h1|⟨_,h1⟩
 ·exact absurd (zdJ.1 h1).1 hn
 ·exact h1
theorem za3 {c:Com} (h:zbn c=true) (hn:c.node= -1):zcH c=true:=by
 rcases(za0.1 h).2 with h1|⟨h1,_⟩
 ·exact h1
 ·have:=(StM.zb3.1 h1).1;omega
def zcr (ps:List Idn):List Int:=ps.flatMap (·.val)
theorem ze2 (x:Idn) (l:List Idn):zcr (x::l)=x.val++zcr l:=by simp[zcr]
theorem zgC (a b:List Idn):zcr (a++b)=zcr a++zcr b:=by simp[zcr]
theorem zh1:∀l:List Idn,(zcr l).length=32 * l.length
 |[]=>rfl
 |x::l=>by
  rw[ze2,List.length_append,zh1 l,zaK,List.length_cons]
  omega
theorem flatL_B (l:List Idn):∀x ∈ zcr l,B x:=by
 intro x hx
 unfold zcr at hx
 rw[List.mem_flatMap]at hx
 obtain⟨y,_,hy⟩:=hx
 exact y.ok.2 x hy
def zem (c:Com):List Int:=zaO (foldI c.node).toNat++(zaO c.seq.toNat++(zaO c.gen.toNat++zaO c.ps.length))
def opL (c:Com):List Int:=if c.node= -1 then[]else ze6 c.op
def zgX (c:Com):List Int:=zem c++(zcr c.ps++opL c)
def idsL:Nat→List Int→Option (List Idn×List Int)
 |0,bs=>some ([],bs)
 |n+1,bs=>if h:32≤bs.length∧∀x ∈ bs.take 32,0≤x∧x≤255 then
   match idsL n (bs.drop 32)with
   |none=>none
   |some (l,r)=>some (⟨bs.take 32,by rw[List.length_take];omega,h.2⟩::l,r)
  else none
def nums:Nat→List Int→Option (List Nat×List Int)
 |0,bs=>some ([],bs)
 |k+1,bs=>if(zdA bs).2=0 then none else
   match nums k (bs.drop (zdA bs).2)with
   |none=>none
   |some (l,r)=>some ((zdA bs).1::l,r)
theorem zj5:∀(n:Nat) {bs r:List Int} {l:List Idn},idsL n bs=some (l,r)→l.length=n∧bs=zcr l++r
 |0,bs,r,l,h=>by
  simp only[idsL,Option.some.injEq,Prod.mk.injEq]at h
  obtain⟨rfl,rfl⟩:=h
  exact⟨rfl,rfl⟩
 |n+1,bs,r,l,h=>by
  rw[idsL]at h
  split at h
  ·rename_i hc
   cases hq:idsL n (bs.drop 32)with
   |none=>rw[hq]at h;cases h
   |some q=>
    obtain⟨l1,r1⟩:=q
    rw[hq]at h
    simp only[Option.some.injEq,Prod.mk.injEq]at h
    obtain⟨rfl,rfl⟩:=h
    obtain⟨e1,e2⟩:=zj5 n hq
    refine⟨by rw[List.length_cons,e1],?_⟩
    rw[ze2,List.append_assoc,←e2,List.take_append_drop]
  ·cases h
theorem zfz (k m:Nat) (r:List Int) (hm:m<18446744073709551616):nums (k+1) (zaO m++r)=(nums k r).map fun p=>(m::p.1,p.2):=by
 have g:=zg8 m r hm
 have hp:=zb9 m
 rw[nums,g]
 simp only[List.drop_left]
 rw[if_neg (by omega)]
 cases nums k r <;> rfl
theorem head_nums {c:Com} (h:zbn c=true) (r:List Int):nums 4 (zem c++r)=some ([(foldI c.node).toNat,c.seq.toNat,c.gen.toNat,c.ps.length],r):=by
 have hn:=zg0 h
 have hs:=ziW h
 have hg:=za6.1 (za0.1 h).1
 have hf:=zcT (k:=c.node) (by unfold I64;omega)
 unfold zem
 simp only[List.append_assoc]
 rw[zfz 3 _ _ (by omega),zfz 2 _ _ (by omega),zfz 1 _ _ (by omega),zfz 0 _ _ (by omega)]
 rfl
theorem headL_B (c:Com):∀x ∈ zem c,B x:=by
 intro x hx
 unfold zem at hx
 simp only[List.mem_append]at hx
 rcases hx with hx|hx|hx|hx <;> exact zb1 _ x hx
theorem opL_B (c:Com):∀x ∈ opL c,B x:=by
 intro x hx
 unfold opL at hx
 split at hx
 ·simp at hx
 ·exact znQ _ x hx
theorem znR (c:Com):∀x ∈ zgX c,B x:=by
 intro x hx
 unfold zgX at hx
 simp only[List.mem_append]at hx
 rcases hx with hx|hx|hx
 ·exact headL_B c x hx
 ·exact flatL_B _ x hx
 ·exact opL_B c x hx
theorem zox {c:Com} (h:zbn c=true):4≤(zem c).length∧(zem c).length≤40:=by
 have hn:=zg0 h
 have hs:=ziW h
 have hg:=za6.1 (za0.1 h).1
 have hf:=zcT (k:=c.node) (by unfold I64;omega)
 have a1:=zb9 (foldI c.node).toNat
 have a2:=zb9 c.seq.toNat
 have a3:=zb9 c.gen.toNat
 have a4:=zb9 c.ps.length
 have b1:=zaZ (n:=(foldI c.node).toNat) (by omega)
 have b2:=zaZ (n:=c.seq.toNat) (by omega)
 have b3:=zaZ (n:=c.gen.toNat) (by omega)
 have b4:=zaZ (n:=c.ps.length) (by omega)
 unfold zem
 simp only[List.length_append]
 omega
theorem opL_len {c:Com} (h:zbn c=true):(opL c).length≤60:=by
 unfold opL
 split
 ·simp
 ·rename_i hn
  exact ziZ (zlI h hn)
theorem zlD {c:Com} (h:zbn c=true):(zgX c).length≤400:=by
 have h1:=zox h
 have h2:=opL_len h
 have h3:=zh1 c.ps
 have hg:=za6.1 (za0.1 h).1
 unfold zgX
 simp only[List.length_append]
 omega
end Go.Proofs.YtgmdhaepiclkcaaGreatDoor.CmM
namespace Go.Proofs.YtgmdhaepiclkcaaGreatDoor.ArrEq
set_option maxRecDepth 100000
open Go.RowKit
section
variable {P:Program}
theorem zgu {e:TypeId} {k:IntKind} (he:P.underlying e=some (.int k)) (xs:Array Value) (i:Nat) (v:Value) (hv:xs[i]?=some v) (w:World):(part e xs i).run P w=.ok v w:=by
 simp[part,isAgg,run_underlying he,hv]
theorem zgE (w:World) (d:Nat) {e:TypeId} {k:IntKind} (he:P.underlying e=some (.int k)) (xs ys:Array Value) (f g:Nat→Int):
  ∀is:List Nat,(∀i ∈ is,xs[i]?=some (.int k (f i))∧ys[i]?=some (.int k (g i)))→(Op.eqItems (d+1) e 1 xs ys is).run P w=.ok (is.all fun i=>f i == g i) w
 |[],_=>by simp[Op.eqItems]
 |i::is,h=>by
  have h0:=h i (by simp)
  have hr:=zgE w d he xs ys f g is (fun j hj=>h j (by simp[hj]))
  simp only[Op.eqItems,Sem.run_bind,Nat.mul_one,zgu he xs i _ h0.1,zgu he ys i _ h0.2,Result.andThen_ok,run_equalIn_int w d e k k (f i) (g i) he]
  by_cases hc:f i=g i
  ·simpa[hc]using hr
  ·simp[hc]
theorem zmY (w:World) (d:Nat) {t e:TypeId} {n:Nat} {k:IntKind} {inf:TypeInfo} (hu:P.underlying t=some (.array n e)) (he:P.underlying e=some (.int k)) (hi:P.info? e=some inf) (hc:P.cellsOf e=1)
  (xs ys:Array Value) (f g:Nat→Int) (h:∀i,i<n→xs[i]?=some (.int k (f i))∧ys[i]?=some (.int k (g i))):
  (Op.equalIn (d+2) t (.agg xs) (.agg ys)).run P w=.ok ((List.range n).all fun i=>f i == g i) w:=by
 rw[run_equalIn_array w (d+1) xs ys hu hi,hc]
 exact zgE w d he xs ys f g _ (fun i hx=>h i (by simpa using hx))
end
end Go.Proofs.YtgmdhaepiclkcaaGreatDoor.ArrEq
