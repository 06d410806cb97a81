/- A region that draws its order | What walks of Get of package commit lean on | Which bytes are no commit, by the numbers that they begin with, by wha | As Grow, where only what lies below a given block stays as it was | What ops.puts and its functions, and ops.Put, return -/
import Derived.Test.YtgmdhaepiclkcaaGreatDoorGrowJ9
import Derived.Test.YtgmdhaepiclkcaaGreatDoorRefEJ9
import Derived.Test.YtgmdhaepiclkcaaGreatDoorIdVJ2
import Derived.Test.YtgmdhaepiclkcaaGreatDoorRowBJ9
import Derived.Test.YtgmdhaepiclkcaaGreatDoorOpsCJ2
import Derived.Test.YtgmdhaepiclkcaaGreatDoorShaDJ13
namespace Go.Proofs.YtgmdhaepiclkcaaGreatDoor.Forks
set_option maxRecDepth 100000
open Go Go.Sort Go.RowKit
inductive Tree where
 |ends:Tree
 |free (i:Nat) (t:Tree):Tree
 |act (i:Nat) (t:Tree):Tree
 |two (i:Nat) (t:Tree) (j:Nat) (u:Tree):Tree
def Tree.size:Tree→Nat
 |.ends=>0
 |.free _ t=>t.size+1
 |.act _ t=>t.size+1
 |.two _ t _ _=>t.size+1
section
variable {P:Program} {ops:Array Oper} {Q:Exit→Act→World→Prop} {md:Region.Mode}
def zds (md:Region.Mode) (ops:Array Oper):Tree→Array Bool→Bool
 |.ends,listed=>(Region.ready md ops listed).isEmpty
 |.free i t,listed=>(Region.ready md ops listed).contains i&&(Region.free md ops listed i&&zds md ops t (listed.setIfInBounds i true))
 |.act i t,listed=>Region.ready md ops listed == [i]&&zds md ops t (listed.setIfInBounds i true)
 |.two i t j u,listed=>Region.ready md ops listed == [i,j]&&(t.size == u.size&&(zds md ops t (listed.setIfInBounds i true)&&zds md ops u (listed.setIfInBounds j true)))
def One (P:Program) (ops:Array Oper) (Q:Exit→Act→World→Prop) (i:Nat) (K:Act→World→Prop) (a:Act) (w:World):Prop:=∃o,ops[i]?=some o∧wpList P ops (Exit.then K Q) [o] a w
def Seq (P:Program) (ops:Array Oper) (Q:Exit→Act→World→Prop):Tree→Act→World→Prop
 |.ends,a,w=>Q .normal a w
 |.free i t,a,w=>∃o,ops[i]?=some o∧∃v,Yields P ops o v a∧Seq P ops Q t (a.put o.dst v) w
 |.act i t,a,w=>One P ops Q i (Seq P ops Q t) a w
 |.two i t j u,a,w=>One P ops Q i (Seq P ops Q t) a w∧One P ops Q j (Seq P ops Q u) a w
theorem One.op {i:Nat} {K K':Act→World→Prop} {a:Act} {w:World} (h:One P ops Q i K a w) (on:∀a' w',K a' w'→K' a' w'):wpOp P ops Q i K' a w:=by
 obtain⟨o,ho,h⟩:=h
 have on':∀a' w',wpList P ops (Exit.then K Q) [] a' w'→K' a' w':=by
  intro a' w' hh
  unfold wpList at hh
  exact on _ _ hh
 unfold wpOp
 simp only[ho]
 unfold wpList at h
 split
 ·rename_i hw
  rw[if_pos hw]at h
  rcases h with h|⟨h,a',w',hl⟩
  ·refine .inl ?_
   unfold Oper.wp at h ⊢
   generalize (execOp a.eval o).run P w=x at h ⊢
   cases x with
   |ok n u=>
    cases n <;> simp only[Oper.upon]at h ⊢
    case enter f args=>
     refine Calls.mono h fun e w'' he=>?_
     cases e with
     |returned v=>exact on' _ _ he
     |panicked c=>exact he
     |outgrown=>exact he
    case row row args=>exact Rows.mono h fun v w'' he=>on' _ _ he
    all_goals exact on' _ _ h
   |halt x u=>cases x <;> simp only[Oper.upon]at h ⊢;exact h
  ·exact .inr ⟨h,a',w',hl⟩
 ·rename_i hw
  rw[if_neg hw]at h
  unfold wpList at h
  exact on _ _ h
theorem zht (hs:Region.noSelect ops=true) (hQ:∀c a d v w,Q (.panic c) (a.put d v) w→Q (.panic c) a w):∀(t:Tree) (listed:Array Bool) (a:Act) (w:World),
  zds md ops t listed=true→Seq P ops Q t a w→wpAny P md ops Q t.size listed a w
 |.ends,listed,a,w,hB,h=>⟨by simpa[zds]using hB,h⟩
 |.free i t,listed,a,w,hB,⟨o,ho,v,hy,h⟩=>by
  simp only[zds,Bool.and_eq_true]at hB
  obtain⟨h1,h2,h3⟩:=hB
  exact wpAny_take ho hs h2 h1 (fun c a w=>hQ c a o.dst v w) hy (zht hs hQ t _ _ _ h3 h)
 |.act i t,listed,a,w,hB,h=>by
  simp only[zds,Bool.and_eq_true,beq_iff_eq]at hB
  obtain⟨h1,h3⟩:=hB
  refine⟨fun h0=>(by rw[h1]at h0;cases h0),fun j hj=>?_⟩
  rw[h1]at hj
  obtain rfl:j=i:=by simpa using hj
  exact One.op h (fun a' w' hh=>zht hs hQ t _ _ _ h3 hh)
 |.two i t j u,listed,a,w,hB,⟨h,h'⟩=>by
  simp only[zds,Bool.and_eq_true,beq_iff_eq]at hB
  obtain⟨h1,h2,h3,h4⟩:=hB
  refine⟨fun h0=>(by rw[h1]at h0;cases h0),fun k hk=>?_⟩
  rw[h1]at hk
  rcases List.mem_cons.1 hk with rfl|hk
  ·exact One.op h (fun a' w' hh=>zht hs hQ t _ _ _ h3 hh)
  ·obtain rfl:k=j:=by simpa using hk
   refine One.op h' (fun a' w' hh=>?_)
   rw[h2]
   exact zht hs hQ u _ _ _ h4 hh
theorem region {id:Nat} {a:Act} {w:World} {l:List Oper} (t:Tree) (hm:P.follows .mixedOrders=true) (hs:Region.noSelect l.toArray=true)
  (hl:t.size=l.toArray.size) (hB:zds .any l.toArray t (Array.replicate l.toArray.size false)=true) (hQ:∀c a d v w,Q (.panic c) (a.put d v) w→Q (.panic c) a w)
  (h:Seq P l.toArray Q t a w.drew):(Code.region id l.toArray true).wp P Q a w:=by
 refine wp_region_any hm ?_
 have:=zht (md:=.any) hs hQ t (Array.replicate l.toArray.size false) a w.drew hB h
 rw[hl]at this
 exact this
theorem reads {l:List Oper} {i:Nat} {o:Oper} {t:Tree} {a:Act} {w:World} (hn:Grow.nth l i=some o) (hp:Grow.plain o=true)
  (h:wpQuiet P l.toArray (fun w'=>∃u:World,w'=u) (fun a'=>Seq P l.toArray Q t a' w) [o] a):Seq P l.toArray Q (.free i t) a w:=by
 have ho:=(Grow.zb2 l i).trans hn
 unfold wpQuiet at h
 split at h
 ·rename_i hw
  obtain⟨v,h1,h2⟩:=h
  refine⟨o,ho,v,.inl ⟨hw,fun u=>?_⟩,h2⟩
  have q:=h1 u ⟨u,rfl⟩
  unfold Oper.quietAt at q
  cases hx:(execOp a.eval o).run P u with
  |ok n u'=>
   obtain⟨x,rfl⟩:=Grow.zcp hp hx
   rw[hx]at q
   obtain⟨rfl,rfl⟩:=q
   rfl
  |halt x u'=>rw[hx]at q;exact q.elim
 ·rename_i hw
  exact⟨o,ho,undef,.inr ⟨by simpa using hw,rfl⟩,h⟩
theorem checks {l:List Oper} {i:Nat} {o:Oper} {t:Tree} {a:Act} {w:World} (hn:Grow.nth l i=some o) (hgd:o.guard=none) (x:Operand) (ho:o.op=.nilCheck x) (p:Addr) (hx:a.eval x=.pointer (some p))
  (h:Seq P l.toArray Q t (a.put o.dst (.pointer (some p))) w):Seq P l.toArray Q (.free i t) a w:=by
 refine⟨o,(Grow.zb2 l i).trans hn,.pointer (some p),.inl ⟨by simp[Region.wanted,hgd],fun u=>?_⟩,h⟩
 unfold execOp
 simp only[ho,hx]
 rfl
def On (P:Program) (ops:Array Oper) (Q:Exit→Act→World→Prop) (t:Tree) (a':Act) (w':World):Prop:=Seq P ops Q t a' w'
theorem acts {l:List Oper} {i:Nat} {o:Oper} {t:Tree} {a:Act} {w:World} (hn:Grow.nth l i=some o)
  (h:wpList P l.toArray (Exit.then (On P l.toArray Q t) Q) [o] a w):Seq P l.toArray Q (.act i t) a w:=⟨o,(Grow.zb2 l i).trans hn,h⟩
theorem forks {l:List Oper} {i j:Nat} {o p:Oper} {t u:Tree} {a:Act} {w:World} (hn:Grow.nth l i=some o) (hm:Grow.nth l j=some p)
  (h:wpList P l.toArray (Exit.then (On P l.toArray Q t) Q) [o] a w) (h':wpList P l.toArray (Exit.then (On P l.toArray Q u) Q) [p] a w):Seq P l.toArray Q (.two i t j u) a w:=
 ⟨⟨o,(Grow.zb2 l i).trans hn,h⟩,⟨p,(Grow.zb2 l j).trans hm,h'⟩⟩
theorem on {t:Tree} {a:Act} {w:World} (h:Seq P ops Q t a w):On P ops Q t a w:=h
theorem ends {a:Act} {w:World} (h:Q .normal a w):Seq P ops Q .ends a w:=h
end
end Go.Proofs.YtgmdhaepiclkcaaGreatDoor.Forks
namespace Go.Proofs.YtgmdhaepiclkcaaGreatDoor.CmG
set_option maxRecDepth 100000
open Go Go.Sort Go.RowKit Byt EncM EncC IdM IdW IdB OpsM OpsW CmM StW CmW CmR CmD
theorem idsL_len (k:Nat) {s r:List Int} {ps:List Idn} (h:idsL k s=some (ps,r)):ps.length=k∧32 * k+r.length=s.length:=by
 obtain⟨h1,h2⟩:=zj5 k h
 refine⟨h1,?_⟩
 rw[h2,List.length_append,zh1,h1]
def zkt (q:Option (Com×List Int)) (w:World) (e:Ending) (w':World):Prop:=
 Below w.heap.size w w'∧match q with
  |none=>e=.returned (.tuple #[.agg (cc noV),.slice none 0 0,.int .i64 2])
  |some (c,r)=>∃v A k,e=.returned (.tuple #[.agg (cc v),.slice A r.length k,.int .i64 0])∧v.c=c∧In w' v∧Sl w' A k r
theorem zkt.some {q:Option (Com×List Int)} {w w':World} {e:Ending} {c:Com} {r:List Int} (hq:q=some (c,r)) (v:Cv) (A:Option Addr) (k:Nat) (h:e=.returned (.tuple #[.agg (cc v),.slice A r.length k,.int .i64 0])) (hv:v.c=c) (hi:In w' v) (hS:Sl w' A k r) (hb:Below w.heap.size w w'):zkt q w e w':=by
 subst hq
 exact⟨hb,v,A,k,h,hv,hi,hS⟩
theorem zaF {ops:Array Oper} {rest:List Oper} {o:Oper} {a:Act} {w:World} {Q:Exit→Act→World→Prop} (hgd:o.guard=none) (x y:Operand) (ho:o.op=.store 56 x y)
  (w0:World) (old:Idn) (t:TypeId) (hw:w=w0.alloc (.cells (cs old) t)) (z:Idn) (g:Nat) (hx:a.eval x=.pointer (some ⟨g,0,none⟩)) (hg:g=w0.heap.size) (hy:a.eval y=.agg (cs z))
  (h:∀w1,IdW.Box w1 w0.heap.size z→Below w0.heap.size w0 w1→w1.heap.size=w0.heap.size+1→wpList Tryz.prog ops Q rest (a.put o.dst undef) w1):wpList Tryz.prog ops Q (o::rest) a w:=by
 subst hw
 subst hg
 refine wpList_store_row hgd 56 x y ho w0.heap.size (cs z) hx hy t (cs old) (heap_alloc_new w0 _) (zjo z) (by rw[zbO,zbO]) (zoW z) ?_
 rw[World.setRow_alloc_new]
 exact h _ (IdW.Box.new w0 z t) ((Below.refl _ _).alloc (Nat.le_refl _) _) (by simp)
end Go.Proofs.YtgmdhaepiclkcaaGreatDoor.CmG
namespace Go.Proofs.YtgmdhaepiclkcaaGreatDoor.CmQ
set_option maxRecDepth 100000
open Byt EncM EncC EncE EncT OpsM IdM CmM CmG
structure Four (bs l1 l2 l3 l4:List Int) (a b g n ka kb kg kn:Nat):Prop where
 h1:zdA bs=(a,ka)
 e1:bs.drop ka=l1
 h2:zdA l1=(b,kb)
 e2:l1.drop kb=l2
 h3:zdA l2=(g,kg)
 e3:l2.drop kg=l3
 h4:zdA l3=(n,kn)
 e4:l3.drop kn=l4
section
variable {bs l1 l2 l3 l4:List Int} {a b g n ka kb kg kn:Nat} (F:Four bs l1 l2 l3 l4 a b g n ka kb kg kn) (hB:∀x ∈ bs,B x)
include F
include hB
end
end Go.Proofs.YtgmdhaepiclkcaaGreatDoor.CmQ
namespace Go.Proofs.YtgmdhaepiclkcaaGreatDoor.GrowB
set_option maxRecDepth 100000
open Go Go.Sort Go.RowKit
section
variable {P:Program} {ops:Array Oper} {Q:Exit→Act→World→Prop} {md:Region.Mode} {B:Nat}
def M (B:Nat) (P:Program) (md:Region.Mode) (ops:Array Oper) (Q:Exit→Act→World→Prop):Nat→Array Bool→Act→World→Prop
 |0,listed,a,w=>Region.ready md ops listed=[]∧Q .normal a w
 |fuel+1,listed,a,w=>(Region.ready md ops listed=[]→Q .normal a w)∧
  ∀i ∈ Region.ready md ops listed,wpOp P ops Q i (fun a' w'=>Below B w w'∧M B P md ops Q fuel (listed.setIfInBounds i true) a' w') a w
theorem M.any:∀(fuel:Nat) (listed:Array Bool) (a:Act) (w:World),M B P md ops Q fuel listed a w→wpAny P md ops Q fuel listed a w
 |0,_,_,_,h=>h
 |fuel+1,_,_,_,h=>⟨h.1,fun i hi=>wpOp_mono (fun a' w' h'=>M.any fuel _ a' w' h'.2) (h.2 i hi)⟩
theorem later {o:Oper} {v:Value} {a:Act} {w w':World} (h:YieldsIf P ops (Below B w) o v a) (hb:Below B w w'):YieldsIf P ops (Below B w') o v a:=
 h.imp (fun⟨h1,h2⟩=>⟨h1,fun u hu=>h2 u (hb.trans hu)⟩) id
theorem M.first {i:Nat} {oi:Oper} {v:Value} (hi:ops[i]?=some oi) (hs:Region.noSelect ops=true)
  (hQ:∀c a w,Q (.panic c) (a.put oi.dst v) w→Q (.panic c) a w) (fuel:Nat):
  ∀(listed:Array Bool) (a:Act) (w:World),
   (∀j oj,ops[j]?=some oj→j≠i→listed.getD j true=false→(∀e ∈ oj.after,Region.binds md e=true→e.on≠i)→oi.apart ops oj=true)→
   i ∈ Region.ready md ops listed→YieldsIf P ops (Below B w) oi v a→
   M B P md ops Q fuel (listed.setIfInBounds i true) (a.put oi.dst v) w→M B P md ops Q (fuel+1) listed a w:=by
 have sel:=fun(j:Nat) (o:Oper) (cs:Array SelectCase) (b:Bool) (h:ops[j]?=some o)=>Region.noSelect_spec hs j o cs b h
 induction fuel with
 |zero=>
  intro listed a w _ hr hy H
  refine⟨fun h0=>absurd hr (by rw[h0];simp),fun j hj=>?_⟩
  by_cases e:j=i
  ·subst e
   exact hy.wpOp hi (Below.refl _ _) ⟨Below.refl _ _,H⟩
  ·exact absurd (ready_mono hj e) (by rw[H.1];simp)
 |succ fuel ih=>
  intro listed a w hf hr hy H
  refine⟨fun h0=>absurd hr (by rw[h0];simp),fun j hj=>?_⟩
  by_cases e:j=i
  ·subst e
   exact hy.wpOp hi (Below.refl _ _) ⟨Below.refl _ _,H⟩
  ·have hstep:=H.2 j (ready_mono hj e)
   obtain⟨hun,oj,hoj,hall⟩:=mem_ready.1 hj
   have hno:∀x ∈ oj.after,Region.binds md x=true→x.on≠i:=by
    intro x hx hb hxi
    have p1:=hall x hx hb
    have p0:=(mem_ready.1 hr).1
    rw[hxi]at p1
    by_cases hlt:i<listed.size
    ·simp[hlt]at p0 p1
     rw[p0]at p1
     cases p1
    ·simp[Array.getElem?_eq_none (Nat.le_of_not_lt hlt)]at p1
   refine wpOp_mono (fun a' w' h3=>⟨h3.2.1,?_⟩) (wpOp_putIf hoj (hf j oj hoj e hun hno) (fun cs b=>sel i oi cs b hi) (fun cs b=>sel j oj cs b hoj) hQ hy hstep)
   obtain⟨y1,y2,y3⟩:=h3
   refine ih (listed.setIfInBounds j true) a' w' (fun k ok hk hki hku hkn=>hf k ok hk hki ?_ hkn) (ready_mono hr (fun h=>e h.symm)) (later y1 y2) ?_
   ·by_cases ejk:j=k
    ·subst ejk;exact hun
    ·rwa[getD_set_ne true ejk]at hku
   ·rw[Array.setIfInBounds_comm _ _ e]
    exact y3
def Seq (B:Nat) (P:Program) (ops:Array Oper) (Q:Exit→Act→World→Prop):List (Nat×Bool)→Act→World→Prop
 |[],a,w=>Q .normal a w
 |(i,true)::r,a,w=>∃o,ops[i]?=some o∧∃v,YieldsIf P ops (Below B w) o v a∧Seq B P ops Q r (a.put o.dst v) w
 |(i,false)::r,a,w=>∃o,ops[i]?=some o∧wpList P ops (Exit.then (fun a' w'=>Below B w w'∧Seq B P ops Q r a' w') Q) [o] a w
theorem zdu (hs:Region.noSelect ops=true) (hQ:∀c a d v w,Q (.panic c) (a.put d v) w→Q (.panic c) a w):∀(l:List (Nat×Bool)) (listed:Array Bool) (a:Act) (w:World),
  Grow.zb0 md ops l listed=true→Seq B P ops Q l a w→M B P md ops Q l.length listed a w
 |[],listed,a,w,hB,h=>⟨by simpa[Grow.zb0]using hB,h⟩
 |(i,true)::r,listed,a,w,hB,⟨o,ho,v,hy,h⟩=>by
  simp only[Grow.zb0,Bool.and_eq_true]at hB
  obtain⟨⟨⟨h1,h2⟩,_⟩,h4⟩:=hB
  exact M.first ho hs (fun c a w=>hQ c a o.dst v w) r.length listed a w (Region.free_spec ho h2) (by simpa using h1) hy (zdu hs hQ r _ _ _ h4 h)
 |(i,false)::r,listed,a,w,hB,⟨o,ho,h⟩=>by
  simp only[Grow.zb0,Bool.and_eq_true,beq_iff_eq]at hB
  obtain⟨h1,h4⟩:=hB
  refine⟨fun h0=>(by rw[h1]at h0;cases h0),fun j hj=>?_⟩
  rw[h1]at hj
  obtain rfl:j=i:=by simpa using hj
  unfold wpOp
  simp only[ho]
  unfold wpList at h
  split
  ·rename_i hw
   rw[if_pos hw]at h
   rcases h with h|⟨h,a',w',hl⟩
   ·refine .inl ?_
    unfold Oper.wp at h ⊢
    generalize (execOp a.eval o).run P w=x at h ⊢
    have on:∀a' w',wpList P ops (Exit.then (fun a' w'=>Below B w w'∧Seq B P ops Q r a' w') Q) [] a' w'→Below B w w'∧M B P md ops Q r.length (listed.setIfInBounds j true) a' w':=by
     intro a' w' hh
     unfold wpList at hh
     exact⟨hh.1,zdu hs hQ r _ _ _ h4 hh.2⟩
    cases x with
    |ok n u=>
     cases n <;> simp only[Oper.upon]at h ⊢
     case enter f args=>
      refine Calls.mono h fun e w'' he=>?_
      cases e with
      |returned v=>exact on _ _ he
      |panicked c=>exact he
      |outgrown=>exact he
     case row row args=>exact Rows.mono h fun v w'' he=>on _ _ he
     all_goals exact on _ _ h
    |halt x u=>cases x <;> simp only[Oper.upon]at h ⊢;exact h
   ·exact .inr ⟨h,a',w',hl⟩
  ·rename_i hw
   rw[if_neg hw]at h
   unfold wpList at h
   exact⟨h.1,zdu hs hQ r _ _ _ h4 h.2⟩
theorem region (B:Nat) {id:Nat} {a:Act} {w:World} {l:List Oper} (order:List (Nat×Bool)) (hm:P.follows .mixedOrders=true) (hs:Region.noSelect l.toArray=true)
  (hl:order.length=l.toArray.size) (hB:Grow.zb0 .any l.toArray order (Array.replicate l.toArray.size false)=true) (hQ:∀c a d v w,Q (.panic c) (a.put d v) w→Q (.panic c) a w)
  (h:Seq B P l.toArray Q order a w.drew):(Code.region id l.toArray true).wp P Q a w:=by
 refine wp_region_any hm (M.any (B:=B) _ _ _ _ ?_)
 have:=zdu (md:=.any) hs hQ order (Array.replicate l.toArray.size false) a w.drew hB h
 rw[hl]at this
 exact this
theorem reads {l:List Oper} {i:Nat} {o:Oper} {r:List (Nat×Bool)} {a:Act} {w:World} (hn:Grow.nth l i=some o) (hp:Grow.plain o=true)
  (h:wpQuiet P l.toArray (fun w'=>∃u:World,w'=u) (fun a'=>Seq B P l.toArray Q r a' w) [o] a):Seq B P l.toArray Q ((i,true)::r) a w:=by
 have ho:=(Grow.zb2 l i).trans hn
 unfold wpQuiet at h
 split at h
 ·rename_i hw
  obtain⟨v,h1,h2⟩:=h
  refine⟨o,ho,v,.inl ⟨hw,fun u hu=>?_⟩,h2⟩
  have q:=h1 u ⟨u,rfl⟩
  unfold Oper.quietAt at q
  cases hx:(execOp a.eval o).run P u with
  |ok n u'=>
   obtain⟨x,rfl⟩:=Grow.zcp hp hx
   rw[hx]at q
   obtain⟨rfl,rfl⟩:=q
   rfl
  |halt x u'=>rw[hx]at q;exact q.elim
 ·rename_i hw
  exact⟨o,ho,undef,.inr ⟨by simpa using hw,rfl⟩,h⟩
structure zpu (B:Nat) (w:World) where
 u:World
 h:Below B w u
instance (B:Nat) (w:World):Inhabited (zpu B w):=⟨⟨w,Below.refl _ _⟩⟩
theorem zdW {l:List Oper} {i:Nat} {o:Oper} {r:List (Nat×Bool)} {a:Act} {w:World} (hn:Grow.nth l i=some o) (hp:Grow.plain o=true)
  (h:wpQuiet P l.toArray (fun w'=>∃p:zpu B w,w'=p.u) (fun a'=>Seq B P l.toArray Q r a' w) [o] a):Seq B P l.toArray Q ((i,true)::r) a w:=by
 have ho:=(Grow.zb2 l i).trans hn
 unfold wpQuiet at h
 split at h
 ·rename_i hw
  obtain⟨v,h1,h2⟩:=h
  refine⟨o,ho,v,.inl ⟨hw,fun u hu=>?_⟩,h2⟩
  have q:=h1 u ⟨⟨u,hu⟩,rfl⟩
  unfold Oper.quietAt at q
  cases hx:(execOp a.eval o).run P u with
  |ok n u'=>
   obtain⟨x,rfl⟩:=Grow.zcp hp hx
   rw[hx]at q
   obtain⟨rfl,rfl⟩:=q
   rfl
  |halt x u'=>rw[hx]at q;exact q.elim
 ·rename_i hw
  exact⟨o,ho,undef,.inr ⟨by simpa using hw,rfl⟩,h⟩
def On (B:Nat) (P:Program) (ops:Array Oper) (Q:Exit→Act→World→Prop) (r:List (Nat×Bool)) (w:World) (a':Act) (w':World):Prop:=Below B w w'∧Seq B P ops Q r a' w'
theorem acts {l:List Oper} {i:Nat} {o:Oper} {r:List (Nat×Bool)} {a:Act} {w:World} (hn:Grow.nth l i=some o)
  (h:wpList P l.toArray (Exit.then (On B P l.toArray Q r w) Q) [o] a w):Seq B P l.toArray Q ((i,false)::r) a w:=⟨o,(Grow.zb2 l i).trans hn,h⟩
theorem ends {a:Act} {w:World} (h:Q .normal a w):Seq B P ops Q [] a w:=h
end
end Go.Proofs.YtgmdhaepiclkcaaGreatDoor.GrowB
namespace Go.Proofs.YtgmdhaepiclkcaaGreatDoor.OpsP
set_option maxHeartbeats 8000000
set_option maxRecDepth 100000
open Go Go.RowKit Go.Sort Byt OpsM OpsK OpsW OpsC EncM EncC
theorem zdH {k:Int} (h0:0≤k) (h1:k≤18446744073709551615) (w:World):Calls Tryz.prog 121 #[.int .u64 k] w (New (zaO k.toNat) w):=by
 have:=num k.toNat (by unfold Fits;omega) w
 rwa[show((k.toNat:Nat):Int)=k by omega]at this
theorem puts1 (g:Nat) (o:Opn) (w:World) (h:zbP w g o) (hn:I64 o.n):
  Calls Tryz.prog 186 #[.pointer (some ⟨g,0,none⟩)] w (New (zaO (foldI o.n).toNat) w):=by
 have c3:=h.n
 have c1:=fold o.n hn
 have hb:=zcT hn
 have c2:=zdH hb.1 hb.2
 obtain⟨n,hn'⟩:∃n,o.n=n:=⟨_,rfl⟩
 obtain⟨k,hk'⟩:∃k,foldI o.n=k:=⟨_,rfl⟩
 rw[hk']at c1 c2 ⊢
 rw[hn']at c3 c1
 clear hn' hk' h hb hn
 go_enter Tryz.func186,Tryz.ntmps186
 go_wp2_with fail
 refine(c1 _).mono ?_
 rintro e w' ⟨rfl,rfl⟩
 go_wp2_with fail
 refine(c2 _).mono ?_
 rintro e w' ⟨v,rfl,ho,hb⟩
 have HO:=aside ho
 clear ho
 go_wp2_with fail
 go_ret
 exact⟨v,rfl,HO.out,hb⟩
theorem puts2 (g:Nat) (o:Opn) (w:World) (h:zbP w g o) (hs:o.elem.size≤1099511627776):
  Calls Tryz.prog 187 #[.pointer (some ⟨g,0,none⟩)] w (New (zbB (zan o.elem)) w):=by
 have c2:=h.elem
 have c1:=text o.elem hs w
 obtain⟨s,hs'⟩:∃s,o.elem=s:=⟨_,rfl⟩
 rw[hs']at c1 c2 ⊢
 clear hs' h hs
 go_enter Tryz.func187,Tryz.ntmps187
 go_wp2_with fail
 refine c1.mono ?_
 rintro e w' ⟨v,rfl,ho,hb⟩
 have HO:=aside ho
 clear ho
 go_wp2_with fail
 go_ret
 exact⟨v,rfl,HO.out,hb⟩
theorem puts (o:Opn) (w:World):
  Calls Tryz.prog 155 #[.agg (opc o)] w (Tab 186 187 o w):=by
 have O1:=zbP.new w o 45
 have hmm:=made 187
 go_enter Tryz.func155,Tryz.ntmps155
 go_wp2_with (refine zcx Tryz.underlying187 rfl rfl _ _ _ rfl _ _ _ rfl _ rfl (by simp) _ (by unfold I64;omega) rfl rfl _ rfl ?_)
 go_ret
 have hz:(w.alloc (.cells (opc o) 45)).heap.size=w.heap.size+1:=by simp
 have ht:=znq (w.alloc (.cells (opc o) 45)) (.func (.func 186) #[] #[.pointer (some ⟨w.heap.size,0,none⟩)]) (.func (.func 187) #[] #[.pointer (some ⟨w.heap.size,0,none⟩)])
 rw[hz]at ht
 exact⟨w.heap.size,w.heap.size+1,rfl,O1.alloc _,ht,((Below.refl _ _).alloc (Nat.le_refl _) _).alloc (by simp) _⟩
def zid (o:Opn) (w:World) (e:Ending) (w':World):Prop:=
 ∃v,e=.returned (.tuple #[v,.int .i64 0])∧w'.ownsRow w.heap.size 5 1 v (ze6 o).length (bv (ze6 o))∧Below w.heap.size w w'
theorem tail0 {o:Opn} (h:o.kind=0):zdT o=zaO (foldI o.n).toNat:=by unfold zdT;rw[if_pos h]
theorem tail1 {o:Opn} (h:o.kind=1∨o.kind=2∨o.kind=3):zdT o=zbB (zan o.elem):=by unfold zdT;rw[if_neg (by omega)]
theorem put0 (o:Opn) (w:World) (hf:Fit o) (hm:zda o=true) (hk:o.kind=0):
  Calls Tryz.prog 124 #[.agg (opc o)] w (zid o w):=by
 have O1:=zbP.new w o 45
 have cm:=fun W=>may o W hf
 rw[hm]at cm
 obtain⟨hkey,hrest⟩:=zbE hm
 have hkl:=zbT hkey
 have hk0:0≤o.kind∧o.kind≤3:=by omega
 have cn:=zdH hk0.1 (by omega)
 have ct:=text o.key (by have:=zaT o.key;omega)
 have ln:=zaZ (n:=o.kind.toNat) (by omega)
 have lt:=EncT.zbr (zan o.key) (by omega)
 have bt:∀x ∈ zbB (zan o.key),B x:=EncT.zes (zdq _)
 have hn:=hf.n
 have cc:=fun g W h=>puts1 g o W h hn
 have lz:=zaZ (n:=(foldI o.n).toNat) (by have:=zcT hn;omega)
 have bz:∀x ∈ zaO (foldI o.n).toNat,B x:=zb1 _
 obtain⟨Z,hZ⟩:∃Z,zaO (foldI o.n).toNat=Z:=⟨_,rfl⟩
 rw[hZ]at cc lz bz
 have HZ:=aside hZ
 have HZB:=aside bz
 clear hZ bz hn
 obtain⟨X,hX⟩:∃X,zaO o.kind.toNat=X:=⟨_,rfl⟩
 obtain⟨T,hT⟩:∃T,zbB (zan o.key)=T:=⟨_,rfl⟩
 have hput:ze6 o=X++T++zdT o:=by unfold ze6;rw[hX,hT]
 rw[hX]at cn ln
 rw[hT]at ct lt bt
 have lt':T.length≤20:=by omega
 have HK:=aside hk
 have HB:=aside bt
 have HP:=aside hput
 obtain⟨kb0,kb1⟩:=hk0
 clear hX hT hput bt lt hkl hkey hrest hm hk
 go_enter Tryz.func124,Tryz.ntmps124
 go_wp2_with (refine zbR rfl _ rfl _ rfl o O1 ?_)
 refine(cm _).mono ?_
 rintro e w1 ⟨rfl,h1⟩
 have k1:Below w.heap.size w w1:=Below.trans ((Below.refl _ _).alloc (Nat.le_refl _) _) (h1.mono (by simp))
 have O2:=O1.below h1
 clear h1 O1 cm
 go_wp2_with fail
 refine GrowB.region (w.heap.size+1) [(0,true),(1,true),(2,true),(4,true),(5,true),(3,false),(6,false),(7,false),(8,true)] (by kernel_rfl) (by kernel_rfl) rfl (by kernel_rfl) (by intro c a d v w h;cases d <;> exact h) ?_
 have kd:=zaf k1
 have O3:zbP w1.drew w.heap.size o:=O2
 obtain⟨W1,hW1⟩:∃W,w1.drew=W:=⟨_,rfl⟩
 rw[hW1]at kd O3 ⊢
 clear hW1 k1 O2
 have hs1:w.heap.size+1≤W1.heap.size:=O3.lt
 have q0:∀p:GrowB.zpu (w.heap.size+1) W1,p.u.cell? ⟨w.heap.size,0,none⟩=some (.int .i64 o.kind):=fun p=>(O3.block p.h (by omega)).kind
 have q1:∀p:GrowB.zpu (w.heap.size+1) W1,p.u.cell? ⟨w.heap.size,1,none⟩=some (.string o.key):=fun p=>(O3.block p.h (by omega)).key
 repeat (refine GrowB.zdW rfl rfl ?_;go_big_quiet_step (fail);refine wpQuiet_nil ?_)
 clear q0 q1
 refine GrowB.acts rfl ?_
 go_wp2_with fail
 refine(cn _).mono ?_
 rintro e w2 ⟨v2,rfl,zdg,h2⟩
 have O4:=O3.below h2
 have k2:=kd.trans (h2.mono kd.size)
 have hs2:=h2.size
 have R2:=aside zdg
 clear zdg cn O3
 go_wp2_with fail
 refine⟨h2.mono hs1,?_⟩
 clear h2
 refine GrowB.acts rfl ?_
 go_wp2_with fail
 refine(ct _).mono ?_
 rintro e w3 ⟨v3,rfl,zbL,h3⟩
 have O5:=O4.below h3
 have k3:=k2.trans (h3.mono k2.size)
 have hs3:=h3.size
 have R3:=aside (zao R2.out h3)
 obtain⟨A3,c3,rfl,S3⟩:=Sl.own zbL HB.out
 clear zbL ct O4 R2
 go_wp2_with fail
 refine⟨h3.mono (by omega),?_⟩
 clear h3
 refine GrowB.acts rfl ?_
 refine zau rfl _ _ 114 rfl W1.heap.size 5 Tryz.underlying114 zaR v2 _ X rfl R3.out _ _ _ T rfl rfl S3 (by omega) (by omega) ?_
 intro v4 w4 own4 g4
 have r4:∀k,v2.ownBlock=some k→W1.heap.size≤k:=fun k hk=>(R3.out.lt k hk).1
 have h4:Below (w.heap.size+1) w3 w4:=below_grown (Below.refl _ _) (by omega) g4 (fun k hk=>by have:=r4 k hk;omega)
 have k4:Below w.heap.size w w4:=k3.trans (h4.mono (by omega))
 have O6:=O5.block h4 (by omega)
 have hs4:=g4.size
 have R4:=aside own4
 clear own4 g4 r4 R3 S3 O5
 simp only[Act.put,List.setIfInBounds_toArray,List.set_cons_succ,List.set_cons_zero]
 refine⟨h4,?_⟩
 clear h4
 repeat (refine GrowB.reads rfl rfl ?_;go_big_quiet_step (fail);refine wpQuiet_nil ?_)
 refine GrowB.ends ?_
 go_wp2_with fail
 refine Grow.region [(0,true),(2,true),(3,true),(1,false),(4,true),(5,true)] (by kernel_rfl) (by kernel_rfl) rfl (by kernel_rfl) (by intro c a d v w h;cases d <;> exact h) ?_
 have kd:=zaf k4
 have O7:zbP w4.drew w.heap.size o:=O6
 have R5:=aside (zao R4.out (zaf (Below.refl w4.heap.size w4)))
 have hs5:W1.heap.size≤w4.drew.heap.size:=by show W1.heap.size≤w4.heap.size;omega
 obtain⟨W4,hW4⟩:∃W,w4.drew=W:=⟨_,rfl⟩
 rw[hW4]at kd O7 R5 hs5 ⊢
 clear hW4 k4 O6 R4
 have q0:=O7.zhS
 repeat (first|(refine zcL rfl rfl _ rfl _ rfl o O7 ?_;simp only[Act.put,List.setIfInBounds_toArray,List.set_cons_succ,List.set_cons_zero])|(refine Grow.reads rfl rfl ?_;go_big_quiet_step (fail);refine wpQuiet_nil ?_))
 clear q0
 refine Grow.acts rfl ?_
 go_wp2_with fail
 refine(puts o W4).mono ?_
 rintro e w5 ⟨g,m,rfl,Og,Tm,h5⟩
 have k5:=kd.trans (h5.mono kd.size)
 have R6:=aside (zao R5.out h5)
 have hs6:=h5.size
 clear kd O7 R5
 go_wp2_with fail
 refine⟨h5,?_⟩
 clear h5
 have hl:=zlS Tryz.underlying187 false Tm
 rw[←HK.out]at hl
 repeat (refine Grow.reads rfl rfl ?_;go_big_quiet_step (fail);refine wpQuiet_nil ?_)
 clear hl
 refine Grow.ends ?_
 go_wp2_with fail
 refine(cc _ _ Og).mono ?_
 rintro e w6 ⟨v6,rfl,zjS,h6⟩
 have k6:=k5.trans (h6.mono k5.size)
 have R7:=aside (zao R6.out h6)
 have hs7:=h6.size
 obtain⟨A6,c6,rfl,S6⟩:=Sl.own zjS HZB.out
 clear zjS R6 h6
 go_wp2_with (refine zau rfl _ _ 114 rfl W1.heap.size 5 Tryz.underlying114 zaR _ _ (X++T) rfl R7.out _ _ _ Z rfl rfl S6 (by omega) (by omega) ?_;intro v8 w8 zlH g8;have k8:Below w.heap.size w w8:=below_grown k6 (by omega) g8 (fun k hk=>by have:=(R7.out.lt k hk).1;omega);have R8:=aside zlH;clear zlH g8)
 go_ret2
 refine⟨v8,rfl,?_,k8⟩
 rw[HP.out,tail0 HK.out,HZ.out,List.length_append,List.length_append]
 exact zb8 R8.out (by omega)
theorem put1 (o:Opn) (w:World) (hf:Fit o) (hm:zda o=true) (hk:o.kind=1∨o.kind=2∨o.kind=3):
  Calls Tryz.prog 124 #[.agg (opc o)] w (zid o w):=by
 have O1:=zbP.new w o 45
 have cm:=fun W=>may o W hf
 rw[hm]at cm
 obtain⟨hkey,hrest⟩:=zbE hm
 have hkl:=zbT hkey
 have hk0:0≤o.kind∧o.kind≤3:=by omega
 have cn:=zdH hk0.1 (by omega)
 have ct:=text o.key (by have:=zaT o.key;omega)
 have ln:=zaZ (n:=o.kind.toNat) (by omega)
 have lt:=EncT.zbr (zan o.key) (by omega)
 have bt:∀x ∈ zbB (zan o.key),B x:=EncT.zes (zdq _)
 have hel:zgO o.n o.elem=true:=by rcases hrest with⟨h0,_⟩|⟨_,h⟩;(·omega);exact h
 have hkl2:=zbT (zdN.1 hel).1
 have cc:=fun g W h=>puts2 g o W h (by have:=zaT o.elem;omega)
 have lz:=EncT.zbr (zan o.elem) (by omega)
 have bz:∀x ∈ zbB (zan o.elem),B x:=EncT.zes (zdq _)
 obtain⟨Z,hZ⟩:∃Z,zbB (zan o.elem)=Z:=⟨_,rfl⟩
 rw[hZ]at cc lz bz
 have lz':Z.length≤20:=by omega
 have HZ:=aside hZ
 have HZB:=aside bz
 clear hZ bz hel hkl2 lz
 obtain⟨X,hX⟩:∃X,zaO o.kind.toNat=X:=⟨_,rfl⟩
 obtain⟨T,hT⟩:∃T,zbB (zan o.key)=T:=⟨_,rfl⟩
 have hput:ze6 o=X++T++zdT o:=by unfold ze6;rw[hX,hT]
 rw[hX]at cn ln
 rw[hT]at ct lt bt
 have lt':T.length≤20:=by omega
 have HK:=aside hk
 have HB:=aside bt
 have HP:=aside hput
 obtain⟨kb0,kb1⟩:=hk0
 clear hX hT hput bt lt hkl hkey hrest hm hk
 go_enter Tryz.func124,Tryz.ntmps124
 go_wp2_with (refine zbR rfl _ rfl _ rfl o O1 ?_)
 refine(cm _).mono ?_
 rintro e w1 ⟨rfl,h1⟩
 have k1:Below w.heap.size w w1:=Below.trans ((Below.refl _ _).alloc (Nat.le_refl _) _) (h1.mono (by simp))
 have O2:=O1.below h1
 clear h1 O1 cm
 go_wp2_with fail
 refine GrowB.region (w.heap.size+1) [(0,true),(1,true),(2,true),(4,true),(5,true),(3,false),(6,false),(7,false),(8,true)] (by kernel_rfl) (by kernel_rfl) rfl (by kernel_rfl) (by intro c a d v w h;cases d <;> exact h) ?_
 have kd:=zaf k1
 have O3:zbP w1.drew w.heap.size o:=O2
 obtain⟨W1,hW1⟩:∃W,w1.drew=W:=⟨_,rfl⟩
 rw[hW1]at kd O3 ⊢
 clear hW1 k1 O2
 have hs1:w.heap.size+1≤W1.heap.size:=O3.lt
 have q0:∀p:GrowB.zpu (w.heap.size+1) W1,p.u.cell? ⟨w.heap.size,0,none⟩=some (.int .i64 o.kind):=fun p=>(O3.block p.h (by omega)).kind
 have q1:∀p:GrowB.zpu (w.heap.size+1) W1,p.u.cell? ⟨w.heap.size,1,none⟩=some (.string o.key):=fun p=>(O3.block p.h (by omega)).key
 repeat (refine GrowB.zdW rfl rfl ?_;go_big_quiet_step (fail);refine wpQuiet_nil ?_)
 clear q0 q1
 refine GrowB.acts rfl ?_
 go_wp2_with fail
 refine(cn _).mono ?_
 rintro e w2 ⟨v2,rfl,zdg,h2⟩
 have O4:=O3.below h2
 have k2:=kd.trans (h2.mono kd.size)
 have hs2:=h2.size
 have R2:=aside zdg
 clear zdg cn O3
 go_wp2_with fail
 refine⟨h2.mono hs1,?_⟩
 clear h2
 refine GrowB.acts rfl ?_
 go_wp2_with fail
 refine(ct _).mono ?_
 rintro e w3 ⟨v3,rfl,zbL,h3⟩
 have O5:=O4.below h3
 have k3:=k2.trans (h3.mono k2.size)
 have hs3:=h3.size
 have R3:=aside (zao R2.out h3)
 obtain⟨A3,c3,rfl,S3⟩:=Sl.own zbL HB.out
 clear zbL ct O4 R2
 go_wp2_with fail
 refine⟨h3.mono (by omega),?_⟩
 clear h3
 refine GrowB.acts rfl ?_
 refine zau rfl _ _ 114 rfl W1.heap.size 5 Tryz.underlying114 zaR v2 _ X rfl R3.out _ _ _ T rfl rfl S3 (by omega) (by omega) ?_
 intro v4 w4 own4 g4
 have r4:∀k,v2.ownBlock=some k→W1.heap.size≤k:=fun k hk=>(R3.out.lt k hk).1
 have h4:Below (w.heap.size+1) w3 w4:=below_grown (Below.refl _ _) (by omega) g4 (fun k hk=>by have:=r4 k hk;omega)
 have k4:Below w.heap.size w w4:=k3.trans (h4.mono (by omega))
 have O6:=O5.block h4 (by omega)
 have hs4:=g4.size
 have R4:=aside own4
 clear own4 g4 r4 R3 S3 O5
 simp only[Act.put,List.setIfInBounds_toArray,List.set_cons_succ,List.set_cons_zero]
 refine⟨h4,?_⟩
 clear h4
 repeat (refine GrowB.reads rfl rfl ?_;go_big_quiet_step (fail);refine wpQuiet_nil ?_)
 refine GrowB.ends ?_
 go_wp2_with fail
 refine Grow.region [(0,true),(2,true),(3,true),(1,false),(4,true),(5,true)] (by kernel_rfl) (by kernel_rfl) rfl (by kernel_rfl) (by intro c a d v w h;cases d <;> exact h) ?_
 have kd:=zaf k4
 have O7:zbP w4.drew w.heap.size o:=O6
 have R5:=aside (zao R4.out (zaf (Below.refl w4.heap.size w4)))
 have hs5:W1.heap.size≤w4.drew.heap.size:=by show W1.heap.size≤w4.heap.size;omega
 obtain⟨W4,hW4⟩:∃W,w4.drew=W:=⟨_,rfl⟩
 rw[hW4]at kd O7 R5 hs5 ⊢
 clear hW4 k4 O6 R4
 have q0:=O7.zhS
 repeat (first|(refine zcL rfl rfl _ rfl _ rfl o O7 ?_;simp only[Act.put,List.setIfInBounds_toArray,List.set_cons_succ,List.set_cons_zero])|(refine Grow.reads rfl rfl ?_;go_big_quiet_step (fail);refine wpQuiet_nil ?_))
 clear q0
 refine Grow.acts rfl ?_
 go_wp2_with fail
 refine(puts o W4).mono ?_
 rintro e w5 ⟨g,m,rfl,Og,Tm,h5⟩
 have k5:=kd.trans (h5.mono kd.size)
 have R6:=aside (zao R5.out h5)
 have hs6:=h5.size
 clear kd O7 R5
 go_wp2_with fail
 refine⟨h5,?_⟩
 clear h5
 have hl:=zlR Tryz.underlying187 false HK.out Tm
 repeat (refine Grow.reads rfl rfl ?_;go_big_quiet_step (fail);refine wpQuiet_nil ?_)
 clear hl
 refine Grow.ends ?_
 go_wp2_with fail
 refine(cc _ _ Og).mono ?_
 rintro e w6 ⟨v6,rfl,zjS,h6⟩
 have k6:=k5.trans (h6.mono k5.size)
 have R7:=aside (zao R6.out h6)
 have hs7:=h6.size
 obtain⟨A6,c6,rfl,S6⟩:=Sl.own zjS HZB.out
 clear zjS R6 h6
 go_wp2_with (refine zau rfl _ _ 114 rfl W1.heap.size 5 Tryz.underlying114 zaR _ _ (X++T) rfl R7.out _ _ _ Z rfl rfl S6 (by omega) (by omega) ?_;intro v8 w8 zlH g8;have k8:Below w.heap.size w w8:=below_grown k6 (by omega) g8 (fun k hk=>by have:=(R7.out.lt k hk).1;omega);have R8:=aside zlH;clear zlH g8)
 go_ret2
 refine⟨v8,rfl,?_,k8⟩
 rw[HP.out,tail1 HK.out,HZ.out,List.length_append,List.length_append]
 exact zb8 R8.out (by omega)
theorem zdX (o:Opn) (w:World) (hf:Fit o) (hm:zda o=true):Calls Tryz.prog 124 #[.agg (opc o)] w (zid o w):=by
 obtain⟨_,h|h⟩:=zbE hm
 ·exact put0 o w hf hm h.1
 ·exact put1 o w hf hm h.1
end Go.Proofs.YtgmdhaepiclkcaaGreatDoor.OpsP
