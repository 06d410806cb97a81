/- Plain facts on what commits know by their places in a list, and on the | A table of who knows whom, as it is found out | A table of truth values in memory, row by row | What the document's Put of package ops returns -/
import Derived.Test.YtgmdhaepiclkcaaGreatDoorRegLJ5
import Derived.Test.YtgmdhaepiclkcaaGreatDoorRowGJ7
import Derived.Test.YtgmdhaepiclkcaaGreatDoorRotMJ9
import Derived.Test.YtgmdhaepiclkcaaGreatDoorRefEJ9
import Derived.Test.YtgmdhaepiclkcaaGreatDoorForksJ5
namespace Go.Proofs.YtgmdhaepiclkcaaGreatDoor.DgN
set_option maxRecDepth 100000
open IdM CmM DgM
open Classical
section
variable {H:Com→Idn}
def idx (all:List Idn) (a:Idn):Option Nat:=all.findIdx? fun x=>decide (x=a)
def atI (all:List Idn) (a:Idn):Int:=match idx all a with
 |some p=>(p:Int)
 |none=>-1
theorem zcP {all:List Idn} {a:Idn} {p:Nat} (h:idx all a=some p):all[p]?=some a∧∀j,j<p→all[j]?≠some a:=by
 unfold idx at h
 rw[List.findIdx?_eq_some_iff_getElem]at h
 obtain⟨h1,h2,h3⟩:=h
 refine⟨by rw[List.getElem?_eq_getElem h1,of_decide_eq_true h2],fun j hj e=>?_⟩
 have hjl:j<all.length:=by omega
 rw[List.getElem?_eq_getElem hjl]at e
 have:=h3 j hj
 simp[Option.some.inj e]at this
theorem ziB {all:List Idn} {a:Idn} {p:Nat} (h:idx all a=some p):p<all.length:=(List.getElem?_eq_some_iff.1 (zcP h).1).1
theorem zfO {all:List Idn} {a:Idn}:idx all a=none↔a ∉ all:=by
 unfold idx
 rw[List.findIdx?_eq_none_iff]
 constructor
 ·intro h ha
  have:=h a ha
  simp at this
 ·intro h x hx
  simp only[decide_eq_false_iff_not]
  rintro rfl
  exact h hx
theorem zgA {all:List Idn} (h:all.Nodup) {i:Nat} {a:Idn} (hi:all[i]?=some a):idx all a=some i:=by
 cases hq:idx all a with
 |none=>exact absurd (List.mem_of_getElem? hi) (zfO.1 hq)
 |some p=>
  obtain⟨h1,_⟩:=zcP hq
  obtain⟨hil,e1⟩:=List.getElem?_eq_some_iff.1 hi
  obtain⟨hpl,e2⟩:=List.getElem?_eq_some_iff.1 h1
  rw[(List.getElem_inj h).1 (e2.trans e1.symm)]
def ParI (l:List Com) (all:List Idn) (i p:Nat):Prop:=∃c a,l[i]?=some c∧a ∈ c.ps∧idx all a=some p
inductive KnI (l:List Com) (all:List Idn):Nat→Nat→Prop
 |one {i p:Nat}:ParI l all i p→KnI l all i p
 |more {i p j:Nat}:ParI l all i p→KnI l all p j→KnI l all i j
theorem kni_lt {l:List Com} {all:List Idn} {i j:Nat} (h:KnI l all i j):i<l.length∧j<all.length:=by
 induction h with
 |one h=>obtain⟨c,a,h1,_,h3⟩:=h;exact⟨(List.getElem?_eq_some_iff.1 h1).1,ziB h3⟩
 |more h _ ih=>obtain⟨c,a,h1,_,h3⟩:=h;exact⟨(List.getElem?_eq_some_iff.1 h1).1,ih.2⟩
theorem kni_kn {l:List Com} {i j:Nat} (h:KnI l (l.map H) i j):∃a b,(l.map H)[i]?=some a∧(l.map H)[j]?=some b∧Kn H l a b:=by
 have one:∀{i p:Nat},ParI l (l.map H) i p→∃a b,(l.map H)[i]?=some a∧(l.map H)[p]?=some b∧Par H l a b:=by
  rintro i p ⟨c,b,h1,h2,h3⟩
  exact⟨H c,b,by rw[List.getElem?_map,h1];rfl,(zcP h3).1,c,List.mem_of_getElem? h1,rfl,h2⟩
 induction h with
 |one h=>obtain⟨a,b,h1,h2,h3⟩:=one h;exact⟨a,b,h1,h2,.one h3⟩
 |more h _ ih=>
  obtain⟨a,b,h1,h2,h3⟩:=one h
  obtain⟨b',c,h4,h5,h6⟩:=ih
  rw[h2]at h4
  obtain rfl:=Option.some.inj h4
  exact⟨a,c,h1,h5,.more h3 h6⟩
theorem kn_kni {l:List Com} (hn:(l.map H).Nodup) (hf:∀c ∈ l,∀a ∈ c.ps,a ∈ l.map H) {a b:Idn} (h:Kn H l a b):∀i,(l.map H)[i]?=some a→∃j,(l.map H)[j]?=some b∧KnI l (l.map H) i j:=by
 have one:∀{a b:Idn},Par H l a b→∀i,(l.map H)[i]?=some a→∃j,(l.map H)[j]?=some b∧ParI l (l.map H) i j:=by
  rintro a b ⟨c,hc,rfl,hb⟩ i hi
  cases hq:idx (l.map H) b with
  |none=>exact absurd (hf c hc b hb) (zfO.1 hq)
  |some p=>
   refine⟨p,(zcP hq).1,c,b,?_,hb,hq⟩
   rw[List.getElem?_map]at hi
   cases hd:l[i]? with
   |none=>rw[hd]at hi;cases hi
   |some d=>
    rw[hd]at hi
    rw[zhu hn (List.mem_of_getElem? hd) hc (Option.some.inj hi)]
 induction h with
 |one h=>intro i hi;obtain⟨j,h1,h2⟩:=one h i hi;exact⟨j,h1,.one h2⟩
 |more h _ ih=>
  intro i hi
  obtain⟨p,h1,h2⟩:=one h i hi
  obtain⟨j,h3,h4⟩:=ih p h1
  exact⟨j,h3,.more h2 h4⟩
theorem zdw {l:List Com} (hn:(l.map H).Nodup) (hf:∀c ∈ l,∀a ∈ c.ps,a ∈ l.map H) {i j:Nat} {a b:Idn} (hi:(l.map H)[i]?=some a) (hj:(l.map H)[j]?=some b):KnI l (l.map H) i j↔Kn H l a b:=by
 constructor
 ·intro h
  obtain⟨a',b',h1,h2,h3⟩:=kni_kn h
  rw[hi]at h1
  rw[hj]at h2
  rw[Option.some.inj h1,Option.some.inj h2]
  exact h3
 ·intro h
  obtain⟨j',h1,h2⟩:=kn_kni hn hf h i hi
  have e:=zgA hn h1
  rw[zgA hn hj]at e
  rw[Option.some.inj e]
  exact h2
def gI (l:List Com) (all:List Idn) (a:Idn):Int:=(((idx all a).bind fun p=>l[p]?).map (·.gen)).getD 0
theorem gI_of {l:List Com} (hn:(l.map H).Nodup) {a:Idn} (ha:a ∈ l.map H):gI l (l.map H) a=gAt H l a:=by
 obtain⟨c,hc,rfl⟩:=List.mem_map.1 ha
 obtain⟨i,hi⟩:=List.mem_iff_getElem?.1 hc
 unfold gI
 rw[zgA hn (i:=i) (by rw[List.getElem?_map,hi];rfl),zfT hn hc]
 simp[hi]
structure OneI (l:List Com) (all:List Idn) (c:Com):Prop where
 found:∀a ∈ c.ps,a ∈ all
 apart:∀a ∈ c.ps,∀b ∈ c.ps,∀p q,idx all a=some p→idx all b=some q→¬KnI l all p q
 gen:c.gen=1+most (c.ps.map (gI l all))
structure zna (l:List Com) (all:List Idn) (i:Nat) (c:Com):Prop where
 merge:isM c=false
 one:OneI l all c
 first:∀a,all[i]?=some a→idx all a=some i
 ahead:∀j d,j<i→l[j]?=some d→c.node=d.node→c.seq≠d.seq∧(d.seq<c.seq→KnI l all i j)∧(c.seq<d.seq→KnI l all j i)
theorem zoX {l:List Com} (hm:∀c ∈ l,zbn c=true) (h:∀i c,l[i]?=some c→zna l (l.map H) i c):Closed H l:=by
 have hn:(l.map H).Nodup:=by
  rw[List.nodup_iff_pairwise_ne,List.pairwise_iff_getElem]
  intro i j hi hj hij e
  have hjl:j<l.length:=by rwa[List.length_map]at hj
  have h1:=(h j _ (List.getElem?_eq_getElem hjl)).first ((l.map H)[j]) (List.getElem?_eq_getElem hj)
  exact(zcP h1).2 i hij (by rw[List.getElem?_eq_getElem hi,e])
 have hf:∀c ∈ l,∀a ∈ c.ps,a ∈ l.map H:=fun c hc=>by
  obtain⟨i,hi⟩:=List.mem_iff_getElem?.1 hc
  exact(h i c hi).one.found
 have at_:∀{i:Nat} {c:Com},l[i]?=some c→(l.map H)[i]?=some (H c):=fun hi=>by rw[List.getElem?_map,hi];rfl
 refine⟨hm,fun c hc=>?_,hn,hf,fun c hc=>?_,fun c hc a ha b hb k=>?_,fun c hc d hd hne zdh=>?_⟩
 ·obtain⟨i,hi⟩:=List.mem_iff_getElem?.1 hc
  exact(h i c hi).merge
 ·obtain⟨i,hi⟩:=List.mem_iff_getElem?.1 hc
  rw[(h i c hi).one.gen]
  congr 2
  exact List.map_congr_left fun a ha=>gI_of hn (hf c hc a ha)
 ·obtain⟨i,hi⟩:=List.mem_iff_getElem?.1 hc
  obtain⟨p,hp⟩:=List.mem_iff_getElem?.1 (hf c hc a ha)
  obtain⟨q,hq⟩:=List.mem_iff_getElem?.1 (hf c hc b hb)
  exact(h i c hi).one.apart a ha b hb p q (zgA hn hp) (zgA hn hq) ((zdw hn hf hp hq).2 k)
 ·obtain⟨i,hi⟩:=List.mem_iff_getElem?.1 hc
  obtain⟨j,hj⟩:=List.mem_iff_getElem?.1 hd
  have hij:i≠j:=by
   rintro rfl
   rw[hi]at hj
   exact hne (Option.some.inj hj)
  rcases Nat.lt_or_ge j i with hlt|hge
  ·obtain⟨k1,k2,_⟩:=(h i c hi).ahead j d hlt hj zdh
   exact⟨k1,fun hs=>(zdw hn hf (at_ hi) (at_ hj)).1 (k2 hs)⟩
  ·obtain⟨k1,_,k3⟩:=(h j d hj).ahead i c (by omega) hi zdh.symm
   exact⟨fun e=>k1 e.symm,fun hs=>(zdw hn hf (at_ hi) (at_ hj)).1 (k3 hs)⟩
theorem zk4 {l:List Com} (C:Closed H l) {i:Nat} {c:Com} (hi:l[i]?=some c):zna l (l.map H) i c:=by
 have hc:=List.mem_of_getElem? hi
 have at_:∀{i:Nat} {c:Com},l[i]?=some c→(l.map H)[i]?=some (H c):=fun hi=>by rw[List.getElem?_map,hi];rfl
 refine⟨C.merge c hc,⟨C.found c hc,fun a ha b hb p q hp hq k=>?_,?_⟩,fun a ha=>zgA C.nodup ha,fun j d hji hj zdh=>?_⟩
 ·exact C.apart c hc a ha b hb ((zdw C.nodup C.found (zcP hp).1 (zcP hq).1).1 k)
 ·rw[C.gen c hc]
  congr 2
  exact List.map_congr_left fun a ha=>(gI_of C.nodup (C.found c hc a ha)).symm
 ·have hd:=List.mem_of_getElem? hj
  have hne:c≠d:=by
   rintro rfl
   have e1:=zgA C.nodup (at_ hi)
   have e2:=zgA C.nodup (at_ hj)
   rw[e1]at e2
   have:=Option.some.inj e2
   omega
  obtain⟨k1,k2⟩:=C.node c hc d hd hne zdh
  obtain⟨_,k4⟩:=C.node d hd c hc (fun e=>hne e.symm) zdh.symm
  exact⟨k1,fun hs=>(zdw C.nodup C.found (at_ hi) (at_ hj)).2 (k2 hs),fun hs=>(zdw C.nodup C.found (at_ hj) (at_ hi)).2 (k4 hs)⟩
theorem zm0 {l:List Com} (hm:∀c ∈ l,zbn c=true):Closed H l↔∀i c,l[i]?=some c→zna l (l.map H) i c:=
 ⟨fun C _ _ hi=>zk4 C hi,zoX hm⟩
end
end Go.Proofs.YtgmdhaepiclkcaaGreatDoor.DgN
namespace Go.Proofs.YtgmdhaepiclkcaaGreatDoor.DgP
set_option maxRecDepth 100000
open IdM CmM DgM DgN
open Classical
def upd (K:Nat→Nat→Bool) (i j:Nat):Nat→Nat→Bool:=fun a b=>if a=i∧b=j then true else K a b
theorem upd_at (K:Nat→Nat→Bool) (i j:Nat):upd K i j i j=true:=if_pos ⟨rfl,rfl⟩
theorem upd_le {K:Nat→Nat→Bool} {i j a b:Nat} (h:K a b=true):upd K i j a b=true:=by
 unfold upd
 split
 ·rfl
 ·exact h
theorem upd_or {K:Nat→Nat→Bool} {i j a b:Nat} (h:upd K i j a b=true):(a=i∧b=j)∨K a b=true:=by
 unfold upd at h
 split at h
 ·rename_i hc;exact .inl hc
 ·exact .inr h
def cnt (n:Nat) (K:Nat→Nat→Bool):Nat:=(List.range (n * n)).countP fun m=> !K (m / n) (m % n)
theorem ziD {α:Type} {p q:α→Bool}:∀l:List α,(∀x ∈ l,q x=true→p x=true)→(∃x ∈ l,p x=true∧q x=false)→l.countP q<l.countP p
 |[],_,h=>by obtain⟨x,hx,_⟩:=h;simp at hx
 |y::l,h,hx=>by
  have hl:∀x ∈ l,q x=true→p x=true:=fun x hx=>h x (List.mem_cons_of_mem _ hx)
  have mono:l.countP q≤l.countP p:=List.countP_mono_left hl
  rw[List.countP_cons,List.countP_cons]
  obtain⟨x,hx,h1,h2⟩:=hx
  rcases List.mem_cons.1 hx with rfl|hx
  ·rw[h1,h2];simp;omega
  ·have ih:=ziD l hl ⟨x,hx,h1,h2⟩
   have hy:=h y (by simp)
   cases hq:q y <;> cases hp:p y
   ·simpa using ih
   ·simp;omega
   ·rw[hy hq]at hp;cases hp
   ·simp;omega
theorem cnt_upd {n i j:Nat} {K:Nat→Nat→Bool} (hi:i<n) (hj:j<n) (h:K i j=false):cnt n (upd K i j)<cnt n K:=by
 refine ziD _ (fun m _ hm=>?_) ⟨i * n+j,?_,?_,?_⟩
 ·cases hk:K (m / n) (m % n)with
  |false=>rfl
  |true=>rw[upd_le hk]at hm;cases hm
 ·rw[List.mem_range]
  have:(i+1) * n≤n * n:=Nat.mul_le_mul_right n hi
  rw[Nat.add_mul,Nat.one_mul]at this
  omega
 ·have hn:0<n:=by omega
  rw[show(i * n+j) / n=i by rw[Nat.mul_comm,Nat.mul_add_div hn,Nat.div_eq_of_lt hj,Nat.add_zero],show(i * n+j) % n=j by rw[Nat.mul_comm,Nat.mul_add_mod,Nat.mod_eq_of_lt hj],h]
  rfl
 ·have hn:0<n:=by omega
  rw[show(i * n+j) / n=i by rw[Nat.mul_comm,Nat.mul_add_div hn,Nat.div_eq_of_lt hj,Nat.add_zero],show(i * n+j) % n=j by rw[Nat.mul_comm,Nat.mul_add_mod,Nat.mod_eq_of_lt hj],upd_at]
  rfl
section
variable (l:List Com) (all:List Idn)
def Sound (K:Nat→Nat→Bool):Prop:=∀i j,K i j=true→KnI l all i j
def Row (K:Nat→Nat→Bool) (i p:Nat) (m:Nat):Prop:=∀j,j<m→(j=p∨K p j=true)→K i j=true
structure Pass (n:Nat) (c0:Nat) (K:Nat→Nat→Bool) (more:Bool) (done:Prop):Prop where
 sound:Sound l all K
 less:more=true→cnt n K<c0
 same:more=false→cnt n K=c0∧done
end
theorem znx {l:List Com} {all:List Idn} {K:Nat→Nat→Bool} (h:Sound l all K) {i p j:Nat} (hp:ParI l all i p) (hj:j=p∨K p j=true):Sound l all (upd K i j):=by
 intro a b hab
 rcases upd_or hab with⟨rfl,rfl⟩|hab
 ·rcases hj with rfl|hj
  ·exact .one hp
  ·exact .more hp (h _ _ hj)
 ·exact h a b hab
theorem Pass.found {l:List Com} {all:List Idn} {n c0:Nat} {K:Nat→Nat→Bool} {more:Bool} {done done':Prop} (h:Pass l all n c0 K more done) {i p j:Nat} (hp:ParI l all i p) (hj:j=p∨K p j=true) (hi:i<n) (hjn:j<n) (hk:K i j=false):Pass l all n c0 (upd K i j) true done':=by
 refine⟨znx h.sound hp hj,fun _=>?_,fun e=>by cases e⟩
 have h1:=cnt_upd hi hjn hk
 cases hm:more with
 |true=>have:=h.less hm;omega
 |false=>have:=(h.same hm).1;omega
theorem Pass.imp {l:List Com} {all:List Idn} {n c0:Nat} {K:Nat→Nat→Bool} {more:Bool} {done done':Prop} (h:Pass l all n c0 K more done) (hd:more=false→done→done'):Pass l all n c0 K more done':=
 ⟨h.sound,h.less,fun e=>⟨(h.same e).1,hd e (h.same e).2⟩⟩
end Go.Proofs.YtgmdhaepiclkcaaGreatDoor.DgP
namespace Go.Proofs.YtgmdhaepiclkcaaGreatDoor.DgT
set_option maxRecDepth 100000
open Go Go.Sort Go.RowKit Byt IdM IdW OpsM OpsW CmM StW CmW DgP
def rowV (n g:Nat):Value:=.slice (some ⟨g,0,none⟩) n n
def bits (n:Nat) (f:Nat→Bool):Array Value:=((List.range n).map fun j=>Value.bool (f j)).toArray
theorem zeL (n:Nat) (f:Nat→Bool):(bits n f).size=n:=by simp[bits]
theorem zle {n j:Nat} (f:Nat→Bool) (hj:j<n):(bits n f)[j]?=some (.bool (f j)):=by
 simp[bits,hj]
theorem bits_no (n:Nat):(List.replicate n (Value.bool false)).toArray=bits n fun _=>false:=by
 apply Array.ext_getElem?
 intro i
 by_cases h:i<n <;> simp[bits,h]
theorem bits_set {n j:Nat} (f:Nat→Bool) (hj:j<n):(bits n f).setIfInBounds j (.bool true)=bits n fun i=>if i=j then true else f i:=by
 apply Array.ext_getElem?
 intro i
 rw[Array.getElem?_setIfInBounds]
 by_cases hi:i<n
 ·rw[zle _ hi,zle _ hi,zeL]
  by_cases e:j=i
  ·subst e;rw[if_pos rfl,if_pos hj,if_pos rfl]
  ·rw[if_neg e,if_neg (fun h=>e h.symm)]
 ·rw[Array.getElem?_eq_none (by rw[zeL];omega),Array.getElem?_eq_none (by rw[zeL];omega),zeL]
  by_cases e:j=i
  ·omega
  ·rw[if_neg e]
structure Tab (w:World) (base:Nat) (v:Value) (n:Nat) (gs:List Nat) (K:Nat→Nat→Bool):Prop where
 row:w.ownsRow base 122 1 v gs.length (gs.map (rowV n))
 each:∀i g,gs[i]?=some g→base≤g∧w.heap[g]?=some (.cells (bits n (K i)) 4 (0,0))
 nodup:gs.Nodup
theorem Tab.nil (w:World) (base n:Nat) (K:Nat→Nat→Bool):Tab w base (.slice none 0 0) n [] K:=⟨⟨rfl,.inl ⟨rfl,rfl⟩⟩,fun i g h=>by simp at h,List.nodup_nil⟩
theorem Tab.below {w w':World} {base n:Nat} {v:Value} {gs:List Nat} {K:Nat→Nat→Bool} (h:Tab w base v n gs K) (hb:Below w.heap.size w w'):Tab w' base v n gs K:=
 ⟨zao h.row hb,fun i g hi=>⟨(h.each i g hi).1,by rw[hb.block g (Array.getElem?_eq_some_iff.1 (h.each i g hi).2).1];exact(h.each i g hi).2⟩,h.nodup⟩
theorem Tab.lt {w:World} {base n:Nat} {v:Value} {gs:List Nat} {K:Nat→Nat→Bool} (h:Tab w base v n gs K):∀g ∈ gs,g<w.heap.size:=fun g hg=>by
 obtain⟨i,hi⟩:=List.mem_iff_getElem?.1 hg
 exact(Array.getElem?_eq_some_iff.1 (h.each i g hi).2).1
theorem Tab.at {w:World} {base n:Nat} {v:Value} {gs:List Nat} {K:Nat→Nat→Bool} (h:Tab w base v n gs K) (hp:0<gs.length):∃r cap,v=.slice (some ⟨r,0,none⟩) gs.length cap∧base≤r:=by
 rcases h.row.2 with⟨_,h0⟩|⟨g,cap,cur,hv,hb,_⟩
 ·omega
 ·exact⟨g,cap,hv,hb⟩
theorem Tab.cell {w:World} {base n r cap:Nat} {gs:List Nat} {K:Nat→Nat→Bool} (h:Tab w base (.slice (some ⟨r,0,none⟩) gs.length cap) n gs K) {i g:Nat} (hi:gs[i]?=some g):w.cell? ⟨r,i,none⟩=some (rowV n g):=by
 have hlt:=(List.getElem?_eq_some_iff.1 hi).1
 rw[h.row.cellAt i (by omega),List.getElem?_map,hi]
 rfl
theorem Tab.bit {w:World} {base n:Nat} {v:Value} {gs:List Nat} {K:Nat→Nat→Bool} (h:Tab w base v n gs K) {i g j:Nat} (hi:gs[i]?=some g) (hj:j<n):w.cell? ⟨g,j,none⟩=some (.bool (K i j)):=by
 rw[cell_of_row w g j _ _ (0,0) (h.each i g hi).2,zle _ hj]
theorem zot:(Tryz.prog.info? 4).map (·.size)=some 1:=by kernel_rfl
theorem znf:(Tryz.prog.info? 4).map (fun i=>(i.zero,i.size,i.bytes))=some (some (.bool false),1,1):=by kernel_rfl
theorem zpx:(Tryz.prog.info? 122).map (fun i=>(i.zero,i.size,i.bytes))=some (some (.slice none 0 0),1,24):=by kernel_rfl
section
variable {ops:Array Oper} {rest:List Oper} {o:Oper} {a:Act} {w:World} {Q:Exit→Act→World→Prop}
theorem zjH (hgd:o.guard=none) (hd:o.dst=none) (x y:Operand) (ho:o.op=.store 4 x y)
  (base n r cap:Nat) (gs:List Nat) (K:Nat→Nat→Bool) (h:Tab w base (.slice (some ⟨r,0,none⟩) gs.length cap) n gs K) (i g j:Nat) (hi:gs[i]?=some g) (hj:j<n)
  (hx:a.eval x=.pointer (some ⟨g,j,none⟩)) (hy:a.eval y=.bool true)
  (hk:∀w',Tab w' base (.slice (some ⟨r,0,none⟩) gs.length cap) n gs (upd K i j)→(∀B,B≤base→Below B w w')→wpList Tryz.prog ops Q rest a w'):wpList Tryz.prog ops Q (o::rest) a w:=by
 obtain⟨hbg,hg⟩:=h.each i g hi
 refine wpList_plain hgd fun K' hK=>?_
 have hrun:=RowF.zcK (T:=4) (v:=.bool true) hg (by rw[zeL];exact hj) zot rfl rfl
 unfold Oper.wp execOp
 simp only[ho,hx,hy,Sem.run_bind,hrun,Result.andThen_ok,Sem.run_pure]
 refine hK _ _ ?_
 rw[hd]
 have hother:∀k,k≠g→(w.setCell ⟨g,j,none⟩ (.bool true)).heap[k]?=w.heap[k]?:=fun k hne=>by
  simp only[World.setCell]
  rw[Array.getElem?_modify,if_neg (fun e=>hne e.symm)]
 have hgrown:w.grownBy (w.setCell ⟨g,j,none⟩ (.bool true)) (some g):=⟨rfl,rfl,rfl,by simp[World.setCell],fun k _ hne=>hother k (fun e=>hne (by rw[e]))⟩
 refine hk _ ⟨h.row.kept hgrown (.inr fun e=>?_),fun k q hq=>⟨(h.each k q hq).1,?_⟩,h.nodup⟩ (fun B hB=>(Below.refl B w).setCell (p:=⟨g,j,none⟩) (Nat.le_trans hB hbg) _)
 ·rcases h.row.2 with⟨e0,_⟩|⟨r',cap',cur,hv,_,hr,_⟩
  ·cases e0
  ·injection hv with e1
   injection e1 with e2
   injection e2 with e3
   simp only[Value.ownBlock,Option.some.injEq]at e
   rw[←e3,e,hg]at hr
   injection hr with e4
   injection e4 with _ e5
   exact absurd e5 (by decide)
 ·by_cases e:q=g
  ·subst e
   have hki:k=i:=by
    obtain⟨h1,e1⟩:=List.getElem?_eq_some_iff.1 hq
    obtain⟨h2,e2⟩:=List.getElem?_eq_some_iff.1 hi
    exact(List.getElem_inj h.nodup).1 (e1.trans e2.symm)
   subst hki
   simp only[World.setCell]
   rw[Array.getElem?_modify,if_pos rfl,hg]
   have e:(fun m=>if m=j then true else K k m)=upd K k j k:=by
    funext m
    unfold upd
    simp
   rw[←e,←bits_set _ hj]
   rfl
  ·rw[hother q e,(h.each k q hq).2]
   have hki:k≠i:=by
    rintro rfl
    rw[hi]at hq
    exact e (Option.some.inj hq).symm
   congr 2
   unfold bits upd
   congr 1
   exact List.map_congr_left fun m _=>by simp[hki]
theorem ze5 (hgd:o.guard=none) (s x:Operand) (ho:o.op=.call {callee:=.builtin .append,args:=#[s,x],argTypes:=#[77,77]})
  (base n:Nat) (v:Value) (gs:List Nat) (h:Tab w base v n gs fun _ _=>false) (g:Nat) (hg:w.heap[g]?=some (.cells (bits n fun _=>false) 4 (0,0))) (hbg:base≤g) (hnew:g ∉ gs)
  (ad:Addr) (hs:a.eval s=v) (hx:a.eval x=.slice (some ad) 1 1) (hc:w.cell? ad=some (rowV n g)) (had:ad.add 0=ad) (hlen:gs.length≤100000) (hbase:base≤w.heap.size)
  (hk:∀v' w',Tab w' base v' n (gs++[g]) (fun _ _=>false)→(∀B,B≤base→Below B w w')→wpList Tryz.prog ops Q rest (a.put o.dst v') w'):wpList Tryz.prog ops Q (o::rest) a w:=by
 obtain⟨i,hi,z0,z1,z2⟩:=info_parts zpx
 have hap:∀k q,(gs++[g])[k]?=some q→base≤q∧w.heap[q]?=some (.cells (bits n fun _=>false) 4 (0,0)):=fun k q hq=>by
  by_cases hlt:k<gs.length
  ·rw[List.getElem?_append_left hlt]at hq
   exact h.each k q hq
  ·rw[List.getElem?_append_right (by omega)]at hq
   have hk0:k - gs.length=0:=by
    have:=(List.getElem?_eq_some_iff.1 hq).1
    simpa using this
   rw[hk0]at hq
   obtain rfl:g=q:=by simpa using hq
   exact⟨hbg,hg⟩
 have hmem:∀q ∈ gs++[g],base≤q∧w.heap[q]?=some (.cells (bits n fun _=>false) 4 (0,0)):=fun q hq=>by
  obtain⟨k,hk⟩:=List.mem_iff_getElem?.1 hq
  exact hap k q hk
 refine wpList_append_own w hgd s x 77 ho base 122 i (.slice none 0 0) 1 24 Tryz.underlying77 hi z0 z1 z2 rfl (by decide) v gs.length (gs.map (rowV n)) hs h.row ad 1 1 [rowV n g] hx rfl (fun j u hu=>?_) (fun u hu=>by rw[List.mem_singleton.1 hu];rfl) (by unfold maxLen;omega) (by omega) hbase (fun v' w' a1 a2 _=>?_)
 ·match j,hu with
  |0,hu=>
   simp only[List.getElem?_cons_zero,Option.some.injEq]at hu
   rw[had,hc,hu]
 ·have hne:∀q ∈ gs++[g],v.ownBlock≠some q:=fun q hq e=>by
   rcases h.row.2 with⟨rfl,_⟩|⟨r',cap',cur,rfl,_,hr,_⟩
   ·cases e
   ·simp only[Value.ownBlock,Option.some.injEq]at e
    rw[e,(hmem q hq).2]at hr
    injection hr with e4
    injection e4 with _ e5
    exact absurd e5 (by decide)
  refine hk v' w' ⟨by rw[List.length_append,List.map_append];exact a1,fun k q hq=>?_,?_⟩ (fun B hB=>below_grown (Below.refl B w) (Nat.le_trans hB hbase) a2 (fun q hq=>Nat.le_trans hB (h.row.lt q hq).1))
  ·obtain⟨h1,h2⟩:=hap k q hq
   exact⟨h1,by rw[a2.block q (Array.getElem?_eq_some_iff.1 h2).1 (fun e=>hne q (List.mem_of_getElem? hq) e.symm)];exact h2⟩
  ·rw[List.nodup_append]
   exact⟨h.nodup,by simp,fun q hq q' hq' e=>by
    rw[List.mem_singleton.1 hq']at e
    exact hnew (e ▸ hq)⟩
end
end Go.Proofs.YtgmdhaepiclkcaaGreatDoor.DgT
namespace Go.Proofs.YtgmdhaepiclkcaaGreatDoor.OpsS
set_option maxHeartbeats 8000000
set_option maxRecDepth 100000
open Go Go.RowKit Go.Sort Byt OpsM OpsK OpsW OpsC EncM EncC OpsP
theorem zdH {k:Int} (h0:0≤k) (h1:k≤18446744073709551615) (w:World):Calls Tryz.prog 163 #[.int .u64 k] w (New (zaO k.toNat) w):=by
 have:=RefE.num k.toNat (by unfold Fits;omega) w
 rwa[show((k.toNat:Nat):Int)=k by omega]at this
theorem put0 (o:Opn) (w:World) (hf:Fit o) (h1:o.key.size≤1099511627776) (h2:o.elem.size≤1099511627776) (hm:zda o=true) (hk:o.kind=0):
  Calls Tryz.prog 165 #[.agg (opc o)] w (zid o w):=by
 have O1:=zbP.new w o 45
 have cm:=fun W=>OpsR.may o W hf h1 h2
 rw[hm]at cm
 obtain⟨hkey,hrest⟩:=zbE hm
 have hkl:=zbT hkey
 have hk0:0≤o.kind∧o.kind≤3:=by omega
 have cn:=OpsS.zdH hk0.1 (by omega)
 have ct:=RefE.text o.key h1
 have ln:=zaZ (n:=o.kind.toNat) (by omega)
 have lt:=EncT.zbr (zan o.key) (by omega)
 have bt:∀x ∈ zbB (zan o.key),B x:=EncT.zes (zdq _)
 have hn:=hf.n
 have hbd:=zcT hn
 have cf:=RefE.fold o.n hn
 have cz:=OpsS.zdH hbd.1 hbd.2
 have lz:=zaZ (n:=(foldI o.n).toNat) (by omega)
 have bz:∀x ∈ zaO (foldI o.n).toNat,B x:=zb1 _
 obtain⟨Z,hZ⟩:∃Z,zaO (foldI o.n).toNat=Z:=⟨_,rfl⟩
 rw[hZ]at cz lz bz
 have HZ:=aside hZ
 have HZB:=aside bz
 clear hZ bz hn hbd
 obtain⟨X,hX⟩:∃X,zaO o.kind.toNat=X:=⟨_,rfl⟩
 obtain⟨T,hT⟩:∃T,zbB (zan o.key)=T:=⟨_,rfl⟩
 have hput:ze6 o=X++T++zdT o:=by unfold ze6;rw[hX,hT]
 rw[hX]at cn ln
 rw[hT]at ct lt bt
 have lt':T.length≤20:=by omega
 have HK:=aside hk
 have HB:=aside bt
 have HP:=aside hput
 obtain⟨kb0,kb1⟩:=hk0
 clear hX hT hput bt lt hkl hkey hrest hm hk h1 h2
 go_enter Tryz.func165,Tryz.ntmps165
 go_wp2_with (refine zbR rfl _ rfl _ rfl o O1 ?_)
 refine(cm _).mono ?_
 rintro e w1 ⟨rfl,h1⟩
 have k1:Below w.heap.size w w1:=Below.trans ((Below.refl _ _).alloc (Nat.le_refl _) _) (h1.mono (by simp))
 have O2:=O1.below h1
 clear h1 O1 cm
 go_wp2_with fail
 refine GrowB.region (w.heap.size+1) [(0,true),(1,true),(2,true),(4,true),(5,true),(3,false),(6,false),(7,false),(8,true)] (by kernel_rfl) (by kernel_rfl) rfl (by kernel_rfl) (by intro c a d v w h;cases d <;> exact h) ?_
 have kd:=zaf k1
 have O3:zbP w1.drew w.heap.size o:=O2
 obtain⟨W1,hW1⟩:∃W,w1.drew=W:=⟨_,rfl⟩
 rw[hW1]at kd O3 ⊢
 clear hW1 k1 O2
 have hs1:w.heap.size+1≤W1.heap.size:=O3.lt
 have q0:∀p:GrowB.zpu (w.heap.size+1) W1,p.u.cell? ⟨w.heap.size,0,none⟩=some (.int .i64 o.kind):=fun p=>(O3.block p.h (by omega)).kind
 have q1:∀p:GrowB.zpu (w.heap.size+1) W1,p.u.cell? ⟨w.heap.size,1,none⟩=some (.string o.key):=fun p=>(O3.block p.h (by omega)).key
 repeat (refine GrowB.zdW rfl rfl ?_;go_big_quiet_step (fail);refine wpQuiet_nil ?_)
 clear q0 q1
 refine GrowB.acts rfl ?_
 go_wp2_with fail
 refine(cn _).mono ?_
 rintro e w2 ⟨v2,rfl,zdg,h2⟩
 have O4:=O3.below h2
 have k2:=kd.trans (h2.mono kd.size)
 have hs2:=h2.size
 have R2:=aside zdg
 clear zdg cn O3
 go_wp2_with fail
 refine⟨h2.mono hs1,?_⟩
 clear h2
 refine GrowB.acts rfl ?_
 go_wp2_with fail
 refine(ct _).mono ?_
 rintro e w3 ⟨v3,rfl,zbL,h3⟩
 have O5:=O4.below h3
 have k3:=k2.trans (h3.mono k2.size)
 have hs3:=h3.size
 have R3:=aside (zao R2.out h3)
 obtain⟨A3,c3,rfl,S3⟩:=Sl.own zbL HB.out
 clear zbL ct O4 R2
 go_wp2_with fail
 refine⟨h3.mono (by omega),?_⟩
 clear h3
 refine GrowB.acts rfl ?_
 refine zau rfl _ _ 114 rfl W1.heap.size 5 Tryz.underlying114 zaR v2 _ X rfl R3.out _ _ _ T rfl rfl S3 (by omega) (by omega) ?_
 intro v4 w4 own4 g4
 have r4:∀k,v2.ownBlock=some k→W1.heap.size≤k:=fun k hk=>(R3.out.lt k hk).1
 have h4:Below (w.heap.size+1) w3 w4:=below_grown (Below.refl _ _) (by omega) g4 (fun k hk=>by have:=r4 k hk;omega)
 have k4:Below w.heap.size w w4:=k3.trans (h4.mono (by omega))
 have O6:=O5.block h4 (by omega)
 have hs4:=g4.size
 have R4:=aside own4
 clear own4 g4 r4 R3 S3 O5
 simp only[Act.put,List.setIfInBounds_toArray,List.set_cons_succ,List.set_cons_zero]
 refine⟨h4,?_⟩
 clear h4
 repeat (refine GrowB.reads rfl rfl ?_;go_big_quiet_step (fail);refine wpQuiet_nil ?_)
 refine GrowB.ends ?_
 have r0:=O6.kind
 have r3:=O6.n
 rw[HK.out]at r0
 go_wp2_with fail
 refine(cf _).mono ?_
 rintro e w' ⟨rfl,rfl⟩
 go_wp2_with fail
 refine(cz _).mono ?_
 rintro e w6 ⟨v6,rfl,zjS,h6⟩
 have k6:=k4.trans (h6.mono k4.size)
 have R7:=aside (zao R4.out h6)
 have hs7:=h6.size
 obtain⟨A6,c6,rfl,S6⟩:=Sl.own zjS HZB.out
 clear zjS R4 h6 O6
 go_wp2_with (refine zau rfl _ _ 114 rfl W1.heap.size 5 Tryz.underlying114 zaR _ _ (X++T) rfl R7.out _ _ _ Z rfl rfl S6 (by omega) (by omega) ?_;intro v8 w8 zlH g8;have k8:Below w.heap.size w w8:=below_grown k6 (by omega) g8 (fun k hk=>by have:=(R7.out.lt k hk).1;omega);have R8:=aside zlH;clear zlH g8)
 go_ret2
 refine⟨v8,rfl,?_,k8⟩
 rw[HP.out,tail0 HK.out,HZ.out,List.length_append,List.length_append]
 exact zb8 R8.out (by omega)
theorem put1 (o:Opn) (w:World) (hf:Fit o) (h1:o.key.size≤1099511627776) (h2:o.elem.size≤1099511627776) (hm:zda o=true) (hk:o.kind=1∨o.kind=2∨o.kind=3):
  Calls Tryz.prog 165 #[.agg (opc o)] w (zid o w):=by
 have O1:=zbP.new w o 45
 have cm:=fun W=>OpsR.may o W hf h1 h2
 rw[hm]at cm
 obtain⟨hkey,hrest⟩:=zbE hm
 have hkl:=zbT hkey
 have hk0:0≤o.kind∧o.kind≤3:=by omega
 have cn:=OpsS.zdH hk0.1 (by omega)
 have ct:=RefE.text o.key h1
 have ln:=zaZ (n:=o.kind.toNat) (by omega)
 have lt:=EncT.zbr (zan o.key) (by omega)
 have bt:∀x ∈ zbB (zan o.key),B x:=EncT.zes (zdq _)
 have hel:zgO o.n o.elem=true:=by rcases hrest with⟨h0,_⟩|⟨_,h⟩;(·omega);exact h
 have hkl2:=zbT (zdN.1 hel).1
 have cz:=RefE.text o.elem h2
 have lz:=EncT.zbr (zan o.elem) (by omega)
 have bz:∀x ∈ zbB (zan o.elem),B x:=EncT.zes (zdq _)
 obtain⟨Z,hZ⟩:∃Z,zbB (zan o.elem)=Z:=⟨_,rfl⟩
 rw[hZ]at cz lz bz
 have lz':Z.length≤20:=by omega
 have HZ:=aside hZ
 have HZB:=aside bz
 clear hZ bz hel hkl2 lz
 obtain⟨X,hX⟩:∃X,zaO o.kind.toNat=X:=⟨_,rfl⟩
 obtain⟨T,hT⟩:∃T,zbB (zan o.key)=T:=⟨_,rfl⟩
 have hput:ze6 o=X++T++zdT o:=by unfold ze6;rw[hX,hT]
 rw[hX]at cn ln
 rw[hT]at ct lt bt
 have lt':T.length≤20:=by omega
 have HK:=aside hk
 have HB:=aside bt
 have HP:=aside hput
 obtain⟨kb0,kb1⟩:=hk0
 clear hX hT hput bt lt hkl hkey hrest hm hk h1 h2
 go_enter Tryz.func165,Tryz.ntmps165
 go_wp2_with (refine zbR rfl _ rfl _ rfl o O1 ?_)
 refine(cm _).mono ?_
 rintro e w1 ⟨rfl,h1⟩
 have k1:Below w.heap.size w w1:=Below.trans ((Below.refl _ _).alloc (Nat.le_refl _) _) (h1.mono (by simp))
 have O2:=O1.below h1
 clear h1 O1 cm
 go_wp2_with fail
 refine GrowB.region (w.heap.size+1) [(0,true),(1,true),(2,true),(4,true),(5,true),(3,false),(6,false),(7,false),(8,true)] (by kernel_rfl) (by kernel_rfl) rfl (by kernel_rfl) (by intro c a d v w h;cases d <;> exact h) ?_
 have kd:=zaf k1
 have O3:zbP w1.drew w.heap.size o:=O2
 obtain⟨W1,hW1⟩:∃W,w1.drew=W:=⟨_,rfl⟩
 rw[hW1]at kd O3 ⊢
 clear hW1 k1 O2
 have hs1:w.heap.size+1≤W1.heap.size:=O3.lt
 have q0:∀p:GrowB.zpu (w.heap.size+1) W1,p.u.cell? ⟨w.heap.size,0,none⟩=some (.int .i64 o.kind):=fun p=>(O3.block p.h (by omega)).kind
 have q1:∀p:GrowB.zpu (w.heap.size+1) W1,p.u.cell? ⟨w.heap.size,1,none⟩=some (.string o.key):=fun p=>(O3.block p.h (by omega)).key
 repeat (refine GrowB.zdW rfl rfl ?_;go_big_quiet_step (fail);refine wpQuiet_nil ?_)
 clear q0 q1
 refine GrowB.acts rfl ?_
 go_wp2_with fail
 refine(cn _).mono ?_
 rintro e w2 ⟨v2,rfl,zdg,h2⟩
 have O4:=O3.below h2
 have k2:=kd.trans (h2.mono kd.size)
 have hs2:=h2.size
 have R2:=aside zdg
 clear zdg cn O3
 go_wp2_with fail
 refine⟨h2.mono hs1,?_⟩
 clear h2
 refine GrowB.acts rfl ?_
 go_wp2_with fail
 refine(ct _).mono ?_
 rintro e w3 ⟨v3,rfl,zbL,h3⟩
 have O5:=O4.below h3
 have k3:=k2.trans (h3.mono k2.size)
 have hs3:=h3.size
 have R3:=aside (zao R2.out h3)
 obtain⟨A3,c3,rfl,S3⟩:=Sl.own zbL HB.out
 clear zbL ct O4 R2
 go_wp2_with fail
 refine⟨h3.mono (by omega),?_⟩
 clear h3
 refine GrowB.acts rfl ?_
 refine zau rfl _ _ 114 rfl W1.heap.size 5 Tryz.underlying114 zaR v2 _ X rfl R3.out _ _ _ T rfl rfl S3 (by omega) (by omega) ?_
 intro v4 w4 own4 g4
 have r4:∀k,v2.ownBlock=some k→W1.heap.size≤k:=fun k hk=>(R3.out.lt k hk).1
 have h4:Below (w.heap.size+1) w3 w4:=below_grown (Below.refl _ _) (by omega) g4 (fun k hk=>by have:=r4 k hk;omega)
 have k4:Below w.heap.size w w4:=k3.trans (h4.mono (by omega))
 have O6:=O5.block h4 (by omega)
 have hs4:=g4.size
 have R4:=aside own4
 clear own4 g4 r4 R3 S3 O5
 simp only[Act.put,List.setIfInBounds_toArray,List.set_cons_succ,List.set_cons_zero]
 refine⟨h4,?_⟩
 clear h4
 repeat (refine GrowB.reads rfl rfl ?_;go_big_quiet_step (fail);refine wpQuiet_nil ?_)
 refine GrowB.ends ?_
 have r0:=O6.kind
 have r2:=O6.elem
 have t0:(o.kind == 0)=false:=by simp;have:=HK.out;omega
 go_wp2_with fail
 refine(cz _).mono ?_
 rintro e w6 ⟨v6,rfl,zjS,h6⟩
 have k6:=k4.trans (h6.mono k4.size)
 have R7:=aside (zao R4.out h6)
 have hs7:=h6.size
 obtain⟨A6,c6,rfl,S6⟩:=Sl.own zjS HZB.out
 clear zjS R4 h6 O6
 go_wp2_with (refine zau rfl _ _ 114 rfl W1.heap.size 5 Tryz.underlying114 zaR _ _ (X++T) rfl R7.out _ _ _ Z rfl rfl S6 (by omega) (by omega) ?_;intro v8 w8 zlH g8;have k8:Below w.heap.size w w8:=below_grown k6 (by omega) g8 (fun k hk=>by have:=(R7.out.lt k hk).1;omega);have R8:=aside zlH;clear zlH g8)
 go_ret2
 refine⟨v8,rfl,?_,k8⟩
 rw[HP.out,tail1 HK.out,HZ.out,List.length_append,List.length_append]
 exact zb8 R8.out (by omega)
theorem zdX (o:Opn) (w:World) (hf:Fit o) (h1:o.key.size≤1099511627776) (h2:o.elem.size≤1099511627776) (hm:zda o=true):Calls Tryz.prog 165 #[.agg (opc o)] w (zid o w):=by
 obtain⟨_,h|h⟩:=zbE hm
 ·exact put0 o w hf h1 h2 hm h.1
 ·exact put1 o w hf h1 h2 hm h.1
end Go.Proofs.YtgmdhaepiclkcaaGreatDoor.OpsS
