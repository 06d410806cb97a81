/- Plain facts on clocks | Plain facts on the last ones of closed commits | Plain facts on what is joined, on heads, on what comes next | Plain facts on the state of commits | Plain facts on the state of commits -/
import Derived.Test.YtgmdhaepiclkcaaGreatDoorRegLJ5
namespace Go.Proofs.YtgmdhaepiclkcaaGreatDoor.DgX
set_option maxRecDepth 100000
open IdM CmM DgM
open Classical
section
variable {H:Com→Idn}
theorem zbD (l:List Int):0≤most l:=(foldl_max l 0).1
theorem zjc (l:List Int):most l=0∨most l ∈ l:=(foldl_max l 0).2.2
theorem zeA {l:List Int} {m:Int} (h0:0≤m) (h:∀x ∈ l,x≤m):most l≤m:=by
 rcases zjc l with e|e
 ·omega
 ·exact h _ e
theorem zez (l:List Int) (x:Int):most (l++[x])=max (most l) x:=by
 unfold most
 rw[List.foldl_append]
 rfl
theorem zmJ {l m:List Int} (h:∀x,x ∈ l↔x ∈ m):most l=most m:=by
 have h1:=zeA (zbD m) fun x hx=>zeG ((h x).1 hx)
 have h2:=zeA (zbD l) fun x hx=>zeG ((h x).2 hx)
 omega
noncomputable def top (l:List Com) (p:Com→Prop) (n:Int):Int:=most ((l.filter fun d=>decide (p d∧d.node=n)).map (·.seq))
theorem zeP (l:List Com) (p:Com→Prop) (n:Int):0≤top l p n:=zbD _
theorem le_top {l:List Com} {p:Com→Prop} {d:Com} (hd:d ∈ l) (hp:p d):d.seq≤top l p d.node:=by
 unfold top
 exact zeG (List.mem_map_of_mem (f:=(·.seq)) (List.mem_filter.2 ⟨hd,decide_eq_true ⟨hp,rfl⟩⟩))
theorem ziO (l:List Com) (p:Com→Prop) (n:Int):top l p n=0∨∃d ∈ l,p d∧d.node=n∧d.seq=top l p n:=by
 rcases zjc ((l.filter fun d=>decide (p d∧d.node=n)).map (·.seq))with e|e
 ·exact .inl e
 ·obtain⟨d,hd,e2⟩:=List.mem_map.1 e
  obtain⟨h1,h2⟩:=List.mem_filter.1 hd
  obtain⟨h2,h3⟩:=of_decide_eq_true h2
  exact .inr ⟨d,h1,h2,h3,e2⟩
theorem top_le {l:List Com} {p:Com→Prop} {n m:Int} (h0:0≤m) (h:∀d ∈ l,p d→d.node=n→d.seq≤m):top l p n≤m:=by
 rcases ziO l p n with e|⟨d,hd,hp,hn,e⟩
 ·omega
 ·rw[←e];exact h d hd hp hn
theorem znm {l:List Com} {p q:Com→Prop} (h:∀d ∈ l,p d↔q d) (n:Int):top l p n=top l q n:=by
 unfold top
 congr 2
 apply List.filter_congr
 intro d hd
 simp only[h d hd]
def Beh (H:Com→Idn) (l:List Com) (c d:Com):Prop:=d=c∨Kn H l (H c) (H d)
noncomputable def seen (H:Com→Idn) (l:List Com) (c:Com) (n:Int):Int:=top l (Beh H l c) n
theorem zcC {c:Com} (h:zbn c=true) (hm:isM c=false):1≤c.seq∧0≤c.node∧c.node<8:=by
 rcases za0.1 h with⟨h1,h2|⟨h2,_⟩⟩
 ·rw[zjm.2 ⟨h1,h2⟩]at hm;cases hm
 ·have:=StM.zb3.1 h2;omega
theorem zlz {l:List Com} (C:Closed H l) {c d:Com} (_hc:c ∈ l) (hd:d ∈ l):d.seq≤seen H l c d.node↔Beh H l c d:=by
 constructor
 ·intro h
  have hp:=zcC (C.may d hd) (C.merge d hd)
  rcases ziO l (Beh H l c) d.node with e|⟨m,hm,hb,hn,e⟩
  ·unfold seen at h;omega
  ·unfold seen at h
   by_cases e2:m=d
   ·rw[←e2];exact hb
   ·obtain⟨k1,k2⟩:=C.node m hm d hd e2 hn
    have:=k2 (by omega)
    rcases hb with rfl|hb
    ·exact .inr this
    ·exact .inr (hb.trans this)
 ·exact fun h=>le_top hd h
theorem zpa {l:List Com} (C:Closed H l) {q:Com→Prop} {d:Com} (hd:d ∈ l):d.seq≤top l (fun e=>∃c ∈ l,q c∧Beh H l c e) d.node↔∃c ∈ l,q c∧Beh H l c d:=by
 constructor
 ·intro h
  have hp:=zcC (C.may d hd) (C.merge d hd)
  rcases ziO l (fun e=>∃c ∈ l,q c∧Beh H l c e) d.node with e|⟨m,hm,⟨c,hc,hq,hb⟩,hn,e⟩
  ·omega
  ·refine⟨c,hc,hq,?_⟩
   refine(zlz C hc hd).1 ?_
   have:=le_top (l:=l) (p:=Beh H l c) hm hb
   rw[hn,e]at this
   unfold seen
   omega
 ·exact fun h=>le_top (p:=fun e=>∃c ∈ l,q c∧Beh H l c e) hd h
theorem zj1 {l:List Com} {a:Idn}:DgM.look H l a=none↔a ∉ l.map H:=by
 unfold DgM.look
 rw[List.find?_eq_none]
 constructor
 ·intro h hm
  obtain⟨c,hc,e⟩:=List.mem_map.1 hm
  exact h c hc (by simpa using e)
 ·intro h c hc e
  exact h (List.mem_map.2 ⟨c,hc,by simpa using e⟩)
theorem zjg {l:List Com} {a:Idn} {c:Com} (h:DgM.look H l a=some c):c ∈ l∧H c=a:=by
 unfold DgM.look at h
 exact⟨List.mem_of_find?_eq_some h,by simpa using List.find?_some h⟩
theorem zd2 {P:List Com} {c:Com} {a:Idn} (h:a≠H c):DgM.look H (P++[c]) a=DgM.look H P a:=by
 unfold DgM.look
 rw[List.find?_append]
 have:[c].find? (fun d=>decide (H d=a))=none:=by
  rw[List.find?_eq_none]
  intro x hx
  rw[List.mem_singleton]at hx
  subst hx
  simp[Ne.symm h]
 rw[this]
 simp
section
variable {P:List Com} {c:Com} (hf:∀d ∈ P,∀a ∈ d.ps,a ∈ P.map H) (hn:H c ∉ P.map H)
include hf hn
theorem zfM {a b:Idn} (ha:a ∈ P.map H):Kn H (P++[c]) a b↔Kn H P a b∧b ∈ P.map H:=by
 constructor
 ·intro h
  induction h with
  |one h=>
   obtain⟨d,hd,rfl,hb⟩:=h
   rcases List.mem_append.1 hd with hd|hd
   ·exact⟨.one ⟨d,hd,rfl,hb⟩,hf d hd _ hb⟩
   ·rw[List.mem_singleton]at hd;subst hd;exact absurd ha hn
  |more h _ ih=>
   obtain⟨d,hd,rfl,hb⟩:=h
   rcases List.mem_append.1 hd with hd|hd
   ·have:=ih (hf d hd _ hb)
    exact⟨.more ⟨d,hd,rfl,hb⟩ this.1,this.2⟩
   ·rw[List.mem_singleton]at hd;subst hd;exact absurd ha hn
 ·rintro⟨h,-⟩
  clear ha
  induction h with
  |one h=>obtain⟨d,hd,e,hb⟩:=h;exact .one ⟨d,List.mem_append_left _ hd,e,hb⟩
  |more h k ih=>
   obtain⟨d,hd,e,hb⟩:=h
   exact .more ⟨d,List.mem_append_left _ hd,e,hb⟩ ih
theorem zlY {b:Idn} (hp:∀a ∈ c.ps,a ∈ P.map H):Kn H (P++[c]) (H c) b↔b ∈ c.ps∨∃a ∈ c.ps,Kn H P a b∧b ∈ P.map H:=by
 have hc:∀{d:Com},d ∈ P++[c]→H d=H c→d=c:=fun{d} hd e=>by
  rcases List.mem_append.1 hd with hd|hd
  ·exact absurd (by rw[←e];exact List.mem_map_of_mem hd) hn
  ·exact List.mem_singleton.1 hd
 constructor
 ·intro h
  cases h with
  |one h=>
   obtain⟨d,hd,e,hb⟩:=h
   rw[hc hd e]at hb
   exact .inl hb
  |more h k=>
   obtain⟨d,hd,e,hb⟩:=h
   rw[hc hd e]at hb
   exact .inr ⟨_,hb,(zfM hf hn (hp _ hb)).1 k⟩
 ·rintro(h|⟨a,ha,h⟩)
  ·exact .one ⟨c,by simp,rfl,h⟩
  ·exact .more ⟨c,by simp,rfl,ha⟩ ((zfM hf hn (hp _ ha)).2 h)
end
noncomputable def views (H:Com→Idn) (P:List Com) (a:Idn):Option (Com×(Int→Int)):=(DgM.look H P a).map fun c=>(c,seen H P c)
theorem zf5 {P:List Com} {a:Idn} {v:Com×(Int→Int)} (h:views H P a=some v):v.1 ∈ P∧H v.1=a∧v.2=seen H P v.1:=by
 unfold views at h
 rw[Option.map_eq_some_iff]at h
 obtain⟨c,hc,rfl⟩:=h
 obtain⟨h1,h2⟩:=zjg hc
 exact⟨h1,h2,rfl⟩
theorem zeO {P:List Com} (C:Closed H P) {c:Com} (hc:c ∈ P):views H P (H c)=some (c,seen H P c):=by
 unfold views
 rw[zhN C.nodup hc]
 rfl
theorem zbZ {P:List Com} {a:Idn}:views H P a=none↔a ∉ P.map H:=by
 unfold views
 rw[Option.map_eq_none_iff,zj1]
def zpn (v u:Com×(Int→Int)):Prop:=u.1.seq≤v.2 u.1.node
def vGen (f:Idn→Option (Com×(Int→Int))) (a:Idn):Int:=((f a).map (·.1.gen)).getD 0
def zej (f:Idn→Option (Com×(Int→Int))) (n:Int) (a:Idn):Int:=((f a).map (·.2 n)).getD 0
structure Tog (f:Idn→Option (Com×(Int→Int))) (ps:List Idn) (g:Int):Prop where
 there:∀a ∈ ps,f a≠none
 apart:∀(i j:Nat) (a b:Idn),j<i→ps[i]?=some a→ps[j]?=some b→∀v u,f a=some v→f b=some u→¬zpn u v∧¬zpn v u
 gen:g=most (ps.map (vGen f))+1
def zb5 (f:Idn→Option (Com×(Int→Int))) (ps:List Idn) (n:Int):Int:=most (ps.map (zej f n))
theorem zj9 {P:List Com} {a:Idn}:vGen (views H P) a=gAt H P a:=by
 unfold vGen views gAt
 cases DgM.look H P a <;> rfl
theorem zio {P:List Com} {n:Int} {c:Com} (C:Closed H P) (hc:c ∈ P):zej (views H P) n (H c)=seen H P c n:=by
 unfold zej
 rw[zeO C hc]
 rfl
theorem ziP {P:List Com} (C:Closed H P) {ps:List Idn} (hp:∀a ∈ ps,a ∈ P.map H) (n:Int):zb5 (views H P) ps n=top P (fun e=>∃c ∈ P,H c ∈ ps∧Beh H P c e) n:=by
 have h1:zb5 (views H P) ps n≤top P (fun e=>∃c ∈ P,H c ∈ ps∧Beh H P c e) n:=by
  refine zeA (zeP _ _ _) fun x hx=>?_
  obtain⟨a,ha,rfl⟩:=List.mem_map.1 hx
  obtain⟨c,hc,rfl⟩:=List.mem_map.1 (hp a ha)
  rw[zio C hc]
  refine top_le (zeP _ _ _) fun d hd hb hn=>?_
  have:=le_top (l:=P) (p:=fun e=>∃c ∈ P,H c ∈ ps∧Beh H P c e) hd ⟨c,hc,ha,hb⟩
  rwa[hn]at this
 have h2:top P (fun e=>∃c ∈ P,H c ∈ ps∧Beh H P c e) n≤zb5 (views H P) ps n:=by
  refine top_le (zbD _) fun d hd hb hn=>?_
  obtain⟨c,hc,ha,hb⟩:=hb
  have h3:zej (views H P) n (H c)≤zb5 (views H P) ps n:=zeG (List.mem_map_of_mem (f:=zej (views H P) n) ha)
  rw[zio C hc]at h3
  have:=le_top (l:=P) (p:=Beh H P c) hd hb
  rw[hn]at this
  unfold seen at h3
  omega
 omega
theorem zlM {α:Type} {l:List α} (h:l.Nodup) {i j:Nat} {a:α} (hi:l[i]?=some a) (hj:l[j]?=some a):i=j:=by
 obtain⟨h1,h1'⟩:=List.getElem?_eq_some_iff.1 hi
 obtain⟨h2,h2'⟩:=List.getElem?_eq_some_iff.1 hj
 have hp:=List.pairwise_iff_getElem.1 (List.nodup_iff_pairwise_ne.1 h)
 rcases Nat.lt_trichotomy i j with k|k|k
 ·exact absurd (h1'.trans h2'.symm) (hp i j h1 h2 k)
 ·exact k
 ·exact absurd (h2'.trans h1'.symm) (hp j i h2 h1 k)
theorem zkp {P:List Com} (C:Closed H P) {ps:List Idn} (hp:∀a ∈ ps,a ∈ P.map H) (hnd:ps.Nodup):
  (∀(i j:Nat) (a b:Idn),j<i→ps[i]?=some a→ps[j]?=some b→∀v u,views H P a=some v→views H P b=some u→¬zpn u v∧¬zpn v u)↔∀a ∈ ps,∀b ∈ ps,¬Kn H P a b:=by
 have key:∀{c d:Com},c ∈ P→d ∈ P→c≠d→(zpn (c,seen H P c) (d,seen H P d)↔Kn H P (H c) (H d)):=fun{c d} hc hd hne=>by
  unfold zpn
  rw[zlz C hc hd]
  unfold Beh
  exact⟨fun h=>h.resolve_left hne.symm,.inr⟩
 constructor
 ·intro h a ha b hb k
  obtain⟨i,hi⟩:=List.getElem?_of_mem ha
  obtain⟨j,hj⟩:=List.getElem?_of_mem hb
  obtain⟨c,hc,rfl⟩:=List.mem_map.1 (hp a ha)
  obtain⟨d,hd,rfl⟩:=List.mem_map.1 (hp b hb)
  by_cases hij:i=j
  ·subst hij
   rw[hi]at hj
   injection hj with e
   rw[e]at k
   exact zog C k
  ·have hne:c≠d:=fun e=>hij (by
    subst e
    exact zlM hnd hi hj)
   rcases Nat.lt_or_gt_of_ne hij with h1|h1
   ·exact(h j i _ _ h1 hj hi _ _ (zeO C hd) (zeO C hc)).1 ((key hc hd hne).2 k)
   ·exact(h i j _ _ h1 hi hj _ _ (zeO C hc) (zeO C hd)).2 ((key hc hd hne).2 k)
 ·intro h i j a b hji hi hj v u hv hu
  have ha:=List.mem_of_getElem? hi
  have hb:=List.mem_of_getElem? hj
  obtain⟨h1,e1,s1⟩:=zf5 hv
  obtain⟨h2,e2,s2⟩:=zf5 hu
  have hne:v.1≠u.1:=fun e=>by
   have e3:a=b:=by rw[←e1,←e2,e]
   subst e3
   have:=zlM hnd hi hj
   omega
  obtain⟨vc,vs⟩:=v
  obtain⟨uc,us⟩:=u
  simp only at h1 e1 s1 h2 e2 s2 hne
  subst s1 s2
  rw[key h2 h1 hne.symm,key h1 h2 hne,e1,e2]
  exact⟨h b hb a ha,h a ha b hb⟩
noncomputable def last (P:List Com) (n:Int):Int:=top P (fun _=>True) n
theorem zew {l:List Idn} (h:zaN l=true):zb4 l:=by
 unfold zaN at h
 rw[List.all_eq_true]at h
 have key:∀(j i:Nat),i<j→j<l.length→less (l.getD i nought) (l.getD j nought)=true:=by
  intro j
  induction j with
  |zero=>intro i hi;omega
  |succ j ih=>
   intro i hi hj
   have h1:=h j (by simp;omega)
   rcases Nat.lt_or_ge i j with k|k
   ·exact zbg (ih i k (by omega)) h1
   ·rw[show i=j by omega];exact h1
 unfold zb4
 rw[List.pairwise_iff_getElem]
 intro i j hi hj hij
 have:=key j i hij hj
 rwa[List.getD_eq_getElem?_getD,List.getD_eq_getElem?_getD,List.getElem?_eq_getElem hi,List.getElem?_eq_getElem hj]at this
theorem zhv {c:Com} (h:zbn c=true):c.ps.Nodup:=by
 have:=(za6.1 (za0.1 h).1).2.2.2.1
 exact zgv (zew this)
theorem step {P:List Com} {c:Com} (C:Closed H P) (hm:zbn c=true):
  Closed H (P++[c])↔isM c=false∧H c ∉ P.map H∧Tog (views H P) c.ps c.gen∧last P c.node<c.seq∧zb5 (views H P) c.ps c.node=last P c.node:=by
 constructor
 ·intro D
  have hn:H c ∉ P.map H:=fun h=>by
   have:=D.nodup
   rw[List.map_append,List.nodup_append]at this
   exact this.2.2 _ h (H c) (by simp) rfl
  have hmg:=D.merge c (by simp)
  have hp:∀a ∈ c.ps,a ∈ P.map H:=fun a ha=>by
   have h1:=D.found c (by simp) a ha
   rw[List.map_append,List.mem_append]at h1
   refine h1.resolve_right fun h2=>?_
   simp at h2
   have:=zi3 D (a:=H c) (b:=a) ⟨c,by simp,rfl,ha⟩
   rw[h2]at this
   omega
  have hga:∀a ∈ c.ps,gAt H (P++[c]) a=gAt H P a:=fun a ha=>by
   unfold gAt
   rw[zd2 (fun e=>hn (by rw[←e];exact hp a ha))]
  have zdh:∀d ∈ P,d.node=c.node→d.seq<c.seq∧Kn H (P++[c]) (H c) (H d):=fun d hd e=>by
   have hne:c≠d:=fun e=>hn (by rw[e];exact List.mem_map_of_mem hd)
   obtain⟨k1,k2⟩:=D.node c (by simp) d (List.mem_append_left _ hd) hne e.symm
   obtain⟨_,k3⟩:=D.node d (List.mem_append_left _ hd) c (by simp) hne.symm e
   by_cases hlt:d.seq<c.seq
   ·exact⟨hlt,k2 hlt⟩
   ·have:=(zfM C.found hn (List.mem_map_of_mem hd)).1 (k3 (by omega))
    exact absurd this.2 hn
  have hpos:=zcC hm hmg
  refine⟨hmg,hn,⟨fun a ha h=>zbZ.1 h (hp a ha),(zkp C hp (zhv hm)).2 fun a ha b hb k=>?_,?_⟩,?_,?_⟩
  ·exact D.apart c (by simp) a ha b hb ((zfM C.found hn (hp a ha)).2 ⟨k,hp b hb⟩)
  ·rw[D.gen c (by simp),Int.add_comm]
   congr 2
   exact List.map_congr_left fun a ha=>by rw[hga a ha,zj9]
  ·unfold last
   rcases ziO P (fun _=>True) c.node with e|⟨d,hd,_,e1,e2⟩
   ·omega
   ·rw[←e2];exact(zdh d hd e1).1
  ·rw[ziP C hp]
   have h1:top P (fun e=>∃d ∈ P,H d ∈ c.ps∧Beh H P d e) c.node≤last P c.node:=top_le (zeP _ _ _) fun d hd _ hn'=>by
    have:=le_top (l:=P) (p:=fun _=>True) hd trivial
    rwa[hn']at this
   have h2:last P c.node≤top P (fun e=>∃d ∈ P,H d ∈ c.ps∧Beh H P d e) c.node:=top_le (zeP _ _ _) fun d hd _ hn'=>by
    have k:=(zlY C.found hn hp).1 (zdh d hd hn').2
    have hb:∃e ∈ P,H e ∈ c.ps∧Beh H P e d:=by
     rcases k with k|⟨a,ha,k,_⟩
     ·exact⟨d,hd,k,.inl rfl⟩
     ·obtain⟨e,he,rfl⟩:=List.mem_map.1 (hp a ha)
      exact⟨e,he,ha,.inr k⟩
    have:=le_top (l:=P) (p:=fun e=>∃d ∈ P,H d ∈ c.ps∧Beh H P d e) hd hb
    rwa[hn']at this
   omega
 ·rintro⟨hmg,hn,T,hlast,hseen⟩
  have hp:∀a ∈ c.ps,a ∈ P.map H:=fun a ha=>Classical.byContradiction fun h=>T.there a ha (zbZ.2 h)
  have hap:=(zkp C hp (zhv hm)).1 T.apart
  have hga:∀a,a ∈ P.map H→gAt H (P++[c]) a=gAt H P a:=fun a ha=>by
   unfold gAt
   rw[zd2 (fun e=>hn (by rw[←e];exact ha))]
  have zdh:∀d ∈ P,d.node=c.node→d.seq<c.seq∧Kn H (P++[c]) (H c) (H d):=fun d hd e=>by
   have h0:=le_top (l:=P) (p:=fun _=>True) hd trivial
   have h1:d.seq≤last P c.node:=by rw[←e];exact h0
   refine⟨by omega,?_⟩
   rw[←hseen,ziP C hp,←e,zpa (q:=fun x=>H x ∈ c.ps) C hd]at h1
   obtain⟨x,hx,ha,hb⟩:=h1
   refine(zlY C.found hn hp).2 ?_
   rcases hb with rfl|hb
   ·exact .inl ha
   ·exact .inr ⟨_,ha,hb,List.mem_map_of_mem hd⟩
  refine⟨fun d hd=>?_,fun d hd=>?_,?_,fun d hd a ha=>?_,fun d hd=>?_,fun d hd a ha b hb k=>?_,fun d hd e he hne hnd=>?_⟩
  ·rcases List.mem_append.1 hd with hd|hd
   ·exact C.may d hd
   ·rw[List.mem_singleton.1 hd];exact hm
  ·rcases List.mem_append.1 hd with hd|hd
   ·exact C.merge d hd
   ·rw[List.mem_singleton.1 hd];exact hmg
  ·rw[List.map_append,List.nodup_append]
   refine⟨C.nodup,by simp,fun a ha b hb e=>?_⟩
   simp at hb
   exact hn (by rw[←hb,←e];exact ha)
  ·rw[List.map_append]
   rcases List.mem_append.1 hd with hd|hd
   ·exact List.mem_append_left _ (C.found d hd a ha)
   ·rw[List.mem_singleton.1 hd]at ha;exact List.mem_append_left _ (hp a ha)
  ·rcases List.mem_append.1 hd with hd|hd
   ·rw[C.gen d hd]
    congr 2
    exact List.map_congr_left fun a ha=>(hga a (C.found d hd a ha)).symm
   ·rw[List.mem_singleton.1 hd,T.gen,Int.add_comm]
    congr 2
    exact List.map_congr_left fun a ha=>by rw[hga a (hp a ha),zj9]
  ·rcases List.mem_append.1 hd with hd|hd
   ·exact C.apart d hd a ha b hb ((zfM C.found hn (C.found d hd a ha)).1 k).1
   ·rw[List.mem_singleton.1 hd]at ha hb
    exact hap a ha b hb ((zfM C.found hn (hp a ha)).1 k).1
  ·rcases List.mem_append.1 hd with hd|hd <;> rcases List.mem_append.1 he with he|he
   ·obtain⟨k1,k2⟩:=C.node d hd e he hne hnd
    exact⟨k1,fun h=>(zfM C.found hn (List.mem_map_of_mem hd)).2 ⟨k2 h,List.mem_map_of_mem he⟩⟩
   ·rw[List.mem_singleton.1 he]at hnd ⊢
    have:=(zdh d hd hnd).1
    exact⟨by omega,fun h=>absurd h (by omega)⟩
   ·rw[List.mem_singleton.1 hd]at hnd ⊢
    have:=zdh e he hnd.symm
    exact⟨by omega,fun _=>this.2⟩
   ·rw[List.mem_singleton.1 hd,List.mem_singleton.1 he]at hne
    exact absurd rfl hne
theorem zpT {P:List Com} {c d:Com} (C:Closed H P) (D:Closed H (P++[c])) (hd:d ∈ P) (n:Int):seen H (P++[c]) d n=seen H P d n:=by
 obtain⟨_,hn,_⟩:=(step C (D.may c (by simp))).1 D
 unfold seen top
 have e:(P++[c]).filter (fun e=>decide (Beh H (P++[c]) d e∧e.node=n))=P.filter (fun e=>decide (Beh H P d e∧e.node=n)):=by
  rw[List.filter_append]
  have h1:[c].filter (fun e=>decide (Beh H (P++[c]) d e∧e.node=n))=[]:=by
   rw[List.filter_eq_nil_iff]
   intro x hx h
   rw[List.mem_singleton]at hx
   subst hx
   obtain⟨hb,_⟩:=of_decide_eq_true h
   rcases hb with rfl|hb
   ·exact hn (List.mem_map_of_mem hd)
   ·exact hn ((zfM C.found hn (List.mem_map_of_mem hd)).1 hb).2
  rw[h1,List.append_nil]
  apply List.filter_congr
  intro x hx
  have:Beh H (P++[c]) d x↔Beh H P d x:=by
   unfold Beh
   rw[zfM C.found hn (List.mem_map_of_mem hd)]
   exact⟨fun h=>h.imp id (·.1),fun h=>h.imp id fun h=>⟨h,List.mem_map_of_mem hx⟩⟩
  simp only[this]
 rw[e]
theorem zod (P:List Com) (c:Com) (n:Int):last (P++[c]) n=if n=c.node then max (last P n) c.seq else last P n:=by
 unfold last top
 rw[List.filter_append]
 by_cases h:n=c.node
 ·rw[if_pos h,List.filter_cons_of_pos (by simp[h]),List.filter_nil,List.map_append,List.map_cons,List.map_nil,zez]
 ·rw[if_neg h,List.filter_cons_of_neg (by simp[Ne.symm h]),List.filter_nil,List.append_nil]
theorem last_new {P:List Com} {c:Com} (C:Closed H P) (D:Closed H (P++[c])) (n:Int):last (P++[c]) n=if n=c.node then c.seq else last P n:=by
 obtain⟨_,_,_,h,_⟩:=(step C (D.may c (by simp))).1 D
 rw[zod]
 by_cases e:n=c.node
 ·rw[if_pos e,if_pos e,e];omega
 ·rw[if_neg e,if_neg e]
theorem zpU {P:List Com} {c:Com} (C:Closed H P) (D:Closed H (P++[c])) (n:Int):seen H (P++[c]) c n=if n=c.node then c.seq else zb5 (views H P) c.ps n:=by
 obtain⟨_,hn,T,hlt,hse⟩:=(step C (D.may c (by simp))).1 D
 have hp:∀a ∈ c.ps,a ∈ P.map H:=fun a ha=>Classical.byContradiction fun h=>T.there a ha (zbZ.2 h)
 have hbe:∀d ∈ P,Beh H (P++[c]) c d↔∃x ∈ P,H x ∈ c.ps∧Beh H P x d:=fun d hd=>by
  have hne:d≠c:=fun e=>hn (by rw[←e];exact List.mem_map_of_mem hd)
  constructor
  ·rintro(e|k)
   ·exact absurd e hne
   ·rcases(zlY C.found hn hp).1 k with k|⟨a,ha,k,_⟩
    ·exact⟨d,hd,k,.inl rfl⟩
    ·obtain⟨x,hx,rfl⟩:=List.mem_map.1 (hp a ha)
     exact⟨x,hx,ha,.inr k⟩
  ·rintro⟨x,hx,ha,hb⟩
   refine .inr ((zlY C.found hn hp).2 ?_)
   rcases hb with rfl|hb
   ·exact .inl ha
   ·exact .inr ⟨_,ha,hb,List.mem_map_of_mem hd⟩
 by_cases e:n=c.node
 ·rw[if_pos e]
  subst e
  have h1:c.seq≤seen H (P++[c]) c c.node:=le_top (by simp) (.inl rfl)
  have h2:seen H (P++[c]) c c.node≤c.seq:=top_le (by have:=(zcC (D.may c (by simp)) (D.merge c (by simp))).1;omega) fun d hd _ he=>by
   rcases List.mem_append.1 hd with hd|hd
   ·have:=le_top (l:=P) (p:=fun _=>True) hd trivial
    rw[he]at this
    unfold last at hlt
    omega
   ·rw[List.mem_singleton.1 hd];omega
  omega
 ·rw[if_neg e,ziP C hp]
  unfold seen top
  rw[List.filter_append,List.filter_cons_of_neg (a:=c) (by simp[Ne.symm e]),List.filter_nil,List.append_nil]
  congr 2
  apply List.filter_congr
  intro d hd
  exact decide_eq_decide.2 (and_congr (hbe d hd) Iff.rfl)
theorem zf6 {P:List Com} {c:Com} (C:Closed H P) (D:Closed H (P++[c])) (a:Idn):views H (P++[c]) a=if a=H c then some (c,fun n=>if n=c.node then c.seq else zb5 (views H P) c.ps n)else views H P a:=by
 obtain⟨_,hn,_⟩:=(step C (D.may c (by simp))).1 D
 by_cases e:a=H c
 ·rw[if_pos e,e,zeO D (by simp)]
  congr 2
  funext n
  exact zpU C D n
 ·rw[if_neg e]
  unfold views
  rw[zd2 e]
  cases hl:DgM.look H P a with
  |none=>rfl
  |some d=>
   simp only[Option.map_some,Option.some.injEq,Prod.mk.injEq,true_and]
   funext n
   exact zpT C D (zjg hl).1 n
theorem zh8 {l:List Com} (C:Closed H l) (a:List Idn) {d:Com} (hd:d ∈ l):d.seq≤zb5 (views H l) a d.node↔Below H l a (H d):=by
 have e:zb5 (views H l) a d.node=zb5 (views H l) (a.filter fun x=>decide (x ∈ l.map H)) d.node:=by
  have h1:zb5 (views H l) a d.node≤zb5 (views H l) (a.filter fun x=>decide (x ∈ l.map H)) d.node:=zeA (zbD _) fun x hx=>by
   obtain⟨y,hy,rfl⟩:=List.mem_map.1 hx
   by_cases h:y ∈ l.map H
   ·exact zeG (List.mem_map_of_mem (f:=zej (views H l) d.node) (List.mem_filter.2 ⟨hy,decide_eq_true h⟩))
   ·have h0:zej (views H l) d.node y=0:=by unfold zej;rw[zbZ.2 h];rfl
    rw[h0];exact zbD _
  have h2:zb5 (views H l) (a.filter fun x=>decide (x ∈ l.map H)) d.node≤zb5 (views H l) a d.node:=zeA (zbD _) fun x hx=>by
   obtain⟨y,hy,rfl⟩:=List.mem_map.1 hx
   exact zeG (List.mem_map_of_mem (f:=zej (views H l) d.node) (List.mem_filter.1 hy).1)
  omega
 rw[e,ziP C (fun x hx=>of_decide_eq_true (List.mem_filter.1 hx).2),zpa (q:=fun x=>H x ∈ a.filter fun x=>decide (x ∈ l.map H)) C hd]
 constructor
 ·rintro⟨c,hc,ha,hb⟩
  refine⟨List.mem_map_of_mem hd,?_⟩
  have ha:=(List.mem_filter.1 ha).1
  rcases hb with rfl|hb
  ·exact .inl ha
  ·exact .inr ⟨_,ha,hb⟩
 ·rintro⟨_,h|⟨y,hy,h⟩⟩
  ·exact⟨d,hd,List.mem_filter.2 ⟨h,decide_eq_true (List.mem_map_of_mem hd)⟩,.inl rfl⟩
  ·obtain⟨c,hc,rfl⟩:=List.mem_map.1 (kn_src h)
   exact⟨c,hc,List.mem_filter.2 ⟨hy,decide_eq_true (List.mem_map_of_mem hc)⟩,.inr h⟩
theorem zkx {l L:List Com} (hp:L.Perm l) (C:Closed H l) (ho:zch H L) (k:Nat):Closed H (L.take k):=zbX (zfm C hp.symm) ho k
end
end Go.Proofs.YtgmdhaepiclkcaaGreatDoor.DgX
namespace Go.Proofs.YtgmdhaepiclkcaaGreatDoor.FrM
set_option maxRecDepth 100000
open IdM CmM DgM DgX
open Classical
section
variable {H:Com→Idn}
theorem pigeon:∀(n:Nat) (l:List Int),l.Nodup→(∀x ∈ l,0≤x∧x<n)→l.length≤n
 |0,l,_,h=>by
  cases l with
  |nil=>exact Nat.le_refl _
  |cons x l=>have:=h x (by simp);omega
 |n+1,l,hn,h=>by
  have h1:=pigeon n (l.erase n) (hn.erase _) fun x hx=>by
   have h2:=h x (List.mem_of_mem_erase hx)
   have h3:x≠n:=fun e=>by
    rw[e]at hx
    exact(List.Nodup.not_mem_erase hn) hx
   omega
  have h4:=List.length_erase_le (a:=(n:Int)) (l:=l)
  by_cases hm:(n:Int) ∈ l
  ·rw[List.length_erase_of_mem hm]at h1
   omega
  ·rw[List.erase_of_not_mem hm]at h1
   omega
end
end Go.Proofs.YtgmdhaepiclkcaaGreatDoor.FrM
namespace Go.Proofs.YtgmdhaepiclkcaaGreatDoor.FrN
set_option maxRecDepth 100000
open IdM CmM DgM DgX FrM
open Classical
section
variable {H:Com→Idn}
theorem zqd {l:List Com} {p q:Idn→Prop} (h:∀x,p x↔q x):DgM.part H l p=DgM.part H l q:=by
 have e:p=q:=funext fun x=>propext (h x)
 rw[e]
end
end Go.Proofs.YtgmdhaepiclkcaaGreatDoor.FrN
namespace Go.Proofs.YtgmdhaepiclkcaaGreatDoor.EaM
set_option maxRecDepth 100000
open IdM CmM DgM DgX FrM FrN StM OpsM Rise
open Classical
section
variable {H:Com→Idn}
def Gone (H:Com→Idn) (l:List Com) (c:Com):Prop:=∃d ∈ l,d.op.kind=3∧d.op.key=c.op.key∧d.op.elem=c.op.elem∧Kn H l (H d) (H c)
def znc (c:Com):RegM.Rg:=zpo c.op c.node c.seq c.gen
def zex (c:Com):PairM.Pr:=zik c.op c.node c.seq
noncomputable def evS (H:Com→Idn) (l:List Com) (s:St) (c:Com):St:=
 if c.op.kind=0 then⟨CtrM.zf3 s.c c.op.key c.op.n,s.r,s.p⟩else if c.op.kind=1 then⟨s.c,RegL.zen s.r (znc c),s.p⟩else if c.op.kind=2∧¬Gone H l c then⟨s.c,s.r,PairM.zgq s.p (zex c)⟩else s
noncomputable def zdz (H:Com→Idn) (l:List Com):St:=l.foldl (evS H l) noS
structure Fine (c:Com):Prop where
 op:zda c.op=true
 ev:zbs c.node c.seq=true
 gen:1≤c.gen
theorem zk4 {c:Com} (hm:zbn c=true) (hi:isM c=false):Fine c:=by
 obtain⟨h1,h2⟩:=za0.1 hm
 rcases h2 with h2|h2
 ·exact absurd (zjm.2 ⟨h1,h2⟩) (by rw[hi];decide)
 ·exact⟨h2.2,h2.1,(za6.1 h1).1⟩
theorem zd6 {l:List Com} (C:Closed H l):∀c ∈ l,Fine c:=fun c hc=>zk4 (C.may c hc) (C.merge c hc)
theorem zbN:zcI noS=true:=rfl
def cnt (k:ByteArray):List Com→Int
 |[]=>0
 |c::m=>(if c.op.kind=0∧c.op.key=k then c.op.n else 0)+cnt k m
def zhx (k:ByteArray) (c:Com):Option RegM.Rg:=if c.op.kind=1∧c.op.key=k then some (znc c)else none
def zmI (k:ByteArray):List Com→Option RegM.Rg
 |[]=>none
 |c::m=>RegL.zcf (zmI k m) (zhx k c)
theorem zjT (k:ByteArray) (c:Com):RegL.Of k (zhx k c):=fun x h=>by
 unfold zhx at h
 split at h
 ·rename_i hk
  obtain rfl:=Option.some.inj h
  exact hk.2
 ·cases h
theorem zlK (k:ByteArray):∀m:List Com,RegL.Of k (zmI k m)
 |[]=>fun x h=>by cases h
 |c::m=>(zlK k m).both (zjT k c)
variable {l:List Com}
theorem zkf {s:St} {c:Com} (hs:zcI s=true) (hc:Fine c):zcI (evS H l s c)=true:=by
 obtain⟨m1,m2,m3⟩:=zaM.1 hs
 unfold evS
 split
 ·exact zaM.2 ⟨CtrL.zjq _ m1 (zdx hc.op),m2,m3⟩
 ·split
  ·exact zaM.2 ⟨m1,RegL.zgb _ _,m3⟩
  ·split
   ·exact zaM.2 ⟨m1,m2,PairM.zli _ _⟩
   ·exact hs
theorem zcS:∀(m:List Com) (s:St),zcI s=true→(∀c ∈ m,Fine c)→zcI (m.foldl (evS H l) s)=true
 |[],_,hs,_=>hs
 |c::m,s,hs,hm=>zcS m _ (zkf hs (hm c (by simp))) fun d hd=>hm d (by simp[hd])
theorem ev_in {s:St} {c:Com} (hs:CtrL.InL s.c):CtrL.InL (evS H l s c).c:=by
 unfold evS
 split
 ·exact CtrL.inc_in _ _ hs
 ·split
  ·exact hs
  ·split <;> exact hs
theorem ev_c {s:St} {c:Com} (hs:zcI s=true) (hc:Fine c) (hi:CtrL.InL s.c) (k:ByteArray):CtrM.zbC (evS H l s c).c k=CtrM.w64 (CtrM.zbC s.c k+if c.op.kind=0∧c.op.key=k then c.op.n else 0):=by
 obtain⟨m1,_,_⟩:=zaM.1 hs
 have h0:=CtrL.ze9 (CtrL.zhZ hi k)
 unfold evS
 split
 ·rename_i h
  show CtrM.zbC (CtrM.zf3 s.c c.op.key c.op.n) k=_
  rw[CtrL.zov _ m1 (zdx hc.op)]
  by_cases hk:k=c.op.key
  ·rw[if_pos hk,if_pos ⟨h,hk.symm⟩,hk]
  ·rw[if_neg hk,if_neg fun q=>hk q.2.symm,Int.add_zero,h0]
 ·rename_i h
  rw[if_neg (c:=c.op.kind=0∧c.op.key=k) fun q=>h q.1,Int.add_zero,h0]
  split
  ·rfl
  ·split <;> rfl
theorem fold_c (k:ByteArray):∀(m:List Com) (s:St),zcI s=true→CtrL.InL s.c→(∀c ∈ m,Fine c)→CtrM.zbC (m.foldl (evS H l) s).c k=CtrM.w64 (CtrM.zbC s.c k+cnt k m)
 |[],s,_,hi,_=>by
  show CtrM.zbC s.c k=CtrM.w64 (CtrM.zbC s.c k+0)
  rw[Int.add_zero,CtrL.ze9 (CtrL.zhZ hi k)]
 |c::m,s,hs,hi,hm=>by
  rw[List.foldl_cons,fold_c k m _ (zkf hs (hm c (by simp))) (ev_in hi) fun d hd=>hm d (by simp[hd]),ev_c hs (hm c (by simp)) hi]
  show _=CtrM.w64 (CtrM.zbC s.c k+((if c.op.kind=0∧c.op.key=k then c.op.n else 0)+cnt k m))
  generalize (if c.op.kind=0∧c.op.key=k then c.op.n else 0)=x
  simp only[CtrM.zho]
  omega
theorem ev_r {s:St} {c:Com} (hs:zcI s=true) (hc:Fine c) (k:ByteArray):RegM.zcQ (evS H l s c).r k=RegL.zcf (zhx k c) (RegM.zcQ s.r k):=by
 obtain⟨_,m2,_⟩:=zaM.1 hs
 unfold evS zhx
 by_cases h0:c.op.kind=0
 ·rw[if_pos h0,if_neg fun q=>by omega]
  rfl
 ·rw[if_neg h0]
  by_cases h1:c.op.kind=1
  ·rw[if_pos h1]
   show RegM.zcQ (RegL.zen s.r (znc c)) k=_
   rw[RegL.zkL (r:=znc c) m2 (reg_may hc.op h1 hc.ev hc.gen),RegL.zjv]
   by_cases hk:c.op.key=k
   ·rw[if_pos (show(znc c).key=k from hk),if_pos ⟨h1,hk⟩]
   ·rw[if_neg (show ¬(znc c).key=k from hk),if_neg fun q=>hk q.2]
  ·rw[if_neg h1,if_neg (c:=c.op.kind=1∧c.op.key=k) fun q=>h1 q.1]
   split <;> rfl
theorem fold_r (k:ByteArray):∀(m:List Com) (s:St),zcI s=true→(∀c ∈ m,Fine c)→RegM.zcQ (m.foldl (evS H l) s).r k=RegL.zcf (zmI k m) (RegM.zcQ s.r k)
 |[],_,_,_=>rfl
 |c::m,s,hs,hm=>by
  rw[List.foldl_cons,fold_r k m _ (zkf hs (hm c (by simp))) fun d hd=>hm d (by simp[hd]),ev_r hs (hm c (by simp))]
  exact(RegL.zea (zlK k m) (zjT k c) (RegL.zjU _ k)).symm
theorem ev_p {s:St} {c:Com} (hs:zcI s=true) (hc:Fine c) (x:PairM.Pr):x ∈ (evS H l s c).p↔x ∈ s.p∨(c.op.kind=2∧¬Gone H l c∧x=zex c):=by
 obtain⟨_,_,m3⟩:=zaM.1 hs
 unfold evS
 by_cases h0:c.op.kind=0
 ·rw[if_pos h0]
  exact⟨.inl,fun h=>h.elim id fun q=>by omega⟩
 ·rw[if_neg h0]
  by_cases h1:c.op.kind=1
  ·rw[if_pos h1]
   exact⟨.inl,fun h=>h.elim id fun q=>by omega⟩
  ·rw[if_neg h1]
   by_cases h2:c.op.kind=2∧¬Gone H l c
   ·rw[if_pos h2]
    show x ∈ PairM.zgq s.p (zex c)↔_
    rw[PairM.zph (p:=zex c) m3 (zqe hc.op h2.1 hc.ev)]
    exact⟨fun h=>h.elim (fun q=>.inr ⟨h2.1,h2.2,q⟩) .inl,fun h=>h.elim .inr fun q=>.inl q.2.2⟩
   ·rw[if_neg h2]
    exact⟨.inl,fun h=>h.elim id fun q=>absurd ⟨q.1,q.2.1⟩ h2⟩
theorem fold_p (x:PairM.Pr):∀(m:List Com) (s:St),zcI s=true→(∀c ∈ m,Fine c)→(x ∈ (m.foldl (evS H l) s).p↔x ∈ s.p∨∃c ∈ m,c.op.kind=2∧¬Gone H l c∧x=zex c)
 |[],s,_,_=>⟨.inl,fun h=>h.elim id fun⟨_,hc,_⟩=>by cases hc⟩
 |c::m,s,hs,hm=>by
  rw[List.foldl_cons,fold_p x m _ (zkf hs (hm c (by simp))) (fun d hd=>hm d (by simp[hd])),ev_p hs (hm c (by simp))]
  constructor
  ·rintro((h|h)|⟨d,hd,h⟩)
   ·exact .inl h
   ·exact .inr ⟨c,by simp,h⟩
   ·exact .inr ⟨d,by simp[hd],h⟩
  ·rintro(h|⟨d,hd,h⟩)
   ·exact .inl (.inl h)
   ·rcases List.mem_cons.1 hd with rfl|hd
    ·exact .inl (.inr h)
    ·exact .inr ⟨d,hd,h⟩
theorem zhb (hl:∀c ∈ l,Fine c):zcI (zdz H l)=true:=zcS l noS zbN hl
theorem zow:CtrL.InL noS.c:=fun c hc=>by cases hc
theorem eval_c (hl:∀c ∈ l,Fine c) (k:ByteArray):CtrM.zbC (zdz H l).c k=CtrM.w64 (cnt k l):=by
 unfold zdz
 rw[fold_c k l noS zbN zow hl]
 show CtrM.w64 (0+cnt k l)=_
 rw[Int.zero_add]
theorem eval_r (hl:∀c ∈ l,Fine c) (k:ByteArray):RegM.zcQ (zdz H l).r k=zmI k l:=by
 unfold zdz
 rw[fold_r k l noS zbN hl]
 exact RegL.zdP _
theorem zl8 (hl:∀c ∈ l,Fine c) (x:PairM.Pr):x ∈ (zdz H l).p↔∃c ∈ l,c.op.kind=2∧¬Gone H l c∧x=zex c:=by
 unfold zdz
 rw[fold_p x l noS zbN hl]
 exact⟨fun h=>h.elim (fun q=>by cases q) id,.inr⟩
theorem zoL {s:St} (hl:∀c ∈ l,Fine c) (hs:zcI s=true) (hc:∀k,CtrM.zbC s.c k=CtrM.w64 (cnt k l)) (hr:∀k,RegM.zcQ s.r k=zmI k l) (hp:∀x,x ∈ s.p↔∃c ∈ l,c.op.kind=2∧¬Gone H l c∧x=zex c):s=zdz H l:=by
 obtain⟨m1,m2,m3⟩:=zaM.1 hs
 obtain⟨n1,n2,n3⟩:=zaM.1 (zhb (H:=H) hl)
 exact St_ext (CtrM.det m1 n1 fun k=>by rw[hc,eval_c hl]) (RegL.det m2 n2 fun k=>by rw[hr,eval_r hl]) (PairM.det (PairM.ris m3) (PairM.ris n3) fun x=>by rw[hp,zl8 hl])
theorem zmh (k:ByteArray) {l m:List Com} (h:l.Perm m):cnt k l=cnt k m:=by
 induction h with
 |nil=>rfl
 |cons c _ ih=>unfold cnt;rw[ih]
 |swap a b l=>unfold cnt;unfold cnt;omega
 |trans _ _ h1 h2=>rw[h1,h2]
theorem zlN (k:ByteArray) {l m:List Com} (h:l.Perm m):zmI k l=zmI k m:=by
 induction h with
 |nil=>rfl
 |cons c _ ih=>unfold zmI;rw[ih]
 |swap a b l=>
  show RegL.zcf (RegL.zcf (zmI k l) (zhx k a)) (zhx k b)=RegL.zcf (RegL.zcf (zmI k l) (zhx k b)) (zhx k a)
  rw[RegL.zea (zlK k l) (zjT k a) (zjT k b),RegL.ziG (zjT k a) (zjT k b),←RegL.zea (zlK k l) (zjT k b) (zjT k a)]
 |trans _ _ h1 h2=>rw[h1,h2]
theorem zj8 {l m:List Com} (h:∀c,c ∈ l↔c ∈ m) {c:Com}:Gone H l c→Gone H m c:=fun⟨d,hd,h1,h2,h3,h4⟩=>⟨d,(h d).1 hd,h1,h2,h3,zhR h h4⟩
theorem zoK {l m:List Com} (h:l.Perm m) (hl:∀c ∈ l,Fine c):zdz H l=zdz H m:=by
 have hm:∀c ∈ m,Fine c:=fun c hc=>hl c (h.mem_iff.2 hc)
 refine zoL hm (zhb hl) (fun k=>by rw[eval_c hl,zmh k h]) (fun k=>by rw[eval_r hl,zlN k h]) fun x=>?_
 rw[zl8 hl]
 constructor
 ·rintro⟨c,hc,h1,h2,h3⟩
  exact⟨c,h.mem_iff.1 hc,h1,fun g=>h2 (zj8 (fun d=>h.symm.mem_iff) g),h3⟩
 ·rintro⟨c,hc,h1,h2,h3⟩
  exact⟨c,h.mem_iff.2 hc,h1,fun g=>h2 (zj8 (fun d=>h.mem_iff) g),h3⟩
noncomputable def atK (H:Com→Idn) (l:List Com) (a:List Idn):St:=zdz H (DgM.part H l (· ∈ anc H l a))
end
end Go.Proofs.YtgmdhaepiclkcaaGreatDoor.EaM
namespace Go.Proofs.YtgmdhaepiclkcaaGreatDoor.EaN
set_option maxRecDepth 100000
open IdM CmM DgM DgX FrM FrN StM OpsM Rise EaM
open Classical
section
variable {H:Com→Idn} {l:List Com}
theorem ev_len {s:St} {c:Com} {n:Nat} (h:s.c.length≤n∧s.r.length≤n∧s.p.length≤n):(evS H l s c).c.length≤n+1∧(evS H l s c).r.length≤n+1∧(evS H l s c).p.length≤n+1:=by
 obtain⟨h1,h2,h3⟩:=h
 unfold evS
 split
 ·refine⟨?_,by show s.r.length≤_;omega,by show s.p.length≤_;omega⟩
  show(CtrM.zf3 s.c c.op.key c.op.n).length≤_
  unfold CtrM.zf3
  split
  ·have:=CtrM.zdY c.op.key (CtrM.w64 (CtrM.zbC s.c c.op.key+c.op.n)) s.c
   omega
  ·simp
 ·split
  ·refine⟨by show s.c.length≤_;omega,?_,by show s.p.length≤_;omega⟩
   show(RegL.zen s.r (znc c)).length≤_
   have:=RegL.zcW s.r (znc c)
   omega
  ·split
   ·refine⟨by show s.c.length≤_;omega,by show s.r.length≤_;omega,?_⟩
    show(PairM.zgq s.p (zex c)).length≤_
    have:=PairM.ziI s.p (zex c)
    omega
   ·exact⟨by omega,by omega,by omega⟩
theorem ze1:∀(m:List Com) (s:St) (n:Nat),s.c.length≤n∧s.r.length≤n∧s.p.length≤n→(m.foldl (evS H l) s).c.length≤n+m.length∧(m.foldl (evS H l) s).r.length≤n+m.length∧(m.foldl (evS H l) s).p.length≤n+m.length
 |[],_,_,h=>h
 |c::m,s,n,h=>by
  have:=ze1 m (evS H l s c) (n+1) (ev_len h)
  rw[List.foldl_cons,List.length_cons]
  exact⟨by omega,by omega,by omega⟩
end
end Go.Proofs.YtgmdhaepiclkcaaGreatDoor.EaN
