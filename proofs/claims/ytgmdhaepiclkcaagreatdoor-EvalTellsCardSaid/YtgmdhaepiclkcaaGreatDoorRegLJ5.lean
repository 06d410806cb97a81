/- Plain facts on registers with one more, and merged | Plain facts on pairs | Plain facts on a key's elements | Plain facts on states | Plain facts on commits that know one another -/
import Derived.Test.YtgmdhaepiclkcaaGreatDoorCmAJ5
import Derived.Test.YtgmdhaepiclkcaaGreatDoorGrowJ9
import Derived.Test.YtgmdhaepiclkcaaGreatDoorShaDJ13
namespace Go.Proofs.YtgmdhaepiclkcaaGreatDoor.RegL
set_option maxRecDepth 100000
open Go Byt OpsM Rise RegM
theorem best_turn {a b:Rg} (h:a.key=b.key):best a b=best b a:=by
 unfold best
 cases h1:zaW a b with
 |true=>
  rw[znO h1]
  simp
 |false=>
  cases h2:zaW b a with
  |true=>simp
  |false=>simp[znM h h1 h2]
theorem newer_ge {a b c:Rg} (k1:a.key=b.key) (k2:b.key=c.key) (h1:zaW a b=false) (h2:zaW b c=false):zaW a c=false:=by
 cases h3:zaW b a with
 |false=>rw[znM k1 h1 h3];exact h2
 |true=>
  cases h4:zaW c b with
  |false=>rw[←znM k2 h2 h4];exact h1
  |true=>exact znO (zfq h4 h3)
theorem best_three {a b c:Rg} (k1:a.key=b.key) (k2:b.key=c.key):best (best a b) c=best a (best b c):=by
 cases h1:zaW a b with
 |true=>
  cases h2:zaW b c with
  |true=>simp[best,h1,h2,zfq h1 h2]
  |false=>simp[best,h1,h2]
 |false=>
  cases h2:zaW b c with
  |true=>simp[best,h1,h2]
  |false=>simp[best,h1,h2,newer_ge k1 k2 h1 h2]
theorem zpC (a b:Rg):best a b=a∨best a b=b:=by
 unfold best
 split
 ·exact .inl rfl
 ·exact .inr rfl
def zck:Option Rg→Option Rg→Option Rg
 |none,y=>y
 |some x,none=>some x
 |some x,some y=>some (best x y)
def Of (k:ByteArray) (o:Option Rg):Prop:=∀x,o=some x→x.key=k
theorem zqc (l:List Rg) (k:ByteArray):Of k (zcV l k):=fun _ h=>(zbJ h).2
theorem Of.both {k:ByteArray} {x y:Option Rg} (hx:Of k x) (hy:Of k y):Of k (zck x y):=by
 cases x with
 |none=>exact hy
 |some x=>
  cases y with
  |none=>exact hx
  |some y=>
   intro z h
   injection h with h
   subst h
   rcases zpC x y with e|e
   ·rw[e];exact hx x rfl
   ·rw[e];exact hy y rfl
theorem zdW (x:Option Rg):zck x none=x:=by cases x <;> rfl
theorem zoK {k:ByteArray} {x y:Option Rg} (hx:Of k x) (hy:Of k y):zck x y=zck y x:=by
 cases x with
 |none=>exact(zdW y).symm
 |some x=>
  cases y with
  |none=>rfl
  |some y=>simp only[zck];rw[best_turn ((hx x rfl).trans (hy y rfl).symm)]
theorem zeh {k:ByteArray} {x y z:Option Rg} (hx:Of k x) (hy:Of k y) (hz:Of k z):zck (zck x y) z=zck x (zck y z):=by
 cases x with
 |none=>rfl
 |some x=>
  cases y with
  |none=>rfl
  |some y=>
   cases z with
   |none=>rfl
   |some z=>simp only[zck];rw[best_three ((hx x rfl).trans (hy y rfl).symm) ((hy y rfl).trans (hz z rfl).symm)]
def zev (l:List Rg) (r:Rg):List Rg:=if zbe l=true∧zen r=true then ins r false l else[]
theorem zpy (r:Rg) (k:ByteArray):zcV [r] k=if r.key=k then some r else none:=by
 rw[zbr]
 rfl
theorem ins_get {l:List Rg} (r:Rg) (h:Rises Rg.key ltS l) (k:ByteArray):zcV (ins r false l) k=zck (zcV [r] k) (zcV l k):=by
 rw[(znZ r h).2,zpy]
 by_cases hk:k=r.key
 ·subst hk
  rw[if_pos rfl,if_pos rfl]
  cases zcV l r.key <;> rfl
 ·rw[if_neg hk,if_neg (fun e=>hk e.symm)]
  rfl
theorem ins_may {l:List Rg} {r:Rg} (h:zbe l=true) (hr:zen r=true):zbe (ins r false l)=true:=by
 obtain⟨h1,h2⟩:=zbv.1 h
 obtain⟨i1,i2⟩:=znZ r h2
 refine zbv.2 ⟨fun x hx=>?_,i1⟩
 have hg:=ze6 i1 hx
 rw[i2]at hg
 by_cases hk:x.key=r.key
 ·rw[if_pos hk]at hg
  injection hg with hg
  cases hy:zcV l r.key with
  |none=>rw[hy]at hg;rw[←hg];exact hr
  |some y=>
   rw[hy]at hg
   rw[←hg]
   rcases zpC r y with e|e
   ·simp only[e];exact hr
   ·simp only[e];exact h1 y (zbJ hy).1
 ·rw[if_neg hk]at hg
  exact h1 x (zbJ hg).1
theorem zgo (r:Rg):∀(d:Bool) (l:List Rg),(ins r d l).length≤l.length+(if d=true then 0 else 1)
 |true,[]=>by simp[ins]
 |false,[]=>by simp[ins]
 |d,x::l=>by
  have i1:=zgo r (d||ltS r.key x.key) l
  have i2:=zgo r true l
  have e:∀(p q:List Rg),((if d=false∧ltS r.key x.key=true then[r]else[])++(if x.key≠r.key then p else q)).length≤(if d=false∧ltS r.key x.key=true then 1 else 0)+max p.length q.length:=by
   intro p q
   rw[List.length_append]
   refine Nat.add_le_add (by split <;> simp) ?_
   split
   ·exact Nat.le_max_left _ _
   ·exact Nat.le_max_right _ _
  have h:=e (x::ins r (d||ltS r.key x.key) l) (best r x::ins r true l)
  rw[List.length_cons,List.length_cons]at h
  rw[ins,List.length_cons]
  cases d <;> cases hl:ltS r.key x.key <;> simp[hl]at i1 i2 h ⊢ <;> omega
theorem put_is {l:List Rg} {r:Rg} (h:zbe l=true) (hr:zen r=true):zev l r=ins r false l:=if_pos ⟨h,hr⟩
theorem zow {l:List Rg} {r:Rg} (h:zbe l=false∨zen r=false):zev l r=[]:=by
 unfold zev
 rw[if_neg]
 rintro⟨a,b⟩
 rcases h with h|h
 ·rw[a]at h;cases h
 ·rw[b]at h;cases h
theorem zgi (l:List Rg) (r:Rg):zbe (zev l r)=true:=by
 unfold zev
 split
 ·rename_i h;exact ins_may h.1 h.2
 ·rfl
theorem put_get {l:List Rg} {r:Rg} (h:zbe l=true) (hr:zen r=true) (k:ByteArray):zcV (zev l r) k=zck (zcV [r] k) (zcV l k):=by
 rw[put_is h hr]
 exact ins_get r (zbv.1 h).2 k
theorem zc1 (l:List Rg) (r:Rg):(zev l r).length≤l.length+1:=by
 unfold zev
 split
 ·exact zgo r false l
 ·simp
theorem det {l m:List Rg} (hl:zbe l=true) (hm:zbe m=true) (h:∀k,zcV l k=zcV m k):l=m:=detR (zbv.1 hl).2 (zbv.1 hm).2 h
def zaQ (a b:List Rg):List Rg:=if zbe a=true∧zbe b=true then b.foldl zev a else[]
theorem zcX:∀(l out:List Rg),zbe out=true→zbe (l.foldl zev out)=true
 |[],_,h=>h
 |c::r,out,_=>zcX r (zev out c) (zgi out c)
theorem zcv:∀(l out:List Rg),(l.foldl zev out).length≤out.length+l.length
 |[],_=>by simp
 |c::r,out=>by
  have h1:=zcv r (zev out c)
  have h2:=zc1 out c
  rw[List.foldl_cons,List.length_cons]
  omega
theorem zf2 (k:ByteArray):∀(l out:List Rg),zbe out=true→(∀c ∈ l,zen c=true)→Rises Rg.key ltS l→zcV (l.foldl zev out) k=zck (zcV l k) (zcV out k)
 |[],_,_,_,_=>rfl
 |c::r,out,h,hk,hr=>by
  obtain⟨h1,h2⟩:=List.pairwise_cons.1 hr
  rw[List.foldl_cons,zf2 k r _ (zgi out c) (fun d hd=>hk d (by simp[hd])) h2,put_get h (hk c (by simp)),zpy,zbr]
  by_cases e:c.key=k
  ·rw[if_pos e,if_pos e,zn3 (fun d hd=>by rw[←e];exact fun e2=>zaA.ne (h1 d hd) e2.symm)]
   rfl
  ·rw[if_neg e,if_neg e]
   rfl
theorem za9 {a b:List Rg} (h:zbe a=false∨zbe b=false):zaQ a b=[]:=by
 unfold zaQ
 rw[if_neg]
 rintro⟨x,y⟩
 rcases h with h|h
 ·rw[x]at h;cases h
 ·rw[y]at h;cases h
theorem za4 (a b:List Rg):zbe (zaQ a b)=true:=by
 unfold zaQ
 split
 ·rename_i h;exact zcX b a h.1
 ·rfl
theorem zds (a b:List Rg):(zaQ a b).length≤a.length+b.length:=by
 unfold zaQ
 split
 ·exact zcv b a
 ·simp
section
variable {a b c:List Rg} (ha:zbe a=true) (hb:zbe b=true) (hc:zbe c=true)
include ha hb
theorem zcE (k:ByteArray):zcV (zaQ a b) k=zck (zcV b k) (zcV a k):=by
 unfold zaQ
 rw[if_pos ⟨ha,hb⟩]
 exact zf2 k b a ha (zbv.1 hb).1 (zbv.1 hb).2
theorem zoy:zaQ a b=zaQ b a:=
 det (za4 a b) (za4 b a) (fun k=>by rw[zcE ha hb,zcE hb ha,zoK (zqc b k) (zqc a k)])
include hc
end
section
variable {l:List Rg} {r s:Rg} (hl:zbe l=true) (hr:zen r=true) (hs:zen s=true)
include hl hr
include hs
end
theorem zbX (l:List Rg) (k:Nat) (h:k<l.length):(l.take (k+1)).all zen=((l.take k).all zen&&zen l[k]):=by
 rw[List.take_succ_eq_append_getElem h,List.all_append]
 simp
theorem zeJ {l:List Rg} (h:0<l.length):zbe (l.take 1)=zen l[0]:=by
 unfold zbe
 rw[zbX l 0 h]
 have e:zaN Rg.key ltS (l.take 1)=true:=by
  rw[List.take_succ_eq_append_getElem h]
  rfl
 rw[e]
 simp
theorem zfN {l:List Rg} {k:Nat} (h:k+1<l.length) (hm:zbe (l.take (k+1))=true):zbe (l.take (k+2))=(zen l[k+1]&&ltS (l[k]'(by omega)).key l[k+1].key):=by
 unfold zbe at hm ⊢
 rw[Bool.and_eq_true]at hm
 rw[zbX l (k+1) h,zfn h,hm.1,hm.2]
 simp
theorem znS {l:List Rg} {k:Nat} (h:k<l.length) (hn:zen l[k]=false):zbe l=false:=by
 unfold zbe
 rw[show l.all zen=false from List.all_eq_false.2 ⟨l[k],List.getElem_mem h,by rw[hn];simp⟩]
 rfl
theorem zfO {l:List Rg} {k:Nat} (h:k+1<l.length) (hn:ltS (l[k]'(by omega)).key l[k+1].key=false):zbe l=false:=by
 unfold zbe
 rw[zgh h hn,Bool.and_false]
end Go.Proofs.YtgmdhaepiclkcaaGreatDoor.RegL
namespace Go.Proofs.YtgmdhaepiclkcaaGreatDoor.PairM
set_option maxRecDepth 100000
open Go Byt OpsM Rise
structure Pr where
 key:ByteArray
 elem:ByteArray
 node:Int
 seq:Int
theorem Pr_ext {x y:Pr} (h1:x.key=y.key) (h2:x.elem=y.elem) (h3:x.node=y.node) (h4:x.seq=y.seq):x=y:=by
 cases x;cases y
 simp_all
instance:DecidableEq Pr:=fun x y=>decidable_of_iff (x.key=y.key∧x.elem=y.elem∧x.node=y.node∧x.seq=y.seq) ⟨fun h=>Pr_ext h.1 h.2.1 h.2.2.1 h.2.2.2,fun e=>by rw[e];exact⟨rfl,rfl,rfl,rfl⟩⟩
structure Pre {α:Type} (lt:α→α→Bool) (eq:α→α→Prop):Prop where
 irrefl:∀a,lt a a=false
 trans:∀a b c,lt a b=true→lt b c=true→lt a c=true
 tri:∀a b,lt a b=false→lt b a=false→eq a b
theorem lex {α κ:Type} [DecidableEq κ] (f:α→κ) {lt:κ→κ→Bool} (H:zep lt) {r:α→α→Bool} {eq:α→α→Prop} (R:Pre r eq):Pre (fun a b=>if f a=f b then r a b else lt (f a) (f b)) (fun a b=>f a=f b∧eq a b):=by
 constructor
 ·intro a
  simp[R.irrefl]
 ·intro a b c h1 h2
  by_cases e1:f a=f b
  ·rw[if_pos e1]at h1
   by_cases e2:f b=f c
   ·rw[if_pos e2]at h2
    rw[if_pos (e1.trans e2)]
    exact R.trans a b c h1 h2
   ·rw[if_neg e2]at h2
    rw[if_neg (by rw[e1];exact e2),e1]
    exact h2
  ·rw[if_neg e1]at h1
   by_cases e2:f b=f c
   ·rw[if_neg (by rw[←e2];exact e1),←e2]
    exact h1
   ·rw[if_neg e2]at h2
    have h3:=H.trans _ _ _ h1 h2
    rw[if_neg (H.ne h3)]
    exact h3
 ·intro a b h1 h2
  by_cases e1:f a=f b
  ·rw[if_pos e1]at h1
   rw[if_pos e1.symm]at h2
   exact⟨e1,R.tri a b h1 h2⟩
  ·rw[if_neg e1]at h1
   rw[if_neg (fun e=>e1 e.symm)]at h2
   exact absurd (H.tri _ _ h1 h2) e1
def ltI (a b:Int):Bool:=decide (a<b)
theorem strictI:zep ltI:=by
 constructor
 ·intro a;simp[ltI]
 ·intro a b c h1 h2
  simp only[ltI,decide_eq_true_eq]at *
  omega
 ·intro a b h1 h2
  simp only[ltI,decide_eq_false_iff_not]at *
  omega
theorem pre_last {α κ:Type} (f:α→κ) {lt:κ→κ→Bool} (H:zep lt):Pre (fun a b=>lt (f a) (f b)) (fun a b=>f a=f b):=
 ⟨fun _=>H.irrefl _,fun _ _ _=>H.trans _ _ _,fun _ _=>H.tri _ _⟩
def zbb (a b:Pr):Bool:=if a.key=b.key then if a.elem=b.elem then if a.node=b.node then ltI a.seq b.seq else ltI a.node b.node else ltS a.elem b.elem else ltS a.key b.key
theorem zc7:zep zbb:=by
 have H:=lex Pr.key zaA (lex Pr.elem zaA (lex Pr.node strictI (pre_last Pr.seq strictI)))
 exact⟨H.irrefl,H.trans,fun a b h1 h2=>by
  obtain⟨e1,e2,e3,e4⟩:=H.tri a b h1 h2
  exact Pr_ext e1 e2 e3 e4⟩
def zfF (p:Pr):Bool:=zbT (zan p.key)&&(zbT (zan p.elem)&&(decide (0≤p.node)&&(decide (p.node<8)&&decide (1≤p.seq))))
abbrev zpF (l:List Pr):Prop:=Rises id zbb l
def zbD (l:List Pr):Bool:=l.all zfF&&zaN id zbb l
theorem zcT {l:List Pr}:zbD l=true↔(∀p ∈ l,zfF p=true)∧zpF l:=by
 unfold zbD
 rw[Bool.and_eq_true,List.all_eq_true,zeY zc7]
theorem may_nil:zbD []=true:=rfl
theorem znR {p:Pr}:zbD [p]=zfF p:=by
 unfold zbD
 simp[zaN]
theorem det {l m:List Pr} (hl:zpF l) (hm:zpF m) (h:∀x,x ∈ l↔x ∈ m):l=m:=Rises.ext zc7 hl hm h
def zg3 (l:List Pr) (p:Pr):List Pr:=if p ∈ l then l else l.filter (fun x=>zbb x p)++p::l.filter (fun x=>zbb p x)
theorem zpl {x p:Pr} (h:x≠p):zbb x p=true∨zbb p x=true:=by
 cases h1:zbb x p with
 |true=>exact .inl rfl
 |false=>
  cases h2:zbb p x with
  |true=>exact .inr rfl
  |false=>exact absurd (zc7.tri _ _ h1 h2) h
theorem put_mem {l:List Pr} {p:Pr} (x:Pr):x ∈ zg3 l p↔x=p∨x ∈ l:=by
 unfold zg3
 split
 ·rename_i h
  exact⟨.inr,fun e=>e.elim (fun e=>by rw[e];exact h) id⟩
 ·rename_i h
  simp only[List.mem_append,List.mem_filter,List.mem_cons]
  constructor
  ·rintro(⟨h1,_⟩|h1|⟨h1,_⟩)
   ·exact .inr h1
   ·exact .inl h1
   ·exact .inr h1
  ·rintro(h1|h1)
   ·exact .inr (.inl h1)
   ·rcases zpl (x:=x) (p:=p) (fun e=>h (e ▸ h1))with h2|h2
    ·exact .inl ⟨h1,h2⟩
    ·exact .inr (.inr ⟨h1,h2⟩)
theorem znE {l:List Pr} {p:Pr} (h:zpF l):zpF (zg3 l p):=by
 unfold zg3
 split
 ·exact h
 ·unfold zpF Rises at *
  rw[List.pairwise_append]
  refine⟨h.filter _,List.pairwise_cons.2 ⟨fun x hx=>(List.mem_filter.1 hx).2,h.filter _⟩,fun x hx y hy=>?_⟩
  have hx2:=(List.mem_filter.1 hx).2
  rcases List.mem_cons.1 hy with rfl|hy
  ·exact hx2
  ·exact zc7.trans _ _ _ hx2 (List.mem_filter.1 hy).2
theorem zgi {l:List Pr} {p:Pr} (h:zbD l=true) (hp:zfF p=true):zbD (zg3 l p)=true:=by
 obtain⟨h1,h2⟩:=zcT.1 h
 refine zcT.2 ⟨fun x hx=>?_,znE h2⟩
 rcases(put_mem x).1 hx with rfl|hx
 ·exact hp
 ·exact h1 x hx
theorem zc1 (l:List Pr) (p:Pr):(zg3 l p).length≤l.length+1:=by
 unfold zg3
 split
 ·omega
 ·rw[List.length_append,List.length_cons]
  have key:∀m:List Pr,(m.filter fun x=>zbb x p).length+(m.filter fun x=>zbb p x).length≤m.length:=by
   intro m
   induction m with
   |nil=>simp
   |cons x m ih=>
    rw[List.filter_cons,List.filter_cons,List.length_cons]
    cases h1:zbb x p with
    |true=>simp[zc7.asymm h1];omega
    |false=>
     cases h2:zbb p x with
     |true=>simp;omega
     |false=>simp;omega
  have:=key l
  omega
theorem put_at {l:List Pr} {p:Pr} {k:Nat} (h:zpF l) (hp:p ∉ l) (hk:k≤l.length) (h1:∀(i:Nat) (x:Pr),k≤i→l[i]?=some x→zbb p x=true) (h2:∀x,0<k→l[k - 1]?=some x→zbb p x=false):zg3 l p=l.take k++p::l.drop k:=by
 refine det (znE h) ?_ (fun x=>?_)
 ·unfold zpF Rises at *
  have ht:(l.take k).Pairwise fun x y=>zbb (id x) (id y)=true:=h.sublist (List.take_sublist _ _)
  have hd:(l.drop k).Pairwise fun x y=>zbb (id x) (id y)=true:=h.sublist (List.drop_sublist _ _)
  have hgt:∀y ∈ l.drop k,zbb p y=true:=by
   intro y hy
   obtain⟨i,hi,rfl⟩:=List.getElem_of_mem hy
   rw[List.getElem_drop]
   exact h1 (k+i) _ (by omega) (List.getElem?_eq_getElem _)
  have hlt:∀x ∈ l.take k,zbb x p=true:=by
   intro x hx
   have hpos:0<k:=by
    rcases Nat.eq_zero_or_pos k with e|e
    ·rw[e]at hx;simp at hx
    ·exact e
   have hl:k - 1<l.length:=by omega
   have q:=h2 _ hpos (List.getElem?_eq_getElem hl)
   have hlast:zbb l[k - 1] p=true:=by
    rcases zpl (x:=l[k - 1]) (p:=p) (fun e=>hp (by rw[←e];exact List.getElem_mem _))with h|h
    ·exact h
    ·rw[q]at h;cases h
   obtain⟨i,hi,rfl⟩:=List.getElem_of_mem hx
   rw[List.getElem_take]
   rw[List.length_take]at hi
   by_cases e:i=k - 1
   ·subst e
    exact hlast
   ·exact zc7.trans _ _ _ (List.pairwise_iff_getElem.1 h i (k - 1) (by omega) hl (by omega)) hlast
  rw[List.pairwise_append]
  refine⟨ht,List.pairwise_cons.2 ⟨hgt,hd⟩,fun x hx y hy=>?_⟩
  rcases List.mem_cons.1 hy with rfl|hy
  ·exact hlt x hx
  ·exact zc7.trans _ _ _ (hlt x hx) (hgt y hy)
 ·rw[put_mem,List.mem_append,List.mem_cons]
  constructor
  ·rintro(h|h)
   ·exact .inr (.inl h)
   ·rw[←List.take_append_drop k l]at h
    rcases List.mem_append.1 h with h|h
    ·exact .inl h
    ·exact .inr (.inr h)
  ·rintro(h|h|h)
   ·exact .inr (List.mem_of_mem_take h)
   ·exact .inl h
   ·exact .inr (List.mem_of_mem_drop h)
def zgx (l:List Pr) (p:Pr):List Pr:=if zbD l=true∧zfF p=true then zg3 l p else[]
def offB (k e:ByteArray) (x:Pr):Bool:=decide (x.key≠k)||decide (x.elem≠e)
def delP (l:List Pr) (k e:ByteArray):List Pr:=if zbD l=true then l.filter (offB k e)else[]
def inM (base a b:List Pr) (x:Pr):Prop:=(x ∈ a∧(x ∈ b∨x ∉ base))∨(x ∈ b∧x ∉ a∧x ∉ base)
def fromA (base b:List Pr) (x:Pr):Bool:=decide (x ∈ b)||decide (x ∉ base)
def fromB (base a:List Pr) (x:Pr):Bool:=decide (x ∉ a)&&decide (x ∉ base)
def zcf (base a b:List Pr):List Pr:=if zbD base=true∧zbD a=true∧zbD b=true then(b.filter (fromB base a)).foldl zg3 ((a.filter (fromA base b)).foldl zg3 [])else[]
theorem zf1:∀(m l:List Pr) (x:Pr),x ∈ m.foldl zg3 l↔x ∈ m∨x ∈ l
 |[],l,x=>by simp
 |p::m,l,x=>by
  rw[List.foldl_cons,zf1 m,put_mem,List.mem_cons]
  constructor
  ·rintro(h|h|h)
   ·exact .inl (.inr h)
   ·exact .inl (.inl h)
   ·exact .inr h
  ·rintro((h|h)|h)
   ·exact .inr (.inl h)
   ·exact .inl h
   ·exact .inr (.inr h)
theorem zgr:∀(m l:List Pr),zpF l→zpF (m.foldl zg3 l)
 |[],_,h=>h
 |_::m,_,h=>zgr m _ (znE h)
theorem zcv:∀(m l:List Pr),(m.foldl zg3 l).length≤l.length+m.length
 |[],l=>by simp
 |p::m,l=>by
  have h1:=zcv m (zg3 l p)
  have h2:=zc1 l p
  rw[List.foldl_cons,List.length_cons]
  omega
theorem za9 {base a b:List Pr} (h:zbD base=false∨zbD a=false∨zbD b=false):zcf base a b=[]:=by
 unfold zcf
 rw[if_neg]
 rintro⟨h0,h1,h2⟩
 rcases h with h|h|h
 ·rw[h]at h0;cases h0
 ·rw[h]at h1;cases h1
 ·rw[h]at h2;cases h2
section
variable {base a b:List Pr} (h0:zbD base=true) (h1:zbD a=true) (h2:zbD b=true)
include h0 h1 h2
theorem zdd (x:Pr):x ∈ zcf base a b↔inM base a b x:=by
 unfold zcf inM
 rw[if_pos ⟨h0,h1,h2⟩,zf1,zf1]
 simp only[List.mem_filter,fromA,fromB,Bool.or_eq_true,Bool.and_eq_true,decide_eq_true_eq,List.not_mem_nil,or_false]
 constructor
 ·rintro(h|h)
  ·exact .inr h
  ·exact .inl h
 ·rintro(h|h)
  ·exact .inr h
  ·exact .inl h
theorem za4:zbD (zcf base a b)=true:=by
 refine zcT.2 ⟨fun x hx=>?_,?_⟩
 ·rcases(zdd h0 h1 h2 x).1 hx with⟨h,_⟩|⟨h,_⟩
  ·exact(zcT.1 h1).1 x h
  ·exact(zcT.1 h2).1 x h
 ·unfold zcf
  rw[if_pos ⟨h0,h1,h2⟩]
  exact zgr _ _ (zgr _ _ List.Pairwise.nil)
theorem merge_is {m:List Pr} (hr:zpF m) (h:∀x,x ∈ m↔inM base a b x):m=zcf base a b:=
 det hr (zcT.1 (za4 h0 h1 h2)).2 (fun x=>by rw[h,zdd h0 h1 h2])
theorem zds:(zcf base a b).length≤a.length+b.length:=by
 unfold zcf
 rw[if_pos ⟨h0,h1,h2⟩]
 have q1:=zcv (a.filter (fromA base b)) []
 have q2:=zcv (b.filter (fromB base a)) ((a.filter (fromA base b)).foldl zg3 [])
 have q3:=List.length_filter_le (fromA base b) a
 have q4:=List.length_filter_le (fromB base a) b
 simp only[List.length_nil,Nat.zero_add]at q1
 omega
end
theorem add_is {l:List Pr} {p:Pr} (h:zbD l=true) (hp:zfF p=true):zgx l p=zg3 l p:=if_pos ⟨h,hp⟩
theorem add_no {l:List Pr} {p:Pr} (h:zbD l=false∨zfF p=false):zgx l p=[]:=by
 unfold zgx
 rw[if_neg]
 rintro⟨h1,h2⟩
 rcases h with h|h
 ·rw[h]at h1;cases h1
 ·rw[h]at h2;cases h2
theorem add_may (l:List Pr) (p:Pr):zbD (zgx l p)=true:=by
 unfold zgx
 split
 ·rename_i h
  exact zgi h.1 h.2
 ·rfl
theorem del_may (l:List Pr) (k e:ByteArray):zbD (delP l k e)=true:=by
 unfold delP
 split
 ·rename_i h
  obtain⟨h1,h2⟩:=zcT.1 h
  exact zcT.2 ⟨fun x hx=>h1 x (List.mem_filter.1 hx).1,h2.filter _⟩
 ·rfl
theorem del_length (l:List Pr) (k e:ByteArray):(delP l k e).length≤l.length:=by
 unfold delP
 split
 ·exact List.length_filter_le _ _
 ·simp
theorem zoM (l:List Pr) (p:Pr):(zgx l p).length≤l.length+1:=by
 unfold zgx
 split
 ·exact zc1 l p
 ·simp
theorem add_mem {l:List Pr} {p:Pr} (h:zbD l=true) (hp:zfF p=true) (x:Pr):x ∈ zgx l p↔x=p∨x ∈ l:=by rw[add_is h hp,put_mem]
theorem ris {l:List Pr} (h:zbD l=true):zpF l:=(zcT.1 h).2
end Go.Proofs.YtgmdhaepiclkcaaGreatDoor.PairM
namespace Go.Proofs.YtgmdhaepiclkcaaGreatDoor.PairN
set_option maxRecDepth 100000
open Go Byt OpsM Rise PairM
theorem zbX (l:List Pr) (k:Nat) (h:k<l.length):(l.take (k+1)).all zfF=((l.take k).all zfF&&zfF l[k]):=by
 rw[List.take_succ_eq_append_getElem h,List.all_append]
 simp
theorem zeJ {l:List Pr} (h:0<l.length):zbD (l.take 1)=zfF l[0]:=by
 unfold zbD
 rw[zbX l 0 h]
 have e:zaN id zbb (l.take 1)=true:=by
  rw[List.take_succ_eq_append_getElem h]
  rfl
 rw[e]
 simp
theorem zfN {l:List Pr} {k:Nat} (h:k+1<l.length) (hm:zbD (l.take (k+1))=true):zbD (l.take (k+2))=(zfF l[k+1]&&zbb (l[k]'(by omega)) l[k+1]):=by
 unfold zbD at hm ⊢
 rw[Bool.and_eq_true]at hm
 rw[zbX l (k+1) h,zfn h,hm.1,hm.2]
 simp
theorem znS {l:List Pr} {k:Nat} (h:k<l.length) (hn:zfF l[k]=false):zbD l=false:=by
 unfold zbD
 rw[show l.all zfF=false from List.all_eq_false.2 ⟨l[k],List.getElem_mem h,by rw[hn];simp⟩]
 rfl
theorem zfO {l:List Pr} {k:Nat} (h:k+1<l.length) (hn:zbb (l[k]'(by omega)) l[k+1]=false):zbD l=false:=by
 unfold zbD
 rw[zgh h hn,Bool.and_false]
end Go.Proofs.YtgmdhaepiclkcaaGreatDoor.PairN
namespace Go.Proofs.YtgmdhaepiclkcaaGreatDoor.StM
set_option maxRecDepth 100000
open Go Byt OpsM Rise
structure St where
 c:List CtrM.Cn
 r:List RegM.Rg
 p:List PairM.Pr
theorem St_ext {x y:St} (h1:x.c=y.c) (h2:x.r=y.r) (h3:x.p=y.p):x=y:=by
 cases x;cases y
 simp_all
def noS:St:=⟨[],[],[]⟩
def zcN (s:St):Bool:=CtrM.zbf s.c&&(RegM.zbe s.r&&PairM.zbD s.p)
theorem zaM {s:St}:zcN s=true↔CtrM.zbf s.c=true∧RegM.zbe s.r=true∧PairM.zbD s.p=true:=by
 unfold zcN
 rw[Bool.and_eq_true,Bool.and_eq_true]
def regO (o:Opn) (n q g:Int):RegM.Rg:=⟨o.key,o.elem,g,n,q⟩
def zop (o:Opn) (n q:Int):PairM.Pr:=⟨o.key,o.elem,n,q⟩
def stepS (s:St) (o:Opn) (n q g:Int):St:=
 if o.kind=0 then⟨CtrM.zga s.c o.key o.n,s.r,s.p⟩else if o.kind=1 then⟨s.c,RegL.zev s.r (regO o n q g),s.p⟩else if o.kind=2 then⟨s.c,s.r,PairM.zgx s.p (zop o n q)⟩else⟨s.c,s.r,PairM.delP s.p o.key o.elem⟩
def okD (s:St) (o:Opn) (n q g:Int):Bool:=zcN s&&(zdf o&&(zbt n q&&decide (1≤g)))
theorem zdb {s:St} {o:Opn} {n q g:Int}:okD s o n q g=true↔zcN s=true∧zdf o=true∧zbt n q=true∧1≤g:=by
 unfold okD
 simp only[Bool.and_eq_true,decide_eq_true_eq]
def doS (s:St) (o:Opn) (n q g:Int):Option St:=if okD s o n q g=true then some (stepS s o n q g)else none
def okM (base a b:St):Bool:=zcN base&&(zcN a&&zcN b)
theorem okM_iff {base a b:St}:okM base a b=true↔zcN base=true∧zcN a=true∧zcN b=true:=by
 unfold okM
 simp only[Bool.and_eq_true]
def zcK (base a b:St):St:=⟨CtrM.zco base.c a.c b.c,RegL.zaQ a.r b.r,PairM.zcf base.p a.p b.p⟩
def zqf (base a b:St):Option St:=if okM base a b=true then some (zcK base a b)else none
theorem zdC {o:Opn} (h:zdf o=true):zbT (zan o.key)=true:=(zbH h).1
theorem zfa {o:Opn} (h:zdf o=true) (hk:o.kind=1∨o.kind=2∨o.kind=3):zbT (zan o.elem)=true:=by
 rcases(zbH h).2 with⟨h0,_⟩|⟨_,h1⟩
 ·omega
 ·unfold zgV at h1
  rw[Bool.and_eq_true]at h1
  exact h1.1
theorem zpm {o:Opn} (h:zdf o=true):o.kind=0∨o.kind=1∨o.kind=2∨o.kind=3:=by
 rcases(zbH h).2 with⟨h0,_⟩|⟨h1,_⟩
 ·exact .inl h0
 ·exact .inr h1
theorem reg_may {o:Opn} {n q g:Int} (h:zdf o=true) (hk:o.kind=1) (he:zbt n q=true) (hg:1≤g):RegM.zen (regO o n q g)=true:=by
 have h1:=zdC h
 have h2:=zfa h (.inl hk)
 obtain⟨⟨e1,e2⟩,e3,e4⟩:=zb6.1 he
 unfold RegM.zen regO
 simp only[Bool.and_eq_true,decide_eq_true_eq]
 exact⟨h1,h2,by omega,by omega,by omega,by omega⟩
theorem pair_may {o:Opn} {n q:Int} (h:zdf o=true) (hk:o.kind=2) (he:zbt n q=true):PairM.zfF (zop o n q)=true:=by
 have h1:=zdC h
 have h2:=zfa h (.inr (.inl hk))
 obtain⟨⟨e1,e2⟩,e3,e4⟩:=zb6.1 he
 unfold PairM.zfF zop
 simp only[Bool.and_eq_true,decide_eq_true_eq]
 exact⟨h1,h2,e1,e2,e3⟩
theorem step_may {s:St} {o:Opn} {n q g:Int} (h:okD s o n q g=true):zcN (stepS s o n q g)=true:=by
 obtain⟨h1,h2,h3,h4⟩:=zdb.1 h
 obtain⟨m1,m2,m3⟩:=zaM.1 h1
 unfold stepS
 split
 ·exact zaM.2 ⟨CtrL.zpt _ m1 (zdC h2),m2,m3⟩
 ·split
  ·exact zaM.2 ⟨m1,RegL.zgi _ _,m3⟩
  ·split
   ·exact zaM.2 ⟨m1,m2,PairM.add_may _ _⟩
   ·exact zaM.2 ⟨m1,m2,PairM.del_may _ _ _⟩
section
variable {base a b c:St}
theorem join_may (h0:zcN base=true) (h1:zcN a=true) (h2:zcN b=true):zcN (zcK base a b)=true:=by
 obtain⟨p1,p2,p3⟩:=zaM.1 h0
 obtain⟨q1,q2,q3⟩:=zaM.1 h1
 obtain⟨r1,r2,r3⟩:=zaM.1 h2
 exact zaM.2 ⟨CtrL.za4 p1 q1 r1,RegL.za4 _ _,PairM.za4 p3 q3 r3⟩
end
end Go.Proofs.YtgmdhaepiclkcaaGreatDoor.StM
namespace Go.Proofs.YtgmdhaepiclkcaaGreatDoor.DgM
set_option maxRecDepth 100000
open IdM CmM
open Classical
section
variable {H:Com→Idn}
def Par (H:Com→Idn) (l:List Com) (a b:Idn):Prop:=∃c ∈ l,H c=a∧b ∈ c.ps
inductive Kn (H:Com→Idn) (l:List Com):Idn→Idn→Prop
 |one {a b:Idn}:Par H l a b→Kn H l a b
 |more {a b c:Idn}:Par H l a b→Kn H l b c→Kn H l a c
theorem Kn.trans {l:List Com} {a b c:Idn} (h:Kn H l a b) (k:Kn H l b c):Kn H l a c:=by
 induction h with
 |one h=>exact .more h k
 |more h _ ih=>exact .more h (ih k)
def look (H:Com→Idn) (l:List Com) (a:Idn):Option Com:=l.find? fun c=>decide (H c=a)
def gAt (H:Com→Idn) (l:List Com) (a:Idn):Int:=((look H l a).map (·.gen)).getD 0
def most (l:List Int):Int:=l.foldl max 0
theorem foldl_max (l:List Int):∀m:Int,m≤l.foldl max m∧(∀x ∈ l,x≤l.foldl max m)∧(l.foldl max m=m∨l.foldl max m ∈ l):=by
 induction l with
 |nil=>intro m;simp
 |cons y l ih=>
  intro m
  obtain⟨h1,h2,h3⟩:=ih (max m y)
  refine⟨by simp only[List.foldl_cons];omega,fun x hx=>?_,?_⟩
  ·rcases List.mem_cons.1 hx with rfl|hx
   ·simp only[List.foldl_cons];omega
   ·exact h2 x hx
  ·simp only[List.foldl_cons]
   rcases h3 with h3|h3
   ·rw[h3]
    by_cases h:m≤y
    ·right;rw[Int.max_eq_right h];simp
    ·left;rw[Int.max_eq_left (by omega)]
   ·right;exact List.mem_cons_of_mem _ h3
theorem zeN {l:List Int} {x:Int} (h:x ∈ l):x≤most l:=(foldl_max l 0).2.1 x h
structure Closed (H:Com→Idn) (l:List Com):Prop where
 may:∀c ∈ l,zbo c=true
 merge:∀c ∈ l,isM c=false
 nodup:(l.map H).Nodup
 found:∀c ∈ l,∀a ∈ c.ps,a ∈ l.map H
 gen:∀c ∈ l,c.gen=1+most (c.ps.map (gAt H l))
 apart:∀c ∈ l,∀a ∈ c.ps,∀b ∈ c.ps,¬Kn H l a b
 node:∀c ∈ l,∀d ∈ l,c≠d→c.node=d.node→c.seq≠d.seq∧(d.seq<c.seq→Kn H l (H c) (H d))
theorem zoJ:Closed H []:=⟨by simp,by simp,by simp,by simp,by simp,by simp,by simp⟩
theorem znA {l:List Com} (h:(l.map H).Nodup) {c d:Com} (hc:c ∈ l) (hd:d ∈ l) (e:H c=H d):c=d:=by
 induction l with
 |nil=>simp at hc
 |cons x l ih=>
  rw[List.map_cons,List.nodup_cons]at h
  rcases List.mem_cons.1 hc with h1|h1 <;> rcases List.mem_cons.1 hd with h2|h2
  ·rw[h1,h2]
  ·subst h1
   exact absurd (by rw[e];exact List.mem_map_of_mem h2) h.1
  ·subst h2
   exact absurd (by rw[←e];exact List.mem_map_of_mem h1) h.1
  ·exact ih h.2 h1 h2
theorem znT {l:List Com} (h:(l.map H).Nodup) {c:Com} (hc:c ∈ l):look H l (H c)=some c:=by
 unfold look
 cases hf:l.find? (fun d=>decide (H d=H c))with
 |none=>
  have:=List.find?_eq_none.1 hf c hc
  simp at this
 |some d=>
  have h1:=List.mem_of_find?_eq_some hf
  have h2:=List.find?_some hf
  rw[znA h h1 hc (of_decide_eq_true h2)]
theorem zf0 {l:List Com} (h:(l.map H).Nodup) {c:Com} (hc:c ∈ l):gAt H l (H c)=c.gen:=by
 unfold gAt
 rw[znT h hc]
 rfl
theorem kn_src {l:List Com} {a b:Idn} (h:Kn H l a b):a ∈ l.map H:=by
 cases h with
 |one h=>obtain⟨c,hc,rfl,_⟩:=h;exact List.mem_map_of_mem hc
 |more h _=>obtain⟨c,hc,rfl,_⟩:=h;exact List.mem_map_of_mem hc
theorem zo7 {l:List Com} (C:Closed H l) {a b:Idn} (h:Par H l a b):gAt H l b<gAt H l a:=by
 obtain⟨c,hc,rfl,hb⟩:=h
 rw[zf0 C.nodup hc,C.gen c hc]
 have:=zeN (List.mem_map_of_mem (f:=gAt H l) hb)
 omega
theorem kn_gen {l:List Com} (C:Closed H l) {a b:Idn} (h:Kn H l a b):gAt H l b<gAt H l a:=by
 induction h with
 |one h=>exact zo7 C h
 |more h _ ih=>have:=zo7 C h;omega
theorem kn_irrefl {l:List Com} (C:Closed H l) {a:Idn}:¬Kn H l a a:=fun h=>by
 have:=kn_gen C h
 omega
noncomputable def part (H:Com→Idn) (l:List Com) (p:Idn→Prop):List Com:=l.filter fun c=>decide (p (H c))
theorem zbC {l:List Com} {p:Idn→Prop} {c:Com}:c ∈ part H l p↔c ∈ l∧p (H c):=by simp[part]
def Down (H:Com→Idn) (l:List Com) (p:Idn→Prop):Prop:=∀c ∈ l,p (H c)→∀a ∈ c.ps,p a
theorem par_part {l:List Com} {p:Idn→Prop} {a b:Idn} (h:Par H (part H l p) a b):Par H l a b:=by
 obtain⟨c,hc,e,hb⟩:=h
 exact⟨c,(zbC.1 hc).1,e,hb⟩
theorem kn_part {l:List Com} {p:Idn→Prop} {a b:Idn} (h:Kn H (part H l p) a b):Kn H l a b:=by
 induction h with
 |one h=>exact .one (par_part h)
 |more h _ ih=>exact .more (par_part h) ih
theorem kn_in {l:List Com} {p:Idn→Prop} (hd:Down H l p) {a b:Idn} (h:Kn H l a b) (ha:p a):Kn H (part H l p) a b∧p b:=by
 induction h with
 |one h=>
  obtain⟨c,hc,rfl,hb⟩:=h
  exact⟨.one ⟨c,zbC.2 ⟨hc,ha⟩,rfl,hb⟩,hd c hc ha _ hb⟩
 |more h _ ih=>
  obtain⟨c,hc,rfl,hb⟩:=h
  obtain⟨h1,h2⟩:=ih (hd c hc ha _ hb)
  exact⟨.more ⟨c,zbC.2 ⟨hc,ha⟩,rfl,hb⟩ h1,h2⟩
theorem mem_map {l:List Com} {p:Idn→Prop} {a:Idn}:a ∈ (part H l p).map H↔a ∈ l.map H∧p a:=by
 rw[List.mem_map,List.mem_map]
 constructor
 ·rintro⟨c,hc,rfl⟩
  obtain⟨h1,h2⟩:=zbC.1 hc
  exact⟨⟨c,h1,rfl⟩,h2⟩
 ·rintro⟨⟨c,hc,rfl⟩,h⟩
  exact⟨c,zbC.2 ⟨hc,h⟩,rfl⟩
theorem zgl {l:List Com} (C:Closed H l) (p:Idn→Prop):((part H l p).map H).Nodup:=C.nodup.sublist (List.filter_sublist.map H)
theorem gAt_part {l:List Com} (C:Closed H l) {p:Idn→Prop} {a:Idn} (ha:a ∈ l.map H) (hp:p a):gAt H (part H l p) a=gAt H l a:=by
 obtain⟨c,hc,rfl⟩:=List.mem_map.1 ha
 have hn:=zgl C p
 rw[zf0 hn (zbC.2 ⟨hc,hp⟩),zf0 C.nodup hc]
theorem zoa {l:List Com} (C:Closed H l) {p:Idn→Prop} (hd:Down H l p):Closed H (part H l p):=by
 have hn:=zgl C p
 refine⟨fun c hc=>C.may c (zbC.1 hc).1,fun c hc=>C.merge c (zbC.1 hc).1,hn,fun c hc a ha=>?_,fun c hc=>?_,fun c hc a ha b hb h=>?_,fun c hc d hd' hne zdm=>?_⟩
 ·obtain⟨h1,h2⟩:=zbC.1 hc
  exact mem_map.2 ⟨C.found c h1 a ha,hd c h1 h2 a ha⟩
 ·obtain⟨h1,h2⟩:=zbC.1 hc
  rw[C.gen c h1]
  congr 2
  exact List.map_congr_left fun a ha=>(gAt_part C (C.found c h1 a ha) (hd c h1 h2 a ha)).symm
 ·exact C.apart c (zbC.1 hc).1 a ha b hb (kn_part h)
 ·obtain⟨h1,h2⟩:=zbC.1 hc
  obtain⟨h3,_⟩:=zbC.1 hd'
  obtain⟨k1,k2⟩:=C.node c h1 d h3 hne zdm
  exact⟨k1,fun hs=>(kn_in hd (k2 hs) h2).1⟩
def Below (H:Com→Idn) (l:List Com) (a:List Idn) (x:Idn):Prop:=x ∈ l.map H∧(x ∈ a∨∃y ∈ a,Kn H l y x)
theorem below_down {l:List Com} (C:Closed H l) (a:List Idn):Down H l (Below H l a):=by
 rintro c hc ⟨_,h⟩ b hb
 have hp:Par H l (H c) b:=⟨c,hc,rfl,hb⟩
 refine⟨C.found c hc b hb,.inr ?_⟩
 rcases h with h|⟨y,hy,h⟩
 ·exact⟨H c,h,.one hp⟩
 ·exact⟨y,hy,h.trans (.one hp)⟩
noncomputable def anc (H:Com→Idn) (l:List Com) (a:List Idn):List Idn:=sort ((l.map H).filter fun x=>decide (Below H l a x))
theorem mem_anc {l:List Com} {a:List Idn} {x:Idn}:x ∈ anc H l a↔Below H l a x:=by
 unfold anc
 rw[zfM,List.mem_filter,decide_eq_true_eq]
 exact⟨fun h=>h.2,fun h=>⟨h.1,h⟩⟩
theorem rising_anc (l:List Com) (a:List Idn):zb7 (anc H l a):=zc9 _
theorem anc_in {l:List Com} {a:List Idn}:∀x ∈ anc H l a,x ∈ l.map H:=fun _ h=>(mem_anc.1 h).1
theorem part_len {l:List Com} (C:Closed H l) (a:List Idn):(part H l (· ∈ anc H l a)).length=(anc H l a).length:=by
 have h1:=zgl C (· ∈ anc H l a)
 have h2:=perm_of h1 (zgC (rising_anc (H:=H) l a)) fun x=>by
  rw[mem_map]
  exact⟨fun h=>h.2,fun h=>⟨anc_in x h,h⟩⟩
 have:=h2.length_eq
 rwa[List.length_map]at this
theorem closed_anc {l:List Com} (C:Closed H l) (a:List Idn):Closed H (part H l (· ∈ anc H l a)):=zoa C fun c hc h b hb=>by
 have h:H c ∈ anc H l a:=h
 show b ∈ anc H l a
 rw[mem_anc]at h ⊢
 exact below_down C a c hc h b hb
theorem znX {l m:List Com} (h:∀c,c ∈ l↔c ∈ m) {a b:Idn} (k:Kn H l a b):Kn H m a b:=by
 induction k with
 |one k=>obtain⟨c,hc,e,hb⟩:=k;exact .one ⟨c,(h c).1 hc,e,hb⟩
 |more k _ ih=>obtain⟨c,hc,e,hb⟩:=k;exact .more ⟨c,(h c).1 hc,e,hb⟩ ih
theorem zft {l m:List Com} (C:Closed H l) (h:l.Perm m):Closed H m:=by
 have hm:∀c,c ∈ l↔c ∈ m:=fun c=>h.mem_iff
 have hm':∀c,c ∈ m↔c ∈ l:=fun c=>(hm c).symm
 have hn:(m.map H).Nodup:=(h.map H).nodup_iff.1 C.nodup
 have hg:∀a ∈ l.map H,gAt H m a=gAt H l a:=fun a ha=>by
  obtain⟨c,hc,rfl⟩:=List.mem_map.1 ha
  rw[zf0 hn ((hm c).1 hc),zf0 C.nodup hc]
 refine⟨fun c hc=>C.may c ((hm c).2 hc),fun c hc=>C.merge c ((hm c).2 hc),hn,fun c hc a ha=>?_,fun c hc=>?_,fun c hc a ha b hb k=>C.apart c ((hm c).2 hc) a ha b hb (znX hm' k),fun c hc d hd hne zdm=>?_⟩
 ·exact(h.map H).mem_iff.1 (C.found c ((hm c).2 hc) a ha)
 ·rw[C.gen c ((hm c).2 hc)]
  congr 2
  exact List.map_congr_left fun a ha=>(hg a (C.found c ((hm c).2 hc) a ha)).symm
 ·obtain⟨h1,h2⟩:=C.node c ((hm c).2 hc) d ((hm d).2 hd) hne zdm
  exact⟨h1,fun hs=>znX hm (h2 hs)⟩
def Ahead (H:Com→Idn) (c d:Com):Prop:=c.gen<d.gen∨c.gen=d.gen∧less (H c) (H d)=true
def zcm (H:Com→Idn) (l:List Com):Prop:=l.Pairwise (Ahead H)
theorem ahead_asymm {c d:Com} (h:Ahead H c d) (k:Ahead H d c):False:=by
 rcases h with h|⟨h,h'⟩ <;> rcases k with k|⟨k,k'⟩
 ·omega
 ·omega
 ·omega
 ·rw[zoB h']at k';cases k'
theorem part_pre {t d:List Com} (hn:((t++d).map H).Nodup):part H (t++d) (· ∈ t.map H)=t:=by
 rw[List.map_append,List.nodup_append]at hn
 unfold part
 rw[List.filter_append,List.filter_eq_self.2,List.filter_eq_nil_iff.2,List.append_nil]
 ·intro c hc h
  simp only[decide_eq_true_eq]at h
  exact hn.2.2 _ h _ (List.mem_map_of_mem hc) rfl
 ·intro c hc
  simp only[decide_eq_true_eq]
  exact List.mem_map_of_mem hc
theorem zb0 {l:List Com} (C:Closed H l) (ho:zcm H l) (i:Nat):Closed H (l.take i):=by
 have hp:l.take i=part H l (· ∈ (l.take i).map H):=by
  have hn:=C.nodup
  have:=part_pre (H:=H) (t:=l.take i) (d:=l.drop i) (by rw[List.take_append_drop];exact hn)
  rw[List.take_append_drop]at this
  exact this.symm
 rw[hp]
 refine zoa C fun c hc h b hb=>?_
 have hcb:=zo7 C ⟨c,hc,rfl,hb⟩
 obtain⟨d,hd,e⟩:=List.mem_map.1 (C.found c hc b hb)
 rw[zf0 C.nodup hc,←e,zf0 C.nodup hd]at hcb
 have hc':c ∈ l.take i:=by
  obtain⟨c',h1,h2⟩:=List.mem_map.1 h
  rwa[←znA C.nodup (List.mem_of_mem_take h1) hc h2]
 rw[←e]
 refine List.mem_map_of_mem ?_
 rw[←List.take_append_drop i l]at hd
 rcases List.mem_append.1 hd with hd|hd
 ·exact hd
 ·have ho':=ho
  unfold zcm at ho'
  rw[←List.take_append_drop i l,List.pairwise_append]at ho'
  rcases ho'.2.2 c hc' d hd with h|h <;> omega
end
end Go.Proofs.YtgmdhaepiclkcaaGreatDoor.DgM
