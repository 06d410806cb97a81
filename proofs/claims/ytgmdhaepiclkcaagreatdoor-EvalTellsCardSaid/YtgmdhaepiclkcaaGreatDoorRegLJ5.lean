/- Plain facts on registers with one more, and merged | Plain facts on pairs | Plain facts on a key's elements | Plain facts on states | Plain facts on commits that know one another -/
import Derived.Test.YtgmdhaepiclkcaaGreatDoorCmAJ5
import Derived.Test.YtgmdhaepiclkcaaGreatDoorGrowJ9
import Derived.Test.YtgmdhaepiclkcaaGreatDoorShaDJ13
namespace Go.Proofs.YtgmdhaepiclkcaaGreatDoor.RegL
set_option maxRecDepth 100000
open Go Byt OpsM Rise RegM
theorem zo4 {a b:Rg} (h:a.key=b.key):best a b=best b a:=by
 unfold best
 cases h1:zaV a b with
 |true=>
  rw[zhI h1]
  simp
 |false=>
  cases h2:zaV b a with
  |true=>simp
  |false=>simp[zhG h h1 h2]
theorem zql {a b c:Rg} (k1:a.key=b.key) (k2:b.key=c.key) (h1:zaV a b=false) (h2:zaV b c=false):zaV a c=false:=by
 cases h3:zaV b a with
 |false=>rw[zhG k1 h1 h3];exact h2
 |true=>
  cases h4:zaV c b with
  |false=>rw[←zhG k2 h2 h4];exact h1
  |true=>exact zhI (zfj h4 h3)
theorem zm7 {a b c:Rg} (k1:a.key=b.key) (k2:b.key=c.key):best (best a b) c=best a (best b c):=by
 cases h1:zaV a b with
 |true=>
  cases h2:zaV b c with
  |true=>simp[best,h1,h2,zfj h1 h2]
  |false=>simp[best,h1,h2]
 |false=>
  cases h2:zaV b c with
  |true=>simp[best,h1,h2]
  |false=>simp[best,h1,h2,zql k1 k2 h1 h2]
theorem zjz (a b:Rg):best a b=a∨best a b=b:=by
 unfold best
 split
 ·exact .inl rfl
 ·exact .inr rfl
def zcf:Option Rg→Option Rg→Option Rg
 |none,y=>y
 |some x,none=>some x
 |some x,some y=>some (best x y)
def Of (k:ByteArray) (o:Option Rg):Prop:=∀x,o=some x→x.key=k
theorem zjU (l:List Rg) (k:ByteArray):Of k (zcQ l k):=fun _ h=>(zbG h).2
theorem Of.both {k:ByteArray} {x y:Option Rg} (hx:Of k x) (hy:Of k y):Of k (zcf x y):=by
 cases x with
 |none=>exact hy
 |some x=>
  cases y with
  |none=>exact hx
  |some y=>
   intro z h
   injection h with h
   subst h
   rcases zjz x y with e|e
   ·rw[e];exact hx x rfl
   ·rw[e];exact hy y rfl
theorem zdP (x:Option Rg):zcf x none=x:=by cases x <;> rfl
theorem ziG {k:ByteArray} {x y:Option Rg} (hx:Of k x) (hy:Of k y):zcf x y=zcf y x:=by
 cases x with
 |none=>exact(zdP y).symm
 |some x=>
  cases y with
  |none=>rfl
  |some y=>simp only[zcf];rw[zo4 ((hx x rfl).trans (hy y rfl).symm)]
theorem zea {k:ByteArray} {x y z:Option Rg} (hx:Of k x) (hy:Of k y) (hz:Of k z):zcf (zcf x y) z=zcf x (zcf y z):=by
 cases x with
 |none=>rfl
 |some x=>
  cases y with
  |none=>rfl
  |some y=>
   cases z with
   |none=>rfl
   |some z=>simp only[zcf];rw[zm7 ((hx x rfl).trans (hy y rfl).symm) ((hy y rfl).trans (hz z rfl).symm)]
def zen (l:List Rg) (r:Rg):List Rg:=if zbd l=true∧zeg r=true then ins r false l else[]
theorem zjv (r:Rg) (k:ByteArray):zcQ [r] k=if r.key=k then some r else none:=by
 rw[zbq]
 rfl
theorem ins_get {l:List Rg} (r:Rg) (h:Rises Rg.key ltS l) (k:ByteArray):zcQ (ins r false l) k=zcf (zcQ [r] k) (zcQ l k):=by
 rw[(zhT r h).2,zjv]
 by_cases hk:k=r.key
 ·subst hk
  rw[if_pos rfl,if_pos rfl]
  cases zcQ l r.key <;> rfl
 ·rw[if_neg hk,if_neg (fun e=>hk e.symm)]
  rfl
theorem ins_may {l:List Rg} {r:Rg} (h:zbd l=true) (hr:zeg r=true):zbd (ins r false l)=true:=by
 obtain⟨h1,h2⟩:=zbu.1 h
 obtain⟨i1,i2⟩:=zhT r h2
 refine zbu.2 ⟨fun x hx=>?_,i1⟩
 have hg:=zeZ i1 hx
 rw[i2]at hg
 by_cases hk:x.key=r.key
 ·rw[if_pos hk]at hg
  injection hg with hg
  cases hy:zcQ l r.key with
  |none=>rw[hy]at hg;rw[←hg];exact hr
  |some y=>
   rw[hy]at hg
   rw[←hg]
   rcases zjz r y with e|e
   ·simp only[e];exact hr
   ·simp only[e];exact h1 y (zbG hy).1
 ·rw[if_neg hk]at hg
  exact h1 x (zbG hg).1
theorem zgh (r:Rg):∀(d:Bool) (l:List Rg),(ins r d l).length≤l.length+(if d=true then 0 else 1)
 |true,[]=>by simp[ins]
 |false,[]=>by simp[ins]
 |d,x::l=>by
  have i1:=zgh r (d||ltS r.key x.key) l
  have i2:=zgh r true l
  have e:∀(p q:List Rg),((if d=false∧ltS r.key x.key=true then[r]else[])++(if x.key≠r.key then p else q)).length≤(if d=false∧ltS r.key x.key=true then 1 else 0)+max p.length q.length:=by
   intro p q
   rw[List.length_append]
   refine Nat.add_le_add (by split <;> simp) ?_
   split
   ·exact Nat.le_max_left _ _
   ·exact Nat.le_max_right _ _
  have h:=e (x::ins r (d||ltS r.key x.key) l) (best r x::ins r true l)
  rw[List.length_cons,List.length_cons]at h
  rw[ins,List.length_cons]
  cases d <;> cases hl:ltS r.key x.key <;> simp[hl]at i1 i2 h ⊢ <;> omega
theorem put_is {l:List Rg} {r:Rg} (h:zbd l=true) (hr:zeg r=true):zen l r=ins r false l:=if_pos ⟨h,hr⟩
theorem zis {l:List Rg} {r:Rg} (h:zbd l=false∨zeg r=false):zen l r=[]:=by
 unfold zen
 rw[if_neg]
 rintro⟨a,b⟩
 rcases h with h|h
 ·rw[a]at h;cases h
 ·rw[b]at h;cases h
theorem zgb (l:List Rg) (r:Rg):zbd (zen l r)=true:=by
 unfold zen
 split
 ·rename_i h;exact ins_may h.1 h.2
 ·rfl
theorem zkL {l:List Rg} {r:Rg} (h:zbd l=true) (hr:zeg r=true) (k:ByteArray):zcQ (zen l r) k=zcf (zcQ [r] k) (zcQ l k):=by
 rw[put_is h hr]
 exact ins_get r (zbu.1 h).2 k
theorem zcW (l:List Rg) (r:Rg):(zen l r).length≤l.length+1:=by
 unfold zen
 split
 ·exact zgh r false l
 ·simp
theorem det {l m:List Rg} (hl:zbd l=true) (hm:zbd m=true) (h:∀k,zcQ l k=zcQ m k):l=m:=detR (zbu.1 hl).2 (zbu.1 hm).2 h
def zaQ (a b:List Rg):List Rg:=if zbd a=true∧zbd b=true then b.foldl zen a else[]
theorem zcS:∀(l out:List Rg),zbd out=true→zbd (l.foldl zen out)=true
 |[],_,h=>h
 |c::r,out,_=>zcS r (zen out c) (zgb out c)
theorem zcq:∀(l out:List Rg),(l.foldl zen out).length≤out.length+l.length
 |[],_=>by simp
 |c::r,out=>by
  have h1:=zcq r (zen out c)
  have h2:=zcW out c
  rw[List.foldl_cons,List.length_cons]
  omega
theorem zfV (k:ByteArray):∀(l out:List Rg),zbd out=true→(∀c ∈ l,zeg c=true)→Rises Rg.key ltS l→zcQ (l.foldl zen out) k=zcf (zcQ l k) (zcQ out k)
 |[],_,_,_,_=>rfl
 |c::r,out,h,hk,hr=>by
  obtain⟨h1,h2⟩:=List.pairwise_cons.1 hr
  rw[List.foldl_cons,zfV k r _ (zgb out c) (fun d hd=>hk d (by simp[hd])) h2,zkL h (hk c (by simp)),zjv,zbq]
  by_cases e:c.key=k
  ·rw[if_pos e,if_pos e,zhX (fun d hd=>by rw[←e];exact fun e2=>zaA.ne (h1 d hd) e2.symm)]
   rfl
  ·rw[if_neg e,if_neg e]
   rfl
theorem za8 {a b:List Rg} (h:zbd a=false∨zbd b=false):zaQ a b=[]:=by
 unfold zaQ
 rw[if_neg]
 rintro⟨x,y⟩
 rcases h with h|h
 ·rw[x]at h;cases h
 ·rw[y]at h;cases h
theorem za3 (a b:List Rg):zbd (zaQ a b)=true:=by
 unfold zaQ
 split
 ·rename_i h;exact zcS b a h.1
 ·rfl
theorem zdn (a b:List Rg):(zaQ a b).length≤a.length+b.length:=by
 unfold zaQ
 split
 ·exact zcq b a
 ·simp
section
variable {a b c:List Rg} (ha:zbd a=true) (hb:zbd b=true) (hc:zbd c=true)
include ha hb
theorem zcz (k:ByteArray):zcQ (zaQ a b) k=zcf (zcQ b k) (zcQ a k):=by
 unfold zaQ
 rw[if_pos ⟨ha,hb⟩]
 exact zfV k b a ha (zbu.1 hb).1 (zbu.1 hb).2
theorem ziu:zaQ a b=zaQ b a:=
 det (za3 a b) (za3 b a) (fun k=>by rw[zcz ha hb,zcz hb ha,ziG (zjU b k) (zjU a k)])
include hc
end
section
variable {l:List Rg} {r s:Rg} (hl:zbd l=true) (hr:zeg r=true) (hs:zeg s=true)
include hl hr
include hs
end
theorem zbU (l:List Rg) (k:Nat) (h:k<l.length):(l.take (k+1)).all zeg=((l.take k).all zeg&&zeg l[k]):=by
 rw[List.take_succ_eq_append_getElem h,List.all_append]
 simp
theorem zeC {l:List Rg} (h:0<l.length):zbd (l.take 1)=zeg l[0]:=by
 unfold zbd
 rw[zbU l 0 h]
 have e:zaN Rg.key ltS (l.take 1)=true:=by
  rw[List.take_succ_eq_append_getElem h]
  rfl
 rw[e]
 simp
theorem zfG {l:List Rg} {k:Nat} (h:k+1<l.length) (hm:zbd (l.take (k+1))=true):zbd (l.take (k+2))=(zeg l[k+1]&&ltS (l[k]'(by omega)).key l[k+1].key):=by
 unfold zbd at hm ⊢
 rw[Bool.and_eq_true]at hm
 rw[zbU l (k+1) h,zfg h,hm.1,hm.2]
 simp
theorem zhM {l:List Rg} {k:Nat} (h:k<l.length) (hn:zeg l[k]=false):zbd l=false:=by
 unfold zbd
 rw[show l.all zeg=false from List.all_eq_false.2 ⟨l[k],List.getElem_mem h,by rw[hn];simp⟩]
 rfl
theorem zfH {l:List Rg} {k:Nat} (h:k+1<l.length) (hn:ltS (l[k]'(by omega)).key l[k+1].key=false):zbd l=false:=by
 unfold zbd
 rw[zga h hn,Bool.and_false]
end Go.Proofs.YtgmdhaepiclkcaaGreatDoor.RegL
namespace Go.Proofs.YtgmdhaepiclkcaaGreatDoor.PairM
set_option maxRecDepth 100000
open Go Byt OpsM Rise
structure Pr where
 key:ByteArray
 elem:ByteArray
 node:Int
 seq:Int
theorem zpk {x y:Pr} (h1:x.key=y.key) (h2:x.elem=y.elem) (h3:x.node=y.node) (h4:x.seq=y.seq):x=y:=by
 cases x;cases y
 simp_all
instance:DecidableEq Pr:=fun x y=>decidable_of_iff (x.key=y.key∧x.elem=y.elem∧x.node=y.node∧x.seq=y.seq) ⟨fun h=>zpk h.1 h.2.1 h.2.2.1 h.2.2.2,fun e=>by rw[e];exact⟨rfl,rfl,rfl,rfl⟩⟩
structure Pre {α:Type} (lt:α→α→Bool) (eq:α→α→Prop):Prop where
 irrefl:∀a,lt a a=false
 trans:∀a b c,lt a b=true→lt b c=true→lt a c=true
 tri:∀a b,lt a b=false→lt b a=false→eq a b
theorem lex {α κ:Type} [DecidableEq κ] (f:α→κ) {lt:κ→κ→Bool} (H:zei lt) {r:α→α→Bool} {eq:α→α→Prop} (R:Pre r eq):Pre (fun a b=>if f a=f b then r a b else lt (f a) (f b)) (fun a b=>f a=f b∧eq a b):=by
 constructor
 ·intro a
  simp[R.irrefl]
 ·intro a b c h1 h2
  by_cases e1:f a=f b
  ·rw[if_pos e1]at h1
   by_cases e2:f b=f c
   ·rw[if_pos e2]at h2
    rw[if_pos (e1.trans e2)]
    exact R.trans a b c h1 h2
   ·rw[if_neg e2]at h2
    rw[if_neg (by rw[e1];exact e2),e1]
    exact h2
  ·rw[if_neg e1]at h1
   by_cases e2:f b=f c
   ·rw[if_neg (by rw[←e2];exact e1),←e2]
    exact h1
   ·rw[if_neg e2]at h2
    have h3:=H.trans _ _ _ h1 h2
    rw[if_neg (H.ne h3)]
    exact h3
 ·intro a b h1 h2
  by_cases e1:f a=f b
  ·rw[if_pos e1]at h1
   rw[if_pos e1.symm]at h2
   exact⟨e1,R.tri a b h1 h2⟩
  ·rw[if_neg e1]at h1
   rw[if_neg (fun e=>e1 e.symm)]at h2
   exact absurd (H.tri _ _ h1 h2) e1
def ltI (a b:Int):Bool:=decide (a<b)
theorem znt:zei ltI:=by
 constructor
 ·intro a;simp[ltI]
 ·intro a b c h1 h2
  simp only[ltI,decide_eq_true_eq]at *
  omega
 ·intro a b h1 h2
  simp only[ltI,decide_eq_false_iff_not]at *
  omega
theorem zp6 {α κ:Type} (f:α→κ) {lt:κ→κ→Bool} (H:zei lt):Pre (fun a b=>lt (f a) (f b)) (fun a b=>f a=f b):=
 ⟨fun _=>H.irrefl _,fun _ _ _=>H.trans _ _ _,fun _ _=>H.tri _ _⟩
def zba (a b:Pr):Bool:=if a.key=b.key then if a.elem=b.elem then if a.node=b.node then ltI a.seq b.seq else ltI a.node b.node else ltS a.elem b.elem else ltS a.key b.key
theorem zc2:zei zba:=by
 have H:=lex Pr.key zaA (lex Pr.elem zaA (lex Pr.node znt (zp6 Pr.seq znt)))
 exact⟨H.irrefl,H.trans,fun a b h1 h2=>by
  obtain⟨e1,e2,e3,e4⟩:=H.tri a b h1 h2
  exact zpk e1 e2 e3 e4⟩
def zfy (p:Pr):Bool:=zbQ (zan p.key)&&(zbQ (zan p.elem)&&(decide (0≤p.node)&&(decide (p.node<8)&&decide (1≤p.seq))))
abbrev zjC (l:List Pr):Prop:=Rises id zba l
def zbA (l:List Pr):Bool:=l.all zfy&&zaN id zba l
theorem zcO {l:List Pr}:zbA l=true↔(∀p ∈ l,zfy p=true)∧zjC l:=by
 unfold zbA
 rw[Bool.and_eq_true,List.all_eq_true,zeR zc2]
theorem may_nil:zbA []=true:=rfl
theorem zhL {p:Pr}:zbA [p]=zfy p:=by
 unfold zbA
 simp[zaN]
theorem det {l m:List Pr} (hl:zjC l) (hm:zjC m) (h:∀x,x ∈ l↔x ∈ m):l=m:=Rises.ext zc2 hl hm h
def zgW (l:List Pr) (p:Pr):List Pr:=if p ∈ l then l else l.filter (fun x=>zba x p)++p::l.filter (fun x=>zba p x)
theorem zjh {x p:Pr} (h:x≠p):zba x p=true∨zba p x=true:=by
 cases h1:zba x p with
 |true=>exact .inl rfl
 |false=>
  cases h2:zba p x with
  |true=>exact .inr rfl
  |false=>exact absurd (zc2.tri _ _ h1 h2) h
theorem put_mem {l:List Pr} {p:Pr} (x:Pr):x ∈ zgW l p↔x=p∨x ∈ l:=by
 unfold zgW
 split
 ·rename_i h
  exact⟨.inr,fun e=>e.elim (fun e=>by rw[e];exact h) id⟩
 ·rename_i h
  simp only[List.mem_append,List.mem_filter,List.mem_cons]
  constructor
  ·rintro(⟨h1,_⟩|h1|⟨h1,_⟩)
   ·exact .inr h1
   ·exact .inl h1
   ·exact .inr h1
  ·rintro(h1|h1)
   ·exact .inr (.inl h1)
   ·rcases zjh (x:=x) (p:=p) (fun e=>h (e ▸ h1))with h2|h2
    ·exact .inl ⟨h1,h2⟩
    ·exact .inr (.inr ⟨h1,h2⟩)
theorem zhy {l:List Pr} {p:Pr} (h:zjC l):zjC (zgW l p):=by
 unfold zgW
 split
 ·exact h
 ·unfold zjC Rises at *
  rw[List.pairwise_append]
  refine⟨h.filter _,List.pairwise_cons.2 ⟨fun x hx=>(List.mem_filter.1 hx).2,h.filter _⟩,fun x hx y hy=>?_⟩
  have hx2:=(List.mem_filter.1 hx).2
  rcases List.mem_cons.1 hy with rfl|hy
  ·exact hx2
  ·exact zc2.trans _ _ _ hx2 (List.mem_filter.1 hy).2
theorem zgb {l:List Pr} {p:Pr} (h:zbA l=true) (hp:zfy p=true):zbA (zgW l p)=true:=by
 obtain⟨h1,h2⟩:=zcO.1 h
 refine zcO.2 ⟨fun x hx=>?_,zhy h2⟩
 rcases(put_mem x).1 hx with rfl|hx
 ·exact hp
 ·exact h1 x hx
theorem zcW (l:List Pr) (p:Pr):(zgW l p).length≤l.length+1:=by
 unfold zgW
 split
 ·omega
 ·rw[List.length_append,List.length_cons]
  have key:∀m:List Pr,(m.filter fun x=>zba x p).length+(m.filter fun x=>zba p x).length≤m.length:=by
   intro m
   induction m with
   |nil=>simp
   |cons x m ih=>
    rw[List.filter_cons,List.filter_cons,List.length_cons]
    cases h1:zba x p with
    |true=>simp[zc2.asymm h1];omega
    |false=>
     cases h2:zba p x with
     |true=>simp;omega
     |false=>simp;omega
  have:=key l
  omega
theorem put_at {l:List Pr} {p:Pr} {k:Nat} (h:zjC l) (hp:p ∉ l) (hk:k≤l.length) (h1:∀(i:Nat) (x:Pr),k≤i→l[i]?=some x→zba p x=true) (h2:∀x,0<k→l[k - 1]?=some x→zba p x=false):zgW l p=l.take k++p::l.drop k:=by
 refine det (zhy h) ?_ (fun x=>?_)
 ·unfold zjC Rises at *
  have ht:(l.take k).Pairwise fun x y=>zba (id x) (id y)=true:=h.sublist (List.take_sublist _ _)
  have hd:(l.drop k).Pairwise fun x y=>zba (id x) (id y)=true:=h.sublist (List.drop_sublist _ _)
  have hgt:∀y ∈ l.drop k,zba p y=true:=by
   intro y hy
   obtain⟨i,hi,rfl⟩:=List.getElem_of_mem hy
   rw[List.getElem_drop]
   exact h1 (k+i) _ (by omega) (List.getElem?_eq_getElem _)
  have hlt:∀x ∈ l.take k,zba x p=true:=by
   intro x hx
   have hpos:0<k:=by
    rcases Nat.eq_zero_or_pos k with e|e
    ·rw[e]at hx;simp at hx
    ·exact e
   have hl:k - 1<l.length:=by omega
   have q:=h2 _ hpos (List.getElem?_eq_getElem hl)
   have hlast:zba l[k - 1] p=true:=by
    rcases zjh (x:=l[k - 1]) (p:=p) (fun e=>hp (by rw[←e];exact List.getElem_mem _))with h|h
    ·exact h
    ·rw[q]at h;cases h
   obtain⟨i,hi,rfl⟩:=List.getElem_of_mem hx
   rw[List.getElem_take]
   rw[List.length_take]at hi
   by_cases e:i=k - 1
   ·subst e
    exact hlast
   ·exact zc2.trans _ _ _ (List.pairwise_iff_getElem.1 h i (k - 1) (by omega) hl (by omega)) hlast
  rw[List.pairwise_append]
  refine⟨ht,List.pairwise_cons.2 ⟨hgt,hd⟩,fun x hx y hy=>?_⟩
  rcases List.mem_cons.1 hy with rfl|hy
  ·exact hlt x hx
  ·exact zc2.trans _ _ _ (hlt x hx) (hgt y hy)
 ·rw[put_mem,List.mem_append,List.mem_cons]
  constructor
  ·rintro(h|h)
   ·exact .inr (.inl h)
   ·rw[←List.take_append_drop k l]at h
    rcases List.mem_append.1 h with h|h
    ·exact .inl h
    ·exact .inr (.inr h)
  ·rintro(h|h|h)
   ·exact .inr (List.mem_of_mem_take h)
   ·exact .inl h
   ·exact .inr (List.mem_of_mem_drop h)
def zgq (l:List Pr) (p:Pr):List Pr:=if zbA l=true∧zfy p=true then zgW l p else[]
def zpr (k e:ByteArray) (x:Pr):Bool:=decide (x.key≠k)||decide (x.elem≠e)
def zki (l:List Pr) (k e:ByteArray):List Pr:=if zbA l=true then l.filter (zpr k e)else[]
def inM (base a b:List Pr) (x:Pr):Prop:=(x ∈ a∧(x ∈ b∨x ∉ base))∨(x ∈ b∧x ∉ a∧x ∉ base)
def zoE (base b:List Pr) (x:Pr):Bool:=decide (x ∈ b)||decide (x ∉ base)
def fromB (base a:List Pr) (x:Pr):Bool:=decide (x ∉ a)&&decide (x ∉ base)
def zca (base a b:List Pr):List Pr:=if zbA base=true∧zbA a=true∧zbA b=true then(b.filter (fromB base a)).foldl zgW ((a.filter (zoE base b)).foldl zgW [])else[]
theorem zfU:∀(m l:List Pr) (x:Pr),x ∈ m.foldl zgW l↔x ∈ m∨x ∈ l
 |[],l,x=>by simp
 |p::m,l,x=>by
  rw[List.foldl_cons,zfU m,put_mem,List.mem_cons]
  constructor
  ·rintro(h|h|h)
   ·exact .inl (.inr h)
   ·exact .inl (.inl h)
   ·exact .inr h
  ·rintro((h|h)|h)
   ·exact .inr (.inl h)
   ·exact .inl h
   ·exact .inr (.inr h)
theorem zgk:∀(m l:List Pr),zjC l→zjC (m.foldl zgW l)
 |[],_,h=>h
 |_::m,_,h=>zgk m _ (zhy h)
theorem zcq:∀(m l:List Pr),(m.foldl zgW l).length≤l.length+m.length
 |[],l=>by simp
 |p::m,l=>by
  have h1:=zcq m (zgW l p)
  have h2:=zcW l p
  rw[List.foldl_cons,List.length_cons]
  omega
theorem za8 {base a b:List Pr} (h:zbA base=false∨zbA a=false∨zbA b=false):zca base a b=[]:=by
 unfold zca
 rw[if_neg]
 rintro⟨h0,h1,h2⟩
 rcases h with h|h|h
 ·rw[h]at h0;cases h0
 ·rw[h]at h1;cases h1
 ·rw[h]at h2;cases h2
section
variable {base a b:List Pr} (h0:zbA base=true) (h1:zbA a=true) (h2:zbA b=true)
include h0 h1 h2
theorem zc8 (x:Pr):x ∈ zca base a b↔inM base a b x:=by
 unfold zca inM
 rw[if_pos ⟨h0,h1,h2⟩,zfU,zfU]
 simp only[List.mem_filter,zoE,fromB,Bool.or_eq_true,Bool.and_eq_true,decide_eq_true_eq,List.not_mem_nil,or_false]
 constructor
 ·rintro(h|h)
  ·exact .inr h
  ·exact .inl h
 ·rintro(h|h)
  ·exact .inr h
  ·exact .inl h
theorem za3:zbA (zca base a b)=true:=by
 refine zcO.2 ⟨fun x hx=>?_,?_⟩
 ·rcases(zc8 h0 h1 h2 x).1 hx with⟨h,_⟩|⟨h,_⟩
  ·exact(zcO.1 h1).1 x h
  ·exact(zcO.1 h2).1 x h
 ·unfold zca
  rw[if_pos ⟨h0,h1,h2⟩]
  exact zgk _ _ (zgk _ _ List.Pairwise.nil)
theorem merge_is {m:List Pr} (hr:zjC m) (h:∀x,x ∈ m↔inM base a b x):m=zca base a b:=
 det hr (zcO.1 (za3 h0 h1 h2)).2 (fun x=>by rw[h,zc8 h0 h1 h2])
theorem zdn:(zca base a b).length≤a.length+b.length:=by
 unfold zca
 rw[if_pos ⟨h0,h1,h2⟩]
 have q1:=zcq (a.filter (zoE base b)) []
 have q2:=zcq (b.filter (fromB base a)) ((a.filter (zoE base b)).foldl zgW [])
 have q3:=List.length_filter_le (zoE base b) a
 have q4:=List.length_filter_le (fromB base a) b
 simp only[List.length_nil,Nat.zero_add]at q1
 omega
end
theorem add_is {l:List Pr} {p:Pr} (h:zbA l=true) (hp:zfy p=true):zgq l p=zgW l p:=if_pos ⟨h,hp⟩
theorem zmp {l:List Pr} {p:Pr} (h:zbA l=false∨zfy p=false):zgq l p=[]:=by
 unfold zgq
 rw[if_neg]
 rintro⟨h1,h2⟩
 rcases h with h|h
 ·rw[h]at h1;cases h1
 ·rw[h]at h2;cases h2
theorem zli (l:List Pr) (p:Pr):zbA (zgq l p)=true:=by
 unfold zgq
 split
 ·rename_i h
  exact zgb h.1 h.2
 ·rfl
theorem del_may (l:List Pr) (k e:ByteArray):zbA (zki l k e)=true:=by
 unfold zki
 split
 ·rename_i h
  obtain⟨h1,h2⟩:=zcO.1 h
  exact zcO.2 ⟨fun x hx=>h1 x (List.mem_filter.1 hx).1,h2.filter _⟩
 ·rfl
theorem zmZ (l:List Pr) (k e:ByteArray):(zki l k e).length≤l.length:=by
 unfold zki
 split
 ·exact List.length_filter_le _ _
 ·simp
theorem ziI (l:List Pr) (p:Pr):(zgq l p).length≤l.length+1:=by
 unfold zgq
 split
 ·exact zcW l p
 ·simp
theorem zph {l:List Pr} {p:Pr} (h:zbA l=true) (hp:zfy p=true) (x:Pr):x ∈ zgq l p↔x=p∨x ∈ l:=by rw[add_is h hp,put_mem]
theorem ris {l:List Pr} (h:zbA l=true):zjC l:=(zcO.1 h).2
end Go.Proofs.YtgmdhaepiclkcaaGreatDoor.PairM
namespace Go.Proofs.YtgmdhaepiclkcaaGreatDoor.PairN
set_option maxRecDepth 100000
open Go Byt OpsM Rise PairM
theorem zbU (l:List Pr) (k:Nat) (h:k<l.length):(l.take (k+1)).all zfy=((l.take k).all zfy&&zfy l[k]):=by
 rw[List.take_succ_eq_append_getElem h,List.all_append]
 simp
theorem zeC {l:List Pr} (h:0<l.length):zbA (l.take 1)=zfy l[0]:=by
 unfold zbA
 rw[zbU l 0 h]
 have e:zaN id zba (l.take 1)=true:=by
  rw[List.take_succ_eq_append_getElem h]
  rfl
 rw[e]
 simp
theorem zfG {l:List Pr} {k:Nat} (h:k+1<l.length) (hm:zbA (l.take (k+1))=true):zbA (l.take (k+2))=(zfy l[k+1]&&zba (l[k]'(by omega)) l[k+1]):=by
 unfold zbA at hm ⊢
 rw[Bool.and_eq_true]at hm
 rw[zbU l (k+1) h,zfg h,hm.1,hm.2]
 simp
theorem zhM {l:List Pr} {k:Nat} (h:k<l.length) (hn:zfy l[k]=false):zbA l=false:=by
 unfold zbA
 rw[show l.all zfy=false from List.all_eq_false.2 ⟨l[k],List.getElem_mem h,by rw[hn];simp⟩]
 rfl
theorem zfH {l:List Pr} {k:Nat} (h:k+1<l.length) (hn:zba (l[k]'(by omega)) l[k+1]=false):zbA l=false:=by
 unfold zbA
 rw[zga h hn,Bool.and_false]
end Go.Proofs.YtgmdhaepiclkcaaGreatDoor.PairN
namespace Go.Proofs.YtgmdhaepiclkcaaGreatDoor.StM
set_option maxRecDepth 100000
open Go Byt OpsM Rise
structure St where
 c:List CtrM.Cn
 r:List RegM.Rg
 p:List PairM.Pr
theorem St_ext {x y:St} (h1:x.c=y.c) (h2:x.r=y.r) (h3:x.p=y.p):x=y:=by
 cases x;cases y
 simp_all
def noS:St:=⟨[],[],[]⟩
def zcI (s:St):Bool:=CtrM.zbe s.c&&(RegM.zbd s.r&&PairM.zbA s.p)
theorem zaM {s:St}:zcI s=true↔CtrM.zbe s.c=true∧RegM.zbd s.r=true∧PairM.zbA s.p=true:=by
 unfold zcI
 rw[Bool.and_eq_true,Bool.and_eq_true]
def zpo (o:Opn) (n q g:Int):RegM.Rg:=⟨o.key,o.elem,g,n,q⟩
def zik (o:Opn) (n q:Int):PairM.Pr:=⟨o.key,o.elem,n,q⟩
def stepS (s:St) (o:Opn) (n q g:Int):St:=
 if o.kind=0 then⟨CtrM.zf3 s.c o.key o.n,s.r,s.p⟩else if o.kind=1 then⟨s.c,RegL.zen s.r (zpo o n q g),s.p⟩else if o.kind=2 then⟨s.c,s.r,PairM.zgq s.p (zik o n q)⟩else⟨s.c,s.r,PairM.zki s.p o.key o.elem⟩
def okD (s:St) (o:Opn) (n q g:Int):Bool:=zcI s&&(zda o&&(zbs n q&&decide (1≤g)))
theorem zc6 {s:St} {o:Opn} {n q g:Int}:okD s o n q g=true↔zcI s=true∧zda o=true∧zbs n q=true∧1≤g:=by
 unfold okD
 simp only[Bool.and_eq_true,decide_eq_true_eq]
def doS (s:St) (o:Opn) (n q g:Int):Option St:=if okD s o n q g=true then some (stepS s o n q g)else none
def okM (base a b:St):Bool:=zcI base&&(zcI a&&zcI b)
theorem okM_iff {base a b:St}:okM base a b=true↔zcI base=true∧zcI a=true∧zcI b=true:=by
 unfold okM
 simp only[Bool.and_eq_true]
def zcF (base a b:St):St:=⟨CtrM.zcj base.c a.c b.c,RegL.zaQ a.r b.r,PairM.zca base.p a.p b.p⟩
def zjX (base a b:St):Option St:=if okM base a b=true then some (zcF base a b)else none
theorem zdx {o:Opn} (h:zda o=true):zbQ (zan o.key)=true:=(zbE h).1
theorem ze3 {o:Opn} (h:zda o=true) (hk:o.kind=1∨o.kind=2∨o.kind=3):zbQ (zan o.elem)=true:=by
 rcases(zbE h).2 with⟨h0,_⟩|⟨_,h1⟩
 ·omega
 ·unfold zgO at h1
  rw[Bool.and_eq_true]at h1
  exact h1.1
theorem zji {o:Opn} (h:zda o=true):o.kind=0∨o.kind=1∨o.kind=2∨o.kind=3:=by
 rcases(zbE h).2 with⟨h0,_⟩|⟨h1,_⟩
 ·exact .inl h0
 ·exact .inr h1
theorem reg_may {o:Opn} {n q g:Int} (h:zda o=true) (hk:o.kind=1) (he:zbs n q=true) (hg:1≤g):RegM.zeg (zpo o n q g)=true:=by
 have h1:=zdx h
 have h2:=ze3 h (.inl hk)
 obtain⟨⟨e1,e2⟩,e3,e4⟩:=zb3.1 he
 unfold RegM.zeg zpo
 simp only[Bool.and_eq_true,decide_eq_true_eq]
 exact⟨h1,h2,by omega,by omega,by omega,by omega⟩
theorem zqe {o:Opn} {n q:Int} (h:zda o=true) (hk:o.kind=2) (he:zbs n q=true):PairM.zfy (zik o n q)=true:=by
 have h1:=zdx h
 have h2:=ze3 h (.inr (.inl hk))
 obtain⟨⟨e1,e2⟩,e3,e4⟩:=zb3.1 he
 unfold PairM.zfy zik
 simp only[Bool.and_eq_true,decide_eq_true_eq]
 exact⟨h1,h2,e1,e2,e3⟩
theorem zpO {s:St} {o:Opn} {n q g:Int} (h:okD s o n q g=true):zcI (stepS s o n q g)=true:=by
 obtain⟨h1,h2,h3,h4⟩:=zc6.1 h
 obtain⟨m1,m2,m3⟩:=zaM.1 h1
 unfold stepS
 split
 ·exact zaM.2 ⟨CtrL.zjq _ m1 (zdx h2),m2,m3⟩
 ·split
  ·exact zaM.2 ⟨m1,RegL.zgb _ _,m3⟩
  ·split
   ·exact zaM.2 ⟨m1,m2,PairM.zli _ _⟩
   ·exact zaM.2 ⟨m1,m2,PairM.del_may _ _ _⟩
section
variable {base a b c:St}
theorem join_may (h0:zcI base=true) (h1:zcI a=true) (h2:zcI b=true):zcI (zcF base a b)=true:=by
 obtain⟨p1,p2,p3⟩:=zaM.1 h0
 obtain⟨q1,q2,q3⟩:=zaM.1 h1
 obtain⟨r1,r2,r3⟩:=zaM.1 h2
 exact zaM.2 ⟨CtrL.za3 p1 q1 r1,RegL.za3 _ _,PairM.za3 p3 q3 r3⟩
end
end Go.Proofs.YtgmdhaepiclkcaaGreatDoor.StM
namespace Go.Proofs.YtgmdhaepiclkcaaGreatDoor.DgM
set_option maxRecDepth 100000
open IdM CmM
open Classical
section
variable {H:Com→Idn}
def Par (H:Com→Idn) (l:List Com) (a b:Idn):Prop:=∃c ∈ l,H c=a∧b ∈ c.ps
inductive Kn (H:Com→Idn) (l:List Com):Idn→Idn→Prop
 |one {a b:Idn}:Par H l a b→Kn H l a b
 |more {a b c:Idn}:Par H l a b→Kn H l b c→Kn H l a c
theorem Kn.trans {l:List Com} {a b c:Idn} (h:Kn H l a b) (k:Kn H l b c):Kn H l a c:=by
 induction h with
 |one h=>exact .more h k
 |more h _ ih=>exact .more h (ih k)
def look (H:Com→Idn) (l:List Com) (a:Idn):Option Com:=l.find? fun c=>decide (H c=a)
def gAt (H:Com→Idn) (l:List Com) (a:Idn):Int:=((look H l a).map (·.gen)).getD 0
def most (l:List Int):Int:=l.foldl max 0
theorem foldl_max (l:List Int):∀m:Int,m≤l.foldl max m∧(∀x ∈ l,x≤l.foldl max m)∧(l.foldl max m=m∨l.foldl max m ∈ l):=by
 induction l with
 |nil=>intro m;simp
 |cons y l ih=>
  intro m
  obtain⟨h1,h2,h3⟩:=ih (max m y)
  refine⟨by simp only[List.foldl_cons];omega,fun x hx=>?_,?_⟩
  ·rcases List.mem_cons.1 hx with rfl|hx
   ·simp only[List.foldl_cons];omega
   ·exact h2 x hx
  ·simp only[List.foldl_cons]
   rcases h3 with h3|h3
   ·rw[h3]
    by_cases h:m≤y
    ·right;rw[Int.max_eq_right h];simp
    ·left;rw[Int.max_eq_left (by omega)]
   ·right;exact List.mem_cons_of_mem _ h3
theorem zeG {l:List Int} {x:Int} (h:x ∈ l):x≤most l:=(foldl_max l 0).2.1 x h
structure Closed (H:Com→Idn) (l:List Com):Prop where
 may:∀c ∈ l,zbn c=true
 merge:∀c ∈ l,isM c=false
 nodup:(l.map H).Nodup
 found:∀c ∈ l,∀a ∈ c.ps,a ∈ l.map H
 gen:∀c ∈ l,c.gen=1+most (c.ps.map (gAt H l))
 apart:∀c ∈ l,∀a ∈ c.ps,∀b ∈ c.ps,¬Kn H l a b
 node:∀c ∈ l,∀d ∈ l,c≠d→c.node=d.node→c.seq≠d.seq∧(d.seq<c.seq→Kn H l (H c) (H d))
theorem ziF:Closed H []:=⟨by simp,by simp,by simp,by simp,by simp,by simp,by simp⟩
theorem zhu {l:List Com} (h:(l.map H).Nodup) {c d:Com} (hc:c ∈ l) (hd:d ∈ l) (e:H c=H d):c=d:=by
 induction l with
 |nil=>simp at hc
 |cons x l ih=>
  rw[List.map_cons,List.nodup_cons]at h
  rcases List.mem_cons.1 hc with h1|h1 <;> rcases List.mem_cons.1 hd with h2|h2
  ·rw[h1,h2]
  ·subst h1
   exact absurd (by rw[e];exact List.mem_map_of_mem h2) h.1
  ·subst h2
   exact absurd (by rw[←e];exact List.mem_map_of_mem h1) h.1
  ·exact ih h.2 h1 h2
theorem zhN {l:List Com} (h:(l.map H).Nodup) {c:Com} (hc:c ∈ l):look H l (H c)=some c:=by
 unfold look
 cases hf:l.find? (fun d=>decide (H d=H c))with
 |none=>
  have:=List.find?_eq_none.1 hf c hc
  simp at this
 |some d=>
  have h1:=List.mem_of_find?_eq_some hf
  have h2:=List.find?_some hf
  rw[zhu h h1 hc (of_decide_eq_true h2)]
theorem zfT {l:List Com} (h:(l.map H).Nodup) {c:Com} (hc:c ∈ l):gAt H l (H c)=c.gen:=by
 unfold gAt
 rw[zhN h hc]
 rfl
theorem kn_src {l:List Com} {a b:Idn} (h:Kn H l a b):a ∈ l.map H:=by
 cases h with
 |one h=>obtain⟨c,hc,rfl,_⟩:=h;exact List.mem_map_of_mem hc
 |more h _=>obtain⟨c,hc,rfl,_⟩:=h;exact List.mem_map_of_mem hc
theorem zi3 {l:List Com} (C:Closed H l) {a b:Idn} (h:Par H l a b):gAt H l b<gAt H l a:=by
 obtain⟨c,hc,rfl,hb⟩:=h
 rw[zfT C.nodup hc,C.gen c hc]
 have:=zeG (List.mem_map_of_mem (f:=gAt H l) hb)
 omega
theorem kn_gen {l:List Com} (C:Closed H l) {a b:Idn} (h:Kn H l a b):gAt H l b<gAt H l a:=by
 induction h with
 |one h=>exact zi3 C h
 |more h _ ih=>have:=zi3 C h;omega
theorem zog {l:List Com} (C:Closed H l) {a:Idn}:¬Kn H l a a:=fun h=>by
 have:=kn_gen C h
 omega
noncomputable def part (H:Com→Idn) (l:List Com) (p:Idn→Prop):List Com:=l.filter fun c=>decide (p (H c))
theorem zbz {l:List Com} {p:Idn→Prop} {c:Com}:c ∈ part H l p↔c ∈ l∧p (H c):=by simp[part]
def Down (H:Com→Idn) (l:List Com) (p:Idn→Prop):Prop:=∀c ∈ l,p (H c)→∀a ∈ c.ps,p a
theorem zlG {l:List Com} {p:Idn→Prop} {a b:Idn} (h:Par H (part H l p) a b):Par H l a b:=by
 obtain⟨c,hc,e,hb⟩:=h
 exact⟨c,(zbz.1 hc).1,e,hb⟩
theorem kn_part {l:List Com} {p:Idn→Prop} {a b:Idn} (h:Kn H (part H l p) a b):Kn H l a b:=by
 induction h with
 |one h=>exact .one (zlG h)
 |more h _ ih=>exact .more (zlG h) ih
theorem kn_in {l:List Com} {p:Idn→Prop} (hd:Down H l p) {a b:Idn} (h:Kn H l a b) (ha:p a):Kn H (part H l p) a b∧p b:=by
 induction h with
 |one h=>
  obtain⟨c,hc,rfl,hb⟩:=h
  exact⟨.one ⟨c,zbz.2 ⟨hc,ha⟩,rfl,hb⟩,hd c hc ha _ hb⟩
 |more h _ ih=>
  obtain⟨c,hc,rfl,hb⟩:=h
  obtain⟨h1,h2⟩:=ih (hd c hc ha _ hb)
  exact⟨.more ⟨c,zbz.2 ⟨hc,ha⟩,rfl,hb⟩ h1,h2⟩
theorem mem_map {l:List Com} {p:Idn→Prop} {a:Idn}:a ∈ (part H l p).map H↔a ∈ l.map H∧p a:=by
 rw[List.mem_map,List.mem_map]
 constructor
 ·rintro⟨c,hc,rfl⟩
  obtain⟨h1,h2⟩:=zbz.1 hc
  exact⟨⟨c,h1,rfl⟩,h2⟩
 ·rintro⟨⟨c,hc,rfl⟩,h⟩
  exact⟨c,zbz.2 ⟨hc,h⟩,rfl⟩
theorem zge {l:List Com} (C:Closed H l) (p:Idn→Prop):((part H l p).map H).Nodup:=C.nodup.sublist (List.filter_sublist.map H)
theorem gAt_part {l:List Com} (C:Closed H l) {p:Idn→Prop} {a:Idn} (ha:a ∈ l.map H) (hp:p a):gAt H (part H l p) a=gAt H l a:=by
 obtain⟨c,hc,rfl⟩:=List.mem_map.1 ha
 have hn:=zge C p
 rw[zfT hn (zbz.2 ⟨hc,hp⟩),zfT C.nodup hc]
theorem zh4 {l:List Com} (C:Closed H l) {p:Idn→Prop} (hd:Down H l p):Closed H (part H l p):=by
 have hn:=zge C p
 refine⟨fun c hc=>C.may c (zbz.1 hc).1,fun c hc=>C.merge c (zbz.1 hc).1,hn,fun c hc a ha=>?_,fun c hc=>?_,fun c hc a ha b hb h=>?_,fun c hc d hd' hne zdh=>?_⟩
 ·obtain⟨h1,h2⟩:=zbz.1 hc
  exact mem_map.2 ⟨C.found c h1 a ha,hd c h1 h2 a ha⟩
 ·obtain⟨h1,h2⟩:=zbz.1 hc
  rw[C.gen c h1]
  congr 2
  exact List.map_congr_left fun a ha=>(gAt_part C (C.found c h1 a ha) (hd c h1 h2 a ha)).symm
 ·exact C.apart c (zbz.1 hc).1 a ha b hb (kn_part h)
 ·obtain⟨h1,h2⟩:=zbz.1 hc
  obtain⟨h3,_⟩:=zbz.1 hd'
  obtain⟨k1,k2⟩:=C.node c h1 d h3 hne zdh
  exact⟨k1,fun hs=>(kn_in hd (k2 hs) h2).1⟩
def Below (H:Com→Idn) (l:List Com) (a:List Idn) (x:Idn):Prop:=x ∈ l.map H∧(x ∈ a∨∃y ∈ a,Kn H l y x)
theorem zm8 {l:List Com} (C:Closed H l) (a:List Idn):Down H l (Below H l a):=by
 rintro c hc ⟨_,h⟩ b hb
 have hp:Par H l (H c) b:=⟨c,hc,rfl,hb⟩
 refine⟨C.found c hc b hb,.inr ?_⟩
 rcases h with h|⟨y,hy,h⟩
 ·exact⟨H c,h,.one hp⟩
 ·exact⟨y,hy,h.trans (.one hp)⟩
noncomputable def anc (H:Com→Idn) (l:List Com) (a:List Idn):List Idn:=sort ((l.map H).filter fun x=>decide (Below H l a x))
theorem zkT {l:List Com} {a:List Idn} {x:Idn}:x ∈ anc H l a↔Below H l a x:=by
 unfold anc
 rw[zfF,List.mem_filter,decide_eq_true_eq]
 exact⟨fun h=>h.2,fun h=>⟨h.1,h⟩⟩
theorem zmB (l:List Com) (a:List Idn):zb4 (anc H l a):=zc4 _
theorem anc_in {l:List Com} {a:List Idn}:∀x ∈ anc H l a,x ∈ l.map H:=fun _ h=>(zkT.1 h).1
theorem zqc {l:List Com} (C:Closed H l) (a:List Idn):(part H l (· ∈ anc H l a)).length=(anc H l a).length:=by
 have h1:=zge C (· ∈ anc H l a)
 have h2:=perm_of h1 (zgv (zmB (H:=H) l a)) fun x=>by
  rw[mem_map]
  exact⟨fun h=>h.2,fun h=>⟨anc_in x h,h⟩⟩
 have:=h2.length_eq
 rwa[List.length_map]at this
theorem zm1 {l:List Com} (C:Closed H l) (a:List Idn):Closed H (part H l (· ∈ anc H l a)):=zh4 C fun c hc h b hb=>by
 have h:H c ∈ anc H l a:=h
 show b ∈ anc H l a
 rw[zkT]at h ⊢
 exact zm8 C a c hc h b hb
theorem zhR {l m:List Com} (h:∀c,c ∈ l↔c ∈ m) {a b:Idn} (k:Kn H l a b):Kn H m a b:=by
 induction k with
 |one k=>obtain⟨c,hc,e,hb⟩:=k;exact .one ⟨c,(h c).1 hc,e,hb⟩
 |more k _ ih=>obtain⟨c,hc,e,hb⟩:=k;exact .more ⟨c,(h c).1 hc,e,hb⟩ ih
theorem zfm {l m:List Com} (C:Closed H l) (h:l.Perm m):Closed H m:=by
 have hm:∀c,c ∈ l↔c ∈ m:=fun c=>h.mem_iff
 have hm':∀c,c ∈ m↔c ∈ l:=fun c=>(hm c).symm
 have hn:(m.map H).Nodup:=(h.map H).nodup_iff.1 C.nodup
 have hg:∀a ∈ l.map H,gAt H m a=gAt H l a:=fun a ha=>by
  obtain⟨c,hc,rfl⟩:=List.mem_map.1 ha
  rw[zfT hn ((hm c).1 hc),zfT C.nodup hc]
 refine⟨fun c hc=>C.may c ((hm c).2 hc),fun c hc=>C.merge c ((hm c).2 hc),hn,fun c hc a ha=>?_,fun c hc=>?_,fun c hc a ha b hb k=>C.apart c ((hm c).2 hc) a ha b hb (zhR hm' k),fun c hc d hd hne zdh=>?_⟩
 ·exact(h.map H).mem_iff.1 (C.found c ((hm c).2 hc) a ha)
 ·rw[C.gen c ((hm c).2 hc)]
  congr 2
  exact List.map_congr_left fun a ha=>(hg a (C.found c ((hm c).2 hc) a ha)).symm
 ·obtain⟨h1,h2⟩:=C.node c ((hm c).2 hc) d ((hm d).2 hd) hne zdh
  exact⟨h1,fun hs=>zhR hm (h2 hs)⟩
def Ahead (H:Com→Idn) (c d:Com):Prop:=c.gen<d.gen∨c.gen=d.gen∧less (H c) (H d)=true
def zch (H:Com→Idn) (l:List Com):Prop:=l.Pairwise (Ahead H)
theorem zlg {c d:Com} (h:Ahead H c d) (k:Ahead H d c):False:=by
 rcases h with h|⟨h,h'⟩ <;> rcases k with k|⟨k,k'⟩
 ·omega
 ·omega
 ·omega
 ·rw[zix h']at k';cases k'
theorem zqb {t d:List Com} (hn:((t++d).map H).Nodup):part H (t++d) (· ∈ t.map H)=t:=by
 rw[List.map_append,List.nodup_append]at hn
 unfold part
 rw[List.filter_append,List.filter_eq_self.2,List.filter_eq_nil_iff.2,List.append_nil]
 ·intro c hc h
  simp only[decide_eq_true_eq]at h
  exact hn.2.2 _ h _ (List.mem_map_of_mem hc) rfl
 ·intro c hc
  simp only[decide_eq_true_eq]
  exact List.mem_map_of_mem hc
theorem zbX {l:List Com} (C:Closed H l) (ho:zch H l) (i:Nat):Closed H (l.take i):=by
 have hp:l.take i=part H l (· ∈ (l.take i).map H):=by
  have hn:=C.nodup
  have:=zqb (H:=H) (t:=l.take i) (d:=l.drop i) (by rw[List.take_append_drop];exact hn)
  rw[List.take_append_drop]at this
  exact this.symm
 rw[hp]
 refine zh4 C fun c hc h b hb=>?_
 have hcb:=zi3 C ⟨c,hc,rfl,hb⟩
 obtain⟨d,hd,e⟩:=List.mem_map.1 (C.found c hc b hb)
 rw[zfT C.nodup hc,←e,zfT C.nodup hd]at hcb
 have hc':c ∈ l.take i:=by
  obtain⟨c',h1,h2⟩:=List.mem_map.1 h
  rwa[←zhu C.nodup (List.mem_of_mem_take h1) hc h2]
 rw[←e]
 refine List.mem_map_of_mem ?_
 rw[←List.take_append_drop i l]at hd
 rcases List.mem_append.1 hd with hd|hd
 ·exact hd
 ·have ho':=ho
  unfold zch at ho'
  rw[←List.take_append_drop i l,List.pairwise_append]at ho'
  rcases ho'.2.2 c hc' d hd with h|h <;> omega
end
end Go.Proofs.YtgmdhaepiclkcaaGreatDoor.DgM
