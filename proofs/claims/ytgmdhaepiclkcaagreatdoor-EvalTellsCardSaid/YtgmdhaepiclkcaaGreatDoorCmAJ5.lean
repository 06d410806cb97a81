/- Contracts of package commit, by the names that the laws' walks call th | Plain facts on lists that rise by a key, and on the order of texts | Plain facts on counts | Plain facts on counts with more, and merged | Plain facts on registers -/
import Derived.Test.YtgmdhaepiclkcaaGreatDoorRefWJ6
import Derived.WalkKit
import Derived.Test.YtgmdhaepiclkcaaGreatDoorGrowJ9
import Derived.Test.YtgmdhaepiclkcaaGreatDoorShaDJ13
namespace Go.Proofs.YtgmdhaepiclkcaaGreatDoor.CmA
set_option maxHeartbeats 8000000
set_option maxRecDepth 100000
open Go Go.Sort Go.RowKit Byt EncM EncC EncT IdM IdW OpsM OpsW CmM StW CmW CmY
theorem zaW (v:Cv) (w:World) (S:In w v) (_hf:Fit v.c):Calls Tryz.prog 89 #[.agg (cc v)] w fun e w'=>e=.returned (.bool (isM v.c))∧Below w.heap.size w w':=CmV.zaW v w S
theorem zeY (v:Cv) (w:World) (S:In w v) (hf:Fit v.c) (hK:ShaE.KIn w):Calls Tryz.prog 29 #[.agg (cc v)] w (zfp v.c w):=CmT.zeY v w S hf hK
def o1:Opn:=⟨0,⟨#[97]⟩,⟨#[]⟩,1⟩
def c1:Com:=⟨0,1,1,[],o1⟩
def v1:Cv:=⟨none,0,c1⟩
theorem text1 (x:Int):zbB [x]=[1,x]:=by
 unfold zbB
 rw[show([x]:List Int).length=1 from rfl,za7 (by omega)]
 rfl
theorem zpQ (w:World):Calls Tryz.prog 28 #[] w fun e w'=>e=.returned (.agg (cc v1))∧Below w.heap.size w w':=by
 go_enter Tryz.func28,Tryz.ntmps28
 go_wp2_with (first|go_skip|(refine Cel.zac CE rfl _ _ rfl w _ _ rfl v1 _ rfl rfl rfl rfl ?_;intro w2 B2 k2 g2 s2))
 exact bodyPost_ret (v:=.agg (cc v1)) (CmF.zjN Tryz.results28 _ _ w.heap.size v1 rfl B2) rfl ⟨rfl,k2⟩
theorem zbt {a:Act} {o:Oper} {K:Act→Prop} {w:World} (x:Operand) (ho:o.op=.load 56 x)
  (b off:Nat) (hx:a.eval x=.pointer (some ⟨b,off,none⟩)) (y:Idn) (hc:w.rangeAt b off (bv y.1)) (hk:K (a.put o.dst (.agg (cs y)))):o.quiet Tryz.prog a (fun w'=>∃p:Regrown,w'=grow (redrawn w p.d) p.os) K:=by
 refine⟨.agg (cs y),fun u hu=>?_,hk⟩
 obtain⟨p,rfl⟩:=hu
 have q:=IdW.zlT (IdW.zab hc (below_regrown w p.d p.os))
 unfold Oper.quietAt execOp
 simp only[ho,hx,Sem.run_bind,q,Result.andThen_ok,Sem.run_pure]
 exact⟨rfl,rfl⟩
end Go.Proofs.YtgmdhaepiclkcaaGreatDoor.CmA
namespace Go.Proofs.YtgmdhaepiclkcaaGreatDoor.Rise
set_option maxRecDepth 100000
open Go
structure zei {κ:Type} (lt:κ→κ→Bool):Prop where
 irrefl:∀a,lt a a=false
 trans:∀a b c,lt a b=true→lt b c=true→lt a c=true
 tri:∀a b,lt a b=false→lt b a=false→a=b
theorem zei.asymm {κ:Type} {lt:κ→κ→Bool} (H:zei lt) {a b:κ} (h:lt a b=true):lt b a=false:=by
 cases hb:lt b a with
 |false=>rfl
 |true=>
  have:=H.trans a b a h hb
  rw[H.irrefl]at this
  cases this
theorem zei.ne {κ:Type} {lt:κ→κ→Bool} (H:zei lt) {a b:κ} (h:lt a b=true):a≠b:=by
 rintro rfl
 rw[H.irrefl]at h
 cases h
theorem zbm:∀l:List UInt8,Op.bytesLess l l=false
 |[]=>rfl
 |a::l=>by simp[Op.bytesLess,zbm l]
theorem zbg:∀a b c:List UInt8,Op.bytesLess a b=true→Op.bytesLess b c=true→Op.bytesLess a c=true
 |_,[],c,h,_=>by cases ‹List UInt8› <;> simp[Op.bytesLess]at h
 |_,_::_,[],_,h=>by simp[Op.bytesLess]at h
 |[],_::_,_::_,_,_=>rfl
 |x::a,y::b,z::c,h,h2=>by
  simp only[Op.bytesLess,Bool.or_eq_true,Bool.and_eq_true,decide_eq_true_eq,beq_iff_eq]at h h2 ⊢
  rcases h with h|⟨rfl,h⟩
  ·rcases h2 with h2|⟨rfl,_⟩
   ·exact .inl (UInt8.lt_trans h h2)
   ·exact .inl h
  ·rcases h2 with h2|⟨rfl,h2⟩
   ·exact .inl h2
   ·exact .inr ⟨rfl,zbg a b c h h2⟩
theorem zlW:∀a b:List UInt8,Op.bytesLess a b=false→Op.bytesLess b a=false→a=b
 |[],[],_,_=>rfl
 |[],_::_,h,_=>by simp[Op.bytesLess]at h
 |_::_,[],_,h=>by simp[Op.bytesLess]at h
 |x::a,y::b,h,h2=>by
  simp only[Op.bytesLess,Bool.or_eq_false_iff,Bool.and_eq_false_iff,decide_eq_false_iff_not,beq_eq_false_iff_ne]at h h2
  obtain⟨h1,h3⟩:=h
  obtain⟨h4,h5⟩:=h2
  have e:x=y:=by
   rw[UInt8.lt_iff_toNat_lt]at h1 h4
   apply UInt8.toNat_inj.1
   omega
  subst e
  simp only[ne_eq,not_true_eq_false,false_or]at h3 h5
  rw[zlW a b h3 h5]
def ltS (a b:ByteArray):Bool:=Op.bytesLess a.toList b.toList
theorem toList_inj {a b:ByteArray} (h:a.toList=b.toList):a=b:=by
 rw[ByteArray.toList_eq,ByteArray.toList_eq]at h
 cases a;cases b
 congr 1
 exact Array.ext' h
theorem zaA:zei ltS:=
 ⟨fun _=>zbm _,fun _ _ _=>zbg _ _ _,fun _ _ h1 h2=>toList_inj (zlW _ _ h1 h2)⟩
section
variable {α κ:Type} (f:α→κ) (lt:κ→κ→Bool)
def Rises (l:List α):Prop:=l.Pairwise fun x y=>lt (f x) (f y)=true
def zaN:List α→Bool
 |[]=>true
 |[_]=>true
 |x::y::r=>lt (f x) (f y)&&zaN (y::r)
variable {f lt}
theorem zeR (H:zei lt):∀l:List α,zaN f lt l=true↔Rises f lt l
 |[]=>by simp[zaN,Rises]
 |[x]=>by simp[zaN,Rises]
 |x::y::r=>by
  have ih:=zeR H (y::r)
  simp only[zaN,Bool.and_eq_true,ih]
  unfold Rises
  constructor
  ·rintro⟨h1,h2⟩
   refine List.pairwise_cons.2 ⟨fun z hz=>?_,h2⟩
   rcases List.mem_cons.1 hz with rfl|hz
   ·exact h1
   ·exact H.trans _ _ _ h1 ((List.pairwise_cons.1 h2).1 z hz)
  ·intro h
   obtain⟨h1,h2⟩:=List.pairwise_cons.1 h
   exact⟨h1 y (by simp),h2⟩
theorem zhw:∀(l:List α) (x:α),zaN f lt (l++[x])=(zaN f lt l&&(match l.getLast? with|none=>true|some y=>lt (f y) (f x)))
 |[],x=>by simp[zaN]
 |[y],x=>by simp[zaN]
 |y::z::r,x=>by
  have ih:=zhw (z::r) x
  simp only[List.cons_append]at ih ⊢
  simp only[zaN,ih,List.getLast?_cons_cons,Bool.and_assoc]
theorem zfg {l:List α} {k:Nat} (h:k+1<l.length):zaN f lt (l.take (k+2))=(zaN f lt (l.take (k+1))&&lt (f (l[k]'(by omega))) (f l[k+1])):=by
 rw[List.take_succ_eq_append_getElem (by omega),zhw]
 have e:(l.take (k+1)).getLast? =some (l[k]'(by omega)):=by
  rw[List.take_succ_eq_append_getElem (by omega),List.getLast?_append]
  rfl
 rw[e]
theorem zga {l:List α} {k:Nat} (h:k+1<l.length) (hn:lt (f (l[k]'(by omega))) (f l[k+1])=false):zaN f lt l=false:=by
 induction l generalizing k with
 |nil=>simp at h
 |cons x r ih=>
  cases r with
  |nil=>simp at h
  |cons y r=>
   cases k with
   |zero=>
    simp only[List.getElem_cons_zero,List.getElem_cons_succ]at hn
    simp[zaN,hn]
   |succ k=>
    simp only[List.getElem_cons_succ]at hn
    have:=ih (k:=k) (by simpa using h) (by simpa using hn)
    simp[zaN,this]
theorem Rises.ext (H:zei lt):∀{l m:List α},Rises f lt l→Rises f lt m→(∀x,x ∈ l↔x ∈ m)→l=m
 |[],[],_,_,_=>rfl
 |[],y::m,_,_,h=>by have:=(h y).2 (by simp);simp at this
 |x::l,[],_,_,h=>by have:=(h x).1 (by simp);simp at this
 |x::l,y::m,hl,hm,h=>by
  obtain⟨l1,l2⟩:=List.pairwise_cons.1 hl
  obtain⟨m1,m2⟩:=List.pairwise_cons.1 hm
  have e:x=y:=by
   rcases List.mem_cons.1 ((h x).1 (by simp))with hx|hx
   ·exact hx
   ·rcases List.mem_cons.1 ((h y).2 (by simp))with hy|hy
    ·exact hy.symm
    ·have a1:=m1 x hx
     have a2:=l1 y hy
     rw[H.asymm a1]at a2
     cases a2
  subst e
  have:l=m:=Rises.ext H l2 m2 (fun z=>by
   constructor
   ·intro hz
    rcases List.mem_cons.1 ((h z).1 (by simp[hz]))with rfl|hz'
    ·have:=l1 z hz
     rw[H.irrefl]at this
     cases this
    ·exact hz'
   ·intro hz
    rcases List.mem_cons.1 ((h z).2 (by simp[hz]))with rfl|hz'
    ·have:=m1 z hz
     rw[H.irrefl]at this
     cases this
    ·exact hz')
  rw[this]
theorem Rises.filter {l:List α} (h:Rises f lt l) (p:α→Bool):Rises f lt (l.filter p):=List.Pairwise.filter p h
theorem Rises.one (H:zei lt) {l:List α} (h:Rises f lt l) {x y:α} (hx:x ∈ l) (hy:y ∈ l) (e:f x=f y):x=y:=by
 induction l with
 |nil=>simp at hx
 |cons z l ih=>
  obtain⟨h1,h2⟩:=List.pairwise_cons.1 h
  rcases List.mem_cons.1 hx with rfl|hx'
  ·rcases List.mem_cons.1 hy with rfl|hy'
   ·rfl
   ·have:=h1 y hy'
    rw[e,H.irrefl]at this
    cases this
  ·rcases List.mem_cons.1 hy with rfl|hy'
   ·have:=h1 x hx'
    rw[e,H.irrefl]at this
    cases this
   ·exact ih h2 hx' hy'
end
end Go.Proofs.YtgmdhaepiclkcaaGreatDoor.Rise
namespace Go.Proofs.YtgmdhaepiclkcaaGreatDoor.CtrM
set_option maxRecDepth 100000
open Go Byt OpsM Rise
structure Cn where
 key:ByteArray
 n:Int
def okC (c:Cn):Bool:=zbQ (zan c.key)&&decide (c.n≠0)
def risC (l:List Cn):Bool:=zaN Cn.key ltS l
def zbe (l:List Cn):Bool:=l.all okC&&risC l
def zbC:List Cn→ByteArray→Int
 |[],_=>0
 |c::r,k=>if c.key=k then c.n else zbC r k
theorem zfS (c:Cn) (r:List Cn) (k:ByteArray):zbC (c::r) k=if c.key=k then c.n else zbC r k:=rfl
theorem zbo {l:List Cn}:zbe l=true↔(∀c ∈ l,okC c=true)∧Rises Cn.key ltS l:=by
 unfold zbe risC
 rw[Bool.and_eq_true,List.all_eq_true,zeR zaA]
theorem zkP {c:Cn}:okC c=true↔zbQ (zan c.key)=true∧c.n≠0:=by
 unfold okC
 rw[Bool.and_eq_true,decide_eq_true_eq]
theorem zdc:∀{l:List Cn} {k:ByteArray},(∀c ∈ l,c.key≠k)→zbC l k=0
 |[],_,_=>rfl
 |c::r,k,h=>by
  unfold zbC
  rw[if_neg (h c (by simp)),zdc (fun d hd=>h d (by simp[hd]))]
theorem zfR:∀{l:List Cn} (_:Rises Cn.key ltS l) {c:Cn} (_:c ∈ l),zbC l c.key=c.n
 |[],_,c,h=>by simp at h
 |d::r,hr,c,h=>by
  unfold zbC
  obtain⟨h1,h2⟩:=List.pairwise_cons.1 hr
  rcases List.mem_cons.1 h with rfl|hc
  ·rw[if_pos rfl]
  ·rw[if_neg (zaA.ne (h1 c hc)),zfR h2 hc]
theorem zh0:∀{l:List Cn} {k:ByteArray},zbC l k≠0→∃c ∈ l,c.key=k∧c.n=zbC l k
 |[],_,h=>absurd rfl h
 |c::r,k,h=>by
  unfold zbC at h ⊢
  by_cases hk:c.key=k
  ·rw[if_pos hk]
   exact⟨c,by simp,hk,rfl⟩
  ·rw[if_neg hk]at h ⊢
   obtain⟨d,hd,e⟩:=zh0 h
   exact⟨d,by simp[hd],e⟩
theorem mem_iff {l:List Cn} (h:zbe l=true) (c:Cn):c ∈ l↔zbC l c.key=c.n∧c.n≠0:=by
 obtain⟨h1,h2⟩:=zbo.1 h
 constructor
 ·intro hc
  exact⟨zfR h2 hc,(zkP.1 (h1 c hc)).2⟩
 ·rintro⟨e,hn⟩
  obtain⟨d,hd,e1,e2⟩:=zh0 (l:=l) (k:=c.key) (by rw[e];exact hn)
  have:d=c:=by
   cases d;cases c
   simp only at e1 e2 e
   rw[e]at e2
   rw[e1,e2]
  rw[←this]
  exact hd
theorem det {l m:List Cn} (hl:zbe l=true) (hm:zbe m=true) (h:∀k,zbC l k=zbC m k):l=m:=by
 refine Rises.ext zaA (zbo.1 hl).2 (zbo.1 hm).2 (fun c=>?_)
 rw[mem_iff hl,mem_iff hm,h]
theorem zbU (l:List Cn) (k:Nat) (h:k<l.length):(l.take (k+1)).all okC=((l.take k).all okC&&okC l[k]):=by
 rw[List.take_succ_eq_append_getElem h,List.all_append]
 simp
theorem ziw {l:List Cn} (h:0<l.length):zbe (l.take 1)=okC l[0]:=by
 unfold zbe
 rw[zbU l 0 h]
 have e:risC (l.take 1)=true:=by
  rw[List.take_succ_eq_append_getElem h]
  rfl
 rw[e]
 simp
theorem zjZ {l:List Cn} {k:Nat} (h:k+1<l.length) (hm:zbe (l.take (k+1))=true):zbe (l.take (k+2))=(okC l[k+1]&&ltS (l[k]'(by omega)).key l[k+1].key):=by
 unfold zbe risC at hm ⊢
 rw[Bool.and_eq_true]at hm
 rw[zbU l (k+1) h,zfg h,hm.1,hm.2]
 simp
theorem zn6 {l:List Cn} {k:Nat} (h:k<l.length) (hn:okC l[k]=false):zbe l=false:=by
 unfold zbe
 rw[show l.all okC=false from List.all_eq_false.2 ⟨l[k],List.getElem_mem h,by rw[hn];simp⟩]
 rfl
theorem zj0 {l:List Cn} {k:Nat} (h:k+1<l.length) (hn:ltS (l[k]'(by omega)).key l[k+1].key=false):zbe l=false:=by
 unfold zbe risC
 rw[zga h hn,Bool.and_false]
def one (k:ByteArray) (n:Int):List Cn:=if n≠0 then[⟨k,n⟩]else[]
def zef (k:ByteArray) (n:Int):Bool→List Cn→List Cn
 |done,[]=>if done=true then[]else one k n
 |done,c::r=>(if done=false∧ltS c.key k=false then one k n else[])++(if c.key=k then[]else[c])++zef k n (done|| !ltS c.key k) r
theorem zfv (k:ByteArray) (n:Int):∀l:List Cn,zef k n true l=l.filter fun c=>decide (c.key≠k)
 |[]=>rfl
 |c::r=>by
  rw[zef,if_neg (by simp),Bool.true_or,zfv k n r,List.filter_cons]
  by_cases h:c.key=k <;> simp[h]
theorem zkN {k:ByteArray} {n:Int} {c:Cn}:c ∈ one k n↔c=⟨k,n⟩∧n≠0:=by
 unfold one
 split
 ·rename_i h;simp[h]
 ·rename_i h;simp at h;simp[h]
theorem zdl (k:ByteArray) (n:Int):∀(l:List Cn) (c:Cn),c ∈ zef k n false l↔(c=⟨k,n⟩∧n≠0)∨(c ∈ l∧c.key≠k)
 |[],c=>by
  rw[zef,if_neg (by simp),zkN]
  simp
 |d::r,c=>by
  rw[zef]
  cases hd:ltS d.key k with
  |true=>
   have hne:=zaA.ne hd
   rw[if_neg (by simp),if_neg hne]
   simp only[Bool.not_true,Bool.or_false,List.nil_append,List.mem_append,zdl k n r c,List.mem_cons,List.not_mem_nil,or_false]
   constructor
   ·rintro(rfl|h|⟨h1,h2⟩)
    ·exact .inr ⟨.inl rfl,hne⟩
    ·exact .inl h
    ·exact .inr ⟨.inr h1,h2⟩
   ·rintro(h|⟨rfl|h1,h2⟩)
    ·exact .inr (.inl h)
    ·exact .inl rfl
    ·exact .inr (.inr ⟨h1,h2⟩)
  |false=>
   rw[if_pos (by simp)]
   simp only[Bool.not_false,Bool.or_true,zfv,List.mem_append,zkN,List.mem_filter,decide_eq_true_eq,List.mem_cons]
   by_cases h:d.key=k
   ·rw[if_pos h]
    simp only[List.not_mem_nil,or_false]
    constructor
    ·rintro(h1|⟨h1,h2⟩)
     ·exact .inl h1
     ·exact .inr ⟨.inr h1,h2⟩
    ·rintro(h1|⟨rfl|h1,h2⟩)
     ·exact .inl h1
     ·exact absurd h h2
     ·exact .inr ⟨h1,h2⟩
   ·rw[if_neg h]
    simp only[List.mem_singleton]
    constructor
    ·rintro((h1|rfl)|⟨h1,h2⟩)
     ·exact .inl h1
     ·exact .inr ⟨.inl rfl,h⟩
     ·exact .inr ⟨.inr h1,h2⟩
    ·rintro(h1|⟨rfl|h1,h2⟩)
     ·exact .inl (.inl h1)
     ·exact .inl (.inr rfl)
     ·exact .inr ⟨h1,h2⟩
theorem zgc (k:ByteArray) (n:Int):∀{l:List Cn},Rises Cn.key ltS l→Rises Cn.key ltS (zef k n false l)
 |[],_=>by
  rw[zef,if_neg (by simp)]
  unfold one
  split <;> simp[Rises]
 |d::r,h=>by
  obtain⟨h1,h2⟩:=List.pairwise_cons.1 h
  rw[zef]
  cases hd:ltS d.key k with
  |true=>
   rw[if_neg (by simp),if_neg (zaA.ne hd)]
   simp only[Bool.not_true,Bool.or_false,List.nil_append,List.singleton_append]
   refine List.pairwise_cons.2 ⟨fun c hc=>?_,zgc k n h2⟩
   rcases(zdl k n r c).1 hc with⟨rfl,_⟩|⟨hc,_⟩
   ·exact hd
   ·exact h1 c hc
  |false=>
   rw[if_pos (by simp)]
   simp only[Bool.not_false,Bool.or_true,zfv]
   have hall:∀c ∈ d::r,c.key≠k→ltS k c.key=true:=by
    intro c hc hne
    have hdc:ltS c.key k=false:=by
     rcases List.mem_cons.1 hc with rfl|hc
     ·exact hd
     ·cases hck:ltS c.key k with
      |false=>rfl
      |true=>
       have:=zaA.trans _ _ _ (h1 c hc) hck
       rw[hd]at this
       cases this
    cases hkc:ltS k c.key with
    |true=>rfl
    |false=>exact absurd (zaA.tri _ _ hdc hkc) hne
   have e:(if d.key=k then([]:List Cn)else[d])++r.filter (fun c=>decide (c.key≠k))=(d::r).filter fun c=>decide (c.key≠k):=by
    rw[List.filter_cons]
    by_cases hk:d.key=k <;> simp[hk]
   rw[List.append_assoc,e]
   refine List.pairwise_append.2 ⟨?_,h.filter _,fun a ha b hb=>?_⟩
   ·unfold one
    split <;> simp
   ·obtain⟨rfl,_⟩:=zkN.1 ha
    simp only[List.mem_filter,decide_eq_true_eq]at hb
    exact hall b hb.1 hb.2
theorem zl6 {k:ByteArray} {n:Int} {l:List Cn} (h:Rises Cn.key ltS l) (k':ByteArray):zbC (zef k n false l) k'=if k'=k then n else zbC l k':=by
 have hr:=zgc k n h
 by_cases hk:k'=k
 ·rw[if_pos hk]
  subst hk
  by_cases hn:n=0
  ·rw[hn]
   refine zdc (fun c hc=>?_)
   rcases(zdl k' 0 l c).1 hc with⟨_,h0⟩|⟨_,hne⟩
   ·exact absurd rfl h0
   ·exact hne
  ·exact zfR hr (c:=⟨k',n⟩) ((zdl k' n l _).2 (.inl ⟨rfl,hn⟩))
 ·rw[if_neg hk]
  by_cases h0:zbC l k'=0
  ·rw[h0]
   by_cases hx:zbC (zef k n false l) k'=0
   ·exact hx
   ·exfalso
    obtain⟨c,hc,e,e2⟩:=zh0 hx
    rcases(zdl k n l c).1 hc with⟨rfl,_⟩|⟨hc,_⟩
    ·exact hk e.symm
    ·have:=zfR h hc
     rw[e,h0]at this
     rw[←e2,←this]at hx
     exact hx rfl
  ·obtain⟨c,hc,e,e2⟩:=zh0 h0
   have:=zfR hr (c:=c) ((zdl k n l c).2 (.inr ⟨hc,by rw[e];exact hk⟩))
   rw[e]at this
   rw[this,e2]
theorem zi0 {k:ByteArray} {n:Int} {l:List Cn} (h:zbe l=true) (hk:zbQ (zan k)=true):zbe (zef k n false l)=true:=by
 obtain⟨h1,h2⟩:=zbo.1 h
 refine zbo.2 ⟨fun c hc=>?_,zgc k n h2⟩
 rcases(zdl k n l c).1 hc with⟨rfl,h0⟩|⟨hc,_⟩
 ·exact zkP.2 ⟨hk,h0⟩
 ·exact h1 c hc
theorem zit (k:ByteArray) (n:Int):(one k n).length≤1:=by unfold one;split <;> simp
theorem zdY (k:ByteArray) (n:Int):∀l:List Cn,(zef k n false l).length≤l.length+1
 |[]=>by
  rw[zef,if_neg (by simp)]
  have:=zit k n
  simp
  omega
 |c::r=>by
  rw[zef]
  have h1:=zit k n
  have h2:=zdY k n r
  have h3:(zef k n true r).length≤r.length:=by rw[zfv];exact List.length_filter_le _ _
  have h4:(if c.key=k then([]:List Cn)else[c]).length≤1:=by split <;> simp
  cases ltS c.key k with
  |true=>
   rw[if_neg (by simp)]
   simp only[Bool.not_true,Bool.or_false,List.length_append,List.length_nil,List.length_cons]
   omega
  |false=>
   rw[if_pos (by simp)]
   simp only[Bool.not_false,Bool.or_true,List.length_append,List.length_cons]
   omega
def w64 (x:Int):Int:=IntKind.i64.wrap x
theorem zho (x:Int):w64 x=(x+9223372036854775808) % 18446744073709551616 - 9223372036854775808:=by
 unfold w64
 rw[IntKind.wrap_i64]
def zf3 (l:List Cn) (k:ByteArray) (n:Int):List Cn:=if zbe l=true∧zbQ (zan k)=true then zef k (w64 (zbC l k+n)) false l else[]
def znb (base a b:List Cn) (k:ByteArray):Int:=w64 (w64 (zbC a k+zbC b k) - zbC base k)
def zcj (base a b:List Cn):List Cn:=
 if zbe base=true∧zbe a=true∧zbe b=true then(base++a++b).foldl (fun out c=>zef c.key (znb base a b c.key) false out) []else[]
def zhK (base a b:List Cn) (out:List Cn) (c:Cn):List Cn:=zef c.key (znb base a b c.key) false out
theorem zfk {base a b:List Cn} (h:zbe base=true∧zbe a=true∧zbe b=true):zcj base a b=(base++a++b).foldl (zhK base a b) []:=by
 unfold zcj
 rw[if_pos h]
 rfl
theorem zfE (base a b:List Cn):∀(l out:List Cn),(l.foldl (zhK base a b) out).length≤out.length+l.length
 |[],out=>by simp
 |c::r,out=>by
  rw[List.foldl_cons]
  have h1:=zfE base a b r (zhK base a b out c)
  have h2:(zhK base a b out c).length≤out.length+1:=zdY _ _ _
  rw[List.length_cons]
  omega
end Go.Proofs.YtgmdhaepiclkcaaGreatDoor.CtrM
namespace Go.Proofs.YtgmdhaepiclkcaaGreatDoor.CtrL
set_option maxRecDepth 100000
open Go Byt OpsM Rise CtrM
def In64 (x:Int):Prop:=-9223372036854775808≤x∧x≤9223372036854775807
def InL (l:List Cn):Prop:=∀c ∈ l,In64 c.n
theorem zfr (x:Int):In64 (w64 x):=by unfold In64;rw[zho];omega
theorem ze9 {x:Int} (h:In64 x):w64 x=x:=by unfold In64 at h;rw[zho];omega
theorem zhZ {l:List Cn} (h:InL l) (k:ByteArray):In64 (zbC l k):=by
 by_cases h0:zbC l k=0
 ·rw[h0];unfold In64;omega
 ·obtain⟨c,hc,_,e⟩:=zh0 h0
  rw[←e]
  exact h c hc
theorem zjq {l:List Cn} {k:ByteArray} (n:Int) (h:zbe l=true) (hk:zbQ (zan k)=true):zbe (zf3 l k n)=true:=by
 unfold zf3
 rw[if_pos ⟨h,hk⟩]
 exact zi0 h hk
theorem zov {l:List Cn} {k:ByteArray} (n:Int) (h:zbe l=true) (hk:zbQ (zan k)=true) (k':ByteArray):zbC (zf3 l k n) k'=if k'=k then w64 (zbC l k+n)else zbC l k':=by
 unfold zf3
 rw[if_pos ⟨h,hk⟩]
 exact zl6 (zbo.1 h).2 k'
theorem zl3 {l:List Cn} {k:ByteArray} (n:Int) (h:zbe l=false∨zbQ (zan k)=false):zf3 l k n=[]:=by
 unfold zf3
 rw[if_neg]
 rintro⟨a,b⟩
 rcases h with h|h
 ·rw[a]at h;cases h
 ·rw[b]at h;cases h
theorem zp4 {k:ByteArray} {n:Int} {l:List Cn} {c:Cn} (h:c ∈ zef k n false l):c=⟨k,n⟩∨c ∈ l:=by
 rcases(zdl k n l c).1 h with⟨e,_⟩|⟨e,_⟩
 ·exact .inl e
 ·exact .inr e
theorem inc_in {l:List Cn} (k:ByteArray) (n:Int) (h:InL l):InL (zf3 l k n):=by
 intro c hc
 unfold zf3 at hc
 split at hc
 ·rcases zp4 hc with rfl|hc
  ·exact zfr _
  ·exact h c hc
 ·simp at hc
theorem zpL {base a b:List Cn} {k:ByteArray} (h0:∀c ∈ base,c.key≠k) (h1:∀c ∈ a,c.key≠k) (h2:∀c ∈ b,c.key≠k):znb base a b k=0:=by
 unfold znb
 rw[zdc h0,zdc h1,zdc h2]
 rfl
theorem zcS (base a b:List Cn):∀(l out:List Cn),zbe out=true→(∀c ∈ l,zbQ (zan c.key)=true)→zbe (l.foldl (zhK base a b) out)=true
 |[],out,h,_=>h
 |c::r,out,h,hk=>by
  rw[List.foldl_cons]
  exact zcS base a b r _ (zi0 h (hk c (by simp))) (fun d hd=>hk d (by simp[hd]))
theorem zfV (base a b:List Cn) (k:ByteArray):∀(l out:List Cn),zbe out=true→(∀c ∈ l,zbQ (zan c.key)=true)→zbC (l.foldl (zhK base a b) out) k=if ∃c ∈ l,c.key=k then znb base a b k else zbC out k
 |[],out,h,_=>by simp
 |c::r,out,h,hk=>by
  have hm:zbe (zhK base a b out c)=true:=zi0 (n:=znb base a b c.key) h (hk c (by simp))
  rw[List.foldl_cons,zfV base a b k r _ hm (fun d hd=>hk d (by simp[hd]))]
  by_cases hr:∃d ∈ r,d.key=k
  ·rw[if_pos hr,if_pos]
   obtain⟨d,hd,e⟩:=hr
   exact⟨d,by simp[hd],e⟩
  ·rw[if_neg hr]
   show zbC (zef c.key (znb base a b c.key) false out) k=_
   rw[zl6 (zbo.1 h).2]
   by_cases hc:c.key=k
   ·rw[if_pos hc.symm,if_pos ⟨c,by simp,hc⟩,hc]
   ·rw[if_neg (fun e=>hc e.symm),if_neg]
    rintro⟨d,hd,e⟩
    rcases List.mem_cons.1 hd with rfl|hd
    ·exact hc e
    ·exact hr ⟨d,hd,e⟩
theorem zjj {l:List Cn} (h:zbe l=true):∀c ∈ l,zbQ (zan c.key)=true:=fun c hc=>(zkP.1 ((zbo.1 h).1 c hc)).1
section
variable {base a b:List Cn} (h0:zbe base=true) (h1:zbe a=true) (h2:zbe b=true)
include h0 h1 h2
theorem all_ok:∀c ∈ base++a++b,zbQ (zan c.key)=true:=by
 intro c hc
 rcases List.mem_append.1 hc with hc|hc
 ·rcases List.mem_append.1 hc with hc|hc
  ·exact zjj h0 c hc
  ·exact zjj h1 c hc
 ·exact zjj h2 c hc
theorem za3:zbe (zcj base a b)=true:=by
 rw[zfk ⟨h0,h1,h2⟩]
 exact zcS base a b _ _ rfl (all_ok h0 h1 h2)
theorem zcz (k:ByteArray):zbC (zcj base a b) k=znb base a b k:=by
 rw[zfk ⟨h0,h1,h2⟩,zfV base a b k _ _ rfl (all_ok h0 h1 h2)]
 by_cases h:∃c ∈ base++a++b,c.key=k
 ·rw[if_pos h]
 ·rw[if_neg h,zpL]
  ·rfl
  ·intro c hc e;exact h ⟨c,by simp[hc],e⟩
  ·intro c hc e;exact h ⟨c,by simp[hc],e⟩
  ·intro c hc e;exact h ⟨c,by simp[hc],e⟩
theorem zfD:InL (zcj base a b):=by
 intro c hc
 obtain⟨e,_⟩:=(mem_iff (za3 h0 h1 h2) c).1 hc
 rw[←e,zcz h0 h1 h2]
 exact zfr _
end
theorem za8 {base a b:List Cn} (h:zbe base=false∨zbe a=false∨zbe b=false):zcj base a b=[]:=by
 unfold zcj
 rw[if_neg]
 rintro⟨x,y,z⟩
 rcases h with h|h|h
 ·rw[x]at h;cases h
 ·rw[y]at h;cases h
 ·rw[z]at h;cases h
end Go.Proofs.YtgmdhaepiclkcaaGreatDoor.CtrL
namespace Go.Proofs.YtgmdhaepiclkcaaGreatDoor.RegM
set_option maxRecDepth 100000
open Go Byt OpsM Rise
structure Rg where
 key:ByteArray
 elem:ByteArray
 gen:Int
 node:Int
 seq:Int
def zaV (a b:Rg):Bool:=
 if a.gen≠b.gen then decide (b.gen<a.gen)
 else if a.node≠b.node then decide (b.node<a.node)
 else if a.seq≠b.seq then decide (b.seq<a.seq)
 else ltS b.elem a.elem
theorem zhH {a b:Rg}:zaV a b=true↔b.gen<a.gen∨(a.gen=b.gen∧(b.node<a.node∨(a.node=b.node∧(b.seq<a.seq∨(a.seq=b.seq∧ltS b.elem a.elem=true))))):=by
 unfold zaV
 by_cases h1:a.gen=b.gen
 ·rw[if_neg (by simpa using h1)]
  by_cases h2:a.node=b.node
  ·rw[if_neg (by simpa using h2)]
   by_cases h3:a.seq=b.seq
   ·rw[if_neg (by simpa using h3)]
    constructor
    ·intro h
     exact .inr ⟨h1,.inr ⟨h2,.inr ⟨h3,h⟩⟩⟩
    ·rintro(h|⟨_,h|⟨_,h|⟨_,h⟩⟩⟩)
     ·omega
     ·omega
     ·omega
     ·exact h
   ·rw[if_pos h3,decide_eq_true_eq]
    constructor
    ·intro h
     exact .inr ⟨h1,.inr ⟨h2,.inl h⟩⟩
    ·rintro(h|⟨_,h|⟨_,h|⟨h,_⟩⟩⟩)
     ·omega
     ·omega
     ·exact h
     ·exact absurd h h3
  ·rw[if_pos h2,decide_eq_true_eq]
   constructor
   ·intro h
    exact .inr ⟨h1,.inl h⟩
   ·rintro(h|⟨_,h|⟨h,_⟩⟩)
    ·omega
    ·exact h
    ·exact absurd h h2
 ·rw[if_pos h1,decide_eq_true_eq]
  constructor
  ·intro h
   exact .inl h
  ·rintro(h|⟨h,_⟩)
   ·exact h
   ·exact absurd h h1
theorem zjV (a:Rg):zaV a a=false:=by
 cases h:zaV a a with
 |false=>rfl
 |true=>
  rw[zhH]at h
  rcases h with h|⟨_,h|⟨_,h|⟨_,h⟩⟩⟩
  ·omega
  ·omega
  ·omega
  ·rw[zaA.irrefl]at h;cases h
theorem zfj {a b c:Rg} (h:zaV a b=true) (h2:zaV b c=true):zaV a c=true:=by
 rw[zhH]at h h2 ⊢
 rcases h with h|⟨e1,h|⟨e2,h|⟨e3,h⟩⟩⟩ <;> rcases h2 with k|⟨f1,k|⟨f2,k|⟨f3,k⟩⟩⟩
 all_goals first
  |exact .inl (by omega)
  |exact .inr ⟨by omega,.inl (by omega)⟩
  |exact .inr ⟨by omega,.inr ⟨by omega,.inl (by omega)⟩⟩
  |exact .inr ⟨by omega,.inr ⟨by omega,.inr ⟨by omega,zaA.trans _ _ _ k h⟩⟩⟩
theorem zhI {a b:Rg} (h:zaV a b=true):zaV b a=false:=by
 cases hb:zaV b a with
 |false=>rfl
 |true=>
  have:=zfj h hb
  rw[zjV]at this
  cases this
theorem zhG {a b:Rg} (hk:a.key=b.key) (h:zaV a b=false) (h2:zaV b a=false):a=b:=by
 have n1:¬zaV a b=true:=by rw[h];simp
 have n2:¬zaV b a=true:=by rw[h2];simp
 rw[zhH]at n1 n2
 have e1:a.gen=b.gen:=by
  by_cases h1:b.gen<a.gen
  ·exact absurd (.inl h1) n1
  ·by_cases h2:a.gen<b.gen
   ·exact absurd (.inl h2) n2
   ·omega
 have e2:a.node=b.node:=by
  by_cases h1:b.node<a.node
  ·exact absurd (.inr ⟨e1,.inl h1⟩) n1
  ·by_cases h2:a.node<b.node
   ·exact absurd (.inr ⟨e1.symm,.inl h2⟩) n2
   ·omega
 have e3:a.seq=b.seq:=by
  by_cases h1:b.seq<a.seq
  ·exact absurd (.inr ⟨e1,.inr ⟨e2,.inl h1⟩⟩) n1
  ·by_cases h2:a.seq<b.seq
   ·exact absurd (.inr ⟨e1.symm,.inr ⟨e2.symm,.inl h2⟩⟩) n2
   ·omega
 have e4:a.elem=b.elem:=by
  cases h1:ltS b.elem a.elem with
  |true=>exact absurd (.inr ⟨e1,.inr ⟨e2,.inr ⟨e3,h1⟩⟩⟩) n1
  |false=>
   cases h2:ltS a.elem b.elem with
   |true=>exact absurd (.inr ⟨e1.symm,.inr ⟨e2.symm,.inr ⟨e3.symm,h2⟩⟩⟩) n2
   |false=>exact(zaA.tri _ _ h1 h2).symm
 cases a;cases b
 simp only at hk e1 e2 e3 e4
 subst hk e1 e2 e3 e4
 rfl
def zeg (r:Rg):Bool:=zbQ (zan r.key)&&(zbQ (zan r.elem)&&(decide (0<r.gen)&&(decide (0≤r.node)&&(decide (r.node<8)&&decide (0<r.seq)))))
def zbd (l:List Rg):Bool:=l.all zeg&&zaN Rg.key ltS l
def zcQ:List Rg→ByteArray→Option Rg
 |[],_=>none
 |c::r,k=>if c.key=k then some c else zcQ r k
theorem zbq (c:Rg) (r:List Rg) (k:ByteArray):zcQ (c::r) k=if c.key=k then some c else zcQ r k:=rfl
theorem zbu {l:List Rg}:zbd l=true↔(∀c ∈ l,zeg c=true)∧Rises Rg.key ltS l:=by
 unfold zbd
 rw[Bool.and_eq_true,List.all_eq_true,zeR zaA]
theorem zhX:∀{l:List Rg} {k:ByteArray},(∀c ∈ l,c.key≠k)→zcQ l k=none
 |[],_,_=>rfl
 |c::r,k,h=>by
  rw[zbq,if_neg (h c (by simp)),zhX (fun d hd=>h d (by simp[hd]))]
theorem zbG:∀{l:List Rg} {k:ByteArray} {x:Rg},zcQ l k=some x→x ∈ l∧x.key=k
 |[],_,_,h=>by cases h
 |c::r,k,x,h=>by
  rw[zbq]at h
  by_cases hk:c.key=k
  ·rw[if_pos hk]at h
   injection h with h
   subst h
   exact⟨by simp,hk⟩
  ·rw[if_neg hk]at h
   obtain⟨h1,h2⟩:=zbG h
   exact⟨by simp[h1],h2⟩
theorem zeZ:∀{l:List Rg} (_:Rises Rg.key ltS l) {c:Rg} (_:c ∈ l),zcQ l c.key=some c
 |[],_,c,h=>by simp at h
 |d::r,hr,c,h=>by
  rw[zbq]
  obtain⟨h1,h2⟩:=List.pairwise_cons.1 hr
  rcases List.mem_cons.1 h with rfl|hc
  ·rw[if_pos rfl]
  ·rw[if_neg (zaA.ne (h1 c hc)),zeZ h2 hc]
theorem detR {l m:List Rg} (hl:Rises Rg.key ltS l) (hm:Rises Rg.key ltS m) (h:∀k,zcQ l k=zcQ m k):l=m:=by
 refine Rises.ext zaA hl hm (fun c=>⟨fun hc=>?_,fun hc=>?_⟩)
 ·have:=zeZ hl hc
  rw[h]at this
  exact(zbG this).1
 ·have:=zeZ hm hc
  rw[←h]at this
  exact(zbG this).1
def best (r y:Rg):Rg:=if zaV r y=true then r else y
def ins (r:Rg):Bool→List Rg→List Rg
 |done,[]=>if done=true then[]else[r]
 |done,x::l=>
  (if done=false∧ltS r.key x.key=true then[r]else[])++(if x.key≠r.key then x::ins r (done||ltS r.key x.key) l else best r x::ins r true l)
theorem zjn (r:Rg):∀{l:List Rg},(∀x ∈ l,x.key≠r.key)→ins r true l=l
 |[],_=>rfl
 |x::l,h=>by
  rw[ins,if_neg (by simp),if_pos (h x (by simp)),Bool.true_or,zjn r (fun y hy=>h y (by simp[hy]))]
  rfl
theorem best_key {r y:Rg} (h:y.key=r.key):(best r y).key=r.key:=by
 unfold best
 split
 ·rfl
 ·exact h
theorem zhT (r:Rg):∀{l:List Rg},Rises Rg.key ltS l→Rises Rg.key ltS (ins r false l)∧∀k,zcQ (ins r false l) k=if k=r.key then some (match zcQ l r.key with|none=>r|some y=>best r y)else zcQ l k
 |[],_=>by
  refine⟨by simp[ins,Rises],fun k=>?_⟩
  by_cases hk:k=r.key
  ·subst hk;simp[ins,zcQ]
  ·rw[if_neg hk]
   simp only[ins,Bool.false_eq_true,if_false,zbq]
   rw[if_neg (fun e=>hk e.symm)]
 |x::l,h=>by
  obtain⟨h1,h2⟩:=List.pairwise_cons.1 h
  cases hlt:ltS r.key x.key with
  |true=>
   have hall:∀y ∈ x::l,ltS r.key y.key=true:=by
    intro y hy
    rcases List.mem_cons.1 hy with rfl|hy
    ·exact hlt
    ·exact zaA.trans _ _ _ hlt (h1 y hy)
   have hne:∀y ∈ x::l,y.key≠r.key:=fun y hy e=>zaA.ne (hall y hy) e.symm
   have e:ins r false (x::l)=r::x::l:=by
    rw[ins,if_pos ⟨rfl,hlt⟩,if_pos (hne x (by simp)),hlt,Bool.false_or,zjn r (fun y hy=>hne y (by simp[hy]))]
    rfl
   rw[e]
   refine⟨List.pairwise_cons.2 ⟨hall,h⟩,fun k=>?_⟩
   rw[zbq]
   by_cases hk:k=r.key
   ·rw[if_pos hk.symm,if_pos hk,zhX hne]
   ·rw[if_neg (fun e=>hk e.symm),if_neg hk]
  |false=>
   by_cases hk:x.key=r.key
   ·have hne:∀y ∈ l,y.key≠r.key:=fun y hy e=>zaA.ne (h1 y hy) (by rw[hk,e])
    have e:ins r false (x::l)=best r x::l:=by
     rw[ins,if_neg (by rw[hlt];simp),if_neg (by simp[hk]),zjn r hne]
     rfl
    rw[e]
    have hb:=best_key (r:=r) (y:=x) hk
    refine⟨List.pairwise_cons.2 ⟨fun y hy=>by rw[hb,←hk];exact h1 y hy,h2⟩,fun k=>?_⟩
    rw[zbq,hb]
    by_cases hkk:k=r.key
    ·rw[if_pos hkk.symm,if_pos hkk,zbq,if_pos hk]
    ·rw[if_neg (fun e=>hkk e.symm),if_neg hkk,zbq,if_neg (by rw[hk];exact fun e=>hkk e.symm)]
   ·obtain⟨i1,i2⟩:=zhT r h2
    have hxr:ltS x.key r.key=true:=by
     cases hx:ltS x.key r.key with
     |true=>rfl
     |false=>exact absurd (zaA.tri _ _ hx hlt) hk
    have e:ins r false (x::l)=x::ins r false l:=by
     rw[ins,if_neg (by rw[hlt];simp),if_pos hk,hlt]
     rfl
    rw[e]
    refine⟨List.pairwise_cons.2 ⟨fun y hy=>?_,i1⟩,fun k=>?_⟩
    ·have hy2:=zeZ i1 hy
     rw[i2]at hy2
     by_cases hyk:y.key=r.key
     ·rw[hyk];exact hxr
     ·rw[if_neg hyk]at hy2
      exact h1 y (zbG hy2).1
    ·rw[zbq,zbq,zbq,if_neg hk,i2]
     by_cases hkk:k=r.key
     ·rw[if_pos hkk,if_pos hkk,if_neg (by rw[hkk];exact hk)]
     ·rw[if_neg hkk,if_neg hkk]
end Go.Proofs.YtgmdhaepiclkcaaGreatDoor.RegM
