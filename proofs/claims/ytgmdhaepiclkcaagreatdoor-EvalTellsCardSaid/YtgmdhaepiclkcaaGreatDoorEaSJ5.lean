/- Plain facts on what the document's Eval tells, place by place | What slices.Equal returns of two lists of counts, of registers, of pai | Texts as keys of a map of numbers | What gather does to a map | A contract of the library's, laid at this program -/
import Derived.Test.YtgmdhaepiclkcaaGreatDoorEaAJ3
import Derived.Test.YtgmdhaepiclkcaaGreatDoorStNJ8
import Derived.Test.YtgmdhaepiclkcaaGreatDoorDgF
import Derived.Test.YtgmdhaepiclkcaaGreatDoorPairGJ12
import Derived.Test.YtgmdhaepiclkcaaGreatDoorRegUJ10
import Derived.Test.YtgmdhaepiclkcaaGreatDoorRegQ
import Derived.Test.YtgmdhaepiclkcaaGreatDoorCtrSJ4
import Derived.Test.YtgmdhaepiclkcaaGreatDoorCmAJ5
import Derived.Test.YtgmdhaepiclkcaaGreatDoorShaDJ13
import Derived.StringKeys
import Derived.Maps.RangeWalk
import Derived.Maps.OwnSet
import Derived.Maps.OwnOps
import Derived.Test.YtgmdhaepiclkcaaGreatDoorRowBJ9
import Derived.Maps.AppendAt
import Derived.Shelf.SlLaysM
import Derived.Test.YtgmdhaepiclkcaaGreatDoorProg
namespace Go.Proofs.YtgmdhaepiclkcaaGreatDoor.EaS
set_option maxRecDepth 100000
open Go Go.Sort Go.RowKit Byt IdM IdW OpsM OpsW RowS CmM CmW CmX CmY DgM DgN DgP DgW DgT DgR DgK DgC DgF FrM FrN EaM EaN EaR EaH
open Classical
theorem zor:(Tryz.prog.info? 26).map (·.size)=some 1:=by kernel_rfl
theorem zop:(Tryz.prog.info? 27).map (·.size)=some 1:=by kernel_rfl
theorem zl1:(Tryz.prog.info? 28).map (·.size)=some 1:=by kernel_rfl
theorem zk7 {H:Com→Idn} {l:List Com} {s:StM.St} {c:Com} (h:c.op.kind=3∨(c.op.kind=2∧Gone H l c)):evS H l s c=s:=by
 unfold evS
 rw[if_neg (by omega),if_neg (by omega),if_neg (fun q=>h.elim (fun e=>by omega) fun e=>q.2 e.2)]
theorem zjw {H:Com→Idn} {l:List Com} {s:StM.St} {c:Com} (h:c.op.kind=0∨c.op.kind=1∨(c.op.kind=2∧¬Gone H l c)):evS H l s c=StM.stepS s c.op c.node c.seq c.gen:=by
 unfold evS StM.stepS
 rcases h with h|h|⟨h,hg⟩
 ·rw[if_pos h,if_pos h]
 ·rw[if_neg (by omega),if_pos h,if_neg (by omega),if_pos h]
  rfl
 ·rw[if_neg (by omega),if_neg (by omega),if_pos ⟨h,hg⟩,if_neg (by omega),if_neg (by omega),if_pos h]
  rfl
structure Wide (c:Com):Prop where
 node:CtrL.In64 c.node
 seq:CtrL.In64 c.seq
 gen:CtrL.In64 c.gen
theorem wide_of {c:Com} (h:Fit c):Wide c:=⟨h.node,h.seq,h.gen⟩
theorem ev_fits {H:Com→Idn} {l:List Com} {s:StM.St} {c:Com} (hf:StW.Fits s) (hm:StM.zcI s=true) (hc:Fine c) (hw:Wide c):StW.Fits (evS H l s c):=by
 by_cases h:c.op.kind=0∨c.op.kind=1∨(c.op.kind=2∧¬Gone H l c)
 ·rw[zjw h]
  exact StY.zjI hf (StM.zc6.2 ⟨hm,hc.op,hc.ev,hc.gen⟩) hw.node hw.seq hw.gen
 ·have hk:=StM.zji hc.op
  rw[zk7]
  ·exact hf
  ·by_cases h3:c.op.kind=3
   ·exact .inl h3
   ·refine .inr ⟨by omega,Classical.byContradiction fun g=>h (.inr (.inr ⟨by omega,g⟩))⟩
theorem zeI {H:Com→Idn} {l:List Com}:∀(m:List Com) (s:StM.St),StW.Fits s→StM.zcI s=true→(∀c ∈ m,Fine c)→(∀c ∈ m,Wide c)→StW.Fits (m.foldl (evS H l) s)
 |[],_,hf,_,_,_=>hf
 |c::m,s,hf,hm,hc,hw=>zeI m _ (ev_fits hf hm (hc c (by simp)) (hw c (by simp))) (zkf hm (hc c (by simp))) (fun d hd=>hc d (by simp[hd])) fun d hd=>hw d (by simp[hd])
theorem zfX:StW.Fits StM.noS:=⟨fun c hc=>absurd hc (by simp[StM.noS]),fun c hc=>absurd hc (by simp[StM.noS]),fun c hc=>absurd hc (by simp[StM.noS])⟩
noncomputable def upS (l:List Com) (k:Nat):StM.St:=(l.take k).foldl (evS zaj l) StM.noS
theorem up_next {l:List Com} {k:Nat} {c:Com} (h:l[k]?=some c):upS l (k+1)=evS zaj l (upS l k) c:=by
 obtain⟨hk,e⟩:=List.getElem?_eq_some_iff.1 h
 unfold upS
 rw[List.take_succ_eq_append_getElem hk,List.foldl_append,e]
 rfl
theorem up_all (l:List Com):upS l l.length=zdz zaj l:=by
 unfold upS zdz
 rw[List.take_length]
theorem zpF {l:List Com} (hl:∀c ∈ l,Fine c) (hw:∀c ∈ l,Wide c) (k:Nat):StM.zcI (upS l k)=true∧StW.Fits (upS l k)∧StW.Len k (upS l k):=by
 have ht:∀c ∈ l.take k,c ∈ l:=fun c hc=>List.mem_of_mem_take hc
 refine⟨zcS _ _ zbN fun c hc=>hl c (ht c hc),zeI _ _ zfX zbN (fun c hc=>hl c (ht c hc)) fun c hc=>hw c (ht c hc),?_⟩
 have:=ze1 (H:=zaj) (l:=l) (l.take k) StM.noS 0 ⟨Nat.le_refl _,Nat.le_refl _,Nat.le_refl _⟩
 have h2:(l.take k).length≤k:=by rw[List.length_take];omega
 obtain⟨h3,h4,h5⟩:=this
 unfold upS
 exact⟨by omega,by omega,by omega⟩
end Go.Proofs.YtgmdhaepiclkcaaGreatDoor.EaS
namespace Go.Proofs.YtgmdhaepiclkcaaGreatDoor.StV
set_option maxRecDepth 100000
open Go Go.RowKit Byt OpsM OpsK Rise RowS
section
open CtrM RowS CtrW CtrS
end
section
open RegM RowS RowB RegW RegS
end
section
open PairM PairN RowS RowB PairW PairS
end
end Go.Proofs.YtgmdhaepiclkcaaGreatDoor.StV
namespace Go.Proofs.YtgmdhaepiclkcaaGreatDoor.StrK
set_option maxRecDepth 100000
open Go Go.RowKit Go.Maps Byt Rise
theorem law:Keyed Tryz.prog 9:=string_keyed Tryz.underlying9
def key (x:ByteArray):Lit:=.string x.data.toList
theorem keyOf_str {x:ByteArray} (hx:x.size≤maxLen):keyOf Tryz.prog 9 (.string x)=some (key x):=Go.WideMaps.keyOf_string_mk Tryz.underlying9 hx
theorem key_inj {x y:ByteArray} (h:key x=key y):x=y:=by
 injection h with h
 cases x;cases y
 congr 1
 exact Array.ext' h
theorem zdM {v:Value} {kl:Lit} (h:keyOf Tryz.prog 9 v=some kl):∃x:ByteArray,v=.string x:=by
 obtain⟨s,h1,_,_⟩:=Go.WideMaps.string_of_keyOf Tryz.underlying9 h
 exact⟨s,h1⟩
theorem zok {x:ByteArray} {kl:Lit} (h:keyOf Tryz.prog 9 (.string x)=some kl):kl=key x∧x.size≤maxLen:=by
 obtain⟨s,h1,h2,h3⟩:=Go.WideMaps.string_of_keyOf Tryz.underlying9 h
 injection h1 with h1
 subst h1
 exact⟨h2,h3⟩
theorem zcy (x:ByteArray):(key x).sameKey (key x)=true:=by simp[Lit.sameKey,key]
def In64 (x:Int):Prop:=-9223372036854775808≤x∧x≤9223372036854775807
theorem wf64 {n:Int} (h:In64 n):(Lit.int .i64 n).wf=true:=by
 unfold In64 at h
 simp[Lit.wf,IntKind.min,IntKind.max,IntKind.bits,IntKind.signed]
 omega
def upd (v:ByteArray→Int) (y:ByteArray) (c:Int):ByteArray→Int:=fun x=>if x=y then c else v x
def zpw (D:DataW Unit) (K:List ByteArray) (v:ByteArray→Int):Prop:=
 (∀x,Maps.has D (key x)=true↔x ∈ K)∧(∀x,x ∈ K→∀z,D.atKey (key x) z=.lit (.int .i64 (v x)))∧∀x,x ∉ K→v x=0
def NumIn (w:World) (b n:Nat) (K:List ByteArray) (v:ByteArray→Int):Prop:=∃D:DataW Unit,w.ownsMap Tryz.prog 9 (plainElem Tryz.prog 3) b n D∧zpw D K v
theorem NumIn.made (w:World):NumIn (w.alloc (.map #[] 0)) w.heap.size 0 [] fun _=>0:=⟨.map [],World.ownsMap_made _ _ _ _,fun x=>by simp[Maps.has],fun x hx=>absurd hx (by simp),fun _ _=>rfl⟩
theorem NumIn.lt {w:World} {b n:Nat} {K:List ByteArray} {v:ByteArray→Int} (h:NumIn w b n K v):b<w.heap.size:=by obtain⟨D,hD,_⟩:=h;exact hD.lt
theorem NumIn.kept {w w':World} {b n:Nat} {K:List ByteArray} {v:ByteArray→Int} {row:Option Nat} (h:NumIn w b n K v) (hg:w.grownBy w' row) (hne:some b≠row):NumIn w' b n K v:=by
 obtain⟨D,hD,hs⟩:=h
 exact⟨D,hD.kept hg hne,hs⟩
theorem NumIn.below {w w':World} {b n:Nat} {K:List ByteArray} {v:ByteArray→Int} (h:NumIn w b n K v) (hb:Below w.heap.size w w'):NumIn w' b n K v:=h.kept (zaq hb none) (by simp)
theorem NumIn.alloc {w:World} {b n:Nat} {K:List ByteArray} {v:ByteArray→Int} (h:NumIn w b n K v) (o:Obj):NumIn (w.alloc o) b n K v:=h.kept (World.grownBy_alloc w o none) (by simp)
theorem NumIn.congr {w:World} {b n:Nat} {K K':List ByteArray} {v v':ByteArray→Int} (h:NumIn w b n K v) (he:∀x,x ∈ K↔x ∈ K') (hv:∀x,v x=v' x):NumIn w b n K' v':=by
 obtain⟨D,hD,h1,h2,h3⟩:=h
 exact⟨D,hD,fun x=>by rw[h1];simp only[he],fun x hx z=>by rw[h2 x ((he x).2 hx),hv],fun x hx=>by rw[←hv];exact h3 x (fun h=>hx ((he x).1 h))⟩
theorem NumIn.up {w:World} {b n m:Nat} {K:List ByteArray} {v:ByteArray→Int} (h:NumIn w b n K v) (hm:n≤m):NumIn w b m K v:=by
 obtain⟨D,hD,hs⟩:=h
 exact⟨D,hD.mono hm,hs⟩
theorem zhA {D:DataW Unit} {K:List ByteArray} {v:ByteArray→Int} (hm:Maps.IsMap D) (h:zpw D K v) {y:ByteArray} (hy:y.size≤maxLen) (c:Int):zpw (D.put (key y) (.lit (.int .i64 c))) (y::K) (upd v y c):=by
 have hk:WideAt.IsKeyLit (key y):=law.key (keyOf_str hy)
 refine⟨fun x=>?_,fun x hx z=>?_,fun x hx=>?_⟩
 ·by_cases hxy:x=y
  ·subst hxy
   rw[Maps.has_put_same hm hk]
   simp
  ·rw[Maps.has_put_other (fun e=>hxy (key_inj e)),h.1]
   simp[hxy]
 ·unfold upd
  by_cases hxy:x=y
  ·subst hxy
   rw[if_pos rfl]
   exact Maps.atKey_put_same hm hk _ _
  ·rw[Maps.atKey_put_other (fun e=>hxy (key_inj e)),if_neg hxy]
   exact h.2.1 x (by simpa[hxy]using hx) z
 ·simp only[List.mem_cons,not_or]at hx
  unfold upd
  rw[if_neg hx.1]
  exact h.2.2 x hx.2
theorem zdQ (w:World):(zeroValue 3).run Tryz.prog w=.ok (.int .i64 0) w:=by kernel_rfl
section
variable (w:World) {ops:Array Oper} {rest:List Oper} {o:Oper} {a:Act} {Q:Exit→Act→World→Prop}
theorem zbx (hg:o.guard=none) (m x v:Operand) (hop:o.op=Op.mapUpdate 133 m x v) (b n:Nat) (K:List ByteArray) (f:ByteArray→Int) (hm:a.eval m=.map (some b)) (h:NumIn w b n K f) (hn:n<1000000000)
  (y:ByteArray) (hy:y.size≤maxLen) (c:Int) (hc:In64 c) (hx:a.eval x=.string y) (hv:a.eval v=.int .i64 c) (hK:∀w',NumIn w' b (n+1) (y::K) (upd f y c)→w.grownBy w' (some b)→wpList Tryz.prog ops Q rest (a.put o.dst undef) w'):wpList Tryz.prog ops Q (o::rest) a w:=by
 obtain⟨D,hD,hs⟩:=h
 exact wpList_mapUpdate_own w hg m x v 133 hop 9 3 law Tryz.underlying133 _ b n D hm hD (by unfold maxLen;omega) _ _ (key y) hx hv (keyOf_str hy) _ [] (plainElem_int Tryz.underlying3 (wf64 hc))
  (fun w' h1 h2=>hK w' ⟨_,h1,zhA hD.isMap hs hy c⟩ h2)
theorem ziK (hg:o.guard=none) (m x v:Operand) (hop:o.op=Op.insert 133 m x v) (b n:Nat) (K:List ByteArray) (f:ByteArray→Int) (hm:a.eval m=.map (some b)) (h:NumIn w b n K f) (hn:n<1000000000)
  (y:ByteArray) (hy:y.size≤maxLen) (c:Int) (hc:In64 c) (hx:a.eval x=.string y) (hv:a.eval v=.int .i64 c) (hK:∀w',NumIn w' b (n+1) (y::K) (upd f y c)→w.grownBy w' (some b)→wpList Tryz.prog ops Q rest (a.put o.dst undef) w'):wpList Tryz.prog ops Q (o::rest) a w:=by
 obtain⟨D,hD,hs⟩:=h
 refine wpList_plain hg fun K' hK'=>?_
 obtain⟨w',hrun,r1,r2⟩:=hD.update law Tryz.underlying133 (by unfold maxLen;omega) (keyOf_str hy) (plainElem_int Tryz.underlying3 (wf64 hc))
 unfold Oper.wp
 simp[execOp,hop,hm,hx,hv,hrun,Result.andThen]
 exact hK' _ _ (hK w' ⟨_,r1,zhA hD.isMap hs hy c⟩ r2)
theorem zaY (hg:o.guard=none) (m x:Operand) (hop:o.op=Op.lookup 133 m x false) (b n:Nat) (K:List ByteArray) (f:ByteArray→Int) (hm:a.eval m=.map (some b)) (h:NumIn w b n K f)
  (y:ByteArray) (hy:y.size≤maxLen) (hx:a.eval x=.string y) (hK:wpList Tryz.prog ops Q rest (a.put o.dst (.int .i64 (f y))) w):wpList Tryz.prog ops Q (o::rest) a w:=by
 obtain⟨D,hD,hs⟩:=h
 refine wpList_lookup_own_int w hg m x 133 hop 9 3 .i64 law Tryz.underlying133 Tryz.underlying3 (zdQ w) b n D hm hD _ (key y) hx (keyOf_str hy) (fun c hat _=>?_)
 have hc:c=f y:=by
  by_cases hyK:y ∈ K
  ·rw[hs.2.1 y hyK]at hat
   injection hat with hat
   injection hat with _ hat
   exact hat.symm
  ·have hh:Maps.has D (key y)=false:=by
    rw[←Bool.not_eq_true,hs.1 y]
    exact hyK
   rw[Maps.atKey_of_not_has hh]at hat
   rw[hs.2.2 y hyK]
   injection hat with hat
   injection hat with _ hat
   exact hat.symm
 rw[hc]
 exact hK
end
end Go.Proofs.YtgmdhaepiclkcaaGreatDoor.StrK
namespace Go.Proofs.YtgmdhaepiclkcaaGreatDoor.CtrG
set_option maxHeartbeats 4000000
set_option maxRecDepth 100000
open Go Go.RowKit Byt OpsM Rise CtrM RowS RowB CtrW StrK
theorem ziL (x:Int):w64 x=wrap64 x:=by rw[zho];unfold wrap64;rfl
theorem in_wrap (x:Int):StrK.In64 (wrap64 x):=by rw[←ziL];exact CtrL.zfr x
def more (t:Int) (v:ByteArray→Int) (c:Cn):ByteArray→Int:=upd v c.key (w64 (v c.key+w64 (t * c.n)))
def zku (t:Int) (v:ByteArray→Int) (l:List Cn):ByteArray→Int:=l.foldl (more t) v
theorem zoD (t:Int) (v:ByteArray→Int) (l:List Cn) (c:Cn):zku t v (l++[c])=more t (zku t v l) c:=by simp[zku]
theorem zoC (t:Int) (v:ByteArray→Int) {l:List Cn} {k:Nat} {c:Cn} (h:l[k]?=some c):zku t v (l.take (k+1))=more t (zku t v (l.take k)) c:=by
 obtain⟨hk,rfl⟩:=List.getElem?_eq_some_iff.1 h
 rw[List.take_succ_eq_append_getElem hk,zoD]
theorem zoi {l:List Cn} {k:Nat} {c:Cn} (h:l[k]?=some c) (K:List ByteArray) (z:ByteArray):z ∈ c.key::(K++(l.take k).map Cn.key)↔z ∈ K++(l.take (k+1)).map Cn.key:=by
 obtain⟨hk,rfl⟩:=List.getElem?_eq_some_iff.1 h
 rw[List.take_succ_eq_append_getElem hk]
 simp only[List.mem_cons,List.mem_append,List.map_append,List.map_cons,List.map_nil,List.not_mem_nil,or_false]
 constructor
 ·rintro(h|h|h)
  ·exact .inr (.inr h)
  ·exact .inl h
  ·exact .inr (.inl h)
 ·rintro(h|h|h)
  ·exact .inr (.inl h)
  ·exact .inr (.inr h)
  ·exact .inl h
theorem zcR (t:Int):∀(l:List Cn) (v:ByteArray→Int) (k:ByteArray),Rises Cn.key ltS l→CtrL.In64 (v k)→zku t v l k=w64 (v k+w64 (t * zbC l k))
 |[],v,k,_,hv=>by
  show v k=w64 (v k+w64 (t * 0))
  rw[Int.mul_zero,CtrL.ze9 (x:=0) (by unfold CtrL.In64;omega),Int.add_zero,CtrL.ze9 hv]
 |c::r,v,k,h,hv=>by
  obtain⟨h1,h2⟩:=List.pairwise_cons.1 h
  show zku t (more t v c) r k=_
  by_cases hk:c.key=k
  ·have hm:more t v c k=w64 (v k+w64 (t * c.n)):=by unfold more upd;rw[if_pos hk.symm,hk]
   have hr:zbC r k=0:=zdc (fun d hd=>by
    have:=zaA.ne (h1 d hd)
    rw[hk]at this
    exact this.symm)
   rw[zcR t r _ k h2 (by rw[hm];exact CtrL.zfr _),hm,hr,zfS,if_pos hk,Int.mul_zero,CtrL.ze9 (x:=0) (by unfold CtrL.In64;omega),Int.add_zero,CtrL.ze9 (CtrL.zfr _)]
  ·have hm:more t v c k=v k:=by unfold more upd;rw[if_neg (fun e=>hk e.symm)]
   rw[zcR t r _ k h2 (by rw[hm];exact hv),hm,zfS,if_neg hk]
theorem ze0 (b n:Nat) (K:List ByteArray) (v:ByteArray→Int) (A:Option Addr) (cap:Nat) (l:List Cn) (t:Int) (w:World) (h:NumIn w b n K v) (S:SlR E w A cap l) (hf:Fits l) (hn:n≤100000000) (hl:l.length≤100000000):
  Calls Tryz.prog 93 #[.map (some b),.slice A l.length cap,.int .i64 t] w fun e w'=>e=.returned (.tuple #[])∧NumIn w' b (n+l.length) (K++l.map Cn.key) (zku t v l)∧w.grownBy w' (some b):=by
 have hcap:=S.1
 go_enter Tryz.func93,Tryz.ntmps93
 go_wp2_with fail
 go_loopw [10] (fun i wr=>∃k:Nat,k≤l.length∧i=.int .i64 k∧NumIn wr b (n+k) (K++(l.take k).map Cn.key) (zku t v (l.take k))∧w.grownBy wr (some b)) (fun i _=>l.length - (intOf i).toNat)
 case atStart=>exact⟨0,Nat.zero_le _,rfl,by simpa[zku]using h,zaq (Below.refl _ _) _⟩
 case round=>
  obtain⟨k,hk,rfl,hset,kg⟩:=hrel
  by_cases hlt:k<l.length
  ·obtain⟨g,off,rfl,hbw,hr⟩:=S.plain (by omega)
   obtain⟨x,hx⟩:∃x,l[k]?=some x:=⟨_,List.getElem?_eq_getElem hlt⟩
   have hxm:=List.mem_of_getElem? hx
   obtain⟨x1,x2,x3⟩:=hf x hxm
   have hne:g≠b:=by
    obtain⟨D,⟨es,clock,hm,_⟩,_⟩:=h
    exact zfI hm (hr k x hx)
   have hr1:=zdC (hr k x hx) kg hbw hne
   have HT:=aside (zoC t v hx)
   have HK:=aside (zoi hx K)
   obtain⟨f,hf0⟩:∃f,zku t v (l.take k)=f:=⟨_,rfl⟩
   rw[hf0]at hset HT
   have p0:(k:Int)<l.length:=by omega
   have m0:((k:Int)).toNat=k:=by omega
   have hmx:x.key.size≤maxLen:=by unfold maxLen;omega
   clear hr S hx hf hxm hf0 h
   go_wp2_with (first
    |(refine zal E rfl _ rfl g _ rfl x hr1 ?_)
    |(refine zac E rfl _ _ rfl _ _ _ rfl x _ rfl rfl rfl rfl ?_;intro w2 bx kx gx sx;have c0:=bx.cell (j:=0) rfl;have c1:=bx.cell (j:=1) rfl)
    |(refine zaY _ rfl _ _ rfl b _ _ f rfl (hset.kept gx (by simp)) x.key hmx rfl ?_)
    |(refine zbx _ rfl _ _ _ rfl b _ _ f rfl (hset.kept gx (by simp)) (by omega) x.key hmx (wrap64 (f x.key+wrap64 (t * x.n))) (in_wrap _) rfl rfl ?_;intro w3 hs3 hg3))
   go_roundw
   case rel=>
    refine⟨k+1,by omega,by go_num,(hs3.congr HK.out (fun z=>?_)).up (by omega),?_⟩
    ·rw[HT.out,←ziL,←ziL]
     rfl
    ·exact(kg.trans (gx.but _)).trans hg3
   case measure=>simp[intOf];omega
  ·have e:k=l.length:=by omega
   subst e
   rw[List.take_length]at hset
   go_wp2_with fail
   go_end0
   exact⟨rfl,hset,kg⟩
end Go.Proofs.YtgmdhaepiclkcaaGreatDoor.CtrG
namespace Go.Proofs
set_option maxRecDepth 100000
open Go.Shelf
def Tryz.zjL:Go.Shelf.Ren:=⟨fun|6=>172|8=>151|9=>209|19=>184|20=>185|21=>228|22=>229|23=>230|24=>231|25=>232|26=>233|27=>234|28=>235|29=>236|31=>220|32=>221|36=>242|37=>243|38=>244|39=>245|41=>247|n=>n,fun|0=>0|3=>3|4=>4|5=>5|9=>9|26=>170|27=>170|29=>9|32=>184|35=>202|36=>203|41=>207|44=>161|46=>157|53=>229|57=>233|63=>245|64=>246|n=>n,fun|n=>n⟩
theorem Tryz.zlt:Go.Proofs.SlLaysM.n6 Tryz.prog Tryz.zjL:={
 mixed:=by kernel_rfl
 f6:=⟨Tryz.f172.name,by decide,Tryz.func172.trans (congrArg some (by kernel_rfl))⟩
 f8:=Tryz.func151.trans (congrArg some (by kernel_rfl))
 f9:=⟨Tryz.f209.name,by decide,Tryz.func209.trans (congrArg some (by kernel_rfl))⟩
 f19:=Tryz.func184.trans (congrArg some (by kernel_rfl))
 f20:=Tryz.func185.trans (congrArg some (by kernel_rfl))
 f21:=⟨Tryz.f228.name,by decide,Tryz.func228.trans (congrArg some (by kernel_rfl))⟩
 f22:=⟨Tryz.f229.name,by decide,Tryz.func229.trans (congrArg some (by kernel_rfl))⟩
 f23:=⟨Tryz.f230.name,by decide,Tryz.func230.trans (congrArg some (by kernel_rfl))⟩
 f24:=⟨Tryz.f231.name,by decide,Tryz.func231.trans (congrArg some (by kernel_rfl))⟩
 f25:=⟨Tryz.f232.name,by decide,Tryz.func232.trans (congrArg some (by kernel_rfl))⟩
 f26:=⟨Tryz.f233.name,by decide,Tryz.func233.trans (congrArg some (by kernel_rfl))⟩
 f27:=⟨Tryz.f234.name,by decide,Tryz.func234.trans (congrArg some (by kernel_rfl))⟩
 f28:=⟨Tryz.f235.name,by decide,Tryz.func235.trans (congrArg some (by kernel_rfl))⟩
 f29:=⟨Tryz.f236.name,by decide,Tryz.func236.trans (congrArg some (by kernel_rfl))⟩
 f31:=Tryz.func220.trans (congrArg some (by kernel_rfl))
 f32:=Tryz.func221.trans (congrArg some (by kernel_rfl))
 f36:=⟨Tryz.f242.name,by decide,Tryz.func242.trans (congrArg some (by kernel_rfl))⟩
 f37:=⟨Tryz.f243.name,by decide,Tryz.func243.trans (congrArg some (by kernel_rfl))⟩
 f38:=⟨Tryz.f244.name,by decide,Tryz.func244.trans (congrArg some (by kernel_rfl))⟩
 f39:=⟨Tryz.f245.name,by decide,Tryz.func245.trans (congrArg some (by kernel_rfl))⟩
 f41:=⟨Tryz.f247.name,by decide,Tryz.func247.trans (congrArg some (by kernel_rfl))⟩
 t0:=Tryz.underlying0
 a0:=Tryz.isAgg0
 z0:=Tryz.sizeOf0
 v0:=Tryz.zeroValue0
 t3:=Tryz.underlying3
 a3:=Tryz.isAgg3
 z3:=Tryz.sizeOf3
 v3:=Tryz.zeroValue3
 t4:=Tryz.underlying4
 a4:=Tryz.isAgg4
 z4:=Tryz.sizeOf4
 v4:=Tryz.zeroValue4
 t5:=Tryz.underlying5
 a5:=Tryz.isAgg5
 z5:=Tryz.sizeOf5
 v5:=Tryz.zeroValue5
 t9:=Tryz.underlying9
 a9:=Tryz.isAgg9
 z9:=Tryz.sizeOf9
 v9:=Tryz.zeroValue9
 t26:=Tryz.underlying170
 a26:=Tryz.isAgg170
 z26:=Tryz.sizeOf170
 v26:=Tryz.zeroValue170
 t27:=Tryz.underlying170
 a27:=Tryz.isAgg170
 z27:=Tryz.sizeOf170
 v27:=Tryz.zeroValue170
 t29:=Tryz.underlying9
 a29:=Tryz.isAgg9
 z29:=Tryz.sizeOf9
 v29:=Tryz.zeroValue9
 t32:=Tryz.underlying184
 a32:=Tryz.isAgg184
 z32:=Tryz.sizeOf184
 v32:=Tryz.zeroValue184
 t35:=Tryz.underlying202
 a35:=Tryz.isAgg202
 z35:=Tryz.sizeOf202
 v35:=Tryz.zeroValue202
 t36:=Tryz.underlying203
 a36:=Tryz.isAgg203
 z36:=Tryz.sizeOf203
 v36:=Tryz.zeroValue203
 t41:=Tryz.underlying207
 a41:=Tryz.isAgg207
 z41:=Tryz.sizeOf207
 v41:=Tryz.zeroValue207
 t44:=Tryz.underlying161
 a44:=Tryz.isAgg161
 z44:=Tryz.sizeOf161
 v44:=Tryz.zeroValue161
 t46:=Tryz.underlying157
 a46:=Tryz.isAgg157
 z46:=Tryz.sizeOf157
 v46:=Tryz.zeroValue157
 t53:=Tryz.underlying229
 a53:=Tryz.isAgg229
 z53:=Tryz.sizeOf229
 v53:=Tryz.zeroValue229
 t57:=Tryz.underlying233
 a57:=Tryz.isAgg233
 z57:=Tryz.sizeOf233
 v57:=Tryz.zeroValue233
 t63:=Tryz.underlying245
 a63:=Tryz.isAgg245
 z63:=Tryz.sizeOf245
 v63:=Tryz.zeroValue245
 t64:=Tryz.underlying246
 a64:=Tryz.isAgg246
 z64:=Tryz.sizeOf246
 v64:=Tryz.zeroValue246}
end Go.Proofs
