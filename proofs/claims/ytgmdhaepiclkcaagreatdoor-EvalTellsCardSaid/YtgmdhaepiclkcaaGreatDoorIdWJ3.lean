/- Ids, and lists of ids, in memory | What ops.sign and ops.Key return | Operations, and tables of functions by kinds, in memory -/
import Derived.Test.YtgmdhaepiclkcaaGreatDoorGrowJ9
import Derived.Test.YtgmdhaepiclkcaaGreatDoorShaDJ13
import Derived.Deep.MidRow
import Derived.Deep.WholeRow
import Derived.Laws.MakeOwn
import Derived.Laws.Tables
import Derived.OpenShut
import Derived.Lib.AppendIntMem
import Derived.Maps.OwnOps
namespace Go.Proofs.YtgmdhaepiclkcaaGreatDoor.IdW
set_option maxRecDepth 100000
open Go Go.Sort Go.RowKit Go.Lib IdM Byt
def cs (x:Idn):Array Value:=(bv x.1).toArray
theorem zbO (x:Idn):(cs x).size=32:=by simp[cs,zav,zaK x]
theorem zoV (x:Idn):(cs x).toList=bv x.1:=rfl
theorem zoW (x:Idn):(cs x).all (·.oneCell')=true:=by
 rw[Array.all_eq_true_iff_forall_mem]
 intro v hv
 exact zeh x.1 v (by simpa[cs]using hv)
theorem cs_at (x:Idn) (i:Nat) (hi:i<32):(cs x)[i]?=some (.int .u8 (x.1.getD i 0)):=by
 rw[cs,List.getElem?_toArray,zcA _ (by rw[zaK x];exact hi)]
theorem bv_inj {a b:List Int} (h:bv a=bv b):a=b:=by
 have e:∀l:List Int,(bv l).map (fun v=>match v with|.int _ n=>n|_=>0)=l:=by
  intro l
  simp only[bv,List.map_map]
  conv=>rhs;rw[←List.map_id l]
  rfl
 rw[←e a,←e b,h]
theorem cs_inj {x y:Idn} (h:cs x=cs y):x=y:=by
 apply zjB
 apply bv_inj
 unfold cs at h
 simpa using h
theorem idB (x:Idn):∀n ∈ x.1,B n:=x.2.2
def flat (l:List Idn):List Int:=l.flatMap fun x=>x.1
theorem zbk (x:Idn) (l:List Idn):flat (x::l)=x.1++flat l:=rfl
theorem zbb (a b:List Idn):flat (a++b)=flat a++flat b:=by simp[flat]
theorem zd4 (x:Idn):flat [x]=x.1:=by simp[flat]
theorem flat_length:∀l:List Idn,(flat l).length=l.length * 32
 |[]=>rfl
 |x::l=>by rw[zbk,List.length_append,zaK x,flat_length l,List.length_cons];omega
theorem zcd:∀(l:List Idn) (i j:Nat),i<l.length→j<32→(flat l).getD (i * 32+j) 0=(l.getD i nought).1.getD j 0
 |[],_,_,hi,_=>by simp at hi
 |x::l,0,j,_,hj=>by
  rw[zbk,List.getD_eq_getElem?_getD,List.getElem?_append_left (by rw[zaK x];omega),List.getD_cons_zero,List.getD_eq_getElem?_getD]
  simp
 |x::l,i+1,j,hi,hj=>by
  rw[zbk,List.getD_eq_getElem?_getD,List.getElem?_append_right (by rw[zaK x];omega),zaK x,show(i+1) * 32+j - 32=i * 32+j by omega,←List.getD_eq_getElem?_getD,zcd l i j (by simpa using hi) hj,List.getD_cons_succ]
theorem zkc:∀(l:List Idn) (n:Nat),flat (l.take n)=(flat l).take (n * 32)
 |[],n=>by simp[flat]
 |x::l,0=>by simp[flat]
 |x::l,n+1=>by
  rw[List.take_succ_cons,zbk,zbk,zkc l n,List.take_append,zaK x,show(n+1) * 32 - 32=n * 32 by omega,List.take_of_length_le (l:=x.1) (by rw[zaK x];omega)]
theorem zkd:∀(l:List Idn) (n:Nat),flat (l.drop n)=(flat l).drop (n * 32)
 |[],n=>by simp[flat]
 |x::l,0=>by simp
 |x::l,n+1=>by
  rw[List.drop_succ_cons,zbk,zkd l n,List.drop_append,zaK x,show(n+1) * 32 - 32=n * 32 by omega,List.drop_of_length_le (l:=x.1) (by rw[zaK x];omega),List.nil_append]
theorem zcG:(Tryz.prog.info? 56).map (·.size)=some 32:=by kernel_rfl
theorem zjo (x:Idn):(Tryz.prog.info? 56).map (·.size)=some (cs x).size:=by rw[zbO];exact zcG
theorem zos (x:Idn):(Tryz.prog.info? 56).map (·.size)=some (bv x.1).length:=by rw[zav,zaK x];exact zcG
theorem zhj:(Tryz.prog.info? 56).map (fun i=>(i.zero,i.size,i.bytes))=some (some (.agg (cs nought)),32,32):=by kernel_rfl
def SlI (w:World) (A:Option Addr) (cap:Nat) (l:List Idn):Prop:=
 l.length≤cap∧cap≤maxLen∧((A=none∧l=[]∧cap=0)∨∃x,A=some x∧∀i,i<(flat l).length→w.cell? (x.add i)=some (.int .u8 ((flat l).getD i 0)))
theorem SlI.nil (w:World):SlI w none 0 []:=⟨Nat.le_refl _,Nat.zero_le _,.inl ⟨rfl,rfl,rfl⟩⟩
theorem SlI.below {w w':World} {A:Option Addr} {cap:Nat} {l:List Idn} (h:SlI w A cap l) (hb:Below w.heap.size w w'):SlI w' A cap l:=by
 obtain⟨h1,h2,h5⟩:=h
 refine⟨h1,h2,?_⟩
 rcases h5 with h5|⟨x,rfl,hc⟩
 ·exact .inl h5
 ·refine .inr ⟨x,rfl,fun i hi=>?_⟩
  have hcell:=hc i hi
  exact(hb.cell (block_lt_of_cell hcell)).trans hcell
theorem SlI.plain {w:World} {A:Option Addr} {cap:Nat} {l:List Idn} (h:SlI w A cap l) (hp:0<l.length):
  ∃b off,A=some ⟨b,off,none⟩∧b<w.heap.size∧∀i,i<l.length→w.rangeAt b (off+i * 32) (bv (l.getD i nought).1):=by
 obtain⟨h1,h2,h5⟩:=h
 rcases h5 with⟨_,rfl,_⟩|⟨x,rfl,hc⟩
 ·simp at hp
 ·have hp':0<(flat l).length:=by rw[flat_length];omega
  obtain⟨b,off,rfl,hcell⟩:=ints_at hc hp'
  refine⟨b,off,rfl,block_lt_of_cell (hcell 0 hp'),fun i hi j v hv=>?_⟩
  have hj:j<32:=by
   have:=(List.getElem?_eq_some_iff.1 hv).1
   rw[zav,zaK]at this
   exact this
  rw[zcA _ (by rw[zaK];exact hj)]at hv
  rw[Nat.add_assoc,hcell (i * 32+j) (by rw[flat_length];omega),zcd l i j hi hj,hv]
theorem SlI.own {w:World} {base n:Nat} {v:Value} {l:List Idn} (h:w.ownsRow base 56 32 v n (bv (flat l))):∃A cap,v=.slice A l.length cap∧SlI w A cap l:=by
 have hn:l.length=n:=by have:=h.1;rw[zav,flat_length]at this;omega
 rcases h.2 with⟨rfl,rfl⟩|⟨g,cap,cur,rfl,hbg,hg,h1,h2,h3,h4⟩
 ·have:l=[]:=List.eq_nil_of_length_eq_zero hn
  subst this
  exact⟨none,0,rfl,SlI.nil w⟩
 ·refine⟨some ⟨g,0,none⟩,cap,by rw[hn],by omega,h2,.inr ⟨_,rfl,fun i hi=>?_⟩⟩
  have hi':=hi
  rw[flat_length]at hi'
  rw[Addr.add_lit,Nat.zero_add,h.cellAt i (by omega),zcA _ hi]
theorem zlT {w:World} {b o:Nat} {x:Idn} (h:w.rangeAt b o (bv x.1)):(Instr.loadAt 56 (.pointer (some ⟨b,o,none⟩))).run Tryz.prog w=.ok (.agg (cs x)) w:=
 run_loadAt_mid w b o 56 (bv x.1) _ h Tryz.underlying56 rfl (zos x)
theorem zab {w w':World} {b o:Nat} {x:Idn} (h:w.rangeAt b o (bv x.1)) (hb:Below w.heap.size w w'):w'.rangeAt b o (bv x.1):=fun j v hv=>by
 have hc:=h j v hv
 exact(hb.cell (block_lt_of_cell hc)).trans hc
def Box (w:World) (g:Nat) (x:Idn):Prop:=∃t,w.heap[g]?=some (.cells (cs x) t (0,0))
theorem Box.lt {w:World} {g:Nat} {x:Idn} (h:Box w g x):g<w.heap.size:=by
 obtain⟨t,ht⟩:=h
 exact(Array.getElem?_eq_some_iff.1 ht).1
theorem Box.below {w w':World} {g B:Nat} {x:Idn} (h:Box w g x) (hb:Below B w w') (hg:g<B):Box w' g x:=by
 obtain⟨t,ht⟩:=h
 exact⟨t,by rw[hb.block g hg,ht]⟩
theorem Box.range {w:World} {g:Nat} {x:Idn} (h:Box w g x):w.rangeAt g 0 (bv x.1):=fun j v hv=>by
 obtain⟨t,ht⟩:=h
 rw[Nat.zero_add,cell_of_row w g j _ t (0,0) ht,cs,List.getElem?_toArray]
 exact hv
theorem Box.cell {w:World} {g:Nat} {x:Idn} (h:Box w g x) (i:Nat) (hi:i<32):w.cell? ⟨g,i,none⟩=some (.int .u8 (x.1.getD i 0)):=by
 have:=h.range i _ (zcA x.1 (i:=i) (by rw[zaK x];exact hi))
 rwa[Nat.zero_add]at this
theorem Box.new (w:World) (x:Idn) (t:TypeId):Box (w.alloc (.cells (cs x) t)) w.heap.size x:=⟨t,heap_alloc_new w _⟩
theorem Box.alloc {w:World} {g:Nat} {x:Idn} (h:Box w g x) (o:Obj):Box (w.alloc o) g x:=h.below ((Below.refl _ _).alloc (Nat.le_refl _) _) h.lt
theorem Box.drewN {w:World} {g:Nat} {x:Idn} (h:Box w g x) (n:Nat):Box (w.drewN n) g x:=h
theorem zak {ops:Array Oper} {rest:List Oper} {o:Oper} {a:Act} {w:World} {Q:Exit→Act→World→Prop} (hgd:o.guard=none) (x:Operand) (ho:o.op=.load 56 x)
  (b off:Nat) (hx:a.eval x=.pointer (some ⟨b,off,none⟩)) (y:Idn) (hc:w.rangeAt b off (bv y.1)) (h:wpList Tryz.prog ops Q rest (a.put o.dst (.agg (cs y))) w):wpList Tryz.prog ops Q (o::rest) a w:=
 wpList_load_mid hgd 56 x ho b off hx (bv y.1) _ hc Tryz.underlying56 rfl (zos y) h
theorem zaa {ops:Array Oper} {rest:List Oper} {o:Oper} {a:Act} {w:World} {Q:Exit→Act→World→Prop} (hgd:o.guard=none) (x:Operand) (ho:o.op=.load 56 x)
  (g:Nat) (hx:a.eval x=.pointer (some ⟨g,0,none⟩)) (y:Idn) (hb:Box w g y) (h:wpList Tryz.prog ops Q rest (a.put o.dst (.agg (cs y))) w):wpList Tryz.prog ops Q (o::rest) a w:=
 zak hgd x ho g 0 hx y hb.range h
theorem zac {ops:Array Oper} {rest:List Oper} {o:Oper} {a:Act} {w:World} {Q:Exit→Act→World→Prop} (hgd:o.guard=none) (x y:Operand) (ho:o.op=.store 56 x y)
  (w0:World) (old:Array Value) (z:Idn) (t:TypeId) (hw:w=w0.alloc (.cells old t)) (g:Nat) (hx:a.eval x=.pointer (some ⟨g,0,none⟩)) (hg:g=w0.heap.size) (hy:a.eval y=.agg (cs z)) (hs:old.size=32)
  (h:wpList Tryz.prog ops Q rest (a.put o.dst undef) (w0.alloc (.cells (cs z) t))):wpList Tryz.prog ops Q (o::rest) a w:=by
 subst hw
 subst hg
 refine wpList_store_row hgd 56 x y ho w0.heap.size (cs z) hx hy t old (heap_alloc_new w0 _) (zjo z) (by rw[zbO,hs]) (zoW z) ?_
 rw[World.setRow_alloc_new]
 exact h
theorem equal (w:World) (d:Nat) (x y:Idn):(Op.equalIn (d+2) 56 (.agg (cs x)) (.agg (cs y))).run Tryz.prog w=.ok (decide (x=y)) w:=by
 obtain⟨i,hi,_,_,_⟩:=info_parts zaR
 rw[ArrEq.zmY w d Tryz.underlying56 Tryz.underlying5 hi (by kernel_rfl) (cs x) (cs y) (fun i=>x.1.getD i 0) (fun i=>y.1.getD i 0) (fun i hi=>⟨cs_at x i hi,cs_at y i hi⟩)]
 congr 1
 rw[Bool.eq_iff_iff,List.all_eq_true,decide_eq_true_eq]
 constructor
 ·intro h
  exact zgr (fun i hi=>by simpa using h i (by simpa using hi))
 ·rintro rfl i _
  simp
def NewI (l:List Idn) (w:World) (e:Ending) (w':World):Prop:=
 ∃v,e=.returned v∧w'.ownsRow w.heap.size 56 32 v l.length (bv (flat l))∧Below w.heap.size w w'
theorem zs:((.agg (cs nought):Value).cells).size=32:=by simp[Value.cells,zbO]
theorem zaE {w:World} {ops:Array Oper} {rest:List Oper} {o:Oper} {a:Act} {Q:Exit→Act→World→Prop} (hgd:o.guard=none) (s x:Operand)
  (ho:o.op=.call {callee:=.builtin .append,args:=#[s,x],argTypes:=#[23,23]})
  (base:Nat) (v:Value) (n:Nat) (xs:List Idn) (hs:a.eval s=v) (hown:w.ownsRow base 56 32 v n (bv (flat xs)))
  (A:Option Addr) (m c:Nat) (l:List Idn) (hx:a.eval x=.slice A m c) (hm:l.length=m) (hr:SlI w A c l)
  (h63:n+m≤2000000000000) (hbase:base≤w.heap.size)
  (h:∀v' w',w'.ownsRow base 56 32 v' (n+m) (bv (flat (xs++l)))→w.grownBy w' v.ownBlock→wpList Tryz.prog ops Q rest (a.put o.dst v') w'):wpList Tryz.prog ops Q (o::rest) a w:=by
 obtain⟨i,hi,z0,z1,z2⟩:=info_parts zhj
 subst hm
 obtain⟨h1,h2,h5⟩:=hr
 rcases h5 with⟨rfl,rfl,rfl⟩|⟨ad,rfl,hc⟩
 ·refine wpList_append_own_none hgd s x 23 ho base 56 i 32 Tryz.underlying23 hi v n (bv (flat xs)) hs hown hx (h v w ?_ (zaq (Below.refl _ _) _))
  simpa using hown
 ·refine wpList_append_own w hgd s x 23 ho base 56 i (.agg (cs nought)) 32 32 Tryz.underlying23 hi z0 z1 z2 zs (by decide) v n (bv (flat xs)) hs hown ad l.length c (bv (flat l)) hx (by rw[zav,flat_length]) (fun j u hu=>?_) (zeh _) (by unfold maxLen;omega) (by omega) hbase (fun v' w' a1 a2 _=>h v' w' (by rw[zbb,zbc];exact a1) a2)
  have hj:j<(flat l).length:=by
   have:=(List.getElem?_eq_some_iff.1 hu).1
   simpa[bv]using this
  rw[zcA _ hj]at hu
  rw[hc j hj,←hu]
theorem SlI.zil (w:World) (x:Idn) (t:TypeId):SlI (w.alloc (.cells (cs x) t)) (some ⟨w.heap.size,0,none⟩) 1 [x]:=by
 refine⟨Nat.le_refl _,by unfold maxLen;omega,.inr ⟨_,rfl,fun i hi=>?_⟩⟩
 rw[zd4]at hi ⊢
 rw[Addr.add_lit,Nat.zero_add]
 exact(Box.new w x t).cell i (by rw[zaK x]at hi;exact hi)
def Grew (w w':World):Prop:=∃q os,w'=grow (w.drewN q) os
theorem Grew.refl (w:World):Grew w w:=⟨0,#[],by rw[grow_empty];rfl⟩
theorem Grew.alloc {w w':World} (h:Grew w w') (o:Obj):Grew w (w'.alloc o):=by
 obtain⟨q,os,rfl⟩:=h
 exact⟨q,os++ #[o],by rw[alloc_eq_grow,grow_grow]⟩
theorem zgl (w:World) (os:Array Obj) (n:Nat):(grow w os).drewN n=grow (w.drewN n) os:=rfl
theorem drewN_drewN (w:World) (m n:Nat):(w.drewN m).drewN n=w.drewN (m+n):=by unfold World.drewN;simp[Nat.add_assoc]
theorem Grew.drewN {w w':World} (h:Grew w w') (n:Nat):Grew w (w'.drewN n):=by
 obtain⟨q,os,rfl⟩:=h
 exact⟨q+n,os,by rw[zgl,drewN_drewN]⟩
theorem Grew.drew {w w':World} (h:Grew w w'):Grew w w'.drew:=h.drewN 1
theorem Grew.trans {w w' w'':World} (h:Grew w w') (h':Grew w' w''):Grew w w'':=by
 obtain⟨q,os,rfl⟩:=h'
 obtain⟨p,os',e⟩:=h.drewN q
 exact⟨p,os'++os,by rw[e,grow_grow]⟩
theorem Grew.below {w w':World} (h:Grew w w'):Below w.heap.size w w':=by
 obtain⟨q,os,rfl⟩:=h
 exact below_grow w.heap.size w (Nat.le_refl _) q os
end Go.Proofs.YtgmdhaepiclkcaaGreatDoor.IdW
namespace Go.Proofs.YtgmdhaepiclkcaaGreatDoor.OpsK
set_option maxHeartbeats 1000000
set_option maxRecDepth 100000
open Go.RowKit Byt OpsM
theorem zae {a b:Bool} (h:a=b):Ending.returned (.bool a)=.returned (.bool b):=by rw[h]
theorem parts {x:Int} (_h:B x):(x≤47∧zdf x=false)∨(48≤x∧x≤57∧zdf x=true)∨(58≤x∧x≤96∧zdf x=false)∨(97≤x∧x≤122∧zdf x=true)∨(123≤x∧zdf x=false):=by
 have hb:zdf x=true↔(97≤x∧x≤122)∨(48≤x∧x≤57):=by
  unfold zdf
  simp only[Bool.or_eq_true,Bool.and_eq_true,decide_eq_true_eq]
 have hf:zdf x=false↔¬((97≤x∧x≤122)∨(48≤x∧x≤57)):=by
  rw[←hb]
  simp
 rw[hb,hf]
 omega
theorem sign (x:Int) (hx:B x) (w:World):
  Calls Tryz.prog 145 #[.int .u8 x] w fun e w'=>e=.returned (.bool (zdf x))∧w=w':=by
 have hB:=hx
 unfold B at hB
 obtain⟨b0,b1⟩:=hB
 rcases parts hx with⟨h1,hs⟩|⟨h1,h2,hs⟩|⟨h1,h2,hs⟩|⟨h1,h2,hs⟩|⟨h1,hs⟩
 all_goals
  have HS:=aside hs
  clear hs
  go_enter Tryz.func145,Tryz.ntmps145
  go_wp2
  go_ret
  refine⟨zae ?_,rfl⟩
  rw[HS.out]
  try (simp;try omega)
theorem zbU (l:List Int) (k:Nat) (h:k<l.length):(l.take (k+1)).all zdf=((l.take k).all zdf&&zdf (l.getD k 0)):=by
 rw[List.take_add_one,List.all_append,List.getElem?_eq_getElem h,List.getD_eq_getElem?_getD,List.getElem?_eq_getElem h]
 simp
theorem zlZ {l:List Int} (h:1≤l.length∧l.length≤8) (ha:l.all zdf=true):zbQ l=true:=by
 unfold zbQ
 simp[h.1,h.2,ha]
theorem all_false {l:List Int} {k:Nat} (h:k<l.length) (hs:zdf (l.getD k 0)=false):l.all zdf=false:=by
 rw[List.all_eq_false]
 refine⟨l[k],List.getElem_mem h,?_⟩
 rw[List.getD_eq_getElem?_getD,List.getElem?_eq_getElem h]at hs
 simpa using hs
theorem zjk {l:List Int} {k:Nat} (h:k<l.length) (hs:zdf (l.getD k 0)=false):zbQ l=false:=by
 unfold zbQ
 rw[all_false h hs]
 simp
theorem zg6 {l:List Int} (h:¬(1≤l.length∧l.length≤8)):zbQ l=false:=by
 unfold zbQ
 rw[Bool.and_eq_false_iff]
 left
 rw[Bool.and_eq_false_iff,decide_eq_false_iff_not,decide_eq_false_iff_not]
 omega
theorem byte_at (s:ByteArray) (k:Nat) (h:k<s.size):(zan s).getD k 0=(s[k].toNat:Int):=by
 unfold zan
 have h1:k<s.data.toList.length:=by simpa using h
 rw[List.getD_eq_getElem?_getD,List.getElem?_map,List.getElem?_eq_getElem h1]
 rfl
theorem key (s:ByteArray) (hs:s.size≤maxLen) (w:World):
  Calls Tryz.prog 100 #[.string s] w fun e w'=>e=.returned (.bool (zbQ (zan s)))∧w=w':=by
 unfold maxLen at hs
 have hl:=zaT s
 by_cases h1:s.size<1
 ·have HR:=aside (zg6 (l:=zan s) (by omega))
  clear hl
  go_enter Tryz.func100,Tryz.ntmps100
  go_wp2
  go_ret
  exact⟨zae HR.out.symm,rfl⟩
 ·by_cases h8:8<s.size
  ·have HR:=aside (zg6 (l:=zan s) (by omega))
   clear hl
   go_enter Tryz.func100,Tryz.ntmps100
   go_wp2
   go_ret
   exact⟨zae HR.out.symm,rfl⟩
  ·have HL:=aside hl
   clear hl
   go_enter Tryz.func100,Tryz.ntmps100
   go_wp2
   go_loop [14] (fun i=>∃k:Nat,k≤s.size∧i=.int .i64 k∧Hid (((zan s).take k).all zdf=true)) (fun i=>s.size - (intOf i).toNat)
   case atStart=>exact⟨0,Nat.zero_le _,rfl,aside (by simp)⟩
   case round=>
    obtain⟨k,hk,rfl,HA⟩:=hrel
    by_cases hlt:k<s.size
    ·have hb:=byte_at s k hlt
     have hB:B (s[k].toNat:Int):=by have:=s[k].toNat_lt;unfold B;omega
     have hsg:=sign (s[k].toNat:Int) hB
     cases hs:zdf (s[k].toNat:Int)with
     |true=>
      rw[hs]at hsg
      have HS:Hid (zdf ((zan s).getD k 0)=true):=aside (by rw[hb,hs])
      clear hb hs hB
      go_wp2_with (first|(refine(hsg _).mono ?_;rintro e w' ⟨rfl,rfl⟩))
      go_round
      case rel=>exact⟨k+1,by omega,by go_num,aside (by rw[zbU _ _ (by rw[HL.out];exact hlt),HA.out,HS.out];rfl)⟩
      case measure=>simp[intOf];omega
     |false=>
      rw[hs]at hsg
      have HS:Hid (zdf ((zan s).getD k 0)=false):=aside (by rw[hb,hs])
      clear hb hs hB
      go_wp2_with (first|(refine(hsg _).mono ?_;rintro e w' ⟨rfl,rfl⟩))
      go_ret
      exact⟨zae (zjk (by rw[HL.out];exact hlt) HS.out).symm,rfl⟩
    ·go_wp2
     go_ret
     refine⟨zae (zlZ (by rw[HL.out];omega) ?_).symm,rfl⟩
     have:=HA.out
     rwa[List.take_of_length_le (by rw[HL.out];omega)]at this
end Go.Proofs.YtgmdhaepiclkcaaGreatDoor.OpsK
namespace Go.Proofs.YtgmdhaepiclkcaaGreatDoor.OpsW
set_option maxRecDepth 100000
open Go Go.Sort Go.RowKit Go.Maps Go.ChangeMaps Byt OpsM
def opc (o:Opn):Array Value:=#[.int .i64 o.kind,.string o.key,.string o.elem,.int .i64 o.n]
theorem zoq:(Tryz.prog.info? 45).map (·.size)=some 4:=by kernel_rfl
theorem zl2 (o:Opn):(Tryz.prog.info? 45).map (·.size)=some (opc o).size:=zoq
theorem zg7 (o:Opn):(Tryz.prog.info? 45).map (·.size)=some (opc o).toList.length:=zoq
def zbP (w:World) (g:Nat) (o:Opn):Prop:=∃t,w.heap[g]?=some (.cells (opc o) t (0,0))
theorem zbP.lt {w:World} {g:Nat} {o:Opn} (h:zbP w g o):g<w.heap.size:=by
 obtain⟨t,ht⟩:=h
 exact(Array.getElem?_eq_some_iff.1 ht).1
theorem zbP.block {w w':World} {g B:Nat} {o:Opn} (h:zbP w g o) (hb:Below B w w') (hg:g<B):zbP w' g o:=by
 obtain⟨t,ht⟩:=h
 exact⟨t,by rw[hb.block g hg,ht]⟩
theorem zbP.below {w w':World} {g:Nat} {o:Opn} (h:zbP w g o) (hb:Below w.heap.size w w'):zbP w' g o:=h.block hb h.lt
theorem zbP.new (w:World) (o:Opn) (t:TypeId):zbP (w.alloc (.cells (opc o) t)) w.heap.size o:=⟨t,heap_alloc_new w _⟩
theorem zbP.alloc {w:World} {g:Nat} {o:Opn} (h:zbP w g o) (x:Obj):zbP (w.alloc x) g o:=h.below ((Below.refl _ _).alloc (Nat.le_refl _) _)
theorem zbP.range {w:World} {g:Nat} {o:Opn} (h:zbP w g o):w.rangeAt g 0 (opc o).toList:=fun j v hv=>by
 obtain⟨t,ht⟩:=h
 rw[Nat.zero_add,cell_of_row w g j _ t (0,0) ht]
 rw[Array.getElem?_toList]at hv
 exact hv
theorem zbP.kind {w:World} {g:Nat} {o:Opn} (h:zbP w g o):w.cell? ⟨g,0,none⟩=some (.int .i64 o.kind):=h.range 0 _ rfl
theorem zbP.key {w:World} {g:Nat} {o:Opn} (h:zbP w g o):w.cell? ⟨g,1,none⟩=some (.string o.key):=h.range 1 _ rfl
theorem zbP.elem {w:World} {g:Nat} {o:Opn} (h:zbP w g o):w.cell? ⟨g,2,none⟩=some (.string o.elem):=h.range 2 _ rfl
theorem zbP.n {w:World} {g:Nat} {o:Opn} (h:zbP w g o):w.cell? ⟨g,3,none⟩=some (.int .i64 o.n):=h.range 3 _ rfl
theorem zbP.load {w:World} {g:Nat} {o:Opn} (h:zbP w g o):(Instr.loadAt 45 (.pointer (some ⟨g,0,none⟩))).run Tryz.prog w=.ok (.agg (opc o)) w:=
 run_loadAt_mid w g 0 45 (opc o).toList _ h.range Tryz.underlying45 rfl (zg7 o)
theorem zbR {ops:Array Oper} {rest:List Oper} {o:Oper} {a:Act} {w:World} {Q:Exit→Act→World→Prop} (hgd:o.guard=none) (x:Operand) (ho:o.op=.load 45 x)
  (g:Nat) (hx:a.eval x=.pointer (some ⟨g,0,none⟩)) (y:Opn) (hc:zbP w g y) (h:wpList Tryz.prog ops Q rest (a.put o.dst (.agg (opc y))) w):wpList Tryz.prog ops Q (o::rest) a w:=
 wpList_load_mid hgd 45 x ho g 0 hx (opc y).toList _ hc.range Tryz.underlying45 rfl (zg7 y) h
theorem zhl {ops:Array Oper} {C:World→Prop} {Q:Act→Prop} {a:Act} {o:Oper} {rest:List Oper} (hgd:o.guard=none) (x:Operand) (ho:o.op=.load 45 x)
  (g:Nat) (hx:a.eval x=.pointer (some ⟨g,0,none⟩)) (y:Opn) (hc:∀w,C w→zbP w g y) (h:wpQuiet Tryz.prog ops C Q rest (a.put o.dst (.agg (opc y)))):wpQuiet Tryz.prog ops C Q (o::rest) a:=by
 refine BigFrame.wpQuiet_want (by simp[Region.wanted,hgd]) (fun K hK=>⟨.agg (opc y),fun w hw=>?_,hK _ h⟩)
 have q:=(hc w hw).load
 unfold Oper.quietAt execOp
 simp only[ho,hx,Sem.run_bind,q,Result.andThen_ok,Sem.run_pure]
 exact⟨rfl,rfl⟩
theorem zcL {l:List Oper} {i:Nat} {o:Oper} {r:List (Nat×Bool)} {a:Act} {w:World} {Q:Exit→Act→World→Prop} (hn:Grow.nth l i=some o) (hgd:o.guard=none) (x:Operand) (ho:o.op=.load 45 x)
  (g:Nat) (hx:a.eval x=.pointer (some ⟨g,0,none⟩)) (y:Opn) (hc:zbP w g y) (h:Grow.Seq Tryz.prog l.toArray Q r (a.put o.dst (.agg (opc y))) w):Grow.Seq Tryz.prog l.toArray Q ((i,true)::r) a w:=
 Grow.reads hn (by unfold Grow.plain;rw[ho]) (zhl hgd x ho g hx y (fun _ ⟨p,e⟩=>by rw[e];exact hc.below (below_regrown w p.d p.os)) (wpQuiet_nil h))
theorem opc_one (o:Opn):(opc o).all (·.oneCell')=true:=by
 rw[Array.all_eq_true_iff_forall_mem]
 intro v hv
 simp only[opc,List.mem_toArray,List.mem_cons,List.not_mem_nil,or_false]at hv
 rcases hv with rfl|rfl|rfl|rfl <;> rfl
def One (w:World) (g:Nat) (v:Value):Prop:=∃t,w.heap[g]?=some (.cells #[v] t (0,0))
theorem One.lt {w:World} {g:Nat} {v:Value} (h:One w g v):g<w.heap.size:=by
 obtain⟨t,ht⟩:=h
 exact(Array.getElem?_eq_some_iff.1 ht).1
theorem One.block {w w':World} {g B:Nat} {v:Value} (h:One w g v) (hb:Below B w w') (hg:g<B):One w' g v:=by
 obtain⟨t,ht⟩:=h
 exact⟨t,by rw[hb.block g hg,ht]⟩
theorem One.below {w w':World} {g:Nat} {v:Value} (h:One w g v) (hb:Below w.heap.size w w'):One w' g v:=h.block hb h.lt
theorem One.new (w:World) (v:Value) (t:TypeId):One (w.alloc (.cells #[v] t)) w.heap.size v:=⟨t,heap_alloc_new w _⟩
theorem One.cell {w:World} {g:Nat} {v:Value} (h:One w g v):w.cell? ⟨g,0,none⟩=some v:=by
 obtain⟨t,ht⟩:=h
 rw[cell_of_row w g 0 _ t (0,0) ht]
 rfl
theorem zah (w:World) (o:Obj):Below w.heap.size w (w.alloc o):=(Below.refl _ _).alloc (Nat.le_refl _) _
def noOp:Opn:=⟨0,⟨#[]⟩,⟨#[]⟩,0⟩
def T4 (f g:Value):Array MapEntry:=#[⟨.int .i64 0,f,0⟩,⟨.int .i64 1,g,1⟩,⟨.int .i64 2,g,2⟩,⟨.int .i64 3,g,3⟩]
def TabAt (w:World) (m:Nat) (f g:Value):Prop:=w.heap[m]?=some (.map (T4 f g) 4)
theorem TabAt.lt {w:World} {m:Nat} {f g:Value} (h:TabAt w m f g):m<w.heap.size:=(Array.getElem?_eq_some_iff.1 h).1
theorem TabAt.below {w w':World} {m:Nat} {f g:Value} (h:TabAt w m f g) (hb:Below w.heap.size w w'):TabAt w' m f g:=(hb.block m h.lt).trans h
theorem lawI:Keyed Tryz.prog 3:=int_keyed Tryz.underlying3
theorem wf_i64 {k:Int} (h:I64 k):(Lit.int .i64 k).wf=true:=by
 unfold I64 at h
 simp[Lit.wf,IntKind.min,IntKind.max,IntKind.bits,IntKind.signed]
 omega
theorem keyI {k:Int} (h:I64 k):keyOf Tryz.prog 3 (.int .i64 k)=some (.int .i64 k):=keyOf_int_mk Tryz.underlying3 (wf_i64 h)
theorem find0 (w:World) (f g:Value):(Instr.findKey 3 (.int .i64 0) (T4 f g).toList).run Tryz.prog w=.ok (some (0,f)) w:=by
 simp[Instr.findKey,run_underlying Tryz.underlying3,Instr.findNow,Instr.sameNow,T4,Result.andThen]
theorem find1 (w:World) (f g:Value) {k:Int} (h:k=1∨k=2∨k=3):∃i,(Instr.findKey 3 (.int .i64 k) (T4 f g).toList).run Tryz.prog w=.ok (some (i,g)) w:=by
 rcases h with rfl|rfl|rfl
 ·exact⟨1,by simp[Instr.findKey,run_underlying Tryz.underlying3,Instr.findNow,Instr.sameNow,T4,Result.andThen]⟩
 ·exact⟨2,by simp[Instr.findKey,run_underlying Tryz.underlying3,Instr.findNow,Instr.sameNow,T4,Result.andThen]⟩
 ·exact⟨3,by simp[Instr.findKey,run_underlying Tryz.underlying3,Instr.findNow,Instr.sameNow,T4,Result.andThen]⟩
theorem findN (w:World) (f g:Value) {k:Int} (h:k<0∨3<k):(Instr.findKey 3 (.int .i64 k) (T4 f g).toList).run Tryz.prog w=.ok none w:=by
 have h0:(k == 0)=false:=by simp;omega
 have h1:(k == 1)=false:=by simp;omega
 have h2:(k == 2)=false:=by simp;omega
 have h3:(k == 3)=false:=by simp;omega
 simp[Instr.findKey,run_underlying Tryz.underlying3,Instr.findNow,Instr.sameNow,T4,Result.andThen,h0,h1,h2,h3]
theorem zbP.zhS {w:World} {g:Nat} {o:Opn} (h:zbP w g o):∀d os,(grow (redrawn w d) os).cell? ⟨g,0,none⟩=some (.int .i64 o.kind):=fun d os=>(h.below (below_regrown _ d os)).kind
theorem made (T:TypeId) (w:World):(Instr.makeMap T none).run Tryz.prog w=.ok (.map (some w.heap.size)) (w.alloc (.map #[] 0)):=by
 simp[Instr.makeMap,go_sem]
section
variable {w:World} {m:Nat} {f g:Value} {T e:TypeId} (hT: Tryz.prog.underlying T=some (.map 3 e))
include hT
theorem look0 (c:Bool) (h:TabAt w m f g):(Instr.lookup T (.map (some m)) (.int .i64 0) c).run Tryz.prog w=.ok (if c then .tuple #[f,.bool true]else f) w:=by
 simp[Instr.lookup,run_underlying hT,MapKept.run_getObj_map h,lawI.check w _ (keyI (k:=0) (by unfold I64;omega)),find0,Result.andThen]
theorem look1 (c:Bool) {k:Int} (hk:k=1∨k=2∨k=3) (h:TabAt w m f g):(Instr.lookup T (.map (some m)) (.int .i64 k) c).run Tryz.prog w=.ok (if c then .tuple #[g,.bool true]else g) w:=by
 obtain⟨i,hi⟩:=find1 w f g hk
 simp[Instr.lookup,run_underlying hT,MapKept.run_getObj_map h,lawI.check w _ (keyI (k:=k) (by unfold I64;omega)),hi,Result.andThen]
theorem lookN (c:Bool) {k:Int} (hI:I64 k) (hk:k<0∨3<k) {z:Value} (hz:(zeroValue e).run Tryz.prog w=.ok z w) (h:TabAt w m f g):(Instr.lookup T (.map (some m)) (.int .i64 k) c).run Tryz.prog w=.ok (if c then .tuple #[z,.bool false]else z) w:=by
 simp[Instr.lookup,run_underlying hT,MapKept.run_getObj_map h,lawI.check w _ (keyI hI),findN w f g hk,hz,Result.andThen]
theorem zlS (c:Bool) (h:TabAt w m f g):∀d os,(Instr.lookup T (.map (some m)) (.int .i64 0) c).run Tryz.prog (grow (redrawn w d) os)=.ok (if c then .tuple #[f,.bool true]else f) (grow (redrawn w d) os):=fun d os=>look0 hT c (h.below (below_regrown _ d os))
theorem zlR (c:Bool) {k:Int} (hk:k=1∨k=2∨k=3) (h:TabAt w m f g):∀d os,(Instr.lookup T (.map (some m)) (.int .i64 k) c).run Tryz.prog (grow (redrawn w d) os)=.ok (if c then .tuple #[g,.bool true]else g) (grow (redrawn w d) os):=fun d os=>look1 hT c hk (h.below (below_regrown _ d os))
theorem lookN_in (c:Bool) {k:Int} (hI:I64 k) (hk:k<0∨3<k) {z:Value} (hz:∀u:World,(zeroValue e).run Tryz.prog u=.ok z u) (h:TabAt w m f g):∀d os,(Instr.lookup T (.map (some m)) (.int .i64 k) c).run Tryz.prog (grow (redrawn w d) os)=.ok (if c then .tuple #[z,.bool false]else z) (grow (redrawn w d) os):=fun d os=>lookN hT c hI hk (hz _) (h.below (below_regrown _ d os))
theorem zcx {ops:Array Oper} {rest:List Oper} {o:Oper} {a:Act} {w:World} {Q:Exit→Act→World→Prop} (hgd:o.guard=none) (hd:o.dst=none) (x k v:Operand) (ho:o.op=.insert T x k v)
  (w0:World) (es:Array MapEntry) (n:Nat) (hw:w=w0.alloc (.map es n)) (m:Nat) (hx:a.eval x=.map (some m)) (hm0:m=w0.heap.size) (i:Int) (hI:I64 i) (hk:a.eval k=.int .i64 i) (hes:Instr.findNow (.int .i64) (.int .i64 i) es.toList 0=some none) (y:Value) (hv:a.eval v=y)
  (h:wpList Tryz.prog ops Q rest a (w0.alloc (.map (es.push ⟨.int .i64 i,y,n⟩) (n+1)))):wpList Tryz.prog ops Q (o::rest) a w:=by
 subst hw
 subst hm0
 refine wpList_plain hgd fun K hK=>?_
 have hm:(w0.alloc (.map es n)).heap[w0.heap.size]?=some (.map es n):=heap_alloc_new w0 _
 have hs:setBlock (w0.alloc (.map es n)) w0.heap.size (.map (es.push ⟨.int .i64 i,y,n⟩) (n+1))=w0.alloc (.map (es.push ⟨.int .i64 i,y,n⟩) (n+1)):=by
  have e:(w0.heap.push (.map es n)).setIfInBounds w0.heap.size (.map (es.push ⟨.int .i64 i,y,n⟩) (n+1))=w0.heap.push (.map (es.push ⟨.int .i64 i,y,n⟩) (n+1)):=by
   apply Array.ext_getElem?
   intro j
   simp only[Array.getElem?_setIfInBounds,Array.getElem?_push,Array.size_push]
   by_cases hj:w0.heap.size=j
   ·subst hj;simp
   ·rw[if_neg hj,if_neg (fun e=>hj e.symm),if_neg (fun e=>hj e.symm)]
  show({w0 with heap:=_}:World)={w0 with heap:=_}
  exact congrArg (fun h=>({w0 with heap:=h}:World)) e
 have hf:(Instr.findKey 3 (.int .i64 i) es.toList).run Tryz.prog (w0.alloc (.map es n))=.ok none (w0.alloc (.map es n)):=by
  simp[Instr.findKey,run_underlying Tryz.underlying3,hes,Result.andThen]
 have hrun:(Instr.mapUpdate T (.map (some w0.heap.size)) (.int .i64 i) y).run Tryz.prog (w0.alloc (.map es n))=.ok () (w0.alloc (.map (es.push ⟨.int .i64 i,y,n⟩) (n+1))):=by
  rw[←hs]
  simp[Instr.mapUpdate,run_underlying hT,MapKept.run_getObj_map hm,lawI.check _ _ (keyI hI),hf,MapKept.run_setObj_map _ hm,Result.andThen,setBlock]
 unfold Oper.wp execOp
 simp only[ho,hx,hk,hv,Sem.run_bind,hrun,Result.andThen_ok,Sem.run_pure]
 refine hK _ _ ?_
 rw[hd]
 exact h
end
end Go.Proofs.YtgmdhaepiclkcaaGreatDoor.OpsW
