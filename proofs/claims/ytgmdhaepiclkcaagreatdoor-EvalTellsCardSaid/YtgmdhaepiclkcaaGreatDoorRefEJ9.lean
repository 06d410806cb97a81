/- What the document's answer's Num, Fold, Unfold and Text of package enc | What the document's answer's Get of package enc returns | Slices of ids written out in the program's text | One id in a box | The document's reader of package commit | What the document's Event of package state returns | What the document's Key of package ops returns | What the document's May of package ops returns | What Less (of ids, and of the document's answers) and order return -/
import Derived.Test.YtgmdhaepiclkcaaGreatDoorShaDJ13
import Derived.Test.YtgmdhaepiclkcaaGreatDoorIdWJ3
import Derived.Test.YtgmdhaepiclkcaaGreatDoorRowBJ9
import Derived.Test.YtgmdhaepiclkcaaGreatDoorGrowJ9
import Derived.Test.YtgmdhaepiclkcaaGreatDoorOpsCJ2
namespace Go.Proofs.YtgmdhaepiclkcaaGreatDoor.RefE
set_option maxHeartbeats 1000000
set_option maxRecDepth 100000
open Go.RowKit Byt EncM EncC
theorem num (n:Nat) (hn:Fits n) (w:World):
  Calls Tryz.prog 163 #[.int .u64 n] w (New (zaO n) w):=by
 have hten:=zaZ hn.lt
 go_enter Tryz.func163,Tryz.ntmps163
 go_wp2_with fail
 go_loopw [0,3] (fun k v wr=>∃(m:Nat) (pre:List Int),k=.int .u64 m∧Fits m∧Hid (zaO n=pre++zaO m)∧Hid (wr.ownsRow w.heap.size 5 1 v pre.length (bv pre))∧Below w.heap.size w wr) (fun k _ _=>(intOf k).toNat)
 case atStart=>exact⟨n,[],rfl,hn,rfl,World.ownsRow_nil _ _ _ _,Below.refl _ _⟩
 case round=>
  obtain⟨m,pre,rfl,hm,HN,HO,hb⟩:=hrel
  have hlen:pre.length+(zaO m).length≤10:=by
   have:=HN.out
   rw[this,List.length_append]at hten
   exact hten
  have hs:=hb.size
  by_cases hlt:m<128
  ·go_wp2_with (refine zau rfl (.tmp 15) (.tmp 18) 114 rfl w.heap.size 5 Tryz.underlying114 zaR _ pre.length pre rfl (HO.out.alloc _) _ 1 1 [(m:Int)] rfl rfl (Sl.zil _ _ _ ?c1) (by omega) (by simp;omega) ?_;(case c1=>unfold B;omega);intro v1 w1 hown1 hg1;have hb1:Below w.heap.size w w1:=below_grown (hb.alloc hs _) (by simp;omega) hg1 (fun k hk=>(HO.out.lt k hk).1);have HO1:=aside hown1;clear hown1 hg1)
   go_ret
   refine⟨v1,rfl,?_,hb1⟩
   rw[HN.out,za7 hlt]
   simpa using HO1.out
  ·have he:[(m:Int) % 128+128]=[((m % 128+128:Nat):Int)]:=by congr 1
   have HE:=aside he
   clear he
   have hw:IntKind.u64.wrap ((m:Int) / 128)=(m:Int) / 128:=by rw[IntKind.wrap_u64];have:=hm.lt;omega
   go_wp2_with (refine zau rfl (.tmp 6) (.tmp 11) 114 rfl w.heap.size 5 Tryz.underlying114 zaR _ pre.length pre rfl (HO.out.alloc _) _ 1 1 [(m:Int) % 128+128] rfl rfl (Sl.zil _ _ _ ?c1) (by omega) (by simp;omega) ?_;(case c1=>unfold B;omega);intro v1 w1 hown1 hg1;rw[HE.out]at hown1;have hb1:Below w.heap.size w w1:=below_grown (hb.alloc hs _) (by simp;omega) hg1 (fun k hk=>(HO.out.lt k hk).1);have HO1:=aside hown1;clear hown1 hg1)
   go_roundw
   case rel=>
    refine⟨m / 128,pre++[((m % 128+128:Nat):Int)],by simp,hm.le (by omega),?_,by simpa using HO1,hb1⟩
    have:=HN.out
    rw[zc7 (n:=m) (by omega)]at this
    exact aside (by rw[this];simp)
   case measure=>simp[intOf];omega
theorem fold (k:Int) (hk: -9223372036854775808≤k∧k≤9223372036854775807) (w:World):
  Calls Tryz.prog 164 #[.int .i64 k] w fun e w'=>e=.returned (.int .u64 (foldI k))∧w=w':=by
 obtain⟨h1,h2⟩:=hk
 by_cases h0:0≤k
 ·go_enter Tryz.func164,Tryz.ntmps164
  go_wp2
  go_ret
  exact⟨zcn (by unfold foldI;rw[if_pos h0]),rfl⟩
 ·go_enter Tryz.func164,Tryz.ntmps164
  go_wp2
  go_ret
  exact⟨zcn (by unfold foldI;rw[if_neg (by omega)]),rfl⟩
theorem text (s:ByteArray) (hs:s.size≤1099511627776) (w:World):
  Calls Tryz.prog 193 #[.string s] w (New (zbB (zan s)) w):=by
 have hn:=num s.size (by unfold Fits;omega) w
 have hl:=zi7 9 s.size (by omega)
 go_enter Tryz.func193,Tryz.ntmps193
 go_wp2_with fail
 refine hn.mono ?_
 clear hn
 rintro e w1 ⟨v,rfl,hown,hb⟩
 have HO:=aside hown
 clear hown
 have hs1:=hb.size
 go_wp2_with (refine zbK rfl (.tmp 6) (.tmp 7) 114 9 rfl w.heap.size 5 Tryz.underlying114 Tryz.underlying9 zaR v _ (zaO s.size) rfl HO.out s rfl (by omega) hs1 ?_;intro v2 w2 hown2 hg2;have hb2:Below w.heap.size w w2:=below_grown hb hs1 hg2 (fun k hk=>(HO.out.lt k hk).1);have HO2:=aside hown2;clear hown2 hg2)
 go_ret
 refine⟨v2,rfl,?_,hb2⟩
 have h:=HO2.out
 unfold zbB
 rw[zaT,List.length_append,zaT]
 exact h
end Go.Proofs.YtgmdhaepiclkcaaGreatDoor.RefE
namespace Go.Proofs.YtgmdhaepiclkcaaGreatDoor.RefF
set_option maxRecDepth 100000
open Go.RowKit Byt BytR EncM EncC RefE
end Go.Proofs.YtgmdhaepiclkcaaGreatDoor.RefF
namespace Go.Proofs.YtgmdhaepiclkcaaGreatDoor.IdB
set_option maxRecDepth 100000
open Go Go.RowKit IdM Byt IdW
theorem fold_at:∀(l:List Value) (s k:Nat) (base:Array Value) (i:Nat),
  ((l.zipIdx s).foldl (fun cs (x:Value×Nat)=>cs.setIfInBounds (k+x.2) x.1) base)[i]?=if k+s≤i∧i<k+s+l.length∧i<base.size then l[i - (k+s)]? else base[i]?
 |[],s,k,base,i=>by
  rw[List.zipIdx_nil,List.foldl_nil,if_neg (by simp;omega)]
 |v::l,s,k,base,i=>by
  rw[List.zipIdx_cons,List.foldl_cons,fold_at l (s+1) k _ i]
  simp only[Array.size_setIfInBounds,List.length_cons,Array.getElem?_setIfInBounds]
  by_cases h1:k+(s+1)≤i∧i<k+(s+1)+l.length∧i<base.size
  ·rw[if_pos h1,if_pos (by omega),show i - (k+s)=(i - (k+(s+1)))+1 by omega,List.getElem?_cons_succ]
  ·rw[if_neg h1]
   by_cases h2:k+s=i
   ·subst h2
    by_cases h3:k+s<base.size
    ·rw[if_pos rfl,if_pos h3,if_pos (by omega),Nat.sub_self,List.getElem?_cons_zero]
    ·rw[if_pos rfl,if_neg h3,if_neg (by omega),Array.getElem?_eq_none (by omega)]
   ·rw[if_neg h2,if_neg (by omega)]
theorem zhz (pre olds:List Idn) (o y:Idn) (k:Nat) (hk:pre.length=k):
  (cs y).zipIdx.foldl (fun c (x:Value×Nat)=>c.setIfInBounds (k * 32+x.2) x.1) (bv (flat (pre++o::olds))).toArray=(bv (flat (pre++y::olds))).toArray:=by
 subst hk
 have e:(cs y).zipIdx.foldl (fun c (x:Value×Nat)=>c.setIfInBounds (pre.length * 32+x.2) x.1) (bv (flat (pre++o::olds))).toArray=((bv y.1).zipIdx 0).foldl (fun c (x:Value×Nat)=>c.setIfInBounds (pre.length * 32+x.2) x.1) (bv (flat (pre++o::olds))).toArray:=by
  rw[←Array.foldl_toList]
  simp[cs]
 rw[e]
 apply Array.ext_getElem?
 intro i
 rw[fold_at]
 simp only[Nat.add_zero,zav,zaK,List.getElem?_toArray,List.size_toArray,flat_length]
 have L:∀z:Idn,(bv (flat (pre++z::olds)))=bv (flat pre)++(bv z.1++bv (flat olds)):=fun z=>by rw[zbb,zbk,zbc,zbc]
 have lp:(bv (flat pre)).length=pre.length * 32:=by rw[zav,flat_length]
 have lz:∀z:Idn,(bv z.1).length=32:=fun z=>by rw[zav,zaK]
 simp only[List.length_append,List.length_cons]
 rw[L,L]
 by_cases h1:i<pre.length * 32
 ·rw[if_neg (by omega),List.getElem?_append_left (by omega),List.getElem?_append_left (by omega)]
 ·by_cases h2:i<pre.length * 32+32
  ·rw[if_pos (by omega),List.getElem?_append_right (by omega),lp,List.getElem?_append_left (by rw[lz];omega)]
  ·have key:∀z:Idn,(bv (flat pre)++(bv z.1++bv (flat olds)))[i]?=(bv (flat olds))[i - pre.length * 32 - 32]?:=fun z=>by
    rw[List.getElem?_append_right (by omega),lp,List.getElem?_append_right (by rw[lz];omega),lz]
   rw[if_neg (by omega),key,key]
theorem zl7:∀(ys pre olds:List Idn) (k:Nat),pre.length=k→olds.length=ys.length→
  Instr.fill (fun i=>some (i * 32,32)) (bv (flat (pre++olds))).toArray ((ys.zipIdx k).map fun(x:Idn×Nat)=>(x.2,.agg (cs x.1)))=some (bv (flat (pre++ys))).toArray
 |[],pre,olds,k,_,ho=>by
  have:olds=[]:=List.eq_nil_of_length_eq_zero (by simpa using ho)
  subst this
  rfl
 |y::ys,pre,[],k,_,ho=>by simp at ho
 |y::ys,pre,o::olds,k,hk,ho=>by
  have ih:=zl7 ys (pre++[y]) olds (k+1) (by simp[hk]) (by simpa using ho)
  rw[List.append_assoc,List.append_assoc,List.singleton_append,List.singleton_append]at ih
  rw[List.zipIdx_cons,List.map_cons]
  have hc:¬((decide ((Value.agg (cs y)).cells.size≠32)||decide (k * 32+(Value.agg (cs y)).cells.size > (bv (flat (pre++o::olds))).toArray.size))=true):=by
   simp only[Value.cells,zbO,List.size_toArray,zav,flat_length,List.length_append,List.length_cons]
   simp
   omega
  have e:=zhz pre olds o y k hk
  show(if((decide ((Value.agg (cs y)).cells.size≠32)||decide (k * 32+(Value.agg (cs y)).cells.size > (bv (flat (pre++o::olds))).toArray.size))=true)then none else Instr.fill (fun i=>some (i * 32,32)) ((cs y).zipIdx.foldl (fun c (x:Value×Nat)=>c.setIfInBounds (k * 32+x.2) x.1) (bv (flat (pre++o::olds))).toArray) ((ys.zipIdx (k+1)).map fun(x:Idn×Nat)=>(x.2,.agg (cs x.1))))=_
  rw[if_neg hc,e]
  exact ih
theorem zeros (z:Idn) (n:Nat):(Array.range (n * 32)).map (fun i=>(cs z)[i % (cs z).size]!)=(bv (flat (List.replicate n z))).toArray:=by
 apply Array.ext_getElem?
 intro i
 have e:(bv (flat (List.replicate n z))).toArray[i]?=(bv (flat (List.replicate n z)))[i]?:=by simp
 rw[e]
 by_cases hi:i<n * 32
 ·have hm:i % 32<32:=by omega
  have f:=zcd (List.replicate n z) (i / 32) (i % 32) (by simp;omega) hm
  rw[show i / 32 * 32+i % 32=i by omega]at f
  rw[zcA _ (by rw[flat_length];simpa using hi),f]
  have q:(List.replicate n z).getD (i / 32) nought=z:=by
   rw[List.getD_eq_getElem?_getD,List.getElem?_replicate,if_pos (by omega)]
   rfl
  rw[q]
  simp only[Array.getElem?_map,Array.getElem?_range,if_pos hi,Option.map_some,zbO]
  rw[Array.getElem!_eq_getD,Array.getD_eq_getD_getElem?,cs_at z _ hm]
  rfl
 ·rw[Array.getElem?_eq_none (by simp;omega),List.getElem?_eq_none (by rw[zav,flat_length];simp;omega)]
theorem zlm (w:World):(zeroValue 56).run Tryz.prog w=.ok (.agg (cs nought)) w:=by
 obtain⟨i,hi,z0,z1,_⟩:=info_parts zhj
 simp[zeroValue,typeInfo,hi,z0]
theorem zlx (w:World):(sizeOf 56).run Tryz.prog w=.ok 32 w:=by
 obtain⟨i,hi,z0,z1,_⟩:=info_parts zhj
 simp[sizeOf,typeInfo,hi,z1]
theorem run_build (w:World) (ys:List Idn) (h0:0<ys.length) (h1:ys.length≤100):
  (Instr.buildSlice 23 ys.length (ys.zipIdx.map fun(x:Idn×Nat)=>(x.2,.agg (cs x.1))).toArray).run Tryz.prog w=.ok (.slice (some ⟨w.heap.size,0,none⟩) ys.length ys.length) (w.alloc (.cells (bv (flat ys)).toArray 56)):=by
 have n1:¬ys.length * 32 > 2 ^ 24:=by omega
 have n2:¬ys.length * 32=0:=by omega
 have f:=zl7 ys [] (List.replicate ys.length nought) 0 rfl (by simp)
 rw[List.nil_append,List.nil_append]at f
 have zr:=zeros nought ys.length
 have zv:=zlm
 have sv:=zlx
 generalize nought=z at f zr zv
 unfold Instr.buildSlice
 simp only[Sem.run_bind,run_underlying Tryz.underlying23,Result.andThen_ok,sv,n1,n2,if_false,Sem.run_pure,zv,Value.cells,zr,f,newRow]
 rfl
theorem zf7 (w:World) (y:Idn):(Instr.buildSlice 23 1 #[(0,.agg (cs y))]).run Tryz.prog w=.ok (.slice (some ⟨w.heap.size,0,none⟩) 1 1) (w.alloc (.cells (cs y) 56)):=by
 have:=run_build w [y] (by simp) (by simp)
 rw[zd4]at this
 exact this
theorem zat {w:World} {ops:Array Oper} {rest:List Oper} {o:Oper} {a:Act} {Q:Exit→Act→World→Prop} (hgd:o.guard=none) (x:Operand) (ho:o.op=.buildSlice 23 1 #[(0,x)])
  (y:Idn) (hx:a.eval x=.agg (cs y)) (h:wpList Tryz.prog ops Q rest (a.put o.dst (.slice (some ⟨w.heap.size,0,none⟩) 1 1)) (w.alloc (.cells (cs y) 56))):wpList Tryz.prog ops Q (o::rest) a w:=by
 refine wpList_plain hgd fun K hK=>?_
 unfold Oper.wp execOp
 simp only[ho,List.map_toArray,List.map_cons,List.map_nil,hx,Sem.run_bind,zf7,Result.andThen_ok,Sem.run_pure]
 exact hK _ _ h
end Go.Proofs.YtgmdhaepiclkcaaGreatDoor.IdB
namespace Go.Proofs.YtgmdhaepiclkcaaGreatDoor.IdJ
set_option maxRecDepth 100000
open Go Go.RowKit IdM Byt IdW IdB
theorem Box.put {w:World} {g:Nat} {x y:Idn} (h:Box w g x) (i:Nat) (v:Value) (e:(cs x).setIfInBounds i v=cs y):Box (w.setCell ⟨g,i,none⟩ v) g y:=by
 obtain⟨t,ht⟩:=h
 exact⟨t,by rw[heap_setCell_same w g i (cs x) t v ht,e]⟩
theorem Box.row {w:World} {g:Nat} {x:Idn} (h:Box w g x) (y:Idn):Box (w.setRow g (cs y)) g y:=by
 obtain⟨t,ht⟩:=h
 exact⟨t,setRow_heap w g (cs x) (cs y) t (0,0) ht⟩
theorem zbl {B g:Nat} {w0 w:World} (hb:Below B w0 w) (hg:B≤g) (c:Array Value):Below B w0 (w.setRow g c):=
 hb.trans ⟨rfl,rfl,rfl,by simp[World.setRow],fun k hk=>setRow_other w g k c (by omega)⟩
theorem zad {ops:Array Oper} {rest:List Oper} {o:Oper} {a:Act} {w:World} {Q:Exit→Act→World→Prop} (hgd:o.guard=none) (x y:Operand) (ho:o.op=.store 56 x y)
  (g:Nat) (hx:a.eval x=.pointer (some ⟨g,0,none⟩)) (old z:Idn) (hb:Box w g old) (hy:a.eval y=.agg (cs z))
  (h:wpList Tryz.prog ops Q rest (a.put o.dst undef) (w.setRow g (cs z))):wpList Tryz.prog ops Q (o::rest) a w:=by
 obtain⟨t,ht⟩:=hb
 exact wpList_store_row hgd 56 x y ho g (cs z) hx hy t (cs old) ht (zjo z) (by rw[zbO,zbO]) (zoW z) h
theorem build0 (w:World):(Instr.build 56 #[]).run Tryz.prog w=.ok (.agg (cs nought)) w:=Go.run_build w 56 _ _ (by kernel_rfl)
theorem zcJ {ops:Array Oper} {rest:List Oper} {o:Oper} {a:Act} {w:World} {Q:Exit→Act→World→Prop} (hgd:o.guard=none) (ho:o.op=.build 56 #[])
  (h:wpList Tryz.prog ops Q rest (a.put o.dst (.agg (cs nought))) w):wpList Tryz.prog ops Q (o::rest) a w:=by
 refine wpList_plain hgd fun K hK=>?_
 unfold Oper.wp execOp
 simp only[ho,List.map_toArray,List.map_nil,Sem.run_bind,build0,Result.andThen_ok,Sem.run_pure]
 exact hK _ _ h
theorem zax {ops:Array Oper} {rest:List Oper} {o:Oper} {a:Act} {w:World} {Q:Exit→Act→World→Prop} (hgd:o.guard=none) (ho:o.op=.alloc 56)
  (h:wpList Tryz.prog ops Q rest (a.put o.dst (.pointer (some ⟨w.heap.size,0,none⟩))) (w.alloc (.cells (cs nought) 56))):wpList Tryz.prog ops Q (o::rest) a w:=by
 refine wpList_plain hgd fun K hK=>?_
 have zv:=zlm w
 unfold Oper.wp execOp
 simp only[ho,Instr.alloc,newVar,newRow,Sem.run_bind,zv,Result.andThen_ok,Sem.run_pure,Value.cells]
 exact hK _ _ h
theorem zdV {fn:Func} {p q:Tmp} (h:fn.results= #[.cell p 56,.tmp q]) (tmps:Array Value) (w:World) (g:Nat) (x:Idn) (v:Value)
  (hp:tmps.getD p undef=.pointer (some ⟨g,0,none⟩)) (hq:tmps.getD q undef=v) (hg:Box w g x):(results fn tmps).run Tryz.prog w=.ok (.tuple #[.agg (cs x),v]) w:=by
 obtain⟨t,ht⟩:=hg
 have hp':tmps[p]?.getD undef=.pointer (some ⟨g,0,none⟩):=by simpa using hp
 have hq':tmps[q]?.getD undef=v:=by simpa using hq
 simp[results,h,hp',hq',asAddr,run_loadVar_row w g t 56 (cs x) (0,0) _ ht Tryz.underlying56 rfl (zjo x)]
end Go.Proofs.YtgmdhaepiclkcaaGreatDoor.IdJ
namespace Go.Proofs.YtgmdhaepiclkcaaGreatDoor.CmD
set_option maxRecDepth 100000
open Go Go.Sort Go.RowKit Byt EncM EncC IdM IdW IdB OpsM CmM StW CmW
def isU8:Value→Bool
 |.int .u8 _=>true
 |_=>false
def NoU8 (w:World) (g:Nat):Prop:=∀j v,w.cell? ⟨g,j,none⟩=some v→isU8 v=false
theorem far_cell {w w':World} {g:Nat} {x:Addr} {n:Int} (h:w.cell? x=some (.int .u8 n)) (hn:NoU8 w g) (hg:w.grownBy w' (some g)):w'.cell? x=some (.int .u8 n):=by
 have hlt:=block_lt_of_cell h
 have hne:some x.block≠some g:=by
  intro e
  injection e with e
  have hs:=World.cell?_spot h
  have:x=⟨g,x.off,none⟩:=by
   cases x with
   |mk b o s=>
    simp only at e hs
    rw[e,hs]
  rw[this]at h
  have:=hn _ _ h
  cases this
 unfold World.cell? at h ⊢
 rw[hg.block _ hlt hne]
 exact h
theorem znB {w w':World} {g cap:Nat} {A:Option Addr} {l:List Idn} (h:SlI w A cap l) (hn:NoU8 w g) (hg:w.grownBy w' (some g)):SlI w' A cap l:=by
 obtain⟨h1,h2,h5⟩:=h
 refine⟨h1,h2,?_⟩
 rcases h5 with h5|⟨x,rfl,hc⟩
 ·exact .inl h5
 ·exact .inr ⟨x,rfl,fun i hi=>far_cell (hc i hi) hn hg⟩
theorem no_cm {w:World} {g:Nat} {c:Cv} (h:Cel.Box CE w g c):NoU8 w g:=by
 intro j v hv
 obtain⟨t,ht⟩:=h
 rw[cell_of_row w g j _ t (0,0) ht,List.getElem?_toArray]at hv
 match j,hv with
 |0,hv=>simp[CE]at hv;rw[←hv];rfl
 |1,hv=>simp[CE]at hv;rw[←hv];rfl
 |2,hv=>simp[CE]at hv;rw[←hv];rfl
 |3,hv=>simp[CE]at hv;rw[←hv];rfl
 |4,hv=>simp[CE]at hv;rw[←hv];rfl
 |5,hv=>simp[CE]at hv;rw[←hv];rfl
 |6,hv=>simp[CE]at hv;rw[←hv];rfl
 |7,hv=>simp[CE]at hv;rw[←hv];rfl
 |j+8,hv=>simp[CE]at hv
structure Turned (g:Nat) (w w':World):Prop where
 grown:w.grownBy w' (some g)
 below:∀B,B≤g→Below B w w'
theorem Turned.trans {g:Nat} {w w1 w2:World} (h:Turned g w w1) (k:Turned g w1 w2):Turned g w w2:=⟨h.grown.trans k.grown,fun B hB=>(h.below B hB).trans (k.below B hB)⟩
end Go.Proofs.YtgmdhaepiclkcaaGreatDoor.CmD
namespace Go.Proofs.YtgmdhaepiclkcaaGreatDoor.StR
set_option maxHeartbeats 4000000
set_option maxRecDepth 100000
open Go Go.RowKit Byt StM StW
theorem zce (v:Ev) (w:World):Calls Tryz.prog 161 #[.agg (ec v)] w fun e w'=>e=.returned (.bool (zbs v.node v.seq))∧Below w.heap.size w w':=by
 have R:Cel.Box EE (w.alloc (.cells (ec v) 43)) w.heap.size v:=Cel.Box.new w v _
 have kb:=zah w (.cells (ec v) 43)
 obtain⟨c0,c1⟩:=zfZ R
 clear R
 obtain⟨r,hr⟩:∃r,zbs v.node v.seq=r:=⟨_,rfl⟩
 have hn:r=zbs v.node v.seq:=hr.symm
 rw[hr]
 unfold zbs at hn
 clear hr
 obtain⟨n,hnn⟩:∃n,v.node=n:=⟨_,rfl⟩
 obtain⟨s,hs⟩:∃s,v.seq=s:=⟨_,rfl⟩
 rw[hnn]at c0 hn
 rw[hs]at c1 hn
 clear hnn hs
 have HN:=aside hn
 clear hn
 have hw:¬0≤n∨(0≤n∧(¬n<8∨(n<8∧(¬1≤s∨1≤s)))):=by omega
 rcases hw with p2|⟨p2,p3|⟨p3,p4|p4⟩⟩
 ·have HR:Hid (r=false):=aside (by rw[HN.out];simp;omega)
  clear HN
  go_enter Tryz.func161,Tryz.ntmps161
  go_wp2
  go_ret
  exact⟨StW.zae HR.out.symm,kb⟩
 ·have HR:Hid (r=false):=aside (by rw[HN.out];simp;omega)
  clear HN
  go_enter Tryz.func161,Tryz.ntmps161
  go_wp2
  go_ret
  exact⟨StW.zae HR.out.symm,kb⟩
 ·have HR:Hid (r=false):=aside (by rw[HN.out];simp;omega)
  clear HN
  go_enter Tryz.func161,Tryz.ntmps161
  go_wp2
  go_ret
  exact⟨StW.zae HR.out.symm,kb⟩
 ·have HR:Hid (r=decide (s≤1048576)):=aside (by rw[HN.out];simp[p2,p3,p4])
  clear HN
  go_enter Tryz.func161,Tryz.ntmps161
  go_wp2
  go_ret
  exact⟨StW.zae HR.out.symm,kb⟩
end Go.Proofs.YtgmdhaepiclkcaaGreatDoor.StR
namespace Go.Proofs.YtgmdhaepiclkcaaGreatDoor.OpsR
set_option maxHeartbeats 2000000
set_option maxRecDepth 100000
open Go Go.RowKit Byt OpsM OpsK
theorem key_any (s:ByteArray) (hs:s.size≤maxLen) (w:World):
  Calls Tryz.prog 79 #[.string s] w fun e w'=>e=.returned (.bool (zbQ (zan s)))∧w=w':=by
 unfold maxLen at hs
 have hl:=zaT s
 have HL:=aside hl
 clear hl
 go_enter Tryz.func79,Tryz.ntmps79
 go_wp2
 go_loop [3] (fun i=>∃k:Nat,k≤s.size∧i=.int .i64 k∧Hid (((zan s).take k).all zdf=true)) (fun i=>s.size - (intOf i).toNat)
 case atStart=>exact⟨0,Nat.zero_le _,rfl,aside (by simp)⟩
 case round=>
  obtain⟨k,hk,rfl,HA⟩:=hrel
  by_cases hlt:k<s.size
  ·have hb:=byte_at s k hlt
   have hB:B (s[k].toNat:Int):=by have:=s[k].toNat_lt;unfold B;omega
   have hp:=parts hB
   have hB0:0≤(s[k].toNat:Int):=by omega
   rcases hp with⟨h1,hs⟩|⟨h1,h2,hs⟩|⟨h1,h2,hs⟩|⟨h1,h2,hs⟩|⟨h1,hs⟩
   ·rw[←hb]at hs
    have HS:=aside hs
    clear hs hb hB
    go_wp2
    go_ret
    exact⟨zae (zjk (by rw[HL.out];exact hlt) HS.out).symm,rfl⟩
   ·rw[←hb]at hs
    have HS:=aside hs
    clear hs hb hB
    have d57:decide ((s[k].toNat:Int)≤57)=true:=by simp;omega
    go_wp2
    go_round
    case rel=>exact⟨k+1,by omega,by go_num,aside (by rw[zbU _ _ (by rw[HL.out];exact hlt),HA.out,HS.out];rfl)⟩
    case measure=>simp[intOf];omega
   ·rw[←hb]at hs
    have HS:=aside hs
    clear hs hb hB
    have d57:decide ((s[k].toNat:Int)≤57)=false:=by simp;omega
    go_wp2
    go_ret
    exact⟨zae (zjk (by rw[HL.out];exact hlt) HS.out).symm,rfl⟩
   ·rw[←hb]at hs
    have HS:=aside hs
    clear hs hb hB
    have d122:decide ((s[k].toNat:Int)≤122)=true:=by simp;omega
    go_wp2
    go_round
    case rel=>exact⟨k+1,by omega,by go_num,aside (by rw[zbU _ _ (by rw[HL.out];exact hlt),HA.out,HS.out];rfl)⟩
    case measure=>simp[intOf];omega
   ·rw[←hb]at hs
    have HS:=aside hs
    clear hs hb hB
    have d122:decide ((s[k].toNat:Int)≤122)=false:=by simp;omega
    have d57:decide ((s[k].toNat:Int)≤57)=false:=by simp;omega
    go_wp2
    go_ret
    exact⟨zae (zjk (by rw[HL.out];exact hlt) HS.out).symm,rfl⟩
  ·have hall:=HA.out
   rw[List.take_of_length_le (by rw[HL.out];omega)]at hall
   by_cases h1:s.size<1
   ·have HR:=aside (zg6 (l:=zan s) (by rw[HL.out];omega))
    clear hall
    go_wp2
    go_ret
    exact⟨zae HR.out.symm,rfl⟩
   ·by_cases h8:8<s.size
    ·have HR:=aside (zg6 (l:=zan s) (by rw[HL.out];omega))
     clear hall
     go_wp2
     go_ret
     refine⟨zae ?_,rfl⟩
     rw[HR.out]
     simp
     omega
    ·have HR:=aside (zlZ (l:=zan s) (by rw[HL.out];omega) hall)
     clear hall
     go_wp2
     go_ret
     refine⟨zae ?_,rfl⟩
     rw[HR.out]
     simp
     omega
theorem key (s:ByteArray) (hs:s.size≤1099511627776) (w:World):
  Calls Tryz.prog 79 #[.string s] w fun e w'=>e=.returned (.bool (zbQ (zan s)))∧w=w':=key_any s (by unfold maxLen;omega) w
end Go.Proofs.YtgmdhaepiclkcaaGreatDoor.OpsR
namespace Go.Proofs.YtgmdhaepiclkcaaGreatDoor.OpsR
set_option maxHeartbeats 8000000
set_option maxRecDepth 100000
open Go Go.RowKit Go.Sort Byt OpsM OpsK OpsW OpsC
theorem may_no (o:Opn) (w:World) (hf:Fit o) (h1:o.key.size≤1099511627776) (h2:o.elem.size≤1099511627776) (hb:zbQ (zan o.key)=false):
  Calls Tryz.prog 162 #[.agg (opc o)] w fun e w'=>e=.returned (.bool (zda o))∧Below w.heap.size w w':=by
 have O1:=zbP.new w o 45
 have c0:=O1.kind
 have c1:=O1.key
 have c2:=O1.elem
 have c3:=O1.n
 have ck:=key o.key h1
 have ce:=key o.elem h2
 obtain⟨n1,n2⟩:=hf.n
 obtain⟨m1,m2⟩:=hf.kind
 rw[hb]at ck
 have HR:=aside (zg2 hb)
 obtain⟨r,hr⟩:∃r,zda o=r:=⟨_,rfl⟩
 rw[hr]at HR ⊢
 clear hr hb h1 h2 hf
 clear m1 m2 n1 n2
 go_enter Tryz.func162,Tryz.ntmps162
 go_wp2_with (first|(refine(ck _).mono ?_;rintro e w' ⟨rfl,rfl⟩;clear ck)|(refine(ce _).mono ?_;rintro e w' ⟨rfl,rfl⟩;clear ce))
 go_ret
 exact⟨zae HR.out.symm,zah _ _⟩
theorem may0 (o:Opn) (w:World) (hf:Fit o) (h1:o.key.size≤1099511627776) (h2:o.elem.size≤1099511627776) (hb:zbQ (zan o.key)=true) (hk:o.kind=0):
  Calls Tryz.prog 162 #[.agg (opc o)] w fun e w'=>e=.returned (.bool (zda o))∧Below w.heap.size w w':=by
 have O1:=zbP.new w o 45
 have c0:=O1.kind
 have c1:=O1.key
 have c2:=O1.elem
 have c3:=O1.n
 have ck:=key o.key h1
 have ce:=key o.elem h2
 obtain⟨n1,n2⟩:=hf.n
 obtain⟨m1,m2⟩:=hf.kind
 rw[hb]at ck
 have hm:=(zdK hb).trans (restB0 hk)
 rw[hk]at c0
 clear hb h1 h2 hf hk m1 m2
 obtain⟨r,hr⟩:∃r,zda o=r:=⟨_,rfl⟩
 obtain⟨be,hbe⟩:∃b,zbQ (zan o.elem)=b:=⟨_,rfl⟩
 rw[hbe]at ce
 rw[hr]at hm ⊢
 clear hr hbe
 obtain⟨n,hn⟩:∃n,o.n=n:=⟨_,rfl⟩
 rw[hn]at c3 hm n1 n2
 clear hn
 by_cases ha:n< -1048576
 ·have HR:=aside (hm.trans (zdi (by omega)))
  clear hm
  go_enter Tryz.func162,Tryz.ntmps162
  go_wp2_with (first|(refine(ck _).mono ?_;rintro e w' ⟨rfl,rfl⟩;clear ck)|(refine(ce _).mono ?_;rintro e w' ⟨rfl,rfl⟩;clear ce))
  go_ret
  exact⟨zae HR.out.symm,zah _ _⟩
 ·by_cases hb:1048576<n
  ·have HR:=aside (hm.trans (zdi (by omega)))
   clear hm
   go_enter Tryz.func162,Tryz.ntmps162
   go_wp2_with (first|(refine(ck _).mono ?_;rintro e w' ⟨rfl,rfl⟩;clear ck)|(refine(ce _).mono ?_;rintro e w' ⟨rfl,rfl⟩;clear ce))
   go_ret
   exact⟨zae HR.out.symm,zah _ _⟩
  ·by_cases h0:n=0
   ·subst h0
    have HR:=aside (hm.trans (zdi (by omega)))
    clear hm
    go_enter Tryz.func162,Tryz.ntmps162
    go_wp2_with (first|(refine(ck _).mono ?_;rintro e w' ⟨rfl,rfl⟩;clear ck)|(refine(ce _).mono ?_;rintro e w' ⟨rfl,rfl⟩;clear ce))
    go_ret
    exact⟨zae HR.out.symm,zah _ _⟩
   ·have t0:(n != 0)=true:=by simpa using h0
    by_cases he:zan o.elem=[]
    ·have HR:=aside (hm.trans (zeu.2 ⟨by omega,by omega,h0,he⟩))
     have e1:=zkh he
     have e3:o.elem.toList.isEmpty=true:=by rw[e1];rfl
     clear he h0 hm
     go_enter Tryz.func162,Tryz.ntmps162
     go_wp2_with (first|(refine(ck _).mono ?_;rintro e w' ⟨rfl,rfl⟩;clear ck)|(refine(ce _).mono ?_;rintro e w' ⟨rfl,rfl⟩;clear ce))
     go_ret
     exact⟨zae HR.out.symm,zah _ _⟩
    ·have HR:=aside (hm.trans (zdi (fun q=>he q.2.2.2)))
     have e1:=zmc he
     have e3:o.elem.toList.isEmpty=false:=by simpa using e1
     clear he h0 hm
     go_enter Tryz.func162,Tryz.ntmps162
     go_wp2_with (first|(refine(ck _).mono ?_;rintro e w' ⟨rfl,rfl⟩;clear ck)|(refine(ce _).mono ?_;rintro e w' ⟨rfl,rfl⟩;clear ce))
     go_ret
     exact⟨zae HR.out.symm,zah _ _⟩
theorem may1 (o:Opn) (w:World) (hf:Fit o) (h1:o.key.size≤1099511627776) (h2:o.elem.size≤1099511627776) (hb:zbQ (zan o.key)=true) (hk:o.kind=1∨o.kind=2∨o.kind=3):
  Calls Tryz.prog 162 #[.agg (opc o)] w fun e w'=>e=.returned (.bool (zda o))∧Below w.heap.size w w':=by
 have O1:=zbP.new w o 45
 have c0:=O1.kind
 have c1:=O1.key
 have c2:=O1.elem
 have c3:=O1.n
 have ck:=key o.key h1
 have ce:=key o.elem h2
 obtain⟨n1,n2⟩:=hf.n
 obtain⟨m1,m2⟩:=hf.kind
 rw[hb]at ck
 have hm:=(zdK hb).trans (restB1 hk)
 obtain⟨r,hr⟩:∃r,zda o=r:=⟨_,rfl⟩
 obtain⟨be,hbe⟩:∃b,zbQ (zan o.elem)=b:=⟨_,rfl⟩
 rw[hbe]at ce
 rw[hr]at hm ⊢
 obtain⟨n,hn⟩:∃n,o.n=n:=⟨_,rfl⟩
 have hm2:r=(be&&decide (n=0)):=by rw[hm];unfold zgO;rw[hbe,hn]
 rw[hn]at c3 n1 n2
 have HR:=aside hm2
 clear hb h1 h2 hf hr hbe hm hm2 hn m1 m2
 rcases hk with hk|hk|hk
 all_goals
  rw[hk]at c0
  clear hk
  cases be with
  |false=>
   have HR:Hid (r=false):=HR.out
   go_enter Tryz.func162,Tryz.ntmps162
   go_wp2_with (first|(refine(ck _).mono ?_;rintro e w' ⟨rfl,rfl⟩;clear ck)|(refine(ce _).mono ?_;rintro e w' ⟨rfl,rfl⟩;clear ce))
   go_ret
   exact⟨zae HR.out.symm,zah _ _⟩
  |true=>
   by_cases h0:n=0
   ·have t0:(n == 0)=true:=by simpa using h0
    have HR:Hid (r=true):=aside (by rw[HR.out,h0];rfl)
    clear h0
    go_enter Tryz.func162,Tryz.ntmps162
    go_wp2_with (first|(refine(ck _).mono ?_;rintro e w' ⟨rfl,rfl⟩;clear ck)|(refine(ce _).mono ?_;rintro e w' ⟨rfl,rfl⟩;clear ce))
    go_ret
    exact⟨zae HR.out.symm,zah _ _⟩
   ·have t0:(n == 0)=false:=by simpa using h0
    have HR:Hid (r=false):=aside (by rw[HR.out];simpa using h0)
    clear h0
    go_enter Tryz.func162,Tryz.ntmps162
    go_wp2_with (first|(refine(ck _).mono ?_;rintro e w' ⟨rfl,rfl⟩;clear ck)|(refine(ce _).mono ?_;rintro e w' ⟨rfl,rfl⟩;clear ce))
    go_ret
    exact⟨zae HR.out.symm,zah _ _⟩
theorem mayN (o:Opn) (w:World) (hf:Fit o) (h1:o.key.size≤1099511627776) (h2:o.elem.size≤1099511627776) (hb:zbQ (zan o.key)=true) (hk:o.kind<0∨3<o.kind):
  Calls Tryz.prog 162 #[.agg (opc o)] w fun e w'=>e=.returned (.bool (zda o))∧Below w.heap.size w w':=by
 have O1:=zbP.new w o 45
 have c0:=O1.kind
 have c1:=O1.key
 have c2:=O1.elem
 have c3:=O1.n
 have ck:=key o.key h1
 have ce:=key o.elem h2
 obtain⟨n1,n2⟩:=hf.n
 obtain⟨m1,m2⟩:=hf.kind
 rw[hb]at ck
 have hm:=(zdK hb).trans (restBN hk)
 obtain⟨r,hr⟩:∃r,zda o=r:=⟨_,rfl⟩
 rw[hr]at hm ⊢
 have HR:=aside hm
 obtain⟨k,hk'⟩:∃k,o.kind=k:=⟨_,rfl⟩
 rw[hk']at c0 hk
 have t0:(k == 0)=false:=by simp;omega
 have t1:(k == 1)=false:=by simp;omega
 have t2:(k == 2)=false:=by simp;omega
 have t3:(k == 3)=false:=by simp;omega
 clear hb h1 h2 hf hr hm hk hk' m1 m2 n1 n2
 go_enter Tryz.func162,Tryz.ntmps162
 go_wp2_with (first|(refine(ck _).mono ?_;rintro e w' ⟨rfl,rfl⟩;clear ck)|(refine(ce _).mono ?_;rintro e w' ⟨rfl,rfl⟩;clear ce))
 go_ret
 exact⟨zae HR.out.symm,zah _ _⟩
theorem may (o:Opn) (w:World) (hf:Fit o) (h1:o.key.size≤1099511627776) (h2:o.elem.size≤1099511627776):
  Calls Tryz.prog 162 #[.agg (opc o)] w fun e w'=>e=.returned (.bool (zda o))∧Below w.heap.size w w':=by
 cases hb:zbQ (zan o.key)with
 |false=>exact may_no o w hf h1 h2 hb
 |true=>
  by_cases h0:o.kind=0
  ·exact may0 o w hf h1 h2 hb h0
  ·by_cases h3:o.kind=1∨o.kind=2∨o.kind=3
   ·exact may1 o w hf h1 h2 hb h3
   ·exact mayN o w hf h1 h2 hb (by omega)
end Go.Proofs.YtgmdhaepiclkcaaGreatDoor.OpsR
namespace Go.Proofs.YtgmdhaepiclkcaaGreatDoor.IdC
set_option maxHeartbeats 1000000
set_option maxRecDepth 100000
open Go Go.Sort Go.RowKit IdM Byt IdW
theorem zbv (x y:Idn) (w:World):Calls Tryz.prog 118 #[.agg (cs x),.agg (cs y)] w fun e w'=>e=.returned (.bool (less x y))∧Grew w w':=by
 have s1:=zbO x
 have s2:=zbO y
 have B1:Box ((w.alloc (.cells (cs x) 56)).alloc (.cells (cs y) 56)) w.heap.size x:=(Box.new w x _).alloc _
 have B2:Box ((w.alloc (.cells (cs x) 56)).alloc (.cells (cs y) 56)) (w.heap.size+1) y:=by
  have:=Box.new (w.alloc (.cells (cs x) 56)) y 56
  simpa using this
 have G:Grew w ((w.alloc (.cells (cs x) 56)).alloc (.cells (cs y) 56)):=((Grew.refl w).alloc _).alloc _
 obtain⟨r,hr0⟩:∃r,less x y=r:=⟨_,rfl⟩
 rw[hr0]
 have hr:=aside hr0
 clear hr0
 go_enter Tryz.func118,Tryz.ntmps118
 go_wp2_with fail
 go_loopw [6] (fun i wr=>∃k:Nat,k≤32∧i=.int .i64 k∧Hid (∀j,j<k→x.1.getD j 0=y.1.getD j 0)∧Box wr w.heap.size x∧Box wr (w.heap.size+1) y∧Grew w wr) (fun i _=>32 - (intOf i).toNat)
 case atStart=>exact⟨0,Nat.zero_le _,rfl,aside (fun j hj=>absurd hj (Nat.not_lt_zero j)),B1,B2,G⟩
 case round=>
  clear B1 B2 G
  obtain⟨k,hk,rfl,he,B1,B2,G⟩:=hrel
  by_cases hlt:k<32
  ·have c1:=B1.cell k hlt
   have c2:=B2.cell k hlt
   obtain⟨a,ha⟩:∃a,x.1.getD k 0=a:=⟨_,rfl⟩
   obtain⟨b,hb⟩:∃b,y.1.getD k 0=b:=⟨_,rfl⟩
   rw[ha]at c1
   rw[hb]at c2
   have HA:=aside ha
   have HB:=aside hb
   clear ha hb
   have p0:(k:Int)<32:=by omega
   have o0:0≤(k:Int):=by omega
   have m0:((k:Int)).toNat=k:=by omega
   by_cases hab:a=b
   ·subst hab
    go_wp2
    go_quiet (fail)
    go_wp2
    go_roundw
    case rel=>
     refine⟨k+1,by omega,by go_num,aside (fun j hj=>?_),B1.drewN _,B2.drewN _,G.drewN _⟩
     by_cases hjk:j=k
     ·subst hjk
      rw[HA.out,HB.out]
     ·exact he.out j (by omega)
    case measure=>simp[intOf];omega
   ·have hne:(a != b)=true:=by simpa using hab
    have hl:less x y=decide (a<b):=by
     rw[zoc k hlt he.out (by rw[HA.out,HB.out];exact hab),HA.out,HB.out]
    rw[hr.out]at hl
    go_wp2
    go_quiet (fail)
    go_wp2
    go_quiet (fail)
    go_wp2
    go_ret
    exact⟨by rw[hl];rfl,(G.drewN _).drewN _⟩
  ·have hk':k=32:=by omega
   have hxy:x=y:=zgr (fun i hi=>he.out i (by omega))
   have hl:less x y=false:=by rw[hxy];exact zbm _
   rw[hr.out]at hl
   go_wp2
   go_ret
   exact⟨by rw[hl];rfl,G⟩
theorem zfu (x y:Idn) (w:World):Calls Tryz.prog 134 #[.agg (cs x),.agg (cs y)] w fun e w'=>e=.returned (.bool (less x y))∧Grew w w':=by
 have s1:=zbO x
 have s2:=zbO y
 have B1:Box ((w.alloc (.cells (cs x) 56)).alloc (.cells (cs y) 56)) w.heap.size x:=(Box.new w x _).alloc _
 have B2:Box ((w.alloc (.cells (cs x) 56)).alloc (.cells (cs y) 56)) (w.heap.size+1) y:=by
  have:=Box.new (w.alloc (.cells (cs x) 56)) y 56
  simpa using this
 have G:Grew w ((w.alloc (.cells (cs x) 56)).alloc (.cells (cs y) 56)):=((Grew.refl w).alloc _).alloc _
 obtain⟨r,hr0⟩:∃r,less x y=r:=⟨_,rfl⟩
 rw[hr0]
 have hr:=aside hr0
 clear hr0
 go_enter Tryz.func134,Tryz.ntmps134
 go_wp2_with fail
 go_loopw [5] (fun i wr=>∃k:Nat,k≤32∧i=.int .i64 k∧Hid (∀j,j<k→x.1.getD j 0=y.1.getD j 0)∧Box wr w.heap.size x∧Box wr (w.heap.size+1) y∧Grew w wr) (fun i _=>32 - (intOf i).toNat)
 case atStart=>exact⟨0,Nat.zero_le _,rfl,aside (fun j hj=>absurd hj (Nat.not_lt_zero j)),B1,B2,G⟩
 case round=>
  clear B1 B2 G
  obtain⟨k,hk,rfl,he,B1,B2,G⟩:=hrel
  by_cases hlt:k<32
  ·have c1:=B1.cell k hlt
   have c2:=B2.cell k hlt
   obtain⟨a,ha⟩:∃a,x.1.getD k 0=a:=⟨_,rfl⟩
   obtain⟨b,hb⟩:∃b,y.1.getD k 0=b:=⟨_,rfl⟩
   rw[ha]at c1
   rw[hb]at c2
   have HA:=aside ha
   have HB:=aside hb
   clear ha hb
   have p0:(k:Int)<32:=by omega
   have o0:0≤(k:Int):=by omega
   have m0:((k:Int)).toNat=k:=by omega
   by_cases hab:a=b
   ·subst hab
    go_wp2
    go_quiet (fail)
    go_wp2
    go_roundw
    case rel=>
     refine⟨k+1,by omega,by go_num,aside (fun j hj=>?_),B1.drewN _,B2.drewN _,G.drewN _⟩
     by_cases hjk:j=k
     ·subst hjk
      rw[HA.out,HB.out]
     ·exact he.out j (by omega)
    case measure=>simp[intOf];omega
   ·have hne:(a != b)=true:=by simpa using hab
    have hl:less x y=decide (a<b):=by
     rw[zoc k hlt he.out (by rw[HA.out,HB.out];exact hab),HA.out,HB.out]
    rw[hr.out]at hl
    go_wp2
    go_quiet (fail)
    go_wp2
    go_quiet (fail)
    go_wp2
    go_ret
    exact⟨by rw[hl];rfl,(G.drewN _).drewN _⟩
  ·have hk':k=32:=by omega
   have hxy:x=y:=zgr (fun i hi=>he.out i (by omega))
   have hl:less x y=false:=by rw[hxy];exact zbm _
   rw[hr.out]at hl
   go_wp2
   go_ret
   exact⟨by rw[hl];rfl,G⟩
theorem zdF (x y:Idn) (w:World):Calls Tryz.prog 137 #[.agg (cs x),.agg (cs y)] w fun e w'=>e=.returned (.int .i64 (cf x y))∧Grew w w':=by
 have B1:Box ((w.alloc (.cells (cs x) 56)).alloc (.cells (cs y) 56)) w.heap.size x:=(Box.new w x _).alloc _
 have B2:Box ((w.alloc (.cells (cs x) 56)).alloc (.cells (cs y) 56)) (w.heap.size+1) y:=by
  have:=Box.new (w.alloc (.cells (cs x) 56)) y 56
  simpa using this
 have G:Grew w ((w.alloc (.cells (cs x) 56)).alloc (.cells (cs y) 56)):=((Grew.refl w).alloc _).alloc _
 have heq:=fun W=>equal W 9998 x y
 by_cases hxy:x=y
 ·subst hxy
  have hc:cf x x=0:=by simp[cf]
  simp only[decide_true]at heq
  rw[hc]
  go_enter Tryz.func137,Tryz.ntmps137
  go_wp2_with (first|(refine zaa rfl _ rfl _ rfl _ B1 ?_)|(refine zaa rfl _ rfl _ rfl _ B2 ?_))
  go_ret
  exact⟨rfl,G⟩
 ·simp only[hxy,decide_false]at heq
  cases hl:less x y with
  |true=>
   have hc:cf x y= -1:=by simp[cf,hxy,hl]
   rw[hc]
   go_enter Tryz.func137,Tryz.ntmps137
   go_wp2_with (first|(refine zaa rfl _ rfl _ rfl _ B1 ?_)|(refine zaa rfl _ rfl _ rfl _ B2 ?_))
   refine(zbv x y _).mono ?_
   rintro e w1 ⟨rfl,h1⟩
   rw[hl]
   go_wp2
   go_ret
   exact⟨rfl,G.trans h1⟩
  |false=>
   have hc:cf x y=1:=by simp[cf,hxy,hl]
   rw[hc]
   go_enter Tryz.func137,Tryz.ntmps137
   go_wp2_with (first|(refine zaa rfl _ rfl _ rfl _ B1 ?_)|(refine zaa rfl _ rfl _ rfl _ B2 ?_))
   refine(zbv x y _).mono ?_
   rintro e w1 ⟨rfl,h1⟩
   rw[hl]
   go_wp2
   go_ret
   exact⟨rfl,G.trans h1⟩
end Go.Proofs.YtgmdhaepiclkcaaGreatDoor.IdC
