/- One struct in a block of its own, whatever its fields | Slices of structs written out in the program's text, whatever their fi | One field of a struct stored, whatever its fields | One struct stored whole into a row of the call's own | Some cells of a struct, one behind the other, stored at once, whatever | One struct in a block of its own, whatever its fields, also where the | Events in memory | Two operations compared | Commits in memory -/
import Derived.Test.YtgmdhaepiclkcaaGreatDoorOpsCJ2
import Derived.Maps.AppendAt
import Derived.Test.YtgmdhaepiclkcaaGreatDoorGrowJ9
import Derived.Test.YtgmdhaepiclkcaaGreatDoorIdWJ3
namespace Go.Proofs.YtgmdhaepiclkcaaGreatDoor.RowB
set_option maxRecDepth 100000
open Go Go.RowKit Byt RowS
variable {α:Type} {E:Enc α}
def Box (E:Enc α) (w:World) (g:Nat) (x:α):Prop:=∃t,w.heap[g]?=some (.cells (E.enc x).toArray t (0,0))
theorem Box.lt {w:World} {g:Nat} {x:α} (h:Box E w g x):g<w.heap.size:=by
 obtain⟨t,ht⟩:=h
 exact(Array.getElem?_eq_some_iff.1 ht).1
theorem Box.block {w w':World} {g B:Nat} {x:α} (h:Box E w g x) (hb:Below B w w') (hg:g<B):Box E w' g x:=by
 obtain⟨t,ht⟩:=h
 exact⟨t,by rw[hb.block g hg,ht]⟩
theorem Box.below {w w':World} {g:Nat} {x:α} (h:Box E w g x) (hb:Below w.heap.size w w'):Box E w' g x:=h.block hb h.lt
theorem Box.new (w:World) (x:α) (t:TypeId):Box E (w.alloc (.cells (E.enc x).toArray t)) w.heap.size x:=⟨t,heap_alloc_new w _⟩
theorem Box.alloc {w:World} {g:Nat} {x:α} (h:Box E w g x) (o:Obj):Box E (w.alloc o) g x:=h.below ((Below.refl _ _).alloc (Nat.le_refl _) _)
theorem Box.kept {w w':World} {g r:Nat} {x:α} (h:Box E w g x) (hg:w.grownBy w' (some r)) (hne:g≠r):Box E w' g x:=by
 obtain⟨t,ht⟩:=h
 exact⟨t,by rw[hg.block g (Array.getElem?_eq_some_iff.1 ht).1 (fun e=>hne (Option.some.inj e)),ht]⟩
theorem Box.range {w:World} {g:Nat} {x:α} (h:Box E w g x):w.rangeAt g 0 (E.enc x):=fun j v hv=>by
 obtain⟨t,ht⟩:=h
 rw[Nat.zero_add,cell_of_row w g j _ t (0,0) ht,List.getElem?_toArray]
 exact hv
theorem Box.cell {w:World} {g:Nat} {x:α} (h:Box E w g x) {j:Nat} {v:Value} (hv:(E.enc x)[j]?=some v):w.cell? ⟨g,j,none⟩=some v:=by
 have:=h.range j v hv
 rwa[Nat.zero_add]at this
def Lies (E:Enc α) (w:World) (g off:Nat) (x:α):Prop:=w.rangeAt g off (E.enc x)
theorem Lies.range {w:World} {g off:Nat} {x:α} (h:Lies E w g off x):w.rangeAt g off (E.enc x):=h
theorem zaa {ops:Array Oper} {rest:List Oper} {o:Oper} {a:Act} {w:World} {Q:Exit→Act→World→Prop} (E:Enc α) (hgd:o.guard=none) (x:Operand) (ho:o.op=.load E.T x)
  (g:Nat) (hx:a.eval x=.pointer (some ⟨g,0,none⟩)) (y:α) (hb:Box E w g y) (h:wpList Tryz.prog ops Q rest (a.put o.dst (.agg (E.enc y).toArray)) w):wpList Tryz.prog ops Q (o::rest) a w:=
 zal E hgd x ho g 0 hx y hb.range h
theorem zko {B g:Nat} (w:World) (hBg:B≤g) (cs:Array Value):Below B w (w.setRow g cs):=
 ⟨rfl,rfl,rfl,by simp[World.setRow],fun k hk=>by simp only[World.setRow];rw[Array.getElem?_modify,if_neg (by omega)]⟩
theorem zac {ops:Array Oper} {rest:List Oper} {o:Oper} {a:Act} {w:World} {Q:Exit→Act→World→Prop} (E:Enc α) (hgd:o.guard=none) (x y:Operand) (ho:o.op=.store E.T x y)
  (w0:World) (old:Array Value) (t:TypeId) (hw:w=w0.alloc (.cells old t)) (z:α) (g:Nat) (hx:a.eval x=.pointer (some ⟨g,0,none⟩)) (hg:g=w0.heap.size) (hy:a.eval y=.agg (E.enc z).toArray) (hs:old.size=E.k)
  (h:∀w1,Box E w1 w0.heap.size z→Below w0.heap.size w0 w1→w0.grownBy w1 none→w1.heap.size=w0.heap.size+1→wpList Tryz.prog ops Q rest (a.put o.dst undef) w1):wpList Tryz.prog ops Q (o::rest) a w:=by
 subst hw
 subst hg
 refine wpList_store_row hgd E.T x y ho w0.heap.size (E.enc z).toArray hx hy t old (heap_alloc_new w0 _) (E.size' z) (by simp[E.len,hs]) (E.all z) ?_
 rw[World.setRow_alloc_new]
 exact h _ (Box.new w0 z t) ((Below.refl _ _).alloc (Nat.le_refl _) _) (World.grownBy_alloc w0 _ none) (by simp)
theorem zad {ops:Array Oper} {rest:List Oper} {o:Oper} {a:Act} {w:World} {Q:Exit→Act→World→Prop} (E:Enc α) (hgd:o.guard=none) (x y:Operand) (ho:o.op=.store E.T x y)
  (g:Nat) (hx:a.eval x=.pointer (some ⟨g,0,none⟩)) (old:α) (hb:Box E w g old) (z:α) (hy:a.eval y=.agg (E.enc z).toArray)
  (h:∀w1,Box E w1 g z→(∀B,B≤g→Below B w w1)→w.grownBy w1 (some g)→w1.heap.size=w.heap.size→wpList Tryz.prog ops Q rest (a.put o.dst undef) w1):wpList Tryz.prog ops Q (o::rest) a w:=by
 obtain⟨t,ht⟩:=hb
 refine wpList_store_row hgd E.T x y ho g (E.enc z).toArray hx hy t (E.enc old).toArray ht (E.size' z) (by simp[E.len]) (E.all z) ?_
 refine h _ ⟨t,setRow_heap w g _ _ t (0,0) ht⟩ (fun B hB=>zko w hB _) ⟨rfl,rfl,rfl,by simp[World.setRow],fun j _ hj=>?_⟩ (by simp[World.setRow])
 simp only[World.setRow]
 rw[Array.getElem?_modify,if_neg (fun e=>hj (by rw[e]))]
theorem zdC {w w':World} {g r o:Nat} {cs:List Value} (h:w.rangeAt g o cs) (hg:w.grownBy w' (some r)) (hlt:g<w.heap.size) (hne:g≠r):w'.rangeAt g o cs:=fun j v hv=>by
 have:=h j v hv
 unfold World.cell? at this ⊢
 rw[hg.block g hlt (fun e=>hne (Option.some.inj e))]
 exact this
theorem zfI {w:World} {g r o:Nat} {es:Array MapEntry} {clock:Nat} {c:Value} {cs:List Value} (hm:w.heap[r]?=some (.map es clock)) (h:w.rangeAt g o (c::cs)):g≠r:=by
 rintro rfl
 have:=h 0 c rfl
 unfold World.cell? at this
 simp[hm]at this
theorem zay {w:World} {ops:Array Oper} {rest:List Oper} {o:Oper} {a:Act} {Q:Exit→Act→World→Prop} (E:Enc α) (hgd:o.guard=none) (s x:Operand)
  (ho:o.op=.call {callee:=.builtin .append,args:=#[s,x],argTypes:=#[E.S,E.S]})
  (base:Nat) (v:Value) (n:Nat) (xs:List α) (hs:a.eval s=v) (hown:w.ownsRow base E.T E.k v n (flat E xs))
  (g:Nat) (y:α) (hx:a.eval x=.slice (some ⟨g,0,none⟩) 1 1) (hr:Box E w g y)
  (h63:n≤100000000) (hbase:base≤w.heap.size)
  (h:∀v' w',w'.ownsRow base E.T E.k v' (n+1) (flat E (xs++[y]))→w.grownBy w' v.ownBlock→(v'.ownBlock=v.ownBlock∨v'.ownBlock=some w.heap.size)→wpList Tryz.prog ops Q rest (a.put o.dst v') w'):wpList Tryz.prog ops Q (o::rest) a w:=by
 obtain⟨i,hi,z0,z1,z2⟩:=info_parts E.info
 have hb:(n+1) * E.bytes≤140737488355328:=by
  have h3:(n+1) * E.bytes≤100000001 * 100:=Nat.mul_le_mul (by omega) E.small
  omega
 refine wpList_append_own_at w hgd s x E.S ho base E.T i (.agg (E.enc E.zero).toArray) E.k E.bytes E.slice hi z0 z1 z2 (by simp[Value.cells,E.len]) E.pos v n (flat E xs) hs hown ⟨g,0,none⟩ 1 1 (E.enc y) hx (by rw[E.len,Nat.one_mul]) (fun j u hu=>?_) (fun u hu=>E.one y u hu) (by unfold maxLen;omega) hb hbase
  (fun v' w' a1 a2 _ a4=>h v' w' (by rw[zbb,zd4];exact a1) a2 a4)
 rw[Addr.add_lit,Nat.zero_add]
 exact hr.cell hu
theorem zaD {w:World} {ops:Array Oper} {rest:List Oper} {o:Oper} {a:Act} {Q:Exit→Act→World→Prop} (E:Enc α) (hgd:o.guard=none) (s x:Operand)
  (ho:o.op=.call {callee:=.builtin .append,args:=#[s,x],argTypes:=#[E.S,E.S]})
  (base:Nat) (v:Value) (n:Nat) (xs:List α) (hs:a.eval s=v) (wq:World) (y:α) (t:TypeId) (hw:w=wq.alloc (.cells (E.enc y).toArray t)) (hx:a.eval x=.slice (some ⟨wq.heap.size,0,none⟩) 1 1)
  (hown:wq.ownsRow base E.T E.k v n (flat E xs)) (h63:n≤100000000) (hbase:base≤wq.heap.size)
  (h:∀v' w',w'.ownsRow base E.T E.k v' (n+1) (flat E (xs++[y]))→Below base wq w'→wpList Tryz.prog ops Q rest (a.put o.dst v') w'):wpList Tryz.prog ops Q (o::rest) a w:=by
 subst hw
 refine zay E hgd s x ho base v n xs hs (hown.alloc _) wq.heap.size y hx (Box.new wq y t) h63 (by simp;omega) (fun v' w' a1 a2 _=>h v' w' a1 ?_)
 exact below_grown ((Below.refl _ _).alloc hbase _) (by simp;omega) a2 (fun q hq=>(hown.lt q hq).1)
end Go.Proofs.YtgmdhaepiclkcaaGreatDoor.RowB
namespace Go.Proofs.YtgmdhaepiclkcaaGreatDoor.RowC
set_option maxRecDepth 100000
open Go Go.RowKit Byt RowS RowB
theorem fold_at:∀(l:List Value) (s k:Nat) (base:Array Value) (i:Nat),
  ((l.zipIdx s).foldl (fun cs (x:Value×Nat)=>cs.setIfInBounds (k+x.2) x.1) base)[i]?=if k+s≤i∧i<k+s+l.length∧i<base.size then l[i - (k+s)]? else base[i]?
 |[],s,k,base,i=>by
  rw[List.zipIdx_nil,List.foldl_nil,if_neg (by simp;omega)]
 |v::l,s,k,base,i=>by
  rw[List.zipIdx_cons,List.foldl_cons,fold_at l (s+1) k _ i]
  simp only[Array.size_setIfInBounds,List.length_cons,Array.getElem?_setIfInBounds]
  by_cases h1:k+(s+1)≤i∧i<k+(s+1)+l.length∧i<base.size
  ·rw[if_pos h1,if_pos (by omega),show i - (k+s)=(i - (k+(s+1)))+1 by omega,List.getElem?_cons_succ]
  ·rw[if_neg h1]
   by_cases h2:k+s=i
   ·subst h2
    by_cases h3:k+s<base.size
    ·rw[if_pos rfl,if_pos h3,if_pos (by omega),Nat.sub_self,List.getElem?_cons_zero]
    ·rw[if_pos rfl,if_neg h3,if_neg (by omega),Array.getElem?_eq_none (by omega)]
   ·rw[if_neg h2,if_neg (by omega)]
variable {α:Type} (E:Enc α)
theorem zhz (pre olds:List α) (o y:α) (p:Nat) (hp:pre.length * E.k=p):
  (E.enc y).toArray.zipIdx.foldl (fun c (x:Value×Nat)=>c.setIfInBounds (p+x.2) x.1) (flat E (pre++o::olds)).toArray=(flat E (pre++y::olds)).toArray:=by
 subst hp
 have e:(E.enc y).toArray.zipIdx.foldl (fun c (x:Value×Nat)=>c.setIfInBounds (pre.length * E.k+x.2) x.1) (flat E (pre++o::olds)).toArray=((E.enc y).zipIdx 0).foldl (fun c (x:Value×Nat)=>c.setIfInBounds (pre.length * E.k+x.2) x.1) (flat E (pre++o::olds)).toArray:=by
  rw[←Array.foldl_toList]
  simp
 rw[e]
 apply Array.ext_getElem?
 intro i
 rw[fold_at]
 have L:∀z:α,flat E (pre++z::olds)=flat E pre++(E.enc z++flat E olds):=fun z=>by rw[zbb,zbk]
 have lp:(flat E pre).length=pre.length * E.k:=flat_length E pre
 have lo:(flat E olds).length=olds.length * E.k:=flat_length E olds
 have lz:∀z:α,(E.enc z).length=E.k:=E.len
 simp only[Nat.add_zero,lz,List.getElem?_toArray,List.size_toArray]
 rw[L,L]
 simp only[List.length_append,lp,lz,lo]
 by_cases h1:i<pre.length * E.k
 ·rw[if_neg (by omega),List.getElem?_append_left (by omega),List.getElem?_append_left (by omega)]
 ·by_cases h2:i<pre.length * E.k+E.k
  ·rw[if_pos (by omega),List.getElem?_append_right (by omega),lp,List.getElem?_append_left (by rw[lz];omega)]
  ·have key:∀z:α,(flat E pre++(E.enc z++flat E olds))[i]?=(flat E olds)[i - pre.length * E.k - E.k]?:=fun z=>by
    rw[List.getElem?_append_right (by omega),lp,List.getElem?_append_right (by rw[lz];omega),lz]
   rw[if_neg (by omega),key,key]
theorem zke:∀(ys pre olds:List α) (n:Nat),pre.length=n→olds.length=ys.length→
  Instr.fill (fun i=>some (i * E.k,E.k)) (flat E (pre++olds)).toArray ((ys.zipIdx n).map fun(x:α×Nat)=>(x.2,.agg (E.enc x.1).toArray))=some (flat E (pre++ys)).toArray
 |[],pre,olds,n,_,ho=>by
  have:olds=[]:=List.eq_nil_of_length_eq_zero (by simpa using ho)
  subst this
  rfl
 |y::ys,pre,[],n,_,ho=>by simp at ho
 |y::ys,pre,o::olds,n,hn,ho=>by
  have ih:=zke ys (pre++[y]) olds (n+1) (by simp[hn]) (by simpa using ho)
  rw[List.append_assoc,List.append_assoc,List.singleton_append,List.singleton_append]at ih
  rw[List.zipIdx_cons,List.map_cons]
  have hl:(flat E (pre++o::olds)).length=n * E.k+(E.k+olds.length * E.k):=by
   rw[flat_length,List.length_append,List.length_cons,hn,Nat.add_mul,Nat.add_mul,Nat.one_mul]
   omega
  have hc:¬((decide ((Value.agg (E.enc y).toArray).cells.size≠E.k)||decide (n * E.k+(Value.agg (E.enc y).toArray).cells.size > (flat E (pre++o::olds)).toArray.size))=true):=by
   simp only[Value.cells,List.size_toArray,hl,E.len]
   simp
  have e:=zhz E pre olds o y (n * E.k) (by rw[hn])
  show(if((decide ((Value.agg (E.enc y).toArray).cells.size≠E.k)||decide (n * E.k+(Value.agg (E.enc y).toArray).cells.size > (flat E (pre++o::olds)).toArray.size))=true)then none else Instr.fill (fun i=>some (i * E.k,E.k)) ((E.enc y).toArray.zipIdx.foldl (fun c (x:Value×Nat)=>c.setIfInBounds (n * E.k+x.2) x.1) (flat E (pre++o::olds)).toArray) ((ys.zipIdx (n+1)).map fun(x:α×Nat)=>(x.2,.agg (E.enc x.1).toArray)))=_
  rw[if_neg hc,e]
  exact ih
theorem zeros (z:α) (n:Nat):(Array.range (n * E.k)).map (fun i=>((E.enc z).toArray)[i % (E.enc z).toArray.size]!)=(flat E (List.replicate n z)).toArray:=by
 apply Array.ext_getElem?
 intro i
 have er:(flat E (List.replicate n z)).toArray[i]?=(flat E (List.replicate n z))[i]?:=List.getElem?_toArray
 rw[er]
 by_cases hi:i<n * E.k
 ·have hm:i % E.k<E.k:=Nat.mod_lt _ E.pos
  have hd:i / E.k<n:=Nat.div_lt_of_lt_mul (by rw[Nat.mul_comm];exact hi)
  obtain⟨u,hv⟩:∃u,(E.enc z)[i % E.k]?=some u:=⟨_,List.getElem?_eq_getElem (by rw[E.len];exact hm)⟩
  have f:=zcd E (List.replicate n z) (i / E.k) (i % E.k) z _ (by rw[List.getElem?_replicate,if_pos hd]) hv
  rw[Nat.div_add_mod']at f
  rw[f,Array.getElem?_map,Array.getElem?_range,if_pos hi,Option.map_some,List.size_toArray,E.len]
  congr 1
  rw[Array.getElem!_eq_getD,Array.getD_eq_getD_getElem?,List.getElem?_toArray,hv]
  rfl
 ·rw[Array.getElem?_eq_none (by simp;omega),List.getElem?_eq_none (by rw[flat_length];simp;omega)]
theorem zlm (w:World):(zeroValue E.T).run Tryz.prog w=.ok (.agg (E.enc E.zero).toArray) w:=by
 obtain⟨i,hi,z0,z1,_⟩:=info_parts E.info
 simp[zeroValue,typeInfo,hi,z0]
theorem zlx (w:World):(sizeOf E.T).run Tryz.prog w=.ok E.k w:=by
 obtain⟨i,hi,z0,z1,_⟩:=info_parts E.info
 simp[sizeOf,typeInfo,hi,z1]
theorem run_build (w:World) (ys:List α) (h0:0<ys.length) (h1:ys.length≤100) (hk:E.k≤100):
  (Instr.buildSlice E.S ys.length (ys.zipIdx.map fun(x:α×Nat)=>(x.2,.agg (E.enc x.1).toArray)).toArray).run Tryz.prog w=.ok (.slice (some ⟨w.heap.size,0,none⟩) ys.length ys.length) (w.alloc (.cells (flat E ys).toArray E.T)):=by
 have n0:ys.length * E.k≤100 * 100:=Nat.mul_le_mul h1 hk
 have n1:¬ys.length * E.k > 2 ^ 24:=by omega
 have n2:¬ys.length * E.k=0:=by
  have:=Nat.mul_pos h0 E.pos
  omega
 have f:=zke E ys [] (List.replicate ys.length E.zero) 0 rfl (by simp)
 rw[List.nil_append,List.nil_append]at f
 have zr:=zeros E E.zero ys.length
 have zv:=zlm E
 have sv:=zlx E
 unfold Instr.buildSlice
 simp only[Sem.run_bind,run_underlying E.slice,Result.andThen_ok,sv,n1,n2,if_false,Sem.run_pure,zv,Value.cells,zr,f,newRow]
 rfl
theorem zf7 (w:World) (y:α) (hk:E.k≤100):(Instr.buildSlice E.S 1 #[(0,.agg (E.enc y).toArray)]).run Tryz.prog w=.ok (.slice (some ⟨w.heap.size,0,none⟩) 1 1) (w.alloc (.cells (E.enc y).toArray E.T)):=by
 have:=run_build E w [y] (by simp) (by simp) hk
 rw[zd4]at this
 exact this
theorem zat {w:World} {ops:Array Oper} {rest:List Oper} {o:Oper} {a:Act} {Q:Exit→Act→World→Prop} (hk:E.k≤100) (hgd:o.guard=none) (x:Operand) (ho:o.op=.buildSlice E.S 1 #[(0,x)])
  (y:α) (hx:a.eval x=.agg (E.enc y).toArray) (h:wpList Tryz.prog ops Q rest (a.put o.dst (.slice (some ⟨w.heap.size,0,none⟩) 1 1)) (w.alloc (.cells (E.enc y).toArray E.T))):wpList Tryz.prog ops Q (o::rest) a w:=by
 refine wpList_plain hgd fun K hK=>?_
 unfold Oper.wp execOp
 simp only[ho,List.map_toArray,List.map_cons,List.map_nil,hx,Sem.run_bind,zf7 E _ _ hk,Result.andThen_ok,Sem.run_pure]
 exact hK _ _ h
theorem zdR {w:World} {ops:Array Oper} {rest:List Oper} {o:Oper} {a:Act} {Q:Exit→Act→World→Prop} (hk:E.k≤100) (hgd:o.guard=none) (x:Operand) (ho:o.op=.buildSlice E.S 1 #[(0,x)])
  (y:α) (hx:a.eval x=.agg (E.enc y).toArray) (h:∀w1,SlR E w1 (some ⟨w.heap.size,0,none⟩) 1 [y]→Below w.heap.size w w1→wpList Tryz.prog ops Q rest (a.put o.dst (.slice (some ⟨w.heap.size,0,none⟩) 1 1)) w1):wpList Tryz.prog ops Q (o::rest) a w:=
 zat E hk hgd x ho y hx (h _ (SlR.zil E w y _) ((Below.refl _ _).alloc (Nat.le_refl _) _))
theorem zep {P:Program} {ops:Array Oper} {rest:List Oper} {o:Oper} {a:Act} {w:World} {Q:Exit→Act→World→Prop} (hw:Region.wanted o (yielded ops a.tmps)=true)
  (h:wpList P ops Q ({o with guard:=none}::rest) a w):wpList P ops Q (o::rest) a w:=by
 unfold wpList at h ⊢
 rw[if_pos hw]
 rw[if_pos (by simp[Region.wanted])]at h
 exact h
end Go.Proofs.YtgmdhaepiclkcaaGreatDoor.RowC
namespace Go.Proofs.YtgmdhaepiclkcaaGreatDoor.RowF
set_option maxRecDepth 100000
open Go Go.RowKit Byt RowS RowB
theorem zcK {w:World} {g j:Nat} {T:TypeId} {v:Value} {c:Array Value} {t:TypeId} (ht:w.heap[g]?=some (.cells c t (0,0))) (hj:j<c.size) (hi:(Tryz.prog.info? T).map (·.size)=some 1) (hv:v.cells= #[v]) (h1:v.oneCell'=true):
  (Instr.storeAt T (.pointer (some ⟨g,j,none⟩)) v).run Tryz.prog w=.ok () (w.setCell ⟨g,j,none⟩ v):=by
 have hth:w.there g j [v].length:=fun i hi=>by
  have:i=0:=by simpa using hi
  subst this
  refine⟨?_,?_⟩
  ·rw[Nat.add_zero,cell_of_row w g j _ t (0,0) ht,Array.getElem?_eq_getElem hj]
   rfl
  ·simp[World.frozen?,ht]
 have:=run_storeCells_cells (P:=Tryz.prog) g j [v] 0 w (fun i hi=>by simpa using(hth i hi).1) (fun i hi=>by simpa using(hth i hi).2) (fun u hu=>by simp only[List.mem_singleton]at hu;subst hu;exact h1)
 cases hq: Tryz.prog.info? T with
 |none=>simp[hq]at hi
 |some i=>
  have hs:i.size=1:=by simpa[hq]using hi
  simp only[Nat.add_zero]at this
  simp only[Instr.storeAt,Instr.sureAddr,Sem.run_bind,Sem.run_pure,Result.andThen_ok]
  simp[storeVar,sizeOf,typeInfo,hq,hv,hs,this]
  try rfl
variable {α:Type} (E:Enc α)
end Go.Proofs.YtgmdhaepiclkcaaGreatDoor.RowF
namespace Go.Proofs.YtgmdhaepiclkcaaGreatDoor.RowH
set_option maxRecDepth 100000
open Go Go.RowKit Byt RowS RowB
def zpS:List Value→Nat→List Value→List Value
 |xs,_,[]=>xs
 |xs,o,v::vs=>zpS (xs.set o v) (o+1) vs
theorem zly:∀(vs A B C:List Value),B.length=vs.length→zpS (A++B++C) A.length vs=A++vs++C
 |[],A,B,C,h=>by
  have:B=[]:=List.eq_nil_of_length_eq_zero (by simpa using h)
  subst this
  simp[zpS]
 |v::vs,A,[],C,h=>by simp at h
 |v::vs,A,b::B,C,h=>by
  have e:(A++b::B++C).set A.length v=(A++[v])++B++C:=by simp
  have l:(A++[v]).length=A.length+1:=by simp
  rw[zpS,e,←l,zly vs (A++[v]) B C (by simpa using h)]
  simp
theorem zin {base size g n cap:Nat} {e:TypeId}:∀(vs:List Value) (o:Nat) (xs:List Value) (w:World),w.ownsRow base e size (.slice (some ⟨g,0,none⟩) n cap) n xs→
  (w.setCells g o vs).ownsRow base e size (.slice (some ⟨g,0,none⟩) n cap) n (zpS xs o vs)∧w.grownBy (w.setCells g o vs) (some g)
 |[],o,xs,w,h=>⟨h,zaq (Below.refl _ _) _⟩
 |v::vs,o,xs,w,h=>by
  obtain⟨h1,g1⟩:=h.stored o v
  obtain⟨h2,g2⟩:=zin vs (o+1) (xs.set o v) _ h1
  exact⟨h2,g1.trans g2⟩
variable {α:Type} (E:Enc α)
theorem zdE {E:Enc α} {w:World} {base g n cap:Nat} {l:List α} (h:w.ownsRow base E.T E.k (.slice (some ⟨g,0,none⟩) n cap) n (flat E l)) {i:Nat} {x:α} (hx:l[i]?=some x):w.rangeAt g (i * E.k) (E.enc x):=fun j v hv=>by
 have:=h.cells rfl _ _ (zcd E l i j x v hx hv)
 rw[Addr.add_lit,Nat.zero_add]at this
 exact this
theorem zed {ops:Array Oper} {rest:List Oper} {o:Oper} {a:Act} {w:World} {Q:Exit→Act→World→Prop} (hgd:o.guard=none) (hd:o.dst=none) (x y:Operand) (ho:o.op=.store E.T x y)
  (base g n cap:Nat) (pre post:List α) (old:α) (hown:w.ownsRow base E.T E.k (.slice (some ⟨g,0,none⟩) n cap) n (flat E (pre++old::post)))
  (off:Nat) (hoff:off=pre.length * E.k) (hx:a.eval x=.pointer (some ⟨g,off,none⟩)) (z:α) (hy:a.eval y=.agg (E.enc z).toArray)
  (h:∀w',w'.ownsRow base E.T E.k (.slice (some ⟨g,0,none⟩) n cap) n (flat E (pre++z::post))→w.grownBy w' (some g)→wpList Tryz.prog ops Q rest a w'):wpList Tryz.prog ops Q (o::rest) a w:=by
 subst hoff
 have hr:=zdE hown (i:=pre.length) (x:=old) (by simp)
 have ht:w.there g (pre.length * E.k) (E.enc z).toArray.size:=fun j hj=>by
  rw[List.size_toArray,E.len]at hj
  refine⟨?_,hown.frozenAt _⟩
  have hv:(E.enc old)[j]?=some ((E.enc old)[j]'(by rw[E.len];exact hj)):=List.getElem?_eq_getElem _
  rw[hr j _ hv]
  rfl
 refine wpList_store_mid hgd E.T x y ho g (pre.length * E.k) (E.enc z).toArray hx hy ht (E.size' z) (E.all z) ?_
 rw[hd]
 obtain⟨h1,h2⟩:=zin (E.enc z) (pre.length * E.k) _ w hown
 have e:zpS (flat E (pre++old::post)) (pre.length * E.k) (E.enc z)=flat E (pre++z::post):=by
  rw[zbb,zbk,zbb,zbk,←flat_length E pre,←List.append_assoc,←List.append_assoc]
  exact zly _ _ _ _ (by rw[E.len,E.len])
 rw[e]at h1
 exact h _ h1 h2
theorem za9 {ops:Array Oper} {rest:List Oper} {o:Oper} {a:Act} {w:World} {Q:Exit→Act→World→Prop} (hgd:o.guard=none) (hd:o.dst=none) (T:TypeId) (x y:Operand) (ho:o.op=.store T x y) (hi:(Tryz.prog.info? T).map (·.size)=some 1)
  (g:Nat) (hx:a.eval x=.pointer (some ⟨g,0,none⟩)) (old:Value) (t:TypeId) (hc:w.heap[g]?=some (.cells #[old] t (0,0))) (v:Value) (hy:a.eval y=v) (hv:v.cells= #[v]) (h1:v.oneCell'=true)
  (h:∀w',w'.heap[g]?=some (.cells #[v] t (0,0))→w.grownBy w' (some g)→wpList Tryz.prog ops Q rest a w'):wpList Tryz.prog ops Q (o::rest) a w:=by
 refine wpList_plain hgd fun K hK=>?_
 have hrun:=RowF.zcK (T:=T) hc (j:=0) (by simp) hi hv h1
 unfold Oper.wp execOp
 simp only[ho,hx,hy,Sem.run_bind,hrun,Result.andThen_ok,Sem.run_pure]
 refine hK _ _ ?_
 rw[hd]
 refine h _ ?_ ⟨rfl,rfl,rfl,by simp[World.setCell],fun k _ hk=>?_⟩
 ·simp only[World.setCell]
  rw[Array.getElem?_modify,if_pos rfl,hc]
  simp
 ·simp only[World.setCell]
  rw[Array.getElem?_modify,if_neg (fun e=>hk (by rw[←e]))]
theorem cell_of_one {w:World} {g:Nat} {v:Value} {t:TypeId} (h:w.heap[g]?=some (.cells #[v] t (0,0))):w.cell? ⟨g,0,none⟩=some v:=by
 rw[cell_of_row w g 0 _ t (0,0) h]
 rfl
end Go.Proofs.YtgmdhaepiclkcaaGreatDoor.RowH
namespace Go.Proofs.YtgmdhaepiclkcaaGreatDoor.RowJ
set_option maxRecDepth 100000
open Go Go.RowKit Byt RowS RowB RowH
theorem zdt:∀(vs:List Value) (o:Nat) (c:List Value) (w:World) (g:Nat) (t:TypeId),w.heap[g]?=some (.cells c.toArray t (0,0))→(w.setCells g o vs).heap[g]?=some (.cells (zpS c o vs).toArray t (0,0))
 |[],_,_,_,_,_,h=>h
 |v::vs,o,c,w,g,t,h=>by
  refine zdt vs (o+1) (c.set o v) _ g t ?_
  simp only[World.setCell]
  rw[Array.getElem?_modify,if_pos rfl,h]
  simp
theorem zdU:∀(vs:List Value) (o:Nat) (w:World) (g:Nat),(∀B,B≤g→Below B w (w.setCells g o vs))∧w.grownBy (w.setCells g o vs) (some g)∧(w.setCells g o vs).heap.size=w.heap.size
 |[],_,w,_=>⟨fun B _=>Below.refl B w,zaq (Below.refl _ _) _,rfl⟩
 |v::vs,o,w,g=>by
  obtain⟨h1,h2,h3⟩:=zdU vs (o+1) (w.setCell ⟨g,o,none⟩ v) g
  have s1:(w.setCell ⟨g,o,none⟩ v).heap.size=w.heap.size:=by simp[World.setCell]
  have q:w.grownBy (w.setCell ⟨g,o,none⟩ v) (some g):=⟨rfl,rfl,rfl,by rw[s1];exact Nat.le_refl _,fun k _ hk=>by
   simp only[World.setCell]
   rw[Array.getElem?_modify,if_neg (fun e=>hk (by rw[←e]))]⟩
  exact⟨fun B hB=>((Below.refl B w).setCell (p:=⟨g,o,none⟩) hB v).trans (h1 B hB),q.trans h2,h3.trans s1⟩
variable {α:Type} (E:Enc α)
theorem zcl {ops:Array Oper} {rest:List Oper} {o:Oper} {a:Act} {w:World} {Q:Exit→Act→World→Prop} (hgd:o.guard=none) (hd:o.dst=none) (T:TypeId) (x y:Operand) (ho:o.op=.store T x y)
  (g j:Nat) (hx:a.eval x=.pointer (some ⟨g,j,none⟩)) (old:α) (hc:Box E w g old) (new:α) (cs:Array Value) (hi:(Tryz.prog.info? T).map (·.size)=some cs.size) (hy:a.eval y=.agg cs) (h1:cs.all (·.oneCell')=true) (hj:j+cs.size≤E.k) (hset:zpS (E.enc old) j cs.toList=E.enc new)
  (h:∀w',Box E w' g new→(∀B,B≤g→Below B w w')→w.grownBy w' (some g)→w'.heap.size=w.heap.size→wpList Tryz.prog ops Q rest a w'):wpList Tryz.prog ops Q (o::rest) a w:=by
 obtain⟨t,ht⟩:=hc
 have hth:w.there g j cs.size:=fun i hi=>by
  refine⟨?_,by simp[World.frozen?,ht]⟩
  rw[cell_of_row w g (j+i) _ t (0,0) ht,List.getElem?_toArray,List.getElem?_eq_getElem (by rw[E.len];omega)]
  rfl
 refine wpList_store_mid hgd T x y ho g j cs hx hy hth hi h1 ?_
 rw[hd]
 obtain⟨r1,r2,r3⟩:=zdU cs.toList j w g
 exact h _ ⟨t,by rw[←hset];exact zdt cs.toList j _ w g t ht⟩ r1 r2 r3
end Go.Proofs.YtgmdhaepiclkcaaGreatDoor.RowJ
namespace Go.Proofs.YtgmdhaepiclkcaaGreatDoor.Cel
set_option maxRecDepth 100000
open Go Go.Sort Go.RowKit Byt RowS RowB RowH RowJ
structure Cel (α:Type) where
 T:TypeId
 k:Nat
 bytes:Nat
 d:TypeDesc
 enc:α→List Value
 zero:α
 len:∀x,(enc x).length=k
 one:∀x,∀v ∈ enc x,v.oneCell'=true
 pos:0<k
 info:(Tryz.prog.info? T).map (fun i=>(i.zero,i.size,i.bytes))=some (some (.agg (enc zero).toArray),k,bytes)
 under: Tryz.prog.underlying T=some d
 row:d.isRow=true
variable {α:Type} {E:Cel α}
theorem Cel.size (E:Cel α) (x:α):(Tryz.prog.info? E.T).map (·.size)=some (E.enc x).length:=by
 have h:=E.info
 cases hq: Tryz.prog.info? E.T with
 |none=>rw[hq]at h;cases h
 |some i=>
  rw[hq]at h
  simp only[Option.map_some,Option.some.injEq,Prod.mk.injEq]at h
  simp[h.2.1,E.len]
theorem Cel.size' (E:Cel α) (x:α):(Tryz.prog.info? E.T).map (·.size)=some (E.enc x).toArray.size:=by rw[List.size_toArray];exact E.size x
theorem Cel.all (E:Cel α) (x:α):(E.enc x).toArray.all (·.oneCell')=true:=Array.all_eq_true_iff_forall_mem.2 (fun v hv=>E.one x v (by simpa using hv))
def Box (E:Cel α) (w:World) (g:Nat) (x:α):Prop:=∃t,w.heap[g]?=some (.cells (E.enc x).toArray t (0,0))
theorem Box.lt {w:World} {g:Nat} {x:α} (h:Box E w g x):g<w.heap.size:=by
 obtain⟨t,ht⟩:=h
 exact(Array.getElem?_eq_some_iff.1 ht).1
theorem Box.block {w w':World} {g B:Nat} {x:α} (h:Box E w g x) (hb:Below B w w') (hg:g<B):Box E w' g x:=by
 obtain⟨t,ht⟩:=h
 exact⟨t,by rw[hb.block g hg,ht]⟩
theorem Box.below {w w':World} {g:Nat} {x:α} (h:Box E w g x) (hb:Below w.heap.size w w'):Box E w' g x:=h.block hb h.lt
theorem Box.new (w:World) (x:α) (t:TypeId):Box E (w.alloc (.cells (E.enc x).toArray t)) w.heap.size x:=⟨t,heap_alloc_new w _⟩
theorem Box.alloc {w:World} {g:Nat} {x:α} (h:Box E w g x) (o:Obj):Box E (w.alloc o) g x:=h.below ((Below.refl _ _).alloc (Nat.le_refl _) _)
theorem Box.kept {w w':World} {g:Nat} {row:Option Nat} {x:α} (h:Box E w g x) (hg:w.grownBy w' row) (hne:some g≠row):Box E w' g x:=by
 obtain⟨t,ht⟩:=h
 exact⟨t,by rw[hg.block g (Array.getElem?_eq_some_iff.1 ht).1 hne,ht]⟩
theorem Box.range {w:World} {g:Nat} {x:α} (h:Box E w g x):w.rangeAt g 0 (E.enc x):=fun j v hv=>by
 obtain⟨t,ht⟩:=h
 rw[Nat.zero_add,cell_of_row w g j _ t (0,0) ht,List.getElem?_toArray]
 exact hv
theorem Box.cell {w:World} {g:Nat} {x:α} (h:Box E w g x) {j:Nat} {v:Value} (hv:(E.enc x)[j]?=some v):w.cell? ⟨g,j,none⟩=some v:=by
 have:=h.range j v hv
 rwa[Nat.zero_add]at this
theorem zaa {ops:Array Oper} {rest:List Oper} {o:Oper} {a:Act} {w:World} {Q:Exit→Act→World→Prop} (E:Cel α) (hgd:o.guard=none) (x:Operand) (ho:o.op=.load E.T x)
  (g:Nat) (hx:a.eval x=.pointer (some ⟨g,0,none⟩)) (y:α) (hb:Box E w g y) (h:wpList Tryz.prog ops Q rest (a.put o.dst (.agg (E.enc y).toArray)) w):wpList Tryz.prog ops Q (o::rest) a w:=
 wpList_load_mid hgd E.T x ho g 0 hx (E.enc y) _ hb.range E.under E.row (E.size y) h
theorem zac {ops:Array Oper} {rest:List Oper} {o:Oper} {a:Act} {w:World} {Q:Exit→Act→World→Prop} (E:Cel α) (hgd:o.guard=none) (x y:Operand) (ho:o.op=.store E.T x y)
  (w0:World) (old:Array Value) (t:TypeId) (hw:w=w0.alloc (.cells old t)) (z:α) (g:Nat) (hx:a.eval x=.pointer (some ⟨g,0,none⟩)) (hg:g=w0.heap.size) (hy:a.eval y=.agg (E.enc z).toArray) (hs:old.size=E.k)
  (h:∀w1,Box E w1 w0.heap.size z→Below w0.heap.size w0 w1→w0.grownBy w1 none→w1.heap.size=w0.heap.size+1→wpList Tryz.prog ops Q rest (a.put o.dst undef) w1):wpList Tryz.prog ops Q (o::rest) a w:=by
 subst hw
 subst hg
 refine wpList_store_row hgd E.T x y ho w0.heap.size (E.enc z).toArray hx hy t old (heap_alloc_new w0 _) (E.size' z) (by simp[E.len,hs]) (E.all z) ?_
 rw[World.setRow_alloc_new]
 exact h _ (Box.new w0 z t) ((Below.refl _ _).alloc (Nat.le_refl _) _) (World.grownBy_alloc w0 _ none) (by simp)
theorem zad {ops:Array Oper} {rest:List Oper} {o:Oper} {a:Act} {w:World} {Q:Exit→Act→World→Prop} (E:Cel α) (hgd:o.guard=none) (x y:Operand) (ho:o.op=.store E.T x y)
  (g:Nat) (hx:a.eval x=.pointer (some ⟨g,0,none⟩)) (old:α) (hb:Box E w g old) (z:α) (hy:a.eval y=.agg (E.enc z).toArray)
  (h:∀w1,Box E w1 g z→(∀B,B≤g→Below B w w1)→w.grownBy w1 (some g)→w1.heap.size=w.heap.size→wpList Tryz.prog ops Q rest (a.put o.dst undef) w1):wpList Tryz.prog ops Q (o::rest) a w:=by
 obtain⟨t,ht⟩:=hb
 refine wpList_store_row hgd E.T x y ho g (E.enc z).toArray hx hy t (E.enc old).toArray ht (E.size' z) (by simp[E.len]) (E.all z) ?_
 refine h _ ⟨t,setRow_heap w g _ _ t (0,0) ht⟩ (fun B hB=>zko w hB _) ⟨rfl,rfl,rfl,by simp[World.setRow],fun j _ hj=>?_⟩ (by simp[World.setRow])
 simp only[World.setRow]
 rw[Array.getElem?_modify,if_neg (fun e=>hj (by rw[e]))]
theorem zaI {ops:Array Oper} {rest:List Oper} {o:Oper} {a:Act} {w:World} {Q:Exit→Act→World→Prop} (E:Cel α) (hgd:o.guard=none) (hd:o.dst=none) (T:TypeId) (x y:Operand) (ho:o.op=.store T x y) (hi:(Tryz.prog.info? T).map (·.size)=some 1)
  (g j:Nat) (hx:a.eval x=.pointer (some ⟨g,j,none⟩)) (hj:j<E.k) (old:α) (hc:Box E w g old) (new:α) (v:Value) (hy:a.eval y=v) (hv:v.cells= #[v]) (h1:v.oneCell'=true) (hset:(E.enc old).set j v=E.enc new)
  (h:∀w',Box E w' g new→(∀B,B≤g→Below B w w')→w.grownBy w' (some g)→w'.heap.size=w.heap.size→wpList Tryz.prog ops Q rest a w'):wpList Tryz.prog ops Q (o::rest) a w:=by
 obtain⟨t,ht⟩:=hc
 refine wpList_plain hgd fun K hK=>?_
 have hrun:=RowF.zcK (T:=T) ht (by simp[E.len];exact hj) hi hv h1
 unfold Oper.wp execOp
 simp only[ho,hx,hy,Sem.run_bind,hrun,Result.andThen_ok,Sem.run_pure]
 refine hK _ _ ?_
 rw[hd]
 refine h _ ⟨t,?_⟩ (fun B hB=>(Below.refl B w).setCell (p:=⟨g,j,none⟩) hB v) ⟨rfl,rfl,rfl,by simp[World.setCell],fun k _ hk=>?_⟩ (by simp[World.setCell])
 ·simp only[World.setCell]
  rw[Array.getElem?_modify,if_pos rfl,ht]
  simp[hset]
 ·simp only[World.setCell]
  rw[Array.getElem?_modify,if_neg (fun e=>hk (by rw[←e]))]
theorem zcl {ops:Array Oper} {rest:List Oper} {o:Oper} {a:Act} {w:World} {Q:Exit→Act→World→Prop} (E:Cel α) (hgd:o.guard=none) (hd:o.dst=none) (T:TypeId) (x y:Operand) (ho:o.op=.store T x y)
  (g j:Nat) (hx:a.eval x=.pointer (some ⟨g,j,none⟩)) (old:α) (hc:Box E w g old) (new:α) (cs:Array Value) (hi:(Tryz.prog.info? T).map (·.size)=some cs.size) (hy:a.eval y=.agg cs) (h1:cs.all (·.oneCell')=true) (hj:j+cs.size≤E.k) (hset:zpS (E.enc old) j cs.toList=E.enc new)
  (h:∀w',Box E w' g new→(∀B,B≤g→Below B w w')→w.grownBy w' (some g)→w'.heap.size=w.heap.size→wpList Tryz.prog ops Q rest a w'):wpList Tryz.prog ops Q (o::rest) a w:=by
 obtain⟨t,ht⟩:=hc
 have hth:w.there g j cs.size:=fun i hi=>by
  refine⟨?_,by simp[World.frozen?,ht]⟩
  rw[cell_of_row w g (j+i) _ t (0,0) ht,List.getElem?_toArray,List.getElem?_eq_getElem (by rw[E.len];omega)]
  rfl
 refine wpList_store_mid hgd T x y ho g j cs hx hy hth hi h1 ?_
 rw[hd]
 obtain⟨r1,r2,r3⟩:=zdU cs.toList j w g
 exact h _ ⟨t,by rw[←hset];exact zdt cs.toList j _ w g t ht⟩ r1 r2 r3
theorem zeS (E:Cel α) {w:World} {b off:Nat} {y:α} (h:w.rangeAt b off (E.enc y)):(Instr.loadAt E.T (.pointer (some ⟨b,off,none⟩))).run Tryz.prog w=.ok (.agg (E.enc y).toArray) w:=
 run_loadAt_mid w b off E.T (E.enc y) _ h E.under E.row (E.size y)
theorem zaB (E:Cel α) {a:Act} {o:Oper} {K:Act→Prop} {w:World} (x:Operand) (ho:o.op=.load E.T x)
  (b off:Nat) (hx:a.eval x=.pointer (some ⟨b,off,none⟩)) (y:α) (hc:w.rangeAt b off (E.enc y)) (hk:K (a.put o.dst (.agg (E.enc y).toArray))):o.quiet Tryz.prog a (fun w'=>∃p:Regrown,w'=grow (redrawn w p.d) p.os) K:=by
 refine⟨.agg (E.enc y).toArray,fun u hu=>?_,hk⟩
 obtain⟨p,rfl⟩:=hu
 have q:=zeS E (zab hc (below_regrown w p.d p.os))
 unfold Oper.quietAt execOp
 simp only[ho,hx,Sem.run_bind,q,Result.andThen_ok,Sem.run_pure]
 exact⟨rfl,rfl⟩
end Go.Proofs.YtgmdhaepiclkcaaGreatDoor.Cel
namespace Go.Proofs.YtgmdhaepiclkcaaGreatDoor.StW
set_option maxRecDepth 100000
open Go Go.RowKit Byt
structure Ev where
 node:Int
 seq:Int
def ec (e:Ev):Array Value:=#[.int .i64 e.node,.int .i64 e.seq]
def EE:Cel.Cel Ev where
 T:=43
 k:=2
 bytes:=16
 d:=_
 enc e:=[.int .i64 e.node,.int .i64 e.seq]
 zero:=⟨0,0⟩
 len _:=rfl
 one c v hv:=by
  simp only[List.mem_cons,List.not_mem_nil,or_false]at hv
  rcases hv with rfl|rfl <;> rfl
 pos:=by omega
 info:=by kernel_rfl
 under:=Tryz.underlying43
 row:=rfl
theorem zfZ {w:World} {g:Nat} {e:Ev} (h:Cel.Box EE w g e):w.cell? ⟨g,0,none⟩=some (.int .i64 e.node)∧w.cell? ⟨g,1,none⟩=some (.int .i64 e.seq):=
 ⟨h.cell (j:=0) rfl,h.cell (j:=1) rfl⟩
theorem zah (w:World) (o:Obj):Below w.heap.size w (w.alloc o):=(Below.refl _ _).alloc (Nat.le_refl _) _
theorem zae {a b:Bool} (h:a=b):Ending.returned (.bool a)=.returned (.bool b):=by rw[h]
end Go.Proofs.YtgmdhaepiclkcaaGreatDoor.StW
namespace Go.Proofs.YtgmdhaepiclkcaaGreatDoor.OpsE
set_option maxRecDepth 100000
open Go Go.RowKit Go.Sort Byt OpsM OpsK OpsW OpsC
def zaU (x y:Opn):Bool:=decide (x.kind=y.kind)&&(decide (x.key.toList=y.key.toList)&&(decide (x.elem.toList=y.elem.toList)&&decide (x.n=y.n)))
theorem zbp {x y:Opn}:zaU x y=true↔x=y:=by
 unfold zaU
 simp only[Bool.and_eq_true,decide_eq_true_eq]
 constructor
 ·rintro⟨h1,h2,h3,h4⟩
  cases x;cases y
  simp only at h1 h2 h3 h4
  rw[toList_inj]at h2 h3
  subst h1 h2 h3 h4
  rfl
 ·rintro rfl;exact⟨rfl,rfl,rfl,rfl⟩
theorem equal (w:World) (x y:Opn):(Op.equalIn 10000 45 (.agg (opc x)) (.agg (opc y))).run Tryz.prog w=.ok (zaU x y) w:=by
 have hS: Tryz.prog.underlying 45=some (.struct (Tryz.prog.fieldsOf 45)):=by kernel_rfl
 rw[show(10000:Nat)=9999+1 from rfl,run_equalIn_agg w 9999 45 _ _ hS (by kernel_rfl)]
 simp only[Program.fieldsOf,Tryz.underlying45,opc]
 go_simp
 unfold zaU
 split
 ·split
  ·split
   ·split <;> simp_all
   ·simp_all
  ·simp_all
 ·simp_all
end Go.Proofs.YtgmdhaepiclkcaaGreatDoor.OpsE
namespace Go.Proofs.YtgmdhaepiclkcaaGreatDoor.CmW
set_option maxRecDepth 100000
open Go Go.Sort Go.RowKit Byt IdM IdW OpsM OpsW CmM StW
structure Cv where
 a:Option Addr
 k:Nat
 c:Com
def noV:Cv:=⟨none,0,noK⟩
def cc (v:Cv):Array Value:=#[.int .i64 v.c.node,.int .i64 v.c.seq,.int .i64 v.c.gen,.slice v.a v.c.ps.length v.k,.int .i64 v.c.op.kind,.string v.c.op.key,.string v.c.op.elem,.int .i64 v.c.op.n]
def CE:Cel.Cel Cv where
 T:=47
 k:=8
 bytes:=96
 d:=_
 enc v:=[.int .i64 v.c.node,.int .i64 v.c.seq,.int .i64 v.c.gen,.slice v.a v.c.ps.length v.k,.int .i64 v.c.op.kind,.string v.c.op.key,.string v.c.op.elem,.int .i64 v.c.op.n]
 zero:=noV
 len _:=rfl
 one c v hv:=by
  simp only[List.mem_cons,List.not_mem_nil,or_false]at hv
  rcases hv with rfl|rfl|rfl|rfl|rfl|rfl|rfl|rfl <;> rfl
 pos:=by omega
 info:=by kernel_rfl
 under:=Tryz.underlying47
 row:=rfl
def In (w:World) (v:Cv):Prop:=SlI w v.a v.k v.c.ps
theorem In.below {w w':World} {v:Cv} (h:In w v) (hb:Below w.heap.size w w'):In w' v:=SlI.below h hb
theorem In.none (w:World):In w noV:=SlI.nil w
structure Fit (c:Com):Prop where
 node:I64 c.node
 seq:I64 c.seq
 gen:I64 c.gen
 op:OpsC.Fit c.op
section
variable {w:World} {g:Nat} {v:Cv}
theorem zaX (h:Cel.Box CE w g v):w.cell? ⟨g,0,none⟩=some (.int .i64 v.c.node):=h.cell (j:=0) rfl
theorem zbw (h:Cel.Box CE w g v):w.cell? ⟨g,1,none⟩=some (.int .i64 v.c.seq):=h.cell (j:=1) rfl
theorem za1 (h:Cel.Box CE w g v):w.cell? ⟨g,2,none⟩=some (.int .i64 v.c.gen):=h.cell (j:=2) rfl
theorem zaP (h:Cel.Box CE w g v):w.cell? ⟨g,3,none⟩=some (.slice v.a v.c.ps.length v.k):=h.cell (j:=3) rfl
theorem zo0 (h:Cel.Box CE w g v):w.cell? ⟨g,4,none⟩=some (.int .i64 v.c.op.kind):=h.cell (j:=4) rfl
theorem zmk (h:Cel.Box CE w g v):w.cell? ⟨g,5,none⟩=some (.string v.c.op.key):=h.cell (j:=5) rfl
theorem zkl (h:Cel.Box CE w g v):w.cell? ⟨g,6,none⟩=some (.string v.c.op.elem):=h.cell (j:=6) rfl
theorem cell_n (h:Cel.Box CE w g v):w.cell? ⟨g,7,none⟩=some (.int .i64 v.c.op.n):=h.cell (j:=7) rfl
theorem zp1 (h:Cel.Box CE w g v):w.rangeAt g 0 (EE.enc ⟨v.c.node,v.c.seq⟩):=fun j u hu=>by
 rw[Nat.zero_add]
 match j,hu with
 |0,hu=>exact(Option.some.inj hu) ▸ zaX h
 |1,hu=>exact(Option.some.inj hu) ▸ zbw h
 |j+2,hu=>simp[EE]at hu
theorem zp0 (h:Cel.Box CE w g v):w.rangeAt g 4 (opc v.c.op).toList:=fun j u hu=>by
 match j,hu with
 |0,hu=>exact(Option.some.inj hu) ▸ zo0 h
 |1,hu=>exact(Option.some.inj hu) ▸ zmk h
 |2,hu=>exact(Option.some.inj hu) ▸ zkl h
 |3,hu=>exact(Option.some.inj hu) ▸ cell_n h
 |j+4,hu=>simp[opc]at hu
end
section
variable {ops:Array Oper} {rest:List Oper} {o:Oper} {a:Act} {w:World} {Q:Exit→Act→World→Prop}
theorem zeo (hgd:o.guard=none) (x:Operand) (ho:o.op=.load 43 x)
  (g:Nat) (hx:a.eval x=.pointer (some ⟨g,0,none⟩)) (v:Cv) (hb:Cel.Box CE w g v) (h:wpList Tryz.prog ops Q rest (a.put o.dst (.agg #[.int .i64 v.c.node,.int .i64 v.c.seq])) w):wpList Tryz.prog ops Q (o::rest) a w:=
 wpList_load_mid hgd EE.T x ho g 0 hx (EE.enc ⟨v.c.node,v.c.seq⟩) _ (zp1 hb) EE.under EE.row (EE.size _) h
theorem zb6 (hgd:o.guard=none) (x:Operand) (ho:o.op=.load 45 x)
  (g:Nat) (hx:a.eval x=.pointer (some ⟨g,4,none⟩)) (v:Cv) (hb:Cel.Box CE w g v) (h:wpList Tryz.prog ops Q rest (a.put o.dst (.agg (opc v.c.op))) w):wpList Tryz.prog ops Q (o::rest) a w:=
 wpList_load_mid hgd 45 x ho g 4 hx (opc v.c.op).toList _ (zp0 hb) Tryz.underlying45 rfl (zg7 v.c.op) h
theorem gkev (x:Operand) (ho:o.op=.load 43 x)
  (g:Nat) (hx:a.eval x=.pointer (some ⟨g,0,none⟩)) (v:Cv) (hb:Cel.Box CE w g v) (hw:Region.wanted o (yielded ops a.tmps)=true) (h:wpList Tryz.prog ops Q rest (a.put o.dst (.agg #[.int .i64 v.c.node,.int .i64 v.c.seq])) w):wpList Tryz.prog ops Q (o::rest) a w:=
 RowC.zep hw (zeo rfl x ho g hx v hb h)
theorem gkop (x:Operand) (ho:o.op=.load 45 x)
  (g:Nat) (hx:a.eval x=.pointer (some ⟨g,4,none⟩)) (v:Cv) (hb:Cel.Box CE w g v) (hw:Region.wanted o (yielded ops a.tmps)=true) (h:wpList Tryz.prog ops Q rest (a.put o.dst (.agg (opc v.c.op))) w):wpList Tryz.prog ops Q (o::rest) a w:=
 RowC.zep hw (zb6 rfl x ho g hx v hb h)
theorem zbW (x:Operand) (ho:o.op=.load 47 x)
  (g:Nat) (hx:a.eval x=.pointer (some ⟨g,0,none⟩)) (v:Cv) (hb:Cel.Box CE w g v) (hw:Region.wanted o (yielded ops a.tmps)=true) (h:wpList Tryz.prog ops Q rest (a.put o.dst (.agg (cc v))) w):wpList Tryz.prog ops Q (o::rest) a w:=
 RowC.zep hw (Cel.zaa CE rfl x ho g hx v hb h)
end
def zpW (a b m n:Int):Bool:=decide (a=m)&&decide (b=n)
theorem zf0 (d:Nat) (w:World) (a b m n:Int):(Op.equalIn (d+1+1) 43 (.agg #[.int .i64 a,.int .i64 b]) (.agg #[.int .i64 m,.int .i64 n])).run Tryz.prog w=.ok (zpW a b m n) w:=by
 have hE: Tryz.prog.underlying 43=some (.struct (Tryz.prog.fieldsOf 43)):=by kernel_rfl
 rw[run_equalIn_agg w (d+1) 43 _ _ hE (by kernel_rfl)]
 simp only[Program.fieldsOf,Tryz.underlying43]
 unfold zpW
 go_simp
 by_cases h1:a=m <;> by_cases h2:b=n <;> simp[h1,h2]
theorem zgD (w:World) (o:Opn):(Op.equalIn 10000 45 (.agg (opc o)) (.agg #[.int .i64 0,.string ⟨#[]⟩,.string ⟨#[]⟩,.int .i64 0])).run Tryz.prog w=.ok (zd0 o) w:=by
 have e0:OpsE.zaU o noO=zd0 o:=by
  rw[Bool.eq_iff_iff,OpsE.zbp,zhF]
 rw[←e0]
 exact OpsE.equal w o noO
end Go.Proofs.YtgmdhaepiclkcaaGreatDoor.CmW
