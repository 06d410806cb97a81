/- Plain facts on states in bytes | Counts in memory | Registers in memory | Pairs in memory | States, and events, in memory | What the two functions of package eval return, as the walks need it | What the document's Less of package pair returns | What the document's Same of package pair, and the law's Few, return -/
import Derived.Test.YtgmdhaepiclkcaaGreatDoorRegLJ5
import Derived.Test.YtgmdhaepiclkcaaGreatDoorGrowJ9
import Derived.Test.YtgmdhaepiclkcaaGreatDoorCmAJ5
import Derived.Test.YtgmdhaepiclkcaaGreatDoorOpsCJ2
import Derived.Laws.Cover1
import Derived.Test.YtgmdhaepiclkcaaGreatDoorRowGJ7
import Derived.Test.YtgmdhaepiclkcaaGreatDoorRowBJ9
import Derived.Test.YtgmdhaepiclkcaaGreatDoorDgXJ5
import Derived.Test.YtgmdhaepiclkcaaGreatDoorDgF
import Derived.Test.YtgmdhaepiclkcaaGreatDoorRefEJ9
namespace Go.Proofs.YtgmdhaepiclkcaaGreatDoor.StN
set_option maxRecDepth 100000
open Go Byt EncM EncC StM
end Go.Proofs.YtgmdhaepiclkcaaGreatDoor.StN
namespace Go.Proofs.YtgmdhaepiclkcaaGreatDoor.CtrW
set_option maxRecDepth 100000
open Go Go.RowKit Byt OpsM Rise CtrM RowS
def E:Enc Cn where
 T:=95
 S:=26
 k:=2
 bytes:=24
 d:=_
 enc c:=[.string c.key,.int .i64 c.n]
 zero:=⟨⟨#[]⟩,0⟩
 len _:=rfl
 one c v hv:=by
  simp only[List.mem_cons,List.not_mem_nil,or_false]at hv
  rcases hv with rfl|rfl <;> rfl
 pos:=by omega
 small:=by omega
 info:=by kernel_rfl
 slice:=Tryz.underlying26
 under:=Tryz.underlying95
 row:=rfl
theorem cells {w:World} {b o:Nat} {c:Cn} (h:w.rangeAt b o (E.enc c)):w.cell? ⟨b,o,none⟩=some (.string c.key)∧w.cell? ⟨b,o+1,none⟩=some (.int .i64 c.n):=
 ⟨h 0 _ rfl,h 1 _ rfl⟩
theorem plain {w:World} {A:Option Addr} {cap:Nat} {l:List Cn} (h:SlR E w A cap l) (hp:0<l.length):
  ∃b off,A=some ⟨b,off,none⟩∧b<w.heap.size∧∀i x,l[i]?=some x→w.rangeAt b (off+i * 2) (E.enc x):=h.plain hp
def Fits (l:List Cn):Prop:=∀c ∈ l,c.key.size≤1099511627776∧ -9223372036854775808≤c.n∧c.n≤9223372036854775807
theorem getD_drop {l:List Cn} {i:Nat} {x:Cn} (h:l[i]?=some x):l.drop i=x::l.drop (i+1):=by
 obtain⟨hi,rfl⟩:=List.getElem?_eq_some_iff.1 h
 exact List.drop_eq_getElem_cons hi
theorem zbf {a b:ByteArray} (h:a=b):(a.toList == b.toList)=true:=by rw[h];simp
theorem zby {a b:ByteArray} (h:a≠b):(a.toList == b.toList)=false:=by
 rw[beq_eq_false_iff_ne]
 exact fun e=>h (Rise.toList_inj e)
end Go.Proofs.YtgmdhaepiclkcaaGreatDoor.CtrW
namespace Go.Proofs.YtgmdhaepiclkcaaGreatDoor.RegW
set_option maxRecDepth 100000
open Go Go.RowKit Byt OpsM Rise RegM RowS
def E:Enc Rg where
 T:=62
 S:=27
 k:=5
 bytes:=56
 d:=_
 enc c:=[.string c.key,.string c.elem,.int .i64 c.gen,.int .i64 c.node,.int .i64 c.seq]
 zero:=⟨⟨#[]⟩,⟨#[]⟩,0,0,0⟩
 len _:=rfl
 one c v hv:=by
  simp only[List.mem_cons,List.not_mem_nil,or_false]at hv
  rcases hv with rfl|rfl|rfl|rfl|rfl <;> rfl
 pos:=by omega
 small:=by omega
 info:=by kernel_rfl
 slice:=Tryz.underlying27
 under:=Tryz.underlying62
 row:=rfl
def rc (c:Rg):Array Value:=#[.string c.key,.string c.elem,.int .i64 c.gen,.int .i64 c.node,.int .i64 c.seq]
def zeN (w:World) (g:Nat) (c:Rg):Prop:=∃t,w.heap[g]?=some (.cells (rc c) t (0,0))
theorem zeN.lt {w:World} {g:Nat} {c:Rg} (h:zeN w g c):g<w.heap.size:=by
 obtain⟨t,ht⟩:=h
 exact(Array.getElem?_eq_some_iff.1 ht).1
theorem zeN.block {w w':World} {g B:Nat} {c:Rg} (h:zeN w g c) (hb:Below B w w') (hg:g<B):zeN w' g c:=by
 obtain⟨t,ht⟩:=h
 exact⟨t,by rw[hb.block g hg,ht]⟩
theorem zeN.below {w w':World} {g:Nat} {c:Rg} (h:zeN w g c) (hb:Below w.heap.size w w'):zeN w' g c:=h.block hb h.lt
theorem zeN.new (w:World) (c:Rg) (t:TypeId):zeN (w.alloc (.cells (rc c) t)) w.heap.size c:=⟨t,heap_alloc_new w _⟩
theorem zeN.alloc {w:World} {g:Nat} {c:Rg} (h:zeN w g c) (x:Obj):zeN (w.alloc x) g c:=h.below ((Below.refl _ _).alloc (Nat.le_refl _) _)
theorem zeN.range {w:World} {g:Nat} {c:Rg} (h:zeN w g c):w.rangeAt g 0 (E.enc c):=fun j v hv=>by
 obtain⟨t,ht⟩:=h
 rw[Nat.zero_add,cell_of_row w g j _ t (0,0) ht,←Array.getElem?_toList]
 exact hv
theorem zeN.cells {w:World} {g:Nat} {c:Rg} (h:zeN w g c):w.cell? ⟨g,0,none⟩=some (.string c.key)∧w.cell? ⟨g,1,none⟩=some (.string c.elem)∧w.cell? ⟨g,2,none⟩=some (.int .i64 c.gen)∧w.cell? ⟨g,3,none⟩=some (.int .i64 c.node)∧w.cell? ⟨g,4,none⟩=some (.int .i64 c.seq):=
 ⟨h.range 0 _ rfl,h.range 1 _ rfl,h.range 2 _ rfl,h.range 3 _ rfl,h.range 4 _ rfl⟩
theorem zas {ops:Array Oper} {rest:List Oper} {o:Oper} {a:Act} {w:World} {Q:Exit→Act→World→Prop} (hgd:o.guard=none) (x:Operand) (ho:o.op=.load 62 x)
  (b off:Nat) (hx:a.eval x=.pointer (some ⟨b,off,none⟩)) (y:Rg) (hc:w.rangeAt b off (E.enc y)) (h:wpList Tryz.prog ops Q rest (a.put o.dst (.agg (rc y))) w):wpList Tryz.prog ops Q (o::rest) a w:=
 wpList_load_mid hgd 62 x ho b off hx (E.enc y) _ hc E.under E.row (E.size y) h
theorem cells {w:World} {b o:Nat} {c:Rg} (h:w.rangeAt b o (E.enc c)):w.cell? ⟨b,o,none⟩=some (.string c.key)∧w.cell? ⟨b,o+1,none⟩=some (.string c.elem)∧w.cell? ⟨b,o+2,none⟩=some (.int .i64 c.gen)∧w.cell? ⟨b,o+3,none⟩=some (.int .i64 c.node)∧w.cell? ⟨b,o+4,none⟩=some (.int .i64 c.seq):=
 ⟨h 0 _ rfl,h 1 _ rfl,h 2 _ rfl,h 3 _ rfl,h 4 _ rfl⟩
theorem plain {w:World} {A:Option Addr} {cap:Nat} {l:List Rg} (h:SlR E w A cap l) (hp:0<l.length):
  ∃b off,A=some ⟨b,off,none⟩∧b<w.heap.size∧∀i x,l[i]?=some x→w.rangeAt b (off+i * 5) (E.enc x):=h.plain hp
def In64 (x:Int):Prop:=-9223372036854775808≤x∧x≤9223372036854775807
theorem zah (w:World) (o:Obj):Below w.heap.size w (w.alloc o):=(Below.refl _ _).alloc (Nat.le_refl _) _
structure Fit (c:Rg):Prop where
 key:c.key.size≤1099511627776
 elem:c.elem.size≤1099511627776
 gen:In64 c.gen
 node:In64 c.node
 seq:In64 c.seq
def Fits (l:List Rg):Prop:=∀c ∈ l,Fit c
theorem getD_drop {l:List Rg} {i:Nat} {x:Rg} (h:l[i]?=some x):l.drop i=x::l.drop (i+1):=by
 obtain⟨hi,rfl⟩:=List.getElem?_eq_some_iff.1 h
 exact List.drop_eq_getElem_cons hi
theorem zbf {a b:ByteArray} (h:a=b):(a.toList == b.toList)=true:=by rw[h];simp
theorem zby {a b:ByteArray} (h:a≠b):(a.toList == b.toList)=false:=by
 rw[beq_eq_false_iff_ne]
 exact fun e=>h (Rise.toList_inj e)
theorem above (a b:ByteArray):(!Op.bytesLess a.toList b.toList&& !(a.toList == b.toList))=ltS b a:=by
 cases h:ltS b a with
 |true=>
  rw[show Op.bytesLess a.toList b.toList=false from zaA.asymm h,zby (fun e=>zaA.ne h e.symm)]
  rfl
 |false=>
  cases h2:Op.bytesLess a.toList b.toList with
  |true=>rfl
  |false=>
   rw[zbf (zaA.tri a b h2 h)]
   rfl
end Go.Proofs.YtgmdhaepiclkcaaGreatDoor.RegW
namespace Go.Proofs.YtgmdhaepiclkcaaGreatDoor.PairW
set_option maxRecDepth 100000
open Go Go.RowKit Byt OpsM Rise PairM RowS RowB
def E:Enc Pr where
 T:=58
 S:=28
 k:=4
 bytes:=48
 d:=_
 enc c:=[.string c.key,.string c.elem,.int .i64 c.node,.int .i64 c.seq]
 zero:=⟨⟨#[]⟩,⟨#[]⟩,0,0⟩
 len _:=rfl
 one c v hv:=by
  simp only[List.mem_cons,List.not_mem_nil,or_false]at hv
  rcases hv with rfl|rfl|rfl|rfl <;> rfl
 pos:=by omega
 small:=by omega
 info:=by kernel_rfl
 slice:=Tryz.underlying28
 under:=Tryz.underlying58
 row:=rfl
def pc (c:Pr):Array Value:=#[.string c.key,.string c.elem,.int .i64 c.node,.int .i64 c.seq]
theorem zam {w:World} {g:Nat} {c:Pr} (h:Box E w g c):w.cell? ⟨g,0,none⟩=some (.string c.key)∧w.cell? ⟨g,1,none⟩=some (.string c.elem)∧w.cell? ⟨g,2,none⟩=some (.int .i64 c.node)∧w.cell? ⟨g,3,none⟩=some (.int .i64 c.seq):=
 ⟨h.cell (j:=0) rfl,h.cell (j:=1) rfl,h.cell (j:=2) rfl,h.cell (j:=3) rfl⟩
theorem cells {w:World} {b o:Nat} {c:Pr} (h:w.rangeAt b o (E.enc c)):w.cell? ⟨b,o,none⟩=some (.string c.key)∧w.cell? ⟨b,o+1,none⟩=some (.string c.elem)∧w.cell? ⟨b,o+2,none⟩=some (.int .i64 c.node)∧w.cell? ⟨b,o+3,none⟩=some (.int .i64 c.seq):=
 ⟨h 0 _ rfl,h 1 _ rfl,h 2 _ rfl,h 3 _ rfl⟩
theorem plain {w:World} {A:Option Addr} {cap:Nat} {l:List Pr} (h:SlR E w A cap l) (hp:0<l.length):
  ∃b off,A=some ⟨b,off,none⟩∧b<w.heap.size∧∀i x,l[i]?=some x→w.rangeAt b (off+i * 4) (E.enc x):=h.plain hp
def In64 (x:Int):Prop:=-9223372036854775808≤x∧x≤9223372036854775807
structure Fit (c:Pr):Prop where
 key:c.key.size≤1099511627776
 elem:c.elem.size≤1099511627776
 node:In64 c.node
 seq:In64 c.seq
def Fits (l:List Pr):Prop:=∀c ∈ l,Fit c
theorem getD_drop {l:List Pr} {i:Nat} {x:Pr} (h:l[i]?=some x):l.drop i=x::l.drop (i+1):=by
 obtain⟨hi,rfl⟩:=List.getElem?_eq_some_iff.1 h
 exact List.drop_eq_getElem_cons hi
theorem zbf {a b:ByteArray} (h:a=b):(a.toList == b.toList)=true:=by rw[h];simp
theorem zby {a b:ByteArray} (h:a≠b):(a.toList == b.toList)=false:=by
 rw[beq_eq_false_iff_ne]
 exact fun e=>h (Rise.toList_inj e)
theorem zbY {a b:ByteArray} (h:a=b):(a.toList != b.toList)=false:=by rw[bne,zbf h];rfl
theorem zdr {a b:ByteArray} (h:a≠b):(a.toList != b.toList)=true:=by rw[bne,zby h];rfl
theorem zah (w:World) (o:Obj):Below w.heap.size w (w.alloc o):=(Below.refl _ _).alloc (Nat.le_refl _) _
end Go.Proofs.YtgmdhaepiclkcaaGreatDoor.PairW
namespace Go.Proofs.YtgmdhaepiclkcaaGreatDoor.StW
set_option maxRecDepth 100000
open Go Go.RowKit Byt OpsM Rise RowS StM
structure Sv where
 a0:Option Addr
 k0:Nat
 a1:Option Addr
 k1:Nat
 a2:Option Addr
 k2:Nat
 s:St
def noV:Sv:=⟨none,0,none,0,none,0,noS⟩
def sc (v:Sv):Array Value:=#[.slice v.a0 v.s.c.length v.k0,.slice v.a1 v.s.r.length v.k1,.slice v.a2 v.s.p.length v.k2]
def SE:Cel.Cel Sv where
 T:=30
 k:=3
 bytes:=72
 d:=_
 enc v:=[.slice v.a0 v.s.c.length v.k0,.slice v.a1 v.s.r.length v.k1,.slice v.a2 v.s.p.length v.k2]
 zero:=noV
 len _:=rfl
 one c v hv:=by
  simp only[List.mem_cons,List.not_mem_nil,or_false]at hv
  rcases hv with rfl|rfl|rfl <;> rfl
 pos:=by omega
 info:=by kernel_rfl
 under:=Tryz.underlying30
 row:=rfl
structure In (w:World) (v:Sv):Prop where
 c:SlR CtrW.E w v.a0 v.k0 v.s.c
 r:SlR RegW.E w v.a1 v.k1 v.s.r
 p:SlR PairW.E w v.a2 v.k2 v.s.p
theorem In.below {w w':World} {v:Sv} (h:In w v) (hb:Below w.heap.size w w'):In w' v:=⟨h.c.below hb,h.r.below hb,h.p.below hb⟩
theorem In.none (w:World):In w noV:=⟨SlR.nil _ w,SlR.nil _ w,SlR.nil _ w⟩
structure Fits (s:St):Prop where
 c:CtrW.Fits s.c
 r:RegW.Fits s.r
 p:PairW.Fits s.p
structure Len (n:Nat) (s:St):Prop where
 c:s.c.length≤n
 r:s.r.length≤n
 p:s.p.length≤n
theorem Len.le {n m:Nat} {s:St} (h:Len n s) (hm:n≤m):Len m s:=⟨by have:=h.c;omega,by have:=h.r;omega,by have:=h.p;omega⟩
theorem zam {w:World} {g:Nat} {v:Sv} (h:Cel.Box SE w g v):w.cell? ⟨g,0,none⟩=some (.slice v.a0 v.s.c.length v.k0)∧w.cell? ⟨g,1,none⟩=some (.slice v.a1 v.s.r.length v.k1)∧w.cell? ⟨g,2,none⟩=some (.slice v.a2 v.s.p.length v.k2):=
 ⟨h.cell (j:=0) rfl,h.cell (j:=1) rfl,h.cell (j:=2) rfl⟩
def New (o:Option St) (w:World) (e:Ending) (w':World):Prop:=∃v,e=.returned (.tuple #[.agg (sc v),.int .i64 (if o.isSome then 0 else 1)])∧v.s=o.getD noS∧In w' v∧Below w.heap.size w w'
def znd:Value→Bool
 |.slice _ _ _=>false
 |_=>true
theorem zo3 {w:World} {g j:Nat} {v:Sv} {x:Value} (h:Cel.Box SE w g v) (hc:w.cell? ⟨g,j,none⟩=some x):znd x=false:=by
 obtain⟨t,ht⟩:=h
 rw[cell_of_row w g j _ t (0,0) ht,List.getElem?_toArray]at hc
 match j,hc with
 |0,hc=>simp[SE]at hc;rw[←hc];rfl
 |1,hc=>simp[SE]at hc;rw[←hc];rfl
 |2,hc=>simp[SE]at hc;rw[←hc];rfl
 |j+3,hc=>simp[SE]at hc
theorem zcu {α:Type} {E:Enc α} (hE:∀x,∀v ∈ E.enc x,znd v=true) {w w':World} {A:Option Addr} {cap g:Nat} {l:List α} {v:Sv} (h:SlR E w A cap l) (hb:Cel.Box SE w g v) (hg:w.grownBy w' (some g)):SlR E w' A cap l:=by
 obtain⟨h1,h2,h5⟩:=h
 refine⟨h1,h2,?_⟩
 rcases h5 with h5|⟨x,rfl,hc⟩
 ·exact .inl h5
 ·refine .inr ⟨x,rfl,fun i u hu=>?_⟩
  have hcell:=hc i u hu
  have hlt:=block_lt_of_cell hcell
  have hne:some (x.add i).block≠some g:=by
   intro e
   injection e with e
   have hsp:=World.cell?_spot hcell
   have hu2:znd u=true:=by
    have hm:=List.mem_of_getElem? hu
    unfold flat at hm
    rw[List.mem_flatMap]at hm
    obtain⟨y,_,hy⟩:=hm
    exact hE y u hy
   have hb2:znd u=false:=by
    have:(x.add i)=⟨g,(x.add i).off,none⟩:=by
     cases hx:x.add i with
     |mk b o s=>
      rw[hx]at e hsp
      simp only at e hsp
      rw[e,hsp]
    rw[this]at hcell
    exact zo3 hb hcell
   rw[hu2]at hb2
   cases hb2
  unfold World.cell? at hcell ⊢
  rw[hg.block _ hlt hne]
  exact hcell
theorem noC (x:CtrM.Cn):∀v ∈ CtrW.E.enc x,znd v=true:=by
 intro v hv
 simp only[CtrW.E,List.mem_cons,List.not_mem_nil,or_false]at hv
 rcases hv with rfl|rfl <;> rfl
theorem noR (x:RegM.Rg):∀v ∈ RegW.E.enc x,znd v=true:=by
 intro v hv
 simp only[RegW.E,List.mem_cons,List.not_mem_nil,or_false]at hv
 rcases hv with rfl|rfl|rfl|rfl|rfl <;> rfl
theorem noP (x:PairM.Pr):∀v ∈ PairW.E.enc x,znd v=true:=by
 intro v hv
 simp only[PairW.E,List.mem_cons,List.not_mem_nil,or_false]at hv
 rcases hv with rfl|rfl|rfl|rfl <;> rfl
theorem In.kept {w w':World} {g:Nat} {u v:Sv} (h:In w u) (hb:Cel.Box SE w g v) (hg:w.grownBy w' (some g)):In w' u:=⟨zcu noC h.c hb hg,zcu noR h.r hb hg,zcu noP h.p hb hg⟩
end Go.Proofs.YtgmdhaepiclkcaaGreatDoor.StW
namespace Go.Proofs.YtgmdhaepiclkcaaGreatDoor.EaH
set_option maxRecDepth 100000
open Go Go.Sort Go.RowKit Byt IdM IdW OpsM OpsW CmM CmW CmX CmY DgM DgW DgR DgF FrM FrN EaM EaN
open Classical
noncomputable def zh3 (l:List Com):Option StM.St:=if Closed zaj l then some (zdz zaj l)else none
noncomputable def atE (l:List Com) (a:List Idn):Option StM.St:=if Closed zaj l then some (atK zaj l a)else none
theorem zo7 {l:List Com} (C:Closed zaj l) (a:List Idn):zh3 (zek l (zkq l a))=some (atK zaj l a):=by
 have h1:zek l (zkq l a)=DgM.part zaj l (· ∈ anc zaj l a):=by rw[zek,if_pos C,zkq,if_pos C]
 rw[h1,zh3,if_pos (zm1 C a)]
 rfl
structure Two:Prop where
 eval:∀(A:Option Addr) (cap:Nat) (l:List Cv) (w:World),SlK w A cap l→l.length≤1500000000000→ShaE.KIn w→Calls Tryz.prog 12 #[.slice A l.length cap] w (StW.New (zh3 (zar l)) w)
 at_:∀(A A':Option Addr) (cap cap':Nat) (l:List Cv) (a:List Idn) (w:World),SlK w A cap l→SlI w A' cap' a→l.length≤1000→a.length≤1000→ShaE.KIn w→Calls Tryz.prog 14 #[.slice A l.length cap,.slice A' a.length cap'] w (StW.New (atE (zar l) a) w)
end Go.Proofs.YtgmdhaepiclkcaaGreatDoor.EaH
namespace Go.Proofs.YtgmdhaepiclkcaaGreatDoor.PairR
set_option maxHeartbeats 4000000
set_option maxRecDepth 100000
open Go Go.RowKit Byt OpsM OpsK Rise PairM PairN RowS RowB PairW
theorem zbv (a b:Pr) (w:World):
  Calls Tryz.prog 132 #[.agg (pc a),.agg (pc b)] w fun e w'=>e=.returned (.bool (zba a b))∧Below w.heap.size w w':=by
 have R1:Box E ((w.alloc (.cells (pc a) 58)).alloc (.cells (pc b) 58)) w.heap.size a:=(Box.new (E:=E) w a 58).alloc _
 have R2:Box E ((w.alloc (.cells (pc a) 58)).alloc (.cells (pc b) 58)) (w.heap.size+1) b:=by
  have z:(w.alloc (.cells (pc a) 58)).heap.size=w.heap.size+1:=by simp
  rw[←z]
  exact Box.new _ b _
 have kb:Below w.heap.size w ((w.alloc (.cells (pc a) 58)).alloc (.cells (pc b) 58)):=((Below.refl _ _).alloc (Nat.le_refl _) _).alloc (by simp) _
 obtain⟨c1,c2,c3,c4⟩:=zam R1
 obtain⟨d1,d2,d3,d4⟩:=zam R2
 clear R1 R2
 obtain⟨r,hr⟩:∃r,zba a b=r:=⟨_,rfl⟩
 have hn:r=zba a b:=hr.symm
 rw[hr]
 unfold zba at hn
 clear hr
 by_cases h1:a.key=b.key
 ·have t1:=zbY h1
  have u1:a.key.toList=b.key.toList:=by rw[h1]
  rw[if_pos h1]at hn
  by_cases h2:a.elem=b.elem
  ·have t2:=zbY h2
   have u2:a.elem.toList=b.elem.toList:=by rw[h2]
   rw[if_pos h2]at hn
   by_cases h3:a.node=b.node
   ·have t3:(a.node != b.node)=false:=by simpa using h3
    rw[if_pos h3]at hn
    have HR:Hid (r=decide (a.seq<b.seq)):=aside hn
    clear hn h1 h2 h3
    go_enter Tryz.func132,Tryz.ntmps132
    go_wp2
    go_ret
    exact⟨zae HR.out.symm,kb⟩
   ·have t3:(a.node != b.node)=true:=by simpa using h3
    rw[if_neg h3]at hn
    have HR:Hid (r=decide (a.node<b.node)):=aside hn
    clear hn h1 h2 h3
    go_enter Tryz.func132,Tryz.ntmps132
    go_wp2
    go_ret
    exact⟨zae HR.out.symm,kb⟩
  ·have t2:=zdr h2
   have u2:=zby h2
   rw[if_neg h2]at hn
   have HR:Hid (r=Op.bytesLess a.elem.toList b.elem.toList):=aside hn
   clear hn h1 h2
   go_enter Tryz.func132,Tryz.ntmps132
   go_wp2
   go_ret
   exact⟨zae HR.out.symm,kb⟩
 ·have t1:=zdr h1
  have u1:=zby h1
  rw[if_neg h1]at hn
  have HR:Hid (r=Op.bytesLess a.key.toList b.key.toList):=aside hn
  clear hn h1
  go_enter Tryz.func132,Tryz.ntmps132
  go_wp2
  go_ret
  exact⟨zae HR.out.symm,kb⟩
end Go.Proofs.YtgmdhaepiclkcaaGreatDoor.PairR
namespace Go.Proofs.YtgmdhaepiclkcaaGreatDoor.PairS
set_option maxHeartbeats 4000000
set_option maxRecDepth 100000
open Go Go.RowKit Byt OpsM OpsK Rise PairM PairN RowS RowB PairW PairR
def zcD (x y:Pr):Bool:=decide (x.key.toList=y.key.toList)&&(decide (x.elem.toList=y.elem.toList)&&(decide (x.node=y.node)&&decide (x.seq=y.seq)))
theorem zb7 {x y:Pr}:zcD x y=true↔x=y:=by
 unfold zcD
 simp only[Bool.and_eq_true,decide_eq_true_eq]
 constructor
 ·rintro⟨h1,h2,h4,h5⟩
  cases x;cases y
  simp only at h1 h2 h4 h5
  rw[Rise.toList_inj h1,Rise.toList_inj h2,h4,h5]
 ·rintro rfl;exact⟨rfl,rfl,rfl,rfl⟩
def zaU:List Pr→List Pr→Bool
 |[],[]=>true
 |x::a,y::b=>zcD x y&&zaU a b
 |[],_::_=>false
 |_::_,[]=>false
theorem zbp:∀{a b:List Pr},zaU a b=true↔a=b
 |[],[]=>by simp[zaU]
 |x::a,y::b=>by simp[zaU,zb7,zbp (a:=a) (b:=b)]
 |[],_::_=>by simp[zaU]
 |_::_,[]=>by simp[zaU]
theorem zev {a b:List Pr} (h:a.length≠b.length):zaU a b=false:=by
 cases hs:zaU a b with
 |false=>rfl
 |true=>exact absurd (congrArg List.length (zbp.1 hs)) h
theorem zf0 (d:Nat) (w:World) (a b m n:Int):(Op.equalIn (d+1+1) 43 (.agg #[.int .i64 a,.int .i64 b]) (.agg #[.int .i64 m,.int .i64 n])).run Tryz.prog w=.ok (decide (a=m)&&decide (b=n)) w:=by
 have hE: Tryz.prog.underlying 43=some (.struct (Tryz.prog.fieldsOf 43)):=by kernel_rfl
 rw[run_equalIn_agg w (d+1) 43 _ _ hE (by kernel_rfl)]
 simp only[Program.fieldsOf,Tryz.underlying43]
 go_simp
 by_cases h1:a=m <;> by_cases h2:b=n <;> simp[h1,h2]
theorem zk8 (d:Nat) (w:World) (x y:Pr):(Op.equalIn (d+1+1+1) 58 (.agg (pc x)) (.agg (pc y))).run Tryz.prog w=.ok (zcD x y) w:=by
 have hS: Tryz.prog.underlying 58=some (.struct (Tryz.prog.fieldsOf 58)):=by kernel_rfl
 have hev:=fun W=>zf0 d W x.node x.seq y.node y.seq
 rw[run_equalIn_agg w (d+1+1) 58 _ _ hS (by kernel_rfl)]
 simp only[Program.fieldsOf,Tryz.underlying58,pc]
 go_simp
 unfold zcD
 by_cases h1:x.key.toList=y.key.toList <;> by_cases h2:x.elem.toList=y.elem.toList <;> by_cases h4:x.node=y.node <;> by_cases h5:x.seq=y.seq <;> simp[h1,h2,h4,h5]
theorem equal (w:World) (x y:Pr):(Op.equalIn 10000 58 (.agg (pc x)) (.agg (pc y))).run Tryz.prog w=.ok (zcD x y) w:=zk8 9997 w x y
theorem zdj (A:Option Addr) (cap:Nat) (a:List Pr) (A':Option Addr) (cap':Nat) (b:List Pr) (w:World) (S:SlR E w A cap a) (S':SlR E w A' cap' b):
  Calls Tryz.prog 47 #[.slice A a.length cap,.slice A' b.length cap'] w fun e w'=>e=.returned (.bool (zaU a b))∧Below w.heap.size w w':=by
 have hmax:a.length≤9223372036854775807:=by have:=S.1;have:=S.2.1;unfold maxLen at this;omega
 have hmax':b.length≤9223372036854775807:=by have:=S'.1;have:=S'.2.1;unfold maxLen at this;omega
 have hcap:=S.1
 have hcap':=S'.1
 obtain⟨r,hr0⟩:∃r,zaU a b=r:=⟨_,rfl⟩
 rw[hr0]
 have HR0:=aside hr0
 clear hr0
 by_cases hl:a.length=b.length
 ·have t0:((a.length:Int) != (b.length:Int))=false:=by simp;omega
  have HL:=aside hl
  clear hl
  go_enter Tryz.func47,Tryz.ntmps47
  go_wp2
  clear t0
  go_loopw [5] (fun i wr=>∃j:Nat,j≤a.length∧i=.int .i64 j∧Hid (r=zaU (a.drop j) (b.drop j))∧Below w.heap.size w wr) (fun i _=>a.length - (intOf i).toNat)
  case atStart=>exact⟨0,Nat.zero_le _,rfl,aside HR0.out.symm,Below.refl _ _⟩
  case round=>
   obtain⟨j,hj,rfl,HG,kb⟩:=hrel
   by_cases hlt:j<a.length
   ·have hlt':j<b.length:=by have:=HL.out;omega
    obtain⟨p,off,rfl,hbw,hr⟩:=PairW.plain S (by omega)
    obtain⟨p',off',rfl,hbw',hr'⟩:=PairW.plain S' (by omega)
    obtain⟨x,hx⟩:∃x,a[j]?=some x:=⟨_,List.getElem?_eq_getElem hlt⟩
    obtain⟨y,hy⟩:∃y,b[j]?=some y:=⟨_,List.getElem?_eq_getElem hlt'⟩
    obtain⟨c0,c1,c2,c3⟩:=cells (zab (hr j x hx) kb)
    obtain⟨d0,d1,d2,d3⟩:=cells (zab (hr' j y hy) kb)
    have p0:(j:Int)<a.length:=by omega
    have p1:(j:Int)<b.length:=by omega
    have m0:((j:Int)).toNat=j:=by omega
    have HG2:=HG.out
    rw[getD_drop hx,getD_drop hy]at HG2
    have heq:=fun W=>equal W x y
    unfold pc at heq
    clear hr hr' S S' hx hy HG
    cases hs:zcD x y with
    |true=>
     have HR:Hid (r=zaU (a.drop (j+1)) (b.drop (j+1))):=aside (by rw[HG2,zaU,hs];rfl)
     rw[hs]at heq
     clear HG2 hs
     go_wp2
     go_quiet (fail)
     go_wp2
     go_roundw
     case rel=>exact⟨j+1,by omega,by go_num,HR,zai kb _⟩
     case measure=>simp[intOf];omega
    |false=>
     have HR:Hid (r=false):=aside (by rw[HG2,zaU,hs];rfl)
     rw[hs]at heq
     clear HG2 hs
     go_wp2
     go_quiet (fail)
     go_wp2
     go_ret
     exact⟨zae HR.out.symm,zai kb _⟩
   ·have HR:Hid (r=true):=aside (by
     have:=HG.out
     rwa[List.drop_of_length_le (by omega),List.drop_of_length_le (by have:=HL.out;omega)]at this)
    clear S S' HG
    go_wp2
    go_ret
    exact⟨zae HR.out.symm,kb⟩
 ·have t0:((a.length:Int) != (b.length:Int))=true:=by simp;omega
  have HR:Hid (r=false):=aside (HR0.out.symm.trans (zev hl))
  clear hl
  go_enter Tryz.func47,Tryz.ntmps47
  go_wp2
  go_ret
  exact⟨zae HR.out.symm,Below.refl _ _⟩
end Go.Proofs.YtgmdhaepiclkcaaGreatDoor.PairS
