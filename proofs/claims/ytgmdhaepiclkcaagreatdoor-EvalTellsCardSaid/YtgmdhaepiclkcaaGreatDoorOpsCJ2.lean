/- What ops.mays and its functions, and ops.May, return | Lists of structs in memory, whatever their fields -/
import Derived.Test.YtgmdhaepiclkcaaGreatDoorIdWJ3
import Derived.Test.YtgmdhaepiclkcaaGreatDoorShaDJ13
import Derived.Deep.MidRow
import Derived.Deep.WholeRow
import Derived.Laws.Tables
import Derived.OpenShut
namespace Go.Proofs.YtgmdhaepiclkcaaGreatDoor.OpsC
set_option maxHeartbeats 4000000
set_option maxRecDepth 100000
open Go Go.RowKit Go.Sort Byt OpsM OpsK OpsW
theorem zkh {s:ByteArray} (h:zan s=[]):s.toList=[]:=by
 rw[empty_of h,ByteArray.toList_eq]
theorem zmc {s:ByteArray} (h:zan s≠[]):¬s.toList=[]:=by
 intro e
 apply h
 rw[ByteArray.toList_eq]at e
 unfold zan
 rw[e]
 rfl
theorem zdi {n:Int} {e:ByteArray} (h:¬(-1048576≤n∧n≤1048576∧n≠0∧zan e=[])):zjJ n e=false:=by
 rw[←zeu]at h
 simpa using h
theorem zmd {n:Int} {e:ByteArray} (h:¬(zbQ (zan e)=true∧n=0)):zgO n e=false:=by
 rw[←zdN]at h
 simpa using h
theorem mays1 (g:Nat) (o:Opn) (w:World) (h:zbP w g o) (hn:I64 o.n):
  Calls Tryz.prog 147 #[.pointer (some ⟨g,0,none⟩)] w fun e w'=>e=.returned (.bool (zjJ o.n o.elem))∧w=w':=by
 have c2:=h.elem
 have c3:=h.n
 obtain⟨n,hn'⟩:∃n,o.n=n:=⟨_,rfl⟩
 obtain⟨s,hs'⟩:∃s,o.elem=s:=⟨_,rfl⟩
 rw[hn']at c3 hn ⊢
 rw[hs']at c2 ⊢
 unfold I64 at hn
 obtain⟨n1,n2⟩:=hn
 clear hn' hs' h
 by_cases ha:n< -1048576
 ·have HR:=aside (zdi (n:=n) (e:=s) (by omega))
  go_enter Tryz.func147,Tryz.ntmps147
  go_wp2
  go_ret
  exact⟨zae HR.out.symm,rfl⟩
 ·by_cases hb:1048576<n
  ·have HR:=aside (zdi (n:=n) (e:=s) (by omega))
   go_enter Tryz.func147,Tryz.ntmps147
   go_wp2
   go_ret
   exact⟨zae HR.out.symm,rfl⟩
  ·by_cases h0:n=0
   ·subst h0
    have HR:=aside (zdi (n:=0) (e:=s) (by omega))
    go_enter Tryz.func147,Tryz.ntmps147
    go_wp2
    go_ret
    exact⟨zae HR.out.symm,rfl⟩
   ·by_cases he:zan s=[]
    ·have HR:=aside (zeu (n:=n) (e:=s) |>.2 ⟨by omega,by omega,h0,he⟩)
     have e1:=zkh he
     have e3:s.toList.isEmpty=true:=by rw[e1];rfl
     have t0:(n != 0)=true:=by simpa using h0
     clear he h0
     go_enter Tryz.func147,Tryz.ntmps147
     go_wp2
     go_ret
     exact⟨zae HR.out.symm,rfl⟩
    ·have HR:=aside (zdi (n:=n) (e:=s) (fun q=>he q.2.2.2))
     have e1:=zmc he
     have e3:s.toList.isEmpty=false:=by simpa using e1
     have t0:(n != 0)=true:=by simpa using h0
     clear he h0
     go_enter Tryz.func147,Tryz.ntmps147
     go_wp2
     go_ret
     exact⟨zae HR.out.symm,rfl⟩
theorem mays2 (g:Nat) (o:Opn) (w:World) (h:zbP w g o) (hs:o.elem.size≤maxLen):
  Calls Tryz.prog 148 #[.pointer (some ⟨g,0,none⟩)] w fun e w'=>e=.returned (.bool (zgO o.n o.elem))∧w=w':=by
 have c2:=h.elem
 have c3:=h.n
 obtain⟨n,hn'⟩:∃n,o.n=n:=⟨_,rfl⟩
 obtain⟨s,hs'⟩:∃s,o.elem=s:=⟨_,rfl⟩
 rw[hn']at c3 ⊢
 rw[hs']at c2 hs ⊢
 have hk:=key s hs
 clear hn' hs' h
 cases hb:zbQ (zan s)with
 |false=>
  have HR:=aside (zmd (n:=n) (e:=s) (by rw[hb];simp))
  rw[hb]at hk
  clear hb
  go_enter Tryz.func148,Tryz.ntmps148
  go_wp2_with (refine(hk _).mono ?_;rintro e w' ⟨rfl,rfl⟩)
  go_ret
  exact⟨zae HR.out.symm,rfl⟩
 |true=>
  rw[hb]at hk
  by_cases h0:n=0
  ·have HR:=aside (zdN (n:=n) (e:=s) |>.2 ⟨hb,h0⟩)
   have t0:(n == 0)=true:=by simpa using h0
   clear hb h0
   go_enter Tryz.func148,Tryz.ntmps148
   go_wp2_with (refine(hk _).mono ?_;rintro e w' ⟨rfl,rfl⟩)
   go_ret
   exact⟨zae HR.out.symm,rfl⟩
  ·have HR:=aside (zmd (n:=n) (e:=s) (fun q=>h0 q.2))
   have t0:(n == 0)=false:=by simpa using h0
   clear hb h0
   go_enter Tryz.func148,Tryz.ntmps148
   go_wp2_with (refine(hk _).mono ?_;rintro e w' ⟨rfl,rfl⟩)
   go_ret
   exact⟨zae HR.out.symm,rfl⟩
theorem znq (w:World) (f g:Value):TabAt (w.alloc (.map (((((#[]:Array MapEntry).push ⟨.int .i64 0,f,0⟩).push ⟨.int .i64 1,g,1⟩).push ⟨.int .i64 2,g,2⟩).push ⟨.int .i64 3,g,3⟩) 4)) w.heap.size f g:=heap_alloc_new w _
def Tab (F G:Nat) (o:Opn) (w:World) (e:Ending) (w':World):Prop:=
 ∃b m,e=.returned (.map (some m))∧zbP w' b o∧TabAt w' m (.func (.func F) #[] #[.pointer (some ⟨b,0,none⟩)]) (.func (.func G) #[] #[.pointer (some ⟨b,0,none⟩)])∧Below w.heap.size w w'
theorem mays (o:Opn) (w:World):
  Calls Tryz.prog 106 #[.agg (opc o)] w (Tab 147 148 o w):=by
 have O1:=zbP.new w o 45
 have hmm:=made 150
 go_enter Tryz.func106,Tryz.ntmps106
 go_wp2_with (refine zcx Tryz.underlying150 rfl rfl _ _ _ rfl _ _ _ rfl _ rfl (by simp) _ (by unfold I64;omega) rfl rfl _ rfl ?_)
 go_ret
 have hz:(w.alloc (.cells (opc o) 45)).heap.size=w.heap.size+1:=by simp
 have ht:=znq (w.alloc (.cells (opc o) 45)) (.func (.func 147) #[] #[.pointer (some ⟨w.heap.size,0,none⟩)]) (.func (.func 148) #[] #[.pointer (some ⟨w.heap.size,0,none⟩)])
 rw[hz]at ht
 exact⟨w.heap.size,w.heap.size+1,rfl,O1.alloc _,ht,((Below.refl _ _).alloc (Nat.le_refl _) _).alloc (by simp) _⟩
theorem zpy (w:World):(zeroValue 24).run Tryz.prog w=.ok .nilFunc w:=by kernel_rfl
theorem zg2 {o:Opn} (h:zbQ (zan o.key)=false):zda o=false:=by unfold zda;rw[h];rfl
theorem zdK {o:Opn} (h:zbQ (zan o.key)=true):zda o=zij o:=by unfold zda;rw[h];rfl
theorem restB0 {o:Opn} (h:o.kind=0):zij o=zjJ o.n o.elem:=by unfold zij;rw[if_pos h]
theorem restB1 {o:Opn} (h:o.kind=1∨o.kind=2∨o.kind=3):zij o=zgO o.n o.elem:=by unfold zij;rw[if_neg (by omega),if_pos h]
theorem restBN {o:Opn} (h:o.kind<0∨3<o.kind):zij o=false:=by unfold zij;rw[if_neg (by omega),if_neg (by omega)]
structure Fit (o:Opn):Prop where
 kind:I64 o.kind
 n:I64 o.n
 key:o.key.size≤maxLen
 elem:o.elem.size≤maxLen
theorem may0 (o:Opn) (w:World) (hf:Fit o) (hk:o.kind=0) (b:Bool) (hb:zbQ (zan o.key)=b):
  Calls Tryz.prog 62 #[.agg (opc o)] w fun e w'=>e=.returned (.bool (zda o))∧Below w.heap.size w w':=by
 have O1:=zbP.new w o 45
 have ck:=key o.key hf.key
 rw[hb]at ck
 have cf:=fun g W h=>mays1 g o W h hf.n
 obtain⟨r,hr⟩:∃r,zda o=r:=⟨_,rfl⟩
 rw[hr]
 have HR:=aside hr
 have HB:=aside hb
 have HK:=aside hk
 clear hr hb hk
 go_enter Tryz.func62,Tryz.ntmps62
 go_wp2_with fail
 refine Grow.region [(0,true),(2,true),(3,true),(1,false),(4,true),(5,true),(6,true),(7,true),(8,true),(9,true)] (by kernel_rfl) (by kernel_rfl) rfl (by kernel_rfl) (by intro c a d v w h;cases d <;> exact h) ?_
 have kd:Below w.heap.size w (w.alloc (.cells (opc o) 45)).drew:=zaf ((Below.refl _ _).alloc (Nat.le_refl _) _)
 have O2:zbP (w.alloc (.cells (opc o) 45)).drew w.heap.size o:=O1
 obtain⟨W1,hW1⟩:∃W,(w.alloc (.cells (opc o) 45)).drew=W:=⟨_,rfl⟩
 rw[hW1]at kd O2 ⊢
 clear hW1 O1
 have q0:=O2.zhS
 repeat (first|(refine zcL rfl rfl _ rfl _ rfl o O2 ?_;simp only[Act.put,List.setIfInBounds_toArray,List.set_cons_succ,List.set_cons_zero])|(refine Grow.reads rfl rfl ?_;go_big_quiet_step (fail);refine wpQuiet_nil ?_))
 clear q0
 refine Grow.acts rfl ?_
 go_wp2_with fail
 refine(mays o W1).mono ?_
 rintro e w2 ⟨g,m,rfl,Og,Tm,h2⟩
 have O3:=O2.below h2
 have k2:=kd.trans (h2.mono kd.size)
 clear kd O2
 go_wp2_with fail
 refine⟨h2,?_⟩
 clear h2
 have hl:=zlS Tryz.underlying150 true Tm
 rw[←HK.out]at hl
 repeat (refine Grow.reads rfl rfl ?_;go_big_quiet_step (fail);refine wpQuiet_nil ?_)
 clear hl
 refine Grow.ends ?_
 have c1:=O3.key
 cases b with
 |false=>
  go_wp2_with fail
  refine(ck _).mono ?_
  rintro e w3 ⟨rfl,rfl⟩
  clear ck
  go_wp2_with fail
  go_ret
  exact⟨zae (HR.out.symm.trans (zg2 HB.out)).symm,k2⟩
 |true=>
  go_wp2_with fail
  refine(ck _).mono ?_
  rintro e w3 ⟨rfl,rfl⟩
  clear ck
  go_wp2_with fail
  refine(cf _ _ Og).mono ?_
  rintro e w3 ⟨rfl,rfl⟩
  clear cf
  go_wp2_with fail
  go_ret
  exact⟨zae (HR.out.symm.trans ((zdK HB.out).trans (restB0 HK.out))).symm,k2⟩
theorem may1 (o:Opn) (w:World) (hf:Fit o) (hk:o.kind=1∨o.kind=2∨o.kind=3) (b:Bool) (hb:zbQ (zan o.key)=b):
  Calls Tryz.prog 62 #[.agg (opc o)] w fun e w'=>e=.returned (.bool (zda o))∧Below w.heap.size w w':=by
 have O1:=zbP.new w o 45
 have ck:=key o.key hf.key
 rw[hb]at ck
 have cf:=fun g W h=>mays2 g o W h hf.elem
 obtain⟨r,hr⟩:∃r,zda o=r:=⟨_,rfl⟩
 rw[hr]
 have HR:=aside hr
 have HB:=aside hb
 have HK:=aside hk
 clear hr hb hk
 go_enter Tryz.func62,Tryz.ntmps62
 go_wp2_with fail
 refine Grow.region [(0,true),(2,true),(3,true),(1,false),(4,true),(5,true),(6,true),(7,true),(8,true),(9,true)] (by kernel_rfl) (by kernel_rfl) rfl (by kernel_rfl) (by intro c a d v w h;cases d <;> exact h) ?_
 have kd:Below w.heap.size w (w.alloc (.cells (opc o) 45)).drew:=zaf ((Below.refl _ _).alloc (Nat.le_refl _) _)
 have O2:zbP (w.alloc (.cells (opc o) 45)).drew w.heap.size o:=O1
 obtain⟨W1,hW1⟩:∃W,(w.alloc (.cells (opc o) 45)).drew=W:=⟨_,rfl⟩
 rw[hW1]at kd O2 ⊢
 clear hW1 O1
 have q0:=O2.zhS
 repeat (first|(refine zcL rfl rfl _ rfl _ rfl o O2 ?_;simp only[Act.put,List.setIfInBounds_toArray,List.set_cons_succ,List.set_cons_zero])|(refine Grow.reads rfl rfl ?_;go_big_quiet_step (fail);refine wpQuiet_nil ?_))
 clear q0
 refine Grow.acts rfl ?_
 go_wp2_with fail
 refine(mays o W1).mono ?_
 rintro e w2 ⟨g,m,rfl,Og,Tm,h2⟩
 have O3:=O2.below h2
 have k2:=kd.trans (h2.mono kd.size)
 clear kd O2
 go_wp2_with fail
 refine⟨h2,?_⟩
 clear h2
 have hl:=zlR Tryz.underlying150 true HK.out Tm
 repeat (refine Grow.reads rfl rfl ?_;go_big_quiet_step (fail);refine wpQuiet_nil ?_)
 clear hl
 refine Grow.ends ?_
 have c1:=O3.key
 cases b with
 |false=>
  go_wp2_with fail
  refine(ck _).mono ?_
  rintro e w3 ⟨rfl,rfl⟩
  clear ck
  go_wp2_with fail
  go_ret
  exact⟨zae (HR.out.symm.trans (zg2 HB.out)).symm,k2⟩
 |true=>
  go_wp2_with fail
  refine(ck _).mono ?_
  rintro e w3 ⟨rfl,rfl⟩
  clear ck
  go_wp2_with fail
  refine(cf _ _ Og).mono ?_
  rintro e w3 ⟨rfl,rfl⟩
  clear cf
  go_wp2_with fail
  go_ret
  exact⟨zae (HR.out.symm.trans ((zdK HB.out).trans (restB1 HK.out))).symm,k2⟩
theorem mayN (o:Opn) (w:World) (hf:Fit o) (hk:o.kind<0∨3<o.kind) (b:Bool) (hb:zbQ (zan o.key)=b):
  Calls Tryz.prog 62 #[.agg (opc o)] w fun e w'=>e=.returned (.bool (zda o))∧Below w.heap.size w w':=by
 have O1:=zbP.new w o 45
 have ck:=key o.key hf.key
 rw[hb]at ck
 obtain⟨r,hr⟩:∃r,zda o=r:=⟨_,rfl⟩
 rw[hr]
 have HR:=aside hr
 have HB:=aside hb
 have HK:=aside hk
 clear hr hb hk
 go_enter Tryz.func62,Tryz.ntmps62
 go_wp2_with fail
 refine Grow.region [(0,true),(2,true),(3,true),(1,false),(4,true),(5,true),(6,true),(7,true),(8,true),(9,true)] (by kernel_rfl) (by kernel_rfl) rfl (by kernel_rfl) (by intro c a d v w h;cases d <;> exact h) ?_
 have kd:Below w.heap.size w (w.alloc (.cells (opc o) 45)).drew:=zaf ((Below.refl _ _).alloc (Nat.le_refl _) _)
 have O2:zbP (w.alloc (.cells (opc o) 45)).drew w.heap.size o:=O1
 obtain⟨W1,hW1⟩:∃W,(w.alloc (.cells (opc o) 45)).drew=W:=⟨_,rfl⟩
 rw[hW1]at kd O2 ⊢
 clear hW1 O1
 have q0:=O2.zhS
 repeat (first|(refine zcL rfl rfl _ rfl _ rfl o O2 ?_;simp only[Act.put,List.setIfInBounds_toArray,List.set_cons_succ,List.set_cons_zero])|(refine Grow.reads rfl rfl ?_;go_big_quiet_step (fail);refine wpQuiet_nil ?_))
 clear q0
 refine Grow.acts rfl ?_
 go_wp2_with fail
 refine(mays o W1).mono ?_
 rintro e w2 ⟨g,m,rfl,Og,Tm,h2⟩
 have O3:=O2.below h2
 have k2:=kd.trans (h2.mono kd.size)
 clear kd O2
 go_wp2_with fail
 refine⟨h2,?_⟩
 clear h2
 have hl:=lookN_in Tryz.underlying150 true hf.kind HK.out zpy Tm
 repeat (refine Grow.reads rfl rfl ?_;go_big_quiet_step (fail);refine wpQuiet_nil ?_)
 clear hl
 refine Grow.ends ?_
 have c1:=O3.key
 clear ck
 go_wp2_with fail
 go_ret
 refine⟨zae (HR.out.symm.trans ?_).symm,k2⟩
 cases b with
 |false=>exact zg2 HB.out
 |true=>rw[zdK HB.out,restBN HK.out]
theorem may (o:Opn) (w:World) (hf:Fit o):
  Calls Tryz.prog 62 #[.agg (opc o)] w fun e w'=>e=.returned (.bool (zda o))∧Below w.heap.size w w':=by
 by_cases h0:o.kind=0
 ·exact may0 o w hf h0 _ rfl
 ·by_cases h1:o.kind=1∨o.kind=2∨o.kind=3
  ·exact may1 o w hf h1 _ rfl
  ·exact mayN o w hf (by omega) _ rfl
end Go.Proofs.YtgmdhaepiclkcaaGreatDoor.OpsC
namespace Go.Proofs.YtgmdhaepiclkcaaGreatDoor.RowS
set_option maxRecDepth 100000
open Go Go.RowKit Byt
structure Enc (α:Type) where
 T:TypeId
 S:TypeId
 k:Nat
 bytes:Nat
 d:TypeDesc
 enc:α→List Value
 zero:α
 len:∀x,(enc x).length=k
 one:∀x,∀v ∈ enc x,v.oneCell'=true
 pos:0<k
 small:bytes≤100
 info:(Tryz.prog.info? T).map (fun i=>(i.zero,i.size,i.bytes))=some (some (.agg (enc zero).toArray),k,bytes)
 slice: Tryz.prog.underlying S=some (.slice T)
 under: Tryz.prog.underlying T=some d
 row:d.isRow=true
variable {α:Type} (E:Enc α)
theorem Enc.size (x:α):(Tryz.prog.info? E.T).map (·.size)=some (E.enc x).length:=by
 have h:=E.info
 cases hq: Tryz.prog.info? E.T with
 |none=>rw[hq]at h;cases h
 |some i=>
  rw[hq]at h
  simp only[Option.map_some,Option.some.injEq,Prod.mk.injEq]at h
  simp[h.2.1,E.len]
theorem Enc.size' (x:α):(Tryz.prog.info? E.T).map (·.size)=some (E.enc x).toArray.size:=by rw[List.size_toArray];exact E.size x
theorem Enc.elem: Tryz.prog.elem E.S=E.T:=by simp[Program.elem,E.slice]
theorem Enc.all (x:α):(E.enc x).toArray.all (·.oneCell')=true:=Array.all_eq_true_iff_forall_mem.2 (fun v hv=>E.one x v (by simpa using hv))
def flat (l:List α):List Value:=l.flatMap E.enc
theorem zbk (x:α) (l:List α):flat E (x::l)=E.enc x++flat E l:=rfl
theorem zbb (a b:List α):flat E (a++b)=flat E a++flat E b:=by simp[flat]
theorem zd4 (x:α):flat E [x]=E.enc x:=by simp[flat]
theorem flat_length:∀l:List α,(flat E l).length=l.length * E.k
 |[]=>by simp[flat]
 |x::l=>by rw[zbk,List.length_append,E.len,flat_length l,List.length_cons,Nat.add_mul,Nat.one_mul,Nat.add_comm]
theorem zoG (l:List α):∀v ∈ flat E l,v.oneCell'=true:=by
 intro v hv
 simp only[flat,List.mem_flatMap]at hv
 obtain⟨x,_,hx⟩:=hv
 exact E.one x v hx
theorem zcd:∀(l:List α) (i j:Nat) (x:α) (v:Value),l[i]?=some x→(E.enc x)[j]?=some v→(flat E l)[i * E.k+j]?=some v
 |[],i,_,_,_,h,_=>by simp at h
 |y::l,0,j,x,v,h,hv=>by
  obtain rfl:y=x:=by simpa using h
  have hj:=(List.getElem?_eq_some_iff.1 hv).1
  rw[zbk,Nat.zero_mul,Nat.zero_add,List.getElem?_append_left hj,hv]
 |y::l,i+1,j,x,v,h,hv=>by
  rw[zbk,List.getElem?_append_right (by rw[E.len,Nat.add_mul];omega),E.len,show(i+1) * E.k+j - E.k=i * E.k+j by rw[Nat.add_mul];omega]
  exact zcd l i j x v (by simpa using h) hv
def SlR (w:World) (A:Option Addr) (cap:Nat) (l:List α):Prop:=
 l.length≤cap∧cap≤maxLen∧((A=none∧l=[]∧cap=0)∨∃x,A=some x∧∀i v,(flat E l)[i]?=some v→w.cell? (x.add i)=some v)
theorem SlR.nil (w:World):SlR E w none 0 []:=⟨Nat.le_refl _,Nat.zero_le _,.inl ⟨rfl,rfl,rfl⟩⟩
variable {E}
theorem SlR.below {w w':World} {A:Option Addr} {cap:Nat} {l:List α} (h:SlR E w A cap l) (hb:Below w.heap.size w w'):SlR E w' A cap l:=by
 obtain⟨h1,h2,h5⟩:=h
 refine⟨h1,h2,?_⟩
 rcases h5 with h5|⟨x,rfl,hc⟩
 ·exact .inl h5
 ·refine .inr ⟨x,rfl,fun i v hv=>?_⟩
  have hcell:=hc i v hv
  exact(hb.cell (block_lt_of_cell hcell)).trans hcell
theorem SlR.plain {w:World} {A:Option Addr} {cap:Nat} {l:List α} (h:SlR E w A cap l) (hp:0<l.length):
  ∃b off,A=some ⟨b,off,none⟩∧b<w.heap.size∧∀i x,l[i]?=some x→w.rangeAt b (off+i * E.k) (E.enc x):=by
 obtain⟨h1,h2,h5⟩:=h
 rcases h5 with⟨_,rfl,_⟩|⟨x,rfl,hc⟩
 ·simp at hp
 ·have hx:l[0]?=some l[0]:=List.getElem?_eq_getElem hp
  have hk:(E.enc l[0])[0]?=some ((E.enc l[0])[0]'(by rw[E.len];exact E.pos)):=List.getElem?_eq_getElem _
  have h0:=hc _ _ (zcd E l 0 0 _ _ hx hk)
  rw[Nat.zero_mul,Nat.zero_add]at h0
  obtain⟨b,off,spot⟩:=x
  have hspot:spot=none:=by simpa[Addr.add]using World.cell?_spot h0
  subst hspot
  have hb:=block_lt_of_cell h0
  rw[RowIn.block_add]at hb
  refine⟨b,off,rfl,hb,fun i x hi j v hv=>?_⟩
  have:=hc _ _ (zcd E l i j x v hi hv)
  rw[Addr.add_lit]at this
  rw[Nat.add_assoc]
  exact this
theorem zab {w w':World} {b o:Nat} {cs:List Value} (h:w.rangeAt b o cs) (hb:Below w.heap.size w w'):w'.rangeAt b o cs:=fun j v hv=>by
 have hc:=h j v hv
 exact(hb.cell (block_lt_of_cell hc)).trans hc
theorem SlR.own {w:World} {base n:Nat} {v:Value} {l:List α} (h:w.ownsRow base E.T E.k v n (flat E l)):∃A cap,v=.slice A l.length cap∧SlR E w A cap l:=by
 have hn:l.length=n:=by
  have:=h.1
  rw[flat_length]at this
  exact Nat.eq_of_mul_eq_mul_right E.pos this
 rcases h.2 with⟨rfl,rfl⟩|⟨g,cap,cur,rfl,hbg,hg,h1,h2,h3,h4⟩
 ·have:l=[]:=List.eq_nil_of_length_eq_zero hn
  subst this
  exact⟨none,0,rfl,SlR.nil E w⟩
 ·refine⟨some ⟨g,0,none⟩,cap,by rw[hn],by omega,h2,.inr ⟨_,rfl,fun i u hu=>?_⟩⟩
  exact h.cells rfl i u hu
theorem SlR.part {w:World} {A:Option Addr} {cap:Nat} {l:List α} (h:SlR E w A cap l) (i j:Nat) (hij:i≤j) (hj:j≤l.length):
  ∃A' cap',sliced A i j cap E.k=.slice A' (j - i) cap'∧SlR E w A' cap' ((l.drop i).take (j - i))∧((l.drop i).take (j - i)).length=j - i:=by
 obtain⟨h1,h2,h5⟩:=h
 have hl:((l.drop i).take (j - i)).length=j - i:=by simp;omega
 rcases h5 with⟨rfl,rfl,rfl⟩|⟨x,rfl,hc⟩
 ·simp at hj
  obtain rfl:j=0:=hj
  obtain rfl:i=0:=by omega
  exact⟨none,0,by simp[sliced],by simpa using SlR.nil E w,hl⟩
 ·by_cases hci:cap=i
  ·refine⟨some x,cap - i,by simp[sliced,hci],⟨by rw[hl];omega,by omega,.inr ⟨x,rfl,fun m v hv=>?_⟩⟩,hl⟩
   have:=(List.getElem?_eq_some_iff.1 hv).1
   rw[flat_length,hl,show j - i=0 by omega,Nat.zero_mul]at this
   omega
  ·refine⟨some (x.add (i * E.k)),cap - i,by simp[sliced,hci],⟨by rw[hl];omega,by omega,.inr ⟨_,rfl,fun m v hv=>?_⟩⟩,hl⟩
   rw[Addr.add_add]
   apply hc
   have hm:=(List.getElem?_eq_some_iff.1 hv).1
   rw[flat_length,hl]at hm
   have hd:flat E l=flat E (l.take i)++(flat E ((l.drop i).take (j - i))++flat E ((l.drop i).drop (j - i))):=by
    rw[←zbb,←zbb,List.take_append_drop,List.take_append_drop]
   have ht:(flat E (l.take i)).length=i * E.k:=by rw[flat_length,List.length_take,Nat.min_eq_left (by omega)]
   rw[hd,List.getElem?_append_right (by rw[ht];omega),ht,Nat.add_sub_cancel_left,List.getElem?_append_left (by rw[flat_length,hl];exact hm)]
   exact hv
theorem zal {ops:Array Oper} {rest:List Oper} {o:Oper} {a:Act} {w:World} {Q:Exit→Act→World→Prop} (E:Enc α) (hgd:o.guard=none) (x:Operand) (ho:o.op=.load E.T x)
  (b off:Nat) (hx:a.eval x=.pointer (some ⟨b,off,none⟩)) (y:α) (hc:w.rangeAt b off (E.enc y)) (h:wpList Tryz.prog ops Q rest (a.put o.dst (.agg (E.enc y).toArray)) w):wpList Tryz.prog ops Q (o::rest) a w:=
 wpList_load_mid hgd E.T x ho b off hx (E.enc y) _ hc E.under E.row (E.size y) h
theorem zaH {w:World} {ops:Array Oper} {rest:List Oper} {o:Oper} {a:Act} {Q:Exit→Act→World→Prop} (E:Enc α) (hgd:o.guard=none) (s x:Operand)
  (ho:o.op=.call {callee:=.builtin .append,args:=#[s,x],argTypes:=#[E.S,E.S]})
  (base:Nat) (v:Value) (n:Nat) (xs:List α) (hs:a.eval s=v) (hown:w.ownsRow base E.T E.k v n (flat E xs))
  (A:Option Addr) (m c:Nat) (l:List α) (hx:a.eval x=.slice A m c) (hm:l.length=m) (hr:SlR E w A c l)
  (h63:n+m≤1000000000) (hbase:base≤w.heap.size)
  (h:∀v' w',w'.ownsRow base E.T E.k v' (n+m) (flat E (xs++l))→w.grownBy w' v.ownBlock→wpList Tryz.prog ops Q rest (a.put o.dst v') w'):wpList Tryz.prog ops Q (o::rest) a w:=by
 obtain⟨i,hi,z0,z1,z2⟩:=info_parts E.info
 subst hm
 obtain⟨h1,h2,h5⟩:=hr
 rcases h5 with⟨rfl,rfl,rfl⟩|⟨ad,rfl,hc⟩
 ·refine wpList_append_own_none hgd s x E.S ho base E.T i E.k E.slice hi v n (flat E xs) hs hown hx (h v w ?_ (zaq (Below.refl _ _) _))
  simpa using hown
 ·have hb:(n+l.length) * E.bytes≤140737488355328:=by
   have h3:(n+l.length) * E.bytes≤1000000000 * 100:=Nat.mul_le_mul h63 E.small
   omega
  exact wpList_append_own w hgd s x E.S ho base E.T i (.agg (E.enc E.zero).toArray) E.k E.bytes E.slice hi z0 z1 z2 (by simp[Value.cells,E.len]) E.pos v n (flat E xs) hs hown ad l.length c (flat E l) hx (flat_length E l) (fun j u hu=>hc j u hu) (zoG E l) (by unfold maxLen;omega) hb hbase (fun v' w' a1 a2 _=>h v' w' (by rw[zbb];exact a1) a2)
theorem SlR.zil (E:Enc α) (w:World) (x:α) (t:TypeId):SlR E (w.alloc (.cells (E.enc x).toArray t)) (some ⟨w.heap.size,0,none⟩) 1 [x]:=by
 refine⟨Nat.le_refl _,by unfold maxLen;omega,.inr ⟨_,rfl,fun i v hv=>?_⟩⟩
 rw[zd4]at hv
 rw[Addr.add_lit,Nat.zero_add,cell_of_row _ _ i _ t (0,0) (heap_alloc_new w _),List.getElem?_toArray]
 exact hv
theorem SlR.of_cells (E:Enc α) {w:World} {g:Nat} {l:List α} {t:TypeId} {fr:Nat×Nat} (h:w.heap[g]?=some (.cells (flat E l).toArray t fr)) (hl:l.length≤maxLen):SlR E w (some ⟨g,0,none⟩) l.length l:=by
 refine⟨Nat.le_refl _,hl,.inr ⟨_,rfl,fun i v hv=>?_⟩⟩
 rw[Addr.add_lit,Nat.zero_add,cell_of_row w g i _ t fr h,List.getElem?_toArray]
 exact hv
def NewR (E:Enc α) (l:List α) (w:World) (e:Ending) (w':World):Prop:=
 ∃v,e=.returned v∧w'.ownsRow w.heap.size E.T E.k v l.length (flat E l)∧Below w.heap.size w w'
def zie (E:Enc α) (l:List α) (w:World) (e:Ending) (w':World):Prop:=∃A cap,e=.returned (.slice A l.length cap)∧SlR E w' A cap l∧Below w.heap.size w w'
theorem NewR.s {E:Enc α} {l:List α} {w w':World} {e:Ending} (h:NewR E l w e w'):zie E l w e w':=by
 obtain⟨v,rfl,o,k⟩:=h
 obtain⟨A,cap,rfl,S⟩:=SlR.own o
 exact⟨A,cap,rfl,S,k⟩
end Go.Proofs.YtgmdhaepiclkcaaGreatDoor.RowS
