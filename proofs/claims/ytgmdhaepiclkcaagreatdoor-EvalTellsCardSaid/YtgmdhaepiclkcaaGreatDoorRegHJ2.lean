/- Plain facts on two sides of registers that are gathered by their keys | What the functions of package reg return -/
import Derived.Test.YtgmdhaepiclkcaaGreatDoorRegBJ3
import Derived.Test.YtgmdhaepiclkcaaGreatDoorRegF
import Derived.Test.YtgmdhaepiclkcaaGreatDoorRegUJ10
namespace Go.Proofs.YtgmdhaepiclkcaaGreatDoor.RegH
set_option maxRecDepth 100000
open Go Byt OpsM Rise RegM RegL RegE RegC
structure Mid (l m:List Rg) (n j:Nat):Prop where
 ahead:∀x ∈ l.take n,∀y ∈ m.drop j,ltS y.key x.key=false
 behind:∀x ∈ l.drop n,∀y ∈ m.take j,ltS y.key x.key=true
theorem Mid.start (l m:List Rg):Mid l m 0 0:=⟨by simp,by simp⟩
theorem zg1 {l:List Rg} (h:zbd l=true) (n:Nat):zbd (l.take n)=true:=by
 rw[←List.take_append_drop n l]at h
 exact(zc9 h).1
theorem zlP {l:List Rg} (h:zbd l=true) (n:Nat):zbd (l.drop n)=true:=by
 rw[←List.take_append_drop n l]at h
 exact(zc9 h).2.1
theorem zhr (l:List Rg) (n k:Nat):l.take n++(l.drop n).take k=l.take (n+k):=by
 rw[List.take_add]
theorem le_trans {a b c:ByteArray} (h:ltS b a=false) (h2:ltS b c=true):ltS c a=false:=by
 cases h3:ltS c a with
 |false=>rfl
 |true=>rw[zaA.trans _ _ _ h2 h3]at h;cases h
theorem Mid.each {l m:List Rg} {n j:Nat} {r:Rg} (h:Mid l m n j) (hl:zbd l=true) (hm:zbd m=true) (_hr:m[j]?=some r):
  ((l.drop n).take (upN r.key (l.drop n))).foldl zhh (zaQ (l.take n) (m.take j))=zaQ (l.take (n+upN r.key (l.drop n))) (m.take j):=by
 rw[←zhr]
 refine zkB (zg1 hm j) (by rw[zhr];exact zg1 hl _) (fun x hx y hy=>?_)
 exact zaA.asymm (h.behind x (List.mem_of_mem_take hx) y hy)
theorem Mid.put {l m:List Rg} {n j:Nat} {r:Rg} (h:Mid l m n j) (hl:zbd l=true) (hm:zbd m=true) (hr:m[j]?=some r):
  zhh (zaQ (l.take (n+upN r.key (l.drop n))) (m.take j)) r=zaQ (l.take (n+upN r.key (l.drop n))) (m.take (j+1))∧Mid l m (n+upN r.key (l.drop n)) (j+1):=by
 obtain⟨hj,rfl⟩:=List.getElem?_eq_some_iff.1 hr
 have et:m.take (j+1)=m.take j++[m[j]]:=List.take_succ_eq_append_getElem hj
 have ed:m.drop j=m[j]::m.drop (j+1):=List.drop_eq_getElem_cons hj
 have hup:∀x ∈ l.take (n+upN m[j].key (l.drop n)),ltS m[j].key x.key=false:=by
  intro x hx
  rw[←zhr]at hx
  rcases List.mem_append.1 hx with hx|hx
  ·exact h.ahead x hx _ (by rw[ed];exact List.mem_cons_self)
  ·exact zpH x hx
 have hrise:∀y ∈ m.drop (j+1),ltS m[j].key y.key=true:=by
  have:=zlP hm j
  rw[ed]at this
  intro y hy
  exact(List.pairwise_cons.1 (zbu.1 this).2).1 y hy
 refine⟨?_,⟨fun x hx y hy=>le_trans (hup x hx) (hrise y hy),fun x hx y hy=>?_⟩⟩
 ·rw[et]
  exact step_b (zg1 hl _) (by rw[←et];exact zg1 hm _) hup
 ·rw[←List.drop_drop]at hx
  rw[et]at hy
  rcases List.mem_append.1 hy with hy|hy
  ·exact h.behind x (List.mem_of_mem_drop hx) y hy
  ·have e:y=m[j]:=by simpa using hy
   rw[e]
   exact znj (zbu.1 (zlP hl n)).2 x hx
theorem Mid.ends {l m:List Rg} {n j:Nat} (h:Mid l m n j) (hl:zbd l=true) (hm:zbd m=true) (hj:j=m.length):(l.drop n).foldl zhh (zaQ (l.take n) (m.take j))=zaQ l m:=by
 subst hj
 have hb:=h.behind
 rw[List.take_length]at hb ⊢
 rw[zkB hm (by rw[List.take_append_drop];exact hl) (fun x hx y hy=>zaA.asymm (hb x hx y hy)),List.take_append_drop]
end Go.Proofs.YtgmdhaepiclkcaaGreatDoor.RegH
namespace Go.Proofs.YtgmdhaepiclkcaaGreatDoor.RegD
set_option maxHeartbeats 16000000
set_option maxRecDepth 100000
open Go Go.RowKit Byt OpsM OpsK Rise RegM RegL RowS RowB RegW RegG RegE RegC RegF RegH
theorem zaz (A:Option Addr) (cap:Nat) (l:List Rg) (w:World) (S:SlR E w A cap l) (hf:Fits l) (hl:l.length≤10000000):
  Calls Tryz.prog 57 #[.slice A l.length cap] w fun e w'=>e=.returned (.bool (zbd l))∧Below w.heap.size w w':=RegB.zaz A cap l w S hf (by omega)
theorem zoF {l:List Rg} {j:Nat} {x:Rg} (h:l[j]?=some x) (acc:List Rg):(l.take (j+1)).foldl zhh acc=zhh ((l.take j).foldl zhh acc) x:=by
 obtain⟨hj,rfl⟩:=List.getElem?_eq_some_iff.1 h
 rw[List.take_succ_eq_append_getElem hj,List.foldl_append]
 rfl
theorem zme (K:Nat→Obj→Prop) (g:Nat) (acc:List Rg) (A:Option Addr) (cap:Nat) (l:List Rg) (w0 w:World) (S:SlR E w0 A cap l) (kb:Below w0.heap.size w0 w) (h:ze7 K w0.heap.size g acc w) (hl:acc.length+l.length≤100000000):
  Calls Tryz.prog 97 #[.slice A l.length cap,.func (.func 95) #[.pointer (some ⟨g,0,none⟩)] #[]] w fun e w'=>e=.returned (.tuple #[])∧ze7 K w0.heap.size g (l.foldl zhh acc) w'∧Below w0.heap.size w0 w':=by
 have hcap:=S.1
 go_enter Tryz.func97,Tryz.ntmps97
 go_wp2
 go_loopw [8] (fun i wr=>∃(j:Nat) (out:List Rg),j≤l.length∧i=.int .i64 j∧Hid ((l.take j).foldl zhh acc=out)∧ze7 K w0.heap.size g out wr∧Below w0.heap.size w0 wr) (fun i _=>l.length - (intOf i).toNat)
 case atStart=>exact⟨0,acc,Nat.zero_le _,rfl,aside rfl,h,kb⟩
 case round=>
  clear h kb
  obtain⟨j,out,hj,rfl,HO,h,kb⟩:=hrel
  by_cases hlt:j<l.length
  ·obtain⟨b,off,rfl,hbw,hr⟩:=RegW.plain S (by omega)
   obtain⟨x,hx⟩:∃x,l[j]?=some x:=⟨_,List.getElem?_eq_getElem hlt⟩
   have hr1:=zab (hr j x hx) kb
   have p0:(j:Int)<l.length:=by omega
   have m0:((j:Int)).toNat=j:=by omega
   have ho:out.length≤100000000:=by
    rw[←HO.out]
    have:=ze1 (l.take j) acc
    rw[List.length_take]at this
    omega
   have HN:=aside (zoF hx acc)
   have cp:=fun W h1 h2=>RegF.zcE K w0.heap.size g out x W h1 h2 ho
   obtain⟨o2,ho2⟩:∃o,zhh out x=o:=⟨_,rfl⟩
   rw[ho2]at cp
   have HO2:Hid ((l.take (j+1)).foldl zhh acc=o2):=aside (by rw[HN.out,HO.out,ho2])
   clear hr S hx HN HO ho2
   go_wp2_with (first
    |(refine zal E rfl _ rfl b _ rfl x hr1 ?_)
    |(refine zaa E rfl _ rfl _ rfl x bx ?_)
    |(refine(cp _ h3 (Nat.le_trans kb.size (Nat.le_trans kx.size (Nat.le_refl _)))).mono ?_;rintro e w5 ⟨rfl,h5,k5⟩;have k6:=k3.trans k5;clear bx kx h3 k3 k5)
    |(refine zac E rfl _ _ rfl _ _ _ rfl x _ rfl rfl rfl rfl ?_;intro w2 bx kx gx sx;have h3:=h.below kx;have k3:=kb.trans (kx.mono kb.size);clear gx sx))
   go_roundw
   case rel=>exact⟨j+1,o2,by omega,by go_num,HO2,h5,k6⟩
   case measure=>simp[intOf];omega
  ·have e:j=l.length:=by omega
   have HR:Hid (l.foldl zhh acc=out):=aside (by rw[←HO.out,e,List.take_length])
   clear S HO
   go_wp2
   go_end0
   rw[HR.out]
   exact⟨rfl,h,kb⟩
theorem zcX (A:Option Addr) (cap:Nat) (l:List Rg) (B:Option Addr) (dap:Nat) (m:List Rg) (w:World) (S:SlR E w A cap l) (T:SlR E w B dap m) (hf:Fits l) (hg:Fits m) (hl:l.length≤10000000) (hm:m.length≤10000000) (hno:zbd l=false∨(zbd l=true∧zbd m=false)):
  Calls Tryz.prog 51 #[.slice A l.length cap,.slice B m.length dap] w (zie E [] w):=by
 have ca:=RegB.zaz A cap l w S hf (by omega)
 have cb:=fun W T=>RegB.zaz B dap m W T hg (by omega)
 obtain⟨bm,hbm⟩:∃b,zbd m=b:=⟨_,rfl⟩
 rw[hbm]at cb hno
 clear hbm
 rcases hno with h|⟨h,rfl⟩
 all_goals
  rw[h]at ca
  clear h
  go_enter Tryz.func51,Tryz.ntmps51
  go_wp2_with fail
  refine ca.mono ?_
  rintro e w1 ⟨rfl,h1⟩
  have T1:=T.below h1
  go_wp2_with (first|(refine(cb _ T1).mono ?_;rintro e w2 ⟨rfl,h2⟩;have k2:=h1.trans (h2.mono h1.size)))
  go_ret
  first
   |exact⟨none,0,rfl,SlR.nil E _,k2⟩
   |exact⟨none,0,rfl,SlR.nil E _,h1⟩
theorem zii {ops:Array Oper} {rest:List Oper} {o:Oper} {a:Act} {w:World} {Q:Exit→Act→World→Prop} (hgd:o.guard=none) (x y:Operand) (ho:o.op=.store 137 x y)
  (w0:World) (old:Array Value) (t:TypeId) (hw:w=w0.alloc (.cells old t)) (v:Value) (h1:v.oneCell'=true) (g:Nat) (hx:a.eval x=.pointer (some ⟨g,0,none⟩)) (hg:g=w0.heap.size) (hy:a.eval y=.agg #[v]) (hs:old.size=1)
  (h:∀w1,w1.heap[w0.heap.size]?=some (.cells #[v] t (0,0))→Below w0.heap.size w0 w1→wpList Tryz.prog ops Q rest (a.put o.dst undef) w1):wpList Tryz.prog ops Q (o::rest) a w:=by
 subst hw
 subst hg
 refine wpList_store_row hgd 137 x y ho w0.heap.size #[v] hx hy t old (heap_alloc_new w0 _) (by kernel_rfl) (by simp[hs]) (by simp[h1]) ?_
 rw[World.setRow_alloc_new]
 exact h _ (heap_alloc_new w0 _) ((Below.refl _ _).alloc (Nat.le_refl _) _)
theorem zeB (A:Option Addr) (cap:Nat) (l:List Rg) (B:Option Addr) (dap:Nat) (m:List Rg) (w:World) (S:SlR E w A cap l) (T:SlR E w B dap m) (hf:Fits l) (hg:Fits m) (hl:l.length≤10000000) (hm:m.length≤10000000) (ml:zbd l=true) (mm:zbd m=true):
  Calls Tryz.prog 51 #[.slice A l.length cap,.slice B m.length dap] w (zie E (zaQ l m) w):=by
 have ca:=RegB.zaz A cap l w S hf (by omega)
 have cb:=fun W T=>RegB.zaz B dap m W T hg (by omega)
 rw[ml]at ca
 rw[mm]at cb
 have ML:=aside ml
 have MM:=aside mm
 have hmk0:=hmf
 clear ml mm
 obtain⟨i,hi,z0,z1,z2⟩:=info_parts E.info
 have hadd:IntKind.i64.wrap ((l.length:Int)+(m.length:Int))=((l.length+m.length:Nat):Int):=by rw[IntKind.wrap_i64];omega
 go_enter Tryz.func51,Tryz.ntmps51
 go_wp2_with fail
 refine ca.mono ?_
 rintro e w1 ⟨rfl,h1⟩
 have T1:=T.below h1
 have S1:=S.below h1
 clear ca
 go_wp2_with fail
 refine(cb _ T1).mono ?_
 rintro e w2 ⟨rfl,h2⟩
 have k2:=h1.trans (h2.mono h1.size)
 have S2:=S1.below h2
 have T2:=T1.below h2
 have hz2:=k2.size
 clear T1 S1 h1 h2 cb S T
 obtain⟨w3,hmk,zbL,g3⟩:=run_make_own (P:=Tryz.prog) w2 w2.heap.size 27 62 i (.agg (E.enc E.zero).toArray) 5 Tryz.underlying27 hi z0 z1 .i64 .i64 (l.length+m.length) (by rw[z2];show 56 * _≤_;omega) (by unfold maxLen;omega) (Nat.le_refl _)
 have k3:Below w2.heap.size w2 w3:=below_grown (Below.refl _ _) (Nat.le_refl _) g3 (fun q hq=>by cases hq)
 have hlt3:=(zbL.lt w2.heap.size rfl).2
 rw[Int.natCast_add]at hmk
 clear hi z0 z1 z2 g3
 go_wp2_with (first|(refine zii rfl _ _ rfl _ _ _ rfl _ rfl _ rfl rfl rfl rfl ?_;intro w4 hc4 k4))
 have G4:ze7 (fun _ _=>False) w2.heap.size w3.heap.size [] w4:=⟨w2.heap.size,_,_,hc4,zbL.kept (zaq k4 none) (.inr (by simp[Value.ownBlock])),by omega,k3.size,fun _ _ h=>h.elim⟩
 have k5:Below w2.heap.size w2 w4:=k3.trans (k4.mono k3.size)
 have hTc:=T2.1
 have HM0:Hid (([]:List Rg)=zaQ (l.take 0) (m.take 0)):=aside rfl
 clear hc4 zbL k4 hmk hadd hf hg k3
 obtain⟨g,hg0⟩:∃g,w3.heap.size=g:=⟨_,rfl⟩
 rw[hg0]at G4 ⊢
 clear hg0 hlt3
 go_loopw [0,28] (fun v i wr=>∃(j n:Nat) (A:Option Addr) (c:Nat) (R out:List Rg),j≤m.length∧i=.int .i64 j∧v=.slice A R.length c∧SlR E w2 A c R∧Hid (R=l.drop n)∧R.length≤10000000∧Hid (out=zaQ (l.take n) (m.take j))∧Hid (Mid l m n j)∧ze7 (fun _ _=>False) w2.heap.size g out wr∧Below w2.heap.size w2 wr) (fun _ i _=>m.length - (intOf i).toNat)
 case atStart=>exact⟨0,0,A,cap,l,[],Nat.zero_le _,rfl,rfl,S2,aside rfl,hl,HM0,aside (Mid.start l m),G4,k5⟩
 case round=>
  clear G4 k5 HM0 S2
  obtain⟨j,n,A1,c1,R,out,hj,rfl,rfl,SR,HR,hRl,HO,HD,hG,kb⟩:=hrel
  have hol:out.length≤20000000:=by
   rw[HO.out]
   have h1:=zdn (l.take n) (m.take j)
   rw[List.length_take,List.length_take]at h1
   omega
  by_cases hlt:j<m.length
  ·obtain⟨b,off,rfl,hbw,hr⟩:=RegW.plain T2 (by omega)
   obtain⟨x,hx⟩:∃x,m[j]?=some x:=⟨_,List.getElem?_eq_getElem hlt⟩
   have hr1:=zab (hr j x hx) kb
   have p0:(j:Int)<m.length:=by omega
   have m0:((j:Int)).toNat=j:=by omega
   have zoy:=HD.out.each ML.out MM.out hx
   have hPut:=HD.out.put ML.out MM.out hx
   rw[←HR.out,←HO.out]at zoy
   rw[←HR.out]at hPut
   have hKle:=upN_le x.key R
   have cu:=fun W S=>zpD A1 c1 R x.key W S (by omega)
   obtain⟨K,hK⟩:∃K,upN x.key R=K:=⟨_,rfl⟩
   rw[hK]at zoy hPut hKle cu
   obtain⟨hPut,hMid⟩:=hPut
   obtain⟨o2,ho2⟩:∃o,(R.take K).foldl zhh out=o:=⟨_,rfl⟩
   rw[ho2]at zoy
   rw[←zoy]at hPut
   have hol2:o2.length≤30000000:=by
    have:=ze1 (R.take K) out
    rw[ho2,List.length_take]at this
    omega
   obtain⟨o3,ho3⟩:∃o,zhh o2 x=o:=⟨_,rfl⟩
   rw[ho3]at hPut
   have HO3:=aside hPut
   have HD3:=aside hMid
   have HR3:Hid (R.drop K=l.drop (n+K)):=aside (by rw[HR.out,List.drop_drop])
   obtain⟨A2,c2,hp1,S3⟩:=RowP.ahead SR K hKle
   obtain⟨A3,c3,hp2,S4⟩:=RowP.behind SR K hKle
   have ce:=fun Z W k h=>zme Z g out A2 c2 (R.take K) w2 W S3 k h (by rw[List.length_take];omega)
   rw[List.length_take,Nat.min_eq_left hKle,ho2]at ce
   have cp:=fun W h1 h2=>RegF.zcE (fun _ _=>False) w2.heap.size g o2 x W h1 h2 (by omega)
   rw[ho3]at cp
   have hp1':∀W,(Instr.sliceAt 27 (.slice A1 R.length c1) none (some (.int .i64 K)) none).run Tryz.prog W=.ok (.slice A2 K c2) W:=fun W=>hp1 W .i64
   have hp2':∀W,(Instr.sliceAt 27 (.slice A1 R.length c1) (some (.int .i64 K)) none none).run Tryz.prog W=.ok (.slice A3 (R.length - K) c3) W:=fun W=>hp2 W .i64
   have hld:R.length - K=(R.drop K).length:=by simp
   have HLD:=aside hld
   clear hp1 hp2 S3 zoy hPut hMid ho2 ho3 hK hr hx HR HO HD hld
   go_wp2_with (first
    |(refine zal E rfl _ rfl b _ rfl x hr1 ?_)
    |(refine zac E rfl _ _ rfl _ _ _ rfl x _ rfl rfl rfl rfl ?_;intro w5 bx kx gx sx;have hX:=bx;obtain⟨tx,htx⟩:=bx;have hG5:=hG.more kx (Nat.le_refl _) htx;have bx:Box E w5 wr.heap.size x:=⟨tx,htx⟩;clear hX htx;have k5:=kb.trans (kx.mono kb.size);have c0:=bx.cell (j:=0) rfl;clear gx sx))
   refine(cu _ (SR.below k5)).mono ?_
   rintro e w6 ⟨rfl,h6⟩
   have bx6:=bx.below h6
   have hG6:=hG5.below h6
   have k6:=k5.trans (h6.mono k5.size)
   clear cu c0 bx hG5 hG kx h6 hr1
   go_wp2_with fail
   refine(ce _ _ k6 hG6).mono ?_
   rintro e w7 ⟨rfl,hG7,k7⟩
   have bx7:Box E w7 wr.heap.size x:=⟨tx,hG7.kept ⟨rfl,rfl⟩⟩
   have hG7:=hG7.less
   clear ce hG6 k6 bx6
   go_wp2_with (first|(refine zaa E rfl _ rfl _ rfl x bx7 ?_))
   refine(cp _ hG7 k7.size).mono ?_
   rintro e w8 ⟨rfl,hG8,k8⟩
   have k9:=k7.trans k8
   clear cp hG7 k7 k8 bx7
   go_wp2_with fail
   go_roundw
   case rel=>exact⟨j+1,n+K,A3,c3,R.drop K,o3,by omega,by go_num,by rw[←HLD.out],S4,HR3,by rw[List.length_drop];omega,HO3,HD3,hG8,k9⟩
   case measure=>simp[intOf];omega
  ·have e:j=m.length:=by omega
   have hEnd:=HD.out.ends ML.out MM.out e
   rw[←HR.out,←HO.out]at hEnd
   have ce:=fun W k h=>zme (fun _ _=>False) g out A1 c1 R w2 W SR k h (by omega)
   rw[hEnd]at ce
   clear T2 HR HO HD hEnd hTc
   go_wp2_with fail
   refine(ce _ kb hG).mono ?_
   rintro e w7 ⟨rfl,hG7,k7⟩
   obtain⟨q,c5,t5,hc7,own7,_,_,_⟩:=hG7
   have cell7:=RowH.cell_of_one hc7
   have k9:=k2.trans (k7.mono k2.size)
   obtain⟨A7,c7,e7,S7⟩:=SlR.own own7
   have S7:SlR E w7 (some ⟨q,0,none⟩) c5 (zaQ l m):=by injection e7 with e1 e2 e3;subst e1;subst e3;exact S7
   clear e7 own7
   clear ce hG kb SR hc7
   go_wp2_with fail
   go_ret
   exact⟨_,_,rfl,S7,k9⟩
theorem zaW (A:Option Addr) (cap:Nat) (l:List Rg) (B:Option Addr) (dap:Nat) (m:List Rg) (w:World) (S:SlR E w A cap l) (T:SlR E w B dap m) (hf:Fits l) (hg:Fits m) (hl:l.length≤10000000) (hm:m.length≤10000000):
  Calls Tryz.prog 51 #[.slice A l.length cap,.slice B m.length dap] w (zie E (zaQ l m) w):=by
 cases h1:zbd l with
 |false=>rw[za8 (.inl h1)];exact zcX A cap l B dap m w S T hf hg hl hm (.inl h1)
 |true=>
  cases h2:zbd m with
  |false=>rw[za8 (.inr h2)];exact zcX A cap l B dap m w S T hf hg hl hm (.inr ⟨h1,h2⟩)
  |true=>exact zeB A cap l B dap m w S T hf hg hl hm h1 h2
theorem znO (l:List Rg) (c:Rg):zaQ l [c]=zen l c:=by
 have hc:zbd [c]=zeg c:=RegX.zhL
 cases h1:zbd l with
 |false=>rw[za8 (.inl h1),zis (.inl h1)]
 |true=>
  cases h2:zeg c with
  |false=>rw[za8 (.inr (by rw[hc,h2])),zis (.inr h2)]
  |true=>
   unfold zaQ
   rw[if_pos ⟨h1,by rw[hc,h2]⟩]
   rfl
theorem zcE (A:Option Addr) (cap:Nat) (l:List Rg) (c:Rg) (w:World) (S:SlR E w A cap l) (hf:Fits l) (hc:Fit c) (hl:l.length≤10000000):
  Calls Tryz.prog 110 #[.slice A l.length cap,.agg (rc c)] w (zie E (zen l c) w):=by
 have Z:Below w.heap.size w (w.alloc (.cells (rc c) 62)):=zah _ _
 have N:Box E (w.alloc (.cells (rc c) 62)) w.heap.size c:=Box.new w c _
 have S0:=S.below Z
 have hz:=Z.size
 have cm:=fun W C S T=>zaW A cap l C 1 [c] W S T hf (RegX.zha hc) (by omega) (by simp)
 clear S
 go_enter Tryz.func110,Tryz.ntmps110
 go_wp2_with (first
  |(refine zaa E rfl _ rfl _ rfl c N ?_)
  |(refine RowC.zdR E (of_decide_eq_true rfl) rfl _ rfl c rfl ?_;intro w1 T1 k1;have S1:=S0.below k1;have k2:=Z.trans (k1.mono hz)))
 have T2:SlR E w1 (some ⟨w.heap.size+1,0,none⟩) 1 [c]:=by
  have e:(w.alloc (.cells (rc c) 62)).heap.size=w.heap.size+1:=by simp
  rw[e]at T1
  exact T1
 have h:=cm _ _ S1 T2
 rw[znO]at h
 refine h.mono ?_
 rintro e w3 ⟨A3,c3,rfl,S3,k3⟩
 have k4:=k2.trans (k3.mono k2.size)
 clear cm h N S0 S1 T1 T2 k1 k2 k3
 go_wp2_with fail
 go_ret
 exact⟨A3,c3,rfl,S3,k4⟩
end Go.Proofs.YtgmdhaepiclkcaaGreatDoor.RegD
