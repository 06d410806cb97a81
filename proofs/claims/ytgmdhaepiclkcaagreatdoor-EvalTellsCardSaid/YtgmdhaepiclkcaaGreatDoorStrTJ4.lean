/- The keys of a map of numbers, sorted | The keys of a map of numbers, sorted | What counts returns | What the functions of package ctr return -/
import Derived.Test.YtgmdhaepiclkcaaGreatDoorEaSJ5
import Derived.Shelf.SortM.Plain
import Derived.Shelf.SortM.SortNone
import Derived.Sort.OwnSorted
import Derived.Sort.Walk0
import Derived.Maps.AppendAt
import Derived.Test.YtgmdhaepiclkcaaGreatDoorPairGJ12
namespace Go.Proofs.YtgmdhaepiclkcaaGreatDoor.StrT
set_option maxRecDepth 100000
open Go Go.RowKit Go.Sort Go.Shelf Go.Proofs Byt Rise StrK
def ts (l:List ByteArray):List Value:=l.map Value.string
theorem znl (a b:List ByteArray):ts (a++b)=ts a++ts b:=by simp[ts]
def raw (l:List ByteArray):List (List UInt8):=l.map fun x=>x.data.toList
def zpt (l:List (List UInt8)):List ByteArray:=l.map fun x=>⟨x.toArray⟩
theorem zmg (l:List ByteArray):zpt (raw l)=l:=by
 unfold zpt raw
 rw[List.map_map]
 have:((fun x:List UInt8=>(⟨x.toArray⟩:ByteArray)) ∘ fun x:ByteArray=>x.data.toList)=id:=by
  funext x
  cases x
  simp
 rw[this,List.map_id]
theorem zma (l:List (List UInt8)):l.map encStr=ts (zpt l):=by
 unfold ts zpt
 rw[List.map_map]
 rfl
theorem enc_raw (l:List ByteArray):(raw l).map encStr=ts l:=by rw[zma,zmg]
theorem ltS_iff (a b:ByteArray):ltS a b=decide (a.data.toList<b.data.toList):=by
 unfold ltS
 rw[bytesLess_eq,ByteArray.toList_eq,ByteArray.toList_eq]
theorem zny {l:List ByteArray} (hn:l.Nodup):Rises id ltS (zpt ((raw l).mergeSort fun x y=>decide (x≤y)))∧(∀x,x ∈ zpt ((raw l).mergeSort fun x y=>decide (x≤y))↔x ∈ l)∧(zpt ((raw l).mergeSort fun x y=>decide (x≤y))).length=l.length:=by
 have hp:=List.mergeSort_perm (raw l) fun x y=>decide (x≤y)
 have hs:((raw l).mergeSort fun x y=>decide (x≤y)).Pairwise fun x y=>decide (x≤y)=true:=
  List.pairwise_mergeSort (fun a b c h1 h2=>by simp only[decide_eq_true_eq]at *;exact List.le_trans h1 h2) (fun a b=>by simp only[Bool.or_eq_true,decide_eq_true_eq];exact List.le_total a b) _
 have hc:(zpt ((raw l).mergeSort fun x y=>decide (x≤y))).Perm l:=by
  have:=hp.map (fun x:List UInt8=>(⟨x.toArray⟩:ByteArray))
  have e:(raw l).map (fun x:List UInt8=>(⟨x.toArray⟩:ByteArray))=l:=zmg l
  rwa[e]at this
 refine⟨?_,fun x=>hc.mem_iff,hc.length_eq⟩
 have hnd:=hc.nodup_iff.2 hn
 unfold Rises
 have h1:(zpt ((raw l).mergeSort fun x y=>decide (x≤y))).Pairwise fun x y=>x.data.toList≤y.data.toList:=by
  unfold zpt
  rw[List.pairwise_map]
  exact hs.imp (fun h=>by simpa using h)
 refine(h1.and (List.nodup_iff_pairwise_ne.1 hnd)).imp ?_
 rintro x y ⟨h2,h3⟩
 show ltS x y=true
 rw[ltS_iff,decide_eq_true_eq]
 rcases Classical.em (x.data.toList<y.data.toList)with h|h
 ·exact h
 ·refine absurd ?_ h3
  have e:=List.le_antisymm h2 (List.not_lt.1 h)
  cases x;cases y
  congr 1
  exact Array.ext' e
theorem zln:(Tryz.prog.info? 9).map (fun i=>(i.zero,i.size,i.bytes))=some (some (.string ⟨#[]⟩),1,16):=by kernel_rfl
theorem zil (w:World) (x:ByteArray) (t:TypeId):∀j u,(ts [x])[j]?=some u→(w.alloc (.cells #[.string x] t)).cell? ((⟨w.heap.size,0,none⟩:Addr).add j)=some u:=by
 intro j u hu
 cases j with
 |zero=>
  simp only[ts,List.map_cons,List.map_nil,List.getElem?_cons_zero,Option.some.injEq]at hu
  subst hu
  rw[Addr.add_lit,Nat.zero_add,cell_of_row _ _ 0 _ t (0,0) (heap_alloc_new w _)]
  rfl
 |succ j=>simp[ts]at hu
theorem zbK {w:World} {ops:Array Oper} {rest:List Oper} {o:Oper} {a:Act} {Q:Exit→Act→World→Prop} (hgd:o.guard=none) (s x:Operand)
  (ho:o.op=.call {callee:=.builtin .append,args:=#[s,x],argTypes:=#[170,170]})
  (base:Nat) (v:Value) (n:Nat) (xs:List ByteArray) (hs:a.eval s=v) (hown:w.ownsRow base 9 1 v n (ts xs))
  (ad:Addr) (y:ByteArray) (hx:a.eval x=.slice (some ad) 1 1) (hr:∀j u,(ts [y])[j]?=some u→w.cell? (ad.add j)=some u)
  (h63:n≤1000000000) (hbase:base≤w.heap.size)
  (h:∀v' w',w'.ownsRow base 9 1 v' (n+1) (ts (xs++[y]))→w.grownBy w' v.ownBlock→wpList Tryz.prog ops Q rest (a.put o.dst v') w'):wpList Tryz.prog ops Q (o::rest) a w:=by
 obtain⟨i,hi,z0,z1,z2⟩:=info_parts zln
 exact wpList_append_own w hgd s x 170 ho base 9 i (.string ⟨#[]⟩) 1 16 Tryz.underlying170 hi z0 z1 z2 rfl (by decide) v n (ts xs) hs hown ad 1 1 (ts [y]) hx (by simp[ts]) hr (by intro u hu;simp[ts]at hu;subst hu;rfl) (by unfold maxLen;omega) (by omega) hbase
  (fun v' w' a1 a2 _=>h v' w' (by rw[znl];exact a1) a2)
theorem zft {w:World} {base:Nat} {v:Value} {l:List ByteArray} (h:w.ownsRow base 9 1 v l.length (ts l)) (hn:l.Nodup) (hl:l.length≤1000000000):
  Calls Tryz.prog 172 #[v] w fun e w'=>
   e=.returned (.tuple #[])∧∃l',w'.ownsRow base 9 1 v l'.length (ts l')∧Rises id ltS l'∧(∀x,x ∈ l'↔x ∈ l)∧l'.length=l.length∧w.grownBy w' v.ownBlock:=by
 rcases h.2 with⟨rfl,e⟩|⟨g,cap,cur,rfl,hbg,hg,h1,h2,h3,h4⟩
 ·have e:=List.eq_nil_of_length_eq_zero e
  subst e
  refine(AnyM.slices_Sort_string_none Tryz.zlt none 0 w).mono ?_
  rintro e w' ⟨rfl,rfl⟩
  exact⟨rfl,[],h,List.Pairwise.nil,fun x=>Iff.rfl,rfl,zaq (Below.refl _ _) _⟩
 ·have hr:(raw l).length=l.length:=by simp[raw]
  have hH:Holds encStr w g 0 (raw l).toArray:=holds_of_block hg (by rw[hr,enc_raw];simpa using h4)
  have q:=AnyM.slices_Sort_string Tryz.zlt g 0 cap (raw l) w hH (Array.getElem?_eq_some_iff.1 hg).1 (by rw[hr];omega)
  rw[hr]at q
  refine q.mono ?_
  rintro e w' ⟨rfl,n,os,rfl⟩
  obtain⟨s1,s2,s3⟩:=zny hn
  refine⟨rfl,_,?_,s1,s2,s3,grownBy_sorted _⟩
  have:=ownsRow_sorted (n:=n) (os:=os) (ss:=raw l) (ts:=(raw l).mergeSort fun x y=>decide (x≤y)) (by simp) hbg hg (by rw[hr];exact h1) h2 h3
  rw[hr,zma]at this
  rw[s3]
  exact this
end Go.Proofs.YtgmdhaepiclkcaaGreatDoor.StrT
namespace Go.Proofs.YtgmdhaepiclkcaaGreatDoor.StrR
set_option maxHeartbeats 1000000
set_option maxRecDepth 100000
open Go Go.RowKit Go.Sort Go.Shelf Go.Proofs Byt Rise StrK StrT
abbrev Ranges (w:World) (b r n:Nat) (D:DataW Unit) (left:Lit→Bool) (cnt:Nat):Prop:=w.ranges Tryz.prog 9 (plainElem Tryz.prog 3) b r n D left cnt
theorem zeM {w:World} {b n:Nat} {D:DataW Unit} {base m k:Nat} {T:TypeId} {v:Value} {xs:List Value} (h:w.ownsMap Tryz.prog 9 (plainElem Tryz.prog 3) b n D) (hr:w.ownsRow base T k v m xs):some b≠v.ownBlock:=by
 obtain⟨es,clock,hb,_⟩:=h
 rcases hr.2 with⟨rfl,_⟩|⟨g,cap,cur,rfl,_,hg,_⟩
 ·simp[Value.ownBlock]
 ·intro e
  simp only[Value.ownBlock,Option.some.injEq]at e
  subst e
  rw[hb]at hg
  cases hg
theorem ziS {K acc:List ByteArray} {left:Lit→Bool} {x:ByteArray} (h:∀z,z ∈ acc↔z ∈ K∧left (key z)=false) (hx:x ∈ K):∀z,z ∈ acc++[x]↔z ∈ K∧(left (key z)&& !(key z).sameKey (key x))=false:=by
 intro z
 rw[List.mem_append,h,List.mem_singleton]
 by_cases hz:z=x
 ·subst hz
  simp[zcy,hx]
 ·have:(key z).sameKey (key x)=false:=Maps.sameKey_ne (fun e=>hz (key_inj e))
  simp[this,hz]
theorem zhm (w:World) {ops:Array Oper} {rest:List Oper} {o:Oper} {a:Act} {Q:Exit→Act→World→Prop} (hg:o.guard=none) (it:Operand) (hop:o.op=Op.next it false) (b r n:Nat) (D:DataW Unit) (left:Lit→Bool) (cnt:Nat)
  (hit:a.eval it=.pointer (some ⟨r,0,none⟩)) (h:Ranges w b r n D left cnt)
  (hDone:(∀kl,left kl=false)→wpList Tryz.prog ops Q rest (a.put o.dst (.tuple #[.bool false])) w)
  (hMore:∀(x:ByteArray) (c:Int) (w':World) (cnt':Nat),x.size≤maxLen→Maps.has D (key x)=true→left (key x)=true→Ranges w' b r n D (fun z=>left z&& !z.sameKey (key x)) cnt'→cnt'<cnt→
   w.grownBy w' (some r)→(Instr.entry (.pointer (some ⟨r,0,none⟩))).run Tryz.prog w'=.ok (.tuple #[.string x,.int .i64 c]) w'→wpList Tryz.prog ops Q rest (a.put o.dst (.tuple #[.bool true,.string x,.int .i64 c])) w'):
  wpList Tryz.prog ops Q (o::rest) a w:=by
 refine wpList_next_ranges w hg it hop 9 law (plainElem Tryz.prog 3) Value.string (Value.int .i64) (fun _ _ hk=>zdM hk) (fun _ _ hv=>by obtain⟨c,rfl,_⟩:=plainElem_int_inv Tryz.underlying3 hv;exact⟨c,rfl⟩) b r n D left cnt hit h (fun _ hl=>hDone hl) ?_
 intro x c kl y w' cnt' hkey hlx _ hat hrg hlt hgr _ hen
 obtain⟨rfl,hs⟩:=zok hkey
 exact hMore x c w' cnt' hs (Maps.has_true_of_atKey hat) hlx hrg hlt hgr hen
theorem zf9 (b n:Nat) (K:List ByteArray) (f:ByteArray→Int) (w:World) (h:NumIn w b n K f) (hn:n≤100000000):
  Calls Tryz.prog 138 #[.map (some b)] w fun e w'=>∃v ks,e=.returned v∧w'.ownsRow w.heap.size 9 1 v ks.length (ts ks)∧Rises id ltS ks∧(∀x,x ∈ ks↔x ∈ K)∧(∀x,x ∈ ks→x.size≤maxLen)∧ks.length≤n∧Below w.heap.size w w':=by
 obtain⟨D,hown,hD⟩:=h
 have hsz:=hown.size_le
 obtain⟨i,hi,z0,z1,z2⟩:=info_parts zln
 obtain⟨w1,hmk,zfw,g1⟩:=run_make_own (P:=Tryz.prog) w w.heap.size 170 9 i (.string ⟨#[]⟩) 1 Tryz.underlying170 hi z0 z1 .i64 .i64 (Maps.size D) (by rw[z2];omega) (by unfold maxLen;omega) (Nat.le_refl _)
 have hown1:=hown.kept g1 (by simp)
 have kb1:Below w.heap.size w w1:=below_grown (Below.refl _ _) (Nat.le_refl _) g1 (fun k hk=>by cases hk)
 clear hi z0 z1 z2
 go_enter Tryz.func138,Tryz.ntmps138
 go_wp2_with (first
  |(at_len;refine wpList_len_own _ rfl _ 133 rfl 9 3 Tryz.underlying133 _ b n D rfl hown ?_)
  |(at_range;refine wpList_range_own _ rfl _ 133 rfl 9 3 law Tryz.underlying133 _ b n _ rfl hown1 ?_;intro w0 hrg0 hg0 hs0))
 go_frame
 have own0:w0.ownsRow w.heap.size 9 1 (.slice (some ⟨w.heap.size,0,none⟩) 0 (Maps.size D)) 0 []:=zfw.kept hg0 (by simp[Value.ownBlock])
 have kb0:Below w.heap.size w w0:=below_grown kb1 kb1.size hg0 (fun k hk=>by cases hk)
 clear zfw hown1 g1 hmk
 go_loopw [3] (fun v wr=>∃(left:Lit→Bool) (cnt:Nat) (acc:List ByteArray),Ranges wr b w1.heap.size n D left cnt∧wr.ownsRow w.heap.size 9 1 v acc.length (ts acc)∧acc.Nodup∧Hid (∀x,x ∈ acc↔x ∈ K∧left (key x)=false)∧Hid (∀x,x ∈ acc→x.size≤maxLen)∧acc.length+cnt≤n∧Below w.heap.size w wr)
  (fun _ wr=>wr.rangeLeft b w1.heap.size)
 case atStart=>
  refine⟨_,_,[],hrg0,own0,List.nodup_nil,aside (fun x=>?_),aside (fun x hx=>by simp at hx),by simpa using hsz,kb0⟩
  rw[←hD.1 x]
  cases Maps.has D (key x) <;> simp
 case round=>
  clear hrg0 own0 kb0 hg0 hs0
  obtain⟨left,cnt,acc,hrg,hrow,hnd,hmem,hbig,hle,kb⟩:=hrel
  go_wp2_with (first
   |(at_next;refine zhm _ rfl _ rfl b w1.heap.size n _ _ _ rfl hrg ?_ ?_))
  ·intro hl0
   have hmem':Hid (∀x,x ∈ acc↔x ∈ K):=aside (fun x=>by rw[hmem.out x,hl0 (key x)];simp)
   have hso:=zft hrow hnd (by omega)
   go_wp2_with fail
   refine hso.mono ?_
   rintro e w3 ⟨rfl,ks,h3,s1,s2,s3,g3⟩
   have HS2:=aside s2
   have HS3:=aside s3
   clear s2 s3 hso
   go_wp2_with fail
   go_ret
   exact⟨_,ks,rfl,h3,s1,fun x=>(HS2.out x).trans (hmem'.out x),fun x hx=>hbig.out x ((HS2.out x).1 hx),by rw[HS3.out];omega,below_grown kb kb.size g3 (fun k hk=>(hrow.lt k hk).1)⟩
  ·intro x c w2 cnt1 hxs hhas hlx hrg1 hlt hg1 hen
   have hrow1:=hrow.kept hg1 (.inr (fun e=>row_ne_iter hrow hrg e.symm))
   have hxK:x ∈ K:=(hD.1 x).1 hhas
   have kb2:Below w.heap.size w w2:=below_grown kb kb.size hg1 (fun k hk=>by cases hk;exact kb1.size)
   go_wp2_with (first|(refine zbK rfl _ _ rfl w.heap.size _ _ acc rfl (hrow1.alloc _) _ x rfl (zil _ x _) (by omega) (by have:=kb2.size;simp;omega) ?_;intro v' w3 hrow3 hg3))
   rename_i u3
   have hgA:w2.grownBy w3 u3.ownBlock:=(World.grownBy_alloc w2 _ _).trans hg3
   have hrg3:=hrg1.kept hgA (zeM hrg1.owns hrow1) (row_ne_iter hrow1 hrg1)
   go_roundw
   case rel=>
    refine⟨_,cnt1,acc++[x],hrg3,by simpa using hrow3,?_,aside (ziS hmem.out hxK),aside (fun z hz=>?_),by simp;omega,below_grown kb2 kb2.size hgA (fun k hk=>(hrow.lt k hk).1)⟩
    ·rw[List.nodup_append]
     refine⟨hnd,by simp,fun a ha b hb=>?_⟩
     rintro rfl
     simp at hb
     subst hb
     rw[(hmem.out a).1 ha |>.2]at hlx
     cases hlx
    ·rcases List.mem_append.1 hz with h|h
     ·exact hbig.out z h
     ·simp at h
      rw[h]
      exact hxs
   case measure=>rw[hrg3.left_eq,hrg.left_eq];exact hlt
end Go.Proofs.YtgmdhaepiclkcaaGreatDoor.StrR
namespace Go.Proofs.YtgmdhaepiclkcaaGreatDoor.CtrH
set_option maxHeartbeats 4000000
set_option maxRecDepth 100000
open Go Go.RowKit Byt OpsM Rise CtrM RowS RowB CtrW StrK StrT CtrG
def pick (f:ByteArray→Int) (ks:List ByteArray):List Cn:=ks.filterMap fun x=>if f x≠0 then some ⟨x,f x⟩else none
theorem zp7 {f:ByteArray→Int} {ks:List ByteArray} {k:Nat} {x:ByteArray} (h:ks[k]?=some x) (hx:f x≠0):pick f (ks.take (k+1))=pick f (ks.take k)++[⟨x,f x⟩]:=by
 obtain⟨hk,rfl⟩:=List.getElem?_eq_some_iff.1 h
 unfold pick
 rw[List.take_succ_eq_append_getElem hk,List.filterMap_append]
 simp[hx]
theorem pick_no {f:ByteArray→Int} {ks:List ByteArray} {k:Nat} {x:ByteArray} (h:ks[k]?=some x) (hx:f x=0):pick f (ks.take (k+1))=pick f (ks.take k):=by
 obtain⟨hk,rfl⟩:=List.getElem?_eq_some_iff.1 h
 unfold pick
 rw[List.take_succ_eq_append_getElem hk,List.filterMap_append]
 simp[hx]
theorem zp9 (f:ByteArray→Int) (ks:List ByteArray):(pick f ks).length≤ks.length:=List.length_filterMap_le _ _
theorem zp8 {f:ByteArray→Int} {ks:List ByteArray} {c:Cn}:c ∈ pick f ks↔c.key ∈ ks∧f c.key=c.n∧c.n≠0:=by
 unfold pick
 rw[List.mem_filterMap]
 constructor
 ·rintro⟨x,hx,h⟩
  by_cases h0:f x=0
  ·rw[if_neg (by simp[h0])]at h
   cases h
  ·rw[if_pos h0]at h
   injection h with h
   subst h
   exact⟨hx,rfl,h0⟩
 ·rintro⟨h1,h2,h3⟩
  refine⟨c.key,h1,?_⟩
  rw[if_pos (by rw[h2];exact h3),h2]
theorem zmG {f:ByteArray→Int} {ks:List ByteArray} (h:Rises id ltS ks):Rises Cn.key ltS (pick f ks):=by
 unfold pick Rises
 rw[List.pairwise_filterMap]
 refine h.imp (fun{x y} hxy c hc d hd=>?_)
 split at hc <;> simp at hc
 split at hd <;> simp at hd
 subst hc
 subst hd
 exact hxy
theorem pick_is {f:ByteArray→Int} {ks K:List ByteArray} {T:List Cn} (hs:Rises id ltS ks) (hm:∀x,x ∈ ks↔x ∈ K) (h0:∀x,x ∉ K→f x=0) (hT:zbe T=true) (hv:∀k,zbC T k=f k):pick f ks=T:=by
 refine Rises.ext zaA (zmG hs) (zbo.1 hT).2 (fun c=>?_)
 rw[zp8,mem_iff hT,hv]
 constructor
 ·rintro⟨_,h2⟩
  exact h2
 ·rintro⟨h1,h2⟩
  refine⟨?_,h1,h2⟩
  rw[hm]
  refine Classical.byContradiction fun hn=>h2 ?_
  rw[←h1]
  exact h0 _ hn
theorem ziC (b n:Nat) (K:List ByteArray) (f:ByteArray→Int) (T:List Cn) (w:World) (h:NumIn w b n K f) (hn:n≤100000000) (hT:zbe T=true) (hv:∀k,zbC T k=f k):
  Calls Tryz.prog 94 #[.map (some b)] w (NewR E T w):=by
 have hb:=h.lt
 have h0:∀x,x ∉ K→f x=0:=by obtain⟨D,_,hD⟩:=h;exact hD.2.2
 obtain⟨D,hown,hD⟩:=h
 have hsz:=hown.size_le
 obtain⟨i,hi,z0,z1,z2⟩:=info_parts E.info
 obtain⟨w1,hmk,zfw,g1⟩:=run_make_own (P:=Tryz.prog) w w.heap.size 26 95 i (.agg (E.enc E.zero).toArray) 2 Tryz.underlying26 hi z0 z1 .i64 .i64 (Maps.size D) (by rw[z2];show 24 * _≤_;omega) (by unfold maxLen;omega) (Nat.le_refl _)
 have hn1:NumIn w1 b n K f:=(show NumIn w b n K f from ⟨D,hown,hD⟩).kept g1 (by simp)
 have kb1:Below w.heap.size w w1:=below_grown (Below.refl _ _) (Nat.le_refl _) g1 (fun k hk=>by cases hk)
 have hri:=StrR.zf9 b n K f w1 hn1 hn
 clear hi z0 z1 z2
 go_enter Tryz.func94,Tryz.ntmps94
 go_wp2_with (first|(at_len;refine wpList_len_own _ rfl _ 133 rfl 9 3 Tryz.underlying133 _ b n D rfl hown ?_))
 refine hri.mono ?_
 rintro e w2 ⟨v,ks,rfl,zdg,s1,s2,s3,s4,k2⟩
 have HP:=aside (pick_is s1 s2 h0 hT hv)
 have HS:=aside s3
 have HM:=aside s2
 obtain⟨A,cap,rfl⟩:∃A cap,v=.slice A ks.length cap:=by
  rcases zdg.2 with⟨rfl,e⟩|⟨g,cap,cur,rfl,_⟩
  ·exact⟨none,0,by rw[e]⟩
  ·exact⟨_,_,rfl⟩
 have hn2:=hn1.below k2
 have zbL:=zfw.kept (zaq k2 none) (.inr (by simp[Value.ownBlock]))
 have kb2:=kb1.trans (k2.mono kb1.size)
 have hA:∀g,A=some ⟨g,0,none⟩→(Value.slice (some ⟨w.heap.size,0,none⟩) 0 (Maps.size D)).ownBlock≠some g:=by
  rintro g rfl e
  simp only[Value.ownBlock,Option.some.injEq]at e
  have:=(zdg.lt g rfl).1
  have:=(zfw.lt w.heap.size rfl).2
  omega
 have hA0:∀x,A=some x→∃g,A=some ⟨g,0,none⟩:=by
  rintro x rfl
  rcases zdg.2 with⟨h,_⟩|⟨g,cap,cur,h,_⟩
  ·cases h
  ·injection h with h1
   exact⟨g,h1⟩
 have hlen:ks.length≤9223372036854775807:=by omega
 clear s1 s2 s3 h0 hT hv hri hmk hown hD zfw hn1 g1 k2 kb1
 go_wp2_with fail
 go_loopw [3,13] (fun v i wr=>∃(k:Nat) (acc:List Cn),k≤ks.length∧i=.int .i64 k∧Hid (acc=pick f (ks.take k))∧wr.ownsRow w.heap.size E.T 2 v acc.length (flat E acc)∧Hid (∀g,A=some ⟨g,0,none⟩→v.ownBlock≠some g)∧wr.ownsRow w1.heap.size 9 1 (.slice A ks.length cap) ks.length (ts ks)∧NumIn wr b n K f∧Below w.heap.size w wr) (fun _ i _=>ks.length - (intOf i).toNat)
 case atStart=>exact⟨0,[],Nat.zero_le _,rfl,aside rfl,zbL,aside hA,zdg,hn2,kb2⟩
 case round=>
  clear zbL hA zdg hn2 kb2
  obtain⟨k,acc,hk,rfl,HA,orow,HD,zkO,hset,kb⟩:=hrel
  by_cases hlt:k<ks.length
  ·obtain⟨x,hx⟩:∃x,ks[k]?=some x:=⟨_,List.getElem?_eq_getElem hlt⟩
   have hmx:=HS.out x (List.mem_of_getElem? hx)
   obtain⟨g,rfl⟩:∃g,A=some ⟨g,0,none⟩:=by
    cases A with
    |none=>
     rcases zkO.2 with⟨_,e⟩|⟨g,cap,cur,h,_⟩
     ·omega
     ·cases h
    |some y=>
     obtain⟨g,hg⟩:=hA0 y rfl
     exact⟨g,hg⟩
   have c0:wr.cell? ⟨g,k,none⟩=some (.string x):=by
    have:=zkO.cells rfl k (.string x) (by simp[ts,hx])
    rw[Addr.add_lit,Nat.zero_add]at this
    exact this
   have p0:(k:Int)<ks.length:=by omega
   have m0:((k:Int)).toNat=k:=by omega
   have hacc:acc.length≤k:=by rw[HA.out];exact Nat.le_trans (zp9 _ _) (by rw[List.length_take];omega)
   by_cases hf:f x=0
   ·have HA2:=aside (HA.out.trans (pick_no hx hf).symm)
    have t0:(f x != 0)=false:=by simp[hf]
    clear hx HA hf
    go_wp2_with (first|(refine zaY _ rfl _ _ rfl b _ _ f rfl hset x hmx rfl ?_))
    go_roundw
    case rel=>exact⟨k+1,acc,by omega,by go_num,HA2,orow,HD,zkO,hset,kb⟩
    case measure=>simp[intOf];omega
   ·have HA2:=aside ((congrArg (· ++[(⟨x,f x⟩:Cn)]) HA.out).trans (zp7 hx hf).symm)
    have t0:(f x != 0)=true:=by simp[hf]
    have hg:=(zkO.lt g rfl).2
    clear hx HA hf
    go_wp2_with (first|(refine zaY _ rfl _ _ rfl b _ _ f rfl hset x hmx rfl ?_)|(refine zay E rfl (.tmp 22) (.tmp 26) rfl w.heap.size _ _ acc rfl (orow.alloc _) wr.heap.size ⟨x,f x⟩ rfl (Box.new (E:=E) wr ⟨x,f x⟩ 95) (by omega) (by have:=kb.size;simp;omega) ?_;intro v' w3 orow3 hg3 hv3))
    have kg:=(World.grownBy_alloc wr (.cells (E.enc ⟨x,f x⟩).toArray 95) _).trans hg3
    have HD2:Hid (∀g1:Nat,some (⟨g,0,none⟩:Addr)=some ⟨g1,0,none⟩→v'.ownBlock≠some g1):=aside (by
     intro g1 e1
     injection e1 with e1
     injection e1 with e1
     subst e1
     rcases hv3 with e2|e2
     ·rw[e2]
      exact HD.out g rfl
     ·rw[e2]
      intro e3
      injection e3 with e3
      simp at e3
      omega)
    have okeys2:=zkO.kept kg (.inr (fun e=>HD.out g rfl e.symm))
    have hset2:=hset.kept kg (row_ne_low orow hb)
    have kb2:=below_grown kb kb.size kg (fun q hq=>(orow.lt q hq).1)
    clear zkO hset orow hg3 hv3 kg
    go_roundw
    case rel=>exact⟨k+1,acc++[⟨x,f x⟩],by omega,by go_num,HA2,by rw[List.length_append];exact orow3,HD2,okeys2,hset2,kb2⟩
    case measure=>simp[intOf];omega
  ·have e:k=ks.length:=by omega
   have HA2:Hid (acc=T):=aside (by rw[HA.out,e,List.take_length];exact HP.out)
   clear zkO HA
   go_wp2_with fail
   go_ret
   rw[←HA2.out]
   exact⟨_,rfl,orow,kb⟩
end Go.Proofs.YtgmdhaepiclkcaaGreatDoor.CtrH
namespace Go.Proofs.YtgmdhaepiclkcaaGreatDoor.CtrD
set_option maxHeartbeats 8000000
set_option maxRecDepth 100000
open Go Go.RowKit Byt OpsM OpsK Rise CtrM RowS RowB CtrW StrK CtrG CtrH
theorem zcn {k:IntKind} {a b:Int} (h:a=b):Ending.returned (.int k a)=.returned (.int k b):=by rw[h]
theorem zoA (A:Option Addr) (cap:Nat) (l:List Cn) (k:ByteArray) (w:World) (S:SlR E w A cap l) (_hl:l.length≤10000000):
  Calls Tryz.prog 27 #[.slice A l.length cap,.string k] w fun e w'=>e=.returned (.int .i64 (zbC l k))∧Below w.heap.size w w':=by
 have hcap:=S.1
 have hmax:l.length≤9223372036854775807:=by have:=S.2.1;unfold maxLen at this;omega
 go_enter Tryz.func27,Tryz.ntmps27
 go_wp2
 go_loopw [9] (fun i wr=>∃j:Nat,j≤l.length∧i=.int .i64 j∧Hid (zbC l k=zbC (l.drop j) k)∧Below w.heap.size w wr) (fun i _=>l.length - (intOf i).toNat)
 case atStart=>exact⟨0,Nat.zero_le _,rfl,aside rfl,Below.refl _ _⟩
 case round=>
  obtain⟨j,hj,rfl,HG,kb⟩:=hrel
  by_cases hlt:j<l.length
  ·obtain⟨b,off,rfl,hbw,hr⟩:=CtrW.plain S (by omega)
   obtain⟨x,hx⟩:∃x,l[j]?=some x:=⟨_,List.getElem?_eq_getElem hlt⟩
   have hr1:=zab (hr j x hx) kb
   have hd:=getD_drop hx
   have p0:(j:Int)<l.length:=by omega
   have m0:((j:Int)).toNat=j:=by omega
   have HG2:=HG.out
   rw[hd,zfS]at HG2
   clear hr S hx hd HG
   by_cases hk:x.key=k
   ·have t0:=zbf hk
    rw[if_pos hk]at HG2
    have HR:=aside HG2
    clear HG2 hk
    go_wp2_with (first
     |(refine zal E rfl _ rfl b _ rfl x hr1 ?_)
     |(refine zac E rfl _ _ rfl _ _ _ rfl x _ rfl rfl rfl rfl ?_;intro w2 bx kx gx sx;have c0:=bx.cell (j:=0) rfl;have c1:=bx.cell (j:=1) rfl;have k2:=kb.trans (kx.mono kb.size);clear bx kx gx))
    go_ret
    exact⟨zcn HR.out.symm,k2⟩
   ·have t0:=zby hk
    rw[if_neg hk]at HG2
    have HR:=aside HG2
    clear HG2 hk
    go_wp2_with (first
     |(refine zal E rfl _ rfl b _ rfl x hr1 ?_)
     |(refine zac E rfl _ _ rfl _ _ _ rfl x _ rfl rfl rfl rfl ?_;intro w2 bx kx gx sx;have c0:=bx.cell (j:=0) rfl;have c1:=bx.cell (j:=1) rfl;have k2:=kb.trans (kx.mono kb.size);clear bx kx gx))
    go_roundw
    case rel=>exact⟨j+1,by omega,by go_num,HR,k2⟩
    case measure=>simp[intOf];omega
  ·have e:j=l.length:=by omega
   have HR:Hid (zbC l k=0):=aside (by rw[HG.out,e,List.drop_length];rfl)
   clear S HG
   go_wp2
   go_ret
   exact⟨zcn HR.out.symm,kb⟩
theorem zaz (A:Option Addr) (cap:Nat) (l:List Cn) (w:World) (S:SlR E w A cap l) (hf:Fits l) (hl:l.length≤100000000):
  Calls Tryz.prog 56 #[.slice A l.length cap] w fun e w'=>e=.returned (.bool (zbe l))∧Below w.heap.size w w':=by
 have hcap:=S.1
 obtain⟨r,hr0⟩:∃r,zbe l=r:=⟨_,rfl⟩
 rw[hr0]
 have HR0:=aside hr0
 clear hr0
 go_enter Tryz.func56,Tryz.ntmps56
 go_wp2
 go_loopw [7] (fun i wr=>∃j:Nat,j≤l.length∧i=.int .i64 j∧Hid (0<j→zbe (l.take j)=true)∧Below w.heap.size w wr) (fun i _=>l.length - (intOf i).toNat)
 case atStart=>exact⟨0,Nat.zero_le _,rfl,aside (fun h=>absurd h (by omega)),Below.refl _ _⟩
 case round=>
  obtain⟨j,hj,rfl,HM,kb⟩:=hrel
  by_cases hlt:j<l.length
  ·obtain⟨b,off,rfl,hbw,hr⟩:=CtrW.plain S (by omega)
   have hx:l[j]?=some l[j]:=List.getElem?_eq_getElem hlt
   have hxm:l[j] ∈ l:=List.getElem_mem hlt
   have hk0:=OpsK.key l[j].key (by have:=(hf _ hxm).1;unfold maxLen;omega)
   have hr1:=zab (hr j _ hx) kb
   have p0:(j:Int)<l.length:=by omega
   have m0:((j:Int)).toNat=j:=by omega
   have hno:=fun q=>HR0.out.symm.trans (zn6 hlt q)
   have hok:okC l[j]=(zbQ (zan l[j].key)&&decide (l[j].n≠0)):=rfl
   have zfP:=fun(m:Nat) (e:m+1=j) (q:ltS (l[m]'(by omega)).key (l[m+1]'(by omega)).key=false)=>HR0.out.symm.trans (zj0 (l:=l) (k:=m) (by omega) q)
   have hnext:=fun(m:Nat) (e:m+1=j) (q:zbe (l.take (m+1))=true)=>zjZ (l:=l) (k:=m) (by omega) q
   have hfirst:=fun(q:0<l.length)=>ziw (l:=l) q
   obtain⟨kx,hkx⟩:∃b,zbQ (zan l[j].key)=b:=⟨_,rfl⟩
   rw[hkx]at hk0 hok
   have HNo:=aside hno
   have HOk:=aside hok
   have HFa:=aside zfP
   have HNx:=aside hnext
   have HFi:=aside hfirst
   have HCr:=aside hr
   have HX:=aside hx
   clear hno hok zfP hnext hfirst hkx hr hxm hf hx S
   cases kx with
   |false=>
    have HR:Hid (r=false):=aside (HNo.out (by rw[HOk.out];rfl))
    go_wp2_with (first
     |(refine(hk0 _).mono ?_;rintro e w' ⟨rfl,rfl⟩)
     |(refine zal E rfl _ rfl b _ rfl l[j] hr1 ?_)
     |(refine zac E rfl _ _ rfl _ _ _ rfl l[j] _ rfl rfl rfl rfl ?_;intro w2 bx kx gx sx;have c0:=bx.cell (j:=0) rfl;have c1:=bx.cell (j:=1) rfl;have k2:=kb.trans (kx.mono kb.size);clear bx kx gx))
    go_ret
    exact⟨zae HR.out.symm,k2⟩
   |true=>
    by_cases hn:l[j].n=0
    ·have t0:(l[j].n == 0)=true:=by simpa using hn
     have HR:Hid (r=false):=aside (HNo.out (by rw[HOk.out,hn];rfl))
     clear hn
     go_wp2_with (first
     |(refine(hk0 _).mono ?_;rintro e w' ⟨rfl,rfl⟩)
     |(refine zal E rfl _ rfl b _ rfl l[j] hr1 ?_)
     |(refine zac E rfl _ _ rfl _ _ _ rfl l[j] _ rfl rfl rfl rfl ?_;intro w2 bx kx gx sx;have c0:=bx.cell (j:=0) rfl;have c1:=bx.cell (j:=1) rfl;have k2:=kb.trans (kx.mono kb.size);clear bx kx gx))
     go_ret
     exact⟨zae HR.out.symm,k2⟩
    ·have t0:(l[j].n == 0)=false:=by simpa using hn
     have HOk2:Hid (okC l[j]=true):=aside (by rw[HOk.out];simpa using hn)
     clear hn
     by_cases hj0:j=0
     ·subst hj0
      simp only[Nat.zero_mul,Nat.add_zero]at hr1
      have HM2:Hid (0<1→zbe (l.take 1)=true):=aside (fun _=>by rw[HFi.out hlt];exact HOk2.out)
      go_wp2_with (first
     |(refine(hk0 _).mono ?_;rintro e w' ⟨rfl,rfl⟩)
     |(refine zal E rfl _ rfl b _ rfl (l[0]'hlt) hr1 ?_)
     |(refine zac E rfl _ _ rfl _ _ _ rfl (l[0]'hlt) _ rfl rfl rfl rfl ?_;intro w2 bx kx gx sx;have c0:=bx.cell (j:=0) rfl;have c1:=bx.cell (j:=1) rfl;have k2:=kb.trans (kx.mono kb.size);clear bx kx gx))
      go_quiet (fail)
      go_wp2
      go_roundw
      case rel=>exact⟨1,by omega,by go_num,HM2,zai k2 _⟩
      case measure=>simp[intOf];omega
     ·obtain⟨m,hm⟩:∃m,m+1=j:=⟨j - 1,by omega⟩
      have hml:m<l.length:=by omega
      have hy:l[m]?=some (l[m]'hml):=List.getElem?_eq_getElem hml
      have q0:decide (0<(j:Int))=true:=by simp;omega
      have q00:0<j:=by omega
      have HMm:Hid (zbe (l.take (m+1))=true):=aside (by have:=HM.out (by omega);rwa[←hm]at this)
      have q1:(m:Int)<l.length:=by omega
      have q3:((m:Int)).toNat=m:=by omega
      have hwr:IntKind.i64.wrap ((j:Int) - 1)=(m:Int):=by rw[IntKind.wrap_i64];omega
      have HMJ:=aside hm
      have HY:=aside hy
      clear HM hj0 hy hm
      cases hlt2:ltS (l[m]'hml).key l[j].key with
      |true=>
       have h1:Op.bytesLess (l[m]'hml).key.toList l[j].key.toList=true:=hlt2
       have HM2:Hid (0<j+1→zbe (l.take (j+1))=true):=aside (fun _=>by
        have hm:=HMJ.out
        subst hm
        rw[HNx.out m rfl HMm.out,HOk2.out,hlt2];rfl)
       clear hlt2
       go_wp2_with (first
     |(refine(hk0 _).mono ?_;rintro e w' ⟨rfl,rfl⟩)
     |(refine zal E rfl _ rfl b _ rfl l[j] hr1 ?_)
     |(refine zac E rfl _ _ rfl _ _ _ rfl l[j] _ rfl rfl rfl rfl ?_;intro w2 bx kx gx sx;have c0:=bx.cell (j:=0) rfl;have c1:=bx.cell (j:=1) rfl;have k2:=kb.trans (kx.mono kb.size);have d1:=(cells (zab (HCr.out m _ HY.out) k2)).1;clear bx kx gx))
       go_quiet (fail)
       go_wp2
       go_roundw
       case rel=>exact⟨j+1,by omega,by go_num,HM2,zai k2 _⟩
       case measure=>simp[intOf];omega
      |false=>
       have HR:Hid (r=false):=aside (by have hm:=HMJ.out;subst hm;exact HFa.out m rfl hlt2)
       have h1:Op.bytesLess (l[m]'hml).key.toList l[j].key.toList=false:=hlt2
       clear hlt2
       go_wp2_with (first
     |(refine(hk0 _).mono ?_;rintro e w' ⟨rfl,rfl⟩)
     |(refine zal E rfl _ rfl b _ rfl l[j] hr1 ?_)
     |(refine zac E rfl _ _ rfl _ _ _ rfl l[j] _ rfl rfl rfl rfl ?_;intro w2 bx kx gx sx;have c0:=bx.cell (j:=0) rfl;have c1:=bx.cell (j:=1) rfl;have k2:=kb.trans (kx.mono kb.size);have d1:=(cells (zab (HCr.out m _ HY.out) k2)).1;clear bx kx gx))
       go_quiet (fail)
       go_wp2
       go_ret
       exact⟨zae HR.out.symm,zai k2 _⟩
  ·have e:j=l.length:=by omega
   have HR:Hid (r=true):=aside (by
    rw[←HR0.out]
    by_cases h0:0<j
    ·have:=HM.out h0
     rwa[e,List.take_length]at this
    ·have:l=[]:=List.eq_nil_of_length_eq_zero (by omega)
     rw[this];rfl)
   clear S HM
   go_wp2
   go_ret
   exact⟨zae HR.out.symm,kb⟩
theorem new0 (w:World):(Instr.makeMap 133 none).run Tryz.prog w=.ok (.map (some w.heap.size)) (w.alloc (.map #[] 0)):=by
 simp[Instr.makeMap,go_sem]
theorem inc_eq {l:List Cn} {k:ByteArray} {n:Int} (hm:zbe l=true) (hk:zbQ (zan k)=true) (hl:CtrL.InL l) (hn:CtrL.In64 n) (k':ByteArray):zbC (zf3 l k n) k'=zku 1 (upd (fun _=>0) k n) l k':=by
 have h0:CtrL.In64 (upd (fun _=>(0:Int)) k n k'):=by
  unfold upd
  split
  ·exact hn
  ·show CtrL.In64 0
   unfold CtrL.In64;omega
 rw[CtrL.zov n hm hk,zcR 1 l _ k' (zbo.1 hm).2 h0,Int.one_mul,CtrL.ze9 (CtrL.zhZ hl k')]
 unfold upd
 split
 ·rename_i e
  rw[e,Int.add_comm]
 ·rw[Int.zero_add,CtrL.ze9 (CtrL.zhZ hl k')]
theorem sum_eq {l0 l1 l2:List Cn} (m0:zbe l0=true) (m1:zbe l1=true) (m2:zbe l2=true) (k:ByteArray):zbC (zcj l0 l1 l2) k=zku (-1) (zku 1 (zku 1 (fun _=>0) l1) l2) l0 k:=by
 rw[CtrL.zcz m0 m1 m2,zcR _ l0 _ k (zbo.1 m0).2,zcR _ l2 _ k (zbo.1 m2).2,zcR _ l1 _ k (zbo.1 m1).2]
 ·unfold znb
  simp only[zho]
  omega
 ·unfold CtrL.In64;omega
 ·rw[zcR _ l1 _ k (zbo.1 m1).2 (by unfold CtrL.In64;omega)]
  exact CtrL.zfr _
 ·rw[zcR _ l2 _ k (zbo.1 m2).2]
  ·exact CtrL.zfr _
  ·rw[zcR _ l1 _ k (zbo.1 m1).2 (by unfold CtrL.In64;omega)]
   exact CtrL.zfr _
theorem fits_in {l:List Cn} (h:Fits l):CtrL.InL l:=fun c hc=>(h c hc).2
theorem zcM {l:List Cn} {w w':World} (h:l=[]) (k:Below w.heap.size w w'):zie E l w (.returned (.slice none 0 0)) w':=by
 subst h
 exact⟨none,0,rfl,SlR.nil E _,k⟩
theorem zk0 (A:Option Addr) (cap:Nat) (l:List Cn) (k:ByteArray) (n:Int) (w:World) (S:SlR E w A cap l) (hf:Fits l) (hl:l.length≤10000000) (hk:k.size≤1099511627776) (hn:CtrL.In64 n):
  Calls Tryz.prog 108 #[.slice A l.length cap,.string k,.int .i64 n] w (zie E (zf3 l k n) w):=by
 have cm:=zaz A cap l w S hf (by omega)
 have hks:k.size≤maxLen:=by unfold maxLen;omega
 have ck:=OpsK.key k hks
 obtain⟨R,hR⟩:∃R,zf3 l k n=R:=⟨_,rfl⟩
 rw[hR]
 have HR:=aside hR
 clear hR
 obtain⟨bm,hbm⟩:∃b,zbe l=b:=⟨_,rfl⟩
 obtain⟨bk,hbk⟩:∃b,zbQ (zan k)=b:=⟨_,rfl⟩
 rw[hbm]at cm
 rw[hbk]at ck
 have HM:=aside hbm
 have HK:=aside hbk
 clear hbm hbk
 cases bm with
 |false=>
  have HN:Hid (R=[]):=aside (HR.out.symm.trans (CtrL.zl3 n (.inl HM.out)))
  go_enter Tryz.func108,Tryz.ntmps108
  go_wp2_with fail
  refine cm.mono ?_
  rintro e w1 ⟨rfl,k1⟩
  go_wp2_with fail
  go_ret
  exact zcM HN.out k1
 |true=>
  cases bk with
  |false=>
   have HN:Hid (R=[]):=aside (HR.out.symm.trans (CtrL.zl3 n (.inr HK.out)))
   go_enter Tryz.func108,Tryz.ntmps108
   go_wp2_with fail
   refine cm.mono ?_
   rintro e w1 ⟨rfl,k1⟩
   go_wp2_with fail
   refine(ck _).mono ?_
   rintro e w' ⟨rfl,rfl⟩
   go_wp2_with fail
   go_ret
   exact zcM HN.out k1
  |true=>
   have HG:Hid (∀k',zbC R k'=zku 1 (upd (fun _=>0) k n) l k'):=aside (fun k'=>by rw[←HR.out];exact inc_eq HM.out HK.out (fits_in hf) hn k')
   have HMR:Hid (zbe R=true):=aside (by rw[←HR.out];exact CtrL.zjq n HM.out HK.out)
   go_enter Tryz.func108,Tryz.ntmps108
   go_wp2_with fail
   refine cm.mono ?_
   rintro e w1 ⟨rfl,k1⟩
   go_wp2_with fail
   refine(ck _).mono ?_
   rintro e w' ⟨rfl,rfl⟩
   have T1:=S.below k1
   have hs1:=k1.size
   have hmm:=new0 w1
   go_wp2_with (first|(refine ziK _ rfl _ _ _ rfl w1.heap.size 0 [] _ rfl (NumIn.made w1) (by omega) k hks n hn rfl rfl ?_;intro w2 hs2 hg2))
   have kg:w1.grownBy w2 (some w1.heap.size):=(World.grownBy_alloc w1 _ _).trans hg2
   have k2:Below w.heap.size w w2:=below_grown k1 hs1 kg (fun j hj=>by cases hj;exact hs1)
   have T2:=T1.below (below_grown (Below.refl w1.heap.size w1) (Nat.le_refl _) kg (fun j hj=>by cases hj;exact Nat.le_refl _))
   clear T1 S cm ck hg2 kg k1 hmm
   refine(ze0 w1.heap.size _ _ _ A cap l 1 w2 hs2 T2 hf (by omega) (by omega)).mono ?_
   rintro e w3 ⟨rfl,hs3,hg3⟩
   have k3:Below w.heap.size w w3:=below_grown k2 k2.size hg3 (fun j hj=>by cases hj;exact hs1)
   clear T2 hs2 hg3 k2
   go_wp2_with fail
   refine(ziC w1.heap.size _ _ _ R w3 hs3 (by omega) HMR.out HG.out).mono ?_
   rintro e w4 h4
   obtain⟨A4,c4,rfl,S4,k4⟩:=h4.s
   have k5:=k3.trans (k4.mono k3.size)
   clear k3 k4 hs3 h4
   go_wp2_with fail
   go_ret
   exact⟨A4,c4,rfl,S4,k5⟩
theorem za8 (A0:Option Addr) (c0:Nat) (l0:List Cn) (A1:Option Addr) (c1:Nat) (l1:List Cn) (A2:Option Addr) (c2:Nat) (l2:List Cn) (w:World) (S0:SlR E w A0 c0 l0) (S1:SlR E w A1 c1 l1) (S2:SlR E w A2 c2 l2) (f0:Fits l0) (f1:Fits l1) (f2:Fits l2) (b0:l0.length≤10000000) (b1:l1.length≤10000000) (b2:l2.length≤10000000)
  (h:zbe l0=false∨(zbe l0=true∧zbe l1=false)∨(zbe l0=true∧zbe l1=true∧zbe l2=false)):
  Calls Tryz.prog 50 #[.slice A0 l0.length c0,.slice A1 l1.length c1,.slice A2 l2.length c2] w (zie E [] w):=by
 have q0:=zaz A0 c0 l0 w S0 f0 (by omega)
 have q1:=fun W S=>zaz A1 c1 l1 W S f1 (by omega)
 have q2:=fun W S=>zaz A2 c2 l2 W S f2 (by omega)
 rcases h with m0|⟨m0,m1⟩|⟨m0,m1,m2⟩
 ·rw[m0]at q0
  clear m0
  go_enter Tryz.func50,Tryz.ntmps50
  go_wp2_with fail
  refine q0.mono ?_
  rintro e w1 ⟨rfl,k1⟩
  go_wp2_with fail
  go_ret
  exact zcM rfl k1
 ·rw[m0]at q0
  rw[m1]at q1
  clear m0 m1
  go_enter Tryz.func50,Tryz.ntmps50
  go_wp2_with fail
  refine q0.mono ?_
  rintro e w1 ⟨rfl,k1⟩
  have T1:=S1.below k1
  go_wp2_with fail
  refine(q1 _ T1).mono ?_
  rintro e w2 ⟨rfl,h2⟩
  have k2:=k1.trans (h2.mono k1.size)
  clear T1 h2 k1
  go_wp2_with fail
  go_ret
  exact zcM rfl k2
 ·rw[m0]at q0
  rw[m1]at q1
  rw[m2]at q2
  clear m0 m1 m2
  go_enter Tryz.func50,Tryz.ntmps50
  go_wp2_with fail
  refine q0.mono ?_
  rintro e w1 ⟨rfl,k1⟩
  have T1:=S1.below k1
  go_wp2_with fail
  refine(q1 _ T1).mono ?_
  rintro e w2 ⟨rfl,h2⟩
  have k2:=k1.trans (h2.mono k1.size)
  have T2:=S2.below k2
  clear T1 h2 k1
  go_wp2_with fail
  refine(q2 _ T2).mono ?_
  rintro e w3 ⟨rfl,h3⟩
  have k3:=k2.trans (h3.mono k2.size)
  clear T2 h3 k2
  go_wp2_with fail
  go_ret
  exact zcM rfl k3
theorem zeB (A0:Option Addr) (c0:Nat) (l0:List Cn) (A1:Option Addr) (c1:Nat) (l1:List Cn) (A2:Option Addr) (c2:Nat) (l2:List Cn) (w:World) (S0:SlR E w A0 c0 l0) (S1:SlR E w A1 c1 l1) (S2:SlR E w A2 c2 l2) (f0:Fits l0) (f1:Fits l1) (f2:Fits l2) (b0:l0.length≤10000000) (b1:l1.length≤10000000) (b2:l2.length≤10000000)
  (m0:zbe l0=true) (m1:zbe l1=true) (m2:zbe l2=true):
  Calls Tryz.prog 50 #[.slice A0 l0.length c0,.slice A1 l1.length c1,.slice A2 l2.length c2] w (zie E (zcj l0 l1 l2) w):=by
 have q0:=zaz A0 c0 l0 w S0 f0 (by omega)
 have q1:=fun W S=>zaz A1 c1 l1 W S f1 (by omega)
 have q2:=fun W S=>zaz A2 c2 l2 W S f2 (by omega)
 have hmr:=CtrL.za3 m0 m1 m2
 have HG:=aside (sum_eq m0 m1 m2)
 obtain⟨R,hR⟩:∃R,zcj l0 l1 l2=R:=⟨_,rfl⟩
 rw[hR]at hmr HG ⊢
 have HMR:=aside hmr
 rw[m0]at q0
 rw[m1]at q1
 rw[m2]at q2
 clear m0 m1 m2 hmr hR
 go_enter Tryz.func50,Tryz.ntmps50
 go_wp2_with fail
 refine q0.mono ?_
 rintro e w1 ⟨rfl,k1⟩
 have T1:=S1.below k1
 go_wp2_with fail
 refine(q1 _ T1).mono ?_
 rintro e w2 ⟨rfl,h2⟩
 have k2:=k1.trans (h2.mono k1.size)
 have T2:=S2.below k2
 clear T1 h2 k1 q1 q0
 go_wp2_with fail
 refine(q2 _ T2).mono ?_
 rintro e w3 ⟨rfl,h3⟩
 have k3:=k2.trans (h3.mono k2.size)
 clear T2 h3 k2 q2
 have hs3:=k3.size
 have hmm:=new0 w3
 go_wp2_with fail
 have k4:=k3.alloc hs3 (.map #[] 0)
 have kg:=fun(w':World) (h:(w3.alloc (.map #[] 0)).grownBy w' (some w3.heap.size))=>below_grown k4 k4.size h (fun j hj=>by cases hj;exact hs3)
 refine(ze0 w3.heap.size 0 [] (fun _=>0) A1 c1 l1 1 _ (NumIn.made w3) (S1.below k4) f1 (by omega) (by omega)).mono ?_
 rintro e w5 ⟨rfl,n5,g5⟩
 have k5:=kg w5 g5
 go_wp2_with fail
 refine(ze0 w3.heap.size _ _ _ A2 c2 l2 1 w5 n5 (S2.below k5) f2 (by omega) (by omega)).mono ?_
 rintro e w6 ⟨rfl,n6,g6⟩
 have k6:=kg w6 (g5.trans g6)
 go_wp2_with fail
 refine(ze0 w3.heap.size _ _ _ A0 c0 l0 (-1) w6 n6 (S0.below k6) f0 (by omega) (by omega)).mono ?_
 rintro e w7 ⟨rfl,n7,g7⟩
 have k7:=kg w7 ((g5.trans g6).trans g7)
 clear g5 g6 g7 n5 n6 k5 k6 k4 k3 kg
 go_wp2_with fail
 refine(ziC w3.heap.size _ _ _ R w7 n7 (by omega) HMR.out HG.out).mono ?_
 rintro e w8 h8
 obtain⟨A8,c8,rfl,S8,k8⟩:=h8.s
 have k9:=k7.trans (k8.mono k7.size)
 clear k7 k8 n7 h8
 go_wp2_with fail
 go_ret
 exact⟨A8,c8,rfl,S8,k9⟩
theorem zaW (A0:Option Addr) (c0:Nat) (l0:List Cn) (A1:Option Addr) (c1:Nat) (l1:List Cn) (A2:Option Addr) (c2:Nat) (l2:List Cn) (w:World) (S0:SlR E w A0 c0 l0) (S1:SlR E w A1 c1 l1) (S2:SlR E w A2 c2 l2) (f0:Fits l0) (f1:Fits l1) (f2:Fits l2) (b0:l0.length≤10000000) (b1:l1.length≤10000000) (b2:l2.length≤10000000):
  Calls Tryz.prog 50 #[.slice A0 l0.length c0,.slice A1 l1.length c1,.slice A2 l2.length c2] w (zie E (zcj l0 l1 l2) w):=by
 cases m0:zbe l0 with
 |false=>rw[CtrL.za8 (.inl m0)];exact za8 A0 c0 l0 A1 c1 l1 A2 c2 l2 w S0 S1 S2 f0 f1 f2 b0 b1 b2 (.inl m0)
 |true=>
  cases m1:zbe l1 with
  |false=>rw[CtrL.za8 (.inr (.inl m1))];exact za8 A0 c0 l0 A1 c1 l1 A2 c2 l2 w S0 S1 S2 f0 f1 f2 b0 b1 b2 (.inr (.inl ⟨m0,m1⟩))
  |true=>
   cases m2:zbe l2 with
   |false=>rw[CtrL.za8 (.inr (.inr m2))];exact za8 A0 c0 l0 A1 c1 l1 A2 c2 l2 w S0 S1 S2 f0 f1 f2 b0 b1 b2 (.inr (.inr ⟨m0,m1,m2⟩))
   |true=>exact zeB A0 c0 l0 A1 c1 l1 A2 c2 l2 w S0 S1 S2 f0 f1 f2 b0 b1 b2 m0 m1 m2
end Go.Proofs.YtgmdhaepiclkcaaGreatDoor.CtrD
