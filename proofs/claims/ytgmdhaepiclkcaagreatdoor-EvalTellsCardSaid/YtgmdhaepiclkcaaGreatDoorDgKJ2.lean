/- What the document's Knows of package dag returns | What the document's one of package dag returns (is a commit fine, by i -/
import Derived.Test.YtgmdhaepiclkcaaGreatDoorDgNJ4
import Derived.Test.YtgmdhaepiclkcaaGreatDoorCmPJ4
import Derived.Deep.LoopGhost
namespace Go.Proofs.YtgmdhaepiclkcaaGreatDoor.DgK
set_option maxHeartbeats 32000000
set_option maxRecDepth 100000
open Go Go.Sort Go.RowKit Byt IdM IdW OpsM OpsW CmM StW CmW CmX CmY DgM DgN DgP DgW DgT DgR
theorem zje {ops:Array Oper} {rest:List Oper} {o:Oper} {a:Act} {w:World} {Q:Exit→Act→World→Prop} (hgd:o.guard=none) (x y:Operand) (ho:o.op=.makeSlice 122 x y)
  (n:Nat) (hx:a.eval x=.int .i64 n) (hy:a.eval y=.int .i64 n) (hn:n≤100000)
  (h:∀w1,w1.heap[w.heap.size]?=some (.cells (DgT.bits n fun _=>false) 4 (0,0))→Below w.heap.size w w1→w1.heap.size=w.heap.size+1→wpList Tryz.prog ops Q rest (a.put o.dst (.slice (some ⟨w.heap.size,0,none⟩) n n)) w1):wpList Tryz.prog ops Q (o::rest) a w:=
 Small.ze8 hgd 122 x y ho 4 (.bool false) Tryz.underlying122 znf rfl n hx hy n rfl (by omega) (h _ (by rw[heap_alloc_new,bits_no]) ((Below.refl _ _).alloc (Nat.le_refl _) _) (by simp))
def Done (l:List Com) (all:List Idn) (n:Nat) (K:Nat→Nat→Bool) (i:Nat):Prop:=∀i' c,i'<i→l[i']?=some c→∀a ∈ c.ps,∀p,idx all a=some p→Row K i' p n
def Half (all:List Idn) (n:Nat) (K:Nat→Nat→Bool) (i:Nat) (ps:List Idn) (t:Nat):Prop:=∀t' a,t'<t→ps[t']?=some a→∀p,idx all a=some p→Row K i p n
theorem zoP {l:List Com} {all:List Idn} {n:Nat} {K:Nat→Nat→Bool} {i t:Nat} {c:Com} (h:Done l all n K i) (hc:l[i]?=some c) (hh:Half all n K i c.ps t) (ht:c.ps.length≤t):Done l all n K (i+1):=by
 intro i' c' hi' hc' a ha p hp
 by_cases e:i'=i
 ·subst e
  rw[hc]at hc'
  obtain rfl:=Option.some.inj hc'
  obtain⟨t',ht'⟩:=List.mem_iff_getElem?.1 ha
  exact hh t' a (Nat.lt_of_lt_of_le (List.getElem?_eq_some_iff.1 ht').1 ht) ht' p hp
 ·exact h i' c' (by omega) hc' a ha p hp
theorem zj7 {all:List Idn} {n:Nat} {K:Nat→Nat→Bool} {i t:Nat} {ps:List Idn} {a:Idn} (h:Half all n K i ps t) (ha:ps[t]?=some a) (hr:∀p,idx all a=some p→Row K i p n):Half all n K i ps (t+1):=by
 intro t' a' ht' ha' p hp
 by_cases e:t'=t
 ·subst e
  rw[ha]at ha'
  obtain rfl:=Option.some.inj ha'
  exact hr p hp
 ·exact h t' a' (by omega) ha' p hp
theorem zlA {K:Nat→Nat→Bool} {i p j:Nat} (h:Row K i p j) (hk:(j=p∨K p j=true)→K i j=true):Row K i p (j+1):=by
 intro j' hj' hc
 by_cases e:j'=j
 ·subst e;exact hk hc
 ·exact h j' (by omega) hc
theorem done_all {l:List Com} {all:List Idn} {K:Nat→Nat→Bool} (hall:all.length=l.length) (h:Done l all l.length K l.length) {i j:Nat} (hk:KnI l all i j):K i j=true:=by
 have hrow:∀i p,ParI l all i p→Row K i p l.length:=by
  rintro i p ⟨c,a,hc,ha,hp⟩
  exact h i c (List.getElem?_eq_some_iff.1 hc).1 hc a ha p hp
 induction hk with
 |one hp=>
  obtain⟨c,a,hc,ha,hx⟩:=hp
  exact hrow _ _ ⟨c,a,hc,ha,hx⟩ _ (by have:=ziB hx;omega) (.inl rfl)
 |more hp hk ih=>exact hrow _ _ hp _ (by have:=(kni_lt hk).2;omega) (.inr ih)
def Whole (l:List Com) (all:List Idn) (K:Nat→Nat→Bool):Prop:=∀i j,K i j=true↔KnI l all i j
def NewT (l:List Com) (all:List Idn) (w:World) (e:Ending) (w':World):Prop:=
 ∃v gs K,e=.returned v∧gs.length=l.length∧Tab w' w.heap.size v l.length gs K∧Whole l all K∧Below w.heap.size w w'
theorem zm3 {w:World} {b off:Nat} {x:Cv} (h:w.rangeAt b off (cc x).toList):w.cell? ⟨b,off+3,none⟩=some (.slice x.a x.c.ps.length x.k):=h 3 _ rfl
theorem zhQ (A A':Option Addr) (cap cap':Nat) (l:List Cv) (all:List Idn) (w:World) (S:SlK w A cap l) (T:SlI w A' cap' all) (hall:all.length=l.length) (hl:l.length≤1000):
  Calls Tryz.prog 36 #[.slice A l.length cap,.slice A' all.length cap'] w (NewT (zar l) all w):=by
 have hmax:=S.len
 obtain⟨n,hn⟩:∃n,l.length=n:=⟨_,rfl⟩
 have HN:=aside hn
 have zgs:=aside hall
 unfold NewT
 rw[zaw,hn]
 rw[hn]at hl hmax
 clear hn hall
 go_enter Tryz.func36,Tryz.ntmps36
 go_wp2_with (first|go_skip)
 go_loopw [5,6] (fun o i wr=>∃(k:Nat) (gs:List Nat),k≤n∧i=.int .i64 k∧Hid (gs.length=k)∧Hid (Tab wr w.heap.size o n gs fun _ _=>false)∧Below w.heap.size w wr) (fun _ i _=>n - (intOf i).toNat)
 case atStart=>exact⟨0,[],Nat.zero_le _,rfl,aside rfl,aside (Tab.nil w w.heap.size n _),Below.refl _ _⟩
 case round=>
  obtain⟨k,gs,hk,rfl,HG,HT,kb⟩:=hrel
  by_cases hlt:k<n
  ·have p0:(k:Int)<n:=by omega
   have hnew:wr.heap.size ∉ gs:=fun hm=>Nat.lt_irrefl _ (HT.out.lt _ hm)
   have hlen:gs.length≤100000:=by rw[HG.out];omega
   have hgb:=kb.size
   go_wp2_with (first|go_skip|(refine zje rfl _ _ rfl n rfl rfl (by omega) ?_;intro w1 hg1 k1 s1;have b1:=kb.trans (k1.mono kb.size);have T2:=(HT.out.below k1).below (StW.zah w1 (.cells #[.slice (some ⟨wr.heap.size,0,none⟩) n n] 122));have b2:Below w.heap.size w (w1.alloc (.cells #[.slice (some ⟨wr.heap.size,0,none⟩) n n] 122)):=b1.alloc b1.size _;have hg2:(w1.alloc (.cells #[.slice (some ⟨wr.heap.size,0,none⟩) n n] 122)).heap[wr.heap.size]?=some (.cells (DgT.bits n fun _=>false) 4 (0,0)):=(((StW.zah w1 _).block _ (by omega)).trans hg1);have hc2:(w1.alloc (.cells #[.slice (some ⟨wr.heap.size,0,none⟩) n n] 122)).cell? ⟨w1.heap.size,0,none⟩=some (rowV n wr.heap.size):=(by rw[cell_of_row _ _ 0 #[.slice (some ⟨wr.heap.size,0,none⟩) n n] 122 (0,0) (heap_alloc_new w1 _)];rfl);clear s1 hg1 k1)|(refine ze5 rfl (.tmp 18) (.tmp 22) rfl w.heap.size n _ gs T2 wr.heap.size hg2 hgb hnew ⟨w1.heap.size,0,none⟩ rfl rfl hc2 rfl hlen b2.size ?_;intro v6 w6 T6 k6))
   have b6:=b2.trans (k6 w.heap.size (Nat.le_refl _))
   have hl6:(gs++[wr.heap.size]).length=k+1:=by rw[List.length_append,HG.out];rfl
   have HG6:=aside hl6
   have HT6:=aside T6
   clear HG HT hnew hlen hgb T2 b2 hg2 hc2 T6 k6 hl6
   go_roundw
   case rel=>exact⟨k+1,gs++[wr.heap.size],by omega,by go_num,HG6,HT6,b6⟩
   case measure=>simp[intOf];omega
  ·have e:k=n:=by omega
   have HG2:Hid (gs.length=n):=aside (HG.out.trans e)
   have pn:¬(k:Int)<n:=by omega
   clear HG hk hlt
   by_cases h0:n=0
   ·have pz:¬(0:Int)<n:=by omega
    have hwhole:=aside (show Whole (zar l) all (fun _ _=>false) from fun i j=>⟨fun h=>(by cases h),fun h=>absurd (kni_lt h).1 (by rw[zaw,HN.out,h0];exact Nat.not_lt_zero _)⟩)
    clear S T h0 e
    go_wp2_with (first|go_skip)
    go_loopg [7] 1 (fun gm mo wr=>∃more:Bool,mo=.bool more∧Hid (gm=if more=true then 1 else 0)∧Hid (Tab wr w.heap.size u5 n gs fun _ _=>false)∧Below w.heap.size w wr)
    case atStart=>exact⟨true,rfl,aside rfl,HT,kb⟩
    case round=>
     clear HT kb
     obtain⟨more,rfl,HM,HT,kb⟩:=hrel
     cases more with
     |false=>
      clear HM
      go_wp2_with (first|go_skip)
      go_ret
      exact⟨_,gs,_,rfl,HG2.out,HT.out,hwhole.out,kb⟩
     |true=>
      go_wp2_with (first|go_skip)
      go_loopw [7,8] (fun mo i wr=>mo=.bool false∧i=.int .i64 0∧Hid (Tab wr w.heap.size u5 n gs fun _ _=>false)∧Below w.heap.size w wr) (fun _ _ _=>0)
      case atStart=>exact⟨rfl,rfl,HT,kb⟩
      case round=>
       clear HT kb
       obtain⟨rfl,rfl,HT,kb⟩:=hrel
       go_wp2_with (first|go_skip)
       go_roundg 0
       case measure=>rw[HM.out];decide
       case rel=>exact⟨false,rfl,aside rfl,HT,kb⟩
   ·obtain⟨r,rc,rfl,hbr⟩:=HT.out.at (by rw[HG2.out];omega)
    obtain⟨b,off,rfl,hbw,hrg⟩:=S.plain (by rw[HN.out];omega)
    have HRG:=aside hrg
    have HS:=aside S.each
    have HTT:=aside T
    clear S T hrg h0
    have HCN:Hid ((zar l).length=n):=aside (by rw[zaw,HN.out])
    go_wp2_with (first|go_skip)
    clear pn e
    go_loopg [7] (cnt n (fun _ _=>false)+1) (fun gm mo wr=>∃(K:Nat→Nat→Bool) (more:Bool),mo=.bool more∧Hid (gm=cnt n K+(if more=true then 1 else 0))∧Hid (Tab wr w.heap.size (.slice (some ⟨r,0,none⟩) gs.length rc) n gs K)∧Hid (Sound (zar l) all K)∧Hid (more=false→Done (zar l) all n K n)∧Below w.heap.size w wr)
    case atStart=>exact⟨fun _ _=>false,true,rfl,aside rfl,HT,aside (fun i j h=>by cases h),aside (fun h=>by cases h),kb⟩
    case round=>
     clear HT kb
     obtain⟨K,more,rfl,HM,HT,HSO,HDO,kb⟩:=hrel
     cases more with
     |false=>
      have hwhole:=aside (show Whole (zar l) all K from fun i j=>⟨HSO.out i j,fun h=>done_all (by rw[zgs.out,zaw]) (by rw[HCN.out];exact HDO.out rfl) h⟩)
      clear HM HSO HDO
      go_wp2_with (first|go_skip)
      go_ret
      exact⟨_,gs,K,rfl,HG2.out,HT.out,hwhole.out,kb⟩
     |true=>
      have HP0:Hid (Pass (zar l) all n (cnt n K) K false (Done (zar l) all n K 0)):=aside ⟨HSO.out,fun h=>(by cases h),fun _=>⟨rfl,fun i' c hi'=>absurd hi' (Nat.not_lt_zero _)⟩⟩
      clear HSO HDO
      go_wp2_with (first|go_skip)
      go_loopw [7,8] (fun mo i wr=>∃(k:Nat) (K1:Nat→Nat→Bool) (more:Bool),k≤n∧i=.int .i64 k∧mo=.bool more∧Hid (Pass (zar l) all n (cnt n K) K1 more (Done (zar l) all n K1 k))∧Hid (Tab wr w.heap.size (.slice (some ⟨r,0,none⟩) gs.length rc) n gs K1)∧Below w.heap.size w wr) (fun _ i _=>n - (intOf i).toNat)
      case atStart=>exact⟨0,K,false,Nat.zero_le _,rfl,rfl,HP0,HT,kb⟩
      case round=>
       clear HP0 HT kb
       obtain⟨k,K1,more,hk,rfl,rfl,HP,HT,kb⟩:=hrel
       by_cases hlt:k<n
       ·obtain⟨x,hx⟩:∃x,l[k]?=some x:=⟨_,List.getElem?_eq_getElem (by rw[HN.out];exact hlt)⟩
        have rx:=HRG.out k x hx
        have IX:=(HS.out x (List.mem_of_getElem? hx)).1
        obtain⟨ad,hA⟩:∃ad,x.a=ad:=⟨_,rfl⟩
        have d0:=zm3 rx
        unfold In at IX
        rw[hA]at d0 IX
        have HX:=aside (zbH hx)
        have hbd:=block_lt_of_cell d0
        obtain⟨ps,hps⟩:∃ps,x.c.ps=ps:=⟨_,rfl⟩
        rw[hps]at d0 IX
        have HPS:=aside hps
        have hpsl:ps.length≤9223372036854775807:=by have:=IX.1;have:=IX.2.1;unfold maxLen at this;omega
        have p0:(k:Int)<n:=by omega
        have m0:((k:Int)).toNat=k:=by omega
        have HP1:Hid (Pass (zar l) all n (cnt n K) K1 more (Done (zar l) all n K1 k∧Half all n K1 k ps 0)):=aside (HP.out.imp fun _ h=>⟨h,fun t' a ht'=>absurd ht' (Nat.not_lt_zero _)⟩)
        clear HP hA hps hx rx
        go_wp2_with (first|go_skip)
        go_loopw [7,9] (fun mo i wr=>∃(t:Nat) (K2:Nat→Nat→Bool) (more:Bool),t≤ps.length∧i=.int .i64 t∧mo=.bool more∧Hid (Pass (zar l) all n (cnt n K) K2 more (Done (zar l) all n K2 k∧Half all n K2 k ps t))∧Hid (Tab wr w.heap.size (.slice (some ⟨r,0,none⟩) gs.length rc) n gs K2)∧Below w.heap.size w wr) (fun _ i _=>ps.length - (intOf i).toNat)
        case atStart=>exact⟨0,K1,more,Nat.zero_le _,rfl,rfl,HP1,HT,kb⟩
        case round=>
         clear HP1 HT kb
         obtain⟨t,K2,more,ht,rfl,rfl,HP,HT,kb⟩:=hrel
         have d1:=(kb.cell hbd).trans d0
         by_cases htl:t<ps.length
         ·obtain⟨b2,off2,rfl,hb2,hr2⟩:=SlI.plain IX (by omega)
          obtain⟨a,ha⟩:∃a,ps[t]?=some a:=⟨_,List.getElem?_eq_getElem htl⟩
          have ra:=IdW.zab (hr2 t htl) kb
          rw[show ps.getD t nought=a by rw[List.getD_eq_getElem?_getD,ha];rfl]at ra
          have HAt:=aside ha
          have pt:(t:Int)<ps.length:=by omega
          have mt:((t:Int)).toNat=t:=by omega
          have hat:=DgR.at_ret A' cap' all a _ (HTT.out.below kb)
          clear hr2 ha
          cases hq:idx all a with
          |none=>
           have hai:atI all a= -1:=by unfold atI;rw[hq]
           rw[hai]at hat
           have HQ:=aside hq
           clear hq hai
           go_wp2_with (first|go_skip|(refine zak rfl _ rfl _ _ rfl a ra ?_))
           refine hat.mono ?_
           rintro e w1 ⟨rfl,k1⟩
           have b1:=kb.trans (k1.mono kb.size)
           have T1:=aside (HT.out.below k1)
           clear hat kb k1 HT d1 ra
           go_wp2_with (first|go_skip)
           go_loopw [7,11] (fun mo i wr=>mo=.bool more∧Hid (Tab wr w.heap.size (.slice (some ⟨r,0,none⟩) gs.length rc) n gs K2)∧Below w.heap.size w wr) (fun _ i _=>n - (intOf i).toNat)
           case atStart=>exact⟨rfl,T1,b1⟩
           case round=>
            clear T1 b1
            obtain⟨rfl,HT,kb⟩:=hrel
            have HPn:Hid (Pass (zar l) all n (cnt n K) K2 more (Done (zar l) all n K2 k∧Half all n K2 k ps (t+1))):=aside (HP.out.imp fun _ h=>⟨h.1,zj7 h.2 HAt.out (fun p hp=>by rw[HQ.out]at hp;cases hp)⟩)
            clear HP
            go_wp2_with (first|go_skip)
            go_roundw
            case rel=>exact⟨t+1,K2,more,by omega,by go_num,rfl,HPn,HT,kb⟩
            case measure=>simp[intOf];omega
          |some p=>
           have hai:atI all a=(p:Int):=by unfold atI;rw[hq]
           rw[hai]at hat
           have HQ:=aside hq
           have hpn:p<n:=by have:=ziB hq;rw[zgs.out,HN.out]at this;exact this
           have HPI:Hid (ParI (zar l) all k p):=aside ⟨x.c,a,HX.out,by rw[HPS.out];exact List.mem_of_getElem? HAt.out,hq⟩
           clear hq hai
           go_wp2_with (first|go_skip|(refine zak rfl _ rfl _ _ rfl a ra ?_))
           refine hat.mono ?_
           rintro e w1 ⟨rfl,k1⟩
           have b1:=kb.trans (k1.mono kb.size)
           have T1:=aside (HT.out.below k1)
           have HP2:Hid (Pass (zar l) all n (cnt n K) K2 more ((Done (zar l) all n K2 k∧Half all n K2 k ps t)∧Row K2 k p 0)):=aside (HP.out.imp fun _ h=>⟨h,fun j hj=>absurd hj (Nat.not_lt_zero _)⟩)
           obtain⟨gk,hgk⟩:∃g,gs[k]?=some g:=⟨_,List.getElem?_eq_getElem (by rw[HG2.out];exact hlt)⟩
           obtain⟨gp,hgp⟩:∃g,gs[p]?=some g:=⟨_,List.getElem?_eq_getElem (by rw[HG2.out];exact hpn)⟩
           have HGK:=aside hgk
           have HGP:=aside hgp
           have hp0:(0:Int)≤(p:Int):=by omega
           have mp:((p:Int)).toNat=p:=by omega
           have pkg:(k:Int)<(gs.length:Int):=by rw[HG2.out];omega
           have ppg:(p:Int)<(gs.length:Int):=by rw[HG2.out];omega
           clear hat kb k1 HT d1 ra HP hgk hgp
           go_wp2_with (first|go_skip)
           go_loopw [7,11] (fun mo i wr=>∃(j:Nat) (K3:Nat→Nat→Bool) (more:Bool),j≤n∧i=.int .i64 j∧mo=.bool more∧Hid (Pass (zar l) all n (cnt n K) K3 more ((Done (zar l) all n K3 k∧Half all n K3 k ps t)∧Row K3 k p j))∧Hid (Tab wr w.heap.size (.slice (some ⟨r,0,none⟩) gs.length rc) n gs K3)∧Below w.heap.size w wr) (fun _ i _=>n - (intOf i).toNat)
           case atStart=>exact⟨0,K2,more,Nat.zero_le _,rfl,rfl,HP2,T1,b1⟩
           case round=>
            clear HP2 T1 b1
            obtain⟨j,K3,more,hj,rfl,rfl,HP,HT,kb⟩:=hrel
            by_cases hjn:j<n
            ·have pj:(j:Int)<n:=by omega
             have mj:((j:Int)).toNat=j:=by omega
             have ck:wr.cell? ⟨r,k,none⟩=some (.slice (some ⟨gk,0,none⟩) n n):=HT.out.cell HGK.out
             have cp:wr.cell? ⟨r,p,none⟩=some (.slice (some ⟨gp,0,none⟩) n n):=HT.out.cell HGP.out
             have bk:=HT.out.bit HGK.out hjn
             have bp:=HT.out.bit HGP.out hjn
             obtain⟨u,hu⟩:∃u,K3 k j=u:=⟨_,rfl⟩
             obtain⟨v,hv⟩:∃v,K3 p j=v:=⟨_,rfl⟩
             obtain⟨q,hq⟩:∃q,((j:Int) == (p:Int))=q:=⟨_,rfl⟩
             rw[hu]at bk
             rw[hv]at bp
             have HU:=aside hu
             have HV:=aside hv
             have HQJ:=aside hq
             clear hu hv
             have hw:u=true∨(u=false∧q=false∧v=false)∨(u=false∧q=true)∨(u=false∧q=false∧v=true):=by cases u <;> cases q <;> cases v <;> simp
             rcases hw with rfl|⟨rfl,rfl,rfl⟩|⟨rfl,rfl⟩|⟨rfl,rfl,rfl⟩
             ·have HPn:Hid (Pass (zar l) all n (cnt n K) K3 more ((Done (zar l) all n K3 k∧Half all n K3 k ps t)∧Row K3 k p (j+1))):=aside (HP.out.imp fun _ h=>⟨h.1,zlA h.2 fun _=>HU.out⟩)
              clear HP
              go_wp2_with (first|go_skip)
              go_roundw
              case rel=>exact⟨j+1,K3,more,by omega,by go_num,rfl,HPn,HT,kb⟩
              case measure=>simp[intOf];omega
             ·have HPn:Hid (Pass (zar l) all n (cnt n K) K3 more ((Done (zar l) all n K3 k∧Half all n K3 k ps t)∧Row K3 k p (j+1))):=aside (HP.out.imp fun _ h=>⟨h.1,zlA h.2 fun hc=>by
               rcases hc with rfl|hc
               ·have:=HQJ.out
                simp at this
               ·rw[HV.out]at hc
                cases hc⟩)
              clear HP
              go_wp2_with (first|go_skip)
              go_roundw
              case rel=>exact⟨j+1,K3,more,by omega,by go_num,rfl,HPn,HT,kb⟩
              case measure=>simp[intOf];omega
             ·have HPn:Hid (Pass (zar l) all n (cnt n K) (upd K3 k j) true ((Done (zar l) all n (upd K3 k j) k∧Half all n (upd K3 k j) k ps t)∧Row (upd K3 k j) k p (j+1))):=aside (HP.out.found HPI.out (.inl (by have:=HQJ.out;simp at this;omega)) hlt hjn HU.out)
              clear HP
              go_wp2_with (first|go_skip|(refine zjH rfl rfl _ _ rfl w.heap.size n r rc gs K3 HT.out k gk j HGK.out hjn rfl rfl ?_;intro w6 T6 k6))
              have b6:=kb.trans (k6 w.heap.size (Nat.le_refl _))
              have HT6:=aside T6
              clear T6 k6 HT kb
              go_roundw
              case rel=>exact⟨j+1,upd K3 k j,true,by omega,by go_num,rfl,HPn,HT6,b6⟩
              case measure=>simp[intOf];omega
             ·have HPn:Hid (Pass (zar l) all n (cnt n K) (upd K3 k j) true ((Done (zar l) all n (upd K3 k j) k∧Half all n (upd K3 k j) k ps t)∧Row (upd K3 k j) k p (j+1))):=aside (HP.out.found HPI.out (.inr HV.out) hlt hjn HU.out)
              clear HP
              go_wp2_with (first|go_skip|(refine zjH rfl rfl _ _ rfl w.heap.size n r rc gs K3 HT.out k gk j HGK.out hjn rfl rfl ?_;intro w6 T6 k6))
              have b6:=kb.trans (k6 w.heap.size (Nat.le_refl _))
              have HT6:=aside T6
              clear T6 k6 HT kb
              go_roundw
              case rel=>exact⟨j+1,upd K3 k j,true,by omega,by go_num,rfl,HPn,HT6,b6⟩
              case measure=>simp[intOf];omega
            ·have e:j=n:=by omega
             have pj:¬(j:Int)<n:=by omega
             have HPn:Hid (Pass (zar l) all n (cnt n K) K3 more (Done (zar l) all n K3 k∧Half all n K3 k ps (t+1))):=aside (HP.out.imp fun _ h=>⟨h.1.1,zj7 h.1.2 HAt.out (fun p' hp'=>by
              rw[HQ.out]at hp'
              rw[←Option.some.inj hp',←e]
              exact h.2)⟩)
             clear HP
             go_wp2_with (first|go_skip)
             go_roundw
             case rel=>exact⟨t+1,K3,more,by omega,by go_num,rfl,HPn,HT,kb⟩
             case measure=>simp[intOf];omega
         ·have pt:¬(t:Int)<ps.length:=by omega
          have HPn:Hid (Pass (zar l) all n (cnt n K) K2 more (Done (zar l) all n K2 (k+1))):=aside (HP.out.imp fun _ h=>zoP h.1 HX.out (by rw[HPS.out];exact h.2) (by rw[HPS.out];omega))
          clear HP
          go_wp2_with (first|go_skip)
          go_roundw
          case rel=>exact⟨k+1,K2,more,by omega,by go_num,rfl,HPn,HT,kb⟩
          case measure=>simp[intOf];omega
       ·have e:k=n:=by omega
        have pk:¬(k:Int)<n:=by omega
        have HM2:Hid (cnt n K1+(if more=true then 1 else 0)<gk):=aside (by
         have:=HM.out
         cases hm:more with
         |true=>have:=HP.out.less hm;simp at *;omega
         |false=>have:=(HP.out.same hm).1;simp at *;omega)
        have HSO:Hid (Sound (zar l) all K1):=aside HP.out.sound
        have HDO:Hid (more=false→Done (zar l) all n K1 n):=aside (fun hm=>by have h:=(HP.out.same hm).2;rw[e]at h;exact h)
        clear HP HM
        go_wp2_with (first|go_skip)
        go_roundg (cnt n K1+(if more=true then 1 else 0))
        case measure=>exact HM2.out
        case rel=>exact⟨K1,more,rfl,aside rfl,HT,HSO,HDO,kb⟩
end Go.Proofs.YtgmdhaepiclkcaaGreatDoor.DgK
namespace Go.Proofs.YtgmdhaepiclkcaaGreatDoor.DgO
set_option maxHeartbeats 32000000
set_option maxRecDepth 100000
open Go Go.Sort Go.RowKit Byt IdM IdW OpsM OpsW CmM StW CmW CmX CmY DgM DgN DgP DgW DgT DgR DgK
open Classical
def Good (all:List Idn) (K:Nat→Nat→Bool) (p:Nat) (b:Idn):Prop:=∃q,idx all b=some q∧K p q=false
def Fine (all:List Idn) (K:Nat→Nat→Bool) (ps:List Idn) (a:Idn):Prop:=∃p,idx all a=some p∧∀b ∈ ps,Good all K p b
theorem one_iff {l:List Com} {all:List Idn} {K:Nat→Nat→Bool} (hW:Whole l all K) {c:Com}:OneI l all c↔(∀a ∈ c.ps,Fine all K c.ps a)∧c.gen=1+most (c.ps.map (gI l all)):=by
 have znA:∀{a:Idn},a ∈ all→∃p,idx all a=some p:=fun{a} ha=>by
  cases hq:idx all a with
  |none=>exact absurd ha (zfO.1 hq)
  |some p=>exact⟨p,rfl⟩
 constructor
 ·intro h
  refine⟨fun a ha=>?_,h.gen⟩
  obtain⟨p,hp⟩:=znA (h.found a ha)
  refine⟨p,hp,fun b hb=>?_⟩
  obtain⟨q,hq⟩:=znA (h.found b hb)
  refine⟨q,hq,?_⟩
  cases hk:K p q with
  |false=>rfl
  |true=>exact absurd ((hW p q).1 hk) (h.apart a ha b hb p q hp hq)
 ·rintro⟨h1,h2⟩
  refine⟨fun a ha=>?_,fun a ha b hb p q hp hq k=>?_,h2⟩
  ·obtain⟨p,hp,_⟩:=h1 a ha
   exact List.mem_of_getElem? (zcP hp).1
  ·obtain⟨p',hp',hg⟩:=h1 a ha
   obtain⟨q',hq',hk⟩:=hg b hb
   rw[hp]at hp'
   rw[hq]at hq'
   rw[←Option.some.inj hp',←Option.some.inj hq',(hW p q).2 k]at hk
   cases hk
theorem zez (l:List Int) (x:Int):most (l++[x])=max (most l) x:=by simp[most,List.foldl_append]
theorem zlc {w:World} {b off:Nat} {x:Cv} (h:w.rangeAt b off (cc x).toList):w.cell? ⟨b,off+2,none⟩=some (.int .i64 x.c.gen):=h 2 _ rfl
theorem zno {l:List Com} {all:List Idn} {ps:List Idn} {t p:Nat} {a:Idn} {y:Com} (ha:ps[t]?=some a) (hq:idx all a=some p) (hy:l[p]?=some y):most ((ps.take (t+1)).map (gI l all))=max (most ((ps.take t).map (gI l all))) y.gen:=by
 obtain⟨ht,e⟩:=List.getElem?_eq_some_iff.1 ha
 rw[List.take_succ_eq_append_getElem ht,List.map_append,List.map_cons,List.map_nil,zez,e]
 congr 1
 unfold gI
 rw[hq]
 simp[hy]
theorem zeA {l:List Com} {all:List Idn} {ps:List Idn} (hm:∀c ∈ l,c.gen≤1048576):0≤most (ps.map (gI l all))∧most (ps.map (gI l all))≤1048576:=by
 obtain⟨h1,_,h3⟩:=foldl_max (ps.map (gI l all)) 0
 refine⟨h1,?_⟩
 unfold most
 rcases h3 with h3|h3
 ·rw[h3];omega
 ·obtain⟨a,_,ha⟩:=List.mem_map.1 h3
  rw[←ha]
  unfold gI
  cases hq:idx all a with
  |none=>simp
  |some p=>
   cases hy:l[p]? with
   |none=>simp[hy]
   |some y=>simpa[hy]using hm y (List.mem_of_getElem? hy)
theorem zhE (A A':Option Addr) (cap cap':Nat) (l:List Cv) (all:List Idn) (v:Value) (gs:List Nat) (K:Nat→Nat→Bool) (base i:Nat) (x:Cv) (w:World) (S:SlK w A cap l) (T:SlI w A' cap' all) (TB:Tab w base v l.length gs K) (hgl:gs.length=l.length)
  (hW:Whole (zar l) all K) (hall:all.length=l.length) (hm:∀c ∈ zar l,c.gen≤1048576) (hi:l[i]?=some x):
  Calls Tryz.prog 75 #[.slice A l.length cap,.slice A' all.length cap',v,.int .i64 i] w fun e w'=>e=.returned (.bool (decide (OneI (zar l) all x.c)))∧Below w.heap.size w w':=by
 have hmax:=S.len
 have hil:=(List.getElem?_eq_some_iff.1 hi).1
 obtain⟨rb,hrb⟩:∃b,decide (OneI (zar l) all x.c)=b:=⟨_,rfl⟩
 have HR:Hid (rb=decide ((∀a ∈ x.c.ps,Fine all K x.c.ps a)∧x.c.gen=1+most (x.c.ps.map (gI (zar l) all)))):=aside (by rw[←hrb];exact decide_eq_decide.2 (one_iff hW))
 rw[hrb]
 obtain⟨r,rc,rfl,hbr⟩:=TB.at (by rw[hgl];omega)
 obtain⟨b,off,rfl,hbw,hrg⟩:=S.plain (by omega)
 have rx:=hrg i x hi
 have HRG:=aside hrg
 have HM:=aside hm
 have HGL:=aside hgl
 have zgs:=aside hall
 have HTT:=aside T
 have HTB:=aside TB
 have hxm:=List.mem_of_getElem? hi
 have IX:=(S.each x hxm).1
 have hfit:=(S.each x hxm).2.gen
 obtain⟨ad,hA⟩:∃ad,x.a=ad:=⟨_,rfl⟩
 obtain⟨ps,hps⟩:∃ps,x.c.ps=ps:=⟨_,rfl⟩
 unfold In at IX
 rw[hA,hps]at IX
 rw[hps]at HR
 have HPS:=aside hps
 have HA:=aside hA
 have hpsl:ps.length≤9223372036854775807:=by have:=IX.1;have:=IX.2.1;unfold maxLen at this;omega
 have pi0:(i:Int)<l.length:=by omega
 have mi0:((i:Int)).toNat=i:=by omega
 clear S T TB hrg hm hgl hall hrb hxm hi hps hA
 go_enter Tryz.func75,Tryz.ntmps75
 go_wp2_with (first|go_skip|(refine zbF rfl _ rfl _ _ rfl x rx ?_)|(refine Cel.zac CE rfl _ _ rfl _ _ _ rfl x _ rfl rfl rfl rfl ?_;intro w1 C1 k1 g1 s1))
 clear g1 s1 rx
 go_loopw [9,11] (fun go_ i wr=>∃(t:Nat) (g:Int),t≤ps.length∧i=.int .i64 t∧go_=.int .i64 g∧Hid (∀t' a,t'<t→ps[t']?=some a→Fine all K ps a)∧Hid (g=most ((ps.take t).map (gI (zar l) all)))∧Cel.Box CE wr w.heap.size x∧Below w.heap.size w wr) (fun _ i _=>ps.length - (intOf i).toNat)
 case atStart=>exact⟨0,0,Nat.zero_le _,rfl,rfl,aside (fun t' a ht'=>absurd ht' (Nat.not_lt_zero _)),aside rfl,C1,k1⟩
 case round=>
  clear C1 k1
  obtain⟨t,g,ht,rfl,rfl,HF,HG,C,kb⟩:=hrel
  have d1:=(zaP C).trans (by rw[HA.out,HPS.out])
  by_cases htl:t<ps.length
  ·obtain⟨b2,off2,rfl,hb2,hr2⟩:=SlI.plain IX (by omega)
   obtain⟨a,ha⟩:∃a,ps[t]?=some a:=⟨_,List.getElem?_eq_getElem htl⟩
   have ra:=IdW.zab (hr2 t htl) kb
   rw[show ps.getD t nought=a by rw[List.getD_eq_getElem?_getD,ha];rfl]at ra
   have HAt:=aside ha
   have HR2:=aside hr2
   have pt:(t:Int)<ps.length:=by omega
   have mt:((t:Int)).toNat=t:=by omega
   have hat:=DgR.at_ret A' cap' all a _ (HTT.out.below kb)
   clear hr2 ha
   cases hq:idx all a with
   |none=>
    have hai:atI all a= -1:=by unfold atI;rw[hq]
    rw[hai]at hat
    have HX:Hid (rb=false):=aside (by
     rw[HR.out]
     refine decide_eq_false fun h=>?_
     obtain⟨p,hp,_⟩:=h.1 a (List.mem_of_getElem? HAt.out)
     rw[hq]at hp
     cases hp)
    clear hq hai HF HG
    go_wp2_with (first|go_skip|(refine zak rfl _ rfl _ _ rfl a ra ?_))
    refine hat.mono ?_
    rintro e w2 ⟨rfl,k2⟩
    have b2:=kb.trans (k2.mono kb.size)
    clear hat k2 kb d1 ra C
    go_wp2_with (first|go_skip)
    go_ret
    exact⟨StW.zae HX.out.symm,b2⟩
   |some p=>
    have hai:atI all a=(p:Int):=by unfold atI;rw[hq]
    rw[hai]at hat
    have HQ:=aside hq
    have hpn:p<l.length:=by have:=ziB hq;rw[zgs.out]at this;exact this
    obtain⟨y,hy⟩:∃y,l[p]?=some y:=⟨_,List.getElem?_eq_getElem hpn⟩
    have hmax2:=zno HAt.out hq (zbH hy)
    rw[←HG.out]at hmax2
    have ry:=HRG.out p y hy
    obtain⟨yg,hyg⟩:∃z,y.c.gen=z:=⟨_,rfl⟩
    have HYG:=aside hyg
    rw[hyg]at hmax2
    have HMX:=aside hmax2
    obtain⟨gp,hgp⟩:∃z,gs[p]?=some z:=⟨_,List.getElem?_eq_getElem (by rw[HGL.out];exact hpn)⟩
    have HGP:=aside hgp
    have hp0:¬(p:Int)<0:=by omega
    have pp:(p:Int)<l.length:=by omega
    have ppg:(p:Int)<gs.length:=by rw[HGL.out];omega
    have mp:((p:Int)).toNat=p:=by omega
    clear hq hai hy hmax2 hyg hgp
    go_wp2_with (first|go_skip|(refine zak rfl _ rfl _ _ rfl a ra ?_))
    refine hat.mono ?_
    rintro e w2 ⟨rfl,k2⟩
    have b2:=kb.trans (k2.mono kb.size)
    have C2:=C.below k2
    have e2:=(zlc (zaL ry b2)).trans (by rw[HYG.out])
    clear hat k2 kb d1 ra C ry
    by_cases hgt:g<yg
    ·have HGn:Hid (yg=most ((ps.take (t+1)).map (gI (zar l) all))):=aside (by rw[HMX.out];omega)
     clear HG HMX
     ·go_wp2_with (first|go_skip)
      clear e2
      go_loopw [13] (fun i wr=>∃s:Nat,s≤ps.length∧i=.int .i64 s∧Hid (∀s' c,s'<s→ps[s']?=some c→Good all K p c)∧Cel.Box CE wr w.heap.size x∧Below w.heap.size w wr) (fun i _=>ps.length - (intOf i).toNat)
      case atStart=>exact⟨0,Nat.zero_le _,rfl,aside (fun s' c hs'=>absurd hs' (Nat.not_lt_zero _)),C2,b2⟩
      case round=>
       clear C2 b2
       obtain⟨s,hs,rfl,HS,C,kb⟩:=hrel
       have d1:=(zaP C).trans (by rw[HA.out,HPS.out])
       by_cases hsl:s<ps.length
       ·obtain⟨c,hc⟩:∃c,ps[s]?=some c:=⟨_,List.getElem?_eq_getElem hsl⟩
        have rc2:=IdW.zab (HR2.out s hsl) kb
        rw[show ps.getD s nought=c by rw[List.getD_eq_getElem?_getD,hc];rfl]at rc2
        have HCs:=aside hc
        have ps1:(s:Int)<ps.length:=by omega
        have ms:((s:Int)).toNat=s:=by omega
        have hat:=DgR.at_ret A' cap' all c _ (HTT.out.below kb)
        clear hc
        cases hqc:idx all c with
        |none=>
         have hai:atI all c= -1:=by unfold atI;rw[hqc]
         rw[hai]at hat
         have HX:Hid (rb=false):=aside (by
          rw[HR.out]
          refine decide_eq_false fun h=>?_
          obtain⟨p',_,hg⟩:=h.1 a (List.mem_of_getElem? HAt.out)
          obtain⟨q',hq',_⟩:=hg c (List.mem_of_getElem? HCs.out)
          rw[hqc]at hq'
          cases hq')
         clear hqc hai HS
         go_wp2_with (first|go_skip|(refine zak rfl _ rfl _ _ rfl c rc2 ?_))
         refine hat.mono ?_
         rintro e w3 ⟨rfl,k3⟩
         have b3:=kb.trans (k3.mono kb.size)
         clear hat k3 kb d1 rc2 C
         go_wp2_with (first|go_skip)
         go_ret
         exact⟨StW.zae HX.out.symm,b3⟩
        |some q=>
         have hai:atI all c=(q:Int):=by unfold atI;rw[hqc]
         rw[hai]at hat
         have HQC:=aside hqc
         have hqn:q<l.length:=by have:=ziB hqc;rw[zgs.out]at this;exact this
         have hq0:¬(q:Int)<0:=by omega
         have pq:(q:Int)<l.length:=by omega
         have mq:((q:Int)).toNat=q:=by omega
         clear hqc hai
         go_wp2_with (first|go_skip|(refine zak rfl _ rfl _ _ rfl c rc2 ?_))
         refine hat.mono ?_
         rintro e w3 ⟨rfl,k3⟩
         have b3:=kb.trans (k3.mono kb.size)
         have C3:=C.below k3
         have T3:=HTB.out.below b3
         have cp:w3.cell? ⟨r,p,none⟩=some (.slice (some ⟨gp,0,none⟩) l.length l.length):=T3.cell HGP.out
         have bp:=T3.bit HGP.out hqn
         obtain⟨u,hu⟩:∃u,K p q=u:=⟨_,rfl⟩
         rw[hu]at bp
         have HU:=aside hu
         clear hat k3 kb d1 rc2 C T3 hu
         cases u with
         |true=>
          have HX:Hid (rb=false):=aside (by
           rw[HR.out]
           refine decide_eq_false fun h=>?_
           obtain⟨p',hp',hg⟩:=h.1 a (List.mem_of_getElem? HAt.out)
           obtain⟨q',hq',hk⟩:=hg c (List.mem_of_getElem? HCs.out)
           rw[HQ.out]at hp'
           rw[HQC.out]at hq'
           rw[←Option.some.inj hp',←Option.some.inj hq',HU.out]at hk
           cases hk)
          clear HS
          go_wp2_with (first|go_skip)
          go_ret
          exact⟨StW.zae HX.out.symm,b3⟩
         |false=>
          have HSn:Hid (∀s' c,s'<s+1→ps[s']?=some c→Good all K p c):=aside (fun s' c' hs' hc'=>by
           by_cases e:s'=s
           ·subst e
            rw[HCs.out]at hc'
            rw[←Option.some.inj hc']
            exact⟨q,HQC.out,HU.out⟩
           ·exact HS.out s' c' (by omega) hc')
          clear HS
          go_wp2_with (first|go_skip)
          go_roundw
          case rel=>exact⟨s+1,by omega,by go_num,HSn,C3,b3⟩
          case measure=>simp[intOf];omega
       ·have ps1:¬(s:Int)<ps.length:=by omega
        have HFn:Hid (∀t' a,t'<t+1→ps[t']?=some a→Fine all K ps a):=aside (fun t' a' ht' ha'=>by
         by_cases e:t'=t
         ·subst e
          rw[HAt.out]at ha'
          rw[←Option.some.inj ha']
          refine⟨p,HQ.out,fun c hc=>?_⟩
          obtain⟨s',hs'⟩:=List.mem_iff_getElem?.1 hc
          exact HS.out s' c (by have:=(List.getElem?_eq_some_iff.1 hs').1;omega) hs'
         ·exact HF.out t' a' (by omega) ha')
        clear HS
        go_wp2_with (first|go_skip)
        go_roundw
        case rel=>exact⟨t+1,yg,by omega,by go_num,rfl,HFn,HGn,C,kb⟩
        case measure=>simp[intOf];omega
    ·have HGn:Hid (g=most ((ps.take (t+1)).map (gI (zar l) all))):=aside (by rw[HMX.out];omega)
     clear HG HMX
     ·go_wp2_with (first|go_skip)
      clear e2
      go_loopw [13] (fun i wr=>∃s:Nat,s≤ps.length∧i=.int .i64 s∧Hid (∀s' c,s'<s→ps[s']?=some c→Good all K p c)∧Cel.Box CE wr w.heap.size x∧Below w.heap.size w wr) (fun i _=>ps.length - (intOf i).toNat)
      case atStart=>exact⟨0,Nat.zero_le _,rfl,aside (fun s' c hs'=>absurd hs' (Nat.not_lt_zero _)),C2,b2⟩
      case round=>
       clear C2 b2
       obtain⟨s,hs,rfl,HS,C,kb⟩:=hrel
       have d1:=(zaP C).trans (by rw[HA.out,HPS.out])
       by_cases hsl:s<ps.length
       ·obtain⟨c,hc⟩:∃c,ps[s]?=some c:=⟨_,List.getElem?_eq_getElem hsl⟩
        have rc2:=IdW.zab (HR2.out s hsl) kb
        rw[show ps.getD s nought=c by rw[List.getD_eq_getElem?_getD,hc];rfl]at rc2
        have HCs:=aside hc
        have ps1:(s:Int)<ps.length:=by omega
        have ms:((s:Int)).toNat=s:=by omega
        have hat:=DgR.at_ret A' cap' all c _ (HTT.out.below kb)
        clear hc
        cases hqc:idx all c with
        |none=>
         have hai:atI all c= -1:=by unfold atI;rw[hqc]
         rw[hai]at hat
         have HX:Hid (rb=false):=aside (by
          rw[HR.out]
          refine decide_eq_false fun h=>?_
          obtain⟨p',_,hg⟩:=h.1 a (List.mem_of_getElem? HAt.out)
          obtain⟨q',hq',_⟩:=hg c (List.mem_of_getElem? HCs.out)
          rw[hqc]at hq'
          cases hq')
         clear hqc hai HS
         go_wp2_with (first|go_skip|(refine zak rfl _ rfl _ _ rfl c rc2 ?_))
         refine hat.mono ?_
         rintro e w3 ⟨rfl,k3⟩
         have b3:=kb.trans (k3.mono kb.size)
         clear hat k3 kb d1 rc2 C
         go_wp2_with (first|go_skip)
         go_ret
         exact⟨StW.zae HX.out.symm,b3⟩
        |some q=>
         have hai:atI all c=(q:Int):=by unfold atI;rw[hqc]
         rw[hai]at hat
         have HQC:=aside hqc
         have hqn:q<l.length:=by have:=ziB hqc;rw[zgs.out]at this;exact this
         have hq0:¬(q:Int)<0:=by omega
         have pq:(q:Int)<l.length:=by omega
         have mq:((q:Int)).toNat=q:=by omega
         clear hqc hai
         go_wp2_with (first|go_skip|(refine zak rfl _ rfl _ _ rfl c rc2 ?_))
         refine hat.mono ?_
         rintro e w3 ⟨rfl,k3⟩
         have b3:=kb.trans (k3.mono kb.size)
         have C3:=C.below k3
         have T3:=HTB.out.below b3
         have cp:w3.cell? ⟨r,p,none⟩=some (.slice (some ⟨gp,0,none⟩) l.length l.length):=T3.cell HGP.out
         have bp:=T3.bit HGP.out hqn
         obtain⟨u,hu⟩:∃u,K p q=u:=⟨_,rfl⟩
         rw[hu]at bp
         have HU:=aside hu
         clear hat k3 kb d1 rc2 C T3 hu
         cases u with
         |true=>
          have HX:Hid (rb=false):=aside (by
           rw[HR.out]
           refine decide_eq_false fun h=>?_
           obtain⟨p',hp',hg⟩:=h.1 a (List.mem_of_getElem? HAt.out)
           obtain⟨q',hq',hk⟩:=hg c (List.mem_of_getElem? HCs.out)
           rw[HQ.out]at hp'
           rw[HQC.out]at hq'
           rw[←Option.some.inj hp',←Option.some.inj hq',HU.out]at hk
           cases hk)
          clear HS
          go_wp2_with (first|go_skip)
          go_ret
          exact⟨StW.zae HX.out.symm,b3⟩
         |false=>
          have HSn:Hid (∀s' c,s'<s+1→ps[s']?=some c→Good all K p c):=aside (fun s' c' hs' hc'=>by
           by_cases e:s'=s
           ·subst e
            rw[HCs.out]at hc'
            rw[←Option.some.inj hc']
            exact⟨q,HQC.out,HU.out⟩
           ·exact HS.out s' c' (by omega) hc')
          clear HS
          go_wp2_with (first|go_skip)
          go_roundw
          case rel=>exact⟨s+1,by omega,by go_num,HSn,C3,b3⟩
          case measure=>simp[intOf];omega
       ·have ps1:¬(s:Int)<ps.length:=by omega
        have HFn:Hid (∀t' a,t'<t+1→ps[t']?=some a→Fine all K ps a):=aside (fun t' a' ht' ha'=>by
         by_cases e:t'=t
         ·subst e
          rw[HAt.out]at ha'
          rw[←Option.some.inj ha']
          refine⟨p,HQ.out,fun c hc=>?_⟩
          obtain⟨s',hs'⟩:=List.mem_iff_getElem?.1 hc
          exact HS.out s' c (by have:=(List.getElem?_eq_some_iff.1 hs').1;omega) hs'
         ·exact HF.out t' a' (by omega) ha')
        clear HS
        go_wp2_with (first|go_skip)
        go_roundw
        case rel=>exact⟨t+1,g,by omega,by go_num,rfl,HFn,HGn,C,kb⟩
        case measure=>simp[intOf];omega
  ·have pt:¬(t:Int)<ps.length:=by omega
   have hgb:=zeA (l:=zar l) (all:=all) (ps:=ps.take t) HM.out
   rw[←HG.out]at hgb
   have wg:IntKind.i64.wrap (g+1)=g+1:=by rw[IntKind.wrap_i64];omega
   have d2:=za1 C
   have HX:Hid (rb=(x.c.gen == g+1)):=aside (by
    rw[HR.out,show(x.c.gen == g+1)=decide (x.c.gen=g+1) from rfl]
    refine decide_eq_decide.2 ⟨fun h=>?_,fun h=>⟨fun a ha=>?_,?_⟩⟩
    ·rw[HG.out,List.take_of_length_le (by omega)]
     omega
    ·obtain⟨t',ht'⟩:=List.mem_iff_getElem?.1 ha
     exact HF.out t' a (by have:=(List.getElem?_eq_some_iff.1 ht').1;omega) ht'
    ·rw[HG.out,List.take_of_length_le (by omega)]at h
     omega)
   clear HF HG hgb
   go_wp2_with (first|go_skip)
   go_ret
   exact⟨StW.zae HX.out.symm,kb⟩
end Go.Proofs.YtgmdhaepiclkcaaGreatDoor.DgO
