/- What Has, Rises and Same (of ids, and of the document's answers) retur | What the document's May, Merge and Same of package commit return -/
import Derived.Test.YtgmdhaepiclkcaaGreatDoorRefEJ9
import Derived.Test.YtgmdhaepiclkcaaGreatDoorRowBJ9
namespace Go.Proofs.YtgmdhaepiclkcaaGreatDoor.IdV
set_option maxHeartbeats 1000000
set_option maxRecDepth 100000
open Go Go.Sort Go.RowKit IdM Byt IdW IdC
theorem zaS {ops:Array Oper} {C:World→Prop} {Q:Act→Prop} {a:Act} {o:Oper} {rest:List Oper} (hgd:o.guard=none) (x:Operand) (ho:o.op=.load 56 x)
  (b off:Nat) (hx:a.eval x=.pointer (some ⟨b,off,none⟩)) (y:Idn) (hc:∀w,C w→w.rangeAt b off (bv y.1)) (h:wpQuiet Tryz.prog ops C Q rest (a.put o.dst (.agg (cs y)))):wpQuiet Tryz.prog ops C Q (o::rest) a:=by
 refine BigFrame.wpQuiet_want (by simp[Region.wanted,hgd]) (fun K hK=>⟨.agg (cs y),fun w hw=>?_,hK _ h⟩)
 have q:=zlT (hc w hw)
 unfold Oper.quietAt execOp
 simp only[ho,hx,Sem.run_bind,q,Result.andThen_ok,Sem.run_pure]
 exact⟨rfl,rfl⟩
theorem zbS {l:List Oper} {i:Nat} {o:Oper} {r:List (Nat×Bool)} {a:Act} {w:World} {Q:Exit→Act→World→Prop} (hn:Grow.nth l i=some o) (hgd:o.guard=none) (x:Operand) (ho:o.op=.load 56 x)
  (b off:Nat) (hx:a.eval x=.pointer (some ⟨b,off,none⟩)) (y:Idn) (hc:w.rangeAt b off (bv y.1)) (h:Grow.Seq Tryz.prog l.toArray Q r (a.put o.dst (.agg (cs y))) w):Grow.Seq Tryz.prog l.toArray Q ((i,true)::r) a w:=
 Grow.reads hn (by unfold Grow.plain;rw[ho]) (zaS hgd x ho b off hx y (fun _ ⟨p,e⟩=>by rw[e];exact zab hc (below_regrown w p.d p.os)) (wpQuiet_nil h))
theorem mem_iff_get {l:List Idn} {x:Idn}:x ∈ l↔∃i,i<l.length∧l.getD i nought=x:=by
 constructor
 ·intro h
  obtain⟨i,hi,e⟩:=List.getElem_of_mem h
  exact⟨i,hi,by rw[List.getD_eq_getElem?_getD,List.getElem?_eq_getElem hi];exact e⟩
 ·rintro⟨i,hi,rfl⟩
  rw[List.getD_eq_getElem?_getD,List.getElem?_eq_getElem hi]
  exact List.getElem_mem hi
theorem zgU (A:Option Addr) (cap:Nat) (l:List Idn) (x:Idn) (w:World) (S:SlI w A cap l):
  Calls Tryz.prog 87 #[.slice A l.length cap,.agg (cs x)] w fun e w'=>e=.returned (.bool (decide (x ∈ l)))∧Below w.heap.size w w':=by
 have hcap:=S.1
 have hmax:l.length≤9223372036854775807:=by have:=S.2.1;unfold maxLen at this;omega
 obtain⟨r,hr0⟩:∃r,decide (x ∈ l)=r:=⟨_,rfl⟩
 rw[hr0]
 have hr:=aside hr0
 clear hr0
 have B1:Box (w.alloc (.cells (cs x) 56)) w.heap.size x:=Box.new w x _
 go_enter Tryz.func87,Tryz.ntmps87
 go_wp2_with fail
 go_loopw [5] (fun i wr=>∃k:Nat,k≤l.length∧i=.int .i64 k∧Hid (∀j,j<k→l.getD j nought≠x)∧Box wr w.heap.size x∧Below w.heap.size w wr) (fun i _=>l.length - (intOf i).toNat)
 case atStart=>exact⟨0,Nat.zero_le _,rfl,aside (fun j hj=>absurd hj (Nat.not_lt_zero j)),B1,(Below.refl _ _).alloc (Nat.le_refl _) _⟩
 case round=>
  clear B1
  obtain⟨k,hk,rfl,he,B1,kb⟩:=hrel
  by_cases hlt:k<l.length
  ·obtain⟨b,off,rfl,hbw,hrg⟩:=S.plain (by omega)
   have hr1:=zab (hrg k hlt) kb
   obtain⟨y,hy⟩:∃y,l.getD k nought=y:=⟨_,rfl⟩
   rw[hy]at hr1
   have HY:=aside hy
   have p0:(k:Int)<l.length:=by omega
   have m0:((k:Int)).toNat=k:=by omega
   clear hrg S hy
   have heq:=fun W=>equal W 9998 y x
   by_cases hyx:y=x
   ·have hl:r=true:=by rw[←hr.out];exact decide_eq_true (mem_iff_get.2 ⟨k,hlt,HY.out.trans hyx⟩)
    simp only[hyx,decide_true]at heq
    subst hyx
    go_wp2
    refine wp_region_quiet_lit (by kernel_rfl) (by kernel_rfl) ?_
    repeat (first|(refine zaS rfl _ rfl _ _ rfl y (fun _ ⟨_,e⟩=>by rw[e];exact hr1) ?_;simp only[Act.put,List.setIfInBounds_toArray,List.set_cons_succ,List.set_cons_zero])|(refine zaS rfl _ rfl _ _ rfl y (fun _ ⟨_,e⟩=>by rw[e];exact B1.range) ?_;simp only[Act.put,List.setIfInBounds_toArray,List.set_cons_succ,List.set_cons_zero])|go_big_quiet_step (fail))
    refine wpQuiet_nil ?_
    rintro _ ⟨nq,rfl⟩
    go_wp2
    go_ret
    exact⟨by rw[hl];rfl,zai kb _⟩
   ·simp only[hyx,decide_false]at heq
    go_wp2
    refine wp_region_quiet_lit (by kernel_rfl) (by kernel_rfl) ?_
    repeat (first|(refine zaS rfl _ rfl _ _ rfl y (fun _ ⟨_,e⟩=>by rw[e];exact hr1) ?_;simp only[Act.put,List.setIfInBounds_toArray,List.set_cons_succ,List.set_cons_zero])|(refine zaS rfl _ rfl _ _ rfl x (fun _ ⟨_,e⟩=>by rw[e];exact B1.range) ?_;simp only[Act.put,List.setIfInBounds_toArray,List.set_cons_succ,List.set_cons_zero])|go_big_quiet_step (fail))
    refine wpQuiet_nil ?_
    rintro _ ⟨nq,rfl⟩
    go_wp2
    go_roundw
    case rel=>
     refine⟨k+1,by omega,by go_num,aside (fun j hj=>?_),B1.drewN _,zai kb _⟩
     by_cases hjk:j=k
     ·subst hjk
      rw[HY.out]
      exact hyx
     ·exact he.out j (by omega)
    case measure=>simp[intOf];omega
  ·have hl:r=false:=by
    rw[←hr.out]
    refine decide_eq_false (fun hm=>?_)
    obtain⟨i,hi,e⟩:=mem_iff_get.1 hm
    exact he.out i (by omega) e
   go_wp2
   go_ret
   exact⟨by rw[hl];rfl,kb⟩
theorem znK (A:Option Addr) (cap:Nat) (l:List Idn) (w:World) (S:SlI w A cap l):
  Calls Tryz.prog 170 #[.slice A l.length cap] w fun e w'=>e=.returned (.bool (zaN l))∧Below w.heap.size w w':=by
 have hcap:=S.1
 have hmax:l.length≤9223372036854775807:=by have:=S.2.1;unfold maxLen at this;omega
 obtain⟨r,hr0⟩:∃r,zaN l=r:=⟨_,rfl⟩
 rw[hr0]
 have hr:=aside hr0
 clear hr0
 go_enter Tryz.func170,Tryz.ntmps170
 go_wp2_with fail
 go_loopw [3] (fun i wr=>∃k:Nat,1≤k∧(k≤l.length∨k=1)∧i=.int .i64 k∧Hid (∀j,j+1<k→less (l.getD j nought) (l.getD (j+1) nought)=true)∧Below w.heap.size w wr) (fun i _=>l.length+1 - (intOf i).toNat)
 case atStart=>exact⟨1,Nat.le_refl _,.inr rfl,rfl,aside (fun j hj=>absurd hj (by omega)),Below.refl _ _⟩
 case round=>
  obtain⟨k,hk1,hk,rfl,he,kb⟩:=hrel
  by_cases hlt:k<l.length
  ·obtain⟨b,off,rfl,hbw,hrg⟩:=S.plain (by omega)
   have ra:=zab (hrg (k - 1) (by omega)) kb
   have rb:=zab (hrg k hlt) kb
   obtain⟨x,hx⟩:∃x,l.getD (k - 1) nought=x:=⟨_,rfl⟩
   obtain⟨y,hy⟩:∃y,l.getD k nought=y:=⟨_,rfl⟩
   rw[hx]at ra
   rw[hy]at rb
   have HX:=aside hx
   have HY:=aside hy
   have p0:(k:Int)<l.length:=by omega
   have m0:((k:Int)).toNat=k:=by omega
   have p1:(k:Int) - 1<l.length:=by omega
   have o1:0≤(k:Int) - 1:=by omega
   have m1:((k:Int) - 1).toNat=k - 1:=by omega
   clear hrg S hx hy
   cases hl:less x y with
   |true=>
    go_wp2
    refine Grow.region [(0,true),(1,true),(2,true),(3,true),(4,true),(5,true),(6,true),(7,true),(8,true),(9,false),(10,true)] (by kernel_rfl) (by kernel_rfl) rfl (by kernel_rfl) (by intro c a d v w h;cases d <;> exact h) ?_
    have ra':wr.drew.rangeAt b (off+(k - 1) * 32) (bv x.1):=ra
    have rb':wr.drew.rangeAt b (off+k * 32) (bv y.1):=rb
    have kd:=zaf kb
    generalize wr.drew=W at ra' rb' kd ⊢
    repeat (first|(refine zbS rfl rfl _ rfl _ _ rfl x ra' ?_;simp only[Act.put,List.setIfInBounds_toArray,List.set_cons_succ,List.set_cons_zero])|(refine zbS rfl rfl _ rfl _ _ rfl y rb' ?_;simp only[Act.put,List.setIfInBounds_toArray,List.set_cons_succ,List.set_cons_zero])|(refine Grow.reads rfl rfl ?_;go_big_quiet_step (fail);refine wpQuiet_nil ?_))
    refine Grow.acts rfl ?_
    go_wp2_with fail
    refine(zbv x y W).mono ?_
    rintro e w1 ⟨rfl,g1⟩
    rw[hl]
    go_wp2_with fail
    refine⟨g1.below,?_⟩
    refine Grow.reads rfl rfl ?_
    go_big_quiet_step (fail)
    refine wpQuiet_nil ?_
    refine Grow.ends ?_
    go_wp2
    go_roundw
    case rel=>
     refine⟨k+1,by omega,.inl (by omega),by go_num,aside (fun j hj=>?_),kd.trans (g1.below.mono kd.size)⟩
     by_cases hjk:j+1=k
     ·subst hjk
      rw[Nat.add_sub_cancel]at HX
      rw[HX.out,HY.out]
      exact hl
     ·exact he.out j (by omega)
    case measure=>simp[intOf];omega
   |false=>
    have hrf:r=false:=by
     rw[←hr.out]
     unfold zaN
     rw[List.all_eq_false]
     refine⟨k - 1,by simp;omega,?_⟩
     rw[Nat.sub_add_cancel hk1,HX.out,HY.out,hl]
     simp
    go_wp2
    refine Grow.region [(0,true),(1,true),(2,true),(3,true),(4,true),(5,true),(6,true),(7,true),(8,true),(9,false),(10,true)] (by kernel_rfl) (by kernel_rfl) rfl (by kernel_rfl) (by intro c a d v w h;cases d <;> exact h) ?_
    have ra':wr.drew.rangeAt b (off+(k - 1) * 32) (bv x.1):=ra
    have rb':wr.drew.rangeAt b (off+k * 32) (bv y.1):=rb
    have kd:=zaf kb
    generalize wr.drew=W at ra' rb' kd ⊢
    repeat (first|(refine zbS rfl rfl _ rfl _ _ rfl x ra' ?_;simp only[Act.put,List.setIfInBounds_toArray,List.set_cons_succ,List.set_cons_zero])|(refine zbS rfl rfl _ rfl _ _ rfl y rb' ?_;simp only[Act.put,List.setIfInBounds_toArray,List.set_cons_succ,List.set_cons_zero])|(refine Grow.reads rfl rfl ?_;go_big_quiet_step (fail);refine wpQuiet_nil ?_))
    refine Grow.acts rfl ?_
    go_wp2_with fail
    refine(zbv x y W).mono ?_
    rintro e w1 ⟨rfl,g1⟩
    rw[hl]
    go_wp2_with fail
    refine⟨g1.below,?_⟩
    refine Grow.reads rfl rfl ?_
    go_big_quiet_step (fail)
    refine wpQuiet_nil ?_
    refine Grow.ends ?_
    go_wp2
    go_ret
    exact⟨by rw[hrf];rfl,kd.trans (g1.below.mono kd.size)⟩
  ·have hrt:r=true:=by
    rw[←hr.out]
    unfold zaN
    rw[List.all_eq_true]
    intro i hi
    exact he.out i (by simp at hi;omega)
   go_wp2
   go_ret
   exact⟨by rw[hrt];rfl,kb⟩
theorem zf8 (A:Option Addr) (cap:Nat) (l:List Idn) (w:World) (S:SlI w A cap l):
  Calls Tryz.prog 160 #[.slice A l.length cap] w fun e w'=>e=.returned (.bool (zaN l))∧Below w.heap.size w w':=by
 have hcap:=S.1
 have hmax:l.length≤9223372036854775807:=by have:=S.2.1;unfold maxLen at this;omega
 obtain⟨r,hr0⟩:∃r,zaN l=r:=⟨_,rfl⟩
 rw[hr0]
 have hr:=aside hr0
 clear hr0
 go_enter Tryz.func160,Tryz.ntmps160
 go_wp2_with fail
 go_loopw [3] (fun i wr=>∃k:Nat,1≤k∧(k≤l.length∨k=1)∧i=.int .i64 k∧Hid (∀j,j+1<k→less (l.getD j nought) (l.getD (j+1) nought)=true)∧Below w.heap.size w wr) (fun i _=>l.length+1 - (intOf i).toNat)
 case atStart=>exact⟨1,Nat.le_refl _,.inr rfl,rfl,aside (fun j hj=>absurd hj (by omega)),Below.refl _ _⟩
 case round=>
  obtain⟨k,hk1,hk,rfl,he,kb⟩:=hrel
  by_cases hlt:k<l.length
  ·obtain⟨b,off,rfl,hbw,hrg⟩:=S.plain (by omega)
   have ra:=zab (hrg (k - 1) (by omega)) kb
   have rb:=zab (hrg k hlt) kb
   obtain⟨x,hx⟩:∃x,l.getD (k - 1) nought=x:=⟨_,rfl⟩
   obtain⟨y,hy⟩:∃y,l.getD k nought=y:=⟨_,rfl⟩
   rw[hx]at ra
   rw[hy]at rb
   have HX:=aside hx
   have HY:=aside hy
   have p0:(k:Int)<l.length:=by omega
   have m0:((k:Int)).toNat=k:=by omega
   have p1:(k:Int) - 1<l.length:=by omega
   have o1:0≤(k:Int) - 1:=by omega
   have m1:((k:Int) - 1).toNat=k - 1:=by omega
   clear hrg S hx hy
   cases hl:less x y with
   |true=>
    go_wp2
    refine Grow.region [(0,true),(1,true),(2,true),(3,true),(4,true),(5,true),(6,true),(7,true),(8,true),(9,false),(10,true)] (by kernel_rfl) (by kernel_rfl) rfl (by kernel_rfl) (by intro c a d v w h;cases d <;> exact h) ?_
    have ra':wr.drew.rangeAt b (off+(k - 1) * 32) (bv x.1):=ra
    have rb':wr.drew.rangeAt b (off+k * 32) (bv y.1):=rb
    have kd:=zaf kb
    generalize wr.drew=W at ra' rb' kd ⊢
    repeat (first|(refine zbS rfl rfl _ rfl _ _ rfl x ra' ?_;simp only[Act.put,List.setIfInBounds_toArray,List.set_cons_succ,List.set_cons_zero])|(refine zbS rfl rfl _ rfl _ _ rfl y rb' ?_;simp only[Act.put,List.setIfInBounds_toArray,List.set_cons_succ,List.set_cons_zero])|(refine Grow.reads rfl rfl ?_;go_big_quiet_step (fail);refine wpQuiet_nil ?_))
    refine Grow.acts rfl ?_
    go_wp2_with fail
    refine(zfu x y W).mono ?_
    rintro e w1 ⟨rfl,g1⟩
    rw[hl]
    go_wp2_with fail
    refine⟨g1.below,?_⟩
    refine Grow.reads rfl rfl ?_
    go_big_quiet_step (fail)
    refine wpQuiet_nil ?_
    refine Grow.ends ?_
    go_wp2
    go_roundw
    case rel=>
     refine⟨k+1,by omega,.inl (by omega),by go_num,aside (fun j hj=>?_),kd.trans (g1.below.mono kd.size)⟩
     by_cases hjk:j+1=k
     ·subst hjk
      rw[Nat.add_sub_cancel]at HX
      rw[HX.out,HY.out]
      exact hl
     ·exact he.out j (by omega)
    case measure=>simp[intOf];omega
   |false=>
    have hrf:r=false:=by
     rw[←hr.out]
     unfold zaN
     rw[List.all_eq_false]
     refine⟨k - 1,by simp;omega,?_⟩
     rw[Nat.sub_add_cancel hk1,HX.out,HY.out,hl]
     simp
    go_wp2
    refine Grow.region [(0,true),(1,true),(2,true),(3,true),(4,true),(5,true),(6,true),(7,true),(8,true),(9,false),(10,true)] (by kernel_rfl) (by kernel_rfl) rfl (by kernel_rfl) (by intro c a d v w h;cases d <;> exact h) ?_
    have ra':wr.drew.rangeAt b (off+(k - 1) * 32) (bv x.1):=ra
    have rb':wr.drew.rangeAt b (off+k * 32) (bv y.1):=rb
    have kd:=zaf kb
    generalize wr.drew=W at ra' rb' kd ⊢
    repeat (first|(refine zbS rfl rfl _ rfl _ _ rfl x ra' ?_;simp only[Act.put,List.setIfInBounds_toArray,List.set_cons_succ,List.set_cons_zero])|(refine zbS rfl rfl _ rfl _ _ rfl y rb' ?_;simp only[Act.put,List.setIfInBounds_toArray,List.set_cons_succ,List.set_cons_zero])|(refine Grow.reads rfl rfl ?_;go_big_quiet_step (fail);refine wpQuiet_nil ?_))
    refine Grow.acts rfl ?_
    go_wp2_with fail
    refine(zfu x y W).mono ?_
    rintro e w1 ⟨rfl,g1⟩
    rw[hl]
    go_wp2_with fail
    refine⟨g1.below,?_⟩
    refine Grow.reads rfl rfl ?_
    go_big_quiet_step (fail)
    refine wpQuiet_nil ?_
    refine Grow.ends ?_
    go_wp2
    go_ret
    exact⟨by rw[hrf];rfl,kd.trans (g1.below.mono kd.size)⟩
  ·have hrt:r=true:=by
    rw[←hr.out]
    unfold zaN
    rw[List.all_eq_true]
    intro i hi
    exact he.out i (by simp at hi;omega)
   go_wp2
   go_ret
   exact⟨by rw[hrt];rfl,kb⟩
end Go.Proofs.YtgmdhaepiclkcaaGreatDoor.IdV
namespace Go.Proofs.YtgmdhaepiclkcaaGreatDoor.CmR
set_option maxHeartbeats 8000000
set_option maxRecDepth 100000
open Go Go.RowKit Byt IdM IdW OpsM OpsW CmM StW CmW
structure zkr (c:Com):Prop where
 fit:Fit c
 key:c.op.key.size≤1099511627776
 elem:c.op.elem.size≤1099511627776
theorem line_no {c:Com} {n:Nat} {r x y:Bool} (h:zeE c=false) (hn:c.ps.length=n) (hr:zaN c.ps=r) (hx:(c.gen == 1)=x) (hy:((n:Int) == 0)=y):
  c.gen<1∨(1≤c.gen∧(1048576<c.gen∨(c.gen≤1048576∧(8<(n:Int)∨((n:Int)≤8∧(r=false∨(r=true∧(x=true∧y=false∨x=false∧y=true)))))))):=by
 subst hn hr hx hy
 have h':¬(1≤c.gen∧c.gen≤1048576∧c.ps.length≤8∧zaN c.ps=true∧(c.gen=1↔c.ps.length=0)):=by
  rw[←za6,h];simp
 cases hr:zaN c.ps with
 |false=>rw[hr]at h';simp;omega
 |true=>
  rw[hr]at h'
  by_cases h1:c.gen=1 <;> by_cases h2:c.ps.length=0
  all_goals
   have e2:((c.ps.length:Int) == 0)=decide (c.ps.length=0):=by
    rw[Bool.eq_iff_iff];simp
   rw[e2]
   simp[h1,h2]at h' ⊢
   try omega
theorem zlV {c:Com} {n:Nat} {x y:Bool} (h:zeE c=true) (hn:c.ps.length=n) (hx:(c.gen == 1)=x) (hy:((n:Int) == 0)=y):
  1≤c.gen∧c.gen≤1048576∧(n:Int)≤8∧zaN c.ps=true∧(x=true∧y=true∨x=false∧y=false):=by
 subst hn hx hy
 obtain⟨h1,h2,h3,h4,h5⟩:=za6.1 h
 refine⟨h1,h2,by omega,h4,?_⟩
 have e2:((c.ps.length:Int) == 0)=decide (c.ps.length=0):=by
  rw[Bool.eq_iff_iff];simp
 rw[e2]
 by_cases g1:c.gen=1 <;> by_cases g2:c.ps.length=0 <;> simp[g1,g2]at h5 ⊢
theorem may_none (v:Cv) (w:World) (S:In w v) (h:zeE v.c=false):
  Calls Tryz.prog 129 #[.agg (cc v)] w fun e w'=>e=.returned (.bool (zbn v.c))∧Below w.heap.size w w':=by
 have R:Cel.Box CE (w.alloc (.cells (cc v) 47)) w.heap.size v:=Cel.Box.new w v _
 have kb:=StW.zah w (.cells (cc v) 47)
 have S0:=S.below kb
 have HR:Hid (zbn v.c=false):=aside (by unfold zbn;rw[h];rfl)
 have q0:=fun W T=>IdV.zf8 v.a v.k v.c.ps W T
 obtain⟨r,hr⟩:∃r,zaN v.c.ps=r:=⟨_,rfl⟩
 obtain⟨n,hn⟩:∃n,v.c.ps.length=n:=⟨_,rfl⟩
 obtain⟨x,hx⟩:∃x,(v.c.gen == 1)=x:=⟨_,rfl⟩
 obtain⟨y,hy⟩:∃y,((n:Int) == 0)=y:=⟨_,rfl⟩
 have hw:=line_no h hn hr hx hy
 have HN:=aside hn
 have c3:=zaP R
 rw[hn]at c3 q0
 rw[hr]at q0
 clear hr h
 clear S hn
 go_enter Tryz.func129,Tryz.ntmps129
 go_wp2_with fail
 refine(q0 _ S0).mono ?_
 rintro e w1 ⟨rfl,k1⟩
 have R1:=R.below k1
 have b1:=kb.trans (k1.mono kb.size)
 clear q0 c3 R S0 k1 kb
 have d0:=zaX R1
 have d1:=zbw R1
 have d2:=za1 R1
 have d3:=zaP R1
 rw[HN.out]at d3
 obtain⟨g,hg⟩:∃g,v.c.gen=g:=⟨_,rfl⟩
 rw[hg]at d2 hx hw
 clear hg
 rcases hw with p|⟨p1,p|⟨p2,p|⟨p3,rfl|⟨rfl,⟨rfl,rfl⟩|⟨rfl,rfl⟩⟩⟩⟩⟩
 all_goals
  clear HN
  go_wp2_with (first|go_skip)
  go_ret
  exact⟨StW.zae HR.out.symm,b1⟩
theorem zn4 (v:Cv) (w:World) (S:In w v) (h:zeE v.c=true) (hm:v.c.node= -1):
  Calls Tryz.prog 129 #[.agg (cc v)] w fun e w'=>e=.returned (.bool (zbn v.c))∧Below w.heap.size w w':=by
 have R:Cel.Box CE (w.alloc (.cells (cc v) 47)) w.heap.size v:=Cel.Box.new w v _
 have kb:=StW.zah w (.cells (cc v) 47)
 have S0:=S.below kb
 have HR:Hid (zbn v.c=(decide (v.c.seq=0)&&(zd0 v.c.op&&decide (2≤v.c.ps.length)))):=aside (by
  unfold zbn zcH StM.zbs
  rw[h,hm]
  simp)
 have heq:∀W:World,(Op.equalIn 10000 45 (.agg (opc v.c.op)) (.agg #[.int .i64 0,.string ⟨#[]⟩,.string ⟨#[]⟩,.int .i64 0])).run Tryz.prog W=.ok (zd0 v.c.op) W:=fun W=>zgD W v.c.op
 obtain⟨z,hz⟩:∃z,zd0 v.c.op=z:=⟨_,rfl⟩
 rw[hz]at heq HR
 have q0:=fun W T=>IdV.zf8 v.a v.k v.c.ps W T
 obtain⟨r,hr⟩:∃r,zaN v.c.ps=r:=⟨_,rfl⟩
 obtain⟨n,hn⟩:∃n,v.c.ps.length=n:=⟨_,rfl⟩
 obtain⟨x,hx⟩:∃x,(v.c.gen == 1)=x:=⟨_,rfl⟩
 obtain⟨y,hy⟩:∃y,((n:Int) == 0)=y:=⟨_,rfl⟩
 obtain⟨g1,g2,g3,g4,g5⟩:=zlV h hn hx hy
 rw[hn]at HR
 have HN:=aside hn
 have c3:=zaP R
 rw[hn]at c3 q0
 rw[hr]at q0
 rw[g4]at hr
 subst hr
 clear h g4
 clear S hn
 go_enter Tryz.func129,Tryz.ntmps129
 go_wp2_with fail
 refine(q0 _ S0).mono ?_
 rintro e w1 ⟨rfl,k1⟩
 have R1:=R.below k1
 have b1:=kb.trans (k1.mono kb.size)
 clear q0 c3 R S0 k1 kb
 have d0:=zaX R1
 have d1:=zbw R1
 have d2:=za1 R1
 have d3:=zaP R1
 rw[HN.out]at d3
 rw[hm]at d0
 obtain⟨g,hg⟩:∃g,v.c.gen=g:=⟨_,rfl⟩
 rw[hg]at d2 hx g1 g2
 obtain⟨s,hs⟩:∃s,v.c.seq=s:=⟨_,rfl⟩
 rw[hs]at d1 HR
 obtain⟨b,hb⟩:∃b,(s == 0)=b:=⟨_,rfl⟩
 have HR2:Hid (zbn v.c=(b&&(z&&decide (2≤(n:Int))))):=aside (by
  rw[HR.out,←hb,show(s == 0)=decide (s=0) by rw[Bool.eq_iff_iff];simp,show decide (2≤(n:Int))=decide (2≤n) by rw[Bool.eq_iff_iff];simp;omega])
 clear hg hm hs hz HR HN
 have hbz:b=false∨b=true∧z=false∨b=true∧z=true:=by cases b <;> cases z <;> simp
 rcases g5 with⟨rfl,rfl⟩|⟨rfl,rfl⟩
 all_goals
  rcases hbz with rfl|⟨rfl,rfl⟩|⟨rfl,rfl⟩
  all_goals
   go_wp2_with (first|go_skip|(refine gkop _ rfl _ rfl v R1 rfl ?_))
   go_ret
   exact⟨StW.zae (by rw[HR2.out];rfl),b1⟩
theorem may_op (v:Cv) (w:World) (S:In w v) (ho:zkr v.c) (h:zeE v.c=true) (hm:v.c.node≠ -1):
  Calls Tryz.prog 129 #[.agg (cc v)] w fun e w'=>e=.returned (.bool (zbn v.c))∧Below w.heap.size w w':=by
 have R:Cel.Box CE (w.alloc (.cells (cc v) 47)) w.heap.size v:=Cel.Box.new w v _
 have kb:=StW.zah w (.cells (cc v) 47)
 have S0:=S.below kb
 have HR:Hid (zbn v.c=(StM.zbs v.c.node v.c.seq&&zda v.c.op)):=aside (by
  unfold zbn zcH
  rw[h]
  simp[hm])
 have q1:=fun W=>StR.zce ⟨v.c.node,v.c.seq⟩ W
 have q2:=fun W=>OpsR.may v.c.op W ho.fit.op ho.key ho.elem
 obtain⟨z1,hz1⟩:∃z,StM.zbs v.c.node v.c.seq=z:=⟨_,rfl⟩
 obtain⟨z2,hz2⟩:∃z,zda v.c.op=z:=⟨_,rfl⟩
 rw[hz1,hz2]at HR
 simp only[hz1]at q1
 rw[hz2]at q2
 clear hz1 hz2 ho
 have q0:=fun W T=>IdV.zf8 v.a v.k v.c.ps W T
 obtain⟨r,hr⟩:∃r,zaN v.c.ps=r:=⟨_,rfl⟩
 obtain⟨n,hn⟩:∃n,v.c.ps.length=n:=⟨_,rfl⟩
 obtain⟨x,hx⟩:∃x,(v.c.gen == 1)=x:=⟨_,rfl⟩
 obtain⟨y,hy⟩:∃y,((n:Int) == 0)=y:=⟨_,rfl⟩
 obtain⟨g1,g2,g3,g4,g5⟩:=zlV h hn hx hy
 have HN:=aside hn
 have c3:=zaP R
 rw[hn]at c3 q0
 rw[hr]at q0
 rw[g4]at hr
 subst hr
 clear h g4
 clear S hn
 go_enter Tryz.func129,Tryz.ntmps129
 go_wp2_with fail
 refine(q0 _ S0).mono ?_
 rintro e w1 ⟨rfl,k1⟩
 have R1:=R.below k1
 have b1:=kb.trans (k1.mono kb.size)
 clear q0 c3 R S0 k1 kb
 have d0:=zaX R1
 have d1:=zbw R1
 have d2:=za1 R1
 have d3:=zaP R1
 rw[HN.out]at d3
 obtain⟨g,hg⟩:∃g,v.c.gen=g:=⟨_,rfl⟩
 rw[hg]at d2 hx g1 g2
 have hne:(v.c.node == -1)=false:=by simpa using hm
 clear hg hm HN
 rcases g5 with⟨rfl,rfl⟩|⟨rfl,rfl⟩
 all_goals
  go_wp2_with (first|go_skip|(refine zeo rfl _ rfl _ rfl v R1 ?_))
  refine(q1 _).mono ?_
  rintro e w2 ⟨rfl,k2⟩
  have R2:=R1.below k2
  have b2:=b1.trans (k2.mono b1.size)
  go_wp2_with (first|go_skip|(refine zb6 rfl _ rfl _ rfl v R2 ?_))
  refine(q2 _).mono ?_
  rintro e w3 ⟨rfl,k3⟩
  have b3:=b2.trans (k3.mono b2.size)
  clear d0 d1 d2 d3 R1 b1 k2 R2 b2 k3
  cases z1
  all_goals
   go_wp2_with (first|go_skip)
   go_ret
   exact⟨StW.zae (by rw[HR.out];rfl),b3⟩
theorem zaz (v:Cv) (w:World) (S:In w v) (ho:zkr v.c):
  Calls Tryz.prog 129 #[.agg (cc v)] w fun e w'=>e=.returned (.bool (zbn v.c))∧Below w.heap.size w w':=by
 cases h:zeE v.c with
 |false=>exact may_none v w S h
 |true=>
  by_cases hm:v.c.node= -1
  ·exact zn4 v w S h hm
  ·exact may_op v w S ho h hm
theorem zaW (v:Cv) (w:World) (S:In w v) (ho:zkr v.c):
  Calls Tryz.prog 74 #[.agg (cc v)] w fun e w'=>e=.returned (.bool (isM v.c))∧Below w.heap.size w w':=by
 have R:Cel.Box CE (w.alloc (.cells (cc v) 47)) w.heap.size v:=Cel.Box.new w v _
 have kb:=StW.zah w (.cells (cc v) 47)
 have S0:=S.below kb
 have q0:=fun W T=>zaz v W T ho
 have HR:Hid (isM v.c=(zbn v.c&&decide (v.c.node= -1))):=aside rfl
 obtain⟨z,hz⟩:∃z,zbn v.c=z:=⟨_,rfl⟩
 rw[hz]at HR
 simp only[hz]at q0
 clear S ho hz
 go_enter Tryz.func74,Tryz.ntmps74
 go_wp2_with (first|go_skip|(refine Cel.zaa CE rfl _ rfl _ rfl v R ?_))
 refine(q0 _ S0).mono ?_
 rintro e w1 ⟨rfl,k1⟩
 have R1:=R.below k1
 have b1:=kb.trans (k1.mono kb.size)
 clear q0 R S0 k1 kb
 have d0:=zaX R1
 obtain⟨b,hb⟩:∃b,(v.c.node == -1)=b:=⟨_,rfl⟩
 have HR2:Hid (isM v.c=(z&&b)):=aside (by rw[HR.out,←hb];congr 1)
 clear HR
 cases z
 all_goals
  go_wp2_with (first|go_skip)
  go_ret
  exact⟨StW.zae (by rw[HR2.out];rfl),b1⟩
end Go.Proofs.YtgmdhaepiclkcaaGreatDoor.CmR
