/- What the document's Merge of package reg returns | What the laws on registers ask of lists | Parts of slices of structs, whatever their fields | What the document's put of package pair returns | What the document's Add and Del of package pair return | Lists of texts in memory | What the document's Elems and Merge of package pair return | What the laws on pairs ask of lists | What the walks of the laws on states lean on | As Grow, where the last operation may write what was there -/
import Derived.Test.YtgmdhaepiclkcaaGreatDoorRegQ
import Derived.Test.YtgmdhaepiclkcaaGreatDoorPairGJ12
import Derived.Test.YtgmdhaepiclkcaaGreatDoorOpsCJ2
import Derived.Test.YtgmdhaepiclkcaaGreatDoorShaDJ13
import Derived.Laws.Tables
import Derived.Test.YtgmdhaepiclkcaaGreatDoorForksJ5
namespace Go.Proofs.YtgmdhaepiclkcaaGreatDoor.RegU
set_option maxRecDepth 100000
open Go Go.RowKit Byt OpsM OpsK Rise RegM RegL RowS RowB RegW RegR RegG RegQ
theorem zkX {c:Rg}:∀(d:Bool) (l:List Rg) {x:Rg},x ∈ ins c d l→x=c∨x ∈ l
 |d,[],x,h=>by
  rw[zoo]at h
  split at h
  ·simp at h
  ·simp at h;exact .inl h
 |d,y::l,x,h=>by
  rw[zl0]at h
  rcases List.mem_append.1 h with h|h
  ·split at h
   ·simp at h;exact .inl h
   ·simp at h
  ·split at h
   ·rcases List.mem_cons.1 h with h|h
    ·exact .inr (by simp[h])
    ·exact(zkX _ l h).imp id (fun h=>by simp[h])
   ·rcases List.mem_cons.1 h with h|h
    ·rcases zjz c y with e|e
     ·exact .inl (h.trans e)
     ·exact .inr (by simp[h.trans e])
    ·exact(zkX _ l h).imp id (fun h=>by simp[h])
theorem put_sub {l:List Rg} {c x:Rg} (h:x ∈ zen l c):x=c∨x ∈ l:=by
 unfold zen at h
 split at h
 ·exact zkX _ _ h
 ·simp at h
theorem zlC {l:List Rg} {c:Rg} (hl:Fits l) (hc:Fit c):Fits (zen l c):=fun x hx=>(put_sub hx).elim (fun e=>by rw[e];exact hc) (fun h=>hl x h)
theorem zeI:∀(m l:List Rg),Fits l→Fits m→Fits (m.foldl zen l)
 |[],_,hl,_=>hl
 |c::m,l,hl,hm=>zeI m (zen l c) (zlC hl (hm c (by simp))) (fun x hx=>hm x (by simp[hx]))
end Go.Proofs.YtgmdhaepiclkcaaGreatDoor.RegU
namespace Go.Proofs.YtgmdhaepiclkcaaGreatDoor.RegX
set_option maxRecDepth 100000
open Go Go.RowKit Byt OpsM Rise RegM RegL RowS RowB RegW RegG RegS RegQ RegU
theorem zha {c:Rg} (h:Fit c):Fits [c]:=fun x hx=>by
 simp at hx
 rw[hx]
 exact h
theorem zhL {c:Rg}:zbd [c]=zeg c:=by
 unfold zbd
 simp[zaN]
theorem zdI {a b:List Rg} (ha:Fits a) (hb:Fits b):Fits (zaQ a b):=by
 unfold zaQ
 split
 ·exact zeI b a ha hb
 ·intro x hx;simp at hx
end Go.Proofs.YtgmdhaepiclkcaaGreatDoor.RegX
namespace Go.Proofs.YtgmdhaepiclkcaaGreatDoor.RowP
set_option maxRecDepth 100000
open Go Go.RowKit Byt RowS
variable {α:Type} (E:Enc α)
theorem size_e (w:World):(sizeOf (Tryz.prog.elem E.S)).run Tryz.prog w=.ok E.k w:=by
 obtain⟨i,hi,z0,z1,_⟩:=info_parts E.info
 rw[E.elem]
 simp[sizeOf,typeInfo,hi,z1]
theorem ziN: Tryz.prog.underlying E.S=some (.slice (Tryz.prog.elem E.S)):=by rw[E.elem,E.slice]
theorem zcV (w:World) (A:Option Addr) (len cap:Nat) (k:IntKind) (j:Nat) (hj:j≤cap):
  (Instr.sliceAt E.S (.slice A len cap) none (some (.int k j)) none).run Tryz.prog w=.ok (sliced A 0 j cap E.k) w:=by
 rw[run_sliceAt_slice w _ _ _ _ _ (ziN E),run_slice_h w _ A len cap (ziN E) k j (by omega) (by omega),size_e]
 simp[Result.andThen]
theorem zdB (w:World) (A:Option Addr) (len cap:Nat) (k:IntKind) (i:Nat) (hi:i≤len):
  (Instr.sliceAt E.S (.slice A len cap) (some (.int k i)) none none).run Tryz.prog w=.ok (sliced A i len cap E.k) w:=by
 rw[run_sliceAt_slice w _ _ _ _ _ (ziN E),run_slice_l w _ A len cap (ziN E) k i (by omega) (by omega),size_e]
 simp[Result.andThen]
variable {E}
theorem ahead {w:World} {A:Option Addr} {cap:Nat} {l:List α} (S:SlR E w A cap l) (j:Nat) (hj:j≤l.length):
  ∃A' cap',(∀(W:World) (k:IntKind),(Instr.sliceAt E.S (.slice A l.length cap) none (some (.int k j)) none).run Tryz.prog W=.ok (.slice A' j cap') W)∧SlR E w A' cap' (l.take j):=by
 obtain⟨A',cap',h1,h2,_⟩:=SlR.part S 0 j (Nat.zero_le _) hj
 refine⟨A',cap',fun W k=>?_,by simpa using h2⟩
 rw[zcV E W A l.length cap k j (by have:=S.1;omega),h1,Nat.sub_zero]
theorem behind {w:World} {A:Option Addr} {cap:Nat} {l:List α} (S:SlR E w A cap l) (i:Nat) (hi:i≤l.length):
  ∃A' cap',(∀(W:World) (k:IntKind),(Instr.sliceAt E.S (.slice A l.length cap) (some (.int k i)) none none).run Tryz.prog W=.ok (.slice A' (l.length - i) cap') W)∧SlR E w A' cap' (l.drop i):=by
 obtain⟨A',cap',h1,h2,_⟩:=SlR.part S i l.length hi (Nat.le_refl _)
 refine⟨A',cap',fun W k=>?_,?_⟩
 ·rw[zdB E W A l.length cap k i hi,h1]
 ·rwa[List.take_of_length_le (by simp)]at h2
end Go.Proofs.YtgmdhaepiclkcaaGreatDoor.RowP
namespace Go.Proofs.YtgmdhaepiclkcaaGreatDoor.PairP
set_option maxHeartbeats 16000000
set_option maxRecDepth 100000
open Go Go.RowKit Byt OpsM OpsK Rise PairM PairN RowS RowB PairW PairR PairS PairG
theorem zcE (A:Option Addr) (cap:Nat) (l:List Pr) (p:Pr) (w:World) (S:SlR E w A cap l) (hr:zjC l) (hl:l.length≤1000000):
  Calls Tryz.prog 86 #[.slice A l.length cap,.agg (pc p)] w (zie E (zgW l p) w):=by
 have Z:Below w.heap.size w (w.alloc (.cells (pc p) 58)):=zah _ _
 have N:Box E (w.alloc (.cells (pc p) 58)) w.heap.size p:=Box.new w p _
 have S0:=S.below Z
 have ch:=fun W S=>zeH A cap l p W S
 have hcap:=S.1
 by_cases hp:p ∈ l
 ·rw[decide_eq_true hp]at ch
  have HP:Hid (zgW l p=l):=aside (if_pos hp)
  clear hp hr S
  go_enter Tryz.func86,Tryz.ntmps86
  go_wp2_with (first|(refine zaa E rfl _ rfl _ rfl p N ?_))
  refine(ch _ S0).mono ?_
  rintro e w1 ⟨rfl,h1⟩
  have S1:=S0.below h1
  have k1:=Z.trans (h1.mono Z.size)
  clear S0 N h1 ch Z
  go_wp2_with fail
  go_ret
  rw[HP.out]
  exact⟨A,cap,rfl,S1,k1⟩
 ·rw[decide_eq_false hp]at ch
  have HAt:=aside (fun(k:Nat) hk h1 h2=>put_at (k:=k) hr hp hk h1 h2)
  clear hp hr S
  go_enter Tryz.func86,Tryz.ntmps86
  go_wp2_with (first|(refine zaa E rfl _ rfl _ rfl p N ?_))
  refine(ch _ S0).mono ?_
  rintro e w1 ⟨rfl,h1⟩
  have S1:=S0.below h1
  have N1:=N.below h1
  have k1:=Z.trans (h1.mono Z.size)
  clear S0 N h1 ch Z
  go_wp2
  go_loopw [6] (fun i wr=>∃k:Nat,k≤l.length∧i=.int .i64 k∧Hid (∀(i:Nat) (x:Pr),k≤i→l[i]?=some x→zba p x=true)∧Below w1.heap.size w1 wr) (fun i _=>(intOf i).toNat)
  case atStart=>exact⟨l.length,Nat.le_refl _,rfl,aside (fun i x h hx=>by rw[List.getElem?_eq_none (by omega)]at hx;cases hx),Below.refl _ _⟩
  case round=>
   obtain⟨k,hk,rfl,HG,kb⟩:=hrel
   by_cases hk0:0<k
   ·obtain⟨m,hm⟩:∃m,m+1=k:=⟨k - 1,by omega⟩
    obtain⟨y,hy⟩:∃y,l[m]?=some y:=⟨_,List.getElem?_eq_getElem (by omega)⟩
    obtain⟨b,off,hA,hbw,hr1⟩:=PairW.plain S1 (by omega)
    subst hA
    have HY:=aside (hr1 m y hy)
    have q0:0<(k:Int):=by omega
    have q1:(m:Int)<l.length:=by omega
    have q3:((m:Int)).toNat=m:=by omega
    have hwr:IntKind.i64.wrap ((k:Int) - 1)=(m:Int):=by rw[IntKind.wrap_i64];omega
    have cn:=fun W=>zbv p y W
    have HYY:=aside hy
    have HM:=aside hm
    clear hm hr1 hy
    cases hz:zba p y with
    |true=>
     have HG2:Hid (∀(i:Nat) (x:Pr),m≤i→l[i]?=some x→zba p x=true):=aside (fun i x h hx=>by
      by_cases e:i=m
      ·rw[e,HYY.out]at hx
       injection hx with hx
       rw[←hx]
       exact hz
      ·exact HG.out i x (by have:=HM.out;omega) hx)
     rw[hz]at cn
     have HZ:=aside hz
     clear hz HG S1
     go_wp2_with fail
     refine Grow.region [(0,true),(1,true),(2,true),(3,true),(4,true),(5,true),(6,false),(7,true)] (by kernel_rfl) (by kernel_rfl) rfl (by kernel_rfl) (by intro c a d v w h;cases d <;> exact h) ?_
     have kd:=zaf kb
     have rx:=(N1.below kd).range
     have ry:=zab HY.out kd
     have hsx:w1.heap.size≤wr.drew.heap.size:=kb.size
     generalize wr.drew=wd at kd rx ry hsx ⊢
     repeat (first|(refine RowG.zaJ E rfl rfl _ rfl _ _ rfl y ry ?_;simp only[Act.put,List.setIfInBounds_toArray,List.set_cons_succ,List.set_cons_zero])|(refine RowG.zaJ E rfl rfl _ rfl _ _ rfl p rx ?_;simp only[Act.put,List.setIfInBounds_toArray,List.set_cons_succ,List.set_cons_zero])|(refine Grow.reads rfl rfl ?_;go_big_quiet_step (fail);refine wpQuiet_nil ?_))
     refine Grow.acts rfl ?_
     go_wp2_with fail
     refine(cn _).mono ?_
     rintro e we ⟨rfl,he⟩
     have ke:=kd.trans (he.mono kd.size)
     clear rx ry kd
     go_wp2_with fail
     refine⟨he,?_⟩
     clear he
     repeat (first|(refine Grow.reads rfl rfl ?_;go_big_quiet_step (fail);refine wpQuiet_nil ?_))
     refine Grow.ends ?_
     go_wp2_with fail
     go_roundw
     case rel=>exact⟨m,by omega,by go_num,HG2,ke⟩
     case measure=>simp[intOf];have:=HM.out;omega
    |false=>
     have HP:Hid (zgW l p=l.take k++p::l.drop k):=aside (HAt.out k hk HG.out (fun x _ hx=>by
      have e:k - 1=m:=by have:=HM.out;omega
      rw[e,HYY.out]at hx
      injection hx with hx
      rw[←hx]
      exact hz))
     rw[hz]at cn
     clear hz HG
     go_wp2_with fail
     refine Grow.region [(0,true),(1,true),(2,true),(3,true),(4,true),(5,true),(6,false),(7,true)] (by kernel_rfl) (by kernel_rfl) rfl (by kernel_rfl) (by intro c a d v w h;cases d <;> exact h) ?_
     have kd:=zaf kb
     have rx:=(N1.below kd).range
     have ry:=zab HY.out kd
     have hsx:w1.heap.size≤wr.drew.heap.size:=kb.size
     generalize wr.drew=wd at kd rx ry hsx ⊢
     repeat (first|(refine RowG.zaJ E rfl rfl _ rfl _ _ rfl y ry ?_;simp only[Act.put,List.setIfInBounds_toArray,List.set_cons_succ,List.set_cons_zero])|(refine RowG.zaJ E rfl rfl _ rfl _ _ rfl p rx ?_;simp only[Act.put,List.setIfInBounds_toArray,List.set_cons_succ,List.set_cons_zero])|(refine Grow.reads rfl rfl ?_;go_big_quiet_step (fail);refine wpQuiet_nil ?_))
     refine Grow.acts rfl ?_
     go_wp2_with fail
     refine(cn _).mono ?_
     rintro e we ⟨rfl,he⟩
     have ke:=kd.trans (he.mono kd.size)
     clear rx ry kd
     go_wp2_with fail
     refine⟨he,?_⟩
     clear he
     repeat (first|(refine Grow.reads rfl rfl ?_;go_big_quiet_step (fail);refine wpQuiet_nil ?_))
     refine Grow.ends ?_
     have NE:=N1.below ke
     have SE:=S1.below ke
     have kz:=k1.trans (ke.mono k1.size)
     clear N1 S1 ke kb hwr q1 q3
     obtain⟨A1,c1,hp1,S1⟩:=RowP.ahead SE k hk
     obtain⟨A2,c2,hp2,S2⟩:=RowP.behind SE k hk
     have hq1:∀W,(Instr.sliceAt 28 (.slice (some ⟨b,off,none⟩) l.length cap) none (some (.int .i64 k)) none).run Tryz.prog W=.ok (.slice A1 k c1) W:=fun W=>hp1 W .i64
     have hq2:∀W,(Instr.sliceAt 28 (.slice (some ⟨b,off,none⟩) l.length cap) (some (.int .i64 k)) none none).run Tryz.prog W=.ok (.slice A2 (l.length - k) c2) W:=fun W=>hp2 W .i64
     have hl1:(l.take k).length=k:=by rw[List.length_take];omega
     have hl2:(l.drop k).length=l.length - k:=by rw[List.length_drop]
     have HL1:=aside hl1
     have HL2:=aside hl2
     clear hp1 hp2 hl1 hl2
     go_wp2_with (first
      |(refine zaH E rfl (.const (.slice none 0 0)) (.tmp 31) rfl we.heap.size (.slice none 0 0) 0 [] rfl (World.ownsRow_nil _ _ _ _) A1 k c1 (l.take k) rfl HL1.out S1 (by omega) (Nat.le_refl _) ?_;intro v3 w3 zbL g3;rw[Nat.zero_add,List.nil_append]at zbL;have k3:Below we.heap.size we w3:=below_grown (Below.refl _ _) (Nat.le_refl _) g3 (fun q hq=>by cases hq);clear g3;have b3:=NE.below k3)
      |(refine zaa E rfl _ rfl _ rfl p b3 ?_)
      |(refine RowC.zat E (of_decide_eq_true rfl) rfl _ rfl p rfl ?_)
      |(refine zaD E rfl (.tmp 33) (.tmp 35) rfl we.heap.size v3 k (l.take k) rfl w3 p _ rfl rfl zbL (by omega) k3.size ?_;intro v4 w4 own4 h4;have k4:=k3.trans h4;clear h4 zbL k3 b3)
      |(refine zaH E rfl (.tmp 37) (.tmp 40) rfl we.heap.size v4 (k+1) (l.take k++[p]) rfl own4 A2 (l.length - k) c2 (l.drop k) rfl HL2.out (S2.below k4) (by omega) k4.size ?_;intro v5 w5 zpp g5;have k5:=below_grown k4 k4.size g5 (fun q hq=>(own4.lt q hq).1);clear g5 own4 k4))
     obtain⟨A5,c5,e5,S5⟩:=SlR.own (zpp:w5.ownsRow we.heap.size E.T E.k v5 (k+1+(l.length - k)) _)
     have hlen:(zgW l p).length=k+1+(l.length - k):=by rw[HP.out,List.length_append,List.length_cons,HL1.out,HL2.out];omega
     have HE:=aside e5
     clear e5
     go_ret
     refine⟨A5,c5,?_,by rw[HP.out];simpa using S5,kz.trans (k5.mono kz.size)⟩
     rw[HP.out,HE.out]
     simp
   ·have HP:Hid (zgW l p=l.take k++p::l.drop k):=aside (HAt.out k hk HG.out (fun x h _=>absurd h hk0))
    have q0:¬(0<(k:Int)):=by omega
    have NE:=N1.below kb
    have SE:=S1.below kb
    have kz:=k1.trans (kb.mono k1.size)
    clear N1 S1 kb hk0 HG
    obtain⟨A1,c1,hp1,S1⟩:=RowP.ahead SE k hk
    obtain⟨A2,c2,hp2,S2⟩:=RowP.behind SE k hk
    have hq1:∀W,(Instr.sliceAt 28 (.slice A l.length cap) none (some (.int .i64 k)) none).run Tryz.prog W=.ok (.slice A1 k c1) W:=fun W=>hp1 W .i64
    have hq2:∀W,(Instr.sliceAt 28 (.slice A l.length cap) (some (.int .i64 k)) none none).run Tryz.prog W=.ok (.slice A2 (l.length - k) c2) W:=fun W=>hp2 W .i64
    have hl1:(l.take k).length=k:=by rw[List.length_take];omega
    have hl2:(l.drop k).length=l.length - k:=by rw[List.length_drop]
    have HL1:=aside hl1
    have HL2:=aside hl2
    clear hp1 hp2 hl1 hl2
    go_wp2_with (first
     |(refine zaH E rfl (.const (.slice none 0 0)) (.tmp 31) rfl wr.heap.size (.slice none 0 0) 0 [] rfl (World.ownsRow_nil _ _ _ _) A1 k c1 (l.take k) rfl HL1.out S1 (by omega) (Nat.le_refl _) ?_;intro v3 w3 zbL g3;rw[Nat.zero_add,List.nil_append]at zbL;have k3:Below wr.heap.size wr w3:=below_grown (Below.refl _ _) (Nat.le_refl _) g3 (fun q hq=>by cases hq);clear g3;have b3:=NE.below k3)
     |(refine zaa E rfl _ rfl _ rfl p b3 ?_)
     |(refine RowC.zat E (of_decide_eq_true rfl) rfl _ rfl p rfl ?_)
     |(refine zaD E rfl (.tmp 33) (.tmp 35) rfl wr.heap.size v3 k (l.take k) rfl w3 p _ rfl rfl zbL (by omega) k3.size ?_;intro v4 w4 own4 h4;have k4:=k3.trans h4;clear h4 zbL k3 b3)
     |(refine zaH E rfl (.tmp 37) (.tmp 40) rfl wr.heap.size v4 (k+1) (l.take k++[p]) rfl own4 A2 (l.length - k) c2 (l.drop k) rfl HL2.out (S2.below k4) (by omega) k4.size ?_;intro v5 w5 zpp g5;have k5:=below_grown k4 k4.size g5 (fun q hq=>(own4.lt q hq).1);clear g5 own4 k4))
    obtain⟨A5,c5,e5,S5⟩:=SlR.own (zpp:w5.ownsRow wr.heap.size E.T E.k v5 (k+1+(l.length - k)) _)
    have hlen:(zgW l p).length=k+1+(l.length - k):=by rw[HP.out,List.length_append,List.length_cons,HL1.out,HL2.out];omega
    have HE:=aside e5
    clear e5
    go_ret
    refine⟨A5,c5,?_,by rw[HP.out];simpa using S5,kz.trans (k5.mono kz.size)⟩
    rw[HP.out,HE.out]
    simp
end Go.Proofs.YtgmdhaepiclkcaaGreatDoor.PairP
namespace Go.Proofs.YtgmdhaepiclkcaaGreatDoor.PairQ
set_option maxHeartbeats 16000000
set_option maxRecDepth 100000
open Go Go.RowKit Byt OpsM OpsK Rise PairM PairN RowS RowB PairW PairR PairS PairG PairP
theorem zha {p:Pr} (h:Fit p):Fits [p]:=fun x hx=>by
 simp at hx
 rw[hx]
 exact h
theorem zlh (A:Option Addr) (cap:Nat) (l:List Pr) (p:Pr) (w:World) (S:SlR E w A cap l) (hf:Fits l) (hp:Fit p) (hl:l.length≤1000000):
  Calls Tryz.prog 41 #[.slice A l.length cap,.agg (pc p)] w (zie E (zgq l p) w):=by
 have Z:Below w.heap.size w (w.alloc (.cells (pc p) 58)):=zah _ _
 have N:Box E (w.alloc (.cells (pc p) 58)) w.heap.size p:=Box.new w p _
 have S0:=S.below Z
 have cm:=fun W S=>zaz A cap l W S hf
 have co:=fun C W S=>zaz C 1 [p] W S (zha hp)
 rw[zhL]at co
 have hcap:=S.1
 clear S hf hp
 obtain⟨x,hx⟩:∃x,zbA l=x:=⟨_,rfl⟩
 obtain⟨y,hy⟩:∃y,zfy p=y:=⟨_,rfl⟩
 rw[hx]at cm
 rw[hy]at co
 have HX:=aside hx
 have HY:=aside hy
 clear hx hy
 go_enter Tryz.func41,Tryz.ntmps41
 go_wp2_with fail
 refine(cm _ S0).mono ?_
 rintro e w1 ⟨rfl,h1⟩
 have S1:=S0.below h1
 have N1:=N.below h1
 have k1:=Z.trans (h1.mono Z.size)
 clear S0 N h1 cm Z
 go_wp2_with (first
  |(refine zaa E rfl _ rfl _ rfl p N1 ?_)
  |(refine RowC.zdR E (of_decide_eq_true rfl) rfl _ rfl p rfl ?_;intro w2 T2 h2;have S2:=S1.below h2;have N2:=N1.below h2;have k2:=k1.trans (h2.mono k1.size);clear S1 N1 h2))
 refine(co _ _ T2).mono ?_
 rintro e w3 ⟨rfl,h3⟩
 have S3:=S2.below h3
 have N3:=N2.below h3
 have k3:=k2.trans (h3.mono k2.size)
 clear S2 N2 T2 h3 co k2 k1
 cases x with
 |false=>
  have HE:Hid (zgq l p=[]):=aside (zmp (.inl HX.out))
  go_wp2_with (first|go_skip)
  go_ret
  rw[HE.out]
  exact⟨none,0,rfl,SlR.nil E _,k3⟩
 |true=>
  cases y with
  |false=>
   have HE:Hid (zgq l p=[]):=aside (zmp (.inr HY.out))
   go_wp2_with (first|go_skip)
   go_ret
   rw[HE.out]
   exact⟨none,0,rfl,SlR.nil E _,k3⟩
  |true=>
   have HE:Hid (zgq l p=zgW l p):=aside (add_is HX.out HY.out)
   have cp:=fun C c W S=>zcE C c l p W S (ris HX.out) hl
   go_wp2_with (first|go_skip)
   refine Grow.region [(0,true),(2,true),(1,false),(3,false),(4,true)] (by kernel_rfl) (by kernel_rfl) rfl (by kernel_rfl) (by intro c a d v w h;cases d <;> exact h) ?_
   have kd:=zaf k3
   have Sd:=S3.below (zaf (Below.refl w3.heap.size w3))
   have Nd:=N3.below (zaf (Below.refl w3.heap.size w3))
   generalize w3.drew=wd at kd Sd Nd ⊢
   clear S3 N3 k3
   have rp:=Nd.range
   repeat (first|(refine RowG.zaJ E rfl rfl _ rfl _ _ rfl p rp ?_;simp only[Act.put,List.setIfInBounds_toArray,List.set_cons_succ,List.set_cons_zero])|(refine Grow.reads rfl rfl ?_;go_big_quiet_step (fail);refine wpQuiet_nil ?_))
   refine Grow.acts rfl ?_
   go_wp2_with (first
    |(refine zaH E rfl (.const (.slice none 0 0)) (.tmp 18) rfl wd.heap.size (.slice none 0 0) 0 [] rfl (World.ownsRow_nil _ _ _ _) A l.length cap l rfl rfl Sd (by omega) (Nat.le_refl _) ?_;intro v4 w4 own4 g4;rw[Nat.zero_add,List.nil_append]at own4;have h4:Below wd.heap.size wd w4:=below_grown (Below.refl _ _) (Nat.le_refl _) g4 (fun q hq=>by cases hq);clear g4))
   refine⟨h4,?_⟩
   obtain⟨A4,c4,rfl,S4⟩:=SlR.own own4
   have k4:=kd.trans (h4.mono kd.size)
   clear own4 h4 Sd Nd rp kd
   repeat (first|(refine Grow.reads rfl rfl ?_;go_big_quiet_step (fail);refine wpQuiet_nil ?_))
   refine Grow.acts rfl ?_
   go_wp2_with fail
   refine(cp _ _ _ S4).mono ?_
   rintro e w5 ⟨A5,c5,rfl,S5,h5⟩
   go_wp2_with fail
   refine⟨h5,?_⟩
   have k5:=k4.trans (h5.mono k4.size)
   clear h5 S4 k4 cp
   repeat (first|(refine Grow.reads rfl rfl ?_;go_big_quiet_step (fail);refine wpQuiet_nil ?_))
   refine Grow.ends ?_
   go_wp2_with fail
   go_ret
   rw[HE.out]
   exact⟨A5,c5,rfl,S5,k5⟩
theorem zk5 {l:List Pr} {q:Pr→Bool} {j:Nat} {x:Pr} (h:l[j]?=some x):(l.take (j+1)).filter q=(l.take j).filter q++(if q x=true then[x]else[]):=by
 obtain⟨hj,rfl⟩:=List.getElem?_eq_some_iff.1 h
 rw[List.take_succ_eq_append_getElem hj,List.filter_append]
 cases hq:q l[j] <;> simp[hq]
end Go.Proofs.YtgmdhaepiclkcaaGreatDoor.PairQ
namespace Go.Proofs.YtgmdhaepiclkcaaGreatDoor.Txt
set_option maxRecDepth 100000
open Go Go.RowKit Byt
def ts (l:List ByteArray):List Value:=l.map Value.string
theorem ts_len (l:List ByteArray):(ts l).length=l.length:=by simp[ts]
def SlT (w:World) (A:Option Addr) (cap:Nat) (l:List ByteArray):Prop:=
 l.length≤cap∧cap≤maxLen∧((A=none∧l=[]∧cap=0)∨∃x,A=some x∧∀i v,(ts l)[i]?=some v→w.cell? (x.add i)=some v)
theorem SlT.nil (w:World):SlT w none 0 []:=⟨Nat.le_refl _,Nat.zero_le _,.inl ⟨rfl,rfl,rfl⟩⟩
theorem SlT.own {w:World} {base n:Nat} {v:Value} {l:List ByteArray} (h:w.ownsRow base 9 1 v n (ts l)):∃A cap,v=.slice A l.length cap∧SlT w A cap l:=by
 have hn:l.length=n:=by
  have:=h.1
  rwa[ts_len,Nat.mul_one]at this
 rcases h.2 with⟨rfl,rfl⟩|⟨g,cap,cur,rfl,hbg,hg,h1,h2,h3,h4⟩
 ·have:l=[]:=List.eq_nil_of_length_eq_zero hn
  subst this
  exact⟨none,0,rfl,SlT.nil w⟩
 ·exact⟨some ⟨g,0,none⟩,cap,by rw[hn],by omega,h2,.inr ⟨_,rfl,fun i u hu=>h.cells rfl i u hu⟩⟩
end Go.Proofs.YtgmdhaepiclkcaaGreatDoor.Txt
namespace Go.Proofs.YtgmdhaepiclkcaaGreatDoor.PairU
set_option maxRecDepth 100000
open Go Go.RowKit Byt OpsM OpsK Rise PairM PairN RowS RowB PairW PairR PairS PairG PairP PairQ Txt
end Go.Proofs.YtgmdhaepiclkcaaGreatDoor.PairU
namespace Go.Proofs.YtgmdhaepiclkcaaGreatDoor.PairX
set_option maxRecDepth 100000
open Go Go.RowKit Byt OpsM Rise PairM PairN RowS RowB PairW PairS PairQ Txt
theorem add_fits {l:List Pr} {p:Pr} (hl:Fits l) (hp:Fit p):Fits (zgq l p):=by
 unfold zgq
 split
 ·intro x hx
  rcases(put_mem x).1 hx with rfl|h
  ·exact hp
  ·exact hl x h
 ·intro x hx;simp at hx
theorem del_fits {l:List Pr} {k e:ByteArray} (hl:Fits l):Fits (zki l k e):=by
 unfold zki
 split
 ·intro x hx
  exact hl x (List.mem_filter.1 hx).1
 ·intro x hx;simp at hx
theorem zdI {base a b:List Pr} (ha:Fits a) (hb:Fits b):Fits (zca base a b):=by
 unfold zca
 split
 ·intro x hx
  rw[zfU,zfU]at hx
  rcases hx with h|h|h
  ·exact hb x (List.mem_filter.1 h).1
  ·exact ha x (List.mem_filter.1 h).1
  ·simp at h
 ·intro x hx;simp at hx
theorem zkg {x y:Pr} (h:x=y) (w:World):(Op.equalIn 10000 58 (.agg (E.enc x).toArray) (.agg (E.enc y).toArray)).run Tryz.prog w=.ok true w:=by
 have:=equal w x y
 rw[zb7.2 h]at this
 exact this
theorem zl9 {x y:Pr} (h:x≠y) (w:World):(Op.equalIn 10000 58 (.agg (E.enc x).toArray) (.agg (E.enc y).toArray)).run Tryz.prog w=.ok false w:=by
 have:=equal w x y
 cases e:zcD x y with
 |false=>
  rw[e]at this
  exact this
 |true=>exact absurd (zb7.1 e) h
end Go.Proofs.YtgmdhaepiclkcaaGreatDoor.PairX
namespace Go.Proofs.YtgmdhaepiclkcaaGreatDoor.StY
set_option maxRecDepth 100000
open Go Go.RowKit Byt OpsM Rise RowS StM StN StW StX
theorem in_of {s:St} (h:Fits s):CtrL.InL s.c:=fun c hc=>(h.c c hc).2
theorem zcb {k:ByteArray} (h:zbQ (zan k)=true):k.size≤8:=by
 have h1:=zbT h
 rw[zaT]at h1
 exact h1.2
theorem zjI {s:St} {o:Opn} {n q g:Int} (hf:Fits s) (hm:okD s o n q g=true) (hn:CtrL.In64 n) (hq:CtrL.In64 q) (hg:CtrL.In64 g):Fits (stepS s o n q g):=by
 obtain⟨_,m2,_,_⟩:=zc6.1 hm
 have hk:=zcb (zdx m2)
 have he:o.kind=1∨o.kind=2∨o.kind=3→o.elem.size≤8:=fun h=>zcb (ze3 m2 h)
 unfold stepS
 split
 ·exact⟨CtrX.inc_fits _ _ (in_of hf),hf.r,hf.p⟩
 ·split
  ·rename_i h
   have:=he (.inl h)
   exact⟨hf.c,RegU.zlC hf.r ⟨by show o.key.size≤_;omega,by show o.elem.size≤_;omega,hg,hn,hq⟩,hf.p⟩
  ·split
   ·rename_i h
    have:=he (.inr (.inl h))
    exact⟨hf.c,hf.r,PairX.add_fits hf.p ⟨by show o.key.size≤_;omega,by show o.elem.size≤_;omega,hn,hq⟩⟩
   ·exact⟨hf.c,hf.r,PairX.del_fits hf.p⟩
theorem zon (base:St) {a b:St} (ha:Fits a) (hb:Fits b):Fits (zcF base a b):=⟨CtrX.zdI _ _ _,RegX.zdI ha.r hb.r,PairX.zdI ha.p hb.p⟩
theorem do_nil {s:St} {o:Opn} {n q g:Int} (h:okD s o n q g=false):doS s o n q g=none:=if_neg (by rw[h];simp)
end Go.Proofs.YtgmdhaepiclkcaaGreatDoor.StY
namespace Go.Proofs.YtgmdhaepiclkcaaGreatDoor.GrowL
set_option maxRecDepth 100000
open Go Go.Sort Go.RowKit
section
variable {P:Program} {ops:Array Oper} {Q:Exit→Act→World→Prop} {md:Region.Mode}
def ahead (md:Region.Mode) (ops:Array Oper) (i:Nat):Nat→Nat→Bool
 |0,_=>false
 |fuel+1,j=>match ops[j]? with
  |none=>false
  |some o=>o.after.toList.any fun e=>Region.binds md e&&(e.on == i||ahead md ops i fuel e.on)
def Shut (md:Region.Mode) (ops:Array Oper) (listed:Array Bool):Prop:=
 ∀j o,ops[j]?=some o→listed.getD j false=true→∀e ∈ o.after,Region.binds md e=true→listed.getD e.on false=true
theorem Shut.none (n:Nat):Shut md ops (Array.replicate n false):=fun j o _ hl=>by
 by_cases h:j<n
 ·simp[h]at hl
 ·simp[h]at hl
theorem Shut.set {i:Nat} {listed:Array Bool} (h:Shut md ops listed) (hi:i ∈ Region.ready md ops listed):Shut md ops (listed.setIfInBounds i true):=by
 intro j o ho hl e he hb
 refine getD_set_true ?_
 by_cases hij:i=j
 ·subst hij
  obtain⟨_,o',ho',hall⟩:=mem_ready.1 hi
  obtain rfl:o=o':=Option.some.inj (ho.symm.trans ho')
  exact hall e he hb
 ·rw[getD_set_ne false hij]at hl
  exact h j o ho hl e he hb
theorem zgG {i:Nat} {listed:Array Bool} (hS:Shut md ops listed):∀(fuel j:Nat),ahead md ops i fuel j=true→(listed.getD j false=true∨j ∈ Region.ready md ops listed)→listed.getD i false=true
 |0,_,h,_=>by simp[ahead]at h
 |fuel+1,j,h,hj=>by
  unfold ahead at h
  cases ho:ops[j]? with
  |none=>rw[ho]at h;cases h
  |some o=>
   rw[ho]at h
   simp only[List.any_eq_true,Bool.and_eq_true,Bool.or_eq_true,beq_iff_eq]at h
   obtain⟨e,he,hb,h⟩:=h
   have he:e ∈ o.after:=Array.mem_toList_iff.1 he
   have hl:listed.getD e.on false=true:=by
    rcases hj with hj|hj
    ·exact hS j o ho hj e he hb
    ·obtain⟨_,o',ho',hall⟩:=mem_ready.1 hj
     obtain rfl:o=o':=Option.some.inj (ho.symm.trans ho')
     exact hall e he hb
   rcases h with h|h
   ·rw[←h];exact hl
   ·exact zgG hS fuel e.on h (.inl hl)
theorem zlL {i:Nat} {listed:Array Bool} (h1:listed.getD i true=false) (h2:listed.getD i false=true):False:=by
 by_cases hlt:i<listed.size
 ·simp[hlt]at h1 h2
  rw[h1]at h2
  cases h2
 ·simp[Array.getElem?_eq_none (Nat.le_of_not_lt hlt)]at h2
def M (L:Nat) (P:Program) (md:Region.Mode) (ops:Array Oper) (Q:Exit→Act→World→Prop):Nat→Array Bool→Act→World→Prop
 |0,listed,a,w=>Region.ready md ops listed=[]∧Q .normal a w
 |fuel+1,listed,a,w=>(Region.ready md ops listed=[]→Q .normal a w)∧
  ∀i ∈ Region.ready md ops listed,wpOp P ops Q i (fun a' w'=>(i≠L→Below w.heap.size w w')∧M L P md ops Q fuel (listed.setIfInBounds i true) a' w') a w
theorem M.any {L:Nat}:∀(fuel:Nat) (listed:Array Bool) (a:Act) (w:World),M L P md ops Q fuel listed a w→wpAny P md ops Q fuel listed a w
 |0,_,_,_,h=>h
 |fuel+1,_,_,_,h=>⟨h.1,fun i hi=>wpOp_mono (fun a' w' h'=>M.any fuel _ a' w' h'.2) (h.2 i hi)⟩
theorem M.first {L i:Nat} {oi:Oper} {v:Value} (hi:ops[i]?=some oi) (hs:Region.noSelect ops=true) {af:Nat} (hA:ahead md ops i af L=true)
  (hQ:∀c a w,Q (.panic c) (a.put oi.dst v) w→Q (.panic c) a w) (fuel:Nat):
  ∀(listed:Array Bool) (a:Act) (w:World),Shut md ops listed→
   (∀j oj,ops[j]?=some oj→j≠i→listed.getD j true=false→(∀e ∈ oj.after,Region.binds md e=true→e.on≠i)→oi.apart ops oj=true)→
   i ∈ Region.ready md ops listed→YieldsIf P ops (Below w.heap.size w) oi v a→
   M L P md ops Q fuel (listed.setIfInBounds i true) (a.put oi.dst v) w→M L P md ops Q (fuel+1) listed a w:=by
 have sel:=fun(j:Nat) (o:Oper) (cs:Array SelectCase) (b:Bool) (h:ops[j]?=some o)=>Region.noSelect_spec hs j o cs b h
 induction fuel with
 |zero=>
  intro listed a w _ _ hr hy H
  refine⟨fun h0=>absurd hr (by rw[h0];simp),fun j hj=>?_⟩
  by_cases e:j=i
  ·subst e
   exact hy.wpOp hi (Below.refl _ _) ⟨fun _=>Below.refl _ _,H⟩
  ·exact absurd (ready_mono hj e) (by rw[H.1];simp)
 |succ fuel ih=>
  intro listed a w hS hf hr hy H
  refine⟨fun h0=>absurd hr (by rw[h0];simp),fun j hj=>?_⟩
  by_cases e:j=i
  ·subst e
   exact hy.wpOp hi (Below.refl _ _) ⟨fun _=>Below.refl _ _,H⟩
  ·have hjL:j≠L:=by
    rintro rfl
    exact zlL (mem_ready.1 hr).1 (zgG hS af j hA (.inr hj))
   have hstep:=H.2 j (ready_mono hj e)
   obtain⟨hun,oj,hoj,hall⟩:=mem_ready.1 hj
   have hno:∀x ∈ oj.after,Region.binds md x=true→x.on≠i:=by
    intro x hx hb hxi
    have p1:=hall x hx hb
    rw[hxi]at p1
    exact zlL (mem_ready.1 hr).1 p1
   refine wpOp_mono (fun a' w' h3=>⟨h3.2.1,?_⟩) (wpOp_putIf hoj (hf j oj hoj e hun hno) (fun cs b=>sel i oi cs b hi) (fun cs b=>sel j oj cs b hoj) hQ hy hstep)
   obtain⟨y1,y2,y3⟩:=h3
   refine ih (listed.setIfInBounds j true) a' w' (hS.set hj) (fun k ok hk hki hku hkn=>hf k ok hk hki ?_ hkn) (ready_mono hr (fun h=>e h.symm)) (Grow.later y1 (y2 hjL)) ?_
   ·by_cases ejk:j=k
    ·subst ejk;exact hun
    ·rwa[getD_set_ne true ejk]at hku
   ·rw[Array.setIfInBounds_comm _ _ e]
    exact y3
def plain (o:Oper):Bool:=match o.op with
 |.nilCheck _=>true
 |_=>Grow.plain o
def zb0 (L:Nat) (md:Region.Mode) (ops:Array Oper):List (Nat×Bool)→Array Bool→Bool
 |[],listed=>(Region.ready md ops listed).isEmpty
 |(i,true)::r,listed=>((Region.ready md ops listed).contains i&&Region.free md ops listed i&&((ops[i]?).map plain).getD false&&ahead md ops i ops.size L)&&zb0 L md ops r (listed.setIfInBounds i true)
 |(i,false)::r,listed=>Region.ready md ops listed == [i]&&zb0 L md ops r (listed.setIfInBounds i true)
def Seq (L:Nat) (P:Program) (ops:Array Oper) (Q:Exit→Act→World→Prop):List (Nat×Bool)→Act→World→Prop
 |[],a,w=>Q .normal a w
 |(i,true)::r,a,w=>∃o,ops[i]?=some o∧∃v,YieldsIf P ops (Below w.heap.size w) o v a∧Seq L P ops Q r (a.put o.dst v) w
 |(i,false)::r,a,w=>Forks.One P ops Q i (fun a' w'=>Below w.heap.size w w'∧Seq L P ops Q r a' w') a w∨(i=L∧Forks.One P ops Q i (fun a' w'=>Seq L P ops Q r a' w') a w)
theorem zdu {L:Nat} (hs:Region.noSelect ops=true) (hQ:∀c a d v w,Q (.panic c) (a.put d v) w→Q (.panic c) a w):∀(l:List (Nat×Bool)) (listed:Array Bool) (a:Act) (w:World),Shut md ops listed→
  zb0 L md ops l listed=true→Seq L P ops Q l a w→M L P md ops Q l.length listed a w
 |[],listed,a,w,_,hB,h=>⟨by simpa[zb0]using hB,h⟩
 |(i,true)::r,listed,a,w,hS,hB,⟨o,ho,v,hy,h⟩=>by
  simp only[zb0,Bool.and_eq_true]at hB
  obtain⟨⟨⟨⟨h1,h2⟩,_⟩,h3⟩,h4⟩:=hB
  have hr:i ∈ Region.ready md ops listed:=by simpa using h1
  exact M.first ho hs h3 (fun c a w=>hQ c a o.dst v w) r.length listed a w hS (Region.free_spec ho h2) hr hy (zdu hs hQ r _ _ _ (hS.set hr) h4 h)
 |(i,false)::r,listed,a,w,hS,hB,h=>by
  simp only[zb0,Bool.and_eq_true,beq_iff_eq]at hB
  obtain⟨h1,h4⟩:=hB
  have hS':Shut md ops (listed.setIfInBounds i true):=hS.set (by rw[h1];simp)
  refine⟨fun h0=>(by rw[h1]at h0;cases h0),fun j hj=>?_⟩
  rw[h1]at hj
  obtain rfl:j=i:=by simpa using hj
  rcases h with h|⟨e,h⟩
  ·exact h.op (fun a' w' hh=>⟨fun _=>hh.1,zdu hs hQ r _ _ _ hS' h4 hh.2⟩)
  ·exact h.op (fun a' w' hh=>⟨fun hne=>absurd e hne,zdu hs hQ r _ _ _ hS' h4 hh⟩)
theorem region (L:Nat) {id:Nat} {a:Act} {w:World} {l:List Oper} (order:List (Nat×Bool)) (hm:P.follows .mixedOrders=true) (hs:Region.noSelect l.toArray=true)
  (hl:order.length=l.toArray.size) (hB:zb0 L .any l.toArray order (Array.replicate l.toArray.size false)=true) (hQ:∀c a d v w,Q (.panic c) (a.put d v) w→Q (.panic c) a w)
  (h:Seq L P l.toArray Q order a w.drew):(Code.region id l.toArray true).wp P Q a w:=by
 refine wp_region_any hm (M.any (L:=L) _ _ _ _ ?_)
 have:=zdu (md:=.any) hs hQ order (Array.replicate l.toArray.size false) a w.drew (Shut.none _) hB h
 rw[hl]at this
 exact this
theorem reads {L:Nat} {l:List Oper} {i:Nat} {o:Oper} {r:List (Nat×Bool)} {a:Act} {w:World} (hn:Grow.nth l i=some o) (hp:Grow.plain o=true)
  (h:wpQuiet P l.toArray (fun w'=>∃p:Regrown,w'=grow (redrawn w p.d) p.os) (fun a'=>Seq L P l.toArray Q r a' w) [o] a):Seq L P l.toArray Q ((i,true)::r) a w:=by
 have ho:=(Grow.zb2 l i).trans hn
 unfold wpQuiet at h
 split at h
 ·rename_i hw
  obtain⟨v,h1,h2⟩:=h
  refine⟨o,ho,v,.inl ⟨hw,fun u hu=>?_⟩,h2⟩
  have q:=h1 u (regrown_of_below hu)
  unfold Oper.quietAt at q
  cases hx:(execOp a.eval o).run P u with
  |ok n u'=>
   obtain⟨x,rfl⟩:=Grow.zcp hp hx
   rw[hx]at q
   obtain⟨rfl,rfl⟩:=q
   rfl
  |halt x u'=>rw[hx]at q;exact q.elim
 ·rename_i hw
  exact⟨o,ho,undef,.inr ⟨by simpa using hw,rfl⟩,h⟩
theorem checks {L:Nat} {l:List Oper} {i:Nat} {o:Oper} {r:List (Nat×Bool)} {a:Act} {w:World} (hn:Grow.nth l i=some o) (hgd:o.guard=none) (x:Operand) (ho:o.op=.nilCheck x) (p:Addr) (hx:a.eval x=.pointer (some p))
  (h:Seq L P l.toArray Q r (a.put o.dst (.pointer (some p))) w):Seq L P l.toArray Q ((i,true)::r) a w:=by
 refine⟨o,(Grow.zb2 l i).trans hn,.pointer (some p),.inl ⟨by simp[Region.wanted,hgd],fun u _=>?_⟩,h⟩
 unfold execOp
 simp only[ho,hx]
 rfl
def On (L:Nat) (P:Program) (ops:Array Oper) (Q:Exit→Act→World→Prop) (r:List (Nat×Bool)) (w:World) (a':Act) (w':World):Prop:=Below w.heap.size w w'∧Seq L P ops Q r a' w'
theorem acts {L:Nat} {l:List Oper} {i:Nat} {o:Oper} {r:List (Nat×Bool)} {a:Act} {w:World} (hn:Grow.nth l i=some o)
  (h:wpList P l.toArray (Exit.then (On L P l.toArray Q r w) Q) [o] a w):Seq L P l.toArray Q ((i,false)::r) a w:=
 .inl ⟨o,(Grow.zb2 l i).trans hn,h⟩
def Done (Q:Exit→Act→World→Prop) (a':Act) (w':World):Prop:=Q .normal a' w'
theorem last {L:Nat} {l:List Oper} {o:Oper} {a:Act} {w:World} (hn:Grow.nth l L=some o)
  (h:wpList P l.toArray (Exit.then (Done Q) Q) [o] a w):Seq L P l.toArray Q [(L,false)] a w:=
 .inr ⟨rfl,o,(Grow.zb2 l L).trans hn,h⟩
theorem done {a:Act} {w:World} (h:Q .normal a w):Done Q a w:=h
end
end Go.Proofs.YtgmdhaepiclkcaaGreatDoor.GrowL
