/- A contract of the library's, laid at this program | slices.Compact at texts | What Del and Elems of the project's package pair return | What the functions of package pair return | What package state's event, May and Same return | Structs loaded whole where the load is guarded, and wanted | As GrowL, where operations that act need not wait for one another -/
import Derived.Shelf.SlLaysN
import Derived.Test.YtgmdhaepiclkcaaGreatDoorProg
import Derived.Test.YtgmdhaepiclkcaaGreatDoorRegUJ10
import Derived.Shelf.SlicesG.CompactS
import Derived.Sort.OwnSorted
import Derived.Test.YtgmdhaepiclkcaaGreatDoorGrewMJ5
import Derived.Test.YtgmdhaepiclkcaaGreatDoorPairTJ4
import Derived.Test.YtgmdhaepiclkcaaGreatDoorPairGJ12
import Derived.Test.YtgmdhaepiclkcaaGreatDoorEaSJ5
import Derived.Test.YtgmdhaepiclkcaaGreatDoorStrTJ4
import Derived.Test.YtgmdhaepiclkcaaGreatDoorRegHJ2
import Derived.Test.YtgmdhaepiclkcaaGreatDoorStNJ8
import Derived.Test.YtgmdhaepiclkcaaGreatDoorIdWJ3
import Derived.Test.YtgmdhaepiclkcaaGreatDoorRowBJ9
namespace Go.Proofs
set_option maxRecDepth 100000
open Go.Shelf
end Go.Proofs
namespace Go.Proofs.YtgmdhaepiclkcaaGreatDoor.StrC
set_option maxRecDepth 100000
open Go Go.RowKit Go.Sort Go.Shelf Go.Lib Go.Proofs Byt Txt
end Go.Proofs.YtgmdhaepiclkcaaGreatDoor.StrC
namespace Go.Proofs.YtgmdhaepiclkcaaGreatDoor.PairY
set_option maxHeartbeats 8000000
set_option maxRecDepth 100000
open Go Go.RowKit Byt OpsM OpsK Rise PairM PairN RowS RowB PairW PairS PairX PairB Txt PairQ StrC
def gone (k e:ByteArray):Pr:=⟨k,e,0,0⟩
theorem zo6 (x:Pr) (k e:ByteArray):zpr k e x=false↔zgQ x=gone k e:=by
 unfold zpr zgQ gone
 by_cases h1:x.key=k <;> by_cases h2:x.elem=e <;> simp[h1,h2]
theorem zk9 (A:Option Addr) (cap:Nat) (l:List Pr) (k e:ByteArray) (w:World) (S:SlR E w A cap l) (hf:Fits l) (hl:l.length≤10000000):
  Calls Tryz.prog 114 #[.slice A l.length cap,.string k,.string e] w (zie E (zki l k e) w):=by
 have cm:=fun W S=>PairV.zaz A cap l W S hf (by omega)
 have hcap:=S.1
 obtain⟨i,hi,z0,z1,z2⟩:=info_parts E.info
 have hmk0:=fun(W:World)=>run_make_own (P:=Tryz.prog) W W.heap.size 28 58 i (.agg (E.enc E.zero).toArray) 4 Tryz.underlying28 hi z0 z1 .i64 .i64 l.length (by rw[z2];show 48 * _≤_;omega) (by unfold maxLen;omega) (Nat.le_refl _)
 clear hf hi z0 z1 z2
 obtain⟨m,hm⟩:∃m,zbA l=m:=⟨_,rfl⟩
 rw[hm]at cm
 have HD:Hid (zki l k e=if m=true then l.filter (zpr k e)else[]):=aside (by rw[←hm];rfl)
 clear hm
 go_enter Tryz.func114,Tryz.ntmps114
 go_wp2_with fail
 refine(cm _ S).mono ?_
 rintro x w1 ⟨rfl,k1⟩
 have S1:=S.below k1
 clear S cm
 cases m with
 |false=>
  have HE:Hid (zki l k e=[]):=aside HD.out
  clear S1
  go_wp2
  go_ret
  rw[HE.out]
  exact⟨none,0,rfl,SlR.nil E _,k1⟩
 |true=>
  have HE:Hid (zki l k e=l.filter (zpr k e)):=aside HD.out
  clear HD
  go_wp2_with (first
   |(refine zac E rfl _ _ rfl _ _ _ rfl (gone k e) _ rfl rfl rfl rfl ?_;intro w2 bg kg gg sg;obtain⟨w3,hmk,zbL,g3⟩:=hmk0 w2))
  have HS2:=aside (S1.below kg)
  have k2:=k1.trans (kg.mono k1.size)
  have kb3:Below w2.heap.size w2 w3:=below_grown (Below.refl _ _) (Nat.le_refl _) g3 (fun q hq=>by cases hq)
  clear S1 hmk0 hmk g3 kg gg k1
  have own4:w3.ownsRow w2.heap.size E.T 4 (.slice (some ⟨w1.heap.size+1,0,none⟩) 0 l.length) 0 []:=by
   rw[show w2.heap.size=w1.heap.size+1 from sg]at zbL ⊢
   exact zbL
  have HG:=aside bg
  clear bg zbL
  go_loopw [8,22] (fun v i wr=>∃(j:Nat) (acc:List Pr),j≤l.length∧i=.int .i64 j∧acc.length≤j∧Hid (acc=(l.take j).filter (zpr k e))∧Hid (wr.ownsRow w2.heap.size E.T 4 v acc.length (flat E acc))∧Below w2.heap.size w2 wr) (fun _ i _=>l.length - (intOf i).toNat)
  case atStart=>exact⟨0,[],Nat.zero_le _,rfl,Nat.le_refl _,aside rfl,aside own4,kb3⟩
  case round=>
   clear own4 kb3
   obtain⟨j,acc,hj,rfl,hle,HA,HO,kb⟩:=hrel
   have HS:=aside (HS2.out.below kb)
   by_cases hlt:j<l.length
   ·obtain⟨b,off,rfl,hbw,hr⟩:=PairW.plain HS.out (by omega)
    obtain⟨x,hx⟩:∃x,l[j]?=some x:=⟨_,List.getElem?_eq_getElem hlt⟩
    have hr1:=hr j x hx
    have p0:(j:Int)<l.length:=by omega
    have m0:((j:Int)).toNat=j:=by omega
    have HF:=aside (zk5 (q:=zpr k e) hx)
    have cb:=fun W=>bare_ret x W
    have hgo:=zo6 x k e
    clear hr hx
    obtain⟨z,hz⟩:∃z,zpr k e x=z:=⟨_,rfl⟩
    rw[hz]at HF hgo
    have HB2:=aside (HG.out.below kb)
    clear hz
    cases z with
    |true=>
     have HA2:Hid (acc++[x]=(l.take (j+1)).filter (zpr k e)):=aside (by rw[HF.out,←HA.out];rfl)
     have heq:∀W,(Op.equalIn 10000 58 (.agg (pc (zgQ x))) (.agg (E.enc (gone k e)).toArray)).run Tryz.prog W=.ok false W:=zl9 (x:=zgQ x) (y:=gone k e) (fun q=>by cases hgo.2 q)
     clear HA HF hgo
     go_wp2_with (first
      |(refine zal E rfl _ rfl b _ rfl x hr1 ?_)
      |(refine zac E rfl _ _ rfl _ _ _ rfl x _ rfl rfl rfl rfl ?_;intro w5 bx kx gx sx))
     have k5:=kb.trans (kx.mono kb.size)
     have O5:=HO.out.kept gx (Classical.em _)
     have G5:=HB2.out.below kx
     have HX:=aside bx
     clear hr1 HS HO HB2 kx gx bx
     refine Grow.region [(0,true),(2,true),(1,false),(3,true)] (by kernel_rfl) (by kernel_rfl) rfl (by kernel_rfl) (by intro c a d v w h;cases d <;> exact h) ?_
     rename World=>V
     have dr:=zaf (Below.refl V.heap.size V)
     have kd:=k5.trans (dr.mono k5.size)
     have Od:V.drew.ownsRow w2.heap.size E.T 4 _ acc.length (flat E acc):=O5.kept (zaq dr none) (Classical.em _)
     have rg:=(G5.below dr).range
     have rx:=(HX.out.below dr).range
     have Bd:=HX.out.below dr
     have hsz:=kd.size
     generalize V.drew=wd at kd Od rg rx Bd hsz ⊢
     clear k5 O5 G5 HX dr
     repeat (first|(refine RowG.zaJ E rfl rfl _ rfl _ _ rfl x rx ?_;simp only[Act.put,List.setIfInBounds_toArray,List.set_cons_succ,List.set_cons_zero])|(refine RowG.zaJ E rfl rfl _ rfl _ _ rfl (gone k e) rg ?_;simp only[Act.put,List.setIfInBounds_toArray,List.set_cons_succ,List.set_cons_zero])|(refine Grow.reads rfl rfl ?_;go_big_quiet_step (fail);refine wpQuiet_nil ?_))
     refine Grow.acts rfl ?_
     go_wp2_with fail
     refine(cb _).mono ?_
     rintro _ w6 ⟨rfl,k6⟩
     have kd6:=kd.trans (k6.mono kd.size)
     have O6:=aside (Od.kept (zaq k6 none) (Classical.em _))
     have B6:=Bd.below k6
     clear rg rx Od Bd kd cb
     go_wp2_with fail
     refine⟨k6,?_⟩
     repeat (refine Grow.reads rfl rfl ?_;go_big_quiet_step (fail);refine wpQuiet_nil ?_)
     refine Grow.ends ?_
     clear k6 hsz
     have hs6:=kd6.size
     go_wp2_with (first
      |(refine zaa E rfl _ rfl _ rfl x B6 ?_)
      |(refine RowC.zat E (of_decide_eq_true rfl) rfl _ rfl x rfl ?_)
      |(refine zaD E rfl (.tmp 30) (.tmp 32) rfl w2.heap.size _ acc.length acc rfl w6 x _ rfl rfl O6.out (by omega) hs6 ?_;intro v' w7 own7 h7))
     have k7:=kd6.trans h7
     have HO7:=aside own7
     clear h7 own7 kd6
     go_roundw
     case rel=>exact⟨j+1,acc++[x],by omega,by go_num,by simp;omega,HA2,aside (by rw[List.length_append];exact HO7.out),k7⟩
     case measure=>simp[intOf];omega
    |false=>
     have HA2:Hid (acc=(l.take (j+1)).filter (zpr k e)):=aside (by rw[HF.out,←HA.out];simp)
     have heq:∀W,(Op.equalIn 10000 58 (.agg (pc (zgQ x))) (.agg (E.enc (gone k e)).toArray)).run Tryz.prog W=.ok true W:=zkg (x:=zgQ x) (y:=gone k e) (hgo.1 rfl)
     clear HA HF hgo
     go_wp2_with (first
      |(refine zal E rfl _ rfl b _ rfl x hr1 ?_)
      |(refine zac E rfl _ _ rfl _ _ _ rfl x _ rfl rfl rfl rfl ?_;intro w5 bx kx gx sx))
     have k5:=kb.trans (kx.mono kb.size)
     have O5:=HO.out.kept gx (Classical.em _)
     have G5:=HB2.out.below kx
     have HX:=aside bx
     clear hr1 HS HO HB2 kx gx bx
     refine Grow.region [(0,true),(2,true),(1,false),(3,true)] (by kernel_rfl) (by kernel_rfl) rfl (by kernel_rfl) (by intro c a d v w h;cases d <;> exact h) ?_
     rename World=>V
     have dr:=zaf (Below.refl V.heap.size V)
     have kd:=k5.trans (dr.mono k5.size)
     have Od:V.drew.ownsRow w2.heap.size E.T 4 _ acc.length (flat E acc):=O5.kept (zaq dr none) (Classical.em _)
     have rg:=(G5.below dr).range
     have rx:=(HX.out.below dr).range
     have Bd:=HX.out.below dr
     have hsz:=kd.size
     generalize V.drew=wd at kd Od rg rx Bd hsz ⊢
     clear k5 O5 G5 HX dr
     repeat (first|(refine RowG.zaJ E rfl rfl _ rfl _ _ rfl x rx ?_;simp only[Act.put,List.setIfInBounds_toArray,List.set_cons_succ,List.set_cons_zero])|(refine RowG.zaJ E rfl rfl _ rfl _ _ rfl (gone k e) rg ?_;simp only[Act.put,List.setIfInBounds_toArray,List.set_cons_succ,List.set_cons_zero])|(refine Grow.reads rfl rfl ?_;go_big_quiet_step (fail);refine wpQuiet_nil ?_))
     refine Grow.acts rfl ?_
     go_wp2_with fail
     refine(cb _).mono ?_
     rintro _ w6 ⟨rfl,k6⟩
     have kd6:=kd.trans (k6.mono kd.size)
     have O6:=aside (Od.kept (zaq k6 none) (Classical.em _))
     have B6:=Bd.below k6
     clear rg rx Od Bd kd cb
     go_wp2_with fail
     refine⟨k6,?_⟩
     repeat (refine Grow.reads rfl rfl ?_;go_big_quiet_step (fail);refine wpQuiet_nil ?_)
     refine Grow.ends ?_
     clear k6 hsz
     have hs6:=kd6.size
     clear hs6
     go_wp2_with (first|go_skip)
     go_roundw
     case rel=>exact⟨j+1,acc,by omega,by go_num,by omega,HA2,O6,kd6⟩
     case measure=>simp[intOf];omega
   ·have HE2:Hid (acc=zki l k e):=aside (by rw[HE.out,HA.out,List.take_of_length_le (by omega)])
    obtain⟨A5,c5,rfl,S5⟩:=SlR.own HO.out
    clear HS HA
    go_wp2_with fail
    go_ret
    rw[←HE2.out]
    exact⟨A5,c5,rfl,S5,k2.trans (kb.mono k2.size)⟩
end Go.Proofs.YtgmdhaepiclkcaaGreatDoor.PairY
namespace Go.Proofs.YtgmdhaepiclkcaaGreatDoor.PairD
set_option maxHeartbeats 8000000
set_option maxRecDepth 100000
open Go Go.RowKit Byt OpsM OpsK Rise PairM PairN RowS RowB PairW PairS PairX PairB PairK PairT PairJ Txt PairQ
theorem zaz (A:Option Addr) (cap:Nat) (l:List Pr) (w:World) (S:SlR E w A cap l) (hf:Fits l) (hl:l.length≤100000000):
  Calls Tryz.prog 58 #[.slice A l.length cap] w fun e w'=>e=.returned (.bool (zbA l))∧Below w.heap.size w w':=PairV.zaz A cap l w S hf hl
theorem zcM {l:List Pr} {w w':World} (h:l=[]) (k:Below w.heap.size w w'):zie E l w (.returned (.slice none 0 0)) w':=by
 subst h
 exact⟨none,0,rfl,SlR.nil E _,k⟩
theorem new0 (w:World):(Instr.makeMap 141 none).run Tryz.prog w=.ok (.map (some w.heap.size)) (w.alloc (.map #[] 0)):=by
 simp[Instr.makeMap,go_sem]
def zer:Pr→Int:=fun _=>0
theorem zmm (base a b:List Pr) (x:Pr):zbV 4 (zbV 2 (zbV 1 zer base) a) b x=(if x ∈ base then 1 else 0)+(if x ∈ a then 2 else 0)+(if x ∈ b then 4 else 0):=by
 unfold zbV zer
 by_cases h0:x ∈ base <;> by_cases h1:x ∈ a <;> by_cases h2:x ∈ b <;> simp[h0,h1,h2]
theorem bits_in {base a b:List Pr} (m0:zbA base=true) (m1:zbA a=true) (m2:zbA b=true) (x:Pr):x ∈ zca base a b↔x ∈ (([]++base)++a)++b∧stB (zbV 4 (zbV 2 (zbV 1 zer base) a) b x)=true:=by
 rw[zc8 m0 m1 m2,zmm]
 unfold inM
 simp only[List.nil_append,List.mem_append]
 by_cases h0:x ∈ base <;> by_cases h1:x ∈ a <;> by_cases h2:x ∈ b <;> simp[h0,h1,h2,stB]
theorem low1 (x:Pr):0≤zer x∧zer x<1:=by unfold zer;omega
theorem low2 (base:List Pr) (x:Pr):0≤zbV 1 zer base x∧zbV 1 zer base x<2:=by
 unfold zbV zer
 split <;> omega
theorem low4 (base a:List Pr) (x:Pr):0≤zbV 2 (zbV 1 zer base) a x∧zbV 2 (zbV 1 zer base) a x<4:=by
 unfold zbV zer
 split <;> split <;> omega
theorem low8 (base a b:List Pr) (x:Pr):0≤zbV 4 (zbV 2 (zbV 1 zer base) a) b x∧zbV 4 (zbV 2 (zbV 1 zer base) a) b x<8:=by
 rw[zmm]
 split <;> split <;> split <;> omega
theorem zcX (A0:Option Addr) (c0:Nat) (l0:List Pr) (A1:Option Addr) (c1:Nat) (l1:List Pr) (A2:Option Addr) (c2:Nat) (l2:List Pr) (w:World) (S0:SlR E w A0 c0 l0) (S1:SlR E w A1 c1 l1) (S2:SlR E w A2 c2 l2) (f0:Fits l0) (f1:Fits l1) (f2:Fits l2) (b0:l0.length≤10000000) (b1:l1.length≤10000000) (b2:l2.length≤10000000)
  (h:zbA l0=false∨(zbA l0=true∧zbA l1=false)∨(zbA l0=true∧zbA l1=true∧zbA l2=false)):
  Calls Tryz.prog 52 #[.slice A0 l0.length c0,.slice A1 l1.length c1,.slice A2 l2.length c2] w (zie E [] w):=by
 have q0:=zaz A0 c0 l0 w S0 f0 (by omega)
 have q1:=fun W S=>zaz A1 c1 l1 W S f1 (by omega)
 have q2:=fun W S=>zaz A2 c2 l2 W S f2 (by omega)
 rcases h with m0|⟨m0,m1⟩|⟨m0,m1,m2⟩
 ·rw[m0]at q0
  clear m0
  go_enter Tryz.func52,Tryz.ntmps52
  go_wp2_with fail
  refine q0.mono ?_
  rintro e w1 ⟨rfl,k1⟩
  go_wp2_with (first|go_skip)
  go_ret
  exact zcM rfl k1
 ·rw[m0]at q0
  rw[m1]at q1
  clear m0 m1
  go_enter Tryz.func52,Tryz.ntmps52
  go_wp2_with fail
  refine q0.mono ?_
  rintro e w1 ⟨rfl,k1⟩
  have T1:=S1.below k1
  go_wp2_with fail
  refine(q1 _ T1).mono ?_
  rintro e w2 ⟨rfl,h2⟩
  have k2:=k1.trans (h2.mono k1.size)
  clear T1 h2 k1
  go_wp2_with (first|go_skip)
  go_ret
  exact zcM rfl k2
 ·rw[m0]at q0
  rw[m1]at q1
  rw[m2]at q2
  clear m0 m1 m2
  go_enter Tryz.func52,Tryz.ntmps52
  go_wp2_with fail
  refine q0.mono ?_
  rintro e w1 ⟨rfl,k1⟩
  have T1:=S1.below k1
  go_wp2_with fail
  refine(q1 _ T1).mono ?_
  rintro e w2 ⟨rfl,h2⟩
  have k2:=k1.trans (h2.mono k1.size)
  have T2:=S2.below k2
  clear T1 h2 k1
  go_wp2_with fail
  refine(q2 _ T2).mono ?_
  rintro e w3 ⟨rfl,h3⟩
  have k3:=k2.trans (h3.mono k2.size)
  clear T2 h3 k2
  go_wp2_with (first|go_skip)
  go_ret
  exact zcM rfl k3
theorem zeB (A0:Option Addr) (c0:Nat) (l0:List Pr) (A1:Option Addr) (c1:Nat) (l1:List Pr) (A2:Option Addr) (c2:Nat) (l2:List Pr) (w:World) (S0:SlR E w A0 c0 l0) (S1:SlR E w A1 c1 l1) (S2:SlR E w A2 c2 l2) (f0:Fits l0) (f1:Fits l1) (f2:Fits l2) (b0:l0.length≤10000000) (b1:l1.length≤10000000) (b2:l2.length≤10000000)
  (m0:zbA l0=true) (m1:zbA l1=true) (m2:zbA l2=true):
  Calls Tryz.prog 52 #[.slice A0 l0.length c0,.slice A1 l1.length c1,.slice A2 l2.length c2] w (zie E (zca l0 l1 l2) w):=by
 have q0:=zaz A0 c0 l0 w S0 f0 (by omega)
 have q1:=fun W S=>zaz A1 c1 l1 W S f1 (by omega)
 have q2:=fun W S=>zaz A2 c2 l2 W S f2 (by omega)
 have HMR:=aside (ris (za3 m0 m1 m2))
 have HG:=aside (bits_in m0 m1 m2)
 obtain⟨R,hR⟩:∃R,zca l0 l1 l2=R:=⟨_,rfl⟩
 rw[hR]at HMR HG ⊢
 rw[m0]at q0
 rw[m1]at q1
 rw[m2]at q2
 clear m0 m1 m2 hR
 go_enter Tryz.func52,Tryz.ntmps52
 go_wp2_with fail
 refine q0.mono ?_
 rintro e w1 ⟨rfl,k1⟩
 have T1:=S1.below k1
 go_wp2_with fail
 refine(q1 _ T1).mono ?_
 rintro e w2 ⟨rfl,h2⟩
 have k2:=k1.trans (h2.mono k1.size)
 have T2:=S2.below k2
 clear T1 h2 k1 q1 q0
 go_wp2_with fail
 refine(q2 _ T2).mono ?_
 rintro e w3 ⟨rfl,h3⟩
 have k3:=k2.trans (h3.mono k2.size)
 clear T2 h3 k2 q2
 have hs3:=k3.size
 have hmm:=new0 w3
 go_wp2_with fail
 have k4:=k3.alloc hs3 (.map #[] 0)
 have kg:=fun(w':World) (h:(w3.alloc (.map #[] 0)).grownBy w' (some w3.heap.size))=>below_grown k4 k4.size h (fun j hj=>by cases hj;exact hs3)
 refine(zi8 w3.heap.size 0 [] zer A0 c0 l0 1 _ (NumIn.made w3) (S0.below k4) f0 (.inl rfl) low1 (by omega) (by omega)).mono ?_
 rintro e w5 ⟨rfl,n5,g5⟩
 have k5:=kg w5 g5
 go_wp2_with fail
 refine(zi8 w3.heap.size _ _ _ A1 c1 l1 2 w5 n5 (S1.below k5) f1 (.inr (.inl rfl)) (low2 l0) (by omega) (by omega)).mono ?_
 rintro e w6 ⟨rfl,n6,g6⟩
 have k6:=kg w6 (g5.trans g6)
 go_wp2_with fail
 refine(zi8 w3.heap.size _ _ _ A2 c2 l2 4 w6 n6 (S2.below k6) f2 (.inr (.inr rfl)) (low4 l0 l1) (by omega) (by omega)).mono ?_
 rintro e w7 ⟨rfl,n7,g7⟩
 have k7:=kg w7 ((g5.trans g6).trans g7)
 clear g5 g6 g7 n5 n6 k5 k6 k4 k3 kg
 go_wp2_with fail
 refine(zkC w3.heap.size _ _ _ R w7 n7 (by omega) (low8 l0 l1 l2) HMR.out HG.out).mono ?_
 rintro e w8 h8
 obtain⟨A8,c8,rfl,S8,k8⟩:=h8.s
 have k9:=k7.trans (k8.mono k7.size)
 clear k7 k8 n7 h8
 go_wp2_with fail
 go_ret
 exact⟨A8,c8,rfl,S8,k9⟩
theorem zaW (A0:Option Addr) (c0:Nat) (l0:List Pr) (A1:Option Addr) (c1:Nat) (l1:List Pr) (A2:Option Addr) (c2:Nat) (l2:List Pr) (w:World) (S0:SlR E w A0 c0 l0) (S1:SlR E w A1 c1 l1) (S2:SlR E w A2 c2 l2) (f0:Fits l0) (f1:Fits l1) (f2:Fits l2) (b0:l0.length≤10000000) (b1:l1.length≤10000000) (b2:l2.length≤10000000):
  Calls Tryz.prog 52 #[.slice A0 l0.length c0,.slice A1 l1.length c1,.slice A2 l2.length c2] w (zie E (zca l0 l1 l2) w):=by
 cases m0:zbA l0 with
 |false=>rw[za8 (.inl m0)];exact zcX A0 c0 l0 A1 c1 l1 A2 c2 l2 w S0 S1 S2 f0 f1 f2 b0 b1 b2 (.inl m0)
 |true=>
  cases m1:zbA l1 with
  |false=>rw[za8 (.inr (.inl m1))];exact zcX A0 c0 l0 A1 c1 l1 A2 c2 l2 w S0 S1 S2 f0 f1 f2 b0 b1 b2 (.inr (.inl ⟨m0,m1⟩))
  |true=>
   cases m2:zbA l2 with
   |false=>rw[za8 (.inr (.inr m2))];exact zcX A0 c0 l0 A1 c1 l1 A2 c2 l2 w S0 S1 S2 f0 f1 f2 b0 b1 b2 (.inr (.inr ⟨m0,m1,m2⟩))
   |true=>exact zeB A0 c0 l0 A1 c1 l1 A2 c2 l2 w S0 S1 S2 f0 f1 f2 b0 b1 b2 m0 m1 m2
theorem zpg (l:List Pr) (p:Pr):zca [] l [p]=zgq l p:=by
 cases h1:zbA l with
 |false=>rw[za8 (.inr (.inl h1)),zmp (.inl h1)]
 |true=>
  cases h2:zfy p with
  |false=>rw[za8 (.inr (.inr (by rw[zhL];exact h2))),zmp (.inr h2)]
  |true=>
   have m2:zbA [p]=true:=by rw[zhL];exact h2
   refine(merge_is may_nil h1 m2 (ris (zli l p)) (fun x=>?_)).symm
   rw[zph h1 h2]
   unfold inM
   by_cases hx:x=p
   ·subst hx
    by_cases hl:x ∈ l <;> simp[hl]
   ·by_cases hl:x ∈ l <;> simp[hx,hl]
theorem zlh (A:Option Addr) (cap:Nat) (l:List Pr) (p:Pr) (w:World) (S:SlR E w A cap l) (hf:Fits l) (hp:Fit p) (hl:l.length≤10000000):
  Calls Tryz.prog 112 #[.slice A l.length cap,.agg (pc p)] w (zie E (zgq l p) w):=by
 have Z:Below w.heap.size w (w.alloc (.cells (pc p) 58)):=zah _ _
 have N:Box E (w.alloc (.cells (pc p) 58)) w.heap.size p:=Box.new w p _
 have S0:=S.below Z
 have cm:=fun(C:Option Addr) (c:Nat) (W:World) (S:SlR E W A cap l) (T:SlR E W C c [p])=>zaW none 0 [] A cap l C c [p] W (SlR.nil E W) S T (fun x hx=>by simp at hx) hf (zha hp) (by simp) hl (by simp)
 rw[zpg]at cm
 have hcap:=S.1
 obtain⟨R,hR⟩:∃R,zgq l p=R:=⟨_,rfl⟩
 rw[hR]at cm ⊢
 have hz:=Z.size
 clear S hf hp hR
 go_enter Tryz.func112,Tryz.ntmps112
 go_wp2_with (first
  |(refine zaa E rfl _ rfl _ rfl p N ?_)
  |(refine RowC.zdR E (of_decide_eq_true rfl) rfl _ rfl p rfl ?_;intro w1 T1 k1;have S1:=S0.below k1;have k2:=Z.trans (k1.mono hz)))
 have T2:SlR E w1 (some ⟨w.heap.size+1,0,none⟩) 1 [p]:=by
  have e:(w.alloc (.cells (pc p) 58)).heap.size=w.heap.size+1:=by simp
  rw[e]at T1
  exact T1
 have h:=cm _ _ _ S1 T2
 refine h.mono ?_
 rintro e w3 ⟨A3,c3,rfl,S3,k3⟩
 have k4:=k2.trans (k3.mono k2.size)
 clear cm h N S0 S1 T1 T2 k1 k2 k3
 go_wp2_with fail
 go_ret
 exact⟨A3,c3,rfl,S3,k4⟩
theorem zk9 (A:Option Addr) (cap:Nat) (l:List Pr) (k e:ByteArray) (w:World) (S:SlR E w A cap l) (hf:Fits l) (_hk:k.size≤100) (_he:e.size≤100) (hl:l.length≤10000000):
  Calls Tryz.prog 114 #[.slice A l.length cap,.string k,.string e] w (zie E (zki l k e) w):=PairY.zk9 A cap l k e w S hf hl
end Go.Proofs.YtgmdhaepiclkcaaGreatDoor.PairD
namespace Go.Proofs.YtgmdhaepiclkcaaGreatDoor.StE
set_option maxHeartbeats 4000000
set_option maxRecDepth 100000
open Go Go.RowKit Byt OpsM Rise RowS StM StW StR
theorem zce (v:Ev) (w:World):Calls Tryz.prog 63 #[.agg (ec v)] w fun e w'=>e=.returned (.bool (zbs v.node v.seq))∧Below w.heap.size w w':=by
 have R:Cel.Box EE (w.alloc (.cells (ec v) 43)) w.heap.size v:=Cel.Box.new w v _
 have kb:=zah w (.cells (ec v) 43)
 obtain⟨c0,c1⟩:=zfZ R
 clear R
 obtain⟨r,hr⟩:∃r,zbs v.node v.seq=r:=⟨_,rfl⟩
 have hn:r=zbs v.node v.seq:=hr.symm
 rw[hr]
 unfold zbs at hn
 clear hr
 obtain⟨n,hnn⟩:∃n,v.node=n:=⟨_,rfl⟩
 obtain⟨s,hs⟩:∃s,v.seq=s:=⟨_,rfl⟩
 rw[hnn]at c0 hn
 rw[hs]at c1 hn
 clear hnn hs
 have HN:=aside hn
 clear hn
 have hw:¬0≤n∨(0≤n∧(¬n<8∨(n<8∧(¬1≤s∨1≤s)))):=by omega
 rcases hw with p2|⟨p2,p3|⟨p3,p4|p4⟩⟩
 ·have HR:Hid (r=false):=aside (by rw[HN.out];simp;omega)
  clear HN
  go_enter Tryz.func63,Tryz.ntmps63
  go_wp2
  go_ret
  exact⟨StW.zae HR.out.symm,kb⟩
 ·have HR:Hid (r=false):=aside (by rw[HN.out];simp;omega)
  clear HN
  go_enter Tryz.func63,Tryz.ntmps63
  go_wp2
  go_ret
  exact⟨StW.zae HR.out.symm,kb⟩
 ·have HR:Hid (r=false):=aside (by rw[HN.out];simp;omega)
  clear HN
  go_enter Tryz.func63,Tryz.ntmps63
  go_wp2
  go_ret
  exact⟨StW.zae HR.out.symm,kb⟩
 ·have HR:Hid (r=decide (s≤1048576)):=aside (by rw[HN.out];simp[p2,p3,p4])
  clear HN
  go_enter Tryz.func63,Tryz.ntmps63
  go_wp2
  go_ret
  exact⟨StW.zae HR.out.symm,kb⟩
theorem zaz (v:Sv) (w:World) (S:In w v) (hf:Fits v.s) (hl:Len 10000000 v.s):Calls Tryz.prog 21 #[.agg (sc v)] w fun e w'=>e=.returned (.bool (zcI v.s))∧Below w.heap.size w w':=by
 have R:Cel.Box SE (w.alloc (.cells (sc v) 30)) w.heap.size v:=Cel.Box.new w v _
 have kb:=zah w (.cells (sc v) 30)
 have S0:=S.below kb
 obtain⟨c0,_,_⟩:=zam R
 have q0:=fun W T=>CtrD.zaz v.a0 v.k0 v.s.c W T hf.c (by have:=hl.c;omega)
 have q1:=fun W T=>RegD.zaz v.a1 v.k1 v.s.r W T hf.r hl.r
 have q2:=fun W T=>PairD.zaz v.a2 v.k2 v.s.p W T hf.p (by have:=hl.p;omega)
 obtain⟨x,hx⟩:∃x,CtrM.zbe v.s.c=x:=⟨_,rfl⟩
 obtain⟨y,hy⟩:∃y,RegM.zbd v.s.r=y:=⟨_,rfl⟩
 obtain⟨z,hz⟩:∃z,PairM.zbA v.s.p=z:=⟨_,rfl⟩
 have HR:Hid (zcI v.s=(x&&(y&&z))):=aside (by unfold zcI;rw[hx,hy,hz])
 rw[hx]at q0
 rw[hy]at q1
 rw[hz]at q2
 clear S hf hl hx hy hz
 go_enter Tryz.func21,Tryz.ntmps21
 go_wp2_with (first|go_skip)
 refine(q0 _ S0.c).mono ?_
 rintro e w1 ⟨rfl,k1⟩
 have R1:=R.below k1
 have S1:=S0.below k1
 have b1:=kb.trans (k1.mono kb.size)
 clear q0 c0 R S0 k1 kb
 obtain⟨_,c1,_⟩:=zam R1
 cases x with
 |false=>
  go_wp2_with (first|go_skip)
  go_ret
  exact⟨StW.zae HR.out.symm,b1⟩
 |true=>
  go_wp2_with (first|go_skip)
  refine(q1 _ S1.r).mono ?_
  rintro e w2 ⟨rfl,k2⟩
  have R2:=R1.below k2
  have S2:=S1.below k2
  have b2:=b1.trans (k2.mono b1.size)
  clear q1 c1 R1 S1 k2 b1
  obtain⟨_,_,c2⟩:=zam R2
  cases y with
  |false=>
   go_wp2_with (first|go_skip)
   go_ret
   exact⟨StW.zae HR.out.symm,b2⟩
  |true=>
   go_wp2_with (first|go_skip)
   refine(q2 _ S2.p).mono ?_
   rintro e w3 ⟨rfl,k3⟩
   have b3:=b2.trans (k3.mono b2.size)
   clear q2 c2 R2 S2 k3 b2
   go_wp2_with (first|go_skip)
   go_ret
   exact⟨StW.zae HR.out.symm,b3⟩
end Go.Proofs.YtgmdhaepiclkcaaGreatDoor.StE
namespace Go.Proofs.YtgmdhaepiclkcaaGreatDoor.CelG
set_option maxRecDepth 100000
open Go Go.RowKit Byt OpsM OpsW RowS StM StW
section
variable {ops:Array Oper} {rest:List Oper} {o:Oper} {a:Act} {w:World} {Q:Exit→Act→World→Prop}
theorem zbW {α:Type} (E:Cel.Cel α) (x:Operand) (ho:o.op=.load E.T x)
  (g:Nat) (hx:a.eval x=.pointer (some ⟨g,0,none⟩)) (y:α) (hb:Cel.Box E w g y) (hw:Region.wanted o (yielded ops a.tmps)=true) (h:wpList Tryz.prog ops Q rest (a.put o.dst (.agg (E.enc y).toArray)) w):wpList Tryz.prog ops Q (o::rest) a w:=
 RowC.zep hw (Cel.zaa E rfl x ho g hx y hb h)
theorem gop (x:Operand) (ho:o.op=.load 45 x)
  (g:Nat) (hx:a.eval x=.pointer (some ⟨g,0,none⟩)) (y:Opn) (hb:zbP w g y) (hw:Region.wanted o (yielded ops a.tmps)=true) (h:wpList Tryz.prog ops Q rest (a.put o.dst (.agg (opc y))) w):wpList Tryz.prog ops Q (o::rest) a w:=
 RowC.zep hw (zbR rfl x ho g hx y hb h)
end
end Go.Proofs.YtgmdhaepiclkcaaGreatDoor.CelG
namespace Go.Proofs.YtgmdhaepiclkcaaGreatDoor.GrowT
set_option maxRecDepth 100000
open Go Go.Sort Go.RowKit GrowL
open Forks (Tree One)
section
variable {P:Program} {ops:Array Oper} {Q:Exit→Act→World→Prop} {md:Region.Mode}
def zds (L:Nat) (md:Region.Mode) (ops:Array Oper):Tree→Array Bool→Bool
 |.ends,listed=>(Region.ready md ops listed).isEmpty
 |.free i t,listed=>((Region.ready md ops listed).contains i&&Region.free md ops listed i&&((ops[i]?).map GrowL.plain).getD false&&GrowL.ahead md ops i ops.size L)&&zds L md ops t (listed.setIfInBounds i true)
 |.act i t,listed=>Region.ready md ops listed == [i]&&zds L md ops t (listed.setIfInBounds i true)
 |.two i t j u,listed=>Region.ready md ops listed == [i,j]&&(t.size == u.size&&(zds L md ops t (listed.setIfInBounds i true)&&zds L md ops u (listed.setIfInBounds j true)))
def Seq (L:Nat) (P:Program) (ops:Array Oper) (Q:Exit→Act→World→Prop):Tree→Act→World→Prop
 |.ends,a,w=>Q .normal a w
 |.free i t,a,w=>∃o,ops[i]?=some o∧∃v,YieldsIf P ops (Below w.heap.size w) o v a∧Seq L P ops Q t (a.put o.dst v) w
 |.act i t,a,w=>One P ops Q i (fun a' w'=>Below w.heap.size w w'∧Seq L P ops Q t a' w') a w∨(i=L∧One P ops Q i (fun a' w'=>Seq L P ops Q t a' w') a w)
 |.two i t j u,a,w=>One P ops Q i (fun a' w'=>Below w.heap.size w w'∧Seq L P ops Q t a' w') a w∧One P ops Q j (fun a' w'=>Below w.heap.size w w'∧Seq L P ops Q u a' w') a w
theorem zdu {L:Nat} (hs:Region.noSelect ops=true) (hQ:∀c a d v w,Q (.panic c) (a.put d v) w→Q (.panic c) a w):∀(t:Tree) (listed:Array Bool) (a:Act) (w:World),Shut md ops listed→
  zds L md ops t listed=true→Seq L P ops Q t a w→M L P md ops Q t.size listed a w
 |.ends,listed,a,w,_,hB,h=>⟨by simpa[zds]using hB,h⟩
 |.free i t,listed,a,w,hS,hB,⟨o,ho,v,hy,h⟩=>by
  simp only[zds,Bool.and_eq_true]at hB
  obtain⟨⟨⟨⟨h1,h2⟩,_⟩,h3⟩,h4⟩:=hB
  have hr:i ∈ Region.ready md ops listed:=by simpa using h1
  exact M.first ho hs h3 (fun c a w=>hQ c a o.dst v w) t.size listed a w hS (Region.free_spec ho h2) hr hy (zdu hs hQ t _ _ _ (hS.set hr) h4 h)
 |.act i t,listed,a,w,hS,hB,h=>by
  simp only[zds,Bool.and_eq_true,beq_iff_eq]at hB
  obtain⟨h1,h4⟩:=hB
  have hS':Shut md ops (listed.setIfInBounds i true):=hS.set (by rw[h1];simp)
  refine⟨fun h0=>(by rw[h1]at h0;cases h0),fun j hj=>?_⟩
  rw[h1]at hj
  obtain rfl:j=i:=by simpa using hj
  rcases h with h|⟨e,h⟩
  ·exact h.op (fun a' w' hh=>⟨fun _=>hh.1,zdu hs hQ t _ _ _ hS' h4 hh.2⟩)
  ·exact h.op (fun a' w' hh=>⟨fun hne=>absurd e hne,zdu hs hQ t _ _ _ hS' h4 hh⟩)
 |.two i t j u,listed,a,w,hS,hB,h=>by
  simp only[zds,Bool.and_eq_true,beq_iff_eq]at hB
  obtain⟨h1,h2,h3,h4⟩:=hB
  have hI:Shut md ops (listed.setIfInBounds i true):=hS.set (by rw[h1];simp)
  have hJ:Shut md ops (listed.setIfInBounds j true):=hS.set (by rw[h1];simp)
  refine⟨fun h0=>(by rw[h1]at h0;cases h0),fun k hk=>?_⟩
  rw[h1]at hk
  obtain rfl|rfl:k=i∨k=j:=by simpa using hk
  ·exact h.1.op (fun a' w' hh=>⟨fun _=>hh.1,zdu hs hQ t _ _ _ hI h3 hh.2⟩)
  ·exact h.2.op (fun a' w' hh=>⟨fun _=>hh.1,by rw[h2];exact zdu hs hQ u _ _ _ hJ h4 hh.2⟩)
theorem region (L:Nat) {id:Nat} {a:Act} {w:World} {l:List Oper} (t:Tree) (hm:P.follows .mixedOrders=true) (hs:Region.noSelect l.toArray=true)
  (hl:t.size=l.toArray.size) (hB:zds L .any l.toArray t (Array.replicate l.toArray.size false)=true) (hQ:∀c a d v w,Q (.panic c) (a.put d v) w→Q (.panic c) a w)
  (h:Seq L P l.toArray Q t a w.drew):(Code.region id l.toArray true).wp P Q a w:=by
 refine wp_region_any hm (M.any (L:=L) _ _ _ _ ?_)
 have:=zdu (md:=.any) hs hQ t (Array.replicate l.toArray.size false) a w.drew (Shut.none _) hB h
 rw[hl]at this
 exact this
theorem reads {L:Nat} {l:List Oper} {i:Nat} {o:Oper} {t:Tree} {a:Act} {w:World} (hn:Grow.nth l i=some o) (hp:Grow.plain o=true)
  (h:wpQuiet P l.toArray (fun w'=>∃p:Regrown,w'=grow (redrawn w p.d) p.os) (fun a'=>Seq L P l.toArray Q t a' w) [o] a):Seq L P l.toArray Q (.free i t) a w:=by
 have ho:=(Grow.zb2 l i).trans hn
 unfold wpQuiet at h
 split at h
 ·rename_i hw
  obtain⟨v,h1,h2⟩:=h
  refine⟨o,ho,v,.inl ⟨hw,fun u hu=>?_⟩,h2⟩
  have q:=h1 u (regrown_of_below hu)
  unfold Oper.quietAt at q
  cases hx:(execOp a.eval o).run P u with
  |ok n u'=>
   obtain⟨x,rfl⟩:=Grow.zcp hp hx
   rw[hx]at q
   obtain⟨rfl,rfl⟩:=q
   rfl
  |halt x u'=>rw[hx]at q;exact q.elim
 ·rename_i hw
  exact⟨o,ho,undef,.inr ⟨by simpa using hw,rfl⟩,h⟩
def On (L:Nat) (P:Program) (ops:Array Oper) (Q:Exit→Act→World→Prop) (t:Tree) (w:World) (a':Act) (w':World):Prop:=Below w.heap.size w w'∧Seq L P ops Q t a' w'
theorem acts {L:Nat} {l:List Oper} {i:Nat} {o:Oper} {t:Tree} {a:Act} {w:World} (hn:Grow.nth l i=some o)
  (h:wpList P l.toArray (Exit.then (On L P l.toArray Q t w) Q) [o] a w):Seq L P l.toArray Q (.act i t) a w:=
 .inl ⟨o,(Grow.zb2 l i).trans hn,h⟩
theorem forks {L:Nat} {l:List Oper} {i j:Nat} {o p:Oper} {t u:Tree} {a:Act} {w:World} (hn:Grow.nth l i=some o) (hm:Grow.nth l j=some p)
  (h:wpList P l.toArray (Exit.then (On L P l.toArray Q t w) Q) [o] a w) (h':wpList P l.toArray (Exit.then (On L P l.toArray Q u w) Q) [p] a w):Seq L P l.toArray Q (.two i t j u) a w:=
 ⟨⟨o,(Grow.zb2 l i).trans hn,h⟩,⟨p,(Grow.zb2 l j).trans hm,h'⟩⟩
theorem last {L:Nat} {l:List Oper} {o:Oper} {a:Act} {w:World} (hn:Grow.nth l L=some o)
  (h:wpList P l.toArray (Exit.then (Done Q) Q) [o] a w):Seq L P l.toArray Q (.act L .ends) a w:=
 .inr ⟨rfl,o,(Grow.zb2 l L).trans hn,h⟩
end
end Go.Proofs.YtgmdhaepiclkcaaGreatDoor.GrowT
