/- What note and stays of the project's package pair return | A row of structs sorted | A contract of the library's, laid at this program | What staying of the project's package pair returns -/
import Derived.Test.YtgmdhaepiclkcaaGreatDoorGrewMJ5
import Derived.Test.YtgmdhaepiclkcaaGreatDoorForksJ5
import Derived.Test.YtgmdhaepiclkcaaGreatDoorRowBJ9
import Derived.Shelf.GgSortFunc.InsertionK
import Derived.Shelf.SlLaysF0
import Derived.Test.YtgmdhaepiclkcaaGreatDoorProg
import Derived.Shelf.SlSortCmp.NoneTotal
import Derived.Sort.OwnSorted
import Derived.Maps.AppendAt
namespace Go.Proofs.YtgmdhaepiclkcaaGreatDoor.PairT
set_option maxHeartbeats 8000000
set_option maxRecDepth 100000
open Go Go.RowKit Byt Rise PairM PairN RowS RowB PairW PairS PairK
def stB (n:Int):Bool:=decide (n=2)||(decide (n=4)||(decide (n=6)||decide (n=7)))
theorem zqg {a t:Int} (ht:t=1∨t=2∨t=4) (h0:0≤a) (h:a<t):bits .or .i64 a t=a+t:=by
 have:(t=1∧a=0)∨(t=2∧(a=0∨a=1))∨(t=4∧(a=0∨a=1∨a=2∨a=3)):=by omega
 rcases this with⟨rfl,rfl⟩|⟨rfl,rfl|rfl⟩|⟨rfl,rfl|rfl|rfl|rfl⟩ <;> decide
theorem zqh {a t:Int} (ht:t=1∨t=2∨t=4) (h0:0≤a) (h:a<t):bits .or .i64 (a+t) t=a+t:=by
 have:(t=1∧a=0)∨(t=2∧(a=0∨a=1))∨(t=4∧(a=0∨a=1∨a=2∨a=3)):=by omega
 rcases this with⟨rfl,rfl⟩|⟨rfl,rfl|rfl⟩|⟨rfl,rfl|rfl|rfl|rfl⟩ <;> decide
def zbV (t:Int) (f:Pr→Int) (l:List Pr):Pr→Int:=fun x=>if x ∈ l then f x+t else f x
theorem zn0 (t:Int) (f:Pr→Int):zbV t f []=f:=by
 funext x
 simp[zbV]
theorem zqk {t:Int} {f:Pr→Int} (ht:t=1∨t=2∨t=4) (hf:∀x,0≤f x∧f x<t) (l:List Pr) (x:Pr):bits .or .i64 (zbV t f l x) t=f x+t:=by
 unfold zbV
 split
 ·exact zqh ht (hf x).1 (hf x).2
 ·exact zqg ht (hf x).1 (hf x).2
theorem zmH {t:Int} {f:Pr→Int} {l:List Pr} {k:Nat} {x:Pr} (h:l[k]?=some x) (z:Pr):upd (zbV t f (l.take k)) x (f x+t) z=zbV t f (l.take (k+1)) z:=by
 obtain⟨hk,rfl⟩:=List.getElem?_eq_some_iff.1 h
 unfold upd zbV
 rw[List.take_succ_eq_append_getElem hk]
 simp only[List.mem_append,List.mem_singleton]
 by_cases hz:z=l[k]
 ·subst hz
  simp
 ·simp[hz]
theorem zoj {l:List Pr} {k:Nat} {x:Pr} (h:l[k]?=some x) (K:List Pr) (z:Pr):z ∈ x::(K++l.take k)↔z ∈ K++l.take (k+1):=by
 obtain⟨hk,rfl⟩:=List.getElem?_eq_some_iff.1 h
 rw[List.take_succ_eq_append_getElem hk]
 simp only[List.mem_cons,List.mem_append,List.not_mem_nil,or_false]
 constructor
 ·rintro(h|h|h)
  ·exact .inr (.inr h)
  ·exact .inl h
  ·exact .inr (.inl h)
 ·rintro(h|h|h)
  ·exact .inr (.inl h)
  ·exact .inr (.inr h)
  ·exact .inl h
theorem znv (n:Int) (h0:0≤n) (h8:n<8) (w:World):Calls Tryz.prog 142 #[.int .i64 n] w fun e w'=>e=.returned (.bool (stB n))∧w=w':=by
 have:n=0∨n=1∨n=2∨n=3∨n=4∨n=5∨n=6∨n=7:=by omega
 rcases this with rfl|rfl|rfl|rfl|rfl|rfl|rfl|rfl <;>
 ·go_enter Tryz.func142,Tryz.ntmps142
  go_wp2
  go_ret
  exact⟨rfl,rfl⟩
def treeN:Forks.Tree:=.free 0 (.free 3 (.act 1 (.two 2 (.free 4 (.act 5 (.free 6 (.act 7 .ends)))) 5 (.free 6 (.act 2 (.free 4 (.act 7 .ends)))))))
theorem zi8 (b n:Nat) (K:List Pr) (f:Pr→Int) (A:Option Addr) (cap:Nat) (l:List Pr) (t:Int) (w:World) (h:NumIn w b n K f) (S:SlR E w A cap l) (hf:Fits l) (ht:t=1∨t=2∨t=4) (hv:∀x,0≤f x∧f x<t) (hn:n≤100000000) (hl:l.length≤100000000):
  Calls Tryz.prog 98 #[.map (some b),.slice A l.length cap,.int .i64 t] w fun e w'=>e=.returned (.tuple #[])∧NumIn w' b (n+l.length) (K++l) (zbV t f l)∧w.grownBy w' (some b):=by
 have hcap:=S.1
 have HT:=aside ht
 have HV:=aside hv
 clear ht hv
 go_enter Tryz.func98,Tryz.ntmps98
 go_wp2_with fail
 go_loopw [10] (fun i wr=>∃k:Nat,k≤l.length∧i=.int .i64 k∧NumIn wr b (n+k) (K++l.take k) (zbV t f (l.take k))∧w.grownBy wr (some b)) (fun i _=>l.length - (intOf i).toNat)
 case atStart=>exact⟨0,Nat.zero_le _,rfl,by simpa[zn0]using h,zaq (Below.refl _ _) _⟩
 case round=>
  obtain⟨k,hk,rfl,hset,kg⟩:=hrel
  by_cases hlt:k<l.length
  ·obtain⟨g,off,rfl,hbw,hr⟩:=PairW.plain S (by omega)
   obtain⟨x,hx⟩:∃x,l[k]?=some x:=⟨_,List.getElem?_eq_getElem hlt⟩
   have hgd:=good_of (hf x (List.mem_of_getElem? hx))
   have hne:g≠b:=by
    obtain⟨D,⟨es,clock,hm,_⟩,_⟩:=h
    exact zfI hm (hr k x hx)
   have hr1:=zdC (hr k x hx) kg hbw hne
   have HK:=aside (zoj hx K)
   have HM:=aside (fun z=>zmH (t:=t) (f:=f) hx z)
   obtain⟨m,hm0⟩:∃m,zbV t f (l.take k)=m:=⟨_,rfl⟩
   have HO:Hid (bits .or .i64 (m x) t=f x+t):=aside (by rw[←hm0];exact zqk HT.out HV.out _ x)
   rw[hm0]at hset HM
   have HR:Hid (PairW.In64 (f x+t)):=aside (by have:=HV.out x;have:=HT.out;unfold PairW.In64;omega)
   have p0:(k:Int)<l.length:=by omega
   have m0:((k:Int)).toNat=k:=by omega
   clear hr S hx hf hm0 h
   go_wp2_with (first
    |(refine zal E rfl _ rfl g _ rfl x hr1 ?_)
    |(refine zac E rfl _ _ rfl _ _ _ rfl x _ rfl rfl rfl rfl ?_;intro w2 bx kx gx sx))
   have hs2:=hset.kept gx (by simp)
   have kg2:=kg.trans (gx.but _)
   clear hset kg kx gx
   refine Forks.region treeN (by kernel_rfl) (by kernel_rfl) rfl (by kernel_rfl) (by intro c a d v w h;cases d <;> exact h) ?_
   unfold treeN
   rename World=>V
   have bz:Box E V.drew _ x:=bx
   have sz:NumIn V.drew b _ _ m:=hs2
   have kz:w.grownBy V.drew (some b):=kg2.trans (zaq (zaf (Below.refl V.heap.size V)) _)
   generalize V.drew=wz at bz sz kz ⊢
   clear bx hs2 kg2
   simp only[Act.put]
   repeat (refine Forks.reads rfl rfl ?_;go_big_quiet_step (fail);refine wpQuiet_nil ?_)
   refine Forks.acts rfl ?_
   go_wp2_with (first|(refine zaa E rfl _ rfl _ rfl x bz ?_))
   refine Forks.on ?_
   refine Forks.forks rfl rfl ?_ ?_
   ·go_wp2_with (first|(refine zaY _ rfl _ _ rfl b _ _ m rfl sz x hgd rfl ?_))
    refine Forks.on ?_
    (try simp only[Act.put,List.setIfInBounds_toArray,List.set_cons_succ,List.set_cons_zero])
    repeat (refine Forks.reads rfl rfl ?_;go_big_quiet_step (fail);refine wpQuiet_nil ?_)
    refine Forks.acts rfl ?_
    go_wp2_with (first|(refine zcx _ rfl _ _ rfl b _ _ m rfl sz (by omega) x hgd rfl ?_;intro v0 st w5 g5 hl5 hst))
    refine Forks.on ?_
    (try simp only[Act.put,List.setIfInBounds_toArray,List.set_cons_succ,List.set_cons_zero])
    repeat (refine Forks.reads rfl rfl ?_;go_big_quiet_step (fail);refine wpQuiet_nil ?_)
    have HO2:=HO.out
    simp only[HO2]
    clear HO2
    refine Forks.acts rfl ?_
    have hs6:=hst w5 (f x+t) HR.out rfl
    go_wp2_with (first|(refine zfq _ rfl _ _ _ rfl b rfl st rfl (f x+t) rfl hs6 ?_;rintro w6 ⟨n6,g6⟩))
    refine Forks.on ?_
    refine Forks.ends ?_
    go_wp2_with fail
    go_roundw
    case rel=>exact⟨k+1,by omega,by go_num,(n6.congr HK.out HM.out).up (by omega),(kz.trans g5).trans g6⟩
    case measure=>simp[intOf];omega
   ·go_wp2_with (first|(refine zcx _ rfl _ _ rfl b _ _ m rfl sz (by omega) x hgd rfl ?_;intro v0 st w5 g5 hl5 hst))
    refine Forks.on ?_
    (try simp only[Act.put,List.setIfInBounds_toArray,List.set_cons_succ,List.set_cons_zero])
    repeat (refine Forks.reads rfl rfl ?_;go_big_quiet_step (fail);refine wpQuiet_nil ?_)
    refine Forks.acts rfl ?_
    obtain⟨K5,n5⟩:=hl5
    go_wp2_with (first|(refine zaY _ rfl _ _ rfl b _ _ m rfl n5 x hgd rfl ?_))
    refine Forks.on ?_
    (try simp only[Act.put,List.setIfInBounds_toArray,List.set_cons_succ,List.set_cons_zero])
    repeat (refine Forks.reads rfl rfl ?_;go_big_quiet_step (fail);refine wpQuiet_nil ?_)
    have HO2:=HO.out
    simp only[HO2]
    clear HO2
    refine Forks.acts rfl ?_
    have hs6:=hst w5 (f x+t) HR.out rfl
    go_wp2_with (first|(refine zfq _ rfl _ _ _ rfl b rfl st rfl (f x+t) rfl hs6 ?_;rintro w6 ⟨n6,g6⟩))
    refine Forks.on ?_
    refine Forks.ends ?_
    go_wp2_with fail
    go_roundw
    case rel=>exact⟨k+1,by omega,by go_num,(n6.congr HK.out HM.out).up (by omega),(kz.trans g5).trans g6⟩
    case measure=>simp[intOf];omega
  ·have e:k=l.length:=by omega
   subst e
   rw[List.take_length]at hset
   go_wp2_with fail
   go_end0
   exact⟨rfl,hset,kg⟩
end Go.Proofs.YtgmdhaepiclkcaaGreatDoor.PairT
namespace Go.Proofs.YtgmdhaepiclkcaaGreatDoor.RowZ
set_option maxRecDepth 100000
open Go Go.Shelf Go.Sort Go.RowKit Go.Lib RowS RowB
variable {α:Type} [Inhabited α] (E:Enc α)
theorem zfW (l:List α):flatK E.enc E.k l.toArray=(flat E l).toArray:=by
 refine ext_get! (by simp[flat_length]) (fun t ht=>?_)
 have ht':t<l.length * E.k:=by simpa using ht
 have hpos:=E.pos
 have hi:t / E.k<l.length:=(Nat.div_lt_iff_lt_mul hpos).2 ht'
 have hj:t % E.k<E.k:=Nat.mod_lt _ hpos
 have hx:l[t / E.k]?=some l[t / E.k]:=List.getElem?_eq_getElem hi
 have hv:(E.enc l[t / E.k])[t % E.k]?=some ((E.enc l[t / E.k])[t % E.k]'(by rw[E.len];exact hj)):=List.getElem?_eq_getElem _
 have e:=zcd E l _ _ _ _ hx hv
 rw[show t / E.k * E.k+t % E.k=t by rw[Nat.mul_comm];exact Nat.div_add_mod t E.k]at e
 rw[get_flatK _ _ _ t (by simpa using ht')]
 have q1:(flat E l).toArray[t]! =(E.enc l[t / E.k])[t % E.k]'(by rw[E.len];exact hj):=by
  rw[Array.getElem!_eq_getD,Array.getD_eq_getD_getElem?,List.getElem?_toArray,e]
  rfl
 have q2:l.toArray[t / E.k]! =l[t / E.k]:=by
  rw[Array.getElem!_eq_getD,Array.getD_eq_getD_getElem?,List.getElem?_toArray,hx]
  rfl
 rw[q1,q2,List.getElem!_eq_getElem?_getD,hv]
 rfl
theorem ziU (w:World) (blk off:Nat) (d:Array α):(putRowK E.enc E.k w blk off d).heap.size=w.heap.size:=by simp[putRowK,putRow,mapBlock]
variable {E}
omit [Inhabited α] in
theorem zhD {w:World} {base g cap:Nat} {l:List α} (h:w.ownsRow base E.T E.k (.slice (some ⟨g,0,none⟩) l.length cap) l.length (flat E l)):base≤g∧g<w.heap.size:=h.lt g rfl
theorem zhW {w:World} {base g cap:Nat} {l:List α} (h:w.ownsRow base E.T E.k (.slice (some ⟨g,0,none⟩) l.length cap) l.length (flat E l)):HoldsK E.enc E.k w g 0 l.toArray:=by
 unfold HoldsK Holds
 rw[zfW]
 intro j hj
 have hj':j<(flat E l).length:=by simpa using hj
 refine⟨?_,by rw[Nat.zero_add];exact h.frozenAt j⟩
 rw[Nat.zero_add,h.cellAt j (by rw[flat_length]at hj';exact hj'),List.getElem?_eq_getElem hj']
 rw[Array.getElem!_eq_getD,Array.getD_eq_getD_getElem?,List.getElem?_toArray,List.getElem?_eq_getElem hj']
 rfl
theorem zgf {w:World} {base g cap:Nat} {l l':List α} (h:w.ownsRow base E.T E.k (.slice (some ⟨g,0,none⟩) l.length cap) l.length (flat E l)) (hl:l'.length=l.length) (n:Nat) (os:Array Obj):
  (sortWorldK E.enc E.k w g 0 n l'.toArray os).ownsRow base E.T E.k (.slice (some ⟨g,0,none⟩) l.length cap) l.length (flat E l')∧w.grownBy (sortWorldK E.enc E.k w g 0 n l'.toArray os) (some g):=by
 have hlt:=(zhD h).2
 constructor
 ·refine⟨by rw[flat_length,hl],?_⟩
  rcases h.2 with⟨e,_⟩|⟨g',cap',cur,e,hbg,hg,h1,h2,h3,h4⟩
  ·cases e
  ·injection e with e1 e2 e3
   injection e1 with e1
   injection e1 with e1
   subst e1
   subst e3
   refine .inr ⟨g,cap,putCells id 0 (flat E l').toArray cur,rfl,hbg,?_,h1,h2,by simpa[putCells]using h3,?_⟩
   ·unfold sortWorldK
    rw[Sort.heap_grow_old _ _ (by rw[ziU];exact hlt)]
    unfold putRowK putRow mapBlock
    rw[zfW]
    show(Array.modify w.heap g _)[g]?=_
    rw[Array.getElem?_modify,if_pos rfl,hg]
    rfl
   ·have hc:l.length * E.k≤cur.size:=by rw[h3];exact Nat.mul_le_mul_right _ h1
    apply List.ext_getElem?
    intro j
    rw[List.getElem?_take]
    by_cases hj:j<l.length * E.k
    ·have hj':j<(flat E l').length:=by rw[flat_length,hl];exact hj
     rw[if_pos hj,Array.getElem?_toList,putCells,Array.getElem?_mapIdx,Array.getElem?_eq_getElem (by omega),Option.map_some,if_pos ⟨Nat.zero_le _,by simpa using hj'⟩,List.getElem?_eq_getElem hj']
     simp only[id,Nat.sub_zero]
     rw[Array.getElem!_eq_getD,Array.getD_eq_getD_getElem?,List.getElem?_toArray,List.getElem?_eq_getElem hj']
     rfl
    ·rw[if_neg hj,List.getElem?_eq_none (by rw[flat_length,hl];omega)]
 ·unfold sortWorldK
  refine⟨rfl,rfl,rfl,?_,fun i hi hne=>?_⟩
  ·rw[Sort.size_grow,ziU]
   exact Nat.le_add_right _ _
  ·rw[Sort.heap_grow_old _ _ (by rw[ziU];exact hi)]
   show(Array.modify w.heap g _)[i]?=_
   rw[Array.getElem?_modify,if_neg (fun e=>hne (by rw[e]))]
end Go.Proofs.YtgmdhaepiclkcaaGreatDoor.RowZ
namespace Go.Proofs
set_option maxRecDepth 100000
open Go.Shelf
def Tryz.ziT:Go.Shelf.Ren:=⟨fun|6=>143|15=>151|14=>173|28=>184|29=>185|20=>210|21=>211|22=>212|23=>213|24=>214|25=>215|26=>216|27=>217|46=>237|47=>220|48=>221|49=>238|50=>239|57=>246|n=>n,fun|22=>28|24=>58|25=>177|3=>3|39=>184|0=>0|53=>161|55=>157|4=>4|46=>203|45=>202|50=>207|5=>5|9=>9|66=>229|70=>233|76=>245|77=>246|n=>n,fun|n=>n⟩
theorem Tryz.zjM:Go.Proofs.SlLaysF0.n6 Tryz.prog Tryz.ziT:={
 mixed:=by kernel_rfl
 f6:=⟨Tryz.f143.name,by decide,Tryz.func143.trans (congrArg some (by kernel_rfl))⟩
 f14:=⟨Tryz.f173.name,by decide,Tryz.func173.trans (congrArg some (by kernel_rfl))⟩
 f15:=Tryz.func151.trans (congrArg some (by kernel_rfl))
 f20:=⟨Tryz.f210.name,by decide,Tryz.func210.trans (congrArg some (by kernel_rfl))⟩
 f21:=⟨Tryz.f211.name,by decide,Tryz.func211.trans (congrArg some (by kernel_rfl))⟩
 f22:=⟨Tryz.f212.name,by decide,Tryz.func212.trans (congrArg some (by kernel_rfl))⟩
 f23:=⟨Tryz.f213.name,by decide,Tryz.func213.trans (congrArg some (by kernel_rfl))⟩
 f24:=⟨Tryz.f214.name,by decide,Tryz.func214.trans (congrArg some (by kernel_rfl))⟩
 f25:=⟨Tryz.f215.name,by decide,Tryz.func215.trans (congrArg some (by kernel_rfl))⟩
 f26:=⟨Tryz.f216.name,by decide,Tryz.func216.trans (congrArg some (by kernel_rfl))⟩
 f27:=⟨Tryz.f217.name,by decide,Tryz.func217.trans (congrArg some (by kernel_rfl))⟩
 f28:=Tryz.func184.trans (congrArg some (by kernel_rfl))
 f29:=Tryz.func185.trans (congrArg some (by kernel_rfl))
 f46:=⟨Tryz.f237.name,by decide,Tryz.func237.trans (congrArg some (by kernel_rfl))⟩
 f47:=Tryz.func220.trans (congrArg some (by kernel_rfl))
 f48:=Tryz.func221.trans (congrArg some (by kernel_rfl))
 f49:=⟨Tryz.f238.name,by decide,Tryz.func238.trans (congrArg some (by kernel_rfl))⟩
 f50:=⟨Tryz.f239.name,by decide,Tryz.func239.trans (congrArg some (by kernel_rfl))⟩
 f57:=⟨Tryz.f246.name,by decide,Tryz.func246.trans (congrArg some (by kernel_rfl))⟩
 t0:=Tryz.underlying0
 a0:=Tryz.isAgg0
 z0:=Tryz.sizeOf0
 v0:=Tryz.zeroValue0
 t3:=Tryz.underlying3
 a3:=Tryz.isAgg3
 z3:=Tryz.sizeOf3
 v3:=Tryz.zeroValue3
 t4:=Tryz.underlying4
 a4:=Tryz.isAgg4
 z4:=Tryz.sizeOf4
 v4:=Tryz.zeroValue4
 t5:=Tryz.underlying5
 a5:=Tryz.isAgg5
 z5:=Tryz.sizeOf5
 v5:=Tryz.zeroValue5
 t9:=Tryz.underlying9
 a9:=Tryz.isAgg9
 z9:=Tryz.sizeOf9
 v9:=Tryz.zeroValue9
 t22:=Tryz.underlying28
 a22:=Tryz.isAgg28
 z22:=Tryz.sizeOf28
 v22:=Tryz.zeroValue28
 t25:=Tryz.underlying177
 a25:=Tryz.isAgg177
 z25:=Tryz.sizeOf177
 v25:=Tryz.zeroValue177
 t39:=Tryz.underlying184
 a39:=Tryz.isAgg184
 z39:=Tryz.sizeOf184
 v39:=Tryz.zeroValue184
 t45:=Tryz.underlying202
 a45:=Tryz.isAgg202
 z45:=Tryz.sizeOf202
 v45:=Tryz.zeroValue202
 t46:=Tryz.underlying203
 a46:=Tryz.isAgg203
 z46:=Tryz.sizeOf203
 v46:=Tryz.zeroValue203
 t50:=Tryz.underlying207
 a50:=Tryz.isAgg207
 z50:=Tryz.sizeOf207
 v50:=Tryz.zeroValue207
 t53:=Tryz.underlying161
 a53:=Tryz.isAgg161
 z53:=Tryz.sizeOf161
 v53:=Tryz.zeroValue161
 t55:=Tryz.underlying157
 a55:=Tryz.isAgg157
 z55:=Tryz.sizeOf157
 v55:=Tryz.zeroValue157
 t66:=Tryz.underlying229
 a66:=Tryz.isAgg229
 z66:=Tryz.sizeOf229
 v66:=Tryz.zeroValue229
 t70:=Tryz.underlying233
 a70:=Tryz.isAgg233
 z70:=Tryz.sizeOf233
 v70:=Tryz.zeroValue233
 t76:=Tryz.underlying245
 a76:=Tryz.isAgg245
 z76:=Tryz.sizeOf245
 v76:=Tryz.zeroValue245
 t77:=Tryz.underlying246
 a77:=Tryz.isAgg246
 z77:=Tryz.sizeOf246
 v77:=Tryz.zeroValue246}
end Go.Proofs
namespace Go.Proofs.YtgmdhaepiclkcaaGreatDoor.PairJ
set_option maxHeartbeats 8000000
set_option maxRecDepth 100000
open Go Go.RowKit Go.Shelf Go.Sort Go.Lib Byt Rise PairM PairN RowS RowB PairW PairS PairK PairT PairO
instance:Inhabited Pr:=⟨⟨⟨#[]⟩,⟨#[]⟩,0,0⟩⟩
theorem lt_is (x y:Pr):ltOf cf x y=zba x y:=cf_less x y
theorem swo:SWO (ltOf cf) where
 irrefl x:=by rw[lt_is];exact zc2.irrefl x
 trans x y z h1 h2:=by rw[lt_is]at *;exact zc2.trans x y z h1 h2
 ntrans x y z h1 h2:=by
  rw[lt_is]at *
  cases h3:zba x z with
  |false=>rfl
  |true=>
   by_cases hxy:x=y
   ·subst hxy;rw[h3]at h2;cases h2
   ·rcases zjh (x:=x) (p:=y) hxy with h4|h4
    ·rw[h4]at h1;cases h1
    ·have h5:=zc2.trans _ _ _ h4 h3
     rw[h2]at h5
     cases h5
theorem zlb (blk off size:Nat) (w:World):CmpLays Tryz.prog 144 #[] E.enc 4 cf blk off size w:=fun _ _ _ _ x y=>zdF x y _
theorem agg_pair (w:World):(isAgg 58).run Tryz.prog w=.ok true w:=by kernel_rfl
theorem znD (w:World):(Go.sizeOf 58).run Tryz.prog w=.ok 4 w:=by kernel_rfl
theorem sortf (blk off cap:Nat) (d:Array Pr) (w:World) (hH:HoldsK E.enc 4 w blk off d) (hblk:blk<w.heap.size) (hsz:d.size<4611686018427387904):
  Calls Tryz.prog 143 #[.slice (some ⟨blk,off,none⟩) d.size cap,.func (.func 144) #[] #[]] w fun e w'=>
   e=.returned (.tuple #[])∧∃d' n os,PermIn 0 d.size d d'∧SortedIn (ltOf cf) 0 d.size d'∧w'=sortWorldK E.enc 4 w blk off n d' os:=by
 have eg:∀args w,(callFunc 144 args).run Tryz.prog w=.ok (.enter 144 args) w:=enters_of Tryz.func144 (by kernel_rfl) rfl
 exact AnyQ.slices_SortFunc Tryz.zjM 4 agg_pair znD E.enc E.len (fun x v hv=>E.one x v hv) cf swo 144 #[] blk off cap d w eg (zlb blk off d.size w) hH hblk hsz
theorem zew {l l':List Pr} (hn:l.Nodup) (hp:PermIn 0 l.length l.toArray l'.toArray) (hs:SortedIn (ltOf cf) 0 l.length l'.toArray):l'.length=l.length∧zjC l'∧∀x,x ∈ l'↔x ∈ l:=by
 have hl:l'.length=l.length:=by simpa using hp.1
 have hperm:l'.Perm l:=by
  have q:=hp.2.2
  have e1:(l.toArray.extract 0 l.length).toList=l:=by simp
  have e2:(l'.toArray.extract 0 l.length).toList=l':=by rw[←hl];simp
  rw[e1,e2]at q
  exact q
 refine⟨hl,?_,fun x=>hperm.mem_iff⟩
 have hn':l'.Nodup:=hperm.nodup_iff.2 hn
 unfold zjC Rises
 rw[List.pairwise_iff_getElem]
 intro i j hi hj hij
 have q:=hs i j (Nat.zero_le _) hij (by omega)
 rw[lt_is]at q
 have e:∀(k:Nat) (hk:k<l'.length),l'.toArray[k]! =l'[k]:=by
  intro k hk
  rw[Array.getElem!_eq_getD,Array.getD_eq_getD_getElem?,List.getElem?_toArray,List.getElem?_eq_getElem hk]
  rfl
 rw[e i hi,e j hj]at q
 have hne:l'[i]≠l'[j]:=List.pairwise_iff_getElem.1 (List.nodup_iff_pairwise_ne.1 hn') i j hi hj hij
 rcases zjh hne with h|h
 ·exact h
 ·exact absurd h (by show ¬zba l'[j] l'[i]=true;rw[q];simp)
theorem zft {w:World} {base:Nat} {v:Value} {l:List Pr} (h:w.ownsRow base E.T 4 v l.length (flat E l)) (hn:l.Nodup) (hl:l.length≤100000000):
  Calls Tryz.prog 143 #[v,.func (.func 144) #[] #[]] w fun e w'=>
   e=.returned (.tuple #[])∧∃l',w'.ownsRow base E.T 4 v l'.length (flat E l')∧zjC l'∧(∀x,x ∈ l'↔x ∈ l)∧w.grownBy w' v.ownBlock:=by
 by_cases h0:l.length=0
 ·have e:=List.eq_nil_of_length_eq_zero h0
  subst e
  obtain⟨A,cap,rfl,_⟩:=SlR.own h
  refine(AnyF.slices_SortFunc_none Tryz.zjM A cap _ w).mono ?_
  rintro e w' ⟨rfl,rfl⟩
  exact⟨rfl,[],h,List.Pairwise.nil,fun x=>Iff.rfl,zaq (Below.refl _ _) _⟩
 ·rcases h.2 with⟨_,e⟩|⟨g,cap,cur,rfl,hbg,hg,h1,h2,h3,h4⟩
  ·exact absurd e h0
  ·have hlt:=(RowZ.zhD (E:=E) h).2
   have q:=sortf g 0 cap l.toArray w (RowZ.zhW (E:=E) h) hlt (by simp;omega)
   rw[List.size_toArray]at q
   refine q.mono ?_
   rintro e w' ⟨rfl,d',n,os,hp,hso,rfl⟩
   obtain⟨l'⟩:=d'
   obtain⟨e1,e2,e3⟩:=zew hn hp hso
   have:=RowZ.zgf (E:=E) h e1 n os
   refine⟨rfl,l',?_,e2,e3,this.2⟩
   rw[e1]
   exact this.1
abbrev Ranges (w:World) (b r n:Nat) (D:DataW Unit) (left:Lit→Bool) (cnt:Nat):Prop:=w.ranges Tryz.prog 58 (plainElem Tryz.prog 3) b r n D left cnt
theorem zeM {w:World} {b n:Nat} {D:DataW Unit} {base m k:Nat} {T:TypeId} {v:Value} {xs:List Value} (h:w.ownsMap Tryz.prog 58 (plainElem Tryz.prog 3) b n D) (hr:w.ownsRow base T k v m xs):some b≠v.ownBlock:=by
 obtain⟨es,clock,hb,_⟩:=h
 rcases hr.2 with⟨rfl,_⟩|⟨g,cap,cur,rfl,_,hg,_⟩
 ·simp[Value.ownBlock]
 ·intro e
  simp only[Value.ownBlock,Option.some.injEq]at e
  subst e
  rw[hb]at hg
  cases hg
theorem zpN {L acc:List Pr} {f:Pr→Int} {left:Lit→Bool} {x:Pr} (hL:∀z,z ∈ L→Gd z) (h:∀z,z ∈ acc↔z ∈ L∧stB (f z)=true∧left (key z)=false) (hx:x ∈ L) (hs:stB (f x)=true):∀z,z ∈ acc++[x]↔z ∈ L∧stB (f z)=true∧(left (key z)&& !(key z).sameKey (key x))=false:=by
 intro z
 rw[List.mem_append,h,List.mem_singleton]
 by_cases hz:z=x
 ·subst hz
  simp[zcy (hL _ hx),hx,hs]
 ·constructor
  ·rintro(⟨h1,h2,h3⟩|h1)
   ·exact⟨h1,h2,by rw[h3];rfl⟩
   ·exact absurd h1 hz
  ·rintro⟨h1,h2,h3⟩
   have:(key z).sameKey (key x)=false:=Maps.sameKey_ne (fun e=>hz (key_inj (hL _ h1) (hL _ hx) e))
   rw[this]at h3
   exact .inl ⟨h1,h2,by simpa using h3⟩
theorem step_no {L acc:List Pr} {f:Pr→Int} {left:Lit→Bool} {x:Pr} (hL:∀z,z ∈ L→Gd z) (h:∀z,z ∈ acc↔z ∈ L∧stB (f z)=true∧left (key z)=false) (hx:x ∈ L) (hs:stB (f x)=false):∀z,z ∈ acc↔z ∈ L∧stB (f z)=true∧(left (key z)&& !(key z).sameKey (key x))=false:=by
 intro z
 rw[h]
 by_cases hz:z=x
 ·subst hz
  simp[hs]
 ·constructor
  ·rintro⟨h1,h2,h3⟩
   exact⟨h1,h2,by rw[h3];rfl⟩
  ·rintro⟨h1,h2,h3⟩
   have:(key z).sameKey (key x)=false:=Maps.sameKey_ne (fun e=>hz (key_inj (hL _ h1) (hL _ hx) e))
   rw[this]at h3
   exact⟨h1,h2,by simpa using h3⟩
theorem zgJ (w:World) {ops:Array Oper} {rest:List Oper} {o:Oper} {a:Act} {Q:Exit→Act→World→Prop} (hg:o.guard=none) (it:Operand) (hop:o.op=Op.next it false) (b r n:Nat) (D:DataW Unit) (left:Lit→Bool) (cnt:Nat) (K:List Pr) (f:Pr→Int) (hD:zpw D K f)
  (hit:a.eval it=.pointer (some ⟨r,0,none⟩)) (h:Ranges w b r n D left cnt)
  (hDone:(∀kl,left kl=false)→wpList Tryz.prog ops Q rest (a.put o.dst (.tuple #[.bool false])) w)
  (hMore:∀(x:Pr) (w':World) (cnt':Nat),x ∈ K→left (key x)=true→Ranges w' b r n D (fun z=>left z&& !z.sameKey (key x)) cnt'→cnt'<cnt→
   w.grownBy w' (some r)→(Instr.entry (.pointer (some ⟨r,0,none⟩))).run Tryz.prog w'=.ok (.tuple #[.agg (pc x),.int .i64 (f x)]) w'→wpList Tryz.prog ops Q rest (a.put o.dst (.tuple #[.bool true,.agg (pc x),.int .i64 (f x)])) w'):
  wpList Tryz.prog ops Q (o::rest) a w:=by
 refine wpList_next_ranges w hg it hop 58 law (plainElem Tryz.prog 3) (fun x:Pr=>.agg (pc x)) (Value.int .i64) (fun _ _ hk=>by obtain⟨x,_,h,_⟩:=zdM hk;exact⟨x,h⟩) (fun _ _ hv=>by obtain⟨c,rfl,_⟩:=plainElem_int_inv Tryz.underlying3 hv;exact⟨c,rfl⟩) b r n D left cnt hit h (fun _ hl=>hDone hl) ?_
 intro x c kl y w' cnt' hkey hlx hv hat hrg hlt hgr _ hen
 obtain⟨x',hx',e1,e2⟩:=zdM hkey
 injection e1 with e1
 obtain rfl:=pc_inj e1
 subst e2
 have hxK:x ∈ K:=(hD.1 x hx').1 (Maps.has_true_of_atKey hat)
 obtain⟨c',hc1,hc2,_⟩:=plainElem_int_inv Tryz.underlying3 hv
 injection hc1 with _ hc1
 subst hc1
 have hc:c=f x:=by
  have q:=hat (.lit (.int .i64 0))
  rw[hD.2.1 x hxK]at q
  rw[hc2]at q
  injection q with q
  injection q with _ q
  exact q.symm
 subst hc
 exact hMore x w' cnt' hxK hlx hrg hlt hgr hen
theorem zkC (b n:Nat) (K:List Pr) (f:Pr→Int) (T:List Pr) (w:World) (h:NumIn w b n K f) (hn:n≤100000000) (h8:∀x,0≤f x∧f x<8) (hT:zjC T) (hm:∀x,x ∈ T↔x ∈ K∧stB (f x)=true):
  Calls Tryz.prog 99 #[.map (some b)] w (NewR E T w):=by
 obtain⟨D,hown,hD⟩:=h
 have hsz:=hown.size_le
 obtain⟨i,hi,z0,z1,z2⟩:=info_parts E.info
 obtain⟨w1,hmk,zfw,g1⟩:=run_make_own (P:=Tryz.prog) w w.heap.size 28 58 i (.agg (E.enc E.zero).toArray) 4 Tryz.underlying28 hi z0 z1 .i64 .i64 (Maps.size D) (by rw[z2];show 48 * _≤_;omega) (by unfold maxLen;omega) (Nat.le_refl _)
 have hown1:=hown.kept g1 (by simp)
 have kb1:Below w.heap.size w w1:=below_grown (Below.refl _ _) (Nat.le_refl _) g1 (fun k hk=>by cases hk)
 have HT:=aside hT
 have HM:=aside hm
 have H8:=aside h8
 clear hi z0 z1 z2 hT hm h8
 go_enter Tryz.func99,Tryz.ntmps99
 go_wp2_with (first
  |(at_len;refine wpList_len_own _ rfl _ 141 rfl 58 3 Tryz.underlying141 _ b n D rfl hown ?_)
  |(at_range;refine wpList_range_own _ rfl _ 141 rfl 58 3 law Tryz.underlying141 _ b n _ rfl hown1 ?_;intro w0 hrg0 hg0 hs0))
 go_frame
 have own0:w0.ownsRow w.heap.size E.T 4 (.slice (some ⟨w.heap.size,0,none⟩) 0 (Maps.size D)) 0 []:=zfw.kept hg0 (by simp[Value.ownBlock])
 have kb0:Below w.heap.size w w0:=below_grown kb1 kb1.size hg0 (fun k hk=>by cases hk)
 clear zfw hown1 g1 hmk
 go_loopw [3] (fun v wr=>∃(left:Lit→Bool) (cnt:Nat) (acc:List Pr),Ranges wr b w1.heap.size n D left cnt∧wr.ownsRow w.heap.size E.T 4 v acc.length (flat E acc)∧acc.Nodup∧Hid (∀x,x ∈ acc↔x ∈ K∧stB (f x)=true∧left (key x)=false)∧acc.length+cnt≤n∧Below w.heap.size w wr)
  (fun _ wr=>wr.rangeLeft b w1.heap.size)
 case atStart=>
  refine⟨_,_,[],hrg0,own0,List.nodup_nil,aside (fun x=>?_),by simpa using hsz,kb0⟩
  by_cases hx:x ∈ K
  ·have:=(hD.1 x (hD.2.2.2 x hx)).2 hx
   simp[hx,this]
  ·simp[hx]
 case round=>
  clear hrg0 own0 kb0 hg0 hs0
  obtain⟨left,cnt,acc,hrg,hrow,hnd,hmem,hle,kb⟩:=hrel
  go_wp2_with (first
   |(at_next;refine zgJ _ rfl _ rfl b w1.heap.size n _ _ _ K f hD rfl hrg ?_ ?_))
  ·intro hl0
   have hmem':∀x,x ∈ acc↔x ∈ K∧stB (f x)=true:=fun x=>by rw[hmem.out x,hl0 (key x)];simp
   have HM':=aside hmem'
   have hso:=zft hrow hnd (by omega)
   clear hmem'
   go_wp2_with fail
   refine hso.mono ?_
   rintro e w3 ⟨rfl,l',h3,s1,s2,g3⟩
   have e1:l'=T:=det s1 HT.out (fun x=>by rw[s2,HM'.out,HM.out])
   subst e1
   clear s1 s2 hso
   go_wp2_with fail
   go_ret
   exact⟨_,rfl,h3,below_grown kb kb.size g3 (fun k hk=>(hrow.lt k hk).1)⟩
  ·intro x w2 cnt1 hxK hlx hrg1 hlt hg1 hen
   have hrow1:=hrow.kept hg1 (.inr (fun e=>row_ne_iter hrow hrg e.symm))
   have kb2:Below w.heap.size w w2:=below_grown kb kb.size hg1 (fun k hk=>by cases hk;exact kb1.size)
   have hs:=fun W=>znv (f x) (H8.out x).1 (H8.out x).2 W
   obtain⟨z,hz⟩:∃z,stB (f x)=z:=⟨_,rfl⟩
   rw[hz]at hs
   have HZ:=aside hz
   clear hz
   cases z with
   |true=>
    have HS:=aside (zpN hD.2.2.2 hmem.out hxK HZ.out)
    go_wp2_with (first
     |(refine zac E rfl _ _ rfl _ _ _ rfl x _ rfl rfl rfl rfl ?_;intro w3 bx kx gx sx)
     |(refine(hs _).mono ?_;rintro e w' ⟨rfl,rfl⟩)
     |(refine zaa E rfl _ rfl _ rfl x bx ?_)
     |(refine RowC.zat E (of_decide_eq_true rfl) rfl _ rfl x rfl ?_)
     |(refine zay E rfl (.tmp 18) (.tmp 20) rfl w.heap.size _ _ acc rfl ((hrow1.kept gx (Classical.em _)).alloc _) w3.heap.size x rfl (Box.new w3 x _) (by omega) (by have:=kb2.size;have:=kx.size;simp;omega) ?_;intro v' w4 hrow4 hg4 hv4))
    have hgA:w2.grownBy w4 _:=((gx.but _).trans (World.grownBy_alloc w3 (.cells (E.enc x).toArray 58) _)).trans hg4
    have hrg4:=hrg1.kept hgA (zeM hrg1.owns hrow1) (row_ne_iter hrow1 hrg1)
    clear hs bx kx gx
    go_roundw
    case rel=>
     refine⟨_,cnt1,acc++[x],hrg4,by rw[List.length_append];exact hrow4,?_,HS,by simp;omega,below_grown kb2 kb2.size hgA (fun k hk=>(hrow.lt k hk).1)⟩
     rw[List.nodup_append]
     refine⟨hnd,by simp,fun a ha b hb=>?_⟩
     rintro rfl
     simp at hb
     subst hb
     rw[((hmem.out a).1 ha).2.2]at hlx
     cases hlx
    case measure=>rw[hrg4.left_eq,hrg.left_eq];exact hlt
   |false=>
    have HS:=aside (step_no hD.2.2.2 hmem.out hxK HZ.out)
    go_wp2_with (first
     |(refine zac E rfl _ _ rfl _ _ _ rfl x _ rfl rfl rfl rfl ?_;intro w3 bx kx gx sx)
     |(refine(hs _).mono ?_;rintro e w' ⟨rfl,rfl⟩))
    have hrg4:=hrg1.kept gx (by simp) (by simp)
    have hrow4:=hrow1.kept gx (Classical.em _)
    have kb4:=kb2.trans (kx.mono kb2.size)
    clear hs bx kx gx
    go_roundw
    case rel=>exact⟨_,cnt1,acc,hrg4,hrow4,hnd,HS,by omega,kb4⟩
    case measure=>rw[hrg4.left_eq,hrg.left_eq];exact hlt
end Go.Proofs.YtgmdhaepiclkcaaGreatDoor.PairJ
