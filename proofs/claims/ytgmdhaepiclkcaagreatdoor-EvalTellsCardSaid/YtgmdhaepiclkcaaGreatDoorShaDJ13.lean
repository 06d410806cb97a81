/- What sha.spread returns | Plain facts on bytes as they are summed | Plain facts on a content's sum | The sums of three known texts | What a walk is told of a slice of integers that came in, and how a rea | Bytes as numbers and as strings, and worlds that grow | Bytes | Plain facts on numbers in bytes | What enc.Num, enc.Fold, enc.Unfold and enc.Text return | Plain facts on the digits that bytes begin with, each with whether it | What enc.digits hands to a loop | What enc.Get returns | Bytes in regions that draw their order -/
import Derived.Test.YtgmdhaepiclkcaaGreatDoorRotMJ9
import Derived.RegionTactic
import Derived.StillTailTactics
import Derived.BigRegion
import Derived.Outline
import Derived.Laws.CopyOwn
import Derived.WalkKit
import Derived.ProofKit
import Derived.OpenShut
import Derived.Test.YtgmdhaepiclkcaaGreatDoorRows
import Derived.Handy
import Derived.Laws.AppendOwn
import Derived.Laws.AppendOwnNone
import Derived.Laws.IdiomStrings
import Derived.DataElems
import Derived.Lib.AppendStr
import Derived.OwnWalk
import Derived.Deep.QuietTactic
import Derived.BigQuiet
import Derived.IntWalk
import Derived.RangeFuncNested
import Derived.RangeFuncBound
import Derived.RangeFuncCalls
import Derived.RangeFuncLeaves
import Derived.Shelf.Abstract
import Derived.Shelf.RegionOpen
import Derived.OwnWalkIn
import Derived.TacticsInMore
import Derived.LoopNIn
import Derived.LoopIn
import Derived.Deep.RegionLaw
namespace Go.Proofs.YtgmdhaepiclkcaaGreatDoor.ShaD
set_option maxHeartbeats 1000000
set_option maxRecDepth 100000
open Go.RowKit RotM RotN RotC RotD ShaM ShaC RotG Small
def wordsOf (f:Nat→Int) (i:Nat):BitVec 32:=BitVec.ofInt 32 (zkb (f (4 * i)) (f (4 * i+1)) (f (4 * i+2)) (f (4 * i+3)))
theorem znk {f:Nat→Int} (hf:∀i,B (f i)) (i:Nat):u (wordsOf f i)=zkb (f (4 * i)) (f (4 * i+1)) (f (4 * i+2)) (f (4 * i+3)):=by
 obtain⟨x,hx⟩:∃x:BitVec 32,zkb (f (4 * i)) (f (4 * i+1)) (f (4 * i+2)) (f (4 * i+3))=u x:=by
  have h:=zk2 (hf (4 * i)) (hf (4 * i+1)) (hf (4 * i+2)) (hf (4 * i+3))
  exact u_of (by simp[Lit.wf,IntKind.min,IntKind.max,IntKind.bits,IntKind.signed];omega)
 unfold wordsOf
 rw[hx,zfh]
def sp (m:Nat→BitVec 32) (k:Nat):Array Value:=Array.ofFn (n:=64) fun j=>Value.int .u32 (if j.val<k then u (wd m j.val)else 0)
theorem zcm (m:Nat→BitVec 32) (k:Nat):(sp m k).size=64:=by simp[sp]
theorem zkE (m:Nat→BitVec 32) (k:Nat) {j:Nat} (hj:j<64):(sp m k)[j]?=some (.int .u32 (if j<k then u (wd m j)else 0)):=by
 simp[sp,hj]
theorem zee (m:Nat→BitVec 32) {k j:Nat} (hj:j<k) (hk:k≤64):(sp m k)[j]?=some (.int .u32 (u (wd m j))):=by
 rw[zkE m k (by omega),if_pos hj]
theorem zls (m:Nat→BitVec 32) {k:Nat} (hk:k<64):(sp m k).setIfInBounds k (.int .u32 (u (wd m k)))=sp m (k+1):=by
 apply Array.ext_getElem?
 intro j
 rw[Array.getElem?_setIfInBounds]
 by_cases hj:j<64
 ·rw[zkE m k hj,zkE m (k+1) hj,zcm]
  by_cases e:k=j
  ·subst e;simp[hk]
  ·have:(j<k)↔(j<k+1):=by omega
   simp[e,this]
 ·simp[sp,show ¬j<64 from hj,show ¬k=j by omega]
theorem zjK (m:Nat→BitVec 32) (k:Nat):(sp m k).all (·.oneCell')=true:=by
 rw[Array.all_eq_true_iff_forall_mem]
 intro v hv
 obtain⟨i,rfl⟩:=Array.mem_ofFn.1 hv
 rfl
theorem zkD (m:Nat→BitVec 32):sp m 0= #[.int .u32 0,.int .u32 0,.int .u32 0,.int .u32 0,.int .u32 0,.int .u32 0,.int .u32 0,.int .u32 0,.int .u32 0,.int .u32 0,.int .u32 0,.int .u32 0,.int .u32 0,.int .u32 0,.int .u32 0,.int .u32 0,.int .u32 0,.int .u32 0,.int .u32 0,.int .u32 0,.int .u32 0,.int .u32 0,.int .u32 0,.int .u32 0,.int .u32 0,.int .u32 0,.int .u32 0,.int .u32 0,.int .u32 0,.int .u32 0,.int .u32 0,.int .u32 0,.int .u32 0,.int .u32 0,.int .u32 0,.int .u32 0,.int .u32 0,.int .u32 0,.int .u32 0,.int .u32 0,.int .u32 0,.int .u32 0,.int .u32 0,.int .u32 0,.int .u32 0,.int .u32 0,.int .u32 0,.int .u32 0,.int .u32 0,.int .u32 0,.int .u32 0,.int .u32 0,.int .u32 0,.int .u32 0,.int .u32 0,.int .u32 0,.int .u32 0,.int .u32 0,.int .u32 0,.int .u32 0,.int .u32 0,.int .u32 0,.int .u32 0,.int .u32 0]:=by kernel_rfl
theorem word4 (b off cap k:Nat) (f:Nat→Int) (hf:∀i,B (f i)) (hcap:64≤cap) (hk:k<16) (p:Int) (hp:p=4 * (k:Int)) (w:World) (hc:∀i,i<64→w.cell? ⟨b,off+i,none⟩=some (.int .u8 (f i))):
  Calls Tryz.prog 188 #[.slice (some ⟨b,off,none⟩) 64 cap,.int .i64 p] w fun e w'=>e=.returned (.tuple #[.int .u32 (u (wordsOf f k)),.bool true])∧Below w.heap.size w w':=by
 obtain rfl:p=((4 * k:Nat):Int):=by omega
 rw[znk hf]
 exact zpz b off 64 cap (4 * k) _ _ _ _ (by omega) hcap (by omega) w (hc _ (by omega)) (hc _ (by omega)) (hc _ (by omega)) (hc _ (by omega)) (hf _) (hf _) (hf _) (hf _)
theorem spread (b off cap:Nat) (f:Nat→Int) (hf:∀i,B (f i)) (hcap:64≤cap) (w:World) (hc:∀i,i<64→w.cell? ⟨b,off+i,none⟩=some (.int .u8 (f i))):
  Calls Tryz.prog 157 #[.slice (some ⟨b,off,none⟩) 64 cap] w fun e w'=>e=.returned (.agg (sp (wordsOf f) 64))∧Below w.heap.size w w':=by
 have hb:b<w.heap.size:=block_lt_of_cell (hc 0 (by omega))
 have HC:=RotF.aside hc
 have HF:=RotF.aside hf
 clear hc hf
 go_enter Tryz.func157,Tryz.ntmps157
 go_wp2
 go_loopw [10] (fun i wr=>∃k:Nat,k≤16∧i=.int .i64 k∧At wr w.heap.size (sp (wordsOf f) 0)∧At wr (w.heap.size+1) (sp (wordsOf f) k)∧Below w.heap.size w wr) (fun i _=>16 - (intOf i).toNat)
 case atStart=>exact⟨0,Nat.zero_le _,rfl,by rw[zkD];exact⟨_,heap_alloc2_old _ _ _⟩,by rw[zkD];exact⟨_,heap_alloc2_new _ _ _⟩,by go_grown⟩
 case round=>
  obtain⟨k,hk,rfl,A0,A1,kb⟩:=hrel
  by_cases hlt:k<16
  ·go_wp2_with fail
   refine(word4 b off cap k f HF.out hcap hlt _ rfl _ (fun i hi=>(kb.cell hb).trans (HC.out i hi))).mono ?_
   rintro e w1 ⟨rfl,h1⟩
   have B0:=A0.below h1 A0.lt
   have B1:=A1.below h1 A1.lt
   have kc:=kb.trans (h1.mono kb.size)
   clear A0 A1 kb h1
   have c1:=B1.cell k
   rw[zkE _ _ (by omega),if_neg (by omega)]at c1
   have z1:=B1.frozen k
   go_wp2
   go_roundw
   case rel=>
    refine⟨k+1,by omega,by go_num,B0.za5 (by simp) _,?_,kc.setCell (by simp) _⟩
    have q:=B1.set k (.int .u32 (u (wordsOf f k)))
    rw[←zjE (wordsOf f) hlt,zls _ (by omega)]at q
    rw[←zjE (wordsOf f) hlt]
    exact q
   case measure=>simp[intOf];omega
  ·have e16:k=16:=by omega
   rw[e16]at A1
   clear e16
   go_wp2
   go_loopw [5] (fun i wr=>∃k:Nat,16≤k∧k≤64∧i=.int .i64 k∧At wr w.heap.size (sp (wordsOf f) 0)∧At wr (w.heap.size+1) (sp (wordsOf f) k)∧Below w.heap.size w wr) (fun i _=>64 - (intOf i).toNat)
   case atStart=>exact⟨16,by omega,by omega,rfl,A0,A1,kb⟩
   case round=>
    clear kb A0 A1 hlt hk
    obtain⟨k,hk1,hk,rfl,A0,A1,kb⟩:=hrel
    by_cases hlt:k<64
    ·have c15:=(A1.cell (k - 15)).trans (zee _ (by omega) (by omega))
     have c2:=(A1.cell (k - 2)).trans (zee _ (by omega) (by omega))
     have c16:=(A1.cell (k - 16)).trans (zee _ (by omega) (by omega))
     have c7:=(A1.cell (k - 7)).trans (zee _ (by omega) (by omega))
     have t15:((k:Int) - 15).toNat=k - 15:=by omega
     have t2:((k:Int) - 2).toNat=k - 2:=by omega
     have t16:((k:Int) - 16).toNat=k - 16:=by omega
     have t7:((k:Int) - 7).toNat=k - 7:=by omega
     have o15:0≤(k:Int) - 15:=by omega
     have o2:0≤(k:Int) - 2:=by omega
     have o16:0≤(k:Int) - 16:=by omega
     have o7:0≤(k:Int) - 7:=by omega
     have p15:(k:Int) - 15<64:=by omega
     have p2:(k:Int) - 2<64:=by omega
     have p16:(k:Int) - 16<64:=by omega
     have p7:(k:Int) - 7<64:=by omega
     go_wp2
     go_quiet (fail)
     go_wp2_with fail
     refine(zc5 _ 7 7 rfl _).mono ?_
     rintro e w' ⟨rfl,rfl⟩
     go_wp2_with fail
     refine(zc5 _ 18 18 rfl _).mono ?_
     rintro e w' ⟨rfl,rfl⟩
     go_wp2_with fail
     refine(zc5 _ 17 17 rfl _).mono ?_
     rintro e w' ⟨rfl,rfl⟩
     go_wp2_with fail
     refine(zc5 _ 19 19 rfl _).mono ?_
     rintro e w' ⟨rfl,rfl⟩
     go_wp2_with fail
     obtain⟨W,hW⟩:∃W:World,W=wr.drewN nq:=⟨_,rfl⟩
     rw[←hW]
     have A0':At W w.heap.size (sp (wordsOf f) 0):=by rw[hW];exact A0
     have A1':At W (w.heap.size+1) (sp (wordsOf f) k):=by rw[hW];exact A1
     have kb':Below w.heap.size w W:=by rw[hW];exact zai kb _
     clear hW A0 A1 kb c15 c2 c16 c7
     have c16:=(A1'.cell (k - 16)).trans (zee _ (by omega) (by omega))
     have c7:=(A1'.cell (k - 7)).trans (zee _ (by omega) (by omega))
     have ck:=A1'.cell k
     rw[zkE _ _ hlt,if_neg (by omega)]at ck
     have zk:=A1'.frozen k
     go_region
     go_wp2
     go_roundw
     case rel=>
      have q:=A1'.set k (.int .u32 (u (wd (wordsOf f) k)))
      rw[zls _ hlt,zkv _ hk1,←wd_sum]at q
      exact⟨k+1,by omega,by omega,by go_num,At.drew (A0'.za5 (by simp) _),At.drew q,zaf (kb'.setCell (by simp) _)⟩
     case measure=>simp[intOf];omega
    ·obtain rfl:k=64:=by omega
     clear hlt hk hk1
     obtain⟨t0,ht0⟩:=A0
     obtain⟨t1,ht1⟩:=A1
     have HT1:=RotF.aside ht1
     have HT0:=RotF.aside ht0
     clear ht0 ht1
     go_wp2_with (first|(refine wpList_load_row rfl 191 _ rfl _ rfl t1 _ _ _ HT1.out Tryz.underlying191 rfl (by kernel_rfl) ?_)|(refine wpList_store_row rfl 191 _ _ rfl _ _ rfl rfl t0 _ HT0.out (by kernel_rfl) (by simp[zcm]) (zjK _ _) ?_))
     exact bodyPost_ret (v:=.agg (sp (wordsOf f) 64)) (results_cell_row Tryz.results157 _ _ w.heap.size t0 _ (0,0) _ rfl (setRow_heap _ _ _ _ t0 _ HT0.out) Tryz.underlying191 rfl (by kernel_rfl)) rfl ⟨rfl,zbl kb (Nat.le_refl _) _⟩
end Go.Proofs.YtgmdhaepiclkcaaGreatDoor.ShaD
namespace Go.Proofs.YtgmdhaepiclkcaaGreatDoor.PadM
set_option maxRecDepth 100000
open Go.RowKit RotC
def bv (l:List Int):List Value:=l.map (Value.int .u8)
theorem zav (l:List Int):(bv l).length=l.length:=by simp[bv]
theorem zbc (a b:List Int):bv (a++b)=bv a++bv b:=by simp[bv]
theorem zeh (l:List Int):∀v ∈ bv l,v.oneCell'=true:=by
 intro v hv
 simp only[bv,List.mem_map]at hv
 obtain⟨n,_,rfl⟩:=hv
 rfl
theorem zcA (l:List Int) {i:Nat} (h:i<l.length):(bv l)[i]?=some (.int .u8 (l.getD i 0)):=by
 simp[bv,h]
def zgM (n:Nat):Nat:=(n+72) / 64 * 64
theorem zkR (n:Nat):n+9≤zgM n:=by unfold zgM;omega
theorem zjb (n:Nat):zgM n≤n+72:=by unfold zgM;omega
theorem zja (n:Nat):zgM n % 64=0:=by unfold zgM;omega
theorem zqm (n:Nat):64≤zgM n:=by unfold zgM;omega
def zj3 (a:Int):List Int:=[a / 72057594037927936,a / 281474976710656 % 256,a / 1099511627776 % 256,a / 4294967296 % 256,a / 16777216 % 256,a / 65536 % 256,a / 256 % 256,a % 256]
theorem bv_long8 (a:Int):bv (zj3 a)=(zj2 a).toList:=rfl
theorem zgy (a:Int):(zj3 a).length=8:=rfl
def zif (bs:List Int):List Int:=bs++(128::(List.replicate (zgM bs.length - bs.length - 9) 0++zj3 (8 * bs.length)))
theorem zdZ (bs:List Int):(zif bs).length=zgM bs.length:=by
 have:=zkR bs.length
 simp[zif,zj3]
 omega
theorem lay1 (bs:List Int) (n:Nat):splice (List.replicate n (Value.int .u8 0)) 0 (bv bs)=bv (bs++List.replicate (n - bs.length) 0):=by
 simp[splice,bv,List.map_replicate]
theorem lay1_at (bs:List Int) (m:Nat) (hm:0<m):(bv (bs++List.replicate m 0)).toArray[bs.length]?=some (.int .u8 0):=by
 simp[bv,hm]
theorem lay2 (bs:List Int) (m:Nat) (hm:0<m):(bv (bs++List.replicate m 0)).toArray.setIfInBounds bs.length (Value.int .u8 128)=(bv (bs++(128::List.replicate (m - 1) 0))).toArray:=by
 obtain⟨k,rfl⟩:∃k,m=k+1:=⟨m - 1,by omega⟩
 rw[List.setIfInBounds_toArray]
 congr 1
 simp[bv,List.replicate_succ]
theorem lay3 (bs ls:List Int) (m:Nat) (hl:ls.length=8) (hm:8≤m):splice (bv (bs++(128::List.replicate m 0))) (bs.length+1+m - 8) (bv ls)=bv (bs++(128::(List.replicate (m - 8) 0++ls))):=by
 obtain⟨k,rfl⟩:∃k,m=k+8:=⟨m - 8,by omega⟩
 have e1:bs++(128::List.replicate (k+8) 0)=(bs++(128::List.replicate k (0:Int)))++List.replicate 8 0:=by
  rw[←List.replicate_append_replicate];simp
 have e2:bs.length+1+(k+8) - 8=(bv (bs++(128::List.replicate k (0:Int)))).length:=by simp[zav];omega
 rw[e1,zbc,e2]
 unfold splice
 rw[List.take_left,zav ls,hl]
 have e3:List.drop ((bv (bs++(128::List.replicate k (0:Int)))).length+8) (bv (bs++(128::List.replicate k 0))++bv (List.replicate 8 0))=[]:=by
  apply List.drop_eq_nil_of_le
  simp[zav]
 rw[e3,List.append_nil,←zbc]
 simp
theorem zmS (xs ls:List Int) (m:Nat) (hm:ls.length≤m):splice (bv (xs++List.replicate m 0)) xs.length (bv ls)=bv ((xs++ls)++List.replicate (m - ls.length) 0):=by
 obtain⟨k,rfl⟩:∃k,m=ls.length+k:=⟨m - ls.length,by omega⟩
 have e2:xs.length=(bv xs).length:=(zav xs).symm
 rw[zbc,e2]
 unfold splice
 rw[List.take_left,zav ls,←List.drop_drop,List.drop_left,←List.replicate_append_replicate,zbc,zbc,zbc]
 rw[List.drop_left' (by simp[zav])]
 simp
def zd3 (a:Int):List Int:=[a / 16777216,a / 65536 % 256,a / 256 % 256,a % 256]
theorem bv_four8 (a:Int):bv (zd3 a)=(zdd a).toList:=rfl
theorem zbj (a:Int):(zd3 a).length=4:=rfl
end Go.Proofs.YtgmdhaepiclkcaaGreatDoor.PadM
namespace Go.Proofs.YtgmdhaepiclkcaaGreatDoor.SumM
set_option maxRecDepth 100000
open Go.RowKit RotM RotN RotC RotD ShaM ShaD RotG Small PadM
def blk (P:List Int) (k j:Nat):Int:=P.getD (64 * k+j) 0
def hsum (P:List Int):Nat→H8
 |0=>zci
 |k+1=>zdO (hsum P k) (wordsOf (blk P k))
theorem padL_B {bs:List Int} (h:∀x ∈ bs,B x) (hl:bs.length≤1099511627776):∀x ∈ zif bs,B x:=by
 intro x hx
 unfold zif at hx
 simp only[List.mem_append,List.mem_cons,List.mem_replicate,zj3,List.not_mem_nil,or_false]at hx
 have hm:0≤(8 * (bs.length:Int))∧8 * (bs.length:Int)≤18446744073709551615:=by omega
 generalize 8 * (bs.length:Int)=a at *
 unfold B
 rcases hx with hx|hx|hx|hx|hx|hx|hx|hx|hx|hx|hx
 ·exact h x hx
 all_goals omega
theorem getD_B {l:List Int} (h:∀x ∈ l,B x) (i:Nat):B (l.getD i 0):=by
 by_cases hi:i<l.length
 ·rw[List.getD_eq_getElem?_getD,List.getElem?_eq_getElem hi]
  exact h _ (List.getElem_mem hi)
 ·rw[List.getD_eq_getElem?_getD,List.getElem?_eq_none (by omega)]
  unfold B
  simp
theorem blk_B {P:List Int} (h:∀x ∈ P,B x) (k j:Nat):B (blk P k j):=getD_B h _
theorem blk_at {w:World} {g:Nat} {P:List Int} (h:At w g (bv P).toArray) (k:Nat) (hk:64 * k+64≤P.length) (i:Nat) (hi:i<64):w.cell? ⟨g,64 * k+i,none⟩=some (.int .u8 (blk P k i)):=by
 rw[h.cell,List.getElem?_toArray,zcA _ (by omega)]
 rfl
end Go.Proofs.YtgmdhaepiclkcaaGreatDoor.SumM
namespace Go.Proofs.YtgmdhaepiclkcaaGreatDoor.ShaK
set_option maxRecDepth 100000
open RotM RotN ShaM ShaD PadM SumM
def okW (m:Nat→BitVec 32) (l:List (BitVec 32)):Bool:=
 (List.range 64).all fun i=>l.getD i 0 == (if i<16 then m i else l.getD (i - 16) 0+l.getD (i - 7) 0+s0 (l.getD (i - 15) 0)+s1 (l.getD (i - 2) 0))
theorem zpA {m:Nat→BitVec 32} {l:List (BitVec 32)} (h:okW m l=true) (i:Nat) (hi:i<64):wd m i=l.getD i 0:=by
 induction i using Nat.strongRecOn with
 |_ i ih=>
  have hk:=List.all_eq_true.1 h i (List.mem_range.2 hi)
  rw[beq_iff_eq]at hk
  by_cases h16:i<16
  ·rw[if_pos h16]at hk
   rw[zjE m h16,hk]
  ·rw[if_neg h16]at hk
   rw[zkv m (by omega),ih (i - 16) (by omega) (by omega),ih (i - 7) (by omega) (by omega),ih (i - 15) (by omega) (by omega),ih (i - 2) (by omega) (by omega),hk]
def eqH (h k:H8):Bool:=h.a == k.a&&h.b == k.b&&h.c == k.c&&h.d == k.d&&h.e == k.e&&h.f == k.f&&h.g == k.g&&h.z == k.z
theorem zoO {h k:H8} (e:eqH h k=true):h=k:=by
 obtain⟨a,b,c,d,e',f,g,z⟩:=h
 obtain⟨a',b',c',d',e'',f',g',z'⟩:=k
 simp only[eqH,Bool.and_eq_true,beq_iff_eq]at e
 obtain⟨⟨⟨⟨⟨⟨⟨rfl,rfl⟩,rfl⟩,rfl⟩,rfl⟩,rfl⟩,rfl⟩,rfl⟩:=e
 rfl
def okS (h:H8) (l:List (BitVec 32)) (ls:List H8):Bool:=
 eqH (ls.getD 0 h) h&&(List.range 64).all fun i=>eqH (ls.getD (i+1) h) (rnd (ls.getD i h) (kc i+l.getD i 0))
theorem zmz {h:H8} {m:Nat→BitVec 32} {l:List (BitVec 32)} {ls:List H8} (hw:okW m l=true) (hs:okS h l ls=true) (i:Nat) (hi:i≤64):rnds h (fun i=>kc i+wd m i) i=ls.getD i h:=by
 simp only[okS,Bool.and_eq_true]at hs
 induction i with
 |zero=>exact(zoO hs.1).symm
 |succ i ih=>
  have hk:=zoO (List.all_eq_true.1 hs.2 i (List.mem_range.2 (by omega)))
  rw[hk,←ih (by omega),←zpA hw i (by omega)]
  rfl
theorem zfn {h k:H8} {m:Nat→BitVec 32} {l:List (BitVec 32)} {ls:List H8} (hw:okW m l=true) (hs:okS h l ls=true) (hk:eqH (h.add (ls.getD 64 h)) k=true):zdO h m=k:=by
 unfold zdO
 rw[zmz hw hs 64 (Nat.le_refl _)]
 exact zoO hk
def text2:List Int:=[97,98,99,100,98,99,100,101,99,100,101,102,100,101,102,103,101,102,103,104,102,103,104,105,103,104,105,106,104,105,106,107,105,106,107,108,106,107,108,109,107,108,109,110,108,109,110,111,109,110,111,112,110,111,112,113]
end Go.Proofs.YtgmdhaepiclkcaaGreatDoor.ShaK
namespace Go.Proofs.YtgmdhaepiclkcaaGreatDoor.RowIn
set_option maxRecDepth 100000
open Go.ChangeShapes Go.WideShapes Go.ChangeAt Go.RowKit
theorem block_add (x:Addr) (i:Nat):(x.add i).block=x.block:=by unfold Addr.add;split <;> rfl
def zpv (k:IntKind) (w:World) (a:Option Addr) (len cap:Nat) (zs:List Int):Prop:=
 len≤cap∧cap≤maxLen∧(len≤zs.length∧zs.length≤cap)∧(∀n ∈ zs,(Lit.int k n).wf=true)∧
 ((a=none∧len=0∧cap=0)∨∃x,a=some x∧∀i,i<zs.length→w.cell? (x.add i)=some (.int k (zs.getD i 0)))
theorem zpv.below {k:IntKind} {w w':World} {a:Option Addr} {len cap:Nat} {zs:List Int} (h:zpv k w a len cap zs) (hb:Below w.heap.size w w'):zpv k w' a len cap zs:=by
 obtain⟨h1,h2,h3,h4,h5⟩:=h
 refine⟨h1,h2,h3,h4,?_⟩
 rcases h5 with h5|⟨x,rfl,hc⟩
 ·exact .inl h5
 ·refine .inr ⟨x,rfl,fun i hi=>?_⟩
  have hcell:=hc i hi
  exact(hb.cell (block_lt_of_cell hcell)).trans hcell
end Go.Proofs.YtgmdhaepiclkcaaGreatDoor.RowIn
namespace Go.Proofs.YtgmdhaepiclkcaaGreatDoor.Byt
set_option maxRecDepth 100000
open Go.RowKit
theorem aside {p:Prop} (h:p):Hid p:=h
def B (b:Int):Prop:=0≤b∧b≤255
theorem zpm {n:Int} (h:(Lit.int .u8 n).wf=true):B n:=by
 unfold B
 simpa[Lit.wf,IntKind.min,IntKind.max,IntKind.bits,IntKind.signed]using h
def bv (l:List Int):List Value:=l.map (Value.int .u8)
theorem zav (l:List Int):(bv l).length=l.length:=by simp[bv]
theorem zbc (a b:List Int):bv (a++b)=bv a++bv b:=by simp[bv]
theorem zeh (l:List Int):∀v ∈ bv l,v.oneCell'=true:=by
 intro v hv
 simp only[bv,List.mem_map]at hv
 obtain⟨n,_,rfl⟩:=hv
 rfl
theorem zcA (l:List Int) {i:Nat} (h:i<l.length):(bv l)[i]?=some (.int .u8 (l.getD i 0)):=by
 simp[bv,h]
def strOf (l:List Int):ByteArray:=⟨(l.map fun n=>UInt8.ofNat n.toNat).toArray⟩
def zan (s:ByteArray):List Int:=s.data.toList.map fun b=>(b.toNat:Int)
theorem zaT (s:ByteArray):(zan s).length=s.size:=by
 unfold zan
 rw[List.length_map,Array.length_toList]
 rfl
theorem zdq (s:ByteArray):∀x ∈ zan s,B x:=by
 intro x hx
 simp only[zan,List.mem_map]at hx
 obtain⟨b,_,rfl⟩:=hx
 have:=b.toNat_lt
 unfold B
 omega
theorem zkA (s:ByteArray):Lib.strCells s=bv (zan s):=by
 simp[Lib.strCells,bv,zan]
theorem zet (s:ByteArray):strOf (zan s)=s:=by
 unfold strOf zan
 have e:(List.map (fun n:Int=>UInt8.ofNat n.toNat) (List.map (fun b:UInt8=>(b.toNat:Int)) s.data.toList))=s.data.toList:=by
  rw[List.map_map]
  conv=>rhs;rw[←List.map_id s.data.toList]
  apply List.map_congr_left
  intro b _
  simp
 rw[e]
theorem zeJ {l:List Int} (h:∀x ∈ l,B x):zan (strOf l)=l:=by
 unfold strOf zan
 simp only[List.map_map]
 conv=>rhs;rw[←List.map_id l]
 apply List.map_congr_left
 intro x hx
 have:=h x hx
 unfold B at this
 simp
 omega
theorem toList_inj {s t:ByteArray}:s.toList=t.toList↔s=t:=by
 rw[ByteArray.toList_eq,ByteArray.toList_eq]
 constructor
 ·intro h
  cases s;cases t
  congr 1
  exact Array.ext' h
 ·intro h;rw[h]
theorem below_drewN (w:World) (n:Nat):Below w.heap.size w (w.drewN n):=⟨rfl,rfl,rfl,Nat.le_refl _,fun _ _=>rfl⟩
theorem zaq {w w':World} (hb:Below w.heap.size w w') (row:Option Nat):w.grownBy w' row:=⟨hb.os,hb.tape,hb.output,hb.size,fun i hi _=>hb.block i hi⟩
theorem zao {w w':World} {base:Nat} {e:TypeId} {size:Nat} {v:Value} {n:Nat} {xs:List Value} (h:w.ownsRow base e size v n xs) (hb:Below w.heap.size w w'):w'.ownsRow base e size v n xs:=
 h.kept (zaq hb none) (by cases hv:v.ownBlock <;> simp)
theorem below_grown {B:Nat} {w0 w w':World} {row:Option Nat} (hb:Below B w0 w) (hB:B≤w.heap.size) (hg:w.grownBy w' row) (hr:∀k,row=some k→B≤k):Below B w0 w':=
 hb.trans ⟨hg.os,hg.tape,hg.output,hg.size,fun k hk=>hg.block k (by omega) (fun e=>by have:=hr k e.symm;omega)⟩
theorem zai {k:Nat} {w w':World} (h:Below k w w') (n:Nat):Below k w (w'.drewN n):=⟨h.os,h.tape,h.output,h.size,h.block⟩
theorem zaf {k:Nat} {w w':World} (h:Below k w w'):Below k w w'.drew:=⟨h.os,h.tape,h.output,h.size,h.block⟩
theorem zb8 {w:World} {base base':Nat} {e:TypeId} {size:Nat} {v:Value} {n:Nat} {xs:List Value} (h:w.ownsRow base e size v n xs) (hb:base'≤base):w.ownsRow base' e size v n xs:=by
 refine⟨h.1,h.2.imp id ?_⟩
 rintro⟨g,cap,cur,h1,h2,h3⟩
 exact⟨g,cap,cur,h1,Nat.le_trans hb h2,h3⟩
end Go.Proofs.YtgmdhaepiclkcaaGreatDoor.Byt
namespace Go.Proofs.YtgmdhaepiclkcaaGreatDoor.Byt
set_option maxRecDepth 100000
open Go.RowKit
theorem zhU:(Tryz.prog.info? 5).map (·.size)=some 1:=by kernel_rfl
theorem zaR:(Tryz.prog.info? 5).map (fun i=>(i.zero,i.size,i.bytes))=some (some (.int .u8 0),1,1):=by kernel_rfl
def Sl (w:World) (A:Option Addr) (cap:Nat) (l:List Int):Prop:=
 l.length≤cap∧cap≤maxLen∧(∀x ∈ l,B x)∧((A=none∧l=[]∧cap=0)∨∃x,A=some x∧∀i,i<l.length→w.cell? (x.add i)=some (.int .u8 (l.getD i 0)))
theorem Sl.bytes {w:World} {A:Option Addr} {cap:Nat} {l:List Int} (h:Sl w A cap l):∀x ∈ l,B x:=h.2.2.1
theorem Sl.nil (w:World):Sl w none 0 []:=⟨Nat.le_refl _,Nat.zero_le _,by simp,.inl ⟨rfl,rfl,rfl⟩⟩
theorem Sl.below {w w':World} {A:Option Addr} {cap:Nat} {l:List Int} (h:Sl w A cap l) (hb:Below w.heap.size w w'):Sl w' A cap l:=by
 obtain⟨h1,h2,h4,h5⟩:=h
 refine⟨h1,h2,h4,?_⟩
 rcases h5 with h5|⟨x,rfl,hc⟩
 ·exact .inl h5
 ·refine .inr ⟨x,rfl,fun i hi=>?_⟩
  have hcell:=hc i hi
  exact(hb.cell (block_lt_of_cell hcell)).trans hcell
theorem Sl.drewN {w:World} {A:Option Addr} {cap:Nat} {l:List Int} (h:Sl w A cap l) (n:Nat):Sl (w.drewN n) A cap l:=h.below (below_drewN w n)
theorem Sl.own {w:World} {base n:Nat} {v:Value} {l:List Int} (h:w.ownsRow base 5 1 v n (bv l)) (hb:∀x ∈ l,B x):∃A cap,v=.slice A l.length cap∧Sl w A cap l:=by
 have hn:l.length=n:=by have:=h.1;rw[zav]at this;omega
 rcases h.2 with⟨rfl,rfl⟩|⟨g,cap,cur,rfl,hbg,hg,h1,h2,h3,h4⟩
 ·have:l=[]:=List.eq_nil_of_length_eq_zero hn
  subst this
  exact⟨none,0,rfl,Sl.nil w⟩
 ·refine⟨some ⟨g,0,none⟩,cap,by rw[hn],by omega,h2,hb,.inr ⟨_,rfl,fun i hi=>?_⟩⟩
  rw[Addr.add_lit,Nat.zero_add,h.cellAt i (by omega),zcA _ hi]
theorem Sl.part {w:World} {A:Option Addr} {cap:Nat} {l:List Int} (h:Sl w A cap l) (i j:Nat) (hij:i≤j) (hj:j≤l.length):
  ∃A' cap',sliced A i j cap 1=.slice A' (j - i) cap'∧Sl w A' cap' ((l.drop i).take (j - i))∧((l.drop i).take (j - i)).length=j - i:=by
 have hb:=h.bytes
 obtain⟨h1,h2,h4,h5⟩:=h
 have hl:((l.drop i).take (j - i)).length=j - i:=by simp;omega
 have hB:∀x ∈ (l.drop i).take (j - i),B x:=fun x hx=>hb x (List.mem_of_mem_drop (List.mem_of_mem_take hx))
 rcases h5 with⟨rfl,rfl,rfl⟩|⟨x,rfl,hc⟩
 ·simp at hj
  obtain rfl:j=0:=hj
  obtain rfl:i=0:=by omega
  exact⟨none,0,by simp[sliced],by simpa using Sl.nil w,hl⟩
 ·by_cases hci:cap=i
  ·refine⟨some x,cap - i,by simp[sliced,hci],⟨by rw[hl];omega,by omega,hB,.inr ⟨x,rfl,fun k hk=>?_⟩⟩,hl⟩
   omega
  ·refine⟨some (x.add i),cap - i,by simp[sliced,hci],⟨by rw[hl];omega,by omega,hB,.inr ⟨_,rfl,fun k hk=>?_⟩⟩,hl⟩
   rw[hl]at hk
   rw[Addr.add_add,hc (i+k) (by omega)]
   congr 2
   rw[List.getD_eq_getElem?_getD,List.getD_eq_getElem?_getD,List.getElem?_take,if_pos (by omega),List.getElem?_drop]
theorem elem_u8: Tryz.prog.elem 114=5:=by kernel_rfl
theorem zgS: Tryz.prog.underlying 114=some (.slice (Tryz.prog.elem 114)):=by kernel_rfl
theorem znC (w:World):(sizeOf (Tryz.prog.elem 114)).run Tryz.prog w=.ok 1 w:=by
 rw[elem_u8]
 have h:=zhU
 cases hq: Tryz.prog.info? 5 with
 |none=>rw[hq]at h;cases h
 |some i=>
  rw[hq]at h
  simp at h
  simp[sizeOf,typeInfo,hq,h]
theorem zcV (w:World) (A:Option Addr) (len cap:Nat) (k:IntKind) (j:Nat) (hj:j≤cap):
  (Instr.sliceAt 114 (.slice A len cap) none (some (.int k j)) none).run Tryz.prog w=.ok (sliced A 0 j cap 1) w:=by
 rw[run_sliceAt_slice w _ _ _ _ _ zgS,run_slice_h w _ A len cap zgS k j (by omega) (by omega),znC]
 simp[Result.andThen]
theorem zdB (w:World) (A:Option Addr) (len cap:Nat) (k:IntKind) (i:Nat) (hi:i≤len):
  (Instr.sliceAt 114 (.slice A len cap) (some (.int k i)) none none).run Tryz.prog w=.ok (sliced A i len cap 1) w:=by
 rw[run_sliceAt_slice w _ _ _ _ _ zgS,run_slice_l w _ A len cap zgS k i (by omega) (by omega),znC]
 simp[Result.andThen]
def New (l:List Int) (w:World) (e:Ending) (w':World):Prop:=
 ∃v,e=.returned v∧w'.ownsRow w.heap.size 5 1 v l.length (bv l)∧Below w.heap.size w w'
theorem zau {P:Program} {w:World} {ops:Array Oper} {rest:List Oper} {o:Oper} {a:Act} {Q:Exit→Act→World→Prop} (hgd:o.guard=none) (s x:Operand) (t:TypeId)
  (ho:o.op=.call {callee:=.builtin .append,args:=#[s,x],argTypes:=#[t,t]})
  (base:Nat) (e:TypeId) (ht:P.underlying t=some (.slice e)) (hz:(P.info? e).map (fun i=>(i.zero,i.size,i.bytes))=some (some (.int .u8 0),1,1))
  (v:Value) (n:Nat) (xs:List Int) (hs:a.eval s=v) (hown:w.ownsRow base e 1 v n (bv xs))
  (A:Option Addr) (m c:Nat) (l:List Int) (hx:a.eval x=.slice A m c) (hm:l.length=m) (hr:Sl w A c l)
  (h63:n+m≤1099511627900) (hbase:base≤w.heap.size)
  (h:∀v' w',w'.ownsRow base e 1 v' (n+m) (bv (xs++l))→w.grownBy w' v.ownBlock→wpList P ops Q rest (a.put o.dst v') w'):wpList P ops Q (o::rest) a w:=by
 obtain⟨i,hi,z0,z1,z2⟩:=info_parts hz
 subst hm
 obtain⟨h1,h2,h4,h5⟩:=hr
 rcases h5 with⟨rfl,rfl,rfl⟩|⟨ad,rfl,hc⟩
 ·refine wpList_append_own_none hgd s x t ho base e i 1 ht hi v n (bv xs) hs hown hx (h v w ?_ (zaq (Below.refl _ _) _))
  simpa using hown
 ·refine wpList_append_own w hgd s x t ho base e i (.int .u8 0) 1 1 ht hi z0 z1 z2 rfl (by decide) v n (bv xs) hs hown ad l.length c (bv l) hx (by rw[zav];omega) (fun j u hu=>?_) (zeh _) (by unfold maxLen;omega) (by omega) hbase (fun v' w' a1 a2 _=>h v' w' (by rw[zbc];exact a1) a2)
  have hj:j<l.length:=by
   have:=(List.getElem?_eq_some_iff.1 hu).1
   simpa[bv]using this
  rw[zcA _ hj]at hu
  rw[hc j hj,←hu]
theorem zbK {P:Program} {w:World} {ops:Array Oper} {rest:List Oper} {o:Oper} {a:Act} {Q:Exit→Act→World→Prop} (hgd:o.guard=none) (s x:Operand) (t u:TypeId)
  (ho:o.op=.call {callee:=.builtin .append,args:=#[s,x],argTypes:=#[t,u]})
  (base:Nat) (e:TypeId) (ht:P.underlying t=some (.slice e)) (hu:P.underlying u=some .string) (hz:(P.info? e).map (fun i=>(i.zero,i.size,i.bytes))=some (some (.int .u8 0),1,1))
  (v:Value) (n:Nat) (xs:List Int) (hs:a.eval s=v) (hown:w.ownsRow base e 1 v n (bv xs)) (S:ByteArray) (hx:a.eval x=.string S)
  (h63:n+S.size≤1099511627900) (hbase:base≤w.heap.size)
  (h:∀v' w',w'.ownsRow base e 1 v' (n+S.size) (bv (xs++zan S))→w.grownBy w' v.ownBlock→wpList P ops Q rest (a.put o.dst v') w'):wpList P ops Q (o::rest) a w:=by
 obtain⟨i,hi,z0,z1,z2⟩:=info_parts hz
 refine Lib.wpList_append_own_string w hgd s x t u ho base e i ht hu hi z0 z1 z2 v n (bv xs) hs hown S hx (by unfold maxLen;omega) (by omega) hbase (fun v' w' a1 a2 _=>h v' w' ?_ a2)
 rw[zbc,←zkA]
 exact a1
theorem Sl.zil (w:World) (x:Int) (t:TypeId) (hx:B x):Sl (w.alloc (.cells #[.int .u8 x] t)) (some ⟨w.heap.size,0,none⟩) 1 [x]:=by
 refine⟨Nat.le_refl _,by unfold maxLen;omega,by simpa using hx,.inr ⟨_,rfl,fun i hi=>?_⟩⟩
 have:i=0:=by simpa using hi
 subst this
 rw[Addr.add_lit]
 exact cell_of_row _ _ _ _ t (0,0) (heap_alloc_new w _)
end Go.Proofs.YtgmdhaepiclkcaaGreatDoor.Byt
namespace Go.Proofs.YtgmdhaepiclkcaaGreatDoor.EncM
set_option maxRecDepth 100000
def Fits (n:Nat):Prop:=n<18446744073709551616
theorem Fits.lt {n:Nat} (h:Fits n):n<18446744073709551616:=h
theorem Fits.le {n m:Nat} (h:Fits n) (hm:m≤n):Fits m:=Nat.lt_of_le_of_lt hm h
def zaO (n:Nat):List Int:=if h:n<128 then[(n:Int)]else((n % 128+128:Nat):Int)::zaO (n / 128)
termination_by n
decreasing_by omega
theorem za7 {n:Nat} (h:n<128):zaO n=[(n:Int)]:=by rw[zaO,dif_pos h]
theorem zc7 {n:Nat} (h:128≤n):zaO n=((n % 128+128:Nat):Int)::zaO (n / 128):=by rw[zaO,dif_neg (by omega)]
theorem zb9 (n:Nat):0<(zaO n).length:=by
 by_cases h:n<128
 ·rw[za7 h];simp
 ·rw[zc7 (by omega)];simp
theorem zi7 (k n:Nat) (h:n<2 ^ (7 * (k+1))):(zaO n).length≤k+1:=by
 induction k generalizing n with
 |zero=>rw[za7 (by simpa using h)];simp
 |succ k ih=>
  by_cases h1:n<128
  ·rw[za7 h1];simp
  ·rw[zc7 (by omega),List.length_cons]
   have:=ih (n / 128) (by
    rw[show 7 * (k+1+1)=7 * (k+1)+7 by omega,Nat.pow_add]at h
    omega)
   omega
theorem zaZ {n:Nat} (h:n<18446744073709551616):(zaO n).length≤10:=zi7 9 n (by omega)
theorem zb1 (n:Nat):∀x ∈ zaO n,0≤x∧x≤255:=by
 induction n using Nat.strongRecOn with
 |_ n ih=>
  by_cases h:n<128
  ·rw[za7 h];simp;omega
  ·rw[zc7 (by omega)]
   intro x hx
   rcases List.mem_cons.1 hx with rfl|hx
   ·omega
   ·exact ih (n / 128) (by omega) x hx
def getG (i n:Nat):List Int→Nat×Nat
 |[]=>(0,0)
 |b::r=>
  if 10≤i then(0,0)
  else if 18446744073709551616≤n+(b % 128).toNat * 2 ^ (7 * i)then(0,0)
  else if b<128 then(if(b % 128).toNat=0∧0<i then(0,0)else(n+(b % 128).toNat * 2 ^ (7 * i),i+1))
  else getG (i+1) (n+(b % 128).toNat * 2 ^ (7 * i)) r
def zdA (bs:List Int):Nat×Nat:=getG 0 0 bs
theorem ziY (i:Nat):2 ^ (7 * (i+1))=128 * 2 ^ (7 * i):=by
 rw[show 7 * (i+1)=7 * i+7 by omega,Nat.pow_add]
 omega
theorem getG_num (m i n:Nat) (r:List Int) (hn:n<2 ^ (7 * i)) (hm:n+m * 2 ^ (7 * i)<18446744073709551616) (h0:m≠0∨i=0):
  getG i n (zaO m++r)=(n+m * 2 ^ (7 * i),i+(zaO m).length):=by
 have hi:∀m i:Nat,m * 2 ^ (7 * i)<18446744073709551616→(m≠0∨i=0)→i<10:=by
  intro m i h h0
  rcases h0 with h0|h0
  ·by_cases hi:i<10
   ·exact hi
   ·have h1:2 ^ 70≤2 ^ (7 * i):=Nat.pow_le_pow_right (by omega) (by omega)
    have h2:1 * 2 ^ (7 * i)≤m * 2 ^ (7 * i):=Nat.mul_le_mul_right _ (by omega)
    omega
  ·omega
 induction m using Nat.strongRecOn generalizing i n with
 |_ m ih=>
  have hi10:=hi m i (by omega) h0
  by_cases hs:m<128
  ·rw[za7 hs]
   simp only[List.cons_append,List.nil_append,getG]
   have e:((m:Int) % 128).toNat=m:=by omega
   rw[e,if_neg (by omega),if_neg (by omega),if_pos (by omega),if_neg (by omega)]
   simp
  ·rw[zc7 (by omega)]
   simp only[List.cons_append,getG]
   have e:(((m % 128+128:Nat):Int) % 128).toNat=m % 128:=by omega
   have hd:m % 128 * 2 ^ (7 * i)+m / 128 * 2 ^ (7 * (i+1))=m * 2 ^ (7 * i):=by
    rw[ziY,←Nat.mul_assoc,←Nat.add_mul]
    congr 1
    omega
   have hle:m % 128 * 2 ^ (7 * i)≤127 * 2 ^ (7 * i):=Nat.mul_le_mul_right _ (by omega)
   have hp:=ziY i
   rw[e,if_neg (by omega),if_neg (by omega),if_neg (by omega),ih (m / 128) (by omega) (i+1) _ (by omega) (by omega) (by omega)]
   refine Prod.ext ?_ ?_
   ·show n+m % 128 * 2 ^ (7 * i)+m / 128 * 2 ^ (7 * (i+1))=n+m * 2 ^ (7 * i)
    omega
   ·simp only[List.length_cons]
    omega
theorem zg8 (m:Nat) (r:List Int) (hm:m<18446744073709551616):zdA (zaO m++r)=(m,(zaO m).length):=by
 have:=getG_num m 0 0 r (by simp) (by simpa using hm) (.inr rfl)
 simpa[zdA]using this
theorem zoB (bs:List Int) (hb:∀x ∈ bs,0≤x∧x≤255) (i n N k:Nat) (h:getG i n bs=(N,k)) (hk:k≠0) (hn:n<2 ^ (7 * i)):
  ∃m,N=n+m * 2 ^ (7 * i)∧(m≠0∨i=0)∧N<18446744073709551616∧i<k∧k≤10∧k - i≤bs.length∧bs.take (k - i)=zaO m:=by
 induction bs generalizing i n with
 |nil=>simp[getG]at h;omega
 |cons b r ih=>
  have hbb:=hb b (by simp)
  simp only[getG]at h
  by_cases h10:10≤i
  ·rw[if_pos h10]at h;simp at h;omega
  rw[if_neg h10]at h
  by_cases hov:18446744073709551616≤n+(b % 128).toNat * 2 ^ (7 * i)
  ·rw[if_pos hov]at h;simp at h;omega
  rw[if_neg hov]at h
  by_cases hlt:b<128
  ·rw[if_pos hlt]at h
   by_cases hz:(b % 128).toNat=0∧0<i
   ·rw[if_pos hz]at h;simp at h;omega
   ·rw[if_neg hz]at h
    simp only[Prod.mk.injEq]at h
    obtain⟨rfl,rfl⟩:=h
    refine⟨(b % 128).toNat,rfl,by omega,by omega,by omega,by omega,by simp,?_⟩
    rw[show i+1 - i=1 by omega,za7 (by omega)]
    simp
    omega
  ·rw[if_neg hlt]at h
   have hle:(b % 128).toNat * 2 ^ (7 * i)≤127 * 2 ^ (7 * i):=Nat.mul_le_mul_right _ (by omega)
   have hp:=ziY i
   obtain⟨m,h1,h2,h3,h4,h5,h6,h7⟩:=ih (fun x hx=>hb x (by simp[hx])) (i+1) _ h (by omega)
   have hm:m≠0:=by omega
   refine⟨(b % 128).toNat+128 * m,?_,by omega,h3,by omega,h5,by rw[List.length_cons];omega,?_⟩
   ·rw[h1,ziY,Nat.add_mul,Nat.add_assoc,Nat.mul_comm 128 m,Nat.mul_assoc]
   ·rw[show k - i=(k - (i+1))+1 by omega,List.take_succ_cons,h7,zc7 (n:=(b % 128).toNat+128 * m) (by omega),show((b % 128).toNat+128 * m) / 128=m by omega]
    congr 1
    omega
theorem zhY {bs:List Int} (hb:∀x ∈ bs,0≤x∧x≤255) {N k:Nat} (h:zdA bs=(N,k)) (hk:k≠0):
  N<18446744073709551616∧0<k∧k≤10∧k≤bs.length∧bs.take k=zaO N:=by
 obtain⟨m,h1,_,h3,h4,h5,h6,h7⟩:=zoB bs hb 0 0 N k h hk (by simp)
 have e:m=N:=by simp at h1;omega
 subst e
 exact⟨h3,h4,h5,by omega,by simpa using h7⟩
end Go.Proofs.YtgmdhaepiclkcaaGreatDoor.EncM
namespace Go.Proofs.YtgmdhaepiclkcaaGreatDoor.EncC
set_option maxHeartbeats 1000000
set_option maxRecDepth 100000
open Go.RowKit Byt EncM
theorem or128 {x:Int} (h:0≤x∧x≤255):bits .or .u8 x 128=x % 128+128:=by
 have key:∀y:Fin 256,bits .or .u8 (y.val:Int) 128=(y.val:Int) % 128+128:=by decide+kernel
 have:=key ⟨x.toNat,by omega⟩
 have e:((x.toNat:Nat):Int)=x:=by omega
 simpa[e]using this
theorem or64 (x y:Nat) (hx:x<18446744073709551616) (hy:y<18446744073709551616):bits .or .u64 (x:Int) (y:Int)=((x ||| y:Nat):Int):=by
 show IntKind.u64.wrap ((((BitVec.ofInt 64 (x:Int) ||| BitVec.ofInt 64 (y:Int)).toNat:Nat)):Int)=_
 have h1:x ||| y<2 ^ 64:=Nat.or_lt_two_pow (by omega) (by omega)
 have e1:(BitVec.ofInt 64 (x:Int) ||| BitVec.ofInt 64 (y:Int)).toNat=x ||| y:=by
  rw[BitVec.toNat_or,BitVec.ofInt_natCast,BitVec.ofInt_natCast,BitVec.toNat_ofNat,BitVec.toNat_ofNat,Nat.mod_eq_of_lt (by omega),Nat.mod_eq_of_lt (by omega)]
 rw[e1,IntKind.wrap_u64]
 omega
theorem or1 {x:Int} (h:0≤x) (h2:x<9223372036854775808):bits .or .u64 (x * 2) 1=2 * x+1:=by
 obtain⟨m,rfl⟩:∃m:Nat,x=m:=⟨x.toNat,by omega⟩
 have e:(m:Int) * 2=((2 ^ 1 * m:Nat):Int):=by omega
 rw[e,show(1:Int)=((1:Nat):Int) from rfl,or64 _ _ (by omega) (by omega),←Nat.two_pow_add_eq_or_of_lt (by omega)]
 omega
theorem num (n:Nat) (hn:Fits n) (w:World):
  Calls Tryz.prog 121 #[.int .u64 n] w (New (zaO n) w):=by
 have hten:=zaZ hn.lt
 go_enter Tryz.func121,Tryz.ntmps121
 go_wp2_with fail
 go_loopw [0,3] (fun k v wr=>∃(m:Nat) (pre:List Int),k=.int .u64 m∧Fits m∧Hid (zaO n=pre++zaO m)∧Hid (wr.ownsRow w.heap.size 5 1 v pre.length (bv pre))∧Below w.heap.size w wr) (fun k _ _=>(intOf k).toNat)
 case atStart=>exact⟨n,[],rfl,hn,rfl,World.ownsRow_nil _ _ _ _,Below.refl _ _⟩
 case round=>
  obtain⟨m,pre,rfl,hm,HN,HO,hb⟩:=hrel
  have hlen:pre.length+(zaO m).length≤10:=by
   have:=HN.out
   rw[this,List.length_append]at hten
   exact hten
  have hs:=hb.size
  by_cases hlt:m<128
  ·go_wp2_with (refine zau rfl (.tmp 14) (.tmp 17) 114 rfl w.heap.size 5 Tryz.underlying114 zaR _ pre.length pre rfl (HO.out.alloc _) _ 1 1 [(m:Int)] rfl rfl (Sl.zil _ _ _ ?c1) (by omega) (by simp;omega) ?_;(case c1=>unfold B;omega);intro v1 w1 hown1 hg1;have hb1:Below w.heap.size w w1:=below_grown (hb.alloc hs _) (by simp;omega) hg1 (fun k hk=>(HO.out.lt k hk).1);have HO1:=aside hown1;clear hown1 hg1)
   go_ret
   refine⟨v1,rfl,?_,hb1⟩
   rw[HN.out,za7 hlt]
   simpa using HO1.out
  ·have hor:=or128 (x:=(m:Int) % 256) (by omega)
   have e:(m:Int) % 256 % 128+128=((m % 128+128:Nat):Int):=by omega
   rw[e]at hor
   clear e
   go_wp2_with (refine zau rfl (.tmp 6) (.tmp 10) 114 rfl w.heap.size 5 Tryz.underlying114 zaR _ pre.length pre rfl (HO.out.alloc _) _ 1 1 [((m % 128+128:Nat):Int)] rfl rfl (Sl.zil _ _ _ ?c1) (by omega) (by simp;omega) ?_;(case c1=>unfold B;omega);intro v1 w1 hown1 hg1;have hb1:Below w.heap.size w w1:=below_grown (hb.alloc hs _) (by simp;omega) hg1 (fun k hk=>(HO.out.lt k hk).1);have HO1:=aside hown1;clear hown1 hg1)
   go_roundw
   case rel=>
    refine⟨m / 128,pre++[((m % 128+128:Nat):Int)],by simp,hm.le (by omega),?_,by simpa using HO1,hb1⟩
    have:=HN.out
    rw[zc7 (n:=m) (by omega)]at this
    exact aside (by rw[this];simp)
   case measure=>simp[intOf];omega
def foldI (k:Int):Int:=if 0≤k then 2 * k else 2 * (-1 - k)+1
def zfe (n:Int):Int:=if n % 2=0 then n / 2 else -1 - n / 2
theorem zcn {k:IntKind} {a b:Int} (h:a=b):Ending.returned (.int k a)=.returned (.int k b):=by rw[h]
theorem fold (k:Int) (hk: -9223372036854775808≤k∧k≤9223372036854775807) (w:World):
  Calls Tryz.prog 122 #[.int .i64 k] w fun e w'=>e=.returned (.int .u64 (foldI k))∧w=w':=by
 obtain⟨h1,h2⟩:=hk
 by_cases h0:0≤k
 ·go_enter Tryz.func122,Tryz.ntmps122
  go_wp2
  go_ret
  refine⟨zcn ?_,rfl⟩
  unfold foldI
  rw[if_pos h0]
  omega
 ·go_enter Tryz.func122,Tryz.ntmps122
  go_wp2
  go_ret
  refine⟨zcn ?_,rfl⟩
  unfold foldI
  rw[if_neg (by omega),or1 (by omega) (by omega)]
def zbB (s:List Int):List Int:=zaO s.length++s
theorem text (s:ByteArray) (hs:s.size≤1099511627776) (w:World):
  Calls Tryz.prog 154 #[.string s] w (New (zbB (zan s)) w):=by
 have hn:=num s.size (by unfold Fits;omega) w
 have hl:=zi7 9 s.size (by omega)
 go_enter Tryz.func154,Tryz.ntmps154
 go_wp2_with fail
 refine hn.mono ?_
 clear hn
 rintro e w1 ⟨v,rfl,hown,hb⟩
 have HO:=aside hown
 clear hown
 have hs1:=hb.size
 go_wp2_with (refine zbK rfl (.tmp 6) (.tmp 7) 114 9 rfl w.heap.size 5 Tryz.underlying114 Tryz.underlying9 zaR v _ (zaO s.size) rfl HO.out s rfl (by omega) hs1 ?_;intro v2 w2 hown2 hg2;have hb2:Below w.heap.size w w2:=below_grown hb hs1 hg2 (fun k hk=>(HO.out.lt k hk).1);have HO2:=aside hown2;clear hown2 hg2)
 go_ret
 refine⟨v2,rfl,?_,hb2⟩
 have h:=HO2.out
 unfold zbB
 rw[zaT,List.length_append,zaT]
 exact h
end Go.Proofs.YtgmdhaepiclkcaaGreatDoor.EncC
namespace Go.Proofs.YtgmdhaepiclkcaaGreatDoor.EncP
set_option maxRecDepth 100000
open EncM
end Go.Proofs.YtgmdhaepiclkcaaGreatDoor.EncP
namespace Go.Proofs.YtgmdhaepiclkcaaGreatDoor.EncD
set_option maxRecDepth 100000
open Go.RowKit Go.Shelf Byt EncM EncP
attribute [local go_sem] Oper.semAt_some
end Go.Proofs.YtgmdhaepiclkcaaGreatDoor.EncD
namespace Go.Proofs.YtgmdhaepiclkcaaGreatDoor.EncG
set_option maxRecDepth 100000
open Go.RowKit Go.Shelf Byt EncM EncP EncD EncC
attribute [local go_sem] Oper.semAt_some
end Go.Proofs.YtgmdhaepiclkcaaGreatDoor.EncG
namespace Go.Proofs.YtgmdhaepiclkcaaGreatDoor.BytR
set_option maxRecDepth 100000
open Go.RowKit Byt
end Go.Proofs.YtgmdhaepiclkcaaGreatDoor.BytR
namespace Go.Proofs.YtgmdhaepiclkcaaGreatDoor.Byt
open Go.RowKit
end Go.Proofs.YtgmdhaepiclkcaaGreatDoor.Byt
