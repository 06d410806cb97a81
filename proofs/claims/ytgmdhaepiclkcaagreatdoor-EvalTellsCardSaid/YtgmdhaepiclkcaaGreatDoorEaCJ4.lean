/- Clocks, and elements of keys, in memory | Maps whose keys are elements of keys, of values of whatever kind | Plain facts | Plain facts on how the project tells the state of commits -/
import Derived.Test.YtgmdhaepiclkcaaGreatDoorIdKJ3
import Derived.Test.YtgmdhaepiclkcaaGreatDoorRegUJ10
import Derived.DeepKeys4
import Derived.WideKeyEntry
import Derived.Maps.OwnSet
import Derived.Maps.OwnOps
import Derived.Test.YtgmdhaepiclkcaaGreatDoorDgXJ5
namespace Go.Proofs.YtgmdhaepiclkcaaGreatDoor.EaC
set_option maxRecDepth 100000
open Go Go.Sort Go.RowKit Byt IdM IdW OpsM OpsW CmM StW CmW CmX CmY DgM DgW DgX DgY
def CE8:Cel.Cel (Int→Int) where
 T:=71
 k:=8
 bytes:=64
 d:=_
 enc:=ckL
 zero:=fun _=>0
 len _:=rfl
 one c v hv:=by
  simp only[ckL,List.mem_cons,List.not_mem_nil,or_false]at hv
  rcases hv with rfl|rfl|rfl|rfl|rfl|rfl|rfl|rfl <;> rfl
 pos:=by omega
 info:=by kernel_rfl
 under:=Tryz.underlying71
 row:=rfl
theorem zmE {fn:Func} {p:Tmp} (h:fn.results= #[.cell p 71]) (tmps:Array Value) (w:World) (g:Nat) (s:Int→Int)
  (hp:tmps.getD p undef=.pointer (some ⟨g,0,none⟩)) (hg:Cel.Box CE8 w g s):(results fn tmps).run Tryz.prog w=.ok (.agg (ck s)) w:=by
 obtain⟨t,ht⟩:=hg
 have hp':tmps[p]?.getD undef=.pointer (some ⟨g,0,none⟩):=by simpa using hp
 have hl:=run_loadVar_row w g t 71 (CE8.enc s).toArray (0,0) _ ht CE8.under CE8.row (CE8.size' s)
 simp[results,h,hp',asAddr,hl]
 rfl
theorem zkn {w:World} {g:Nat} {s t:Int→Int} (h:Cel.Box CE8 w g s) (e:∀n,0≤n→n<8→s n=t n):Cel.Box CE8 w g t:=by
 obtain⟨ty,ht⟩:=h
 exact⟨ty,by rw[ht];congr 2;exact congrArg List.toArray (zhe e)⟩
section
variable {ops:Array Oper} {rest:List Oper} {o:Oper} {a:Act} {w:World} {Q:Exit→Act→World→Prop}
theorem load_c8 (hgd:o.guard=none) (x:Operand) (ho:o.op=.load 71 x) (g:Nat) (hx:a.eval x=.pointer (some ⟨g,0,none⟩)) (s:Int→Int) (hb:Cel.Box CE8 w g s) (h:wpList Tryz.prog ops Q rest (a.put o.dst (.agg (ck s))) w):wpList Tryz.prog ops Q (o::rest) a w:=
 Cel.zaa CE8 hgd x ho g hx s hb h
theorem ziR (hgd:o.guard=none) (hd:o.dst=none) (x y:Operand) (ho:o.op=.store 3 x y) (g:Nat) (n:Int) (hn:0≤n∧n<8) (hx:a.eval x=.pointer (some ⟨g,n.toNat,none⟩)) (old:Int→Int) (hc:Cel.Box CE8 w g old) (v:Int) (hy:a.eval y=.int .i64 v)
  (h:∀w',Cel.Box CE8 w' g (fun m=>if m=n then v else old m)→(∀B,B≤g→Below B w w')→w.grownBy w' (some g)→w'.heap.size=w.heap.size→wpList Tryz.prog ops Q rest a w'):wpList Tryz.prog ops Q (o::rest) a w:=
 Cel.zaI CE8 hgd hd 3 x y ho (by kernel_rfl) g n.toNat hx (by show n.toNat<8;omega) old hc (fun m=>if m=n then v else old m) (.int .i64 v) hy rfl rfl (ck_set old hn v) h
end
theorem zeH (s:Int→Int) (e:Ev) (h:0≤e.node∧e.node<8) (w:World):
  Calls Tryz.prog 33 #[.agg (ck s),.agg (ec e)] w fun x w'=>x=.returned (.bool (decide (e.seq≤s e.node)))∧Below w.heap.size w w':=by
 have z1:(w.alloc (.cells (ck s) 71)).heap.size=w.heap.size+1:=by simp
 have B1:Cel.Box CE8 ((w.alloc (.cells (ck s) 71)).alloc (.cells (ec e) 43)) w.heap.size s:=(Cel.Box.new (E:=CE8) w s _).alloc _
 have B2:Cel.Box EE ((w.alloc (.cells (ck s) 71)).alloc (.cells (ec e) 43)) (w.heap.size+1) e:=by
  rw[←z1]
  exact Cel.Box.new (E:=EE) _ e _
 have kb:Below w.heap.size w ((w.alloc (.cells (ck s) 71)).alloc (.cells (ec e) 43)):=((Below.refl _ _).alloc (Nat.le_refl _) _).alloc (by simp) _
 obtain⟨n,q⟩:=e
 have h0:0≤n:=h.1
 have h8:n<8:=h.2
 have c1:=B1.cell (zm2 s h)
 obtain⟨c2,c3⟩:=zfZ B2
 obtain⟨x,hx⟩:∃x,s n=x:=⟨_,rfl⟩
 simp only at c1 c2 c3
 rw[hx]at c1
 have HX:=aside hx
 clear z1 B1 B2 hx h
 go_enter Tryz.func33,Tryz.ntmps33
 go_wp2
 go_quiet (fail)
 go_wp2
 go_ret
 exact⟨by rw[HX.out];rfl,zai kb _⟩
theorem zlo (s t:Int→Int) (w:World):
  Calls Tryz.prog 73 #[.agg (ck s),.agg (ck t)] w fun x w'=>x=.returned (.agg (ck fun n=>max (s n) (t n)))∧Below w.heap.size w w':=by
 have z1:(w.alloc (.cells (ck s) 71)).heap.size=w.heap.size+1:=by simp
 have z2:((w.alloc (.cells (ck s) 71)).alloc (.cells (ck t) 71)).heap.size=w.heap.size+1+1:=by simp
 have B1:Cel.Box CE8 (((w.alloc (.cells (ck s) 71)).alloc (.cells (ck t) 71)).alloc (.cells (ck fun _=>0) 71)) w.heap.size s:=((Cel.Box.new (E:=CE8) w s _).alloc _).alloc _
 have B2:Cel.Box CE8 (((w.alloc (.cells (ck s) 71)).alloc (.cells (ck t) 71)).alloc (.cells (ck fun _=>0) 71)) (w.heap.size+1) t:=by
  rw[←z1]
  exact(Cel.Box.new (E:=CE8) _ t _).alloc _
 have B3:Cel.Box CE8 (((w.alloc (.cells (ck s) 71)).alloc (.cells (ck t) 71)).alloc (.cells (ck fun _=>0) 71)) (w.heap.size+1+1) (fun _=>0):=by
  rw[←z2]
  exact Cel.Box.new (E:=CE8) _ (fun _=>0) _
 have kb:Below w.heap.size w (((w.alloc (.cells (ck s) 71)).alloc (.cells (ck t) 71)).alloc (.cells (ck fun _=>0) 71)):=(((Below.refl _ _).alloc (Nat.le_refl _) _).alloc (by simp) _).alloc (by simp;omega) _
 clear z1 z2
 go_enter Tryz.func73,Tryz.ntmps73
 go_wp2_with (first|go_skip)
 go_loopw [6] (fun i wr=>∃k:Nat,k≤8∧i=.int .i64 k∧Cel.Box CE8 wr w.heap.size (fun n=>if n<k then max (s n) (t n)else s n)∧Cel.Box CE8 wr (w.heap.size+1) t∧Cel.Box CE8 wr (w.heap.size+1+1) (fun _=>0)∧Below w.heap.size w wr) (fun i _=>8 - (intOf i).toNat)
 case atStart=>exact⟨0,Nat.zero_le _,rfl,zkn B1 fun n h0 _=>(if_neg (by omega)).symm,B2,B3,kb⟩
 case round=>
  clear B1 B2 B3 kb
  obtain⟨k,hk,rfl,B1,B2,B3,kb⟩:=hrel
  by_cases hlt:k<8
  ·have h8:0≤(k:Int)∧(k:Int)<8:=by omega
   have p0:(k:Int)<8:=h8.2
   have o0:0≤(k:Int):=h8.1
   have m0:((k:Int)).toNat=k:=by omega
   go_wp2_with (first|go_skip)
   refine GrowL.region 9 [(0,true),(1,true),(2,true),(3,true),(4,true),(5,true),(6,true),(7,true),(8,true),(9,false)] (by kernel_rfl) (by kernel_rfl) rfl (by kernel_rfl) (by intro c a d v w h;cases d <;> exact h) ?_
   have kd:=zaf (Below.refl wr.heap.size wr)
   have D1:=B1.below kd
   have D2:=B2.below kd
   have D3:=B3.below kd
   have kb1:=kb.trans (kd.mono kb.size)
   generalize wr.drew=wz at D1 D2 D3 kb1 ⊢
   clear B1 B2 B3 kb kd
   have hc:=zm2 (fun n:Int=>if n<k then max (s n) (t n)else s n) h8
   have hd:=zm2 t h8
   obtain⟨x,hx⟩:∃x,s k=x:=⟨_,rfl⟩
   obtain⟨y,hy⟩:∃y,t k=y:=⟨_,rfl⟩
   rw[if_neg (Int.lt_irrefl _),hx,m0]at hc
   rw[hy,m0]at hd
   have g1:=Grow.grown (w:=wz) (fun u hu=>(D1.below hu).cell hc)
   have g2:=Grow.grown (w:=wz) (fun u hu=>(D2.below hu).cell hd)
   clear hc hd
   have HX:=aside hx
   have HY:=aside hy
   have hm:=zkU x y
   obtain⟨z,hz⟩:∃z,max x y=z:=⟨_,rfl⟩
   rw[hz]at hm
   have HZ:=aside hz
   clear hx hy hz
   repeat (refine GrowL.reads rfl rfl ?_;go_big_quiet_step (fail);refine wpQuiet_nil ?_)
   refine GrowL.last rfl ?_
   go_wp2_with (first|go_skip|(refine ziR rfl rfl _ _ rfl w.heap.size k h8 rfl _ D1 z rfl ?_;intro w1 B4 f2 g2 s2))
   refine GrowL.done ?_
   go_wp2_with (first|go_skip)
   go_roundw
   case rel=>
    refine⟨k+1,by omega,by go_num,zkn B4 fun n h0 h1=>?_,D2.kept g2 (by simp),D3.kept g2 (by simp;omega),kb1.trans (f2 _ (Nat.le_refl _))⟩
    have e1:=HX.out
    have e2:=HY.out
    have e3:=HZ.out
    by_cases e:n=k
    ·rw[if_pos e,if_pos (by omega),e,e1,e2,e3]
    ·rw[if_neg e]
     by_cases e4:n<k
     ·rw[if_pos e4,if_pos (by omega)]
     ·rw[if_neg e4,if_neg (by omega)]
   case measure=>simp[intOf];omega
  ·obtain rfl:k=8:=by omega
   have B1':Cel.Box CE8 wr w.heap.size (fun n=>max (s n) (t n)):=zkn B1 fun n _ h1=>if_pos (by omega)
   clear B1
   go_wp2_with (first|go_skip|(refine load_c8 rfl _ rfl _ rfl _ B1' ?_)|(refine Cel.zad CE8 rfl _ _ rfl (w.heap.size+1+1) rfl _ B3 (fun n=>max (s n) (t n)) rfl ?_;intro w1 B5 f5 g5 s5))
   exact bodyPost_ret (v:=.agg (ck fun n=>max (s n) (t n))) (zmE Tryz.results73 _ _ (w.heap.size+1+1) _ rfl B5) rfl ⟨rfl,kb.trans (f5 _ (by omega))⟩
structure El where
 key:ByteArray
 elem:ByteArray
theorem zpl {x y:El} (h1:x.key=y.key) (h2:x.elem=y.elem):x=y:=by
 cases x;cases y
 simp_all
instance:DecidableEq El:=fun x y=>decidable_of_iff (x.key=y.key∧x.elem=y.elem) ⟨fun h=>zpl h.1 h.2,fun h=>by rw[h];exact⟨rfl,rfl⟩⟩
def EL:Cel.Cel El where
 T:=73
 k:=2
 bytes:=32
 d:=_
 enc x:=[.string x.key,.string x.elem]
 zero:=⟨ByteArray.empty,ByteArray.empty⟩
 len _:=rfl
 one c v hv:=by
  simp only[List.mem_cons,List.not_mem_nil,or_false]at hv
  rcases hv with rfl|rfl <;> rfl
 pos:=by omega
 info:=by kernel_rfl
 under:=Tryz.underlying73
 row:=rfl
def lc (x:El):Array Value:=#[.string x.key,.string x.elem]
def elO (o:Opn):El:=⟨o.key,o.elem⟩
def OE:Cel.Cel Opn where
 T:=45
 k:=4
 bytes:=48
 d:=_
 enc o:=[.int .i64 o.kind,.string o.key,.string o.elem,.int .i64 o.n]
 zero:=noO
 len _:=rfl
 one c v hv:=by
  simp only[List.mem_cons,List.not_mem_nil,or_false]at hv
  rcases hv with rfl|rfl|rfl|rfl <;> rfl
 pos:=by omega
 info:=by kernel_rfl
 under:=Tryz.underlying45
 row:=rfl
theorem zmC {fn:Func} {p:Tmp} (h:fn.results= #[.cell p 73]) (tmps:Array Value) (w:World) (g:Nat) (s:El)
  (hp:tmps.getD p undef=.pointer (some ⟨g,0,none⟩)) (hg:Cel.Box EL w g s):(results fn tmps).run Tryz.prog w=.ok (.agg (lc s)) w:=by
 obtain⟨t,ht⟩:=hg
 have hp':tmps[p]?.getD undef=.pointer (some ⟨g,0,none⟩):=by simpa using hp
 have hl:=run_loadVar_row w g t 73 (EL.enc s).toArray (0,0) _ ht EL.under EL.row (EL.size' s)
 simp[results,h,hp',asAddr,hl]
 rfl
theorem zhJ (o:Opn) (w:World):Calls Tryz.prog 32 #[.agg (opc o)] w fun x w'=>x=.returned (.agg (lc (elO o)))∧Below w.heap.size w w':=by
 have z1:(w.alloc (.cells (opc o) 45)).heap.size=w.heap.size+1:=by simp
 have B1:Cel.Box OE ((w.alloc (.cells (opc o) 45)).alloc (.cells #[.string ⟨#[]⟩,.string ⟨#[]⟩] 73)) w.heap.size o:=(Cel.Box.new (E:=OE) w o _).alloc _
 have B2:Cel.Box EL ((w.alloc (.cells (opc o) 45)).alloc (.cells #[.string ⟨#[]⟩,.string ⟨#[]⟩] 73)) (w.heap.size+1) ⟨⟨#[]⟩,⟨#[]⟩⟩:=by
  rw[←z1]
  exact Cel.Box.new (E:=EL) _ ⟨⟨#[]⟩,⟨#[]⟩⟩ _
 have kb:Below w.heap.size w ((w.alloc (.cells (opc o) 45)).alloc (.cells #[.string ⟨#[]⟩,.string ⟨#[]⟩] 73)):=((Below.refl _ _).alloc (Nat.le_refl _) _).alloc (by simp) _
 have c1:=B1.cell (j:=1) (v:=.string o.key) rfl
 have c2:=B1.cell (j:=2) (v:=.string o.elem) rfl
 clear z1 B1
 go_enter Tryz.func32,Tryz.ntmps32
 go_wp2_with (first|go_skip|(refine Cel.zad EL rfl _ _ rfl (w.heap.size+1) rfl _ B2 (elO o) rfl ?_;intro w1 B5 f5 g5 s5))
 exact bodyPost_ret (v:=.agg (lc (elO o))) (zmC Tryz.results32 _ _ (w.heap.size+1) _ rfl B5) rfl ⟨rfl,kb.trans (f5 _ (by omega))⟩
end Go.Proofs.YtgmdhaepiclkcaaGreatDoor.EaC
namespace Go.Proofs.YtgmdhaepiclkcaaGreatDoor.EaK
set_option maxRecDepth 100000
open Go Go.RowKit Go.Maps Byt EaC
structure Gd (x:El):Prop where
 key:x.key.size≤maxLen
 elem:x.elem.size≤maxLen
theorem laidOut:laidOutB Tryz.prog=true:=by kernel_rfl
theorem row:(73:TypeId)<Tryz.prog.types.size:=of_decide_eq_true (by kernel_rfl)
theorem wide:(match Tryz.prog.underlying 73 with|some (.array _ _)|some (.struct _)=>true|_=>false)=true:=by kernel_rfl
theorem zps:WideMaps.KeyLaw Tryz.prog 73:=deep_law_laid laidOut (m:=2) (by omega) row (by kernel_rfl) wide
theorem law:Keyed Tryz.prog 73:=Keyed.of_law zps
theorem zfs:2<Tryz.prog.types.size:=of_decide_eq_true (by kernel_rfl)
theorem zc1:∃m,Tryz.prog.types.size=m+1:=⟨Tryz.prog.types.size - 1,by have:=zfs;omega⟩
theorem keyT: Tryz.prog.keyType 73=true:=by kernel_rfl
theorem zmj: Tryz.prog.cellsOf 73=2:=by kernel_rfl
theorem zf1: Tryz.prog.cellsOf 9=1:=by kernel_rfl
def key (x:El):Lit:=.string (keyBytes [.string x.key.data.toList,.string x.elem.data.toList])
theorem zfJ (d:Nat) {s:ByteArray} (h:s.size≤maxLen): Tryz.prog.keyLits (d+1) 9 [.string s]=some [.string s.data.toList]:=by
 simp only[Program.keyLits,Tryz.underlying9]
 rw[if_pos h]
theorem lits_el (d:Nat) {x:El} (h:Gd x): Tryz.prog.keyLits (d+2) 73 (EL.enc x)=some [.string x.key.data.toList,.string x.elem.data.toList]:=by
 unfold Program.keyLits
 simp only[Tryz.underlying73]
 rw[if_pos ⟨by rw[zmj];rfl,by kernel_rfl⟩]
 simp[zf1,EL,zfJ d h.key,zfJ d h.elem]
theorem zfN {x:El} (h:Gd x):keyOf Tryz.prog 73 (.agg (lc x))=some (key x):=by
 obtain⟨m0,hm0⟩:=zc1
 unfold keyOf
 simp only[Tryz.underlying73]
 rw[if_pos (by simp[keyT,Value.formed,Tryz.underlying73,zmj,lc]),hm0]
 have e:(Value.agg (lc x)).cells.toList=EL.enc x:=rfl
 rw[e,lits_el m0 h]
 rfl
theorem lc_inj {x y:El} (h:lc x=lc y):x=y:=by
 unfold lc at h
 simp only[Array.mk.injEq,List.cons.injEq,Value.string.injEq,and_true]at h
 exact zpl h.1 h.2
theorem key_inj {x y:El} (hx:Gd x) (hy:Gd y) (h:key x=key y):x=y:=by
 have h1:=zfN hx
 have h2:=zfN hy
 rw[←h]at h2
 have:=law.inj h1 h2
 injection this with this
 exact lc_inj this
def R (v:Value):Option (DataW Value×List MemPlace):=some (.held v,[])
def zpj (D:DataW Value) (f:El→Option Value):Prop:=(∀x,Gd x→Maps.has D (key x)=(f x).isSome)∧∀x v,Gd x→f x=some v→∀z,D.atKey (key x) z=.held v
def zaG (w:World) (b n:Nat) (f:El→Option Value):Prop:=∃D:DataW Value,w.ownsMap Tryz.prog 73 R b n D∧zpj D f
theorem zaG.made (w:World):zaG (w.alloc (.map #[] 0)) w.heap.size 0 fun _=>none:=⟨.map [],World.ownsMap_made _ _ _ _,fun x _=>by simp[Maps.has],fun x v _ hx=>by cases hx⟩
theorem zaG.lt {w:World} {b n:Nat} {f:El→Option Value} (h:zaG w b n f):b<w.heap.size:=by obtain⟨D,hD,_⟩:=h;exact hD.lt
theorem zaG.kept {w w':World} {b n:Nat} {f:El→Option Value} {row:Option Nat} (h:zaG w b n f) (hg:w.grownBy w' row) (hne:some b≠row):zaG w' b n f:=by
 obtain⟨D,hD,hs⟩:=h
 exact⟨D,hD.kept hg hne,hs⟩
theorem zaG.below {w w':World} {b n:Nat} {f:El→Option Value} (h:zaG w b n f) (hb:Below w.heap.size w w'):zaG w' b n f:=h.kept (zaq hb none) (by simp)
theorem zaG.alloc {w:World} {b n:Nat} {f:El→Option Value} (h:zaG w b n f) (o:Obj):zaG (w.alloc o) b n f:=h.kept (World.grownBy_alloc w o none) (by simp)
theorem zaG.mono {w:World} {b n m:Nat} {f:El→Option Value} (h:zaG w b n f) (hm:n≤m):zaG w b m f:=by
 obtain⟨D,hD,hs⟩:=h
 exact⟨D,hD.mono hm,hs⟩
def upd (f:El→Option Value) (y:El) (v:Value):El→Option Value:=fun x=>if x=y then some v else f x
theorem zhA {D:DataW Value} {f:El→Option Value} (hm:Maps.IsMap D) (h:zpj D f) {y:El} (hy:Gd y) (v:Value):zpj (D.put (key y) (.held v)) (upd f y v):=by
 have hk:WideAt.IsKeyLit (key y):=law.key (zfN hy)
 refine⟨fun x hx=>?_,fun x u hx hu z=>?_⟩
 ·unfold upd
  by_cases hxy:x=y
  ·subst hxy
   rw[Maps.has_put_same hm hk]
   simp
  ·rw[Maps.has_put_other (fun e=>hxy (key_inj hx hy e)),h.1 x hx]
   simp[hxy]
 ·unfold upd at hu
  by_cases hxy:x=y
  ·subst hxy
   rw[if_pos rfl]at hu
   injection hu with hu
   subst hu
   exact Maps.atKey_put_same hm hk _ _
  ·rw[if_neg hxy]at hu
   rw[Maps.atKey_put_other (fun e=>hxy (key_inj hx hy e))]
   exact h.2 x u hx hu z
theorem zpj.zh9 {D:DataW Value} {f:El→Option Value} (h:zpj D f) {y:El} (hy:Gd y) (z:Value):D.atKey (key y) (.held z)=.held ((f y).getD z):=by
 cases hf:f y with
 |some v=>exact h.2 y v hy hf _
 |none=>
  have hh:=h.1 y hy
  rw[hf]at hh
  rw[Maps.atKey_of_not_has hh]
  rfl
section
variable {T e:TypeId} (hT: Tryz.prog.underlying T=some (.map 73 e)) {zv:Value} (hz:∀w:World,(zeroValue e).run Tryz.prog w=.ok zv w)
include hT
theorem zeQ {w:World} {b n:Nat} {f:El→Option Value} (h:zaG w b n f) {y:El} (hy:Gd y) (hz:∀w:World,(zeroValue e).run Tryz.prog w=.ok zv w):(Instr.lookup T (.map (some b)) (.agg (lc y)) false).run Tryz.prog w=.ok ((f y).getD zv) w:=by
 obtain⟨D,hD,hs⟩:=h
 obtain⟨v,ps,hrun,hv⟩:=hD.lookup law hT (hz w) (show R zv=some (.held zv,[]) from rfl) (zfN hy)
 rw[hs.zh9 hy]at hv
 unfold R at hv
 simp only[Option.some.injEq,Prod.mk.injEq]at hv
 rw[hrun,MapV.zju hv.1]
section
variable (w:World) {ops:Array Oper} {rest:List Oper} {o:Oper} {a:Act} {Q:Exit→Act→World→Prop}
theorem zbx (hg:o.guard=none) (m x v:Operand) (hop:o.op=Op.mapUpdate T m x v) (b n:Nat) (f:El→Option Value) (hm:a.eval m=.map (some b)) (h:zaG w b n f) (hn:n<3000000000000)
  (y:El) (hy:Gd y) (hx:a.eval x=.agg (lc y)) (u:Value) (hv:a.eval v=u) (hK:∀w',zaG w' b (n+1) (upd f y u)→w.grownBy w' (some b)→wpList Tryz.prog ops Q rest (a.put o.dst undef) w'):wpList Tryz.prog ops Q (o::rest) a w:=by
 obtain⟨D,hD,hs⟩:=h
 exact wpList_mapUpdate_own w hg m x v T hop 73 e law hT _ b n D hm hD (by unfold maxLen;omega) _ _ (key y) hx hv (zfN hy) (.held u) [] rfl
  (fun w' h1 h2=>hK w' ⟨_,h1,zhA hD.isMap hs hy u⟩ h2)
end
end
theorem zmO: Tryz.prog.underlying 67=some (.map 73 71):=Tryz.underlying67
theorem zf4 (w:World):(zeroValue 71).run Tryz.prog w=.ok (.agg (DgY.ck fun _=>0)) w:=by kernel_rfl
theorem make_els (w:World):(Instr.makeMap 67 none).run Tryz.prog w=.ok (.map (some w.heap.size)) (w.alloc (.map #[] 0)):=by kernel_rfl
theorem idsT: Tryz.prog.underlying 118=some (.map 56 71):=Tryz.underlying118
end Go.Proofs.YtgmdhaepiclkcaaGreatDoor.EaK
namespace Go.Proofs.YtgmdhaepiclkcaaGreatDoor.DgL
set_option maxRecDepth 100000
open IdM CmM DgM DgX FrM
open Classical
section
variable {H:Com→Idn} {l:List Com}
theorem zoM (C:Closed H l) {c:Com} (hc:c ∈ l):(0≤c.node∧c.node<8)∧1≤c.seq∧c.seq≤1048576:=by
 obtain⟨h1,h2⟩:=za0.1 (C.may c hc)
 rcases h2 with h2|h2
 ·have hi:=C.merge c hc
  rw[zjm.2 ⟨h1,h2⟩]at hi
  cases hi
 ·exact StM.zb3.1 h2.1
def evN (c:Com):Int:=c.node * 1048576+(c.seq - 1)
theorem ze4 (C:Closed H l):l.length≤8388608:=by
 have key:∀m:List Com,(∀c ∈ m,c ∈ l)→m.Nodup→(m.map evN).Nodup:=by
  intro m
  induction m with
  |nil=>intro _ _;simp
  |cons c m ih=>
   intro hm hn
   rw[List.nodup_cons]at hn
   rw[List.map_cons,List.nodup_cons]
   refine⟨fun h=>?_,ih (fun d hd=>hm d (by simp[hd])) hn.2⟩
   obtain⟨d,hd,e⟩:=List.mem_map.1 h
   have hc:=zcC (C.may c (hm c (by simp))) (C.merge c (hm c (by simp)))
   have hdp:=zcC (C.may d (hm d (by simp[hd]))) (C.merge d (hm d (by simp[hd])))
   have c1:=(zoM C (hm c (by simp))).2.2
   have d1:=(zoM C (hm d (by simp[hd]))).2.2
   unfold evN at e
   have hne:c≠d:=fun q=>hn.1 (by rw[q];exact hd)
   have h1:c.node=d.node:=by omega
   have h2:c.seq=d.seq:=by omega
   exact(C.node c (hm c (by simp)) d (hm d (by simp[hd])) hne h1).1 h2
 have hnd:l.Nodup:=by
  have h1:=C.nodup
  rw[List.nodup_iff_pairwise_ne,List.pairwise_map]at h1
  exact List.nodup_iff_pairwise_ne.2 (h1.imp fun q e=>q (by rw[e]))
 have:=pigeon 8388608 (l.map evN) (key l (fun _ h=>h) hnd) fun x hx=>by
  obtain⟨c,hc,rfl⟩:=List.mem_map.1 hx
  have fc:=zoM C hc
  unfold evN
  omega
 rwa[List.length_map]at this
end
end Go.Proofs.YtgmdhaepiclkcaaGreatDoor.DgL
namespace Go.Proofs.YtgmdhaepiclkcaaGreatDoor.EaP
set_option maxRecDepth 100000
open IdM CmM DgM DgX FrM FrN StM OpsM Rise EaM EaN
open Classical
section
variable {H:Com→Idn} {l:List Com}
theorem zmt {P:List Com} {c:Com} (C:Closed H P) (D:Closed H (P++[c])) {a:Idn} (ha:a ∈ P.map H):views H (P++[c]) a=views H P a:=by
 rw[zf6 C D,if_neg fun e=>?_]
 obtain⟨_,hn,_⟩:=(DgX.step C (D.may c (by simp))).1 D
 exact hn (by rw[←e];exact ha)
theorem zjF (ho:zch H l) (C:Closed H l) (i:Nat):∀n,i+n≤l.length→∀a ∈ (l.take i).map H,views H (l.take (i+n)) a=views H (l.take i) a
 |0,_,_,_=>rfl
 |n+1,hn,a,ha=>by
  have h1:i+n<l.length:=by omega
  have e:l.take (i+(n+1))=l.take (i+n)++[l[i+n]]:=by
   rw[show i+(n+1)=(i+n)+1 by omega,List.take_succ_eq_append_getElem h1]
  rw[e,zmt (zbX C ho _) (by rw[←e];exact zbX C ho _),zjF ho C i n (by omega) a ha]
  obtain⟨c,hc,rfl⟩:=List.mem_map.1 ha
  refine List.mem_map_of_mem ?_
  have:l.take i=(l.take (i+n)).take i:=by rw[List.take_take];congr 1;omega
  rw[this]at hc
  exact List.mem_of_mem_take hc
theorem zni (ho:zch H l) (C:Closed H l) {i:Nat} (hi:i≤l.length) {a:Idn} (ha:a ∈ (l.take i).map H):views H (l.take i) a=views H l a:=by
 have:=zjF ho C i (l.length - i) (by omega) a ha
 rw[show i+(l.length - i)=l.length by omega,List.take_length]at this
 exact this.symm
theorem znV (ho:zch H l) (C:Closed H l) {i:Nat} {c:Com} (hc:l[i]?=some c):∀a ∈ c.ps,a ∈ (l.take i).map H:=fun a ha=>by
 obtain⟨hi,e⟩:=List.getElem?_eq_some_iff.1 hc
 have hs:l.take (i+1)=l.take i++[c]:=by rw[List.take_succ_eq_append_getElem hi,e]
 have D:=zbX C ho (i+1)
 rw[hs]at D
 obtain⟨_,_,T,_⟩:=(DgX.step (zbX C ho i) (D.may c (by simp))).1 D
 exact Classical.byContradiction fun h=>T.there a ha (zbZ.2 h)
theorem tog_all (ho:zch H l) (C:Closed H l) {i:Nat} {c:Com} (hc:l[i]?=some c) (n:Int):zb5 (views H (l.take i)) c.ps n=zb5 (views H l) c.ps n:=by
 unfold zb5
 congr 1
 refine List.map_congr_left fun a ha=>?_
 unfold zej
 rw[zni ho C (by have:=(List.getElem?_eq_some_iff.1 hc).1;omega) (znV ho C hc a ha)]
def isDel (k e:ByteArray) (d:Com):Prop:=d.op.kind=3∧d.op.key=k∧d.op.elem=e
noncomputable def kill (H:Com→Idn) (l P:List Com) (k e:ByteArray) (n:Int):Int:=most ((P.filter fun d=>decide (isDel k e d)).map fun d=>zb5 (views H l) d.ps n)
theorem kill_yes {P:List Com} {c:Com} {k e:ByteArray} (h:isDel k e c) (n:Int):kill H l (P++[c]) k e n=max (kill H l P k e n) (zb5 (views H l) c.ps n):=by
 unfold kill
 rw[List.filter_append,List.filter_cons_of_pos (by simpa using h),List.filter_nil,List.map_append,List.map_cons,List.map_nil,zez]
theorem zoh {P:List Com} {c:Com} {k e:ByteArray} (h:¬isDel k e c) (n:Int):kill H l (P++[c]) k e n=kill H l P k e n:=by
 unfold kill
 rw[List.filter_append,List.filter_cons_of_neg (by simpa using h),List.filter_nil,List.append_nil]
theorem zmn (C:Closed H l) {d:Com} (hd:d ∈ l) {x:Idn} (hx:x ∈ l.map H):Below H l d.ps x↔Kn H l (H d) x:=by
 constructor
 ·rintro⟨_,h|⟨y,hy,h⟩⟩
  ·exact .one ⟨d,hd,rfl,h⟩
  ·exact .more ⟨d,hd,rfl,hy⟩ h
 ·intro h
  refine⟨hx,?_⟩
  cases h with
  |one h=>
   obtain⟨e,he,q,hb⟩:=h
   rw[zhu C.nodup he hd q]at hb
   exact .inl hb
  |more h k=>
   obtain⟨e,he,q,hb⟩:=h
   rw[zhu C.nodup he hd q]at hb
   exact .inr ⟨_,hb,k⟩
theorem kill_iff (C:Closed H l) {m:List Com} (hm:∀d,d ∈ m↔d ∈ l) {c:Com} (hc:c ∈ l):c.seq≤kill H l m c.op.key c.op.elem c.node↔Gone H l c:=by
 have hp:=zcC (C.may c hc) (C.merge c hc)
 have hx:H c ∈ l.map H:=List.mem_map_of_mem hc
 constructor
 ·intro h
  unfold kill at h
  rcases zjc ((m.filter fun d=>decide (isDel c.op.key c.op.elem d)).map fun d=>zb5 (views H l) d.ps c.node)with e|e
  ·omega
  ·obtain⟨d,hd,e2⟩:=List.mem_map.1 e
   obtain⟨h1,h2⟩:=List.mem_filter.1 hd
   obtain⟨k1,k2,k3⟩:=of_decide_eq_true h2
   refine⟨d,(hm d).1 h1,k1,k2,k3,(zmn C ((hm d).1 h1) hx).1 ((zh8 C d.ps hc).1 ?_)⟩
   omega
 ·rintro⟨d,hd,h1,h2,h3,h4⟩
  have q:=(zh8 C d.ps hc).2 ((zmn C hd hx).2 h4)
  have:zb5 (views H l) d.ps c.node≤kill H l m c.op.key c.op.elem c.node:=by
   unfold kill
   exact zeG (List.mem_map_of_mem (f:=fun d=>zb5 (views H l) d.ps c.node) (List.mem_filter.2 ⟨(hm d).2 hd,decide_eq_true ⟨h1,h2,h3⟩⟩))
  omega
end
def zpi (x y:St):St:=zcF noS x y
def zdv:List St→St
 |[]=>noS
 |[x]=>x
 |x::y::l=>zpi (zdv ((x::y::l).take ((l.length+2) / 2))) (zdv ((x::y::l).drop ((l.length+2) / 2)))
termination_by l=>l.length
decreasing_by
 ·simp only[List.length_take,List.length_cons];omega
 ·simp only[List.length_drop,List.length_cons];omega
theorem zd1 (x:St):zdv [x]=x:=by unfold zdv;rfl
theorem zdo:zdv []=noS:=by unfold zdv;rfl
theorem zjY {l:List St} (h:2≤l.length):zdv l=zpi (zdv (l.take (l.length / 2))) (zdv (l.drop (l.length / 2))):=by
 match l,h with
 |x::y::l,_=>
  conv=>lhs;unfold zdv
  rfl
theorem zdp {p:List St→Prop} (h0:p []) (h1:∀x,p [x]) (h2:∀a b,p a→p b→2≤(a++b).length→a.length=(a++b).length / 2→p (a++b)):∀(n:Nat) (l:List St),l.length≤n→p l
 |_,[],_=>h0
 |_,[x],_=>h1 x
 |0,x::y::l,h=>by simp at h
 |n+1,x::y::l,h=>by
  have hl:(x::y::l).length=l.length+2:=rfl
  obtain⟨m,hm⟩:∃m,x::y::l=m:=⟨_,rfl⟩
  rw[hm]at hl h ⊢
  have e:=List.take_append_drop (m.length / 2) m
  rw[←e]
  refine h2 _ _ (zdp h0 h1 h2 n _ (by rw[List.length_take];omega)) (zdp h0 h1 h2 n _ (by rw[List.length_drop];omega)) (by rw[e];omega) ?_
  rw[e,List.length_take]
  omega
theorem zeW {a b:List St} (h:2≤(a++b).length) (h2:a.length=(a++b).length / 2):zdv (a++b)=zpi (zdv a) (zdv b):=by
 rw[zjY h,←h2,List.take_left,List.drop_left]
def zck (l:List St):Prop:=∀s ∈ l,zcI s=true
theorem zck.left {a b:List St} (h:zck (a++b)):zck a:=fun s hs=>h s (List.mem_append_left _ hs)
theorem zck.right {a b:List St} (h:zck (a++b)):zck b:=fun s hs=>h s (List.mem_append_right _ hs)
theorem zct (l:List St):zck l→zcI (zdv l)=true:=by
 refine zdp (p:=fun l=>zck l→zcI (zdv l)=true) (fun _=>by rw[zdo];exact zbN) (fun x h=>by rw[zd1];exact h x (by simp)) (fun a b ha hb h h2 hm=>?_) l.length l (Nat.le_refl _)
 rw[zeW h h2]
 exact join_may zbN (ha hm.left) (hb hm.right)
def znr (k:ByteArray):List St→Int
 |[]=>0
 |s::l=>CtrM.zbC s.c k+znr k l
def zgP (k:ByteArray):List St→Option RegM.Rg
 |[]=>none
 |s::l=>RegL.zcf (zgP k l) (RegM.zcQ s.r k)
theorem zpM (k:ByteArray) (a b:List St):znr k (a++b)=znr k a+znr k b:=by
 induction a with
 |nil=>show znr k b=0+_;omega
 |cons s a ih=>
  show CtrM.zbC s.c k+znr k (a++b)=CtrM.zbC s.c k+znr k a+_
  rw[ih]
  omega
theorem zkQ (k:ByteArray):∀l:List St,RegL.Of k (zgP k l)
 |[]=>fun x h=>by cases h
 |_::l=>(zkQ k l).both (RegL.zjU _ k)
theorem zo5 (k:ByteArray) (a b:List St):zgP k (a++b)=RegL.zcf (zgP k b) (zgP k a):=by
 induction a with
 |nil=>exact(RegL.zdP _).symm
 |cons s a ih=>
  show RegL.zcf (zgP k (a++b)) (RegM.zcQ s.r k)=RegL.zcf (zgP k b) (RegL.zcf (zgP k a) (RegM.zcQ s.r k))
  rw[ih,RegL.zea (zkQ k b) (zkQ k a) (RegL.zjU _ k)]
theorem add_c {x y:St} (hx:zcI x=true) (hy:zcI y=true) (k:ByteArray):CtrM.zbC (zpi x y).c k=CtrM.w64 (CtrM.zbC x.c k+CtrM.zbC y.c k):=by
 show CtrM.zbC (CtrM.zcj [] x.c y.c) k=_
 rw[CtrL.zcz rfl (zaM.1 hx).1 (zaM.1 hy).1]
 unfold CtrM.znb
 rw[CtrM.zdc (l:=[]) (fun _ hc=>by cases hc),Int.sub_zero,CtrL.ze9 (CtrL.zfr _)]
theorem meld_c (k:ByteArray) (l:List St):zck l→(∀s ∈ l,CtrL.InL s.c)→CtrM.zbC (zdv l).c k=CtrM.w64 (znr k l):=by
 refine zdp (p:=fun l=>zck l→(∀s ∈ l,CtrL.InL s.c)→CtrM.zbC (zdv l).c k=CtrM.w64 (znr k l)) (fun _ _=>by rw[zdo];rfl) (fun x h hi=>?_) (fun a b ha hb h h2 hm hi=>?_) l.length l (Nat.le_refl _)
 ·rw[zd1]
  show _=CtrM.w64 (CtrM.zbC x.c k+0)
  rw[Int.add_zero,CtrL.ze9 (CtrL.zhZ (hi x (by simp)) k)]
 ·rw[zeW h h2,add_c (zct _ hm.left) (zct _ hm.right),ha hm.left fun s hs=>hi s (List.mem_append_left _ hs),hb hm.right fun s hs=>hi s (List.mem_append_right _ hs),zpM]
  simp only[CtrM.zho]
  omega
theorem meld_r (k:ByteArray) (l:List St):zck l→RegM.zcQ (zdv l).r k=zgP k l:=by
 refine zdp (p:=fun l=>zck l→RegM.zcQ (zdv l).r k=zgP k l) (fun _=>by rw[zdo];rfl) (fun x h=>?_) (fun a b ha hb h h2 hm=>?_) l.length l (Nat.le_refl _)
 ·rw[zd1]
  show _=RegL.zcf none (RegM.zcQ x.r k)
  cases RegM.zcQ x.r k <;> rfl
 ·rw[zeW h h2]
  show RegM.zcQ (RegL.zaQ (zdv a).r (zdv b).r) k=_
  rw[RegL.zcz (zaM.1 (zct _ hm.left)).2.1 (zaM.1 (zct _ hm.right)).2.1,ha hm.left,hb hm.right,zo5]
theorem meld_p (x:PairM.Pr) (l:List St):zck l→(x ∈ (zdv l).p↔∃s ∈ l,x ∈ s.p):=by
 refine zdp (p:=fun l=>zck l→(x ∈ (zdv l).p↔∃s ∈ l,x ∈ s.p)) (fun _=>by rw[zdo];simp[noS]) (fun s h=>by rw[zd1];simp) (fun a b ha hb h h2 hm=>?_) l.length l (Nat.le_refl _)
 rw[zeW h h2]
 show x ∈ PairM.zca [] (zdv a).p (zdv b).p↔_
 rw[PairM.zc8 rfl (zaM.1 (zct _ hm.left)).2.2 (zaM.1 (zct _ hm.right)).2.2]
 unfold PairM.inM
 rw[ha hm.left,hb hm.right]
 constructor
 ·rintro(⟨⟨s,hs,h⟩,_⟩|⟨⟨s,hs,h⟩,_⟩)
  ·exact⟨s,List.mem_append_left _ hs,h⟩
  ·exact⟨s,List.mem_append_right _ hs,h⟩
 ·rintro⟨s,hs,h⟩
  rcases List.mem_append.1 hs with hs|hs
  ·exact .inl ⟨⟨s,hs,h⟩,.inr (by simp)⟩
  ·by_cases q:∃s ∈ a,x ∈ s.p
   ·exact .inl ⟨q,.inr (by simp)⟩
   ·exact .inr ⟨⟨s,hs,h⟩,q,by simp⟩
structure LenS (n:Nat) (s:St):Prop where
 c:s.c.length≤n
 r:s.r.length≤n
 p:s.p.length≤n
theorem zmL {a b:List CtrM.Cn}:(CtrM.zcj [] a b).length≤a.length+b.length:=by
 by_cases h:CtrM.zbe []=true∧CtrM.zbe a=true∧CtrM.zbe b=true
 ·rw[CtrM.zfk h]
  have:=CtrM.zfE [] a b ([]++a++b) []
  simpa using this
 ·rw[CtrL.za8 (by
   by_cases h1:CtrM.zbe []=true
   ·by_cases h2:CtrM.zbe a=true
    ·by_cases h3:CtrM.zbe b=true
     ·exact absurd ⟨h1,h2,h3⟩ h
     ·exact .inr (.inr (by simpa using h3))
    ·exact .inr (.inl (by simpa using h2))
   ·exact .inl (by simpa using h1))]
  simp
theorem add_len {x y:St} {n m:Nat} (hx:zcI x=true) (hy:zcI y=true) (h1:LenS n x) (h2:LenS m y):LenS (n+m) (zpi x y):=by
 have k1:=zmL (a:=x.c) (b:=y.c)
 have k2:=RegL.zdn x.r y.r
 have k3:=PairM.zdn (base:=[]) (a:=x.p) (b:=y.p) rfl (zaM.1 hx).2.2 (zaM.1 hy).2.2
 have:=h1.c
 have:=h1.r
 have:=h1.p
 have:=h2.c
 have:=h2.r
 have:=h2.p
 exact⟨by show(CtrM.zcj [] x.c y.c).length≤_;omega,by show(RegL.zaQ x.r y.r).length≤_;omega,by show(PairM.zca [] x.p y.p).length≤_;omega⟩
theorem meld_len (l:List St):zck l→(∀s ∈ l,LenS 1 s)→LenS l.length (zdv l):=by
 refine zdp (p:=fun l=>zck l→(∀s ∈ l,LenS 1 s)→LenS l.length (zdv l)) (fun _ _=>by rw[zdo];exact⟨by simp[noS],by simp[noS],by simp[noS]⟩) (fun x h hi=>by rw[zd1];exact hi x (by simp)) (fun a b ha hb h h2 hm hi=>?_) l.length l (Nat.le_refl _)
 rw[zeW h h2,List.length_append]
 exact add_len (zct _ hm.left) (zct _ hm.right) (ha hm.left fun s hs=>hi s (List.mem_append_left _ hs)) (hb hm.right fun s hs=>hi s (List.mem_append_right _ hs))
section
variable {H:Com→Idn} {l:List Com}
def solo (c:Com):St:=stepS noS c.op c.node c.seq c.gen
noncomputable def zgN (H:Com→Idn) (l:List Com) (c:Com):Bool:=decide (¬(c.op.kind=2∧Gone H l c))
noncomputable def alone (H:Com→Idn) (l m:List Com):List St:=(m.filter (zgN H l)).map solo
theorem zhs {c:Com} (hk:zgN H l c=true) (_hc:Fine c):solo c=evS H l noS c:=by
 have hn:¬(c.op.kind=2∧Gone H l c):=of_decide_eq_true hk
 unfold solo stepS evS
 by_cases h0:c.op.kind=0
 ·rw[if_pos h0,if_pos h0]
 ·rw[if_neg h0,if_neg h0]
  by_cases h1:c.op.kind=1
  ·rw[if_pos h1,if_pos h1];rfl
  ·rw[if_neg h1,if_neg h1]
   by_cases h2:c.op.kind=2
   ·rw[if_pos h2,if_pos ⟨h2,fun g=>hn ⟨h2,g⟩⟩];rfl
   ·rw[if_neg h2,if_neg fun q=>h2 q.1]
    rfl
theorem zib {m:List Com} {s:St} (h:s ∈ alone H l m):∃c ∈ m,zgN H l c=true∧s=solo c:=by
 obtain⟨c,hc,rfl⟩:=List.mem_map.1 h
 obtain⟨h1,h2⟩:=List.mem_filter.1 hc
 exact⟨c,h1,h2,rfl⟩
theorem zlv {c:Com} (hc:Fine c):zcI (solo c)=true:=zpO (zc6.2 ⟨zbN,hc.op,hc.ev,hc.gen⟩)
theorem zpR (c:Com):LenS 1 (solo c):=by
 unfold solo stepS
 split
 ·refine⟨?_,by simp[noS],by simp[noS]⟩
  show(CtrM.zf3 [] _ _).length≤1
  unfold CtrM.zf3
  split
  ·have:=CtrM.zdY c.op.key (CtrM.w64 (CtrM.zbC [] c.op.key+c.op.n)) []
   simpa using this
  ·simp
 ·split
  ·exact⟨by simp[noS],by have:=RegL.zcW [] (zpo c.op c.node c.seq c.gen);simpa[noS]using this,by simp[noS]⟩
  ·split
   ·exact⟨by simp[noS],by simp[noS],by have:=PairM.ziI [] (zik c.op c.node c.seq);simpa[noS]using this⟩
   ·exact⟨by simp[noS],by simp[noS],by have:=PairM.zmZ [] c.op.key c.op.elem;show(PairM.zki [] c.op.key c.op.elem).length≤1;rw[List.length_nil]at this;omega⟩
theorem solo_in {c:Com} (hk:zgN H l c=true) (hc:Fine c):CtrL.InL (solo c).c:=by
 rw[zhs hk hc]
 exact ev_in zow
theorem zpd (k:ByteArray):∀m:List Com,(∀c ∈ m,Fine c)→CtrM.w64 (znr k (alone H l m))=CtrM.w64 (cnt k m)
 |[],_=>rfl
 |c::m,hm=>by
  have ih:=zpd k m fun d hd=>hm d (by simp[hd])
  have hc:=hm c (by simp)
  have e:cnt k (c::m)=(if c.op.kind=0∧c.op.key=k then c.op.n else 0)+cnt k m:=rfl
  rw[e]
  unfold alone at ih ⊢
  by_cases h:zgN H l c=true
  ·rw[List.filter_cons_of_pos h,List.map_cons]
   show CtrM.w64 (CtrM.zbC (solo c).c k+znr k _)=_
   rw[zhs h hc,ev_c zbN hc zow]
   have h0:CtrM.zbC noS.c k=0:=rfl
   rw[h0,Int.zero_add]
   generalize (if c.op.kind=0∧c.op.key=k then c.op.n else 0)=x
   simp only[CtrM.zho]at ih ⊢
   omega
  ·rw[List.filter_cons_of_neg h,ih]
   have h2:c.op.kind=2:=by
    have:¬¬(c.op.kind=2∧Gone H l c):=fun q=>h (decide_eq_true q)
    exact(Classical.not_not.1 this).1
   rw[if_neg (c:=c.op.kind=0∧c.op.key=k) fun q=>by omega,Int.zero_add]
theorem zpc (k:ByteArray):∀m:List Com,(∀c ∈ m,Fine c)→zgP k (alone H l m)=zmI k m
 |[],_=>rfl
 |c::m,hm=>by
  have ih:=zpc k m fun d hd=>hm d (by simp[hd])
  have hc:=hm c (by simp)
  have e:zmI k (c::m)=RegL.zcf (zmI k m) (zhx k c):=rfl
  rw[e]
  unfold alone at ih ⊢
  by_cases h:zgN H l c=true
  ·rw[List.filter_cons_of_pos h,List.map_cons]
   show RegL.zcf (zgP k _) (RegM.zcQ (solo c).r k)=_
   rw[ih,zhs h hc,ev_r zbN hc]
   have h0:RegM.zcQ noS.r k=none:=rfl
   rw[h0,RegL.zdP]
  ·rw[List.filter_cons_of_neg h,ih]
   have h2:c.op.kind=2:=by
    have:¬¬(c.op.kind=2∧Gone H l c):=fun q=>h (decide_eq_true q)
    exact(Classical.not_not.1 this).1
   unfold zhx
   rw[if_neg (c:=c.op.kind=1∧c.op.key=k) fun q=>by omega,RegL.zdP]
theorem zmM {m:List Com} (hm:∀c,c ∈ m↔c ∈ l) (hp:m.Perm l) (hl:∀c ∈ l,Fine c):zdv (alone H l m)=zdz H l:=by
 have fm:∀c ∈ m,Fine c:=fun c hc=>hl c ((hm c).1 hc)
 have hall:zck (alone H l m):=fun s hs=>by
  obtain⟨c,hc,_,rfl⟩:=zib hs
  exact zlv (fm c hc)
 refine zoL hl (zct _ hall) (fun k=>?_) (fun k=>?_) fun x=>?_
 ·rw[meld_c k _ hall (fun s hs=>by
   obtain⟨c,hc,hk,rfl⟩:=zib hs
   exact solo_in hk (fm c hc)),zpd k m fm,zmh k hp]
 ·rw[meld_r k _ hall,zpc k m fm,zlN k hp]
 ·rw[meld_p x _ hall]
  constructor
  ·rintro⟨s,hs,hx⟩
   obtain⟨c,hc,hk,rfl⟩:=zib hs
   rw[zhs hk (fm c hc),ev_p zbN (fm c hc)]at hx
   rcases hx with hx|⟨h1,h2,h3⟩
   ·cases hx
   ·exact⟨c,(hm c).1 hc,h1,h2,h3⟩
  ·rintro⟨c,hc,h1,h2,h3⟩
   have hk:zgN H l c=true:=decide_eq_true fun q=>h2 q.2
   refine⟨solo c,List.mem_map_of_mem (List.mem_filter.2 ⟨(hm c).2 hc,hk⟩),?_⟩
   rw[zhs hk (hl c hc),ev_p zbN (hl c hc)]
   exact .inr ⟨h1,h2,h3⟩
end
end Go.Proofs.YtgmdhaepiclkcaaGreatDoor.EaP
