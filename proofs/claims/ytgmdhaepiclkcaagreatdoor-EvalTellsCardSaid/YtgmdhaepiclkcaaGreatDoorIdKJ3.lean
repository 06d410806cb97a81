/- Ids as keys of a map | Maps whose keys are ids, of values of whatever kind | Clocks and views in memory -/
import Derived.Test.YtgmdhaepiclkcaaGreatDoorIdWJ3
import Derived.WideKeyArr2
import Derived.Maps.RangeWalk
import Derived.Maps.OwnSet
import Derived.Maps.OwnOps
import Derived.Maps.Ext
import Derived.Test.YtgmdhaepiclkcaaGreatDoorDgXJ5
import Derived.Test.YtgmdhaepiclkcaaGreatDoorRowGJ7
import Derived.Test.YtgmdhaepiclkcaaGreatDoorOpsGJ8
namespace Go.Proofs.YtgmdhaepiclkcaaGreatDoor.IdK
set_option maxRecDepth 100000
open Go Go.RowKit Go.Maps IdM Byt IdW
theorem arrK:WideMaps.ArrKey Tryz.prog 56 5 32:=⟨Tryz.underlying56,by kernel_rfl,by kernel_rfl,by kernel_rfl⟩
theorem law:Keyed Tryz.prog 56:=Keyed.of_law arrK.law
theorem zfs:0<Tryz.prog.types.size:=of_decide_eq_true (by kernel_rfl)
theorem zc1:∃m,Tryz.prog.types.size=m+1:=⟨Tryz.prog.types.size - 1,by have:=zfs;omega⟩
theorem keyT: Tryz.prog.keyType 56=true:=arrK.keyType zc1
def key (x:Idn):Lit:=.string (keyBytes (x.1.map (Lit.int .u8)))
theorem wf_u8 {n:Int} (h:0≤n∧n≤255):(Lit.int .u8 n).wf=true:=by
 simp[Lit.wf,IntKind.min,IntKind.max,IntKind.bits,IntKind.signed]
 omega
theorem zob (x:Idn) (D:Nat):∀L:List Nat,(∀i ∈ L,i<32)→
  L.mapM (fun i=>Tryz.prog.keyLits (D+1) 5 (((bv x.1).drop (i * 1)).take 1))=some (L.map fun i=>[Lit.int .u8 (x.1.getD i 0)])
 |[],_=>rfl
 |i::L,h=>by
  have hi:i<32:=h i (by simp)
  have e:((bv x.1).drop (i * 1)).take 1=[.int .u8 (x.1.getD i 0)]:=by
   rw[Nat.mul_one]
   apply List.ext_getElem?
   intro j
   rw[List.getElem?_take,List.getElem?_drop]
   by_cases hj:j=0
   ·subst hj
    rw[if_pos (by omega),Nat.add_zero,zcA _ (by rw[zaK];exact hi)]
    rfl
   ·rw[if_neg (by omega),List.getElem?_eq_none (by simp;omega)]
  have q: Tryz.prog.keyLits (D+1) 5 [.int .u8 (x.1.getD i 0)]=some [Lit.int .u8 (x.1.getD i 0)]:=by
   simp only[Program.keyLits,Tryz.underlying5]
   rw[if_pos ⟨trivial,wf_u8 (zks x i)⟩]
  rw[List.mapM_cons,e,q,zob x D L (fun j hj=>h j (by simp[hj]))]
  rfl
theorem map_range (x:Idn):(List.range 32).map (fun i=>Lit.int .u8 (x.1.getD i 0))=x.1.map (Lit.int .u8):=by
 apply List.ext_getElem
 ·simp[zaK]
 ·intro i h1 h2
  simp at h1 h2 ⊢
  rw[List.getElem?_eq_getElem h2]
  rfl
theorem zcc (x:Idn):keyOf Tryz.prog 56 (.agg (cs x))=some (key x):=by
 obtain⟨m0,hm0⟩:=zc1
 unfold keyOf
 simp only[Tryz.underlying56]
 rw[if_pos (by simp[keyT,Value.formed,Tryz.underlying56,arrK.size,zbO]),hm0]
 unfold Program.keyLits
 simp only[Tryz.underlying56,Value.cells]
 rw[if_pos (by rw[arrK.size];simp[zbO]),arrK.one,zoV,zob x m0 (List.range 32) (fun i hi=>by simpa using hi)]
 have hfl:∀(l:List Nat) (f:Nat→Lit),(l.map fun i=>[f i]).flatten=l.map f:=fun l f=>by induction l with|nil=>rfl|cons a r ih=>simp[ih]
 simp only[Option.map_some,hfl]
 rw[map_range]
 rfl
theorem key_inj {x y:Idn} (h:key x=key y):x=y:=by
 have h1:=zcc x
 have h2:=zcc y
 rw[←h]at h2
 have:=law.inj h1 h2
 injection this with this
 exact cs_inj this
theorem zdM {v:Value} {kl:Lit} (h:keyOf Tryz.prog 56 v=some kl):∃x,v=.agg (cs x):=by
 obtain⟨m0,hm0⟩:=zc1
 unfold keyOf at h
 simp only[Tryz.underlying56]at h
 split at h
 ·rename_i hf
  simp only[Bool.and_eq_true]at hf
  have hf2:=hf.2
  cases v <;> simp[Value.formed,Tryz.underlying56]at hf2
  rename_i xs
  rw[arrK.size]at hf2
  rw[Option.map_eq_some_iff]at h
  obtain⟨ls,hls,_⟩:=h
  rw[hm0]at hls
  unfold Program.keyLits at hls
  simp only[Tryz.underlying56,Value.cells]at hls
  rw[if_pos (by rw[arrK.size];simpa using hf2),Option.map_eq_some_iff]at hls
  obtain⟨ys,hys,_⟩:=hls
  rw[arrK.one]at hys
  have key:∀i,i<32→∃n,xs[i]?=some (.int .u8 n)∧0≤n∧n≤255:=by
   intro i hi
   have q:=mapM_some_get hys i i (by simp[hi])
   have hlen:ys.length=32:=by simpa using mapM_some_length hys
   rw[List.getElem?_eq_getElem (by omega)]at q
   have e:((xs.toList.drop (i * 1)).take 1)=[xs[i]'(by omega)]:=by
    rw[Nat.mul_one]
    apply List.ext_getElem?
    intro j
    rw[List.getElem?_take,List.getElem?_drop]
    by_cases hj:j=0
    ·subst hj
     rw[if_pos (by omega),Nat.add_zero,Array.getElem?_toList,Array.getElem?_eq_getElem (by omega)]
     rfl
    ·rw[if_neg (by omega),List.getElem?_eq_none (by simp;omega)]
   rw[e]at q
   rw[Array.getElem?_eq_getElem (by omega)]
   generalize xs[i]'(by omega)=u at q
   cases u <;> simp only[Program.keyLits,Tryz.underlying5]at q
   all_goals first|(cases q;done)|skip
   rename_i kd n
   split at q
   ·rename_i hw
    obtain⟨rfl,hw⟩:=hw
    have hb:=zpm hw
    unfold B at hb
    exact⟨n,rfl,hb⟩
   ·cases q
  have hl:(List.map (fun i=>(xs[i]?).elim 0 fun v=>match v with|.int _ n=>n|_=>0) (List.range 32)).length=32:=by simp
  refine⟨⟨List.map (fun i=>(xs[i]?).elim 0 fun v=>match v with|.int _ n=>n|_=>0) (List.range 32),hl,fun n hn=>?_⟩,?_⟩
  ·simp only[List.mem_map,List.mem_range]at hn
   obtain⟨i,hi,rfl⟩:=hn
   obtain⟨n,e,hb⟩:=key i hi
   rw[e]
   exact hb
  ·congr 1
   apply Array.ext_getElem?
   intro i
   by_cases hi:i<32
   ·rw[cs_at _ i hi]
    obtain⟨n,e,_⟩:=key i hi
    rw[e]
    simp[List.getD_eq_getElem?_getD,hi,e]
   ·rw[Array.getElem?_eq_none (by omega),Array.getElem?_eq_none (by rw[zbO];omega)]
 ·cases h
def SetD (D:DataW Unit) (L:List Idn):Prop:=(∀x,Maps.has D (key x)=decide (x ∈ L))∧∀x,x ∈ L→∀z,D.atKey (key x) z=.lit (.int .i64 1)
def zcg (w:World) (b n:Nat) (L:List Idn):Prop:=∃D:DataW Unit,w.ownsMap Tryz.prog 56 (plainElem Tryz.prog 3) b n D∧SetD D L
theorem zcg.made (w:World):zcg (w.alloc (.map #[] 0)) w.heap.size 0 []:=⟨.map [],World.ownsMap_made _ _ _ _,fun x=>by simp[Maps.has],fun x hx=>absurd hx (by simp)⟩
theorem zcg.lt {w:World} {b n:Nat} {L:List Idn} (h:zcg w b n L):b<w.heap.size:=by obtain⟨D,hD,_⟩:=h;exact hD.lt
theorem zcg.kept {w w':World} {b n:Nat} {L:List Idn} {row:Option Nat} (h:zcg w b n L) (hg:w.grownBy w' row) (hne:some b≠row):zcg w' b n L:=by
 obtain⟨D,hD,hs⟩:=h
 exact⟨D,hD.kept hg hne,hs⟩
theorem zcg.below {w w':World} {b n:Nat} {L:List Idn} (h:zcg w b n L) (hb:Below w.heap.size w w'):zcg w' b n L:=h.kept (zaq hb none) (by simp)
theorem zcg.alloc {w:World} {b n:Nat} {L:List Idn} (h:zcg w b n L) (o:Obj):zcg (w.alloc o) b n L:=h.kept (World.grownBy_alloc w o none) (by simp)
theorem zcg.congr {w:World} {b n:Nat} {L L':List Idn} (h:zcg w b n L) (he:∀x,x ∈ L↔x ∈ L'):zcg w b n L':=by
 obtain⟨D,hD,h1,h2⟩:=h
 exact⟨D,hD,fun x=>by rw[h1];simp only[he],fun x hx=>h2 x ((he x).2 hx)⟩
theorem zhA {D:DataW Unit} {L:List Idn} (hm:Maps.IsMap D) (h:SetD D L) (y:Idn):SetD (D.put (key y) (.lit (.int .i64 1))) (y::L):=by
 have hk:WideAt.IsKeyLit (key y):=law.key (zcc y)
 refine⟨fun x=>?_,fun x hx z=>?_⟩
 ·by_cases hxy:x=y
  ·subst hxy
   rw[Maps.has_put_same hm hk]
   simp
  ·rw[Maps.has_put_other (fun e=>hxy (key_inj e)),h.1]
   simp[hxy]
 ·by_cases hxy:x=y
  ·subst hxy
   exact Maps.atKey_put_same hm hk _ _
  ·rw[Maps.atKey_put_other (fun e=>hxy (key_inj e))]
   exact h.2 x (by simpa[hxy]using hx) z
section
variable (w:World) {ops:Array Oper} {rest:List Oper} {o:Oper} {a:Act} {Q:Exit→Act→World→Prop}
theorem zbx (hg:o.guard=none) (m x v:Operand) (hop:o.op=Op.mapUpdate 126 m x v) (b n:Nat) (L:List Idn) (hm:a.eval m=.map (some b)) (h:zcg w b n L) (hn:n<1000000)
  (y:Idn) (hx:a.eval x=.agg (cs y)) (hv:a.eval v=.int .i64 1) (hK:∀w',zcg w' b (n+1) (y::L)→w.grownBy w' (some b)→wpList Tryz.prog ops Q rest (a.put o.dst undef) w'):wpList Tryz.prog ops Q (o::rest) a w:=by
 obtain⟨D,hD,hs⟩:=h
 exact wpList_mapUpdate_own w hg m x v 126 hop 56 3 law Tryz.underlying126 _ b n D hm hD (by unfold maxLen;omega) _ _ (key y) hx hv (zcc y) _ [] (plainElem_int Tryz.underlying3 (by decide))
  (fun w' h1 h2=>hK w' ⟨_,h1,zhA hD.isMap hs y⟩ h2)
theorem zdQ (w:World):(zeroValue 3).run Tryz.prog w=.ok (.int .i64 0) w:=by kernel_rfl
theorem zaY (hg:o.guard=none) (m x:Operand) (hop:o.op=Op.lookup 126 m x false) (b n:Nat) (L:List Idn) (hm:a.eval m=.map (some b)) (h:zcg w b n L)
  (y:Idn) (hx:a.eval x=.agg (cs y)) (hK:wpList Tryz.prog ops Q rest (a.put o.dst (.int .i64 (if y ∈ L then 1 else 0))) w):wpList Tryz.prog ops Q (o::rest) a w:=by
 obtain⟨D,hD,hs⟩:=h
 refine wpList_lookup_own_int w hg m x 126 hop 56 3 .i64 law Tryz.underlying126 Tryz.underlying3 (zdQ w) b n D hm hD _ (key y) hx (zcc y) (fun c hat _=>?_)
 have hc:c=if y ∈ L then 1 else 0:=by
  by_cases hy:y ∈ L
  ·rw[hs.2 y hy]at hat
   simp only[hy,if_true]
   injection hat with hat
   injection hat with _ hat
   exact hat.symm
  ·have hh:=hs.1 y
   simp only[hy,decide_false]at hh
   rw[Maps.atKey_of_not_has hh]at hat
   simp only[hy,if_false]
   injection hat with hat
   injection hat with _ hat
   exact hat.symm
 rw[hc]
 exact hK
end
end Go.Proofs.YtgmdhaepiclkcaaGreatDoor.IdK
namespace Go.Proofs.YtgmdhaepiclkcaaGreatDoor.MapV
set_option maxRecDepth 100000
open Go Go.RowKit Go.Maps IdM Byt IdW IdK
def R (v:Value):Option (DataW Value×List MemPlace):=some (.held v,[])
def zpj (D:DataW Value) (f:Idn→Option Value):Prop:=(∀x,Maps.has D (key x)=(f x).isSome)∧∀x v,f x=some v→∀z,D.atKey (key x) z=.held v
def zaG (w:World) (b n:Nat) (f:Idn→Option Value):Prop:=∃D:DataW Value,w.ownsMap Tryz.prog 56 R b n D∧zpj D f
theorem zaG.made (w:World):zaG (w.alloc (.map #[] 0)) w.heap.size 0 fun _=>none:=⟨.map [],World.ownsMap_made _ _ _ _,fun x=>by simp[Maps.has],fun x v hx=>by cases hx⟩
theorem zaG.lt {w:World} {b n:Nat} {f:Idn→Option Value} (h:zaG w b n f):b<w.heap.size:=by obtain⟨D,hD,_⟩:=h;exact hD.lt
theorem zaG.kept {w w':World} {b n:Nat} {f:Idn→Option Value} {row:Option Nat} (h:zaG w b n f) (hg:w.grownBy w' row) (hne:some b≠row):zaG w' b n f:=by
 obtain⟨D,hD,hs⟩:=h
 exact⟨D,hD.kept hg hne,hs⟩
theorem zaG.below {w w':World} {b n:Nat} {f:Idn→Option Value} (h:zaG w b n f) (hb:Below w.heap.size w w'):zaG w' b n f:=h.kept (zaq hb none) (by simp)
theorem zaG.alloc {w:World} {b n:Nat} {f:Idn→Option Value} (h:zaG w b n f) (o:Obj):zaG (w.alloc o) b n f:=h.kept (World.grownBy_alloc w o none) (by simp)
theorem zaG.mono {w:World} {b n m:Nat} {f:Idn→Option Value} (h:zaG w b n f) (hm:n≤m):zaG w b m f:=by
 obtain⟨D,hD,hs⟩:=h
 exact⟨D,hD.mono hm,hs⟩
def upd (f:Idn→Option Value) (y:Idn) (v:Value):Idn→Option Value:=fun x=>if x=y then some v else f x
theorem zhA {D:DataW Value} {f:Idn→Option Value} (hm:Maps.IsMap D) (h:zpj D f) (y:Idn) (v:Value):zpj (D.put (key y) (.held v)) (upd f y v):=by
 have hk:WideAt.IsKeyLit (key y):=law.key (zcc y)
 refine⟨fun x=>?_,fun x u hx z=>?_⟩
 ·unfold upd
  by_cases hxy:x=y
  ·subst hxy
   rw[Maps.has_put_same hm hk]
   simp
  ·rw[Maps.has_put_other (fun e=>hxy (key_inj e)),h.1]
   simp[hxy]
 ·unfold upd at hx
  by_cases hxy:x=y
  ·subst hxy
   rw[if_pos rfl]at hx
   injection hx with hx
   subst hx
   exact Maps.atKey_put_same hm hk _ _
  ·rw[if_neg hxy]at hx
   rw[Maps.atKey_put_other (fun e=>hxy (key_inj e))]
   exact h.2 x u hx z
theorem zpj.zh9 {D:DataW Value} {f:Idn→Option Value} (h:zpj D f) (y:Idn) (z:Value):D.atKey (key y) (.held z)=.held ((f y).getD z):=by
 cases hf:f y with
 |some v=>exact h.2 y v hf _
 |none=>
  have hh:=h.1 y
  rw[hf]at hh
  rw[Maps.atKey_of_not_has hh]
  rfl
theorem zju {a b:Value} (h:(DataW.held a:DataW Value)=.held b):a=b:=by injection h
section
variable {T e:TypeId} (hT: Tryz.prog.underlying T=some (.map 56 e)) {zv:Value} (hz:∀w:World,(zeroValue e).run Tryz.prog w=.ok zv w)
include hT
theorem zeQ {w:World} {b n:Nat} {f:Idn→Option Value} (h:zaG w b n f) (y:Idn) (hz:∀w:World,(zeroValue e).run Tryz.prog w=.ok zv w):(Instr.lookup T (.map (some b)) (.agg (cs y)) false).run Tryz.prog w=.ok ((f y).getD zv) w:=by
 obtain⟨D,hD,hs⟩:=h
 obtain⟨v,ps,hrun,hv⟩:=hD.lookup law hT (hz w) (show R zv=some (.held zv,[]) from rfl) (zcc y)
 rw[hs.zh9]at hv
 unfold R at hv
 simp only[Option.some.injEq,Prod.mk.injEq]at hv
 rw[hrun,zju hv.1]
theorem zkH {w:World} {b n:Nat} {f:Idn→Option Value} (h:zaG w b n f) (y:Idn) (hz:∀w:World,(zeroValue e).run Tryz.prog w=.ok zv w):(Instr.lookup T (.map (some b)) (.agg (cs y)) true).run Tryz.prog w=.ok (.tuple #[(f y).getD zv,.bool (f y).isSome]) w:=by
 obtain⟨D,hD,hs⟩:=h
 obtain⟨v,ps,hrun,hv⟩:=hD.look_ok law hT (hz w) (show R zv=some (.held zv,[]) from rfl) (zcc y)
 rw[hs.zh9]at hv
 unfold R at hv
 simp only[Option.some.injEq,Prod.mk.injEq]at hv
 rw[hrun,zju hv.1,hs.1]
section
variable (w:World) {ops:Array Oper} {rest:List Oper} {o:Oper} {a:Act} {Q:Exit→Act→World→Prop}
theorem zbx (hg:o.guard=none) (m x v:Operand) (hop:o.op=Op.mapUpdate T m x v) (b n:Nat) (f:Idn→Option Value) (hm:a.eval m=.map (some b)) (h:zaG w b n f) (hn:n<3000000000000)
  (y:Idn) (hx:a.eval x=.agg (cs y)) (u:Value) (hv:a.eval v=u) (hK:∀w',zaG w' b (n+1) (upd f y u)→w.grownBy w' (some b)→wpList Tryz.prog ops Q rest (a.put o.dst undef) w'):wpList Tryz.prog ops Q (o::rest) a w:=by
 obtain⟨D,hD,hs⟩:=h
 exact wpList_mapUpdate_own w hg m x v T hop 56 e law hT _ b n D hm hD (by unfold maxLen;omega) _ _ (key y) hx hv (zcc y) (.held u) [] rfl
  (fun w' h1 h2=>hK w' ⟨_,h1,zhA hD.isMap hs y u⟩ h2)
theorem zaY (hz:∀w:World,(zeroValue e).run Tryz.prog w=.ok zv w) (hg:o.guard=none) (m x:Operand) (hop:o.op=Op.lookup T m x false) (b n:Nat) (f:Idn→Option Value) (hm:a.eval m=.map (some b)) (h:zaG w b n f)
  (y:Idn) (hx:a.eval x=.agg (cs y)) (u:Value) (hu:(f y).getD zv=u) (hK:wpList Tryz.prog ops Q rest (a.put o.dst u) w):wpList Tryz.prog ops Q (o::rest) a w:=by
 refine wpList_plain hg fun K' hK'=>?_
 have hrun:=zeQ hT h y hz
 rw[hu]at hrun
 unfold Oper.wp
 simp[execOp,hop,hm,hx,hrun,Result.andThen]
 exact hK' _ _ hK
theorem zcs (hz:∀w:World,(zeroValue e).run Tryz.prog w=.ok zv w) (hg:o.guard=none) (m x:Operand) (hop:o.op=Op.lookup T m x true) (b n:Nat) (f:Idn→Option Value) (hm:a.eval m=.map (some b)) (h:zaG w b n f)
  (y:Idn) (hx:a.eval x=.agg (cs y)) (u:Value) (hu:(f y).getD zv=u) (is:Bool) (hi:(f y).isSome=is) (hK:wpList Tryz.prog ops Q rest (a.put o.dst (.tuple #[u,.bool is])) w):wpList Tryz.prog ops Q (o::rest) a w:=by
 refine wpList_plain hg fun K' hK'=>?_
 have hrun:=zkH hT h y hz
 rw[hu,hi]at hrun
 unfold Oper.wp
 simp[execOp,hop,hm,hx,hrun,Result.andThen]
 exact hK' _ _ hK
end
end
end Go.Proofs.YtgmdhaepiclkcaaGreatDoor.MapV
namespace Go.Proofs.YtgmdhaepiclkcaaGreatDoor.DgY
set_option maxRecDepth 100000
open Go Go.Sort Go.RowKit Byt IdM IdW OpsM OpsW CmM StW CmW CmX CmY DgM DgW DgX
def ckL (s:Int→Int):List Value:=[.int .i64 (s 0),.int .i64 (s 1),.int .i64 (s 2),.int .i64 (s 3),.int .i64 (s 4),.int .i64 (s 5),.int .i64 (s 6),.int .i64 (s 7)]
def CK:Cel.Cel (Int→Int) where
 T:=109
 k:=8
 bytes:=64
 d:=_
 enc:=ckL
 zero:=fun _=>0
 len _:=rfl
 one c v hv:=by
  simp only[ckL,List.mem_cons,List.not_mem_nil,or_false]at hv
  rcases hv with rfl|rfl|rfl|rfl|rfl|rfl|rfl|rfl <;> rfl
 pos:=by omega
 info:=by kernel_rfl
 under:=Tryz.underlying109
 row:=rfl
def VE:Cel.Cel (Com×(Int→Int)) where
 T:=112
 k:=11
 bytes:=88
 d:=_
 enc v:=[.int .i64 v.1.node,.int .i64 v.1.seq,.int .i64 v.1.gen]++ckL v.2
 zero:=(noK,fun _=>0)
 len _:=rfl
 one c v hv:=by
  simp only[ckL,List.cons_append,List.nil_append,List.mem_cons,List.not_mem_nil,or_false]at hv
  rcases hv with rfl|rfl|rfl|rfl|rfl|rfl|rfl|rfl|rfl|rfl|rfl <;> rfl
 pos:=by omega
 info:=by kernel_rfl
 under:=Tryz.underlying112
 row:=rfl
def ck (s:Int→Int):Array Value:=(ckL s).toArray
def vc (v:Com×(Int→Int)):Array Value:=(VE.enc v).toArray
theorem eight {n:Int} (h:0≤n∧n<8):n=0∨n=1∨n=2∨n=3∨n=4∨n=5∨n=6∨n=7:=by omega
theorem zm2 (s:Int→Int) {n:Int} (h:0≤n∧n<8):(ckL s)[n.toNat]?=some (.int .i64 (s n)):=by
 rcases eight h with rfl|rfl|rfl|rfl|rfl|rfl|rfl|rfl <;> rfl
theorem ck_set (s:Int→Int) {n:Int} (h:0≤n∧n<8) (v:Int):(ckL s).set n.toNat (.int .i64 v)=ckL fun m=>if m=n then v else s m:=by
 rcases eight h with rfl|rfl|rfl|rfl|rfl|rfl|rfl|rfl <;> rfl
theorem zhe {s t:Int→Int} (h:∀n,0≤n→n<8→s n=t n):ckL s=ckL t:=by
 unfold ckL
 rw[h 0 (by omega) (by omega),h 1 (by omega) (by omega),h 2 (by omega) (by omega),h 3 (by omega) (by omega),h 4 (by omega) (by omega),h 5 (by omega) (by omega),h 6 (by omega) (by omega),h 7 (by omega) (by omega)]
theorem index_ck (s:Int→Int) {n:Int} (h:0≤n∧n<8) (w:World):(Instr.index 109 (.agg (ck s)) (.int .i64 n)).run Tryz.prog w=.ok (.int .i64 (s n)) w:=by
 rcases eight h with rfl|rfl|rfl|rfl|rfl|rfl|rfl|rfl
 all_goals kernel_rfl
theorem zmD {fn:Func} {p:Tmp} (h:fn.results= #[.cell p 109]) (tmps:Array Value) (w:World) (g:Nat) (s:Int→Int)
  (hp:tmps.getD p undef=.pointer (some ⟨g,0,none⟩)) (hg:Cel.Box CK w g s):(results fn tmps).run Tryz.prog w=.ok (.agg (ck s)) w:=by
 obtain⟨t,ht⟩:=hg
 have hp':tmps[p]?.getD undef=.pointer (some ⟨g,0,none⟩):=by simpa using hp
 have hl:=run_loadVar_row w g t 109 (CK.enc s).toArray (0,0) _ ht CK.under CK.row (CK.size' s)
 simp[results,h,hp',asAddr,hl]
 rfl
theorem zco {fn:Func} {p q:Tmp} (h:fn.results= #[.cell p 109,.tmp q]) (tmps:Array Value) (w:World) (g:Nat) (s:Int→Int) (x:Value)
  (hp:tmps.getD p undef=.pointer (some ⟨g,0,none⟩)) (hq:tmps.getD q undef=x) (hg:Cel.Box CK w g s):(results fn tmps).run Tryz.prog w=.ok (.tuple #[.agg (ck s),x]) w:=by
 obtain⟨t,ht⟩:=hg
 have hp':tmps[p]?.getD undef=.pointer (some ⟨g,0,none⟩):=by simpa using hp
 have hq':tmps[q]?.getD undef=x:=by simpa using hq
 have hl:=run_loadVar_row w g t 109 (CK.enc s).toArray (0,0) _ ht CK.under CK.row (CK.size' s)
 simp[results,h,hp',hq',asAddr,hl]
 rfl
theorem zcB {w:World} {g:Nat} {s t:Int→Int} (h:Cel.Box CK w g s) (e:∀n,0≤n→n<8→s n=t n):Cel.Box CK w g t:=by
 obtain⟨ty,ht⟩:=h
 exact⟨ty,by rw[ht];congr 2;exact congrArg List.toArray (zhe e)⟩
section
variable {ops:Array Oper} {rest:List Oper} {o:Oper} {a:Act} {w:World} {Q:Exit→Act→World→Prop}
theorem zfl (hgd:o.guard=none) (x:Operand) (ho:o.op=.load 109 x) (g:Nat) (hx:a.eval x=.pointer (some ⟨g,0,none⟩)) (s:Int→Int) (hb:Cel.Box CK w g s) (h:wpList Tryz.prog ops Q rest (a.put o.dst (.agg (ck s))) w):wpList Tryz.prog ops Q (o::rest) a w:=
 Cel.zaa CK hgd x ho g hx s hb h
theorem ziQ (hgd:o.guard=none) (hd:o.dst=none) (x y:Operand) (ho:o.op=.store 3 x y) (g:Nat) (n:Int) (hn:0≤n∧n<8) (hx:a.eval x=.pointer (some ⟨g,n.toNat,none⟩)) (old:Int→Int) (hc:Cel.Box CK w g old) (v:Int) (hy:a.eval y=.int .i64 v)
  (h:∀w',Cel.Box CK w' g (fun m=>if m=n then v else old m)→(∀B,B≤g→Below B w w')→w.grownBy w' (some g)→w'.heap.size=w.heap.size→wpList Tryz.prog ops Q rest a w'):wpList Tryz.prog ops Q (o::rest) a w:=
 Cel.zaI CK hgd hd 3 x y ho (by kernel_rfl) g n.toNat hx (by show n.toNat<8;omega) old hc (fun m=>if m=n then v else old m) (.int .i64 v) hy rfl rfl (ck_set old hn v) h
end
theorem zeH (s:Int→Int) (e:Ev) (h:0≤e.node∧e.node<8) (w:World):
  Calls Tryz.prog 69 #[.agg (ck s),.agg (ec e)] w fun x w'=>x=.returned (.bool (decide (e.seq≤s e.node)))∧Below w.heap.size w w':=by
 have z1:(w.alloc (.cells (ck s) 109)).heap.size=w.heap.size+1:=by simp
 have B1:Cel.Box CK ((w.alloc (.cells (ck s) 109)).alloc (.cells (ec e) 43)) w.heap.size s:=(Cel.Box.new (E:=CK) w s _).alloc _
 have B2:Cel.Box EE ((w.alloc (.cells (ck s) 109)).alloc (.cells (ec e) 43)) (w.heap.size+1) e:=by
  rw[←z1]
  exact Cel.Box.new (E:=EE) _ e _
 have kb:Below w.heap.size w ((w.alloc (.cells (ck s) 109)).alloc (.cells (ec e) 43)):=((Below.refl _ _).alloc (Nat.le_refl _) _).alloc (by simp) _
 obtain⟨n,q⟩:=e
 have h0:0≤n:=h.1
 have h8:n<8:=h.2
 have c1:=B1.cell (zm2 s h)
 obtain⟨c2,c3⟩:=zfZ B2
 obtain⟨x,hx⟩:∃x,s n=x:=⟨_,rfl⟩
 simp only at c1 c2 c3
 rw[hx]at c1
 have HX:=aside hx
 clear z1 B1 B2 hx h
 go_enter Tryz.func69,Tryz.ntmps69
 go_wp2
 go_quiet (fail)
 go_wp2
 go_ret
 exact⟨by rw[HX.out];rfl,zai kb _⟩
theorem zkU (x y:Int) (ts:Array TypeId) (t:TypeId) (w:World):(Builtin.max_ ts t #[.int .i64 x,.int .i64 y]).run Tryz.prog w=.ok (.int .i64 (max x y)) w:=by
 rw[run_max_int2]
 congr 2
 by_cases h:y > x
 ·rw[if_pos h];omega
 ·rw[if_neg h];omega
theorem zpb (s t:Int→Int) (w:World):
  Calls Tryz.prog 68 #[.agg (ck s),.agg (ck t)] w fun x w'=>x=.returned (.agg (ck fun n=>max (s n) (t n)))∧Below w.heap.size w w':=by
 have z1:(w.alloc (.cells (ck s) 109)).heap.size=w.heap.size+1:=by simp
 have z2:((w.alloc (.cells (ck s) 109)).alloc (.cells (ck t) 109)).heap.size=w.heap.size+1+1:=by simp
 have B1:Cel.Box CK (((w.alloc (.cells (ck s) 109)).alloc (.cells (ck t) 109)).alloc (.cells (ck fun _=>0) 109)) w.heap.size s:=((Cel.Box.new (E:=CK) w s _).alloc _).alloc _
 have B2:Cel.Box CK (((w.alloc (.cells (ck s) 109)).alloc (.cells (ck t) 109)).alloc (.cells (ck fun _=>0) 109)) (w.heap.size+1) t:=by
  rw[←z1]
  exact(Cel.Box.new (E:=CK) _ t _).alloc _
 have B3:Cel.Box CK (((w.alloc (.cells (ck s) 109)).alloc (.cells (ck t) 109)).alloc (.cells (ck fun _=>0) 109)) (w.heap.size+1+1) (fun _=>0):=by
  rw[←z2]
  exact Cel.Box.new (E:=CK) _ (fun _=>0) _
 have kb:Below w.heap.size w (((w.alloc (.cells (ck s) 109)).alloc (.cells (ck t) 109)).alloc (.cells (ck fun _=>0) 109)):=(((Below.refl _ _).alloc (Nat.le_refl _) _).alloc (by simp) _).alloc (by simp;omega) _
 clear z1 z2
 go_enter Tryz.func68,Tryz.ntmps68
 go_wp2_with (first|go_skip|(refine zfl rfl _ rfl _ rfl t B2 ?_))
 go_loopw [8] (fun i wr=>∃k:Nat,k≤8∧i=.int .i64 k∧Cel.Box CK wr w.heap.size (fun n=>if n<k then max (s n) (t n)else s n)∧Cel.Box CK wr (w.heap.size+1+1) (fun _=>0)∧Below w.heap.size w wr) (fun i _=>8 - (intOf i).toNat)
 case atStart=>exact⟨0,Nat.zero_le _,rfl,zcB B1 fun n h0 _=>(if_neg (by omega)).symm,B3,kb⟩
 case round=>
  clear B1 B2 B3 kb
  obtain⟨k,hk,rfl,B1,B3,kb⟩:=hrel
  by_cases hlt:k<8
  ·have h8:0≤(k:Int)∧(k:Int)<8:=by omega
   have hi:=index_ck t h8
   have hc:=zm2 (fun n:Int=>if n<k then max (s n) (t n)else s n) h8
   obtain⟨x,hx⟩:∃x,s k=x:=⟨_,rfl⟩
   obtain⟨y,hy⟩:∃y,t k=y:=⟨_,rfl⟩
   rw[if_neg (Int.lt_irrefl _),hx]at hc
   have c1:=B1.cell hc
   clear hc
   rw[hy]at hi
   have HX:=aside hx
   have HY:=aside hy
   have p0:(k:Int)<8:=h8.2
   have o0:0≤(k:Int):=h8.1
   have m0:((k:Int)).toNat=k:=by omega
   rw[m0]at c1
   have hm:=zkU x y
   obtain⟨z,hz⟩:∃z,max x y=z:=⟨_,rfl⟩
   rw[hz]at hm
   have HZ:=aside hz
   clear hx hy hz
   go_wp2_with (first|go_skip|(refine ziQ rfl rfl _ _ rfl w.heap.size k h8 rfl _ B1 z rfl ?_;intro w1 B2 f2 g2 s2))
   go_roundw
   case rel=>
    refine⟨k+1,by omega,by go_num,zcB B2 fun n h0 h1=>?_,B3.kept g2 (by simp;omega),kb.trans (f2 _ (Nat.le_refl _))⟩
    have e1:=HX.out
    have e2:=HY.out
    have e3:=HZ.out
    by_cases e:n=k
    ·rw[if_pos e,if_pos (by omega),e,e1,e2,e3]
    ·rw[if_neg e]
     by_cases e4:n<k
     ·rw[if_pos e4,if_pos (by omega)]
     ·rw[if_neg e4,if_neg (by omega)]
   case measure=>simp[intOf];omega
  ·obtain rfl:k=8:=by omega
   have B1':Cel.Box CK wr w.heap.size (fun n=>max (s n) (t n)):=zcB B1 fun n _ h1=>if_pos (by omega)
   clear B1
   go_wp2_with (first|go_skip|(refine zfl rfl _ rfl _ rfl _ B1' ?_)|(refine Cel.zad CK rfl _ _ rfl (w.heap.size+1+1) rfl _ B3 (fun n=>max (s n) (t n)) rfl ?_;intro w1 B5 f5 g5 s5))
   exact bodyPost_ret (v:=.agg (ck fun n=>max (s n) (t n))) (zmD Tryz.results68 _ _ (w.heap.size+1+1) _ rfl B5) rfl ⟨rfl,kb.trans (f5 _ (by omega))⟩
end Go.Proofs.YtgmdhaepiclkcaaGreatDoor.DgY
