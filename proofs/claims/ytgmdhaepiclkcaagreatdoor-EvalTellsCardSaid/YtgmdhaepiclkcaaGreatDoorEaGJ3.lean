/- A row of states with room for more | What the project's At of package eval returns | What the listed variable gives a walk -/
import Derived.Test.YtgmdhaepiclkcaaGreatDoorEaD
import Derived.Test.YtgmdhaepiclkcaaGreatDoorEaF
import Derived.Test.YtgmdhaepiclkcaaGreatDoorStNJ8
import Derived.Test.YtgmdhaepiclkcaaGreatDoorStK
import Derived.Test.YtgmdhaepiclkcaaGreatDoorOpsGJ8
import Derived.Test.YtgmdhaepiclkcaaGreatDoorRows
import Derived.ProofKit
import Derived.LaidMore
import Derived.OpenShut
import Derived.Stop.Joined
namespace Go.Proofs.YtgmdhaepiclkcaaGreatDoor.EaG
set_option maxHeartbeats 64000000
set_option maxRecDepth 100000
open Go Go.Sort Go.RowKit Byt IdM IdW OpsM OpsW RowS CmM StM StW CmW CmX CmY CmA DgM DgW DgR DgF DgS EaM EaN EaP EaC EaD EaF EaH
open Classical
structure Full (w:World) (g cap:Nat) (us:List Sv):Prop where
 row:∃cur:Array Value,w.heap[g]?=some (.cells cur 30 (0,0))∧cur.size=cap * 3∧(∀(j:Nat) (v:Value),(RowS.flat GE us)[j]?=some v→cur[j]?=some v)∧∀v ∈ cur,znd v=false
 room:us.length≤cap
 max:cap≤8388608
theorem Full.lt {w:World} {g cap:Nat} {us:List Sv} (h:Full w g cap us):g<w.heap.size:=by
 obtain⟨cur,hg,_⟩:=h.row
 exact(Array.getElem?_eq_some_iff.1 hg).1
theorem Full.below {w w':World} {g cap:Nat} {us:List Sv} (h:Full w g cap us) (hb:Below w.heap.size w w'):Full w' g cap us:=by
 obtain⟨cur,hg,h2⟩:=h.row
 exact⟨⟨cur,by rw[hb.block g (Array.getElem?_eq_some_iff.1 hg).1,hg],h2⟩,h.room,h.max⟩
theorem Full.slice {w:World} {g cap:Nat} {us:List Sv} (h:Full w g cap us):SlR GE w (some ⟨g,0,none⟩) cap us:=by
 obtain⟨cur,hg,h2,h3,_⟩:=h.row
 refine⟨h.room,by have:=h.max;unfold maxLen;omega,.inr ⟨_,rfl,fun i v hv=>?_⟩⟩
 rw[Addr.add_lit,Nat.zero_add,cell_of_row w g i cur _ (0,0) hg]
 exact h3 i v hv
theorem zjl {α:Type} {E:Enc α} (hE:∀x,∀v ∈ E.enc x,znd v=true) {w w':World} {A:Option Addr} {cap g n:Nat} {l:List α} {us:List Sv} (h:SlR E w A cap l) (hb:Full w g n us) (hg:w.grownBy w' (some g)):SlR E w' A cap l:=by
 obtain⟨h1,h2,h5⟩:=h
 obtain⟨cur,hc,_,_,hall⟩:=hb.row
 refine⟨h1,h2,?_⟩
 rcases h5 with h5|⟨x,rfl,hx⟩
 ·exact .inl h5
 ·refine .inr ⟨x,rfl,fun i u hu=>?_⟩
  have hcell:=hx i u hu
  have hlt:=block_lt_of_cell hcell
  have hne:some (x.add i).block≠some g:=by
   intro e
   injection e with e
   have hsp:=World.cell?_spot hcell
   have hu2:znd u=true:=by
    have hm:=List.mem_of_getElem? hu
    unfold RowS.flat at hm
    rw[List.mem_flatMap]at hm
    obtain⟨y,_,hy⟩:=hm
    exact hE y u hy
   have:(x.add i)=⟨g,(x.add i).off,none⟩:=by
    cases hx:x.add i with
    |mk b o s=>
     rw[hx]at e hsp
     simp only at e hsp
     rw[e,hsp]
   rw[this,cell_of_row w g _ cur _ (0,0) hc]at hcell
   have:=hall u (Array.mem_of_getElem? hcell)
   rw[hu2]at this
   cases this
  unfold World.cell? at hcell ⊢
  rw[hg.block _ hlt hne]
  exact hcell
theorem zl4 {w w':World} {g n:Nat} {u:Sv} {us:List Sv} (h:In w u) (hb:Full w g n us) (hg:w.grownBy w' (some g)):In w' u:=⟨zjl noC h.c hb hg,zjl noR h.r hb hg,zjl noP h.p hb hg⟩
theorem enc_sl (v:Sv):∀x ∈ GE.enc v,znd x=false:=by
 intro x hx
 simp only[GE,List.mem_cons,List.not_mem_nil,or_false]at hx
 rcases hx with rfl|rfl|rfl <;> rfl
section
variable {ops:Array Oper} {rest:List Oper} {o:Oper} {a:Act} {w:World} {Q:Exit→Act→World→Prop}
theorem zje (hgd:o.guard=none) (x y:Operand) (ho:o.op=.makeSlice 69 x y) (n:Nat) (hx:a.eval x=.int .i64 0) (hy:a.eval y=.int .i64 n) (hn:n≤8388608)
  (h:∀w1,Full w1 w.heap.size n []→Below w.heap.size w w1→wpList Tryz.prog ops Q rest (a.put o.dst (.slice (some ⟨w.heap.size,0,none⟩) 0 n)) w1):wpList Tryz.prog ops Q (o::rest) a w:=by
 refine wpList_plain hgd fun K hK=>?_
 obtain⟨i,hi,z0,z1,z2⟩:=info_parts GE.info
 have hrun:=run_make (P:=Tryz.prog) w 69 30 i (.agg (GE.enc GE.zero).toArray) Tryz.underlying69 hi z0 .i64 .i64 0 n (by omega) (by omega) (by rw[z2];show(72:Int) * _≤_;omega) (by omega)
 rw[z1,Int.toNat_natCast]at hrun
 unfold Oper.wp
 simp[execOp,ho,hx,hy,hrun,Result.andThen]
 refine hK _ _ (h _ ⟨⟨_,heap_alloc_new _ _,size_madeCells _ _,fun j v hv=>by simp[RowS.flat]at hv,fun v hv=>?_⟩,Nat.zero_le _,hn⟩ ((Below.refl _ _).alloc (Nat.le_refl _) _))
 unfold madeCells at hv
 rw[Array.mem_map]at hv
 obtain⟨j,_,rfl⟩:=hv
 have hz:j % 3=0∨j % 3=1∨j % 3=2:=by omega
 show znd ((#[Value.slice none 0 0,.slice none 0 0,.slice none 0 0])[j % 3]!)=false
 rcases hz with e|e|e <;> rw[e] <;> rfl
theorem ze5 (hgd:o.guard=none) (s x:Operand) (ho:o.op=.call {callee:=.builtin .append,args:=#[s,x],argTypes:=#[69,69]})
  (g cap:Nat) (us:List Sv) (hs:a.eval s=.slice (some ⟨g,0,none⟩) us.length cap) (hf:Full w g cap us) (hr:us.length+1≤cap)
  (b:Nat) (y:Sv) (hx:a.eval x=.slice (some ⟨b,0,none⟩) 1 1) (hb:RowB.Box GE w b y)
  (h:∀w',Full w' g cap (us++[y])→w.grownBy w' (some g)→wpList Tryz.prog ops Q rest (a.put o.dst (.slice (some ⟨g,0,none⟩) (us.length+1) cap)) w'):wpList Tryz.prog ops Q (o::rest) a w:=by
 obtain⟨cur,hg,h2,h3,h4⟩:=hf.row
 obtain⟨i,hi,z0,z1,z2⟩:=info_parts GE.info
 have z1:i.size=3:=z1
 have hl:(GE.enc y).length=1 * i.size:=by rw[z1];rfl
 have hrun:=run_append_room (P:=Tryz.prog) w 69 o.type 30 i Tryz.underlying69 hi g us.length cap cur hg ⟨b,0,none⟩ 1 1 (GE.enc y) hl (fun j u hu=>by rw[Addr.add_lit,Nat.zero_add];exact hb.cell hu) (fun u hu=>GE.one y u hu) hr (by rw[hl,z1,h2];omega)
 refine wpList_plain hgd fun K hK=>?_
 unfold Oper.wp execOp
 simp only[ho,resolve,invoke,builtin,Sem.run_bind,Sem.run_pure,Result.andThen_ok,List.map_toArray,List.map_cons,List.map_nil,hs,hx,hrun]
 have hn3:us.length * 3≤cur.size:=by rw[h2];omega
 have hfl:(RowS.flat GE us).length=us.length * 3:=RowS.flat_length GE us
 refine hK _ _ (h _ ⟨⟨_,setRow_heap w g cur _ _ (0,0) hg,?_,fun j v hv=>?_,fun v hv=>?_⟩,by simp;omega,hf.max⟩ ⟨rfl,rfl,rfl,by simp[World.setRow],fun k _ hk=>setRow_other w g k _ (fun e=>hk (by rw[e]))⟩)
 ·rw[z1]
  simp[GE]
  omega
 ·rw[z1,List.getElem?_toArray]
  rw[RowS.zbb,RowS.zd4]at hv
  have hj:=(List.getElem?_eq_some_iff.1 hv).1
  rw[List.length_append,hfl]at hj
  have ht:(cur.toList.take (us.length * 3)).length=us.length * 3:=by rw[List.length_take];simp;omega
  by_cases e:j<us.length * 3
  ·rw[List.getElem?_append_left (by rw[hfl];exact e)]at hv
   rw[List.append_assoc,List.getElem?_append_left (by rw[ht];exact e),List.getElem?_take,if_pos e]
   simpa using h3 j v hv
  ·rw[List.getElem?_append_right (by rw[hfl];omega),hfl]at hv
   rw[List.append_assoc,List.getElem?_append_right (by rw[ht];omega),ht,List.getElem?_append_left (by omega)]
   exact hv
 ·rw[List.mem_toArray,List.mem_append,List.mem_append]at hv
  rcases hv with(hv|hv)|hv
  ·exact h4 v (by simpa using List.mem_of_mem_take hv)
  ·exact enc_sl y v hv
  ·exact h4 v (by simpa using List.mem_of_mem_drop hv)
theorem zml (hgd:o.guard=none) (x:Operand) (ho:o.op=.buildSlice 69 1 #[(0,x)])
  (y:Sv) (hx:a.eval x=.agg (sc y)) (h:∀w1,RowB.Box GE w1 w.heap.size y→Below w.heap.size w w1→wpList Tryz.prog ops Q rest (a.put o.dst (.slice (some ⟨w.heap.size,0,none⟩) 1 1)) w1):wpList Tryz.prog ops Q (o::rest) a w:=
 RowC.zat GE (of_decide_eq_true rfl) hgd x ho y hx (h _ (RowB.Box.new w y _) ((Below.refl _ _).alloc (Nat.le_refl _) _))
theorem zg4 (hgd:o.guard=none) (x:Operand) (ho:o.op=.load 45 x) (g:Nat) (hx:a.eval x=.pointer (some ⟨g,4,none⟩)) (v:Cv) (hb:Cel.Box CE w g v) (h:wpList Tryz.prog ops Q rest (a.put o.dst (.agg (opc v.c.op))) w):wpList Tryz.prog ops Q (o::rest) a w:=
 wpList_load_mid hgd OE.T x ho g 4 hx (OE.enc v.c.op) _ (zfx hb) OE.under OE.row (OE.size _) h
end
theorem sorted_perm {l m:List Com} (C:Closed zaj l) (ho:zch zaj m) (h:∀z,z ∈ m↔z ∈ l):m.Perm l:=by
 have hm:m.Nodup:=by
  rw[List.nodup_iff_pairwise_ne]
  exact ho.imp fun h e=>by
   rw[e]at h
   exact zlg h h
 have hl:l.Nodup:=by
  have h1:=C.nodup
  rw[List.nodup_iff_pairwise_ne,List.pairwise_map]at h1
  exact List.nodup_iff_pairwise_ne.2 (h1.imp fun q e=>q (by rw[e]))
 exact(List.perm_ext_iff_of_nodup hm hl).2 h
theorem zgp {l m:List Com} {k:Nat} {c:Com} (h:m[k]?=some c):alone zaj l (m.take (k+1))=alone zaj l (m.take k)++(if zgN zaj l c=true then[solo c]else[]):=by
 obtain⟨hk,e⟩:=List.getElem?_eq_some_iff.1 h
 unfold alone
 rw[List.take_succ_eq_append_getElem hk,List.filter_append,List.map_append,e]
 by_cases q:zgN zaj l c=true
 ·rw[if_pos q,List.filter_cons_of_pos q,List.filter_nil]
  rfl
 ·rw[if_neg q,List.filter_cons_of_neg q,List.filter_nil]
  rfl
theorem zlr (l:List Sv) (x:Sv):sts (l++[x])=sts l++[x.s]:=by unfold sts;rw[List.map_append];rfl
theorem zfX:StW.Fits noS:=EaF.zh2
theorem zlw {c:Com} (hc:Fine c) (hf:CmW.Fit c):Solo (solo c):=by
 refine⟨zlv hc,?_,zpR c⟩
 exact StY.zjI zfX (zc6.2 ⟨zbN,hc.op,hc.ev,hc.gen⟩) hf.node hf.seq hf.gen
theorem zoQ {c:Com} (hc:Fine c):doS noS c.op c.node c.seq c.gen=some (solo c):=by
 unfold doS
 rw[if_pos (zc6.2 ⟨zbN,hc.op,hc.ev,hc.gen⟩)]
 rfl
theorem zfY (A:Option Addr) (cap:Nat) (l:List Cv) (w:World) (S:SlK w A cap l) (hl:l.length≤1500000000000) (hK:ShaE.KIn w):
  Calls Tryz.prog 12 #[.slice A l.length cap] w (StW.New (zh3 (zar l)) w):=by
 have hmax:=S.len
 have R0:Cel.Box SE (w.alloc (.cells #[.slice none 0 0,.slice none 0 0,.slice none 0 0] 30)) w.heap.size noV:=Cel.Box.new (E:=SE) w noV _
 have kb:=StW.zah w (.cells #[.slice none 0 0,.slice none 0 0,.slice none 0 0] 30)
 have q:=DhD.zmu DhK.zfK A cap l _ (S.below kb) hl (hK.below kb)
 unfold StW.New
 by_cases C:Closed zaj (zar l)
 ·have hev:zh3 (zar l)=some (zdz zaj (zar l)):=if_pos C
  rw[hev]
  have HC:=aside C
  have HL:=aside (show ∀m,IsSorted (zar l) m→zch zaj m∧∀z,z ∈ m↔z ∈ zar l from fun m h=>by unfold IsSorted at h;rwa[if_pos C]at h)
  clear C hev
  go_enter Tryz.func12,Tryz.ntmps12
  go_wp2_with (first|go_skip)
  refine q.mono ?_
  clear q
  rintro e w1 ⟨m,hm,A1,c1,us,rfl,S1,hus,k1⟩
  obtain⟨ho,hmem⟩:=HL.out m hm
  have hp:=sorted_perm HC.out ho hmem
  have hlen:us.length=l.length:=by rw[←zaw us,hus,hp.length_eq,zaw]
  have CU:Closed zaj (zar us):=by rw[hus];exact zfm HC.out hp.symm
  have hfew:us.length≤8388608:=by
   have:=DgL.ze4 CU
   rwa[zaw]at this
  have HF:=aside (zd6 CU)
  have HE:Hid (zdz zaj (zar l)=zdv (alone zaj (zar us) (zar us))):=aside (by
   rw[zmM (l:=zar us) (fun _=>Iff.rfl) (List.Perm.refl _) (zd6 CU),hus]
   exact zoK hp.symm (zd6 HC.out))
  have b1:=kb.trans (k1.mono kb.size)
  have R1:=R0.below k1
  have qt:=znn A1 c1 us w1 S1 CU (by rw[hus];exact ho) (hK.below b1)
  have hne:((us.length:Int) != l.length)=false:=by simp[hlen]
  have HCU:=aside CU
  have hpos:=hus
  clear HL hm ho hmem hp hus hpos R0 kb k1 CU hlen
  go_wp2_with (first|go_skip)
  refine qt.mono ?_
  clear qt
  rintro e w2 ⟨mb,n,f,rfl,G2,hg,k2⟩
  have b2:=b1.trans (k2.mono b1.size)
  have R2:=R1.below k2
  have S2:=S1.below k2
  have HG:=aside hg
  clear R1 b1 k2 S1 hg hne
  go_wp2_with (first|go_skip|(refine zje rfl _ _ rfl us.length rfl rfl hfew ?_;intro w3 F3 k3;have b3:=b2.trans (k3.mono b2.size);have R3:=R2.below k3;have S3:=S2.below k3;have G3:=EaK.zaG.below G2 k3))
  go_loopw [6,26] (fun o i wr=>∃(k:Nat) (vs:List Sv),k≤us.length∧vs.length≤k∧i=.int .i64 k∧o=.slice (some ⟨w2.heap.size,0,none⟩) vs.length us.length∧Hid (sts vs=alone zaj (zar us) ((zar us).take k))∧Hid (Full wr w2.heap.size us.length vs)∧Hid (∀v ∈ vs,In wr v∧Solo v.s)∧Below w2.heap.size w2 wr) (fun _ i _=>us.length - (intOf i).toNat)
  case atStart=>exact⟨0,[],Nat.zero_le _,Nat.zero_le _,rfl,rfl,aside rfl,aside F3,aside (fun v hv=>by simp at hv),k3⟩
  case round=>
   clear F3 k3 b3 R3 S3 G3
   rename World=>wr
   obtain⟨k,vs,hk,hvk,rfl,rfl,HA,HFW,HIN,kb⟩:=hrel
   by_cases hlt:k<us.length
   ·obtain⟨b,off,rfl,hbw,hrg⟩:=S2.plain (by omega)
    obtain⟨x,hx⟩:∃x,us[k]?=some x:=⟨_,List.getElem?_eq_getElem hlt⟩
    have rx:=zaL (hrg k x hx) kb
    have hxm:=List.mem_of_getElem? hx
    have FX:=aside (S2.each x hxm).2
    have HX:=aside (zbH hx)
    have FN:=aside (HF.out x.c (List.mem_map_of_mem (f:=(·.c)) hxm))
    have HXM:=aside (List.mem_map_of_mem (f:=(·.c)) hxm:x.c ∈ zar us)
    have p0:(k:Int)<us.length:=by omega
    have m0:((k:Int)).toNat=k:=by omega
    have hg0:=kb.size
    clear hrg hx hxm
    go_wp2_with (first|go_skip|(refine zbF rfl _ rfl _ _ rfl x rx ?_)|(refine Cel.zac CE rfl _ _ rfl wr _ _ rfl x _ rfl rfl rfl rfl ?_;intro w4 D4 k4 g4 s4;clear g4 s4))
    refine Grow.region [(0,true),(1,true),(2,true),(3,true),(4,true),(5,true),(6,true),(7,true),(10,true),(11,true),(8,false),(9,true),(12,false),(13,true)] (by kernel_rfl) (by kernel_rfl) rfl (by kernel_rfl) (by intro c a d v w h;cases d <;> exact h) ?_
    have kd:=zaf (Below.refl w4.heap.size w4)
    have D5:=D4.below kd
    have b5:=k4.trans (kd.mono k4.size)
    generalize w4.drew=w5 at D5 b5 ⊢
    clear D4 k4 kd rx
    have G5:=EaK.zaG.below G2 (kb.trans (b5.mono hg0))
    by_cases h2:x.c.op.kind=2
    ·have g4:=Grow.grown (w:=w5) (fun u hu=>(D5.below hu).cell (j:=4) (v:=.int .i64 2) (by rw[←h2];rfl))
     have o5:=zfx D5
     have e5:=DhK.zhc D5
     have H2:=aside h2
     clear h2
     (try simp only[Act.put])
     repeat (first|(refine Grow.reads rfl rfl ?_;go_big_quiet_want;refine Cel.zaB OE _ rfl _ _ rfl _ o5 ?_;go_big_quiet_on;refine wpQuiet_nil ?_;(try simp only[Act.put,List.setIfInBounds_toArray,List.set_cons_succ,List.set_cons_zero]))|(refine Grow.reads rfl rfl ?_;go_big_quiet_want;refine Cel.zaB EE _ rfl _ _ rfl ⟨x.c.node,x.c.seq⟩ e5 ?_;go_big_quiet_on;refine wpQuiet_nil ?_;(try simp only[Act.put,List.setIfInBounds_toArray,List.set_cons_succ,List.set_cons_zero]))|(refine Grow.reads rfl rfl ?_;go_big_quiet_step (fail);refine wpQuiet_nil ?_))
     have qa:Calls Tryz.prog 32 #[.agg (OE.enc x.c.op).toArray] w5 _:=zhJ x.c.op w5
     refine Grow.acts rfl ?_
     go_wp2_with (first|go_skip)
     refine qa.mono ?_
     clear qa
     rintro e w6 ⟨rfl,k6⟩
     go_wp2_with (first|go_skip)
     refine⟨k6,?_⟩
     (try simp only[Act.put,List.setIfInBounds_toArray,List.set_cons_succ,List.set_cons_zero])
     have D6:=D5.below k6
     have G6:=EaK.zaG.below G5 k6
     have b6:=b5.trans (k6.mono b5.size)
     clear D5 G5 b5 k6 o5 e5 g4
     have hlk:=Grow.grown (w:=w6) (fun u hu=>EaK.zeQ EaK.zmO (EaK.zaG.below G6 hu) (gd_of FX.out.op) EaK.zf4)
     have hf:∀e,(f e).getD (.agg (DgY.ck fun _=>0))=.agg (DgY.ck fun n=>kill zaj (zar us) (zar us) e.key e.elem n):=HG.out
     simp only[hf]at hlk
     clear hf
     refine Grow.reads rfl rfl ?_
     go_big_quiet_step (fail)
     refine wpQuiet_nil ?_
     (try simp only[Act.put,List.setIfInBounds_toArray,List.set_cons_succ,List.set_cons_zero])
     have hn:=DgX.zcC (HCU.out.may x.c HXM.out) (HCU.out.merge x.c HXM.out)
     have qa:=EaC.zeH (fun n=>kill zaj (zar us) (zar us) (elO x.c.op).key (elO x.c.op).elem n) ⟨x.c.node,x.c.seq⟩ hn.2 w6
     have qa:Calls Tryz.prog 33 #[.agg (DgY.ck fun n=>kill zaj (zar us) (zar us) (elO x.c.op).key (elO x.c.op).elem n),.agg (EE.enc ⟨x.c.node,x.c.seq⟩).toArray] w6 _:=qa
     obtain⟨tt,htt⟩:∃tt,decide (x.c.seq≤kill zaj (zar us) (zar us) (elO x.c.op).key (elO x.c.op).elem x.c.node)=tt:=⟨_,rfl⟩
     have HT:=aside htt
     have qa:Calls Tryz.prog 33 #[.agg (DgY.ck fun n=>kill zaj (zar us) (zar us) (elO x.c.op).key (elO x.c.op).elem n),.agg (EE.enc ⟨x.c.node,x.c.seq⟩).toArray] w6 (fun y w'=>y=.returned (.bool tt)∧Below w6.heap.size w6 w'):=qa.mono fun _ _ h=>⟨by rw[h.1,←htt],h.2⟩
     clear htt hn
     refine Grow.acts rfl ?_
     go_wp2_with (first|go_skip)
     refine qa.mono ?_
     clear qa hlk
     rintro e w7 ⟨rfl,k7⟩
     go_wp2_with (first|go_skip)
     refine⟨k7,?_⟩
     (try simp only[Act.put,List.setIfInBounds_toArray,List.set_cons_succ,List.set_cons_zero])
     have D7:=D6.below k7
     have b7':=b6.trans (k7.mono b6.size)
     clear D6 G6 b6 k7
     repeat (refine Grow.reads rfl rfl ?_;go_big_quiet_step (fail);refine wpQuiet_nil ?_)
     refine Grow.ends ?_
     have HGN:Hid (tt=true↔Gone zaj (zar us) x.c):=aside (by
      rw[←HT.out,decide_eq_true_eq]
      exact kill_iff HCU.out (fun _=>Iff.rfl) HXM.out)
     cases tt with
     |true=>
      have HKB:Hid (¬zgN zaj (zar us) x.c=true):=aside fun q=>of_decide_eq_true q ⟨H2.out,HGN.out.1 rfl⟩
      go_wp2_with (first|go_skip)
      go_roundw
      case rel=>
       refine⟨k+1,vs,by omega,by omega,by go_num,rfl,aside ?_,aside (HFW.out.below b7'),aside (fun u hu=>⟨(HIN.out u hu).1.below b7',(HIN.out u hu).2⟩),kb.trans (b7'.mono kb.size)⟩
       rw[HA.out,zgp HX.out,if_neg HKB.out,List.append_nil]
      case measure=>simp[intOf];omega
     |false=>
      have HKB:Hid (zgN zaj (zar us) x.c=true):=aside (decide_eq_true fun q=>by have:=HGN.out.2 q.2;cases this)
      have c2:=za1 D7
      have qd:=StK.do_ret noV x.c.op ⟨x.c.node,x.c.seq⟩ x.c.gen w7 (In.none _) zfX EaF.ziy FX.out.op FX.out.gen FX.out.node FX.out.seq
      rw[show noV.s=noS from rfl,zoQ FN.out]at qd
      have qd:Calls Tryz.prog 23 #[.agg #[.slice none 0 0,.slice none 0 0,.slice none 0 0],.agg (opc x.c.op),.agg (ec ⟨x.c.node,x.c.seq⟩),.int .i64 x.c.gen] w7 (fun e w'=>∃v,e=.returned (.tuple #[.agg (sc v),.int .i64 0])∧v.s=solo x.c∧In w' v∧Below w7.heap.size w7 w'):=qd
      go_wp2_with (first|go_skip|(refine zg4 rfl _ rfl wr.heap.size rfl x D7 ?_)|(refine DhA.zg5 rfl _ rfl wr.heap.size rfl x D7 ?_))
      refine qd.mono ?_
      clear qd
      rintro e w7 ⟨v,rfl,hv,IV,k7⟩
      have b7:=b7'.trans (k7.mono b7'.size)
      have HSV:=aside hv
      clear hv c2 D7
      go_wp2_with (first|go_skip|(refine Cel.zac SE rfl _ _ rfl w7 _ _ rfl v _ rfl rfl rfl rfl ?_;intro w8 B8 k8 g8 s8;have b8:=b7.trans (k8.mono b7.size);have IV8:=IV.below k8;clear g8 s8)|(refine Cel.zaa SE rfl _ rfl _ rfl v B8 ?_)|(refine zml rfl _ rfl v rfl ?_;intro w9 B9 k9;have b9:=b8.trans (k9.mono b8.size);have IV9:=IV8.below k9;have F9:=HFW.out.below b9)|(refine ze5 rfl (.tmp 55) (.tmp 57) rfl w2.heap.size us.length vs rfl F9 (by omega) w8.heap.size v rfl B9 ?_;intro w10 F10 g10))
      go_roundw
      case rel=>
       refine⟨k+1,vs++[v],by omega,by simp;omega,by go_num,by rw[List.length_append];rfl,aside ?_,aside F10,aside fun u hu=>?_,?_⟩
       ·rw[zlr,HA.out,zgp HX.out,if_pos HKB.out,HSV.out]
       ·rcases List.mem_append.1 hu with hu|hu
        ·exact⟨zl4 ((HIN.out u hu).1.below b9) F9 g10,(HIN.out u hu).2⟩
        ·rw[List.mem_singleton.1 hu]
         exact⟨zl4 IV9 F9 g10,by rw[HSV.out];exact zlw FN.out FX.out⟩
       ·exact below_grown (kb.trans (b9.mono kb.size)) (kb.trans (b9.mono kb.size)).size g10 (fun q hq=>by cases hq;exact Nat.le_refl _)
      case measure=>simp[intOf];omega
    ·have e2:(x.c.op.kind == 2)=false:=by simpa using h2
     have g4:=Grow.grown (w:=w5) (fun u hu=>(D5.below hu).cell (j:=4) (v:=.int .i64 x.c.op.kind) rfl)
     have HKB:Hid (zgN zaj (zar us) x.c=true):=aside (decide_eq_true fun q=>h2 q.1)
     clear h2 G5
     (try simp only[Act.put])
     repeat (refine Grow.reads rfl rfl ?_;go_big_quiet_step (fail);refine wpQuiet_nil ?_)
     refine Grow.acts rfl ?_
     go_wp2_with (first|go_skip)
     refine⟨Below.refl _ _,?_⟩
     (try simp only[Act.put,List.setIfInBounds_toArray,List.set_cons_succ,List.set_cons_zero])
     repeat (refine Grow.reads rfl rfl ?_;go_big_quiet_step (fail);refine wpQuiet_nil ?_)
     refine Grow.acts rfl ?_
     go_wp2_with (first|go_skip)
     refine⟨Below.refl _ _,?_⟩
     (try simp only[Act.put,List.setIfInBounds_toArray,List.set_cons_succ,List.set_cons_zero])
     repeat (refine Grow.reads rfl rfl ?_;go_big_quiet_step (fail);refine wpQuiet_nil ?_)
     refine Grow.ends ?_
     clear g4
     have c2:=za1 D5
     have qd:=StK.do_ret noV x.c.op ⟨x.c.node,x.c.seq⟩ x.c.gen w5 (In.none _) zfX EaF.ziy FX.out.op FX.out.gen FX.out.node FX.out.seq
     rw[show noV.s=noS from rfl,zoQ FN.out]at qd
     have qd:Calls Tryz.prog 23 #[.agg #[.slice none 0 0,.slice none 0 0,.slice none 0 0],.agg (opc x.c.op),.agg (ec ⟨x.c.node,x.c.seq⟩),.int .i64 x.c.gen] w5 (fun e w'=>∃v,e=.returned (.tuple #[.agg (sc v),.int .i64 0])∧v.s=solo x.c∧In w' v∧Below w5.heap.size w5 w'):=qd
     go_wp2_with (first|go_skip|(refine zg4 rfl _ rfl wr.heap.size rfl x D5 ?_)|(refine DhA.zg5 rfl _ rfl wr.heap.size rfl x D5 ?_))
     refine qd.mono ?_
     clear qd
     rintro e w7 ⟨v,rfl,hv,IV,k7⟩
     have b7:=b5.trans (k7.mono b5.size)
     have HSV:=aside hv
     clear hv c2 D5
     go_wp2_with (first|go_skip|(refine Cel.zac SE rfl _ _ rfl w7 _ _ rfl v _ rfl rfl rfl rfl ?_;intro w8 B8 k8 g8 s8;have b8:=b7.trans (k8.mono b7.size);have IV8:=IV.below k8;clear g8 s8)|(refine Cel.zaa SE rfl _ rfl _ rfl v B8 ?_)|(refine zml rfl _ rfl v rfl ?_;intro w9 B9 k9;have b9:=b8.trans (k9.mono b8.size);have IV9:=IV8.below k9;have F9:=HFW.out.below b9)|(refine ze5 rfl (.tmp 55) (.tmp 57) rfl w2.heap.size us.length vs rfl F9 (by omega) w8.heap.size v rfl B9 ?_;intro w10 F10 g10))
     go_roundw
     case rel=>
      refine⟨k+1,vs++[v],by omega,by simp;omega,by go_num,by rw[List.length_append];rfl,aside ?_,aside F10,aside fun u hu=>?_,?_⟩
      ·rw[zlr,HA.out,zgp HX.out,if_pos HKB.out,HSV.out]
      ·rcases List.mem_append.1 hu with hu|hu
       ·exact⟨zl4 ((HIN.out u hu).1.below b9) F9 g10,(HIN.out u hu).2⟩
       ·rw[List.mem_singleton.1 hu]
        exact⟨zl4 IV9 F9 g10,by rw[HSV.out];exact zlw FN.out FX.out⟩
      ·exact below_grown (kb.trans (b9.mono kb.size)) (kb.trans (b9.mono kb.size)).size g10 (fun q hq=>by cases hq;exact Nat.le_refl _)
     case measure=>simp[intOf];omega
   ·obtain rfl:k=us.length:=by omega
    have hall:=HA.out
    rw[List.take_of_length_le (by rw[zaw];omega)]at hall
    have HFS:Hid (SlS wr (some ⟨w2.heap.size,0,none⟩) us.length vs):=aside ⟨HFW.out.slice,HIN.out⟩
    have R4:=R2.below kb
    have hg0:=kb.size
    have hvs:vs.length≤8388608:=by omega
    have qt:=zeq vs.length vs _ _ wr (Nat.le_refl _) HFS.out hvs
    have zgs:=aside hall
    clear hall
    go_wp2_with (first|go_skip)
    refine qt.mono ?_
    clear qt
    rintro e w5 ⟨v,rfl,hv,IV,k5⟩
    have R5:=R4.below k5
    have hv2:=hv
    rw[zgs.out,←HE.out]at hv2
    have HV:=aside hv2
    clear hv hv2 R4
    go_wp2_with (first|go_skip|(refine Cel.zad SE rfl _ _ rfl w.heap.size rfl noV R5 v rfl ?_;intro w9 R9 f9 g9 s9))
    obtain⟨r0,r1,r2⟩:=zam R9
    refine bodyPost_ret (v:=.tuple #[.agg (sc v),.int .i64 0]) (by simp[results,Tryz.results12,go_sem,r0,r1,r2,sc]) rfl ⟨v,rfl,HV.out,IV.kept R5 g9,?_⟩
    exact((b2.trans (kb.mono b2.size)).trans (k5.mono (b2.trans (kb.mono b2.size)).size)).trans (f9 _ (Nat.le_refl _))
 ·have hev:zh3 (zar l)=none:=if_neg C
  rw[hev]
  have HN:=aside (show ∀m,IsSorted (zar l) m→m=[] from fun m h=>by unfold IsSorted at h;rwa[if_neg C]at h)
  have hl0:l.length≠0:=fun e=>C (by rw[List.eq_nil_of_length_eq_zero e];exact ziF)
  have hne:((0:Int) != l.length)=true:=by
   rw[bne_iff_ne]
   omega
  clear C hev
  go_enter Tryz.func12,Tryz.ntmps12
  go_wp2_with (first|go_skip)
  refine q.mono ?_
  clear q
  rintro e w1 ⟨m,hm,A1,c1,us,rfl,S1,hus,k1⟩
  have h0:=HN.out m hm
  rw[h0]at hus
  have hu0:us=[]:=by
   have:=congrArg List.length hus
   rw[zaw]at this
   exact List.eq_nil_of_length_eq_zero this
  subst hu0
  rw[List.length_nil]
  have R1:=R0.below k1
  have b1:=kb.trans (k1.mono kb.size)
  clear HN hm h0 hus S1 R0 kb k1 hl0
  go_wp2_with (first|go_skip|(refine Cel.zad SE rfl _ _ rfl w.heap.size rfl noV R1 noV rfl ?_;intro w9 R9 f9 g9 s9))
  obtain⟨r0,r1,r2⟩:=zam R9
  exact bodyPost_ret (v:=.tuple #[.agg (sc noV),.int .i64 1]) (by simp[results,Tryz.results12,go_sem,r0,r1,r2,sc]) rfl ⟨noV,rfl,rfl,In.none _,b1.trans (f9 _ (Nat.le_refl _))⟩
end Go.Proofs.YtgmdhaepiclkcaaGreatDoor.EaG
namespace Go.Proofs.YtgmdhaepiclkcaaGreatDoor.EaL
set_option maxHeartbeats 16000000
set_option maxRecDepth 100000
open Go Go.Sort Go.RowKit Byt IdM IdW OpsM OpsW RowS CmM StM StW CmW CmX CmY CmA DgM DgW DgR DgF EaM EaN EaH EaG
open Classical
theorem anc_few (l:List Com) (a:List Idn):(zkq l a).length≤l.length:=by
 by_cases C:Closed zaj l
 ·rw[zkq,if_pos C,←zqc C]
  exact List.length_filter_le _ _
 ·rw[zkq,if_neg C]
  exact Nat.zero_le _
theorem zi2 (l:List Com) (a:List Idn):(zek l a).length≤l.length:=by
 unfold zek
 split
 ·exact List.length_filter_le _ _
 ·exact Nat.zero_le _
theorem at_ret (A A':Option Addr) (cap cap':Nat) (l:List Cv) (a:List Idn) (w:World) (S:SlK w A cap l) (T:SlI w A' cap' a) (hl:l.length≤1000) (hK:ShaE.KIn w):
  Calls Tryz.prog 14 #[.slice A l.length cap,.slice A' a.length cap'] w (StW.New (atE (zar l) a) w):=by
 have R0:Cel.Box SE (w.alloc (.cells #[.slice none 0 0,.slice none 0 0,.slice none 0 0] 30)) w.heap.size noV:=Cel.Box.new (E:=SE) w noV _
 have kb:=StW.zah w (.cells #[.slice none 0 0,.slice none 0 0,.slice none 0 0] 30)
 have q1:=DhA.zcZ DhK.zfK A cap l _ (S.below kb) (by omega) (hK.below kb)
 unfold StW.New
 by_cases C:Closed zaj (zar l)
 ·have hev:atE (zar l) a=some (atK zaj (zar l) a):=if_pos C
  rw[hev]
  rw[decide_eq_true C]at q1
  have HAT:=aside (zo7 C a)
  clear C hev
  go_enter Tryz.func14,Tryz.ntmps14
  go_wp2_with (first|go_skip)
  refine q1.mono ?_
  clear q1
  rintro e w1 ⟨rfl,k1⟩
  have b1:=kb.trans (k1.mono kb.size)
  have R1:=R0.below k1
  clear R0 kb k1
  have q2:=DhA.zlf DhK.zfK A A' cap cap' l a w1 (S.below b1) (T.below b1) hl (hK.below b1)
  go_wp2_with (first|go_skip)
  refine q2.mono ?_
  clear q2
  rintro e w2 ⟨A2,c2,rfl,T2,k2⟩
  have b2:=b1.trans (k2.mono b1.size)
  have R2:=R1.below k2
  clear R1 b1 k2
  have h1:=anc_few (zar l) a
  rw[zaw]at h1
  have q3:=DhB.zi1 DhK.zfK A A2 cap c2 l _ w2 (S.below b2) T2 (by omega) (by omega) (hK.below b2)
  clear h1
  go_wp2_with (first|go_skip)
  refine q3.mono ?_
  clear q3
  rintro e w3 ⟨A3,c3,us,rfl,S3,hus,k3⟩
  have b3:=b2.trans (k3.mono b2.size)
  have R3:=R2.below k3
  have h2:=zi2 (zar l) (zkq (zar l) a)
  rw[zaw,←hus,zaw]at h2
  have q4:=zfY A3 c3 us w3 S3 (by omega) (hK.below b3)
  rw[hus,HAT.out]at q4
  unfold StW.New at q4
  clear h2 hus R2 b2 k3 T2
  go_wp2_with (first|go_skip)
  refine q4.mono ?_
  clear q4
  rintro e w4 ⟨v,rfl,hv,IV,k4⟩
  have b4:=b3.trans (k4.mono b3.size)
  have R4:=R3.below k4
  have HV:=aside hv
  clear hv R3 b3 k4 S3
  (try simp only[Option.isSome_some,if_true])
  go_wp2_with (first|go_skip|(refine Cel.zad SE rfl _ _ rfl w.heap.size rfl noV R4 v rfl ?_;intro w9 R9 f9 g9 s9))
  obtain⟨r0,r1,r2⟩:=zam R9
  exact bodyPost_ret (v:=.tuple #[.agg (sc v),.int .i64 0]) (by simp[results,Tryz.results14,go_sem,r0,r1,r2,sc]) rfl ⟨v,rfl,HV.out,IV.kept R4 g9,b4.trans (f9 _ (Nat.le_refl _))⟩
 ·have hev:atE (zar l) a=none:=if_neg C
  rw[hev]
  rw[decide_eq_false C]at q1
  clear C hev
  go_enter Tryz.func14,Tryz.ntmps14
  go_wp2_with (first|go_skip)
  refine q1.mono ?_
  clear q1
  rintro e w1 ⟨rfl,k1⟩
  have b1:=kb.trans (k1.mono kb.size)
  have R1:=R0.below k1
  clear R0 kb k1
  go_wp2_with (first|go_skip|(refine Cel.zad SE rfl _ _ rfl w.heap.size rfl noV R1 noV rfl ?_;intro w9 R9 f9 g9 s9))
  obtain⟨r0,r1,r2⟩:=zam R9
  exact bodyPost_ret (v:=.tuple #[.agg (sc noV),.int .i64 1]) (by simp[results,Tryz.results14,go_sem,r0,r1,r2,sc]) rfl ⟨noV,rfl,rfl,In.none _,b1.trans (f9 _ (Nat.le_refl _))⟩
theorem two:Two:=⟨zfY,fun A A' cap cap' l a w S T hl _ hK=>at_ret A A' cap cap' l a w S T hl hK⟩
end Go.Proofs.YtgmdhaepiclkcaaGreatDoor.EaL
namespace Go.Proofs.YtgmdhaepiclkcaaGreatDoor.ShaL
set_option maxRecDepth 100000
open Go.ChangeShapes Go.WideShapes Go.ChangeAt Go.RowKit RotM ShaM ShaE
abbrev laid1:List (String×DataW Unit):=[("anabranch/sha.constants",Rows.laid_anabranch_sha_constants)]
theorem gK: Tryz.prog.globalNamed "anabranch/sha.constants" =some 0:=by kernel_rfl
theorem tK:(Tryz.prog.globals[0]?).map (·.type)=some 191:=by kernel_rfl
theorem zoZ: Tryz.prog.cellsOf 161=1:=by kernel_rfl
theorem datum:(Rows.laid_anabranch_sha_constants:DataW Unit)=.agg ((List.range 64).map fun i=>.lit (.int .u32 (u (kc i)))):=by kernel_rfl
theorem door_met (os:Os) (args:Array Value):laidMetH Tryz.prog laid1 ((World.doorLaid Tryz.prog 14 os).forCall (fun _ _=>0) ⟨#[],args,[]⟩).memory:=
 laidMetH_of_parts3 (fuel:=8) (laidMet_of_run' 8 (by kernel_rfl) (by kernel_rfl)) (by kernel_rfl) (by kernel_rfl)
theorem of_laid {W:World} (h:laidMetH Tryz.prog laid1 W):KIn W:=by
 rw[MakeChecks.laidMetH_plain _ _ _ (by kernel_rfl)]at h
 obtain⟨ps,⟨g0,t0,cs0,f0,p0,q0,hg0,ht0,hv0,hd0,_⟩,_,_⟩:=h
 obtain rfl:=Option.some.inj (gK.symm.trans hg0)
 obtain rfl:=Option.some.inj (tK.symm.trans ht0)
 obtain⟨xs,m,_,hx,hlen,hn,hel⟩:=DataW.trod_array Tryz.underlying191 hd0
 intro i hi
 have hc:=World.var?_cell hg0 hv0 i
 have he:=hel i hi
 rw[datum]at hx
 simp only[Prod.mk.injEq,DataW.agg.injEq]at hx
 obtain⟨hx,_⟩:=hx
 have hxi:=congrArg (fun l=>l[i]?) hx
 have hlt:i<xs.length:=by omega
 simp only[List.getElem?_map,List.getElem?_range hi,Option.map_some,List.getElem?_eq_getElem hlt,Option.some.injEq]at hxi
 rw[List.getElem?_eq_getElem hlt]at he
 obtain⟨n,e1,e2,_⟩:=DataW.trod_int Tryz.underlying161 he
 rw[e2]at hxi
 simp only[DataW.lit.injEq,Lit.int.injEq,true_and]at hxi
 subst hxi
 rw[hc]
 rw[zoZ,Nat.mul_one]at e1
 have e3:=congrArg (fun l=>l[0]?) e1
 simpa using e3
end Go.Proofs.YtgmdhaepiclkcaaGreatDoor.ShaL
