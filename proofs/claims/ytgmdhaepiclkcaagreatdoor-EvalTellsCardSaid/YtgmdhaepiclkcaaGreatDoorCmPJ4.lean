/- What the document's Put of package commit returns | What the document's Hash of package commit returns | What the document's Put and Hash of package commit answer, in the form | What the laws' Few, and the document's List, At, Ids and Find of packa -/
import Derived.Test.YtgmdhaepiclkcaaGreatDoorIdVJ2
import Derived.Test.YtgmdhaepiclkcaaGreatDoorDgNJ4
import Derived.Test.YtgmdhaepiclkcaaGreatDoorRefEJ9
import Derived.Test.YtgmdhaepiclkcaaGreatDoorRefWJ6
import Derived.Test.YtgmdhaepiclkcaaGreatDoorRowGJ7
import Derived.Test.YtgmdhaepiclkcaaGreatDoorForksJ5
namespace Go.Proofs.YtgmdhaepiclkcaaGreatDoor.CmP
set_option maxHeartbeats 16000000
set_option maxRecDepth 100000
open Go Go.RowKit Byt EncM EncC EncT IdM IdW OpsM OpsW CmM StW CmW CmR
theorem zi5 {w w':World} {b n:Nat} {v:Value} {l:List Value} (h:w.ownsRow b 5 1 v n l) (k:Below w.heap.size w w'):w'.ownsRow b 5 1 v n l:=zao h k
theorem znZ (n:Nat):∀x ∈ zaO n,B x:=zb1 n
theorem zqi {l:List Int} {k:Nat} (h:k<l.length):l.take (k+1)=l.take k++[l.getD k 0]:=by
 rw[List.take_succ_eq_append_getElem h,List.getD_eq_getElem?_getD,List.getElem?_eq_getElem h]
 rfl
theorem zjr {l:List Idn} {j:Nat} (h:j<l.length):zcr (l.take (j+1))=zcr (l.take j)++(l.getD j nought).val:=by
 rw[List.take_succ_eq_append_getElem h,zgC,List.getD_eq_getElem?_getD,List.getElem?_eq_getElem h]
 simp[zcr]
def Yes (c:Com) (w:World) (e:Ending) (w':World):Prop:=
 ∃v,e=.returned (.tuple #[v,.int .i64 0])∧w'.ownsRow w.heap.size 5 1 v (zgX c).length (bv (zgX c))∧Below w.heap.size w w'
def No (w:World) (e:Ending) (w':World):Prop:=e=.returned (.tuple #[.slice none 0 0,.int .i64 1])∧Below w.heap.size w w'
theorem zdD {w:World} {b c n:Nat} {e:TypeId} {v:Value} {l:List Value} (h:w.ownsRow b e 1 v n l) (hc:c≤b):w.ownsRow c e 1 v n l:=by
 refine⟨h.1,?_⟩
 rcases h.2 with h|⟨q,cap,cur,hv,hb,h⟩
 ·exact Or.inl h
 ·exact Or.inr ⟨q,cap,cur,hv,Nat.le_trans hc hb,h⟩
theorem zis (v:Cv) (w:World) (S:In w v) (ho:zkr v.c) (hm:zbn v.c=false):Calls Tryz.prog 130 #[.agg (cc v)] w (No w):=by
 have k0:=StW.zah w (.cells (cc v) 47)
 have R0:Cel.Box CE (w.alloc (.cells (cc v) 47)) w.heap.size v:=Cel.Box.new w v _
 have S0:=S.below k0
 have cm:=fun W T=>CmR.zaz v W T ho
 simp only[hm]at cm
 clear S hm
 go_enter Tryz.func130,Tryz.ntmps130
 go_wp2_with (first|go_skip|(refine Cel.zaa CE rfl _ rfl _ rfl v R0 ?_))
 refine(cm _ S0).mono ?_
 rintro e w1 ⟨rfl,k1⟩
 obtain⟨W0,hW0⟩:∃W,w.alloc (.cells (cc v) 47)=W:=⟨_,rfl⟩
 rw[hW0]at R0 S0 k0 k1
 clear hW0
 have R:=R0.below k1
 have S1:=S0.below k1
 have b1:Below W0.heap.size W0 w1:=k1
 clear cm
 go_wp2_with (first|go_skip)
 go_ret2
 exact⟨rfl,k0.trans (k1.mono k0.size)⟩
theorem zdX (v:Cv) (w:World) (S:In w v) (ho:zkr v.c) (hm:zbn v.c=true):Calls Tryz.prog 130 #[.agg (cc v)] w (Yes v.c w):=by
 have k0:=StW.zah w (.cells (cc v) 47)
 have R0:Cel.Box CE (w.alloc (.cells (cc v) 47)) w.heap.size v:=Cel.Box.new w v _
 have S0:=S.below k0
 have cm:=fun W T=>CmR.zaz v W T ho
 simp only[hm]at cm
 have hn:=zg0 hm
 have hs:=ziW hm
 have hg:=za6.1 (za0.1 hm).1
 have hI:I64 v.c.node:=by unfold I64;omega
 have hf:=zcT hI
 have HH:Hid (zem v.c=((zaO (foldI v.c.node).toNat++zaO v.c.seq.toNat)++zaO v.c.gen.toNat)++zaO v.c.ps.length):=aside (by unfold zem;simp only[List.append_assoc])
 have HO:Hid (opL v.c=if v.c.node= -1 then[]else ze6 v.c.op):=aside rfl
 have hop:=aside (fun hq=>zlI hm hq)
 have hok:=aside ho
 have q0:=fun W=>RefE.fold v.c.node hI W
 have q1:=fun W=>OpsS.zdH hf.1 hf.2 W
 have q2:=fun W=>OpsS.zdH (k:=v.c.seq) hs.1 (by omega) W
 have q3:=fun W=>OpsS.zdH (k:=v.c.gen) (by omega) (by omega) W
 have q4:=fun W=>OpsS.zdH (k:=(v.c.ps.length:Int)) (by omega) (by omega) W
 rw[Int.toNat_natCast]at q4
 have u1:IntKind.u64.wrap v.c.seq=v.c.seq:=by rw[IntKind.wrap_u64];omega
 have u2:IntKind.u64.wrap v.c.gen=v.c.gen:=by rw[IntKind.wrap_u64];omega
 have u3:IntKind.u64.wrap (v.c.ps.length:Int)=v.c.ps.length:=by rw[IntKind.wrap_u64];omega
 have t0:0<(zaO (foldI v.c.node).toNat).length∧(zaO (foldI v.c.node).toNat).length≤10:=⟨zb9 _,zaZ (by omega)⟩
 have t1:(zaO v.c.seq.toNat).length≤10:=zaZ (by omega)
 have t2:(zaO v.c.gen.toNat).length≤10:=zaZ (by omega)
 have t3:(zaO v.c.ps.length).length≤10:=zaZ (by omega)
 have hps:v.c.ps.length≤8:=hg.2.2.1
 have hnn:=aside hn
 clear S hm hn hs hg hI hf ho
 go_enter Tryz.func130,Tryz.ntmps130
 go_wp2_with (first|go_skip|(refine Cel.zaa CE rfl _ rfl _ rfl v R0 ?_))
 refine(cm _ S0).mono ?_
 rintro e w1 ⟨rfl,k1⟩
 obtain⟨W0,hW0⟩:∃W,w.alloc (.cells (cc v) 47)=W:=⟨_,rfl⟩
 rw[hW0]at R0 S0 k0 k1
 clear hW0
 have R:=R0.below k1
 have S1:=S0.below k1
 have b1:Below W0.heap.size W0 w1:=k1
 clear cm
 clear R S1 k1
 have d0:=zaX (R0.below b1)
 have d1:=zbw (R0.below b1)
 have d2:=za1 (R0.below b1)
 have d3:=zaP (R0.below b1)
 go_wp2_with (first|go_skip)
 refine(q0 _).mono ?_
 rintro _ w' ⟨rfl,rfl⟩
 go_wp2_with (first|go_skip)
 refine(q1 _).mono ?_
 rintro _ w2 ⟨v2,rfl,zdg,k2⟩
 have b2:=b1.trans (k2.mono b1.size)
 have O2:=aside (zdD zdg b1.size)
 clear zdg k2 b1 d0 d1 d2 d3
 have d0:=zaX (R0.below b2)
 have d1:=zbw (R0.below b2)
 have d2:=za1 (R0.below b2)
 have d3:=zaP (R0.below b2)
 have a2:=t0
 clear q0 q1
 go_wp2_with (first|go_skip)
 refine(q2 _).mono ?_
 rintro _ w3 ⟨v3,rfl,zbL,k3⟩
 have b3:=b2.trans (k3.mono b2.size)
 have O3:=aside (zi5 O2.out k3)
 obtain⟨A3,c3,rfl,S3⟩:=Sl.own zbL (znZ _)
 clear zbL k3 b2 O2 d0 d1 d2 d3
 have d0:=zaX (R0.below b3)
 have d1:=zbw (R0.below b3)
 have d2:=za1 (R0.below b3)
 have d3:=zaP (R0.below b3)
 go_wp2_with (first|go_skip|(refine zau rfl (.tmp 19) (.tmp 24) 114 rfl W0.heap.size 5 Tryz.underlying114 zaR _ _ (zaO (foldI v.c.node).toNat) rfl O3.out _ _ _ (zaO v.c.seq.toNat) rfl rfl S3 (by have:=a2;have:=t1;omega) b3.size ?_;intro v4 w4 own4 g4;have b4:Below W0.heap.size W0 w4:=below_grown b3 b3.size g4 (fun q hq=>(O3.out.lt q hq).1);have O4:Hid (w4.ownsRow W0.heap.size 5 1 v4 ((zaO (foldI v.c.node).toNat)++zaO v.c.seq.toNat).length (bv ((zaO (foldI v.c.node).toNat)++zaO v.c.seq.toNat))):=aside (by rw[List.length_append];exact own4);have a4:0<((zaO (foldI v.c.node).toNat)++zaO v.c.seq.toNat).length∧((zaO (foldI v.c.node).toNat)++zaO v.c.seq.toNat).length≤20:=(by have:=a2;have:=t1;rw[List.length_append];omega);clear own4 g4 b3 O3 S3 d0 d1 d2 d3;have d0:=zaX (R0.below b4);have d1:=zbw (R0.below b4);have d2:=za1 (R0.below b4);have d3:=zaP (R0.below b4)))
 refine(q3 _).mono ?_
 rintro _ w5 ⟨v5,rfl,zpp,k5⟩
 have b5:=b4.trans (k5.mono b4.size)
 have O5:=aside (zi5 O4.out k5)
 obtain⟨A5,c5,rfl,S5⟩:=Sl.own zpp (znZ _)
 clear zpp k5 b4 O4 d0 d1 d2 d3
 have d0:=zaX (R0.below b5)
 have d1:=zbw (R0.below b5)
 have d2:=za1 (R0.below b5)
 have d3:=zaP (R0.below b5)
 go_wp2_with (first|go_skip|(refine zau rfl (.tmp 26) (.tmp 30) 114 rfl W0.heap.size 5 Tryz.underlying114 zaR _ _ ((zaO (foldI v.c.node).toNat)++zaO v.c.seq.toNat) rfl O5.out _ _ _ (zaO v.c.gen.toNat) rfl rfl S5 (by have:=a4;have:=t2;omega) b5.size ?_;intro v6 w6 zjS g6;have b6:Below W0.heap.size W0 w6:=below_grown b5 b5.size g6 (fun q hq=>(O5.out.lt q hq).1);have O6:Hid (w6.ownsRow W0.heap.size 5 1 v6 (((zaO (foldI v.c.node).toNat)++zaO v.c.seq.toNat)++zaO v.c.gen.toNat).length (bv (((zaO (foldI v.c.node).toNat)++zaO v.c.seq.toNat)++zaO v.c.gen.toNat))):=aside (by rw[List.length_append];exact zjS);have a6:0<(((zaO (foldI v.c.node).toNat)++zaO v.c.seq.toNat)++zaO v.c.gen.toNat).length∧(((zaO (foldI v.c.node).toNat)++zaO v.c.seq.toNat)++zaO v.c.gen.toNat).length≤30:=(by have:=a4;have:=t2;rw[List.length_append];omega);clear zjS g6 b5 O5 S5 d0 d1 d2 d3;have d0:=zaX (R0.below b6);have d1:=zbw (R0.below b6);have d2:=za1 (R0.below b6);have d3:=zaP (R0.below b6)))
 refine(q4 _).mono ?_
 rintro _ w7 ⟨v7,rfl,own7,k7⟩
 have b7:=b6.trans (k7.mono b6.size)
 have O7:=aside (zi5 O6.out k7)
 obtain⟨A7,c7,rfl,S7⟩:=Sl.own own7 (znZ _)
 clear own7 k7 b6 O6 d0 d1 d2 d3
 have d0:=zaX (R0.below b7)
 have d1:=zbw (R0.below b7)
 have d2:=za1 (R0.below b7)
 have d3:=zaP (R0.below b7)
 go_wp2_with (first|go_skip|(refine zau rfl (.tmp 32) (.tmp 37) 114 rfl W0.heap.size 5 Tryz.underlying114 zaR _ _ (((zaO (foldI v.c.node).toNat)++zaO v.c.seq.toNat)++zaO v.c.gen.toNat) rfl O7.out _ _ _ (zaO v.c.ps.length) rfl rfl S7 (by have:=a6;have:=t3;omega) b7.size ?_;intro v8 w8 zlH g8;have b8:Below W0.heap.size W0 w8:=below_grown b7 b7.size g8 (fun q hq=>(O7.out.lt q hq).1);have O8:Hid (w8.ownsRow W0.heap.size 5 1 v8 ((((zaO (foldI v.c.node).toNat)++zaO v.c.seq.toNat)++zaO v.c.gen.toNat)++zaO v.c.ps.length).length (bv ((((zaO (foldI v.c.node).toNat)++zaO v.c.seq.toNat)++zaO v.c.gen.toNat)++zaO v.c.ps.length))):=aside (by rw[List.length_append];exact zlH);have a8:0<((((zaO (foldI v.c.node).toNat)++zaO v.c.seq.toNat)++zaO v.c.gen.toNat)++zaO v.c.ps.length).length∧((((zaO (foldI v.c.node).toNat)++zaO v.c.seq.toNat)++zaO v.c.gen.toNat)++zaO v.c.ps.length).length≤40:=(by have:=a6;have:=t3;rw[List.length_append];omega);clear zlH g8 b7 O7 S7 d0 d1 d2 d3;have d0:=zaX (R0.below b8);have d1:=zbw (R0.below b8);have d2:=za1 (R0.below b8);have d3:=zaP (R0.below b8)))
 clear q2 q3 q4 u1 u2 u3 t0 t1 t2 t3 d0 d1 d2 d3
 obtain⟨pre,hpre⟩:∃l,((((zaO (foldI v.c.node).toNat)++zaO v.c.seq.toNat)++zaO v.c.gen.toNat)++zaO v.c.ps.length)=l:=⟨_,rfl⟩
 rw[hpre]at O8 a8 HH
 clear hpre
 go_loopw [5,6] (fun o i wr=>∃(j:Nat) (acc:List Int),j≤v.c.ps.length∧i=.int .i64 j∧Hid (acc=pre++zcr (v.c.ps.take j))∧(0<acc.length∧acc.length≤40+j * 32)∧Hid (wr.ownsRow W0.heap.size 5 1 o acc.length (bv acc))∧Below W0.heap.size W0 wr) (fun _ i _=>v.c.ps.length - (intOf i).toNat)
 case atStart=>exact⟨0,pre,Nat.zero_le _,rfl,aside (by simp[zcr]),by have:=a8;omega,O8,b8⟩
 case round=>
  clear O8 b8 a8
  obtain⟨j,acc,hj,rfl,HA,ha,HB,kb⟩:=hrel
  have d3:=zaP (R0.below kb)
  by_cases hlt:j<v.c.ps.length
  ·obtain⟨g,off,hA,hbw,hr⟩:=SlI.plain S0 (by omega)
   have re:=hr j hlt
   have HF:=aside (zjr hlt)
   obtain⟨x,hx⟩:∃x,v.c.ps.getD j nought=x:=⟨_,rfl⟩
   rw[hx]at re HF
   have lx:=zaK x
   have bx:=aside (idB x)
   clear hr hx
   have p0:(j:Int)<v.c.ps.length:=by omega
   have m0:((j:Int)).toNat=j:=by omega
   go_wp2_with (first|go_skip)
   go_loopw [5,7] (fun o i wr=>∃(k:Nat) (ac:List Int),k≤32∧i=.int .i64 k∧Hid (ac=acc++x.val.take k)∧(0<ac.length∧ac.length≤40+j * 32+k)∧Hid (wr.ownsRow W0.heap.size 5 1 o ac.length (bv ac))∧Below W0.heap.size W0 wr) (fun _ i _=>32 - (intOf i).toNat)
   case atStart=>exact⟨0,acc,Nat.zero_le _,rfl,aside (by simp),by have:=ha;omega,HB,kb⟩
   case round=>
    clear HB kb d3
    obtain⟨k,ac,hk,rfl,HC,hc,HB,kb⟩:=hrel
    by_cases hkt:k<32
    ·have d3:=(zaP (R0.below kb)).trans (by rw[hA])
     have cx:=(zab re kb) k _ (zcA x.val (i:=k) (by omega))
     have HG:=aside (zqi (l:=x.val) (k:=k) (by omega))
     have by0:=bx.out (x.val.getD k 0) (by rw[List.getD_eq_getElem?_getD,List.getElem?_eq_getElem (by omega:k<x.val.length)];exact List.getElem_mem _)
     obtain⟨y,hy⟩:∃y,x.val.getD k 0=y:=⟨_,rfl⟩
     rw[hy]at cx HG by0
     clear hy
     have q0:(k:Int)<32:=by omega
     have n0:((k:Int)).toNat=k:=by omega
     have cx2:World.cell? _ ⟨g,off+j * 32+k,none⟩=_:=cx
     go_wp2_with (first|go_skip|(refine zau rfl (.tmp 50) (.tmp 58) 114 rfl W0.heap.size 5 Tryz.underlying114 zaR _ ac.length ac rfl (HB.out.alloc _) _ 1 1 [y] rfl rfl (Sl.zil _ _ _ ?c1) (by have:=hc;have:=hps;omega) (by have:=kb.size;simp;omega) ?_;(case c1=>exact by0);intro v1 w1 zfw g1;have hb1:Below W0.heap.size W0 w1:=below_grown (kb.alloc kb.size _) (by have:=kb.size;simp;omega) g1 (fun k hk=>(HB.out.lt k hk).1);have HO1:=aside zfw;clear zfw g1))
     try rw[hA]
     go_roundw
     case rel=>exact⟨k+1,ac++[y],by omega,by go_num,aside (by rw[HG.out,HC.out,List.append_assoc]),by have:=hc;simp;omega,by simpa using HO1,hb1⟩
     case measure=>simp[intOf];omega
    ·have e:k=32:=by omega
     have HD:Hid (ac=pre++zcr (v.c.ps.take (j+1))):=aside (by rw[HC.out,HA.out,HF.out,e,List.take_of_length_le (show x.val.length≤32 by omega),List.append_assoc])
     have hc2:0<ac.length∧ac.length≤40+(j+1) * 32:=by omega
     clear e hc HC
     go_wp2_with (first|go_skip)
     try rw[hA]
     go_roundw
     case rel=>exact⟨j+1,ac,by omega,by go_num,HD,hc2,HB,kb⟩
     case measure=>simp[intOf];omega
  ·have e:j=v.c.ps.length:=by omega
   have HE:Hid (acc=zem v.c++zcr v.c.ps):=aside (by rw[HA.out,e,List.take_length,HH.out])
   have hl2:0<acc.length∧acc.length≤400:=by omega
   clear HA HH ha e
   have d0:=zaX (R0.below kb)
   by_cases hq:v.c.node= -1
   ·have HP:Hid (zgX v.c=acc):=aside (by unfold zgX;rw[HO.out,if_pos hq,HE.out,List.append_nil])
    rw[hq]at d0
    clear HO HE hq
    go_wp2_with (first|go_skip)
    go_ret2
    rw[←HP.out]at HB
    exact⟨_,rfl,zdD HB.out k0.size,k0.trans (kb.mono k0.size)⟩
   ·have HP:Hid (zgX v.c=acc++ze6 v.c.op):=aside (by unfold zgX;rw[HO.out,if_neg hq,HE.out,List.append_assoc])
    have hge:0≤v.c.node:=by have:=hnn.out;omega
    have cp:=fun W=>OpsS.zdX v.c.op W hok.out.fit.op hok.out.key hok.out.elem (hop.out hq)
    have hlo:=ziZ (hop.out hq)
    have RK:=R0.below kb
    clear HO HE hq
    go_wp2_with (first|go_skip|(refine zb6 rfl _ rfl _ rfl v RK ?_))
    refine(cp _).mono ?_
    rintro _ w9 ⟨v9,rfl,own9,k9⟩
    have O9:=aside (zi5 HB.out k9)
    have b9:=kb.trans (k9.mono kb.size)
    obtain⟨A9,c9,rfl,S9⟩:=Sl.own own9 (znQ _)
    clear own9 k9 kb HB RK d0 d3
    go_wp2_with (first|go_skip|(refine zau rfl (.tmp 70) (.tmp 71) 114 rfl W0.heap.size 5 Tryz.underlying114 zaR _ _ acc rfl O9.out _ _ _ (ze6 v.c.op) rfl rfl S9 (by have:=hl2;have:=hlo;omega) b9.size ?_;intro v1 w1 zfw g1;have hb1:Below W0.heap.size W0 w1:=below_grown b9 b9.size g1 (fun q hq=>(O9.out.lt q hq).1);have HO1:Hid (w1.ownsRow W0.heap.size 5 1 v1 (acc++ze6 v.c.op).length (bv (acc++ze6 v.c.op))):=aside (by rw[List.length_append];exact zfw);clear zfw g1))
    go_ret2
    rw[←HP.out]at HO1
    exact⟨_,rfl,zdD HO1.out k0.size,k0.trans (hb1.mono k0.size)⟩
end Go.Proofs.YtgmdhaepiclkcaaGreatDoor.CmP
namespace Go.Proofs.YtgmdhaepiclkcaaGreatDoor.CmH
set_option maxHeartbeats 8000000
set_option maxRecDepth 100000
open Go Go.RowKit Byt IdM IdW OpsM OpsW CmM StW CmW CmR CmP CmY
def Out (c:Com) (w:World) (e:Ending) (w':World):Prop:=
 e=.returned (.tuple #[.agg (cs (if zbn c=true then zaj c else nought)),.int .i64 (if zbn c=true then 0 else 1)])∧Below w.heap.size w w'
theorem hash_no (v:Cv) (w:World) (S:In w v) (ho:zkr v.c) (hm:zbn v.c=false):Calls Tryz.prog 77 #[.agg (cc v)] w (Out v.c w):=by
 have R0:Cel.Box CE ((w.alloc (.cells (cc v) 47)).alloc (.cells (cs nought) 56)) w.heap.size v:=(Cel.Box.new (E:=CE) w v 47).alloc _
 have G0:IdW.Box ((w.alloc (.cells (cc v) 47)).alloc (.cells (cs nought) 56)) (w.heap.size+1) nought:=by
  have z:(w.alloc (.cells (cc v) 47)).heap.size=w.heap.size+1:=by simp
  rw[←z]
  exact IdW.Box.new _ nought _
 have k0:Below w.heap.size w ((w.alloc (.cells (cc v) 47)).alloc (.cells (cs nought) 56)):=((Below.refl _ _).alloc (Nat.le_refl _) _).alloc (by simp) _
 have S0:=S.below k0
 have cp:=fun W T=>CmP.zis v W T ho hm
 have HQ:Hid (zbn v.c=false):=aside hm
 clear S ho hm
 go_enter Tryz.func77,Tryz.ntmps77
 go_wp2_with (first|go_skip|(refine IdJ.zax rfl rfl ?_)|(refine Cel.zaa CE rfl _ rfl _ rfl v R0 ?_))
 refine(cp _ S0).mono ?_
 rintro e w1 ⟨rfl,k1⟩
 have G1:=G0.below k1 G0.lt
 have b1:=k0.trans (k1.mono k0.size)
 clear cp R0 G0 k0 S0 k1
 go_wp2_with (first|go_skip|(refine IdJ.zcJ rfl rfl ?_)|(refine IdJ.zad rfl _ _ rfl (w.heap.size+1) rfl nought nought G1 rfl ?_))
 exact bodyPost_ret (v:=.tuple #[.agg (cs nought),.int .i64 1]) (IdJ.zdV Tryz.results77 _ _ (w.heap.size+1) nought _ rfl rfl (IdJ.Box.row G1 nought)) rfl ⟨by rw[HQ.out];rfl,IdJ.zbl b1 (by omega) _⟩
theorem hash_yes (v:Cv) (w:World) (S:In w v) (ho:zkr v.c) (hm:zbn v.c=true):Calls Tryz.prog 77 #[.agg (cc v)] w (Out v.c w):=by
 have R0:Cel.Box CE ((w.alloc (.cells (cc v) 47)).alloc (.cells (cs nought) 56)) w.heap.size v:=(Cel.Box.new (E:=CE) w v 47).alloc _
 have G0:IdW.Box ((w.alloc (.cells (cc v) 47)).alloc (.cells (cs nought) 56)) (w.heap.size+1) nought:=by
  have z:(w.alloc (.cells (cc v) 47)).heap.size=w.heap.size+1:=by simp
  rw[←z]
  exact IdW.Box.new _ nought _
 have k0:Below w.heap.size w ((w.alloc (.cells (cc v) 47)).alloc (.cells (cs nought) 56)):=((Below.refl _ _).alloc (Nat.le_refl _) _).alloc (by simp) _
 have S0:=S.below k0
 have cp:=fun W T=>CmP.zdX v W T ho hm
 have HQ:Hid (zbn v.c=true):=aside hm
 have hl:=zlD hm
 clear S ho hm
 go_enter Tryz.func77,Tryz.ntmps77
 go_wp2_with (first|go_skip|(refine IdJ.zax rfl rfl ?_)|(refine Cel.zaa CE rfl _ rfl _ rfl v R0 ?_))
 refine(cp _ S0).mono ?_
 rintro _ w1 ⟨pv,rfl,own,k1⟩
 obtain⟨A1,c1,rfl,S1⟩:=Sl.own own (znR _)
 have G1:=G0.below k1 G0.lt
 have b1:=k0.trans (k1.mono k0.size)
 clear cp R0 G0 k0 S0 k1 own
 obtain⟨n,hn⟩:∃n,(zgX v.c).length=n:=⟨_,rfl⟩
 have cs:=CmS.dsum S1 rfl (by omega)
 rw[hn]at cs
 rw[hn]
 clear hl hn
 go_wp2_with (first|go_skip|(refine IdJ.zcJ rfl rfl ?_))
 refine cs.mono ?_
 rintro _ w2 ⟨rfl,k2⟩
 have G2:=G1.below k2 G1.lt
 have b2:=b1.trans (k2.mono b1.size)
 clear cs k2 b1 G1
 go_wp2_with (first|go_skip|(refine IdJ.zad rfl _ _ rfl (w.heap.size+1) rfl nought (zaj v.c) G2 rfl ?_))
 exact bodyPost_ret (v:=.tuple #[.agg (IdW.cs (zaj v.c)),.int .i64 0]) (IdJ.zdV Tryz.results77 _ _ (w.heap.size+1) (zaj v.c) _ rfl rfl (IdJ.Box.row G2 (zaj v.c))) rfl ⟨by rw[HQ.out];rfl,IdJ.zbl b2 (by omega) _⟩
theorem zeY (v:Cv) (w:World) (S:In w v) (ho:zkr v.c):Calls Tryz.prog 77 #[.agg (cc v)] w (Out v.c w):=by
 cases hm:zbn v.c with
 |false=>exact hash_no v w S ho hm
 |true=>exact hash_yes v w S ho hm
end Go.Proofs.YtgmdhaepiclkcaaGreatDoor.CmH
namespace Go.Proofs.YtgmdhaepiclkcaaGreatDoor.CmY
set_option maxRecDepth 100000
open Go Go.Sort Go.RowKit Byt IdM IdW OpsM OpsW CmM StW CmW
theorem hash_doc (v:Cv) (w:World) (S:In w v) (ho:CmR.zkr v.c):Calls Tryz.prog 77 #[.agg (cc v)] w (zfp v.c w):=CmH.zeY v w S ho
end Go.Proofs.YtgmdhaepiclkcaaGreatDoor.CmY
namespace Go.Proofs.YtgmdhaepiclkcaaGreatDoor.DgR
set_option maxHeartbeats 8000000
set_option maxRecDepth 100000
open Go Go.Sort Go.RowKit Byt IdM IdW OpsM OpsW CmM StW CmW CmX CmY DgM DgN DgW
theorem zk6 (A:Option Addr) (cap:Nat) (l:List Cv) (m:Int) (w:World) (S:SlK w A cap l):
  Calls Tryz.prog 11 #[.slice A l.length cap,.int .i64 m] w fun e w'=>e=.returned (.bool (fewD (zar l) m))∧Below w.heap.size w w':=by
 have hmax:=S.len
 obtain⟨r,hr⟩:∃r,fewD (zar l) m=r:=⟨_,rfl⟩
 have HR:Hid (r=(decide ((l.length:Int)≤m)&&(zar l).all zoI)):=aside (by rw[←hr];unfold fewD;rw[zaw])
 rw[hr]
 clear hr
 by_cases hm:(l.length:Int)≤m
 ·have hg:¬m<(l.length:Int):=by omega
  have HR2:Hid (r=(zar (l.drop 0)).all zoI):=aside (by rw[HR.out,decide_eq_true hm];rfl)
  clear HR hm
  go_enter Tryz.func11,Tryz.ntmps11
  go_wp2_with (first|go_skip)
  clear hg
  go_loopw [5] (fun i wr=>∃k:Nat,k≤l.length∧i=.int .i64 k∧Hid (r=(zar (l.drop k)).all zoI)∧Below w.heap.size w wr) (fun i _=>l.length - (intOf i).toNat)
  case atStart=>exact⟨0,Nat.zero_le _,rfl,HR2,Below.refl _ _⟩
  case round=>
   clear HR2
   obtain⟨k,hk,rfl,HR,kb⟩:=hrel
   by_cases hlt:k<l.length
   ·obtain⟨b,off,rfl,hbw,hrg⟩:=S.plain (by omega)
    obtain⟨x,hx⟩:∃x,l[k]?=some x:=⟨_,List.getElem?_eq_getElem hlt⟩
    have hr1:=zaL (hrg k x hx) kb
    have p0:(k:Int)<l.length:=by omega
    have m0:((k:Int)).toNat=k:=by omega
    have hc:=fun W=>CmX.zk6 x W
    obtain⟨z,hz⟩:∃z,zoI x.c=z:=⟨_,rfl⟩
    have HZ:Hid (r=(z&&(zar (l.drop (k+1))).all zoI)):=aside (by rw[HR.out,drop_at hx,←hz];rfl)
    rw[hz]at hc
    clear hrg S hx hz HR
    go_wp2_with (first|go_skip|(refine zbF rfl _ rfl _ _ rfl x hr1 ?_))
    refine(hc _).mono ?_
    rintro e w1 ⟨rfl,k1⟩
    have b1:=kb.trans (k1.mono kb.size)
    clear k1 kb hc hr1
    cases z with
    |false=>
     go_wp2_with (first|go_skip)
     go_ret
     exact⟨StW.zae (by rw[HZ.out];rfl),b1⟩
    |true=>
     go_wp2_with (first|go_skip)
     go_roundw
     case rel=>exact⟨k+1,by omega,by go_num,aside (by rw[HZ.out];rfl),b1⟩
     case measure=>simp[intOf];omega
   ·have pn:¬(k:Int)<l.length:=by omega
    have HT:Hid (r=true):=aside (by rw[HR.out,List.drop_of_length_le (by omega)];rfl)
    clear HR S
    go_wp2_with (first|go_skip)
    go_ret
    exact⟨StW.zae HT.out.symm,kb⟩
 ·have hg:m<(l.length:Int):=by omega
  have HF:Hid (r=false):=aside (by rw[HR.out,decide_eq_false hm];rfl)
  clear HR hm
  go_enter Tryz.func11,Tryz.ntmps11
  go_wp2_with (first|go_skip)
  go_ret
  exact⟨StW.zae HF.out.symm,Below.refl _ _⟩
theorem zo8 {all:List Idn} {a:Idn} {k:Nat} (h:all[k]?=some a) (hn:∀j,j<k→all[j]?≠some a):atI all a=k:=by
 cases hq:idx all a with
 |none=>exact absurd (List.mem_of_getElem? h) (zfO.1 hq)
 |some p=>
  obtain⟨h1,h2⟩:=zcP hq
  have e:p=k:=by
   rcases Nat.lt_trichotomy p k with hlt|e|hgt
   ·exact absurd h1 (hn p hlt)
   ·exact e
   ·exact absurd h (h2 k hgt)
  unfold atI
  rw[hq,e]
theorem atI_none {all:List Idn} {a:Idn} (hn:∀j,j<all.length→all[j]?≠some a):atI all a= -1:=by
 have:idx all a=none:=zfO.2 fun hm=>by
  obtain⟨j,hj⟩:=List.mem_iff_getElem?.1 hm
  exact hn j (List.getElem?_eq_some_iff.1 hj).1 hj
 unfold atI
 rw[this]
theorem at_ret (A:Option Addr) (cap:Nat) (l:List Idn) (x:Idn) (w:World) (S:SlI w A cap l):
  Calls Tryz.prog 76 #[.slice A l.length cap,.agg (cs x)] w fun e w'=>e=.returned (.int .i64 (atI l x))∧Below w.heap.size w w':=by
 have hcap:=S.1
 have hmax:l.length≤9223372036854775807:=by have:=S.2.1;unfold maxLen at this;omega
 obtain⟨r,hr0⟩:∃r,atI l x=r:=⟨_,rfl⟩
 rw[hr0]
 have hr:=aside hr0
 clear hr0
 have B1:IdW.Box (w.alloc (.cells (cs x) 56)) w.heap.size x:=IdW.Box.new w x _
 go_enter Tryz.func76,Tryz.ntmps76
 go_wp2_with fail
 go_loopw [5] (fun i wr=>∃k:Nat,k≤l.length∧i=.int .i64 k∧Hid (∀j,j<k→l[j]?≠some x)∧IdW.Box wr w.heap.size x∧Below w.heap.size w wr) (fun i _=>l.length - (intOf i).toNat)
 case atStart=>exact⟨0,Nat.zero_le _,rfl,aside (fun j hj=>absurd hj (Nat.not_lt_zero j)),B1,(Below.refl _ _).alloc (Nat.le_refl _) _⟩
 case round=>
  clear B1
  obtain⟨k,hk,rfl,he,B1,kb⟩:=hrel
  by_cases hlt:k<l.length
  ·obtain⟨b,off,rfl,hbw,hrg⟩:=S.plain (by omega)
   have hr1:=IdW.zab (hrg k hlt) kb
   obtain⟨y,hy⟩:∃y,l.getD k nought=y:=⟨_,rfl⟩
   have hyk:l[k]?=some y:=by rw[←hy,List.getD_eq_getElem?_getD,List.getElem?_eq_getElem hlt];rfl
   rw[hy]at hr1
   have HY:=aside hyk
   have p0:(k:Int)<l.length:=by omega
   have m0:((k:Int)).toNat=k:=by omega
   clear hrg S hy hyk
   have heq:=fun W=>IdW.equal W 9998 y x
   by_cases hyx:y=x
   ·have hl:Hid (r=(k:Int)):=aside (by rw[←hr.out];exact zo8 (by rw[HY.out,hyx]) he.out)
    simp only[hyx,decide_true]at heq
    subst hyx
    go_wp2
    refine wp_region_quiet_lit (by kernel_rfl) (by kernel_rfl) ?_
    repeat (first|(refine IdV.zaS rfl _ rfl _ _ rfl y (fun _ ⟨_,e⟩=>by rw[e];exact hr1) ?_;simp only[Act.put,List.setIfInBounds_toArray,List.set_cons_succ,List.set_cons_zero])|(refine IdV.zaS rfl _ rfl _ _ rfl y (fun _ ⟨_,e⟩=>by rw[e];exact B1.range) ?_;simp only[Act.put,List.setIfInBounds_toArray,List.set_cons_succ,List.set_cons_zero])|go_big_quiet_step (fail))
    refine wpQuiet_nil ?_
    rintro _ ⟨nq,rfl⟩
    go_wp2
    go_ret
    exact⟨by rw[hl.out];rfl,zai kb _⟩
   ·simp only[hyx,decide_false]at heq
    go_wp2
    refine wp_region_quiet_lit (by kernel_rfl) (by kernel_rfl) ?_
    repeat (first|(refine IdV.zaS rfl _ rfl _ _ rfl y (fun _ ⟨_,e⟩=>by rw[e];exact hr1) ?_;simp only[Act.put,List.setIfInBounds_toArray,List.set_cons_succ,List.set_cons_zero])|(refine IdV.zaS rfl _ rfl _ _ rfl x (fun _ ⟨_,e⟩=>by rw[e];exact B1.range) ?_;simp only[Act.put,List.setIfInBounds_toArray,List.set_cons_succ,List.set_cons_zero])|go_big_quiet_step (fail))
    refine wpQuiet_nil ?_
    rintro _ ⟨nq,rfl⟩
    go_wp2
    go_roundw
    case rel=>
     refine⟨k+1,by omega,by go_num,aside (fun j hj=>?_),B1.drewN _,zai kb _⟩
     by_cases hjk:j=k
     ·subst hjk
      rw[HY.out]
      exact fun e=>hyx (Option.some.inj e)
     ·exact he.out j (by omega)
    case measure=>simp[intOf];omega
  ·have hl:Hid (r= -1):=aside (by
    rw[←hr.out]
    exact atI_none fun j hj=>he.out j (by omega))
   go_wp2
   go_ret
   exact⟨by rw[hl.out];rfl,kb⟩
def zne (l:List Idn) (w:World) (e:Ending) (w':World):Prop:=∃A cap,e=.returned (.slice A l.length cap)∧SlI w' A cap l∧Below w.heap.size w w'
theorem zlp {l:List Com} {k:Nat} {c:Com} (h:l[k]?=some c):(l.take (k+1)).map zaj=(l.take k).map zaj++[zaj c]:=by
 obtain⟨hk,e⟩:=List.getElem?_eq_some_iff.1 h
 rw[List.take_succ_eq_append_getElem hk,List.map_append,e]
 rfl
theorem zdy (A:Option Addr) (cap:Nat) (l:List Cv) (w:World) (S:SlK w A cap l) (ho:∀v ∈ l,CmR.zkr v.c) (hl:l.length≤1000):
  Calls Tryz.prog 37 #[.slice A l.length cap] w (zne (zgj (zar l)) w):=by
 obtain⟨r,hr⟩:∃r,zgj (zar l)=r:=⟨_,rfl⟩
 have HR:Hid (r=if(zar (l.drop 0)).all zbn=true then(zar l).map zaj else[]):=aside (by rw[←hr];rfl)
 rw[hr]
 clear hr
 unfold zne
 go_enter Tryz.func37,Tryz.ntmps37
 go_wp2_with (first|go_skip)
 go_loopw [3,4] (fun o i wr=>∃k:Nat,k≤l.length∧i=.int .i64 k∧Hid (r=if(zar (l.drop k)).all zbn=true then(zar l).map zaj else[])∧Hid (wr.ownsRow w.heap.size 56 32 o k (bv (flat (((zar l).take k).map zaj))))∧Below w.heap.size w wr) (fun _ i _=>l.length - (intOf i).toNat)
 case atStart=>exact⟨0,Nat.zero_le _,rfl,HR,aside ⟨rfl,.inl ⟨rfl,rfl⟩⟩,Below.refl _ _⟩
 case round=>
  clear HR
  obtain⟨k,hk,rfl,HR,HO,kb⟩:=hrel
  by_cases hlt:k<l.length
  ·obtain⟨b,off,rfl,hbw,hrg⟩:=S.plain (by omega)
   obtain⟨x,hx⟩:∃x,l[k]?=some x:=⟨_,List.getElem?_eq_getElem hlt⟩
   have hr1:=zaL (hrg k x hx) kb
   have p0:(k:Int)<l.length:=by omega
   have m0:((k:Int)).toNat=k:=by omega
   have hxm:=List.mem_of_getElem? hx
   have hc:=hash_doc x _ ((S.each x hxm).1.below kb) (ho x hxm)
   unfold zfp at hc
   have HT:=aside (zlp (zbH hx))
   have HD:Hid ((zar (l.drop k)).all zbn=(zbn x.c&&(zar (l.drop (k+1))).all zbn)):=aside (by rw[drop_at hx];rfl)
   clear hrg hx hxm
   cases hm:zbn x.c with
   |false=>
    obtain⟨y1,y2,y3⟩:=zgd hm
    rw[y2]at hc
    have HE:Hid (r=[]):=aside (by rw[HR.out,HD.out,hm];rfl)
    clear HR HD y1 y2 y3 hm HO
    go_wp2_with (first|go_skip|(refine zbF rfl _ rfl _ _ rfl x hr1 ?_))
    refine hc.mono ?_
    rintro e w1 ⟨rfl,k1⟩
    have b1:=kb.trans (k1.mono kb.size)
    clear hc kb k1 hr1
    go_wp2_with (first|go_skip|(refine IdJ.zax rfl rfl ?_)|(refine CmG.zaF rfl _ _ rfl _ nought _ rfl (zim x.c) _ rfl rfl rfl ?_;intro w2 G2 k2 s2;have b2:=b1.trans (k2.mono b1.size)))
    go_ret
    rw[HE.out]
    exact⟨none,0,rfl,SlI.nil _,b2⟩
   |true=>
    obtain⟨y1,y2,y3⟩:=zdm hm
    rw[y2,y3]at hc
    have HE:Hid (r=if(zar (l.drop (k+1))).all zbn=true then(zar l).map zaj else[]):=aside (by rw[HR.out,HD.out,hm,Bool.true_and])
    clear HR HD y1 y2 y3 hm
    obtain⟨h,hh⟩:∃h,zaj x.c=h:=⟨_,rfl⟩
    rw[hh]at hc HT
    clear hh
    obtain⟨xs,hxs⟩:∃xs,((zar l).take k).map zaj=xs:=⟨_,rfl⟩
    rw[hxs]at HO HT
    clear hxs
    go_wp2_with (first|go_skip|(refine zbF rfl _ rfl _ _ rfl x hr1 ?_))
    refine hc.mono ?_
    rintro e w1 ⟨rfl,k1⟩
    have b1:=kb.trans (k1.mono kb.size)
    have O1:=aside (zao HO.out k1)
    clear hc kb k1 hr1 HO
    go_wp2_with (first|go_skip|(refine IdJ.zax rfl rfl ?_)|(refine CmG.zaF rfl _ _ rfl _ nought _ rfl h _ rfl rfl rfl ?_;intro w2 G2 k2 s2;have b2:=b1.trans (k2.mono b1.size);have O2:=aside (zao O1.out k2))|(refine zak rfl _ rfl _ _ rfl h G2.range ?_)|(refine zde rfl _ rfl h rfl ?_;intro w3 S3 k3;have b3:=b2.trans (k3.mono b2.size);have O3:=aside (zao O2.out k3))|(refine zaE rfl (.tmp 23) (.tmp 25) rfl w.heap.size _ k xs rfl O3.out _ 1 1 [h] rfl rfl S3 (by omega) b3.size ?_;intro v6 w6 o6 g6))
    have b6:Below w.heap.size w w6:=below_grown b3 b3.size g6 (fun q hq=>(O3.out.lt q hq).1)
    go_roundw
    case rel=>exact⟨k+1,by omega,by go_num,HE,aside (by rw[HT.out];exact o6),b6⟩
    case measure=>simp[intOf];omega
  ·have e:k=l.length:=by omega
   have HE:Hid (r=(zar l).map zaj):=aside (by rw[HR.out,List.drop_of_length_le (by omega)];rfl)
   have HO2:=HO.out
   rw[List.take_of_length_le (by rw[zaw];omega)]at HO2
   have he:=HE.out
   obtain⟨R6,hR6⟩:∃R,(zar l).map zaj=R:=⟨_,rfl⟩
   rw[hR6]at he HO2
   have HE2:=aside he
   clear hR6 he HE
   obtain⟨A6,c6,rfl,S6⟩:=SlI.own HO2
   have pn:¬(k:Int)<l.length:=by omega
   clear HR HO HO2
   go_wp2_with (first|go_skip)
   go_ret
   rw[HE2.out]
   exact⟨A6,c6,rfl,S6,kb⟩
end Go.Proofs.YtgmdhaepiclkcaaGreatDoor.DgR
