/- How the project's package reg gathers registers -/
import Derived.Test.YtgmdhaepiclkcaaGreatDoorRegBJ3
import Derived.Test.YtgmdhaepiclkcaaGreatDoorRowBJ9
import Derived.Test.YtgmdhaepiclkcaaGreatDoorRowGJ7
import Derived.Test.YtgmdhaepiclkcaaGreatDoorForksJ5
namespace Go.Proofs.YtgmdhaepiclkcaaGreatDoor.RegF
set_option maxHeartbeats 16000000
set_option maxRecDepth 100000
open Go Go.Sort Go.RowKit Byt OpsM OpsK Rise RegM RegL RowS RowB RegW RegG RegE
def Keep (K:Nat→Obj→Prop) (q g:Nat) (w:World):Prop:=∀x o,K x o→q≠x∧g≠x∧w.heap[x]?=some o
section
variable {K:Nat→Obj→Prop} {q g:Nat} {w w':World}
theorem Keep.below (h:Keep K q g w) (hb:Below w.heap.size w w'):Keep K q g w':=fun x o hx=>by
 obtain⟨h1,h2,h3⟩:=h x o hx
 exact⟨h1,h2,by rw[hb.block x (Array.getElem?_eq_some_iff.1 h3).1,h3]⟩
theorem Keep.drewN (h:Keep K q g w) (n:Nat):Keep K q g (w.drewN n):=h
theorem Keep.drew (h:Keep K q g w):Keep K q g w.drew:=h
theorem Keep.grown {r:Nat} (h:Keep K q g w) (hg:w.grownBy w' (some r)) (hr:r=q∨r=g):Keep K q g w':=fun x o hx=>by
 obtain⟨h1,h2,h3⟩:=h x o hx
 exact⟨h1,h2,by rw[hg.block x (Array.getElem?_eq_some_iff.1 h3).1 (fun e=>by injection e with e;rcases hr with rfl|rfl;exact h1 e.symm;exact h2 e.symm),h3]⟩
theorem Keep.row {q':Nat} (h:Keep K q g w) (hq:q'=q∨q'=w.heap.size):Keep K q' g w:=fun x o hx=>by
 obtain⟨h1,h2,h3⟩:=h x o hx
 have:=(Array.getElem?_eq_some_iff.1 h3).1
 refine⟨?_,h2,h3⟩
 rcases hq with rfl|rfl
 ·exact h1
 ·omega
end
def ze7 (K:Nat→Obj→Prop) (B g:Nat) (l:List Rg) (w:World):Prop:=∃q cap t,w.heap[g]?=some (.cells #[.slice (some ⟨q,0,none⟩) l.length cap] t (0,0))∧w.ownsRow B E.T E.k (.slice (some ⟨q,0,none⟩) l.length cap) l.length (flat E l)∧q≠g∧B≤g∧Keep K q g w
theorem ze7.below {K:Nat→Obj→Prop} {B g:Nat} {l:List Rg} {w w':World} (h:ze7 K B g l w) (hb:Below w.heap.size w w'):ze7 K B g l w':=by
 obtain⟨q,cap,t,h1,h2,h3,h4,h5⟩:=h
 have hg:=(Array.getElem?_eq_some_iff.1 h1).1
 exact⟨q,cap,t,by rw[hb.block g hg,h1],h2.kept (zaq hb none) (.inr (by simp[Value.ownBlock])),h3,h4,h5.below hb⟩
theorem ze7.kept {K:Nat→Obj→Prop} {B g:Nat} {l:List Rg} {w:World} (h:ze7 K B g l w) {x:Nat} {o:Obj} (hx:K x o):w.heap[x]?=some o:=by
 obtain⟨q,cap,t,h1,h2,h3,h4,h5⟩:=h
 exact(h5 x o hx).2.2
theorem ze7.more {B g:Nat} {l:List Rg} {w w':World} (h:ze7 (fun _ _=>False) B g l w) (hb:Below w.heap.size w w') {x:Nat} {o:Obj} (hx:w.heap.size≤x) (ho:w'.heap[x]?=some o):ze7 (fun y p=>y=x∧p=o) B g l w':=by
 obtain⟨q,cap,t,h1,h2,h3,h4,_⟩:=h.below hb
 obtain⟨q0,cap0,t0,g1,g2,g3,g4,_⟩:=h
 have hg:=(Array.getElem?_eq_some_iff.1 g1).1
 have hq0:=(g2.lt q0 rfl).2
 have e:=(hb.block g hg).trans g1
 rw[h1]at e
 simp only[Option.some.injEq,Obj.cells.injEq,Array.mk.injEq,List.cons.injEq,Value.slice.injEq,Addr.mk.injEq,and_true,true_and]at e
 obtain⟨⟨rfl,_⟩,_⟩:=e
 refine⟨q,cap,t,h1,h2,h3,h4,?_⟩
 rintro y p ⟨rfl,rfl⟩
 exact⟨by omega,by omega,ho⟩
theorem ze7.less {K:Nat→Obj→Prop} {B g:Nat} {l:List Rg} {w:World} (h:ze7 K B g l w):ze7 (fun _ _=>False) B g l w:=by
 obtain⟨q,cap,t,h1,h2,h3,h4,_⟩:=h
 exact⟨q,cap,t,h1,h2,h3,h4,fun _ _ h=>h.elim⟩
theorem zgi:(Tryz.prog.info? 27).map (·.size)=some 1:=by kernel_rfl
theorem ze7.put {K:Nat→Obj→Prop} {B g q:Nat} {l:List Rg} {cap:Nat} {t:TypeId} {n:Nat} {w:World} (hn:l.length=n) (h1:w.heap[g]?=some (.cells #[.slice (some ⟨q,0,none⟩) n cap] t (0,0))) (h2:w.ownsRow B E.T E.k (.slice (some ⟨q,0,none⟩) n cap) n (flat E l)) (h3:q≠g) (h4:B≤g) (h5:Keep K q g w):ze7 K B g l w:=by
 subst hn
 exact⟨q,cap,t,h1,h2,h3,h4,h5⟩
theorem zeV {B n:Nat} {w:World} {v:Value} {x:Rg} {l:List Rg} (h:w.ownsRow B E.T E.k v n (flat E (l++[x]))):∃q cap,v=.slice (some ⟨q,0,none⟩) n cap:=by
 rcases h.2 with⟨_,e⟩|⟨g,cap,cur,rfl,_⟩
 ·have e2:=h.1
  rw[flat_length,e,List.length_append]at e2
  have e3:E.k=5:=rfl
  rw[e3]at e2
  simp at e2
 ·exact⟨g,cap,rfl⟩
def zpI:Forks.Tree:=.free 0 (.free 1 (.free 2 (.free 3 (.two 4 (.act 5 (.act 6 (.act 7 (.free 8 (.free 9 (.act 10 .ends)))))) 5 (.two 4 (.act 6 (.act 7 (.free 8 (.free 9 (.act 10 .ends))))) 6 (.act 4 (.act 7 (.free 8 (.free 9 (.act 10 .ends))))))))))
def tree5:Forks.Tree:=.free 0 (.free 1 (.free 2 (.free 4 (.two 3 (.act 5 (.free 6 (.act 7 .ends))) 5 (.act 3 (.free 6 (.act 7 .ends)))))))
theorem zeT {K:Nat→Obj→Prop} {B g q q':Nat} {r:Rg} {l:List Rg} {n cap cap':Nat} {t:TypeId} {w w2 w3 w4:World} (hn:l.length=n) (hBg:B≤g) (hg:g<w2.heap.size) (hq:q≠g)
  (kb:Below B w w2) (g3:w2.grownBy w3 (Value.slice (some ⟨q,0,none⟩) n cap).ownBlock) (zdg:w2.ownsRow B E.T E.k (.slice (some ⟨q,0,none⟩) n cap) n (flat E l))
  (ho:(Value.slice (some ⟨q',0,none⟩) (n+1) cap').ownBlock=(Value.slice (some ⟨q,0,none⟩) n cap).ownBlock∨(Value.slice (some ⟨q',0,none⟩) (n+1) cap').ownBlock=some w2.heap.size)
  (zbL:w3.ownsRow B E.T E.k (.slice (some ⟨q',0,none⟩) (n+1) cap') (n+1) (flat E (l++[r]))) (hc:w4.heap[g]?=some (.cells #[.slice (some ⟨q',0,none⟩) (n+1) cap'] t (0,0))) (g4:w3.grownBy w4 (some g)) (hk:Keep K q g w2):ze7 K B g (l++[r]) w4∧Below B w w4:=by
 have hq':q'≠g:=by
  rcases ho with h|h
  ·simp only[Value.ownBlock,Option.some.injEq]at h
   rw[h];exact hq
  ·simp only[Value.ownBlock,Option.some.injEq]at h
   omega
 have own4:=zbL.kept g4 (.inr (by simp only[Value.ownBlock];intro e;injection e with e;exact hq' e))
 have hqB:=(zdg.lt q rfl).1
 have hk4:Keep K q' g w4:=by
  have hk3:Keep K q' g w3:=by
   have h2:=hk.row (q':=q') (by rcases ho with h|h <;> simp only[Value.ownBlock,Option.some.injEq]at h <;> omega)
   intro x o hx
   obtain⟨_,_,c⟩:=hk x o hx
   obtain⟨a,b,_⟩:=h2 x o hx
   exact⟨a,b,((hk.grown (r:=q) g3 (.inl rfl)) x o hx).2.2⟩
  exact hk3.grown g4 (.inr rfl)
 refine⟨ze7.put (by simp[hn]) hc own4 hq' hBg hk4,?_⟩
 have k3:=below_grown kb (Nat.le_trans (Nat.le_of_lt (Nat.lt_of_le_of_lt hBg hg)) (Nat.le_refl _)) g3 (fun j hj=>by cases hj;exact hqB)
 exact below_grown k3 (by have:=k3.size;have:=kb.size;have:=g3.size;omega) g4 (fun j hj=>by cases hj;exact hBg)
theorem zgV {w:World} {g:Nat} {v:Value} {t:TypeId} (h:w.heap[g]?=some (.cells #[v] t (0,0))) (n:Nat):(w.drewN n).heap[g]?=some (.cells #[v] t (0,0)):=h
theorem zhg {w:World} {x:Nat} {r:Rg} (h:Box E w x r) (n:Nat):Box E (w.drewN n) x r:=h
theorem zeK {w:World} {x:Nat} {r:Rg} (h:Box E w x r):Box E w.drew x r:=h
theorem zgZ {w:World} {B q n cap:Nat} {xs:List Value} (h:w.ownsRow B E.T E.k (.slice (some ⟨q,0,none⟩) n cap) n xs) (m:Nat):(w.drewN m).ownsRow B E.T E.k (.slice (some ⟨q,0,none⟩) n cap) n xs:=h
theorem zey {w:World} {B q n cap:Nat} {xs:List Value} (h:w.ownsRow B E.T E.k (.slice (some ⟨q,0,none⟩) n cap) n xs):w.drew.ownsRow B E.T E.k (.slice (some ⟨q,0,none⟩) n cap) n xs:=h
theorem znP (K:Nat→Obj→Prop) (B g:Nat) (r:Rg) (w:World) (h:ze7 K B g [] w) (hB:B≤w.heap.size):
  Calls Tryz.prog 95 #[.pointer (some ⟨g,0,none⟩),.agg (rc r)] w fun e w'=>e=.returned (.tuple #[])∧ze7 K B g ([]++[r]) w'∧Below B w w':=by
 have hn:([]:List Rg).length=0:=rfl
 obtain⟨q,cap,t,h1,h2,h3,h4,h5⟩:=h
 rw[hn]at h1 h2
 have k0:=RegW.zah w (.cells (rc r) 62)
 have hg:=(Array.getElem?_eq_some_iff.1 h1).1
 have b0:Box E (w.alloc (.cells (rc r) 62)) w.heap.size r:=Box.new w r _
 have o0:=h2.alloc (.cells (rc r) 62)
 have e0:(w.alloc (.cells (rc r) 62)).heap[g]?=_:=(k0.block g hg).trans h1
 have q0:=h5.below k0
 have c0:=RowH.cell_of_one e0
 have kB:Below B w (w.alloc (.cells (rc r) 62)):=k0.mono hB
 have hgs:g<(w.alloc (.cells (rc r) 62)).heap.size:=Nat.lt_of_lt_of_le hg k0.size
 go_enter Tryz.func95,Tryz.ntmps95
 go_wp2
 go_quiet (fail)
 have ea:=zgV e0 nq
 have ba:=zhg b0 nq
 have oa:=zgZ o0 nq
 have qa:=q0.drewN nq
 have ka:=zai kB nq
 have hga:g<((w.alloc (.cells (rc r) 62)).drewN nq).heap.size:=hgs
 have hsa:w.heap.size≤((w.alloc (.cells (rc r) 62)).drewN nq).heap.size:=k0.size
 clear e0 b0 o0 q0 c0 kB hgs k0 h5
 generalize (w.alloc (.cells (rc r) 62)).drewN nq=wa at ea ba oa qa ka hga hsa ⊢
 have ca:=RowH.cell_of_one ea
 go_wp2_with fail
 refine Forks.region zpI (by kernel_rfl) (by kernel_rfl) rfl (by kernel_rfl) (by intro c a d v w h;cases d <;> exact h) ?_
 unfold zpI
 have ex:=ea
 have bx:=zeK ba
 have ox:=zey oa
 have qx:=qa.drew
 have kx:=zaf ka
 have hgx:=hga
 have hsx:w.heap.size≤wa.drew.heap.size:=hsa
 change wa.drew.heap[g]?=_ at ex
 change g<wa.drew.heap.size at hgx
 generalize wa.drew=wx at ex bx ox qx kx hgx hsx ⊢
 clear ea ba oa qa ca ka hga hsa
 have cx:=RowH.cell_of_one ex
 (try simp only[Act.put,List.setIfInBounds_toArray,List.set_cons_succ,List.set_cons_zero]);repeat (first|(refine Forks.reads rfl rfl ?_;go_big_quiet_step (fail);refine wpQuiet_nil ?_)|(refine Forks.checks rfl rfl _ rfl _ rfl ?_;simp only[Act.put,List.setIfInBounds_toArray,List.set_cons_succ,List.set_cons_zero]))
 refine Forks.forks rfl rfl ?_ ?_
 ·go_wp2_with fail
  refine Forks.on ?_
  refine Forks.acts rfl ?_
  go_wp2_with (first|(refine RowB.zaa E rfl _ rfl _ rfl r bx ?_))
  refine Forks.on ?_
  refine Forks.acts rfl ?_
  go_wp2_with (first|(refine RowC.zat E (of_decide_eq_true rfl) rfl _ rfl r rfl ?_))
  refine Forks.on ?_
  refine Forks.acts rfl ?_
  go_wp2_with (first|(refine RowB.zay E rfl (.tmp 30) (.tmp 32) rfl B _ 0 [] rfl (ox.alloc _) wx.heap.size r rfl (Box.new wx r _) (by omega) (by simp;omega) ?_;intro v' w3 zbL g3 ho3))
  refine Forks.on ?_
  obtain⟨q',cap',rfl⟩:=zeV zbL
  have e3:w3.heap[g]?=_:=(g3.block g (by simp;omega) (by simp only[Value.ownBlock];intro e;injection e with e;exact h3 e.symm)).trans ((((RegW.zah wx _).block g hgx)).trans ex)
  (try simp only[Act.put,List.setIfInBounds_toArray,List.set_cons_succ,List.set_cons_zero]);repeat (first|(refine Forks.reads rfl rfl ?_;go_big_quiet_step (fail);refine wpQuiet_nil ?_)|(refine Forks.checks rfl rfl _ rfl _ rfl ?_;simp only[Act.put,List.setIfInBounds_toArray,List.set_cons_succ,List.set_cons_zero]))
  refine Forks.acts rfl ?_
  go_wp2_with (first|(refine RowH.za9 rfl rfl 27 _ _ rfl zgi g rfl _ _ e3 _ rfl rfl rfl ?_;intro w4 hc4 g4))
  refine Forks.on ?_
  refine Forks.ends ?_
  obtain⟨d1,d2⟩:=zeT hn h4 (by simp;omega) h3 (kx.alloc (by omega) (.cells (E.enc r).toArray E.T)) g3 (ox.alloc _) ho3 zbL hc4 g4 (qx.below (RegW.zah _ _))
  clear ex bx ox qx cx kx e3 g3 zbL hc4 g4 ho3
  go_wp2_with fail
  exact bodyPost_ret (v:=.tuple #[]) (by simp[results,Tryz.results95,go_sem]) rfl ⟨rfl,d1,d2⟩
 ·go_wp2_with (first|(refine RowB.zaa E rfl _ rfl _ rfl r bx ?_))
  refine Forks.on ?_
  refine Forks.forks rfl rfl ?_ ?_
  ·go_wp2_with fail
   refine Forks.on ?_
   refine Forks.acts rfl ?_
   go_wp2_with (first|(refine RowC.zat E (of_decide_eq_true rfl) rfl _ rfl r rfl ?_))
   refine Forks.on ?_
   refine Forks.acts rfl ?_
   go_wp2_with (first|(refine RowB.zay E rfl (.tmp 30) (.tmp 32) rfl B _ 0 [] rfl (ox.alloc _) wx.heap.size r rfl (Box.new wx r _) (by omega) (by simp;omega) ?_;intro v' w3 zbL g3 ho3))
   refine Forks.on ?_
   obtain⟨q',cap',rfl⟩:=zeV zbL
   have e3:w3.heap[g]?=_:=(g3.block g (by simp;omega) (by simp only[Value.ownBlock];intro e;injection e with e;exact h3 e.symm)).trans ((((RegW.zah wx _).block g hgx)).trans ex)
   (try simp only[Act.put,List.setIfInBounds_toArray,List.set_cons_succ,List.set_cons_zero]);repeat (first|(refine Forks.reads rfl rfl ?_;go_big_quiet_step (fail);refine wpQuiet_nil ?_)|(refine Forks.checks rfl rfl _ rfl _ rfl ?_;simp only[Act.put,List.setIfInBounds_toArray,List.set_cons_succ,List.set_cons_zero]))
   refine Forks.acts rfl ?_
   go_wp2_with (first|(refine RowH.za9 rfl rfl 27 _ _ rfl zgi g rfl _ _ e3 _ rfl rfl rfl ?_;intro w4 hc4 g4))
   refine Forks.on ?_
   refine Forks.ends ?_
   obtain⟨d1,d2⟩:=zeT hn h4 (by simp;omega) h3 (kx.alloc (by omega) (.cells (E.enc r).toArray E.T)) g3 (ox.alloc _) ho3 zbL hc4 g4 (qx.below (RegW.zah _ _))
   clear ex bx ox qx cx kx e3 g3 zbL hc4 g4 ho3
   go_wp2_with fail
   exact bodyPost_ret (v:=.tuple #[]) (by simp[results,Tryz.results95,go_sem]) rfl ⟨rfl,d1,d2⟩
  ·go_wp2_with (first|(refine RowC.zat E (of_decide_eq_true rfl) rfl _ rfl r rfl ?_))
   refine Forks.on ?_
   have cx2:=RowH.cell_of_one (((RegW.zah wx (.cells (E.enc r).toArray E.T)).block g hgx).trans ex)
   refine Forks.acts rfl ?_
   go_wp2_with fail
   refine Forks.on ?_
   refine Forks.acts rfl ?_
   go_wp2_with (first|(refine RowB.zay E rfl (.tmp 30) (.tmp 32) rfl B _ 0 [] rfl (ox.alloc _) wx.heap.size r rfl (Box.new wx r _) (by omega) (by simp;omega) ?_;intro v' w3 zbL g3 ho3))
   refine Forks.on ?_
   obtain⟨q',cap',rfl⟩:=zeV zbL
   have e3:w3.heap[g]?=_:=(g3.block g (by simp;omega) (by simp only[Value.ownBlock];intro e;injection e with e;exact h3 e.symm)).trans ((((RegW.zah wx _).block g hgx)).trans ex)
   (try simp only[Act.put,List.setIfInBounds_toArray,List.set_cons_succ,List.set_cons_zero]);repeat (first|(refine Forks.reads rfl rfl ?_;go_big_quiet_step (fail);refine wpQuiet_nil ?_)|(refine Forks.checks rfl rfl _ rfl _ rfl ?_;simp only[Act.put,List.setIfInBounds_toArray,List.set_cons_succ,List.set_cons_zero]))
   refine Forks.acts rfl ?_
   go_wp2_with (first|(refine RowH.za9 rfl rfl 27 _ _ rfl zgi g rfl _ _ e3 _ rfl rfl rfl ?_;intro w4 hc4 g4))
   refine Forks.on ?_
   refine Forks.ends ?_
   obtain⟨d1,d2⟩:=zeT hn h4 (by simp;omega) h3 (kx.alloc (by omega) (.cells (E.enc r).toArray E.T)) g3 (ox.alloc _) ho3 zbL hc4 g4 (qx.below (RegW.zah _ _))
   clear ex bx ox qx cx kx e3 g3 zbL hc4 g4 ho3
   go_wp2_with fail
   exact bodyPost_ret (v:=.tuple #[]) (by simp[results,Tryz.results95,go_sem]) rfl ⟨rfl,d1,d2⟩
theorem zp3 (K:Nat→Obj→Prop) (B g:Nat) (m:List Rg) (y r:Rg) (w:World) (h:ze7 K B g (m++[y]) w) (hB:B≤w.heap.size) (hl:(m++[y]).length≤100000000) (hk:y.key≠r.key):
  Calls Tryz.prog 95 #[.pointer (some ⟨g,0,none⟩),.agg (rc r)] w fun e w'=>e=.returned (.tuple #[])∧ze7 K B g ((m++[y])++[r]) w'∧Below B w w':=by
 obtain⟨N,hn⟩:∃N,(m++[y]).length=N:=⟨_,rfl⟩
 obtain⟨M,hM⟩:∃M,m.length=M:=⟨_,rfl⟩
 have hNM:N=M+1:=by rw[←hn,←hM];simp
 have hN:N≤100000000:=by rw[←hn];exact hl
 have hy:(m++[y])[M]?=some y:=by rw[←hM];simp
 clear hl
 obtain⟨q,cap,t,h1,h2,h3,h4,h5⟩:=h
 rw[hn]at h1 h2
 have k0:=RegW.zah w (.cells (rc r) 62)
 have hg:=(Array.getElem?_eq_some_iff.1 h1).1
 have b0:Box E (w.alloc (.cells (rc r) 62)) w.heap.size r:=Box.new w r _
 have o0:=h2.alloc (.cells (rc r) 62)
 have e0:(w.alloc (.cells (rc r) 62)).heap[g]?=_:=(k0.block g hg).trans h1
 have q0:=h5.below k0
 have c0:=RowH.cell_of_one e0
 have kB:Below B w (w.alloc (.cells (rc r) 62)):=k0.mono hB
 have hgs:g<(w.alloc (.cells (rc r) 62)).heap.size:=Nat.lt_of_lt_of_le hg k0.size
 have ry0:=RowH.zdE o0 hy
 have y0:(w.alloc (.cells (rc r) 62)).cell? ⟨q,M * 5,none⟩=some (.string y.key):=ry0 0 _ rfl
 have x0:=b0.cell (j:=0) rfl
 have hwr:IntKind.i64.wrap ((N:Int) - 1)=(M:Int):=by rw[IntKind.wrap_i64];omega
 have p0:(M:Int)<N:=by omega
 have p1:¬((M:Int)<0):=by omega
 have p2:decide ((M:Int)<0)=false:=decide_eq_false p1
 have m0:((M:Int)).toNat=M:=by omega
 have HM:=aside hM
 have HN:=aside hn
 have HNM:=aside hNM
 have HY:=aside hy
 have t0:=RegQ.zdr hk
 have t1:=zby hk
 clear hM hn hNM hy hk
 go_enter Tryz.func95,Tryz.ntmps95
 go_wp2
 go_quiet (fail)
 have ea:=zgV e0 nq
 have ba:=zhg b0 nq
 have oa:=zgZ o0 nq
 have qa:=q0.drewN nq
 have ka:=zai kB nq
 have hga:g<((w.alloc (.cells (rc r) 62)).drewN nq).heap.size:=hgs
 have hsa:w.heap.size≤((w.alloc (.cells (rc r) 62)).drewN nq).heap.size:=k0.size
 clear e0 b0 o0 q0 c0 kB hgs k0 h5 ry0 y0 x0
 generalize (w.alloc (.cells (rc r) 62)).drewN nq=wa at ea ba oa qa ka hga hsa ⊢
 have ca:=RowH.cell_of_one ea
 go_wp2_with fail
 have hn:=HN.out
 clear HN HM HNM HY hwr p0 p1 p2 m0 t0 t1
 refine Forks.region zpI (by kernel_rfl) (by kernel_rfl) rfl (by kernel_rfl) (by intro c a d v w h;cases d <;> exact h) ?_
 unfold zpI
 have ex:=ea
 have bx:=zeK ba
 have ox:=zey oa
 have qx:=qa.drew
 have kx:=zaf ka
 have hgx:=hga
 have hsx:w.heap.size≤wa.drew.heap.size:=hsa
 change wa.drew.heap[g]?=_ at ex
 change g<wa.drew.heap.size at hgx
 generalize wa.drew=wx at ex bx ox qx kx hgx hsx ⊢
 clear ea ba oa qa ca ka hga hsa
 have cx:=RowH.cell_of_one ex
 (try simp only[Act.put,List.setIfInBounds_toArray,List.set_cons_succ,List.set_cons_zero]);repeat (first|(refine Forks.reads rfl rfl ?_;go_big_quiet_step (fail);refine wpQuiet_nil ?_)|(refine Forks.checks rfl rfl _ rfl _ rfl ?_;simp only[Act.put,List.setIfInBounds_toArray,List.set_cons_succ,List.set_cons_zero]))
 refine Forks.forks rfl rfl ?_ ?_
 ·go_wp2_with fail
  refine Forks.on ?_
  refine Forks.acts rfl ?_
  go_wp2_with (first|(refine RowB.zaa E rfl _ rfl _ rfl r bx ?_))
  refine Forks.on ?_
  refine Forks.acts rfl ?_
  go_wp2_with (first|(refine RowC.zat E (of_decide_eq_true rfl) rfl _ rfl r rfl ?_))
  refine Forks.on ?_
  refine Forks.acts rfl ?_
  go_wp2_with (first|(refine RowB.zay E rfl (.tmp 30) (.tmp 32) rfl B _ N (m++[y]) rfl (ox.alloc _) wx.heap.size r rfl (Box.new wx r _) (by omega) (by simp;omega) ?_;intro v' w3 zbL g3 ho3))
  refine Forks.on ?_
  obtain⟨q',cap',rfl⟩:=zeV zbL
  have e3:w3.heap[g]?=_:=(g3.block g (by simp;omega) (by simp only[Value.ownBlock];intro e;injection e with e;exact h3 e.symm)).trans ((((RegW.zah wx _).block g hgx)).trans ex)
  (try simp only[Act.put,List.setIfInBounds_toArray,List.set_cons_succ,List.set_cons_zero]);repeat (first|(refine Forks.reads rfl rfl ?_;go_big_quiet_step (fail);refine wpQuiet_nil ?_)|(refine Forks.checks rfl rfl _ rfl _ rfl ?_;simp only[Act.put,List.setIfInBounds_toArray,List.set_cons_succ,List.set_cons_zero]))
  refine Forks.acts rfl ?_
  go_wp2_with (first|(refine RowH.za9 rfl rfl 27 _ _ rfl zgi g rfl _ _ e3 _ rfl rfl rfl ?_;intro w4 hc4 g4))
  refine Forks.on ?_
  refine Forks.ends ?_
  obtain⟨d1,d2⟩:=zeT hn h4 (by simp;omega) h3 (kx.alloc (by omega) (.cells (E.enc r).toArray E.T)) g3 (ox.alloc _) ho3 zbL hc4 g4 (qx.below (RegW.zah _ _))
  clear ex bx ox qx cx kx e3 g3 zbL hc4 g4 ho3
  go_wp2_with fail
  exact bodyPost_ret (v:=.tuple #[]) (by simp[results,Tryz.results95,go_sem]) rfl ⟨rfl,d1,d2⟩
 ·go_wp2_with (first|(refine RowB.zaa E rfl _ rfl _ rfl r bx ?_))
  refine Forks.on ?_
  refine Forks.forks rfl rfl ?_ ?_
  ·go_wp2_with fail
   refine Forks.on ?_
   refine Forks.acts rfl ?_
   go_wp2_with (first|(refine RowC.zat E (of_decide_eq_true rfl) rfl _ rfl r rfl ?_))
   refine Forks.on ?_
   refine Forks.acts rfl ?_
   go_wp2_with (first|(refine RowB.zay E rfl (.tmp 30) (.tmp 32) rfl B _ N (m++[y]) rfl (ox.alloc _) wx.heap.size r rfl (Box.new wx r _) (by omega) (by simp;omega) ?_;intro v' w3 zbL g3 ho3))
   refine Forks.on ?_
   obtain⟨q',cap',rfl⟩:=zeV zbL
   have e3:w3.heap[g]?=_:=(g3.block g (by simp;omega) (by simp only[Value.ownBlock];intro e;injection e with e;exact h3 e.symm)).trans ((((RegW.zah wx _).block g hgx)).trans ex)
   (try simp only[Act.put,List.setIfInBounds_toArray,List.set_cons_succ,List.set_cons_zero]);repeat (first|(refine Forks.reads rfl rfl ?_;go_big_quiet_step (fail);refine wpQuiet_nil ?_)|(refine Forks.checks rfl rfl _ rfl _ rfl ?_;simp only[Act.put,List.setIfInBounds_toArray,List.set_cons_succ,List.set_cons_zero]))
   refine Forks.acts rfl ?_
   go_wp2_with (first|(refine RowH.za9 rfl rfl 27 _ _ rfl zgi g rfl _ _ e3 _ rfl rfl rfl ?_;intro w4 hc4 g4))
   refine Forks.on ?_
   refine Forks.ends ?_
   obtain⟨d1,d2⟩:=zeT hn h4 (by simp;omega) h3 (kx.alloc (by omega) (.cells (E.enc r).toArray E.T)) g3 (ox.alloc _) ho3 zbL hc4 g4 (qx.below (RegW.zah _ _))
   clear ex bx ox qx cx kx e3 g3 zbL hc4 g4 ho3
   go_wp2_with fail
   exact bodyPost_ret (v:=.tuple #[]) (by simp[results,Tryz.results95,go_sem]) rfl ⟨rfl,d1,d2⟩
  ·go_wp2_with (first|(refine RowC.zat E (of_decide_eq_true rfl) rfl _ rfl r rfl ?_))
   refine Forks.on ?_
   have cx2:=RowH.cell_of_one (((RegW.zah wx (.cells (E.enc r).toArray E.T)).block g hgx).trans ex)
   refine Forks.acts rfl ?_
   go_wp2_with fail
   refine Forks.on ?_
   refine Forks.acts rfl ?_
   go_wp2_with (first|(refine RowB.zay E rfl (.tmp 30) (.tmp 32) rfl B _ N (m++[y]) rfl (ox.alloc _) wx.heap.size r rfl (Box.new wx r _) (by omega) (by simp;omega) ?_;intro v' w3 zbL g3 ho3))
   refine Forks.on ?_
   obtain⟨q',cap',rfl⟩:=zeV zbL
   have e3:w3.heap[g]?=_:=(g3.block g (by simp;omega) (by simp only[Value.ownBlock];intro e;injection e with e;exact h3 e.symm)).trans ((((RegW.zah wx _).block g hgx)).trans ex)
   (try simp only[Act.put,List.setIfInBounds_toArray,List.set_cons_succ,List.set_cons_zero]);repeat (first|(refine Forks.reads rfl rfl ?_;go_big_quiet_step (fail);refine wpQuiet_nil ?_)|(refine Forks.checks rfl rfl _ rfl _ rfl ?_;simp only[Act.put,List.setIfInBounds_toArray,List.set_cons_succ,List.set_cons_zero]))
   refine Forks.acts rfl ?_
   go_wp2_with (first|(refine RowH.za9 rfl rfl 27 _ _ rfl zgi g rfl _ _ e3 _ rfl rfl rfl ?_;intro w4 hc4 g4))
   refine Forks.on ?_
   refine Forks.ends ?_
   obtain⟨d1,d2⟩:=zeT hn h4 (by simp;omega) h3 (kx.alloc (by omega) (.cells (E.enc r).toArray E.T)) g3 (ox.alloc _) ho3 zbL hc4 g4 (qx.below (RegW.zah _ _))
   clear ex bx ox qx cx kx e3 g3 zbL hc4 g4 ho3
   go_wp2_with fail
   exact bodyPost_ret (v:=.tuple #[]) (by simp[results,Tryz.results95,go_sem]) rfl ⟨rfl,d1,d2⟩
theorem znM (K:Nat→Obj→Prop) (B g:Nat) (m:List Rg) (y r:Rg) (w:World) (h:ze7 K B g (m++[y]) w) (hB:B≤w.heap.size) (hl:(m++[y]).length≤100000000) (hk:y.key=r.key) (hw:zaV r y=false):
  Calls Tryz.prog 95 #[.pointer (some ⟨g,0,none⟩),.agg (rc r)] w fun e w'=>e=.returned (.tuple #[])∧ze7 K B g (m++[y]) w'∧Below B w w':=by
 obtain⟨N,hn⟩:∃N,(m++[y]).length=N:=⟨_,rfl⟩
 obtain⟨M,hM⟩:∃M,m.length=M:=⟨_,rfl⟩
 have hNM:N=M+1:=by rw[←hn,←hM];simp
 have hN:N≤100000000:=by rw[←hn];exact hl
 have hy:(m++[y])[M]?=some y:=by rw[←hM];simp
 clear hl
 obtain⟨q,cap,t,h1,h2,h3,h4,h5⟩:=h
 rw[hn]at h1 h2
 have k0:=RegW.zah w (.cells (rc r) 62)
 have hg:=(Array.getElem?_eq_some_iff.1 h1).1
 have b0:Box E (w.alloc (.cells (rc r) 62)) w.heap.size r:=Box.new w r _
 have o0:=h2.alloc (.cells (rc r) 62)
 have e0:(w.alloc (.cells (rc r) 62)).heap[g]?=_:=(k0.block g hg).trans h1
 have q0:=h5.below k0
 have c0:=RowH.cell_of_one e0
 have kB:Below B w (w.alloc (.cells (rc r) 62)):=k0.mono hB
 have hgs:g<(w.alloc (.cells (rc r) 62)).heap.size:=Nat.lt_of_lt_of_le hg k0.size
 have ry0:=RowH.zdE o0 hy
 have y0:(w.alloc (.cells (rc r) 62)).cell? ⟨q,M * 5,none⟩=some (.string y.key):=ry0 0 _ rfl
 have x0:=b0.cell (j:=0) rfl
 have hwr:IntKind.i64.wrap ((N:Int) - 1)=(M:Int):=by rw[IntKind.wrap_i64];omega
 have p0:(M:Int)<N:=by omega
 have p1:¬((M:Int)<0):=by omega
 have p2:decide ((M:Int)<0)=false:=decide_eq_false p1
 have m0:((M:Int)).toNat=M:=by omega
 have HM:=aside hM
 have HN:=aside hn
 have HNM:=aside hNM
 have HY:=aside hy
 have t0:=RegQ.zbY hk
 have t1:=zbf hk
 have cn:=fun W=>RegB.zfB r y W
 rw[hw]at cn
 clear hM hn hNM hy hk hw
 go_enter Tryz.func95,Tryz.ntmps95
 go_wp2
 go_quiet (fail)
 have ea:=zgV e0 nq
 have ba:=zhg b0 nq
 have oa:=zgZ o0 nq
 have qa:=q0.drewN nq
 have ka:=zai kB nq
 have hga:g<((w.alloc (.cells (rc r) 62)).drewN nq).heap.size:=hgs
 have hsa:w.heap.size≤((w.alloc (.cells (rc r) 62)).drewN nq).heap.size:=k0.size
 clear e0 b0 o0 q0 c0 kB hgs k0 h5 ry0 y0 x0
 generalize (w.alloc (.cells (rc r) 62)).drewN nq=wa at ea ba oa qa ka hga hsa ⊢
 have ca:=RowH.cell_of_one ea
 go_wp2_with fail
 refine Grow.region [(0,true),(1,true),(5,true),(2,false),(3,true),(4,true),(6,true),(7,true),(8,false)] (by kernel_rfl) (by kernel_rfl) rfl (by kernel_rfl) (by intro c a d v w h;cases d <;> exact h) ?_
 have ex:=ea
 have bx:=zeK ba
 have ox:=zey oa
 have qx:=qa.drew
 have kx:=zaf ka
 have hgx:=hga
 change wa.drew.heap[g]?=_ at ex
 change g<wa.drew.heap.size at hgx
 have hsa':w.heap.size≤wa.drew.heap.size:=hsa
 generalize wa.drew=wx at ex bx ox qx kx hgx hsa' ⊢
 have hsx:=hsa'
 clear ea ba oa qa ca ka hga hsa
 have cg:∀d os,(grow (redrawn wx d) os).cell? ⟨g,0,none⟩=some (.slice (some ⟨q,0,none⟩) N cap):=Grow.grown (fun u hu=>RowH.cell_of_one ((hu.block g hgx).trans ex))
 have rr:=bx.range
 have ry:wx.rangeAt q (M * 5) (E.enc y):=RowH.zdE ox HY.out
 repeat (first|(refine RowG.zaJ E rfl rfl _ rfl _ _ rfl r rr ?_;simp only[Act.put,List.setIfInBounds_toArray,List.set_cons_succ,List.set_cons_zero])|(refine Grow.reads rfl rfl ?_;go_big_quiet_step (fail);refine wpQuiet_nil ?_))
 refine Grow.acts rfl ?_
 go_wp2_with fail
 refine⟨Below.refl _ _,?_⟩
 repeat (first|(refine RowG.zaJ E rfl rfl _ rfl _ _ rfl y ry ?_;simp only[Act.put,List.setIfInBounds_toArray,List.set_cons_succ,List.set_cons_zero])|(refine Grow.reads rfl rfl ?_;go_big_quiet_step (fail);refine wpQuiet_nil ?_))
 refine Grow.acts rfl ?_
 go_wp2_with fail
 refine(cn _).mono ?_
 rintro e we ⟨rfl,he⟩
 clear cg rr ry
 have ee:=(he.block g hgx).trans ex
 have be:=bx.below he
 have qe:=qx.below he
 have oe:=ox.kept (zaq he none) (.inr (by simp[Value.ownBlock]))
 have ke:=kx.trans (he.mono (Nat.le_trans hB hsx))
 have hge:=Nat.lt_of_lt_of_le hgx he.size
 clear ex bx ox qx kx hgx
 go_wp2_with fail
 refine⟨he,?_⟩
 refine Grow.ends ?_
 clear he
 go_wp2_with fail
 go_end0
 exact⟨rfl,ze7.put HN.out ee oe h3 h4 qe,ke⟩
theorem znN (K:Nat→Obj→Prop) (B g:Nat) (m:List Rg) (y r:Rg) (w:World) (h:ze7 K B g (m++[y]) w) (hB:B≤w.heap.size) (hl:(m++[y]).length≤100000000) (hk:y.key=r.key) (hw:zaV r y=true):
  Calls Tryz.prog 95 #[.pointer (some ⟨g,0,none⟩),.agg (rc r)] w fun e w'=>e=.returned (.tuple #[])∧ze7 K B g (m++[r]) w'∧Below B w w':=by
 obtain⟨N,hn⟩:∃N,(m++[y]).length=N:=⟨_,rfl⟩
 obtain⟨M,hM⟩:∃M,m.length=M:=⟨_,rfl⟩
 have hNM:N=M+1:=by rw[←hn,←hM];simp
 have hN:N≤100000000:=by rw[←hn];exact hl
 have hy:(m++[y])[M]?=some y:=by rw[←hM];simp
 clear hl
 obtain⟨q,cap,t,h1,h2,h3,h4,h5⟩:=h
 rw[hn]at h1 h2
 have k0:=RegW.zah w (.cells (rc r) 62)
 have hg:=(Array.getElem?_eq_some_iff.1 h1).1
 have b0:Box E (w.alloc (.cells (rc r) 62)) w.heap.size r:=Box.new w r _
 have o0:=h2.alloc (.cells (rc r) 62)
 have e0:(w.alloc (.cells (rc r) 62)).heap[g]?=_:=(k0.block g hg).trans h1
 have q0:=h5.below k0
 have c0:=RowH.cell_of_one e0
 have kB:Below B w (w.alloc (.cells (rc r) 62)):=k0.mono hB
 have hgs:g<(w.alloc (.cells (rc r) 62)).heap.size:=Nat.lt_of_lt_of_le hg k0.size
 have ry0:=RowH.zdE o0 hy
 have y0:(w.alloc (.cells (rc r) 62)).cell? ⟨q,M * 5,none⟩=some (.string y.key):=ry0 0 _ rfl
 have x0:=b0.cell (j:=0) rfl
 have hwr:IntKind.i64.wrap ((N:Int) - 1)=(M:Int):=by rw[IntKind.wrap_i64];omega
 have p0:(M:Int)<N:=by omega
 have p1:¬((M:Int)<0):=by omega
 have p2:decide ((M:Int)<0)=false:=decide_eq_false p1
 have m0:((M:Int)).toNat=M:=by omega
 have HM:=aside hM
 have HN:=aside hn
 have HNM:=aside hNM
 have HY:=aside hy
 have t0:=RegQ.zbY hk
 have t1:=zbf hk
 have cn:=fun W=>RegB.zfB r y W
 rw[hw]at cn
 clear hM hn hNM hy hk hw
 go_enter Tryz.func95,Tryz.ntmps95
 go_wp2
 go_quiet (fail)
 have ea:=zgV e0 nq
 have ba:=zhg b0 nq
 have oa:=zgZ o0 nq
 have qa:=q0.drewN nq
 have ka:=zai kB nq
 have hga:g<((w.alloc (.cells (rc r) 62)).drewN nq).heap.size:=hgs
 have hsa:w.heap.size≤((w.alloc (.cells (rc r) 62)).drewN nq).heap.size:=k0.size
 clear e0 b0 o0 q0 c0 kB hgs k0 h5 ry0 y0 x0
 generalize (w.alloc (.cells (rc r) 62)).drewN nq=wa at ea ba oa qa ka hga hsa ⊢
 have ca:=RowH.cell_of_one ea
 go_wp2_with fail
 refine Grow.region [(0,true),(1,true),(5,true),(2,false),(3,true),(4,true),(6,true),(7,true),(8,false)] (by kernel_rfl) (by kernel_rfl) rfl (by kernel_rfl) (by intro c a d v w h;cases d <;> exact h) ?_
 have ex:=ea
 have bx:=zeK ba
 have ox:=zey oa
 have qx:=qa.drew
 have kx:=zaf ka
 have hgx:=hga
 change wa.drew.heap[g]?=_ at ex
 change g<wa.drew.heap.size at hgx
 have hsa':w.heap.size≤wa.drew.heap.size:=hsa
 generalize wa.drew=wx at ex bx ox qx kx hgx hsa' ⊢
 have hsx:=hsa'
 clear ea ba oa qa ca ka hga hsa
 have cg:∀d os,(grow (redrawn wx d) os).cell? ⟨g,0,none⟩=some (.slice (some ⟨q,0,none⟩) N cap):=Grow.grown (fun u hu=>RowH.cell_of_one ((hu.block g hgx).trans ex))
 have rr:=bx.range
 have ry:wx.rangeAt q (M * 5) (E.enc y):=RowH.zdE ox HY.out
 repeat (first|(refine RowG.zaJ E rfl rfl _ rfl _ _ rfl r rr ?_;simp only[Act.put,List.setIfInBounds_toArray,List.set_cons_succ,List.set_cons_zero])|(refine Grow.reads rfl rfl ?_;go_big_quiet_step (fail);refine wpQuiet_nil ?_))
 refine Grow.acts rfl ?_
 go_wp2_with fail
 refine⟨Below.refl _ _,?_⟩
 repeat (first|(refine RowG.zaJ E rfl rfl _ rfl _ _ rfl y ry ?_;simp only[Act.put,List.setIfInBounds_toArray,List.set_cons_succ,List.set_cons_zero])|(refine Grow.reads rfl rfl ?_;go_big_quiet_step (fail);refine wpQuiet_nil ?_))
 refine Grow.acts rfl ?_
 go_wp2_with fail
 refine(cn _).mono ?_
 rintro e we ⟨rfl,he⟩
 clear cg rr ry
 have ee:=(he.block g hgx).trans ex
 have be:=bx.below he
 have qe:=qx.below he
 have oe:=ox.kept (zaq he none) (.inr (by simp[Value.ownBlock]))
 have ke:=kx.trans (he.mono (Nat.le_trans hB hsx))
 have hge:=Nat.lt_of_lt_of_le hgx he.size
 clear ex bx ox qx kx hgx
 go_wp2_with fail
 refine⟨he,?_⟩
 refine Grow.ends ?_
 have hes:=he.size
 clear he
 go_wp2_with fail
 refine Forks.region tree5 (by kernel_rfl) (by kernel_rfl) rfl (by kernel_rfl) (by intro c a d v w h;cases d <;> exact h) ?_
 unfold tree5
 have ez:=ee
 have bz:=zeK be
 have oz:=zey oe
 have qz:=qe.drew
 have kz:=zaf ke
 have hgz:=hge
 change we.drew.heap[g]?=_ at ez
 change g<we.drew.heap.size at hgz
 have hsz:B≤we.drew.heap.size:=Nat.le_trans hB (Nat.le_trans hsx (show wx.heap.size≤we.heap.size from hes))
 generalize we.drew=wz at ez bz oz qz kz hgz hsz ⊢
 clear ee be oe qe ke hge
 have cz:=RowH.cell_of_one ez
 (try simp only[Act.put,List.setIfInBounds_toArray,List.set_cons_succ,List.set_cons_zero]);repeat (first|(refine Forks.reads rfl rfl ?_;go_big_quiet_step (fail);refine wpQuiet_nil ?_)|(refine Forks.checks rfl rfl _ rfl _ rfl ?_;simp only[Act.put,List.setIfInBounds_toArray,List.set_cons_succ,List.set_cons_zero]))
 refine Forks.forks rfl rfl ?_ ?_
 ·go_wp2_with fail
  refine Forks.on ?_
  refine Forks.acts rfl ?_
  go_wp2_with (first|(refine RowB.zaa E rfl _ rfl _ rfl r bz ?_))
  refine Forks.on ?_
  (try simp only[Act.put,List.setIfInBounds_toArray,List.set_cons_succ,List.set_cons_zero]);repeat (first|(refine Forks.reads rfl rfl ?_;go_big_quiet_step (fail);refine wpQuiet_nil ?_)|(refine Forks.checks rfl rfl _ rfl _ rfl ?_;simp only[Act.put,List.setIfInBounds_toArray,List.set_cons_succ,List.set_cons_zero]))
  refine Forks.acts rfl ?_
  go_wp2_with (first|(refine RowH.zed E rfl rfl _ _ rfl B q N cap m [] y oz _ (by rw[HM.out];rfl) rfl r rfl ?_;intro w5 zpp g5))
  refine Forks.on ?_
  refine Forks.ends ?_
  have e5:=(g5.block g hgz (by intro e;injection e with e;exact h3 e.symm)).trans ez
  have hqB:=(oz.lt q rfl).1
  have k5:=below_grown kz hsz g5 (fun j hj=>by cases hj;exact hqB)
  have q5:=qz.grown g5 (.inl rfl)
  clear ez bz oz qz cz kz
  go_wp2_with fail
  go_end0
  exact⟨rfl,ze7.put (by have:=HN.out;simpa using this) e5 zpp h3 h4 q5,k5⟩
 ·go_wp2_with (first|(refine RowB.zaa E rfl _ rfl _ rfl r bz ?_))
  refine Forks.on ?_
  refine Forks.acts rfl ?_
  go_wp2_with fail
  refine Forks.on ?_
  (try simp only[Act.put,List.setIfInBounds_toArray,List.set_cons_succ,List.set_cons_zero]);repeat (first|(refine Forks.reads rfl rfl ?_;go_big_quiet_step (fail);refine wpQuiet_nil ?_)|(refine Forks.checks rfl rfl _ rfl _ rfl ?_;simp only[Act.put,List.setIfInBounds_toArray,List.set_cons_succ,List.set_cons_zero]))
  refine Forks.acts rfl ?_
  go_wp2_with (first|(refine RowH.zed E rfl rfl _ _ rfl B q N cap m [] y oz _ (by rw[HM.out];rfl) rfl r rfl ?_;intro w5 zpp g5))
  refine Forks.on ?_
  refine Forks.ends ?_
  have e5:=(g5.block g hgz (by intro e;injection e with e;exact h3 e.symm)).trans ez
  have hqB:=(oz.lt q rfl).1
  have k5:=below_grown kz hsz g5 (fun j hj=>by cases hj;exact hqB)
  have q5:=qz.grown g5 (.inl rfl)
  clear ez bz oz qz cz kz
  go_wp2_with fail
  go_end0
  exact⟨rfl,ze7.put (by have:=HN.out;simpa using this) e5 zpp h3 h4 q5,k5⟩
theorem zcE (K:Nat→Obj→Prop) (B g:Nat) (l:List Rg) (r:Rg) (w:World) (h:ze7 K B g l w) (hB:B≤w.heap.size) (hl:l.length≤100000000):
  Calls Tryz.prog 95 #[.pointer (some ⟨g,0,none⟩),.agg (rc r)] w fun e w'=>e=.returned (.tuple #[])∧ze7 K B g (zhh l r) w'∧Below B w w':=by
 rcases List.eq_nil_or_concat l with rfl|⟨m,y,rfl⟩
 ·exact znP K B g r w h hB
 ·rw[List.concat_eq_append]at h hl ⊢
  rw[zic]
  by_cases hk:y.key=r.key
  ·rw[if_neg (by simp[hk])]
   unfold best
   cases hw:zaV r y with
   |true=>exact znN K B g m y r w h hB hl hk hw
   |false=>exact znM K B g m y r w h hB hl hk hw
  ·rw[if_pos hk]
   exact zp3 K B g m y r w h hB hl hk
end Go.Proofs.YtgmdhaepiclkcaaGreatDoor.RegF
