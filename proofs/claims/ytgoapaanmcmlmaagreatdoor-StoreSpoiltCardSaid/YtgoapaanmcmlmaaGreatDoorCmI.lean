/- What the project's Get of package commit returns: a contract. -/
import Derived.Test.YtgoapaanmcmlmaaGreatDoorCmF
import Derived.Test.YtgoapaanmcmlmaaGreatDoorCmRJ8
import Derived.Defers
import Derived.Recover
namespace Go.Proofs.YtgoapaanmcmlmaaGreatDoor.CmI
set_option maxRecDepth 100000
open Go Go.Sort Go.RowKit Byt EncM EncC IdM IdW IdB OpsM OpsW CmM StW CmW CmD CmG CmE CmF CmY
theorem wpList_store_one {ops : Array Oper} {rest : List Oper} {o : Oper} {a : Act} {w : World} {Q : Exit → Act → World → Prop} (hgd : o.guard = none) (hd : o.dst = none) (T : TypeId) (x y : Operand) (ho : o.op = .store T x y) (hi : (Tryz.prog.info? T).map (·.size) = some 1)
   (g : Nat) (hx : a.eval x = .pointer (some ⟨g, 0, none⟩)) (old : Value) (hc : One w g old) (v : Value) (hy : a.eval y = v) (hv : v.cells = #[v]) (h1 : v.oneCell' = true)
   (h : ∀ w', One w' g v → (∀ B, B ≤ g → Below B w w') → w.grownBy w' (some g) → wpList Tryz.prog ops Q rest a w') : wpList Tryz.prog ops Q (o :: rest) a w := by
 have hlt := hc.lt
 obtain ⟨t, ht⟩ := hc
 exact RowH.wpList_store_cell hgd hd T x y ho hi g hx old t ht v hy hv h1 (fun w' h1 h2 => h w' ⟨t, h1⟩ (fun B hB => below_grown (Below.refl B w) (by omega) h2 (fun k hk => by injection hk with hk; omega)) h2)
theorem One.kept {w w' : World} {g b : Nat} {v : Value} (h : One w b v) (hg : w.grownBy w' (some g)) (hne : b ≠ g) : One w' b v := by
 have hlt := h.lt
 obtain ⟨t, ht⟩ := h
 exact ⟨t, (hg.block _ hlt (fun e => hne (by injection e))).trans ht⟩
theorem no_one {w : World} {g : Nat} {v : Value} (h : One w g v) (hv : isU8 v = false) : NoU8 w g := by
 intro j u hu
 obtain ⟨t, ht⟩ := h
 rw [cell_of_row w g j _ t (0, 0) ht] at hu
 match j, hu with
 | 0, hu => simp at hu; rw [← hu]; exact hv
 | j + 1, hu => simp at hu
theorem info_e : (Tryz.prog.info? 32).map (·.size) = some 1 := by kernel_rfl
theorem results_g {fn : Func} {p q r : Tmp} (h : fn.results = #[.cell p 29, .cell q 22, .cell r 32]) (tmps : Array Value) (w : World) (g gb gn : Nat) (v : Cv) (A : Option Addr) (n k : Nat) (m : Int)
   (hp : tmps.getD p undef = .pointer (some ⟨g, 0, none⟩)) (hq : tmps.getD q undef = .pointer (some ⟨gb, 0, none⟩)) (hr : tmps.getD r undef = .pointer (some ⟨gn, 0, none⟩)) (hg : Cel.Box CE w g v) (hb : One w gb (.slice A n k)) (hn : One w gn (.int .i64 m)) :
   (results fn tmps).run Tryz.prog w = .ok (.tuple #[.agg (cc v), .slice A n k, .int .i64 m]) w := by
 have cb := hb.cell
 have cn := hn.cell
 have d0 := cell_node hg
 have d1 := cell_seq hg
 have d2 := cell_gen hg
 have d3 := cell_ps hg
 have d4 := cell_kind hg
 have d5 := cell_key hg
 have d6 := cell_elem hg
 have d7 := cell_n hg
 have hp' : tmps[p]?.getD undef = .pointer (some ⟨g, 0, none⟩) := by simpa using hp
 have hq' : tmps[q]?.getD undef = .pointer (some ⟨gb, 0, none⟩) := by simpa using hq
 have hr' : tmps[r]?.getD undef = .pointer (some ⟨gn, 0, none⟩) := by simpa using hr
 simp [results, h, hp', hq', hr', asAddr, go_sem, cb, cn, d0, d1, d2, d3, d4, d5, d6, d7]
 rfl
set_option maxRecDepth 100000 in
set_option maxHeartbeats 8000000 in
theorem catch_idle (p q r : Addr) (w : World) :
   CallsD Tryz.prog 92 #[.pointer (some p), .pointer (some q), .pointer (some r)] .returning w fun e u' w' => e = .returned (.tuple #[]) ∧ u' = .returning ∧ w' = w := by
 refine callsD_of_wpS Tryz.func92 rfl fun c₀ cs hu => ?_
 apply wpS_seq
 apply wpS_region
 simp [wpOpsS, go_sem, recoverD, hu, Tryz.ntmps92, Exit.thenS]
 apply wpS_seq
 apply wpS_seq
 apply wpS_region
 simp [wpOpsS, go_sem, Exit.thenS]
 refine wpS_cond (t := true) (by simp [Act.eval, Array.replicate]) ?_
 simp only [if_true]
 refine wpS_of_wp (wp_ret ?_)
 cases c₀
 simp_all [bodyPostS, results, Tryz.results92, Exit.thenS]
structure Vars (w : World) (gc gb gn : Nat) (v : Cv) (b : Value) (n : Int) : Prop where
 c : Cel.Box CE w gc v
 b : One w gb b
 n : One w gn (.int .i64 n)
set_option maxRecDepth 100000 in
set_option maxHeartbeats 8000000 in
theorem catch_dies (gc : Nat) (v : Cv) (b : Value) (n : Int) (w : World) (h : Vars w gc (gc + 1) (gc + 2) v b n) :
   CallsD Tryz.prog 92 #[.pointer (some ⟨gc, 0, none⟩), .pointer (some ⟨gc + 1, 0, none⟩), .pointer (some ⟨gc + 2, 0, none⟩)] (.panicking dies) w fun e u' w' => e = .returned (.tuple #[]) ∧ settle u' = .returning ∧ Vars w' gc (gc + 1) (gc + 2) noV (.slice none 0 0) 2 ∧ Below gc w w' := by
 refine callsD_of_wpS Tryz.func92 rfl fun c₀ cs hu => ?_
 unfold dies at hu
 change Code.wpS _ _ _ ⟨[.pointer (some ⟨gc, 0, none⟩), .pointer (some ⟨gc + 1, 0, none⟩), .pointer (some ⟨gc + 2, 0, none⟩), undef, undef, undef, undef, undef, undef, undef, undef, undef, undef, undef, undef, undef, undef, undef].toArray, []⟩ _ _
 have hta : ∀ W : World, (Instr.typeAssert (.iface 32 (.int .i64 2)) 20 32 true).run Tryz.prog W = .ok (.tuple #[.int .i64 2, .bool true]) W := fun W => by kernel_rfl
 obtain ⟨HC, HB, HN⟩ := h
 apply wpS_seq
 apply wpS_region
 simp [wpOpsS, go_sem, recoverD, hu, Exit.thenS]
 refine wpS_of_wp ?_
 go_wp2_with (first | go_skip | (refine Cel.wpList_store_box CE rfl _ _ rfl gc rfl v HC noV rfl ?_; intro w1 C1 f1 g1 s1; have B1 := One.kept HB g1 (by omega); have N1 := One.kept HN g1 (by omega)) | (refine wpList_store_one rfl rfl 22 _ _ rfl info_s (gc + 1) rfl b B1 (.slice none 0 0) rfl rfl rfl ?_; intro w2 B2 f2 g2; have N2 := One.kept N1 g2 (by omega); have C2 := C1.kept g2 (far_ne (by omega))) | (refine wpList_store_one rfl rfl 32 _ _ rfl info_e (gc + 2) rfl _ N2 (.int .i64 2) rfl rfl rfl ?_; intro w3 N3 f3 g3; have B3 := One.kept B2 g3 (by omega); have C3 := C2.kept g3 (far_ne (by omega))))
 refine ⟨rfl, _, rfl, _, by simp [results, Tryz.results92], rfl, ?_, ⟨C3, B3, N3⟩, (f1 gc (Nat.le_refl _)).trans ((f2 gc (by omega)).trans (f3 gc (by omega)))⟩
 simp [settle]
def tree : Forks.Tree := .free 1 (.two 0 (.act 2 (.act 3 (.act 4 (.act 5 (.act 6 .ends))))) 2 (.two 0 (.act 3 (.act 4 (.act 5 (.act 6 .ends)))) 3 (.act 0 (.act 4 (.act 5 (.act 6 .ends))))))
def Calm (Q : Exit → Act → World → Prop) : Exit → Act → World → Prop
 | .normal, a, w => Q .normal a w
 | _, _, _ => False
theorem calm {P : Program} {c : Code} {Q : Exit → Act → World → Prop} {a : Act} {w : World} (h : c.wp P (Calm Q) a w) : c.wp P Q a w := wp_mono h (fun e a w hq => by
 cases e with
 | normal => exact hq
 | _ => exact hq.elim)
theorem calm_in {Q : Exit → Act → World → Prop} {a : Act} {w : World} (h : Q .normal a w) : Calm Q .normal a w := h
set_option maxRecDepth 100000 in
set_option maxHeartbeats 16000000 in
theorem get_no (A : Option Addr) (cap : Nat) (bs : List Int) (w : World) (S : Sl w A cap bs) (hl : bs.length ≤ 1099511627776) (hq : getK bs = none) :
   Calls Tryz.prog 54 #[.slice A bs.length cap] w (GetAll (getK bs) w) := by
 have z1 : (w.alloc (.cells #[.int .i64 0, .int .i64 0, .int .i64 0, .slice none 0 0, .int .i64 0, .string ⟨#[]⟩, .string ⟨#[]⟩, .int .i64 0] 29)).heap.size = w.heap.size + 1 := by simp
 have z2 : ((w.alloc (.cells #[.int .i64 0, .int .i64 0, .int .i64 0, .slice none 0 0, .int .i64 0, .string ⟨#[]⟩, .string ⟨#[]⟩, .int .i64 0] 29)).alloc (.cells #[.slice none 0 0] 22)).heap.size = w.heap.size + 1 + 1 := by simp
 have z3 : (((w.alloc (.cells #[.int .i64 0, .int .i64 0, .int .i64 0, .slice none 0 0, .int .i64 0, .string ⟨#[]⟩, .string ⟨#[]⟩, .int .i64 0] 29)).alloc (.cells #[.slice none 0 0] 22)).alloc (.cells #[.int .i64 0] 32)).heap.size = w.heap.size + 1 + 1 + 1 := by simp
 obtain ⟨W4, hW4⟩ : ∃ W, ((((w.alloc (.cells #[.int .i64 0, .int .i64 0, .int .i64 0, .slice none 0 0, .int .i64 0, .string ⟨#[]⟩, .string ⟨#[]⟩, .int .i64 0] 29)).alloc (.cells #[.slice none 0 0] 22)).alloc (.cells #[.int .i64 0] 32)).alloc (.cells #[.slice A bs.length cap] 128)) = W := ⟨_, rfl⟩
 have C : Cel.Box CE W4 w.heap.size noV := by rw [← hW4]; exact (((Cel.Box.new (E := CE) w noV 29).alloc _).alloc _).alloc _
 have HB : One W4 (w.heap.size + 1) (.slice none 0 0) := by rw [← hW4, ← z1]; exact ((One.new (w.alloc (.cells #[.int .i64 0, .int .i64 0, .int .i64 0, .slice none 0 0, .int .i64 0, .string ⟨#[]⟩, .string ⟨#[]⟩, .int .i64 0] 29)) _ _).below (StW.below_alloc _ _)).below (StW.below_alloc _ _)
 have HN : One W4 (w.heap.size + 1 + 1) (.int .i64 0) := by rw [← hW4, ← z2]; exact (One.new ((w.alloc (.cells #[.int .i64 0, .int .i64 0, .int .i64 0, .slice none 0 0, .int .i64 0, .string ⟨#[]⟩, .string ⟨#[]⟩, .int .i64 0] 29)).alloc (.cells #[.slice none 0 0] 22)) _ _).below (StW.below_alloc _ _)
 have D : Cel.Box PE W4 (w.heap.size + 1 + 1 + 1) ⟨A, cap, bs⟩ := by rw [← hW4, ← z3]; exact Cel.Box.new (E := PE) _ ⟨A, cap, bs⟩ _
 have kb : Below w.heap.size w W4 := by rw [← hW4]; exact ((((Below.refl _ _).alloc (Nat.le_refl _) _).alloc (by simp) _).alloc (by simp; omega) _).alloc (by simp; omega) _
 have qc := commit_ret ⟨A, cap, bs⟩ (w.heap.size + 1 + 1 + 1) W4 D (S.below kb) hl
 unfold ComOut at qc
 have hmf : ∀ (fn : Fn) (first cap : Array Value) (w : World), (Instr.makeFunc fn first cap).run Tryz.prog w = .ok (.func fn first cap) w := fun _ _ _ _ => rfl
 rw [show getK (⟨A, cap, bs⟩ : Pd).l = none from hq] at qc
 simp only at qc
 rw [hq]
 clear hq D z1 z2 z3 S hl
 go_enter_defers Tryz.func54, Tryz.ntmps54
 go_wp2_with (first | go_skip)
 refine qc.mono ?_
 rintro e w1 ⟨T, rfl⟩
 clear qc hW4
 go_wp2_with (first | go_skip)
 have V1 : Vars w1 w.heap.size (w.heap.size + 1) (w.heap.size + 2) noV (.slice none 0 0) 0 := ⟨C.kept T.grown (far_ne (by omega)), One.kept HB T.grown (by omega), One.kept HN T.grown (by omega)⟩
 refine leaves_cons (f := 92) (args := #[.pointer (some ⟨w.heap.size, 0, none⟩), .pointer (some ⟨(w.heap.size + 1), 0, none⟩), .pointer (some ⟨(w.heap.size + 1 + 1), 0, none⟩)]) (by simp [dies]) (by simp [go_sem]) ?_
 refine (catch_dies w.heap.size noV (.slice none 0 0) 0 w1 V1).mono ?_
 rintro e u' w2 ⟨rfl, hset, V2, k2⟩
 simp only [hset]
 refine ⟨_, results_g Tryz.results54 _ _ w.heap.size (w.heap.size + 1) (w.heap.size + 1 + 1) noV none 0 0 2 rfl rfl rfl V2.c V2.b V2.n, noV, none, 0, rfl, rfl, In.none _, Sl.nil _, kb.trans ((T.below w.heap.size (by omega)).trans k2)⟩
set_option maxRecDepth 100000 in
set_option maxHeartbeats 16000000 in
theorem get_yes (A : Option Addr) (cap : Nat) (bs : List Int) (w : World) (S : Sl w A cap bs) (hl : bs.length ≤ 1099511627776) (c : Com) (l2 : List Int) (hq : getK bs = some (c, l2)) :
   Calls Tryz.prog 54 #[.slice A bs.length cap] w (GetAll (getK bs) w) := by
 have z1 : (w.alloc (.cells #[.int .i64 0, .int .i64 0, .int .i64 0, .slice none 0 0, .int .i64 0, .string ⟨#[]⟩, .string ⟨#[]⟩, .int .i64 0] 29)).heap.size = w.heap.size + 1 := by simp
 have z2 : ((w.alloc (.cells #[.int .i64 0, .int .i64 0, .int .i64 0, .slice none 0 0, .int .i64 0, .string ⟨#[]⟩, .string ⟨#[]⟩, .int .i64 0] 29)).alloc (.cells #[.slice none 0 0] 22)).heap.size = w.heap.size + 1 + 1 := by simp
 have z3 : (((w.alloc (.cells #[.int .i64 0, .int .i64 0, .int .i64 0, .slice none 0 0, .int .i64 0, .string ⟨#[]⟩, .string ⟨#[]⟩, .int .i64 0] 29)).alloc (.cells #[.slice none 0 0] 22)).alloc (.cells #[.int .i64 0] 32)).heap.size = w.heap.size + 1 + 1 + 1 := by simp
 obtain ⟨W4, hW4⟩ : ∃ W, ((((w.alloc (.cells #[.int .i64 0, .int .i64 0, .int .i64 0, .slice none 0 0, .int .i64 0, .string ⟨#[]⟩, .string ⟨#[]⟩, .int .i64 0] 29)).alloc (.cells #[.slice none 0 0] 22)).alloc (.cells #[.int .i64 0] 32)).alloc (.cells #[.slice A bs.length cap] 128)) = W := ⟨_, rfl⟩
 have C : Cel.Box CE W4 w.heap.size noV := by rw [← hW4]; exact (((Cel.Box.new (E := CE) w noV 29).alloc _).alloc _).alloc _
 have HB : One W4 (w.heap.size + 1) (.slice none 0 0) := by rw [← hW4, ← z1]; exact ((One.new (w.alloc (.cells #[.int .i64 0, .int .i64 0, .int .i64 0, .slice none 0 0, .int .i64 0, .string ⟨#[]⟩, .string ⟨#[]⟩, .int .i64 0] 29)) _ _).below (StW.below_alloc _ _)).below (StW.below_alloc _ _)
 have HN : One W4 (w.heap.size + 1 + 1) (.int .i64 0) := by rw [← hW4, ← z2]; exact (One.new ((w.alloc (.cells #[.int .i64 0, .int .i64 0, .int .i64 0, .slice none 0 0, .int .i64 0, .string ⟨#[]⟩, .string ⟨#[]⟩, .int .i64 0] 29)).alloc (.cells #[.slice none 0 0] 22)) _ _).below (StW.below_alloc _ _)
 have D : Cel.Box PE W4 (w.heap.size + 1 + 1 + 1) ⟨A, cap, bs⟩ := by rw [← hW4, ← z3]; exact Cel.Box.new (E := PE) _ ⟨A, cap, bs⟩ _
 have kb : Below w.heap.size w W4 := by rw [← hW4]; exact ((((Below.refl _ _).alloc (Nat.le_refl _) _).alloc (by simp) _).alloc (by simp; omega) _).alloc (by simp; omega) _
 have qc := commit_ret ⟨A, cap, bs⟩ (w.heap.size + 1 + 1 + 1) W4 D (S.below kb) hl
 unfold ComOut at qc
 have hmf : ∀ (fn : Fn) (first cap : Array Value) (w : World), (Instr.makeFunc fn first cap).run Tryz.prog w = .ok (.func fn first cap) w := fun _ _ _ _ => rfl
 have hl2 : l2.length ≤ bs.length := by
   have := (put_getK S.bytes hq).2
   rw [this, List.length_append]
   omega
 rw [show getK (⟨A, cap, bs⟩ : Pd).l = some (c, l2) from hq] at qc
 simp only at qc
 rw [hq]
 clear hq D z1 z2 z3 S
 go_enter_defers Tryz.func54, Tryz.ntmps54
 go_wp2_with (first | go_skip)
 refine qc.mono ?_
 rintro e w1 ⟨T, v, rd, rfl, hv, IN, D, hrd, SL⟩
 clear qc hW4
 have HV := aside hv
 have C1 := C.kept T.grown (far_ne (by omega))
 have B1 := One.kept HB T.grown (by omega)
 have N1 := One.kept HN T.grown (by omega)
 have k1 := kb.trans (T.below w.heap.size (by omega))
 have hbs := aside SL.bytes
 rw [← hrd] at hl2
 have HRD := aside hrd
 have h63 : 0 + rd.l.length ≤ 1099511627900 := by omega
 clear C HB HN kb T hv hrd hl hl2
 go_wp2_with (first | go_skip | (refine Cel.wpList_store_box CE rfl _ _ rfl w.heap.size rfl noV C1 v rfl ?_; intro w2 C2 f2 g2 s2; have B2 := One.kept B1 g2 (by omega); have N2 := One.kept N1 g2 (by omega); have D2 := D.kept g2 (far_ne (by omega)); have IN2 : In w2 v := sli_far IN (no_cm C1) g2; have S2 := sl_far SL (no_cm C1) g2; have k2 := k1.trans (f2 w.heap.size (Nat.le_refl _))))
 clear C1 B1 N1 D IN SL k1 f2 g2 s2
 refine calm ?_
 refine Forks.region tree (by kernel_rfl) (by kernel_rfl) rfl (by kernel_rfl) (by intro c a d v w h; cases d <;> exact h) ?_
 unfold tree
 have kd := below_drew1 (Below.refl w2.heap.size w2)
 have C3 := C2.below kd
 have B3 := B2.below kd
 have N3 := N2.below kd
 have D3 := D2.below kd
 have IN3 : In w2.drew v := IN2.below kd
 have S3 := S2.below kd
 have k3 := k2.trans (kd.mono k2.size)
 clear C2 B2 N2 D2 IN2 S2 k2 kd
 generalize w2.drew = wz at C3 B3 N3 D3 IN3 S3 k3 ⊢
 have c3 := pd_cell D3
 (try simp only [Act.put])
 repeat (refine Forks.reads rfl rfl ?_; go_big_quiet_step (fail); refine wpQuiet_nil ?_; (try simp only [Act.put, List.setIfInBounds_toArray, List.set_cons_succ, List.set_cons_zero]))
 refine Forks.forks rfl rfl ?_ ?_
 · skip
   go_wp2_with (first | (refine Cel.wpList_load_box CE rfl _ rfl _ rfl v C3 ?_))
   refine Forks.on ?_
   (try simp only [Act.put, List.setIfInBounds_toArray, List.set_cons_succ, List.set_cons_zero])
   refine Forks.acts rfl ?_
   go_wp2_with fail
   refine Forks.on ?_
   (try simp only [Act.put, List.setIfInBounds_toArray, List.set_cons_succ, List.set_cons_zero])
   refine Forks.acts rfl ?_
   go_wp2_with (first | (refine wpList_append_sl rfl (.const (.slice none 0 0)) (.tmp 12) 22 rfl w.heap.size 5 Tryz.underlying22 zero_u8 (.slice none 0 0) 0 [] rfl (World.ownsRow_nil _ _ _ _) _ _ _ rd.l rfl rfl S3 h63 k3.size ?_; intro v5 w5 own5 g5))
   refine Forks.on ?_
   (try simp only [Act.put, List.setIfInBounds_toArray, List.set_cons_succ, List.set_cons_zero])
   have kx : Below wz.heap.size wz w5 := below_grown (Below.refl _ _) (Nat.le_refl _) g5 (fun q hq => by cases hq)
   have k5 := k3.trans (kx.mono k3.size)
   have C5 := C3.below kx
   have B5 := B3.below kx
   have N5 := N3.below kx
   have IN5 : In w5 v := IN3.below kx
   rw [Nat.zero_add, List.nil_append] at own5
   obtain ⟨A5, c5, rfl, S5⟩ := Sl.own own5 hbs.out
   clear own5 g5 kx C3 B3 N3 D3 IN3 S3 k3 c3
   refine Forks.acts rfl ?_
   go_wp2_with (first | (refine Cel.wpList_store_box CE rfl _ _ rfl w.heap.size rfl v C5 v rfl ?_; intro w6 C6 f6 g6 s6))
   refine Forks.on ?_
   (try simp only [Act.put])
   have B6 := One.kept B5 g6 (by omega)
   have N6 := One.kept N5 g6 (by omega)
   have IN6 : In w6 v := sli_far IN5 (no_cm C5) g6
   have S6 := sl_far S5 (no_cm C5) g6
   have k6 := k5.trans (f6 w.heap.size (Nat.le_refl _))
   clear C5 B5 N5 IN5 S5 k5 f6 g6 s6
   refine Forks.acts rfl ?_
   go_wp2_with (first | (refine wpList_store_one rfl rfl 22 _ _ rfl info_s (w.heap.size + 1) rfl _ B6 (.slice A5 rd.l.length c5) rfl rfl rfl ?_; intro w7 B7 f7 g7))
   refine Forks.on ?_
   (try simp only [Act.put, List.setIfInBounds_toArray, List.set_cons_succ, List.set_cons_zero])
   have N7 := One.kept N6 g7 (by omega)
   have C7 := C6.kept g7 (far_ne (by omega))
   have IN7 : In w7 v := sli_far IN6 (no_one B6 rfl) g7
   have S7 := sl_far S6 (no_one B6 rfl) g7
   have k7 := k6.trans (f7 w.heap.size (by omega))
   clear C6 B6 N6 IN6 S6 k6 f7 g7
   refine Forks.acts rfl ?_
   go_wp2_with (first | (refine wpList_store_one rfl rfl 32 _ _ rfl info_e (w.heap.size + 1 + 1) rfl _ N7 (.int .i64 0) rfl rfl rfl ?_; intro w8 N8 f8 g8))
   refine Forks.on ?_
   (try simp only [Act.put, List.setIfInBounds_toArray, List.set_cons_succ, List.set_cons_zero])
   have B8 := One.kept B7 g8 (by omega)
   have C8 := C7.kept g8 (far_ne (by omega))
   have IN8 : In w8 v := sli_far IN7 (no_one N7 rfl) g8
   have S8 := sl_far S7 (no_one N7 rfl) g8
   have k8 := k7.trans (f8 w.heap.size (by omega))
   clear C7 B7 N7 IN7 S7 k7 f8 g8
   refine Forks.ends (calm_in ?_)
   go_wp2_with fail
   refine leaves_cons (f := 92) (args := #[.pointer (some ⟨w.heap.size, 0, none⟩), .pointer (some ⟨(w.heap.size + 1), 0, none⟩), .pointer (some ⟨(w.heap.size + 1 + 1), 0, none⟩)]) (by simp) (by simp [go_sem]) ?_
   refine (catch_idle ⟨w.heap.size, 0, none⟩ ⟨(w.heap.size + 1), 0, none⟩ ⟨(w.heap.size + 1 + 1), 0, none⟩ _).mono ?_
   rintro e u' w9 ⟨rfl, rfl, rfl⟩
   rw [HRD.out] at B8 S8
   refine ⟨_, results_g Tryz.results54 _ _ w.heap.size (w.heap.size + 1) (w.heap.size + 1 + 1) v A5 l2.length c5 0 rfl rfl rfl C8 B8 N8, v, A5, c5, rfl, HV.out, IN8, S8, k8⟩
 · skip
   go_wp2_with fail
   refine Forks.on ?_
   (try simp only [Act.put, List.setIfInBounds_toArray, List.set_cons_succ, List.set_cons_zero])
   refine Forks.forks rfl rfl ?_ ?_
   · skip
     go_wp2_with (first | (refine Cel.wpList_load_box CE rfl _ rfl _ rfl v C3 ?_))
     refine Forks.on ?_
     (try simp only [Act.put, List.setIfInBounds_toArray, List.set_cons_succ, List.set_cons_zero])
     refine Forks.acts rfl ?_
     go_wp2_with (first | (refine wpList_append_sl rfl (.const (.slice none 0 0)) (.tmp 12) 22 rfl w.heap.size 5 Tryz.underlying22 zero_u8 (.slice none 0 0) 0 [] rfl (World.ownsRow_nil _ _ _ _) _ _ _ rd.l rfl rfl S3 h63 k3.size ?_; intro v5 w5 own5 g5))
     refine Forks.on ?_
     (try simp only [Act.put, List.setIfInBounds_toArray, List.set_cons_succ, List.set_cons_zero])
     have kx : Below wz.heap.size wz w5 := below_grown (Below.refl _ _) (Nat.le_refl _) g5 (fun q hq => by cases hq)
     have k5 := k3.trans (kx.mono k3.size)
     have C5 := C3.below kx
     have B5 := B3.below kx
     have N5 := N3.below kx
     have IN5 : In w5 v := IN3.below kx
     rw [Nat.zero_add, List.nil_append] at own5
     obtain ⟨A5, c5, rfl, S5⟩ := Sl.own own5 hbs.out
     clear own5 g5 kx C3 B3 N3 D3 IN3 S3 k3 c3
     refine Forks.acts rfl ?_
     go_wp2_with (first | (refine Cel.wpList_store_box CE rfl _ _ rfl w.heap.size rfl v C5 v rfl ?_; intro w6 C6 f6 g6 s6))
     refine Forks.on ?_
     (try simp only [Act.put])
     have B6 := One.kept B5 g6 (by omega)
     have N6 := One.kept N5 g6 (by omega)
     have IN6 : In w6 v := sli_far IN5 (no_cm C5) g6
     have S6 := sl_far S5 (no_cm C5) g6
     have k6 := k5.trans (f6 w.heap.size (Nat.le_refl _))
     clear C5 B5 N5 IN5 S5 k5 f6 g6 s6
     refine Forks.acts rfl ?_
     go_wp2_with (first | (refine wpList_store_one rfl rfl 22 _ _ rfl info_s (w.heap.size + 1) rfl _ B6 (.slice A5 rd.l.length c5) rfl rfl rfl ?_; intro w7 B7 f7 g7))
     refine Forks.on ?_
     (try simp only [Act.put, List.setIfInBounds_toArray, List.set_cons_succ, List.set_cons_zero])
     have N7 := One.kept N6 g7 (by omega)
     have C7 := C6.kept g7 (far_ne (by omega))
     have IN7 : In w7 v := sli_far IN6 (no_one B6 rfl) g7
     have S7 := sl_far S6 (no_one B6 rfl) g7
     have k7 := k6.trans (f7 w.heap.size (by omega))
     clear C6 B6 N6 IN6 S6 k6 f7 g7
     refine Forks.acts rfl ?_
     go_wp2_with (first | (refine wpList_store_one rfl rfl 32 _ _ rfl info_e (w.heap.size + 1 + 1) rfl _ N7 (.int .i64 0) rfl rfl rfl ?_; intro w8 N8 f8 g8))
     refine Forks.on ?_
     (try simp only [Act.put, List.setIfInBounds_toArray, List.set_cons_succ, List.set_cons_zero])
     have B8 := One.kept B7 g8 (by omega)
     have C8 := C7.kept g8 (far_ne (by omega))
     have IN8 : In w8 v := sli_far IN7 (no_one N7 rfl) g8
     have S8 := sl_far S7 (no_one N7 rfl) g8
     have k8 := k7.trans (f8 w.heap.size (by omega))
     clear C7 B7 N7 IN7 S7 k7 f8 g8
     refine Forks.ends (calm_in ?_)
     go_wp2_with fail
     refine leaves_cons (f := 92) (args := #[.pointer (some ⟨w.heap.size, 0, none⟩), .pointer (some ⟨(w.heap.size + 1), 0, none⟩), .pointer (some ⟨(w.heap.size + 1 + 1), 0, none⟩)]) (by simp) (by simp [go_sem]) ?_
     refine (catch_idle ⟨w.heap.size, 0, none⟩ ⟨(w.heap.size + 1), 0, none⟩ ⟨(w.heap.size + 1 + 1), 0, none⟩ _).mono ?_
     rintro e u' w9 ⟨rfl, rfl, rfl⟩
     rw [HRD.out] at B8 S8
     refine ⟨_, results_g Tryz.results54 _ _ w.heap.size (w.heap.size + 1) (w.heap.size + 1 + 1) v A5 l2.length c5 0 rfl rfl rfl C8 B8 N8, v, A5, c5, rfl, HV.out, IN8, S8, k8⟩
   · skip
     go_wp2_with (first | (refine wpList_append_sl rfl (.const (.slice none 0 0)) (.tmp 12) 22 rfl w.heap.size 5 Tryz.underlying22 zero_u8 (.slice none 0 0) 0 [] rfl (World.ownsRow_nil _ _ _ _) _ _ _ rd.l rfl rfl S3 h63 k3.size ?_; intro v5 w5 own5 g5))
     refine Forks.on ?_
     (try simp only [Act.put, List.setIfInBounds_toArray, List.set_cons_succ, List.set_cons_zero])
     have kx : Below wz.heap.size wz w5 := below_grown (Below.refl _ _) (Nat.le_refl _) g5 (fun q hq => by cases hq)
     have k5 := k3.trans (kx.mono k3.size)
     have C5 := C3.below kx
     have B5 := B3.below kx
     have N5 := N3.below kx
     have IN5 : In w5 v := IN3.below kx
     rw [Nat.zero_add, List.nil_append] at own5
     obtain ⟨A5, c5, rfl, S5⟩ := Sl.own own5 hbs.out
     clear own5 g5 kx C3 B3 N3 D3 IN3 S3 k3 c3
     refine Forks.acts rfl ?_
     go_wp2_with (first | (refine Cel.wpList_load_box CE rfl _ rfl _ rfl v C5 ?_))
     refine Forks.on ?_
     (try simp only [Act.put, List.setIfInBounds_toArray, List.set_cons_succ, List.set_cons_zero])
     refine Forks.acts rfl ?_
     go_wp2_with (first | (refine Cel.wpList_store_box CE rfl _ _ rfl w.heap.size rfl v C5 v rfl ?_; intro w6 C6 f6 g6 s6))
     refine Forks.on ?_
     (try simp only [Act.put])
     have B6 := One.kept B5 g6 (by omega)
     have N6 := One.kept N5 g6 (by omega)
     have IN6 : In w6 v := sli_far IN5 (no_cm C5) g6
     have S6 := sl_far S5 (no_cm C5) g6
     have k6 := k5.trans (f6 w.heap.size (Nat.le_refl _))
     clear C5 B5 N5 IN5 S5 k5 f6 g6 s6
     refine Forks.acts rfl ?_
     go_wp2_with (first | (refine wpList_store_one rfl rfl 22 _ _ rfl info_s (w.heap.size + 1) rfl _ B6 (.slice A5 rd.l.length c5) rfl rfl rfl ?_; intro w7 B7 f7 g7))
     refine Forks.on ?_
     (try simp only [Act.put, List.setIfInBounds_toArray, List.set_cons_succ, List.set_cons_zero])
     have N7 := One.kept N6 g7 (by omega)
     have C7 := C6.kept g7 (far_ne (by omega))
     have IN7 : In w7 v := sli_far IN6 (no_one B6 rfl) g7
     have S7 := sl_far S6 (no_one B6 rfl) g7
     have k7 := k6.trans (f7 w.heap.size (by omega))
     clear C6 B6 N6 IN6 S6 k6 f7 g7
     refine Forks.acts rfl ?_
     go_wp2_with (first | (refine wpList_store_one rfl rfl 32 _ _ rfl info_e (w.heap.size + 1 + 1) rfl _ N7 (.int .i64 0) rfl rfl rfl ?_; intro w8 N8 f8 g8))
     refine Forks.on ?_
     (try simp only [Act.put, List.setIfInBounds_toArray, List.set_cons_succ, List.set_cons_zero])
     have B8 := One.kept B7 g8 (by omega)
     have C8 := C7.kept g8 (far_ne (by omega))
     have IN8 : In w8 v := sli_far IN7 (no_one N7 rfl) g8
     have S8 := sl_far S7 (no_one N7 rfl) g8
     have k8 := k7.trans (f8 w.heap.size (by omega))
     clear C7 B7 N7 IN7 S7 k7 f8 g8
     refine Forks.ends (calm_in ?_)
     go_wp2_with fail
     refine leaves_cons (f := 92) (args := #[.pointer (some ⟨w.heap.size, 0, none⟩), .pointer (some ⟨(w.heap.size + 1), 0, none⟩), .pointer (some ⟨(w.heap.size + 1 + 1), 0, none⟩)]) (by simp) (by simp [go_sem]) ?_
     refine (catch_idle ⟨w.heap.size, 0, none⟩ ⟨(w.heap.size + 1), 0, none⟩ ⟨(w.heap.size + 1 + 1), 0, none⟩ _).mono ?_
     rintro e u' w9 ⟨rfl, rfl, rfl⟩
     rw [HRD.out] at B8 S8
     refine ⟨_, results_g Tryz.results54 _ _ w.heap.size (w.heap.size + 1) (w.heap.size + 1 + 1) v A5 l2.length c5 0 rfl rfl rfl C8 B8 N8, v, A5, c5, rfl, HV.out, IN8, S8, k8⟩
theorem get_ret (A : Option Addr) (cap : Nat) (bs : List Int) (w : World) (S : Sl w A cap bs) (hl : bs.length ≤ 1099511627776) :
   Calls Tryz.prog 54 #[.slice A bs.length cap] w (GetAll (getK bs) w) := by
 cases hq : getK bs with
 | none => rw [← hq]; exact get_no A cap bs w S hl hq
 | some p => rw [← hq]; exact get_yes A cap bs w S hl p.1 p.2 hq
end Go.Proofs.YtgoapaanmcmlmaaGreatDoor.CmI
