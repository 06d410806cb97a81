/- Plain facts on states: which may be, behind an operation, merged. No condition. -/
import Derived.Test.YtnjdkjkihbgkaaaGreatCtrLJ2
import Derived.Test.YtnjdkjkihbgkaaaGreatRegL
import Derived.Test.YtnjdkjkihbgkaaaGreatPairNJ2
import Derived.Test.YtnjdkjkihbgkaaaGreatGrowJ4
namespace Go.Proofs.YtnjdkjkihbgkaaaGreat.StM
set_option maxRecDepth 100000
open Go Byt OpsM Rise

/-- What keys count, have, and have more than one of. -/
structure St where
  c : List CtrM.Cn
  r : List RegM.Rg
  p : List PairM.Pr
theorem St_ext {x y : St} (h1 : x.c = y.c) (h2 : x.r = y.r) (h3 : x.p = y.p) : x = y := by
  cases x; cases y
  simp_all
def noS : St := ⟨[], [], []⟩
def mayS (s : St) : Bool := CtrM.mayC s.c && (RegM.mayR s.r && PairM.mayP s.p)
theorem mayS_iff {s : St} : mayS s = true ↔ CtrM.mayC s.c = true ∧ RegM.mayR s.r = true ∧ PairM.mayP s.p = true := by
  unfold mayS
  rw [Bool.and_eq_true, Bool.and_eq_true]
/-- Which events may be. -/
def eventB (n q : Int) : Bool := decide (0 ≤ n) && (decide (n < 8) && (decide (1 ≤ q) && decide (q ≤ 1048576)))
theorem eventB_iff {n q : Int} : eventB n q = true ↔ (0 ≤ n ∧ n < 8) ∧ 1 ≤ q ∧ q ≤ 1048576 := by
  unfold eventB
  simp only [Bool.and_eq_true, decide_eq_true_eq]
  omega
def regO (o : Opn) (n q g : Int) : RegM.Rg := ⟨o.key, o.elem, g, n, q⟩
def pairO (o : Opn) (n q : Int) : PairM.Pr := ⟨o.key, o.elem, n, q⟩
/-- A state behind an operation of an event, of a generation. -/
def stepS (s : St) (o : Opn) (n q g : Int) : St :=
  if o.kind = 0 then ⟨CtrM.incC s.c o.key o.n, s.r, s.p⟩ else if o.kind = 1 then ⟨s.c, RegL.putR s.r (regO o n q g), s.p⟩ else if o.kind = 2 then ⟨s.c, s.r, PairM.addP s.p (pairO o n q)⟩ else ⟨s.c, s.r, PairM.delP s.p o.key o.elem⟩
def okD (s : St) (o : Opn) (n q g : Int) : Bool := mayS s && (mayO o && (eventB n q && decide (1 ≤ g)))
theorem okD_iff {s : St} {o : Opn} {n q g : Int} : okD s o n q g = true ↔ mayS s = true ∧ mayO o = true ∧ eventB n q = true ∧ 1 ≤ g := by
  unfold okD
  simp only [Bool.and_eq_true, decide_eq_true_eq]
def doS (s : St) (o : Opn) (n q g : Int) : Option St := if okD s o n q g = true then some (stepS s o n q g) else none
def okM (base a b : St) : Bool := mayS base && (mayS a && mayS b)
theorem okM_iff {base a b : St} : okM base a b = true ↔ mayS base = true ∧ mayS a = true ∧ mayS b = true := by
  unfold okM
  simp only [Bool.and_eq_true]
def joinS (base a b : St) : St := ⟨CtrM.mergeC base.c a.c b.c, RegL.mergeR a.r b.r, PairM.mergeP base.p a.p b.p⟩
def mergeS (base a b : St) : Option St := if okM base a b = true then some (joinS base a b) else none

theorem key_may {o : Opn} (h : mayO o = true) : keyL (bytesL o.key) = true := (mayO_kind h).1
theorem elem_may {o : Opn} (h : mayO o = true) (hk : o.kind = 1 ∨ o.kind = 2 ∨ o.kind = 3) : keyL (bytesL o.elem) = true := by
  rcases (mayO_kind h).2 with ⟨h0, _⟩ | ⟨_, h1⟩
  · omega
  · unfold elemB at h1
    rw [Bool.and_eq_true] at h1
    exact h1.1
theorem kind_may {o : Opn} (h : mayO o = true) : o.kind = 0 ∨ o.kind = 1 ∨ o.kind = 2 ∨ o.kind = 3 := by
  rcases (mayO_kind h).2 with ⟨h0, _⟩ | ⟨h1, _⟩
  · exact .inl h0
  · exact .inr h1
theorem reg_may {o : Opn} {n q g : Int} (h : mayO o = true) (hk : o.kind = 1) (he : eventB n q = true) (hg : 1 ≤ g) : RegM.oneR (regO o n q g) = true := by
  have h1 := key_may h
  have h2 := elem_may h (.inl hk)
  obtain ⟨⟨e1, e2⟩, e3, e4⟩ := eventB_iff.1 he
  unfold RegM.oneR regO
  simp only [Bool.and_eq_true, decide_eq_true_eq]
  exact ⟨h1, h2, by omega, by omega, by omega, by omega⟩
theorem pair_may {o : Opn} {n q : Int} (h : mayO o = true) (hk : o.kind = 2) (he : eventB n q = true) : PairM.oneP (pairO o n q) = true := by
  have h1 := key_may h
  have h2 := elem_may h (.inr (.inl hk))
  obtain ⟨⟨e1, e2⟩, e3, e4⟩ := eventB_iff.1 he
  unfold PairM.oneP pairO
  simp only [Bool.and_eq_true, decide_eq_true_eq]
  exact ⟨h1, h2, e1, e2, e3⟩
theorem step_may {s : St} {o : Opn} {n q g : Int} (h : okD s o n q g = true) : mayS (stepS s o n q g) = true := by
  obtain ⟨h1, h2, h3, h4⟩ := okD_iff.1 h
  obtain ⟨m1, m2, m3⟩ := mayS_iff.1 h1
  unfold stepS
  split
  · exact mayS_iff.2 ⟨CtrL.inc_may _ m1 (key_may h2), m2, m3⟩
  · split
    · exact mayS_iff.2 ⟨m1, RegL.put_may _ _, m3⟩
    · split
      · exact mayS_iff.2 ⟨m1, m2, PairM.add_may _ _⟩
      · exact mayS_iff.2 ⟨m1, m2, PairM.del_may _ _ _⟩
section
variable {base a b c : St}
theorem join_may (h0 : mayS base = true) (h1 : mayS a = true) (h2 : mayS b = true) : mayS (joinS base a b) = true := by
  obtain ⟨p1, p2, p3⟩ := mayS_iff.1 h0
  obtain ⟨q1, q2, q3⟩ := mayS_iff.1 h1
  obtain ⟨r1, r2, r3⟩ := mayS_iff.1 h2
  exact mayS_iff.2 ⟨CtrL.merge_may p1 q1 r1, RegL.merge_may _ _, PairM.merge_may p3 q3 r3⟩
theorem join_turn (h0 : mayS base = true) (h1 : mayS a = true) (h2 : mayS b = true) : joinS base a b = joinS base b a := by
  obtain ⟨p1, p2, p3⟩ := mayS_iff.1 h0
  obtain ⟨q1, q2, q3⟩ := mayS_iff.1 h1
  obtain ⟨r1, r2, r3⟩ := mayS_iff.1 h2
  exact St_ext (CtrL.merge_turn p1 q1 r1) (RegL.merge_turn q2 r2) (PairM.merge_turn p3 q3 r3)
theorem join_one (h0 : mayS base = true) (h2 : mayS b = true) (hb : CtrL.InL b.c) : (joinS base base b).c = b.c ∧ (joinS base base b).p = b.p := by
  obtain ⟨p1, p2, p3⟩ := mayS_iff.1 h0
  obtain ⟨r1, r2, r3⟩ := mayS_iff.1 h2
  exact ⟨CtrL.merge_one p1 r1 hb, PairM.merge_one p3 r3⟩
theorem join_self (h : mayS a = true) (hb : CtrL.InL a.c) : joinS a a a = a := by
  obtain ⟨p1, p2, p3⟩ := mayS_iff.1 h
  exact St_ext (CtrL.merge_one p1 p1 hb) (RegL.merge_self p2) (PairM.merge_self p3 p3)
theorem join_three (h0 : mayS base = true) (h1 : mayS a = true) (h2 : mayS b = true) (h3 : mayS c = true) : joinS base (joinS base a b) c = joinS base a (joinS base b c) := by
  obtain ⟨p1, p2, p3⟩ := mayS_iff.1 h0
  obtain ⟨q1, q2, q3⟩ := mayS_iff.1 h1
  obtain ⟨r1, r2, r3⟩ := mayS_iff.1 h2
  obtain ⟨t1, t2, t3⟩ := mayS_iff.1 h3
  exact St_ext (CtrL.merge_three p1 q1 r1 t1) (RegL.merge_three q2 r2 t2) (PairM.merge_three p3 q3 r3 t3)
end
/-- An operation leaves all other keys as they were. -/
theorem step_else {s : St} {o : Opn} {n q g : Int} (h : okD s o n q g = true) {k : ByteArray} (hk : k ≠ o.key) :
    CtrM.getC (stepS s o n q g).c k = CtrM.getC s.c k ∧ RegM.getR (stepS s o n q g).r k = RegM.getR s.r k ∧ PairN.elemsP (stepS s o n q g).p k = PairN.elemsP s.p k := by
  obtain ⟨h1, h2, h3, h4⟩ := okD_iff.1 h
  obtain ⟨m1, m2, m3⟩ := mayS_iff.1 h1
  unfold stepS
  split
  · refine ⟨?_, rfl, rfl⟩
    show CtrM.getC (CtrM.incC s.c o.key o.n) k = _
    rw [CtrL.inc_get _ m1 (key_may h2), if_neg hk]
  · split
    · rename_i h01
      exact ⟨rfl, RegL.put_else m2 (reg_may h2 h01 h3 h4) hk, rfl⟩
    · split
      · rename_i h02
        refine ⟨rfl, rfl, ?_⟩
        have hp := pair_may h2 h02 h3
        refine Rises.ext strictS (PairN.elems_rises (PairM.add_may _ _) k) (PairN.elems_rises m3 k) (fun e => ?_)
        rw [PairN.elems_mem (PairM.add_may _ _), PairN.elems_mem m3]
        constructor
        · rintro ⟨x, hx, a, b⟩
          rcases (PairM.add_mem m3 hp x).1 hx with rfl | hx
          · exact absurd a.symm hk
          · exact ⟨x, hx, a, b⟩
        · rintro ⟨x, hx, a, b⟩
          exact ⟨x, (PairM.add_mem m3 hp x).2 (.inr hx), a, b⟩
      · refine ⟨rfl, rfl, ?_⟩
        refine Rises.ext strictS (PairN.elems_rises (PairM.del_may _ _ _) k) (PairN.elems_rises m3 k) (fun e => ?_)
        rw [PairN.elems_mem (PairM.del_may _ _ _), PairN.elems_mem m3]
        constructor
        · rintro ⟨x, hx, a, b⟩
          exact ⟨x, ((PairM.del_mem m3 x).1 hx).1, a, b⟩
        · rintro ⟨x, hx, a, b⟩
          exact ⟨x, (PairM.del_mem m3 x).2 ⟨hx, fun q => hk (a.symm.trans q.1)⟩, a, b⟩
theorem inc_both {l : List CtrM.Cn} {k m : ByteArray} (i j : Int) (h : CtrM.mayC l = true) (hk : keyL (bytesL k) = true) (hm : keyL (bytesL m) = true) (hb : CtrL.InL l) : CtrM.mergeC l (CtrM.incC l k i) (CtrM.incC l m j) = CtrM.incC (CtrM.incC l k i) m j := by
  refine (CtrL.merge_is h (CtrL.inc_may i h hk) (CtrL.inc_may j h hm) (CtrL.inc_may j (CtrL.inc_may i h hk) hm) (fun z => ?_)).symm
  unfold CtrM.sumC
  rw [CtrL.inc_get j (CtrL.inc_may i h hk) hm, CtrL.inc_get i h hk, CtrL.inc_get i h hk, CtrL.inc_get j h hm]
  have q := CtrL.getC_in hb
  have qz := q z
  have qk := q k
  have qm := q m
  unfold CtrL.In64 at qz qk qm
  simp only [CtrM.w64_eq]
  by_cases h1 : z = m
  · subst h1
    by_cases h2 : z = k
    · subst h2
      simp only [if_pos]
      omega
    · rw [if_pos rfl, if_neg h2, if_pos rfl]
      omega
  · by_cases h2 : z = k
    · subst h2
      rw [if_neg h1, if_pos rfl, if_neg h1]
      omega
    · rw [if_neg h1, if_neg h2, if_neg h1]
      omega
theorem inc_side {l m : List CtrM.Cn} (h : CtrM.mayC l = true) (hm : CtrM.mayC m = true) (hb : CtrL.InL m) : CtrM.mergeC l m l = m := by rw [CtrL.merge_turn h hm h, CtrL.merge_one h hm hb]
theorem add_both {l : List PairM.Pr} {x y : PairM.Pr} (h : PairM.mayP l = true) (hx : PairM.oneP x = true) (hy : PairM.oneP y = true) (nx : x ∉ l) (ny : y ∉ l) : PairM.mergeP l (PairM.addP l x) (PairM.addP l y) = PairM.addP (PairM.addP l x) y := by
  refine (PairM.merge_is h (PairM.add_may _ _) (PairM.add_may _ _) (PairM.ris (PairM.add_may _ _)) (fun z => ?_)).symm
  unfold PairM.inM
  rw [PairM.add_mem (PairM.add_may _ _) hy, PairM.add_mem h hx, PairM.add_mem h hy]
  by_cases h1 : z = x
  · subst h1
    by_cases h2 : z = y <;> simp [h2, nx]
  · by_cases h2 : z = y
    · subst h2
      simp [h1, ny]
    · by_cases h3 : z ∈ l <;> simp [h1, h2, h3]
theorem add_side {l m : List PairM.Pr} (h : PairM.mayP l = true) (hm : PairM.mayP m = true) : PairM.mergeP l m l = m := by rw [PairM.merge_turn h hm h, PairM.merge_one h hm]
/-- Two operations on either side, of two events that the state has not, neither of which takes away: as one behind the other. -/
theorem both {s : St} {o p : Opn} {n q n' q' g : Int} (h : okD s o n q g = true) (h' : okD s p n' q' g = true) (hb : CtrL.InL s.c) (ho : o.kind ≠ 3) (hp : p.kind ≠ 3) (h1 : ∀ x ∈ s.p, ¬ (x.node = n ∧ x.seq = q)) (h2 : ∀ x ∈ s.p, ¬ (x.node = n' ∧ x.seq = q')) :
    joinS s (stepS s o n q g) (stepS s p n' q' g) = stepS (stepS s o n q g) p n' q' g := by
  obtain ⟨i1, i2, i3, i4⟩ := okD_iff.1 h
  obtain ⟨j1, j2, j3, j4⟩ := okD_iff.1 h'
  obtain ⟨m1, m2, m3⟩ := mayS_iff.1 i1
  have a1 : CtrM.mergeC s.c s.c s.c = s.c := CtrL.merge_one m1 m1 hb
  have a2 : RegL.mergeR s.r s.r = s.r := RegL.merge_self m2
  have a3 : PairM.mergeP s.p s.p s.p = s.p := PairM.merge_self m3 m3
  have nx : pairO o n q ∉ s.p := fun e => h1 _ e ⟨rfl, rfl⟩
  have ny : pairO p n' q' ∉ s.p := fun e => h2 _ e ⟨rfl, rfl⟩
  rcases kind_may i2 with ko | ko | ko | ko
  · have c1 := CtrL.inc_may o.n m1 (key_may i2)
    have c2 := CtrL.inc_in o.key o.n hb
    rcases kind_may j2 with kp | kp | kp | kp
    · simp only [joinS, stepS, ko, kp, if_pos]
      exact St_ext (inc_both _ _ m1 (key_may i2) (key_may j2) hb) a2 a3
    · simp only [joinS, stepS, ko, kp, if_pos]
      exact St_ext (inc_side m1 c1 c2) (RegL.old_right m2 (reg_may j2 kp j3 j4)) a3
    · simp only [joinS, stepS, ko, kp, if_pos]
      exact St_ext (inc_side m1 c1 c2) a2 (PairM.merge_one m3 (PairM.add_may _ _))
    · exact absurd kp hp
  · have r1 := reg_may i2 ko i3 i4
    rcases kind_may j2 with kp | kp | kp | kp
    · simp only [joinS, stepS, ko, kp, if_pos]
      exact St_ext (CtrL.merge_one m1 (CtrL.inc_may p.n m1 (key_may j2)) (CtrL.inc_in p.key p.n hb)) (RegL.old_left m2 r1) a3
    · simp only [joinS, stepS, ko, kp, if_pos]
      exact St_ext a1 (RegL.old_both m2 r1 (reg_may j2 kp j3 j4)) a3
    · simp only [joinS, stepS, ko, kp, if_pos]
      exact St_ext a1 (RegL.old_left m2 r1) (PairM.merge_one m3 (PairM.add_may _ _))
    · exact absurd kp hp
  · rcases kind_may j2 with kp | kp | kp | kp
    · simp only [joinS, stepS, ko, kp, if_pos]
      exact St_ext (CtrL.merge_one m1 (CtrL.inc_may p.n m1 (key_may j2)) (CtrL.inc_in p.key p.n hb)) a2 (add_side m3 (PairM.add_may _ _))
    · simp only [joinS, stepS, ko, kp, if_pos]
      exact St_ext a1 (RegL.old_right m2 (reg_may j2 kp j3 j4)) (add_side m3 (PairM.add_may _ _))
    · simp only [joinS, stepS, ko, kp, if_pos]
      exact St_ext a1 a2 (add_both m3 (pair_may i2 ko i3) (pair_may j2 kp j3) nx ny)
    · exact absurd kp hp
  · exact absurd ko ho
end Go.Proofs.YtnjdkjkihbgkaaaGreat.StM
