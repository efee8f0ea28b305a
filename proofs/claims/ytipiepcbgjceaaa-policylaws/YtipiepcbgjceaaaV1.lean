/- The steps of PolicyLaws' region, each by what it waits for: loads, rows of policies, sums and sequences, policies that are alike. -/
import Derived.Test.YtipiepcbgjceaaaJ6
import Derived.Test.YtipiepcbgjceaaaQE
import Derived.Test.YtipiepcbgjceaaaOQ
set_option linter.unusedVariables false
set_option linter.unusedSimpArgs false
namespace Go.Proofs.Ytipiepcbgjceaaa
open Go.RowKit Go.Joins Go.Sort

theorem lit4 {w : World} {a b c d : Pl} {x y z u : Nd} (op : Int) (ha : PolAt All w a x) (hb : PolAt All w b y) (hc : PolAt All w c z) (hd : PolAt All w d u) :
    PolAt All (w.alloc (.cells #[.int .i64 x.op, .int .i64 x.f, .int .u16 x.n, x.kv, .int .i64 y.op, .int .i64 y.f, .int .u16 y.n, y.kv, .int .i64 z.op, .int .i64 z.f, .int .u16 z.n, z.kv, .int .i64 u.op, .int .i64 u.f, .int .u16 u.n, u.kv] 30)) (.mk op 0 0 [a, b, c, d]) ⟨op, 0, 0, .slice (some ⟨w.heap.size, 0, none⟩) 4 4⟩ := by
  have hbl : Below w.heap.size w (w.alloc (.cells #[.int .i64 x.op, .int .i64 x.f, .int .u16 x.n, x.kv, .int .i64 y.op, .int .i64 y.f, .int .u16 y.n, y.kv, .int .i64 z.op, .int .i64 z.f, .int .u16 z.n, z.kv, .int .i64 u.op, .int .i64 u.f, .int .u16 u.n, u.kv] 30)) := (Below.refl _ w).alloc (Nat.le_refl _) _
  have hr := heap_alloc_new w (.cells #[.int .i64 x.op, .int .i64 x.f, .int .u16 x.n, x.kv, .int .i64 y.op, .int .i64 y.f, .int .u16 y.n, y.kv, .int .i64 z.op, .int .i64 z.f, .int .u16 z.n, z.kv, .int .i64 u.op, .int .i64 u.f, .int .u16 u.n, u.kv] 30)
  have ho : (w.alloc (.cells #[.int .i64 x.op, .int .i64 x.f, .int .u16 x.n, x.kv, .int .i64 y.op, .int .i64 y.f, .int .u16 y.n, y.kv, .int .i64 z.op, .int .i64 z.f, .int .u16 z.n, z.kv, .int .i64 u.op, .int .i64 u.f, .int .u16 u.n, u.kv] 30)).ownsRow 0 30 4 (.slice (some ⟨w.heap.size, 0, none⟩) 4 4) [x, y, z, u].length (flat4 [x, y, z, u]) :=
    ⟨rfl, .inr ⟨w.heap.size, 4, _, rfl, Nat.zero_le _, hr, Nat.le_refl _, by decide, rfl, rfl⟩⟩
  exact pol_of_own op 0 0 ho ((((PolsAt.one (ha.below hbl)).snoc (hb.below hbl)).snoc (hc.below hbl)).snoc (hd.below hbl)) (fun _ _ _ => trivial) fun _ _ => trivial
theorem lit5 {w : World} {a b c d e : Pl} {x y z u s : Nd} (op : Int) (ha : PolAt All w a x) (hb : PolAt All w b y) (hc : PolAt All w c z) (hd : PolAt All w d u) (he : PolAt All w e s) :
    PolAt All (w.alloc (.cells #[.int .i64 x.op, .int .i64 x.f, .int .u16 x.n, x.kv, .int .i64 y.op, .int .i64 y.f, .int .u16 y.n, y.kv, .int .i64 z.op, .int .i64 z.f, .int .u16 z.n, z.kv, .int .i64 u.op, .int .i64 u.f, .int .u16 u.n, u.kv, .int .i64 s.op, .int .i64 s.f, .int .u16 s.n, s.kv] 30)) (.mk op 0 0 [a, b, c, d, e]) ⟨op, 0, 0, .slice (some ⟨w.heap.size, 0, none⟩) 5 5⟩ := by
  have hbl : Below w.heap.size w (w.alloc (.cells #[.int .i64 x.op, .int .i64 x.f, .int .u16 x.n, x.kv, .int .i64 y.op, .int .i64 y.f, .int .u16 y.n, y.kv, .int .i64 z.op, .int .i64 z.f, .int .u16 z.n, z.kv, .int .i64 u.op, .int .i64 u.f, .int .u16 u.n, u.kv, .int .i64 s.op, .int .i64 s.f, .int .u16 s.n, s.kv] 30)) := (Below.refl _ w).alloc (Nat.le_refl _) _
  have hr := heap_alloc_new w (.cells #[.int .i64 x.op, .int .i64 x.f, .int .u16 x.n, x.kv, .int .i64 y.op, .int .i64 y.f, .int .u16 y.n, y.kv, .int .i64 z.op, .int .i64 z.f, .int .u16 z.n, z.kv, .int .i64 u.op, .int .i64 u.f, .int .u16 u.n, u.kv, .int .i64 s.op, .int .i64 s.f, .int .u16 s.n, s.kv] 30)
  have ho : (w.alloc (.cells #[.int .i64 x.op, .int .i64 x.f, .int .u16 x.n, x.kv, .int .i64 y.op, .int .i64 y.f, .int .u16 y.n, y.kv, .int .i64 z.op, .int .i64 z.f, .int .u16 z.n, z.kv, .int .i64 u.op, .int .i64 u.f, .int .u16 u.n, u.kv, .int .i64 s.op, .int .i64 s.f, .int .u16 s.n, s.kv] 30)).ownsRow 0 30 4 (.slice (some ⟨w.heap.size, 0, none⟩) 5 5) [x, y, z, u, s].length (flat4 [x, y, z, u, s]) :=
    ⟨rfl, .inr ⟨w.heap.size, 5, _, rfl, Nat.zero_le _, hr, Nat.le_refl _, by decide, rfl, rfl⟩⟩
  exact pol_of_own op 0 0 ho (((((PolsAt.one (ha.below hbl)).snoc (hb.below hbl)).snoc (hc.below hbl)).snoc (hd.below hbl)).snoc (he.below hbl)) (fun _ _ _ => trivial) fun _ _ => trivial

/-- A policy that is well formed, no greater than this. -/
structure PolOK (n d : Nat) (T : Pl) : Prop where
  form : formP 4 T = true
  size : sizeP T ≤ n
  depth : depthP T ≤ d
  ok : okN T
theorem PolOK.sum2 {n d m e : Nat} {a b : Pl} (h : PolOK n d a) (k : PolOK m e b) : PolOK (n + m + 1) (max d e + 1) (sumP [a, b]) := by
  obtain ⟨h2, h3, h4, h5⟩ := h
  obtain ⟨k2, k3, k4, k5⟩ := k
  unfold sumP
  refine ⟨?_, ?_, ?_, ?_⟩
  · simp [formP_eq, formP.formL, nodeB, h2, k2]
  · rw [sizeP_mk]; simp [sizeP.sizeL]; omega
  · rw [depthP_mk]; simp [depthP.depthL]; omega
  · rw [okN]; simp [okN.okL, h5, k5]
theorem PolOK.seq2 {n d m e : Nat} {a b : Pl} (h : PolOK n d a) (k : PolOK m e b) : PolOK (n + m + 1) (max d e + 1) (seqP [a, b]) := by
  obtain ⟨h2, h3, h4, h5⟩ := h
  obtain ⟨k2, k3, k4, k5⟩ := k
  unfold seqP
  refine ⟨?_, ?_, ?_, ?_⟩
  · simp [formP_eq, formP.formL, nodeB, h2, k2]
  · rw [sizeP_mk]; simp [sizeP.sizeL]; omega
  · rw [depthP_mk]; simp [depthP.depthL]; omega
  · rw [okN]; simp [okN.okL, h5, k5]
theorem PolOK.sum3 {n d m e l f : Nat} {a b c : Pl} (h : PolOK n d a) (k : PolOK m e b) (j : PolOK l f c) : PolOK (n + m + l + 1) (max d (max e f) + 1) (sumP [a, b, c]) := by
  obtain ⟨h2, h3, h4, h5⟩ := h
  obtain ⟨k2, k3, k4, k5⟩ := k
  obtain ⟨j2, j3, j4, j5⟩ := j
  unfold sumP
  refine ⟨?_, ?_, ?_, ?_⟩
  · simp [formP_eq, formP.formL, nodeB, h2, k2, j2]
  · rw [sizeP_mk]; simp [sizeP.sizeL]; omega
  · rw [depthP_mk]; simp [depthP.depthL]; omega
  · rw [okN]; simp [okN.okL, h5, k5, j5]
theorem PolOK.seq3 {n d m e l f : Nat} {a b c : Pl} (h : PolOK n d a) (k : PolOK m e b) (j : PolOK l f c) : PolOK (n + m + l + 1) (max d (max e f) + 1) (seqP [a, b, c]) := by
  obtain ⟨h2, h3, h4, h5⟩ := h
  obtain ⟨k2, k3, k4, k5⟩ := k
  obtain ⟨j2, j3, j4, j5⟩ := j
  unfold seqP
  refine ⟨?_, ?_, ?_, ?_⟩
  · simp [formP_eq, formP.formL, nodeB, h2, k2, j2]
  · rw [sizeP_mk]; simp [sizeP.sizeL]; omega
  · rw [depthP_mk]; simp [depthP.depthL]; omega
  · rw [okN]; simp [okN.okL, h5, k5, j5]
theorem ok_id : PolOK 1 1 idP := ⟨prd_id.form, prd_id.size, prd_id.depth, prd_id.ok⟩
theorem ok_drop : PolOK 1 1 nonePl := ⟨prd_drop.form, prd_drop.size, prd_drop.depth, prd_drop.ok⟩
theorem PolOK.fit {n d : Nat} {T : Pl} (h : PolOK n d T) (st : List Nat) (hn : n ≤ 300) (hd : d ≤ 20) : FitA st T :=
  ⟨by have := h.size; omega, h.ok, (okT_iff T).2 ⟨by have := h.size; omega, by have := h.depth; omega, h.form⟩, .inr fun B G => many_any B G⟩
theorem fit_pol {T : Pl} (h : fitB T = true) (ho : okN T) : PolOK 40 12 T := by
  unfold fitB at h
  simp only [Bool.and_eq_true, decide_eq_true_eq] at h
  exact ⟨((okT_iff T).1 h.1).2.2, h.2.1, h.2.2, ho⟩
theorem chain4 {st : List Nat} {q : P8} {a b c d : Pl} (h : Agree st q a b) (k : Agree st q b c) (l : Agree st q c d) : Chain st q [a, b, c, d] := fun i hi => by
  match i, hi with
  | 0, _ => exact h
  | 1, _ => exact k
  | 2, _ => exact l
theorem chain5 {st : List Nat} {q : P8} {a b c d e : Pl} (h : Agree st q a b) (k : Agree st q b c) (l : Agree st q c d) (m : Agree st q d e) : Chain st q [a, b, c, d, e] := fun i hi => by
  match i, hi with
  | 0, _ => exact h
  | 1, _ => exact k
  | 2, _ => exact l
  | 3, _ => exact m

section
variable {ops : Array Oper} {Q : Exit → Act → World → Prop} {B : World → Prop} {F : Nat → Value → World → Prop} {a0 : Act} {i : Nat} {o : Oper}
theorem st_make (f : Nat) (hrun : ∀ x w, (callFunc f #[x]).run Try.prog w = .ok (.enter f #[x]) w) (op : Int) (s : Nat) (ps : List Pl) (hfc : ∀ (sa : Option Addr) (n cc : Nat) (w : World), Calls Try.prog f #[.slice sa n cc] w fun e w' => e = .returned (nv ⟨op, 0, 0, .slice sa n cc⟩) ∧ Below w.heap.size w w')
    (c : Nat) (hc : o.dst = some c) (hi : ops[i]? = some o)
    (hg : ∀ a w, Old ops a0 a → (∀ t, waitsB .any ops o t = true → Slot F a w t) → Region.wanted o (yielded ops a.tmps) = true)
    (ho : o.op = .call { callee := .value (.func f), args := #[.tmp s], argTypes := #[28] }) (hs : waitsB .any ops o s = true) (hFs : ∀ v w, F s v w → (kL ps).holds v w)
    (hF : ∀ v w, (kP (.mk op 0 0 ps)).holds v w → F c v w) : StepAt Try.prog .any ops Q B Gr F a0 i o := by
  refine step_call f hi hg fun a w hb hold hd => ?_
  obtain ⟨v, e, h⟩ := (hd s hs).eval
  obtain ⟨sa, n, cc, rfl, hl⟩ := hFs v w h
  refine ⟨#[.slice sa n cc], ?_, ?_⟩
  · have e' : a.tmps[s]?.getD undef = .slice sa n cc := by rw [← e]; unfold Act.eval; simp
    have hr := hrun (.slice sa n cc) w
    simp only [execOp, ho]
    go_simp
  · refine (hfc sa n cc w).mono ?_
    rintro e w' ⟨rfl, hb'⟩
    have hl' : PolAt All w' (.mk op 0 0 ps) ⟨op, 0, 0, .slice sa n cc⟩ := reopP op (hl.below hb')
    exact ⟨_, rfl, hb', dst_is hc (hF _ _ ⟨_, rfl, hl'⟩)⟩
theorem st_build2 (s0 s1 : Nat) (t0 t1 : Pl) (c : Nat) (hc : o.dst = some c) (hi : ops[i]? = some o)
    (hg : ∀ a w, Old ops a0 a → (∀ t, waitsB .any ops o t = true → Slot F a w t) → Region.wanted o (yielded ops a.tmps) = true)
    (ho : o.op = .buildSlice 28 2 #[(0, .tmp s0), (1, .tmp s1)]) (hs0 : waitsB .any ops o s0 = true) (hs1 : waitsB .any ops o s1 = true) (hF0 : ∀ v w, F s0 v w → (kP t0).holds v w) (hF1 : ∀ v w, F s1 v w → (kP t1).holds v w)
    (hF : ∀ v w, (kL [t0, t1]).holds v w → F c v w) : StepAt Try.prog .any ops Q B Gr F a0 i o := by
  refine step_value hi hg fun a w hb hold hd => ?_
  obtain ⟨v0, e0, f0⟩ := (hd s0 hs0).eval
  obtain ⟨⟨o0, g0, n0, k0⟩, rfl, p0⟩ := hF0 _ _ f0
  obtain ⟨-, -, -, sa0, sc0, q0⟩ := p0.shape
  dsimp only at q0
  subst q0
  obtain ⟨v1, e1, f1⟩ := (hd s1 hs1).eval
  obtain ⟨⟨o1, g1, n1, k1⟩, rfl, p1⟩ := hF1 _ _ f1
  obtain ⟨-, -, -, sa1, sc1, q1⟩ := p1.shape
  dsimp only at q1
  subst q1
  refine ⟨_, _, ?_, (Below.refl _ w).alloc (Nat.le_refl _) _, dst_is hc (hF _ _ ⟨_, _, _, rfl, lit2 7 p0 p1⟩)⟩
  clear f0 p0 f1 p1
  replace e0 : a.tmps[s0]?.getD undef = _ := (by unfold Act.eval; simp : a.tmps[s0]?.getD undef = a.eval (.tmp s0)).trans e0
  replace e1 : a.tmps[s1]?.getD undef = _ := (by unfold Act.eval; simp : a.tmps[s1]?.getD undef = a.eval (.tmp s1)).trans e1
  simp only [execOp, ho]
  go_simp
theorem st_build3 (s0 s1 s2 : Nat) (t0 t1 t2 : Pl) (c : Nat) (hc : o.dst = some c) (hi : ops[i]? = some o)
    (hg : ∀ a w, Old ops a0 a → (∀ t, waitsB .any ops o t = true → Slot F a w t) → Region.wanted o (yielded ops a.tmps) = true)
    (ho : o.op = .buildSlice 28 3 #[(0, .tmp s0), (1, .tmp s1), (2, .tmp s2)]) (hs0 : waitsB .any ops o s0 = true) (hs1 : waitsB .any ops o s1 = true) (hs2 : waitsB .any ops o s2 = true) (hF0 : ∀ v w, F s0 v w → (kP t0).holds v w) (hF1 : ∀ v w, F s1 v w → (kP t1).holds v w) (hF2 : ∀ v w, F s2 v w → (kP t2).holds v w)
    (hF : ∀ v w, (kL [t0, t1, t2]).holds v w → F c v w) : StepAt Try.prog .any ops Q B Gr F a0 i o := by
  refine step_value hi hg fun a w hb hold hd => ?_
  obtain ⟨v0, e0, f0⟩ := (hd s0 hs0).eval
  obtain ⟨⟨o0, g0, n0, k0⟩, rfl, p0⟩ := hF0 _ _ f0
  obtain ⟨-, -, -, sa0, sc0, q0⟩ := p0.shape
  dsimp only at q0
  subst q0
  obtain ⟨v1, e1, f1⟩ := (hd s1 hs1).eval
  obtain ⟨⟨o1, g1, n1, k1⟩, rfl, p1⟩ := hF1 _ _ f1
  obtain ⟨-, -, -, sa1, sc1, q1⟩ := p1.shape
  dsimp only at q1
  subst q1
  obtain ⟨v2, e2, f2⟩ := (hd s2 hs2).eval
  obtain ⟨⟨o2, g2, n2, k2⟩, rfl, p2⟩ := hF2 _ _ f2
  obtain ⟨-, -, -, sa2, sc2, q2⟩ := p2.shape
  dsimp only at q2
  subst q2
  refine ⟨_, _, ?_, (Below.refl _ w).alloc (Nat.le_refl _) _, dst_is hc (hF _ _ ⟨_, _, _, rfl, lit3 7 p0 p1 p2⟩)⟩
  clear f0 p0 f1 p1 f2 p2
  replace e0 : a.tmps[s0]?.getD undef = _ := (by unfold Act.eval; simp : a.tmps[s0]?.getD undef = a.eval (.tmp s0)).trans e0
  replace e1 : a.tmps[s1]?.getD undef = _ := (by unfold Act.eval; simp : a.tmps[s1]?.getD undef = a.eval (.tmp s1)).trans e1
  replace e2 : a.tmps[s2]?.getD undef = _ := (by unfold Act.eval; simp : a.tmps[s2]?.getD undef = a.eval (.tmp s2)).trans e2
  simp only [execOp, ho]
  go_simp
theorem st_build4 (s0 s1 s2 s3 : Nat) (t0 t1 t2 t3 : Pl) (c : Nat) (hc : o.dst = some c) (hi : ops[i]? = some o)
    (hg : ∀ a w, Old ops a0 a → (∀ t, waitsB .any ops o t = true → Slot F a w t) → Region.wanted o (yielded ops a.tmps) = true)
    (ho : o.op = .buildSlice 28 4 #[(0, .tmp s0), (1, .tmp s1), (2, .tmp s2), (3, .tmp s3)]) (hs0 : waitsB .any ops o s0 = true) (hs1 : waitsB .any ops o s1 = true) (hs2 : waitsB .any ops o s2 = true) (hs3 : waitsB .any ops o s3 = true) (hF0 : ∀ v w, F s0 v w → (kP t0).holds v w) (hF1 : ∀ v w, F s1 v w → (kP t1).holds v w) (hF2 : ∀ v w, F s2 v w → (kP t2).holds v w) (hF3 : ∀ v w, F s3 v w → (kP t3).holds v w)
    (hF : ∀ v w, (kL [t0, t1, t2, t3]).holds v w → F c v w) : StepAt Try.prog .any ops Q B Gr F a0 i o := by
  refine step_value hi hg fun a w hb hold hd => ?_
  obtain ⟨v0, e0, f0⟩ := (hd s0 hs0).eval
  obtain ⟨⟨o0, g0, n0, k0⟩, rfl, p0⟩ := hF0 _ _ f0
  obtain ⟨-, -, -, sa0, sc0, q0⟩ := p0.shape
  dsimp only at q0
  subst q0
  obtain ⟨v1, e1, f1⟩ := (hd s1 hs1).eval
  obtain ⟨⟨o1, g1, n1, k1⟩, rfl, p1⟩ := hF1 _ _ f1
  obtain ⟨-, -, -, sa1, sc1, q1⟩ := p1.shape
  dsimp only at q1
  subst q1
  obtain ⟨v2, e2, f2⟩ := (hd s2 hs2).eval
  obtain ⟨⟨o2, g2, n2, k2⟩, rfl, p2⟩ := hF2 _ _ f2
  obtain ⟨-, -, -, sa2, sc2, q2⟩ := p2.shape
  dsimp only at q2
  subst q2
  obtain ⟨v3, e3, f3⟩ := (hd s3 hs3).eval
  obtain ⟨⟨o3, g3, n3, k3⟩, rfl, p3⟩ := hF3 _ _ f3
  obtain ⟨-, -, -, sa3, sc3, q3⟩ := p3.shape
  dsimp only at q3
  subst q3
  refine ⟨_, _, ?_, (Below.refl _ w).alloc (Nat.le_refl _) _, dst_is hc (hF _ _ ⟨_, _, _, rfl, lit4 7 p0 p1 p2 p3⟩)⟩
  clear f0 p0 f1 p1 f2 p2 f3 p3
  replace e0 : a.tmps[s0]?.getD undef = _ := (by unfold Act.eval; simp : a.tmps[s0]?.getD undef = a.eval (.tmp s0)).trans e0
  replace e1 : a.tmps[s1]?.getD undef = _ := (by unfold Act.eval; simp : a.tmps[s1]?.getD undef = a.eval (.tmp s1)).trans e1
  replace e2 : a.tmps[s2]?.getD undef = _ := (by unfold Act.eval; simp : a.tmps[s2]?.getD undef = a.eval (.tmp s2)).trans e2
  replace e3 : a.tmps[s3]?.getD undef = _ := (by unfold Act.eval; simp : a.tmps[s3]?.getD undef = a.eval (.tmp s3)).trans e3
  simp only [execOp, ho]
  go_simp
theorem st_build5 (s0 s1 s2 s3 s4 : Nat) (t0 t1 t2 t3 t4 : Pl) (c : Nat) (hc : o.dst = some c) (hi : ops[i]? = some o)
    (hg : ∀ a w, Old ops a0 a → (∀ t, waitsB .any ops o t = true → Slot F a w t) → Region.wanted o (yielded ops a.tmps) = true)
    (ho : o.op = .buildSlice 28 5 #[(0, .tmp s0), (1, .tmp s1), (2, .tmp s2), (3, .tmp s3), (4, .tmp s4)]) (hs0 : waitsB .any ops o s0 = true) (hs1 : waitsB .any ops o s1 = true) (hs2 : waitsB .any ops o s2 = true) (hs3 : waitsB .any ops o s3 = true) (hs4 : waitsB .any ops o s4 = true) (hF0 : ∀ v w, F s0 v w → (kP t0).holds v w) (hF1 : ∀ v w, F s1 v w → (kP t1).holds v w) (hF2 : ∀ v w, F s2 v w → (kP t2).holds v w) (hF3 : ∀ v w, F s3 v w → (kP t3).holds v w) (hF4 : ∀ v w, F s4 v w → (kP t4).holds v w)
    (hF : ∀ v w, (kL [t0, t1, t2, t3, t4]).holds v w → F c v w) : StepAt Try.prog .any ops Q B Gr F a0 i o := by
  refine step_value hi hg fun a w hb hold hd => ?_
  obtain ⟨v0, e0, f0⟩ := (hd s0 hs0).eval
  obtain ⟨⟨o0, g0, n0, k0⟩, rfl, p0⟩ := hF0 _ _ f0
  obtain ⟨-, -, -, sa0, sc0, q0⟩ := p0.shape
  dsimp only at q0
  subst q0
  obtain ⟨v1, e1, f1⟩ := (hd s1 hs1).eval
  obtain ⟨⟨o1, g1, n1, k1⟩, rfl, p1⟩ := hF1 _ _ f1
  obtain ⟨-, -, -, sa1, sc1, q1⟩ := p1.shape
  dsimp only at q1
  subst q1
  obtain ⟨v2, e2, f2⟩ := (hd s2 hs2).eval
  obtain ⟨⟨o2, g2, n2, k2⟩, rfl, p2⟩ := hF2 _ _ f2
  obtain ⟨-, -, -, sa2, sc2, q2⟩ := p2.shape
  dsimp only at q2
  subst q2
  obtain ⟨v3, e3, f3⟩ := (hd s3 hs3).eval
  obtain ⟨⟨o3, g3, n3, k3⟩, rfl, p3⟩ := hF3 _ _ f3
  obtain ⟨-, -, -, sa3, sc3, q3⟩ := p3.shape
  dsimp only at q3
  subst q3
  obtain ⟨v4, e4, f4⟩ := (hd s4 hs4).eval
  obtain ⟨⟨o4, g4, n4, k4⟩, rfl, p4⟩ := hF4 _ _ f4
  obtain ⟨-, -, -, sa4, sc4, q4⟩ := p4.shape
  dsimp only at q4
  subst q4
  refine ⟨_, _, ?_, (Below.refl _ w).alloc (Nat.le_refl _) _, dst_is hc (hF _ _ ⟨_, _, _, rfl, lit5 7 p0 p1 p2 p3 p4⟩)⟩
  clear f0 p0 f1 p1 f2 p2 f3 p3 f4 p4
  replace e0 : a.tmps[s0]?.getD undef = _ := (by unfold Act.eval; simp : a.tmps[s0]?.getD undef = a.eval (.tmp s0)).trans e0
  replace e1 : a.tmps[s1]?.getD undef = _ := (by unfold Act.eval; simp : a.tmps[s1]?.getD undef = a.eval (.tmp s1)).trans e1
  replace e2 : a.tmps[s2]?.getD undef = _ := (by unfold Act.eval; simp : a.tmps[s2]?.getD undef = a.eval (.tmp s2)).trans e2
  replace e3 : a.tmps[s3]?.getD undef = _ := (by unfold Act.eval; simp : a.tmps[s3]?.getD undef = a.eval (.tmp s3)).trans e3
  replace e4 : a.tmps[s4]?.getD undef = _ := (by unfold Act.eval; simp : a.tmps[s4]?.getD undef = a.eval (.tmp s4)).trans e4
  simp only [execOp, ho]
  go_simp
theorem st_alike (st : List Nat) (sv : Value) (hm63 : st.length ≤ 9223372036854775807) (q : P8) (hq : Q8 q) (hst : ∀ w, B w → StAt w sv st) (s0 s1 s2 : Nat) (ps : List Pl) (hl : ps.length ≤ 100) (hf : ∀ p ∈ ps, FitA st p) (hch : Chain st q ps) (c : Nat) (hc : o.dst = some c) (hi : ops[i]? = some o)
    (hg : ∀ a w, Old ops a0 a → (∀ t, waitsB .any ops o t = true → Slot F a w t) → Region.wanted o (yielded ops a.tmps) = true)
    (ho : o.op = .call { callee := .value (.func 18), args := #[.tmp s0, .tmp s1, .tmp s2], argTypes := #[23, 26, 28] }) (hs0 : waitsB .any ops o s0 = true) (hs1 : waitsB .any ops o s1 = true) (hs2 : waitsB .any ops o s2 = true)
    (h0 : ∀ v w, F s0 v w → v = sv) (h1 : ∀ v w, F s1 v w → v = q.v) (h2 : ∀ v w, F s2 v w → (kL ps).holds v w) (hF : ∀ w, F c (.bool true) w) : StepAt Try.prog .any ops Q B Gr F a0 i o := by
  refine step_call 18 hi hg fun a w hb hold hd => ?_
  obtain ⟨v0, e0, f0⟩ := (hd s0 hs0).eval
  obtain ⟨v1, e1, f1⟩ := (hd s1 hs1).eval
  obtain ⟨v2, e2, f2⟩ := (hd s2 hs2).eval
  obtain rfl := h0 _ _ f0
  obtain rfl := h1 _ _ f1
  obtain ⟨sa, n, cc, rfl, hls⟩ := h2 _ _ f2
  refine ⟨#[v0, q.v, .slice sa n cc], ?_, ?_⟩
  · clear f0 f1 f2 hls
    replace e0 : a.tmps[s0]?.getD undef = _ := (by unfold Act.eval; simp : a.tmps[s0]?.getD undef = a.eval (.tmp s0)).trans e0
    replace e1 : a.tmps[s1]?.getD undef = _ := (by unfold Act.eval; simp : a.tmps[s1]?.getD undef = a.eval (.tmp s1)).trans e1
    replace e2 : a.tmps[s2]?.getD undef = _ := (by unfold Act.eval; simp : a.tmps[s2]?.getD undef = a.eval (.tmp s2)).trans e2
    simp only [execOp, ho]
    go_simp
  · refine (alike_any st v0 hm63 q hq ps _ w (hst w hb) hls hl hf hch).mono ?_
    rintro e w' ⟨rfl, hb'⟩
    exact ⟨_, rfl, hb', dst_is hc (hF _)⟩
end
end Go.Proofs.Ytipiepcbgjceaaa
/- What lies there while PolicyLaws goes on: three policies, id, drop, a packet, a state. -/
set_option linter.unusedVariables false
set_option linter.unusedSimpArgs false
namespace Go.Proofs.Ytipiepcbgjceaaa
open Go.RowKit Go.Joins Go.Sort

structure LS (w : World) (st : List Nat) (sv : Value) (a b c : Pl) (xa xb xc : Nd) (ga gb gc gi gd gq : Nat) (q : P8) (W : World) : Prop where
  bel : Below w.heap.size w W
  ra : W.heap[ga]? = some (pobj xa)
  pa : PolAt All W a xa
  rb : W.heap[gb]? = some (pobj xb)
  pb : PolAt All W b xb
  rc : W.heap[gc]? = some (pobj xc)
  pc : PolAt All W c xc
  ri : W.heap[gi]? = some (pobj ⟨1, 0, 0, .slice none 0 0⟩)
  rd : W.heap[gd]? = some (pobj ⟨0, 0, 0, .slice none 0 0⟩)
  rq : W.heap[gq]? = some (pobj8 q)
  st : StAt W sv st
theorem LS.below {w : World} {st : List Nat} {sv : Value} {a b c : Pl} {xa xb xc : Nd} {ga gb gc gi gd gq : Nat} {q : P8} {W W' : World} (h : LS w st sv a b c xa xb xc ga gb gc gi gd gq q W) (hb : Below W.heap.size W W') : LS w st sv a b c xa xb xc ga gb gc gi gd gq q W' :=
  ⟨h.bel.trans (hb.mono h.bel.size), (hb.block _ (heap_lt h.ra)).trans h.ra, h.pa.below hb, (hb.block _ (heap_lt h.rb)).trans h.rb, h.pb.below hb, (hb.block _ (heap_lt h.rc)).trans h.rc, h.pc.below hb, (hb.block _ (heap_lt h.ri)).trans h.ri, (hb.block _ (heap_lt h.rd)).trans h.rd, (hb.block _ (heap_lt h.rq)).trans h.rq, h.st.below hb⟩
theorem load4 {w : World} {g : Nat} (x : Nd) (h : w.heap[g]? = some (pobj x)) : (Instr.loadAt 30 (.pointer (some ⟨g, 0, none⟩))).run Try.prog w = .ok (nv x) w := by
  obtain ⟨a0, a1, a2, a3⟩ := row4 h
  go_simp
theorem load8 {w : World} {g : Nat} (q : P8) (h : w.heap[g]? = some (pobj8 q)) : (Instr.loadAt 26 (.pointer (some ⟨g, 0, none⟩))).run Try.prog w = .ok q.v w := by
  obtain ⟨⟨c0, c1, c2, c3, c4, c5, c6, c7⟩, -, -⟩ := row8 h
  go_simp
end Go.Proofs.Ytipiepcbgjceaaa
/- The steps of PolicyLaws' great region. -/
set_option linter.unusedVariables false
set_option linter.unusedSimpArgs false
namespace Go.Proofs.Ytipiepcbgjceaaa
open Go.RowKit Go.Joins Go.Sort

/-- What is known of each slot. -/
def lawKds (sv : Value) (q : P8) (a b c : Pl) : List Kd := [kT, kT, kT, kT, kT, kT, kV (.bool true), kT, kT, kT, kT, kT, kT, kT, kT, kT, kT, kT, kT, kT, kT, kT, kT, kT, kT, kT, kT, kT, kT, kT, kT, kT, kT, kT, kT, kT, kT, kT, kT, kT, kT, kT, kT, kT, kT, kT, kT, kT, kT, kT, kT, kV sv, kV q.v, kP a, kP b, kP c, kL [b, c], kP (sumP [b, c]), kL [a, (sumP [b, c])], kP (sumP [a, (sumP [b, c])]), kP a, kP b, kL [a, b], kP (sumP [a, b]), kP c, kL [(sumP [a, b]), c], kP (sumP [(sumP [a, b]), c]), kP a, kP b, kP c, kL [a, b, c], kP (sumP [a, b, c]), kP c, kP b, kP a, kL [c, b, a], kP (sumP [c, b, a]), kL [(sumP [a, (sumP [b, c])]), (sumP [(sumP [a, b]), c]), (sumP [a, b, c]), (sumP [c, b, a])], kV (.bool true), kV (.bool true), kV sv, kV q.v, kP a, kP b, kP c, kL [b, c], kP (seqP [b, c]), kL [a, (seqP [b, c])], kP (seqP [a, (seqP [b, c])]), kP a, kP b, kL [a, b], kP (seqP [a, b]), kP c, kL [(seqP [a, b]), c], kP (seqP [(seqP [a, b]), c]), kP a, kP b, kP c, kL [a, b, c], kP (seqP [a, b, c]), kL [(seqP [a, (seqP [b, c])]), (seqP [(seqP [a, b]), c]), (seqP [a, b, c])], kV (.bool true), kV (.bool true), kV (.bool true), kV sv, kV q.v, kP a, kP a, kL [a, a], kP (sumP [a, a]), kP a, kP a, kP nonePl, kL [a, nonePl], kP (sumP [a, nonePl]), kP a, kP idP, kL [a, idP], kP (seqP [a, idP]), kP idP, kP a, kL [idP, a], kP (seqP [idP, a]), kL [(sumP [a, a]), a, (sumP [a, nonePl]), (seqP [a, idP]), (seqP [idP, a])], kV (.bool true), kV (.bool true), kV (.bool true), kV sv, kV q.v, kP a, kP nonePl, kL [a, nonePl], kP (seqP [a, nonePl]), kP nonePl, kP a, kL [nonePl, a], kP (seqP [nonePl, a]), kP nonePl, kL [(seqP [a, nonePl]), (seqP [nonePl, a]), nonePl], kV (.bool true), kV (.bool true), kV (.bool true), kV sv, kV q.v, kP a, kP b, kP c, kL [b, c], kP (sumP [b, c]), kL [a, (sumP [b, c])], kP (seqP [a, (sumP [b, c])]), kP a, kP b, kL [a, b], kP (seqP [a, b]), kP a, kP c, kL [a, c], kP (seqP [a, c]), kL [(seqP [a, b]), (seqP [a, c])], kP (sumP [(seqP [a, b]), (seqP [a, c])]), kL [(seqP [a, (sumP [b, c])]), (sumP [(seqP [a, b]), (seqP [a, c])])], kV (.bool true), kV (.bool true), kV (.bool true), kV sv, kV q.v, kP a, kP b, kL [a, b], kP (sumP [a, b]), kP c, kL [(sumP [a, b]), c], kP (seqP [(sumP [a, b]), c]), kP a, kP c, kL [a, c], kP (seqP [a, c]), kP b, kP c, kL [b, c], kP (seqP [b, c]), kL [(seqP [a, c]), (seqP [b, c])], kP (sumP [(seqP [a, c]), (seqP [b, c])]), kL [(seqP [(sumP [a, b]), c]), (sumP [(seqP [a, c]), (seqP [b, c])])], kV (.bool true), kV (.bool true)]
end Go.Proofs.Ytipiepcbgjceaaa
