/- What stands in memory while the laws go on; policies that the laws ask about. -/
import Derived.Test.YtipiepcbgjceaaaJ3
import Derived.Test.YtipiepcbgjceaaaR9
set_option linter.unusedVariables false
set_option linter.unusedSimpArgs false
namespace Go.Proofs.Ytipiepcbgjceaaa
open Go.RowKit Go.Joins Go.Sort

/-- A predicate that is well formed, no greater than this. -/
structure PrdOK (n d : Nat) (T : Pl) : Prop where
  pred : predP T = true
  form : formP 4 T = true
  size : sizeP T ≤ n
  depth : depthP T ≤ d
  ok : okN T
theorem PrdOK.mono {n d n' d' : Nat} {T : Pl} (h : PrdOK n d T) (hn : n ≤ n') (hd : d ≤ d') : PrdOK n' d' T := ⟨h.pred, h.form, Nat.le_trans h.size hn, Nat.le_trans h.depth hd, h.ok⟩
theorem PrdOK.not {n d : Nat} {a : Pl} (h : PrdOK n d a) : PrdOK (n + 1) (d + 1) (notP a) := by
  obtain ⟨h1, h2, h3, h4, h5⟩ := h
  unfold notP
  refine ⟨by simp [predP, opB], ?_, ?_, ?_, ?_⟩
  · simp [formP_eq, formP.formL, nodeB, pred0, h1, h2]
  · rw [sizeP_mk]; simp [sizeP.sizeL]; omega
  · rw [depthP_mk]; simp [depthP.depthL]; omega
  · rw [okN]; simp [okN.okL, h5]
theorem PrdOK.sum {n d : Nat} {a b : Pl} (h : PrdOK n d a) (k : PrdOK n d b) : PrdOK (2 * n + 1) (d + 1) (sumP [a, b]) := by
  obtain ⟨h1, h2, h3, h4, h5⟩ := h
  obtain ⟨k1, k2, k3, k4, k5⟩ := k
  unfold sumP
  refine ⟨by simp [predP, predP.predL, opB, opM, h1, k1], ?_, ?_, ?_, ?_⟩
  · simp [formP_eq, formP.formL, nodeB, h2, k2]
  · rw [sizeP_mk]; simp [sizeP.sizeL]; omega
  · rw [depthP_mk]; simp [depthP.depthL]; omega
  · rw [okN]; simp [okN.okL, h5, k5]
theorem PrdOK.seq {n d : Nat} {a b : Pl} (h : PrdOK n d a) (k : PrdOK n d b) : PrdOK (2 * n + 1) (d + 1) (seqP [a, b]) := by
  obtain ⟨h1, h2, h3, h4, h5⟩ := h
  obtain ⟨k1, k2, k3, k4, k5⟩ := k
  unfold seqP
  refine ⟨by simp [predP, predP.predL, opB, opM, h1, k1], ?_, ?_, ?_, ?_⟩
  · simp [formP_eq, formP.formL, nodeB, h2, k2]
  · rw [sizeP_mk]; simp [sizeP.sizeL]; omega
  · rw [depthP_mk]; simp [depthP.depthL]; omega
  · rw [okN]; simp [okN.okL, h5, k5]
theorem prd_id : PrdOK 1 1 idP := by
  unfold idP
  exact ⟨by simp [predP, opB], by simp [formP_eq, formP.formL, nodeB], by simp [sizeP, sizeP.sizeL], by simp [depthP, depthP.depthL], by simp [okN, okN.okL]⟩
theorem prd_drop : PrdOK 1 1 nonePl := by
  unfold nonePl
  exact ⟨by simp [predP, opB], by simp [formP_eq, formP.formL, nodeB], by simp [sizeP, sizeP.sizeL], by simp [depthP, depthP.depthL], by simp [okN, okN.okL]⟩
theorem PrdOK.fit {n d : Nat} {T : Pl} (h : PrdOK n d T) (st : List Nat) (hn : n ≤ 300) (hd : d ≤ 20) : FitA st T := by
  have hok : okT T = true := (okT_iff T).2 ⟨by have := h.size; omega, by have := h.depth; omega, h.form⟩
  exact ⟨by have := h.size; omega, h.ok, hok, .inl (slim_pred _ (good_at hok h.ok) (at_pred st T h.pred))⟩
theorem PrdOK.lets {n d : Nat} {T : Pl} (h : PrdOK n d T) (st : List Nat) : Lets st T := lets_pred h.pred h.form
theorem fit_prd {T : Pl} (h : fitB T = true) (hp : predP T = true) (ho : okN T) : PrdOK 40 12 T := by
  unfold fitB at h
  simp only [Bool.and_eq_true, decide_eq_true_eq] at h
  exact ⟨hp, ((okT_iff T).1 h.1).2.2, h.2.1, h.2.2, ho⟩
theorem chain2 {st : List Nat} {q : P8} {a b : Pl} (h : Agree st q a b) : Chain st q [a, b] := fun k hk => by
  match k, hk with
  | 0, _ => exact h
theorem chain3 {st : List Nat} {q : P8} {a b c : Pl} (h : Agree st q a b) (k : Agree st q b c) : Chain st q [a, b, c] := fun i hi => by
  match i, hi with
  | 0, _ => exact h
  | 1, _ => exact k

/-- What lies there: two policies, id, drop, a packet, a state. -/
structure NS (w : World) (st : List Nat) (sv : Value) (a b : Pl) (xa xb : Nd) (ga gb gi gd gq : Nat) (q : P8) (W : World) : Prop where
  bel : Below w.heap.size w W
  ra : W.heap[ga]? = some (pobj xa)
  pa : PolAt All W a xa
  rb : W.heap[gb]? = some (pobj xb)
  pb : PolAt All W b xb
  ri : W.heap[gi]? = some (pobj ⟨1, 0, 0, .slice none 0 0⟩)
  rd : W.heap[gd]? = some (pobj ⟨0, 0, 0, .slice none 0 0⟩)
  rq : W.heap[gq]? = some (pobj8 q)
  st : StAt W sv st
theorem NS.below {w : World} {st : List Nat} {sv : Value} {a b : Pl} {xa xb : Nd} {ga gb gi gd gq : Nat} {q : P8} {W W' : World} (h : NS w st sv a b xa xb ga gb gi gd gq q W) (hb : Below W.heap.size W W') : NS w st sv a b xa xb ga gb gi gd gq q W' :=
  ⟨h.bel.trans (hb.mono h.bel.size), (hb.block _ (heap_lt h.ra)).trans h.ra, h.pa.below hb, (hb.block _ (heap_lt h.rb)).trans h.rb, h.pb.below hb, (hb.block _ (heap_lt h.ri)).trans h.ri, (hb.block _ (heap_lt h.rd)).trans h.rd, (hb.block _ (heap_lt h.rq)).trans h.rq, h.st.below hb⟩
end Go.Proofs.Ytipiepcbgjceaaa
